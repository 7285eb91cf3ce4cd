import Derived.Test.YtnppjfaecnikpaaGreatDoorRGPh
import Derived.Deep.OwnRows
/- Walks over the document's own answers for layer 2: Bits, List. -/
namespace Go.Proofs.YtnppjfaecnikpaaGreatDoor
open Go.RowKit Pm

theorem boolCells : (Tryz.prog.info? 4).map (fun i => (i.zero, i.size, i.bytes)) = some (some (.bool false), 1, 1) := by kernel_rfl
/-- a bit an exponent -/
def bitRow (P i : Nat) : Value := .bool (P.testBit i)
theorem bitRow_tog (P n : Nat) (hn : n ≤ 16384) (i : Nat) : bitRow (P ^^^ tog (n : Int)) i = if i = n then .bool (!(P.testBit n)) else bitRow P i := by
  have e : tog (n : Int) = 2 ^ n := by unfold tog; rw [if_pos (by omega), Int.toNat_natCast]
  unfold bitRow
  rw [e, Nat.testBit_xor, Nat.testBit_two_pow]
  by_cases h : i = n
  · subst h; rw [if_pos rfl]; simp
  · have f : decide (n = i) = false := by simp; omega
    rw [if_neg h, f]; simp

set_option maxRecDepth 20000 in
set_option maxHeartbeats 800000 in
theorem rBits_any (a : Option Addr) (len cap B : Nat) (xs : List Int) (w : World) (hr : Ints w B a len xs) (hB : B ≤ w.heap.size) (hm : len ≤ maxLen) :
    Calls Tryz.prog 109 #[.slice a len cap] w fun e w' => e = .returned (.slice (some ⟨w.heap.size, 0, none⟩) 16385 16385) ∧ w'.rowIs w.heap.size 4 16385 (bitRow (gat xs)) ∧ Upd noBlock w w' := by
  have hcap : len ≤ 9223372036854775807 := by unfold maxLen at hm; omega
  have Hlen := Lib.hid hr.1
  obtain ⟨O1, HO1, hm1⟩ : ∃ O : Obj, Hid (O = .cells (madeCells #[.bool false] 16385) 4) ∧ ∀ w : World, (Instr.makeSlice 187 (.int .i64 16385) (.int .i64 16385)).run Tryz.prog w = .ok (.slice (some ⟨w.heap.size, 0, none⟩) 16385 16385) (w.alloc O) :=
    ⟨_, rfl, run_make_row' (P := Tryz.prog) 187 4 (.bool false) 1 Tryz.underlying187 boolCells rfl .i64 .i64 16385 (by omega) (by omega)⟩
  have HU : Hid (Upd noBlock w (w.alloc O1)) := (Upd.refl noBlock w).alloc _
  have HR := Lib.hid (hr.grow HU.out hB)
  have HB : Hid ((w.alloc O1).rowIs w.heap.size 4 16385 (bitRow 0)) := by
    rw [HO1.out]
    exact (World.rowIs_made w (.bool false) 16385 4).congr (fun i _ => by simp [bitRow])
  clear hr HO1 hm
  go_enter Tryz.func109, Tryz.ntmps109
  go_wp2
  clear hm1
  go_loopw [4] (fun i wr => ∃ k : Nat, k ≤ len ∧ i = .int .i64 (k : Int) ∧ Hid (wr.rowIs w.heap.size 4 16385 (bitRow (gat (xs.take k)))) ∧ Hid (Ints wr B a len xs) ∧ Hid (Upd noBlock w wr)) (fun i _ => len - (intOf i).toNat)
  case atStart => exact ⟨0, Nat.zero_le _, rfl, HB, HR, HU⟩
  case round =>
    clear HB HR HU
    obtain ⟨k, hk, rfl, HB, HR, HU⟩ := hrel
    by_cases h0 : k < len
    · obtain ⟨g, off, rfl, hgB, hcell⟩ := HR.out.cell (by omega)
      have c1 := hcell k h0
      have hs := gat_take_succ xs k (by have := Hlen.out; omega)
      generalize xs.getD k 0 = z at c1 hs
      have HS := Lib.hid hs
      clear hs hcell
      by_cases h1 : 0 ≤ z
      · obtain ⟨n, rfl⟩ := Int.eq_ofNat_of_zero_le h1
        by_cases h2 : n ≤ 16384
        · have c2 : wr.cell? ⟨w.heap.size, n, none⟩ = some (.bool ((gat (xs.take k)).testBit n)) := HB.out.cell (i := n) (by omega)
          have f2 := HB.out.frozen n
          have hnot : ∀ (x : Bool) (w : World), (Op.unary .not (.bool x)).run Tryz.prog w = .ok (.bool (!x)) w := fun _ _ => rfl
          have HN : Hid ((wr.setCell ⟨w.heap.size, n, none⟩ (.bool (!(gat (xs.take k)).testBit n))).rowIs w.heap.size 4 16385 (bitRow (gat (xs.take (k + 1))))) :=
            (HB.out.set n _).congr (fun i _ => by rw [HS.out, bitRow_tog _ n h2 i])
          have HNU : Hid (Upd noBlock w (wr.setCell ⟨w.heap.size, n, none⟩ (.bool (!(gat (xs.take k)).testBit n)))) := HU.out.setCell (.inr (Nat.le_refl _)) _
          have HNR : Hid (Ints (wr.setCell ⟨w.heap.size, n, none⟩ (.bool (!(gat (xs.take k)).testBit n))) B (some ⟨g, off, none⟩) len xs) := HR.out.keep (fun g' _ hg' => Below.heap_setCell _ _ _ _ (by simp; omega))
          have nb : ¬ g = w.heap.size := by omega
          have nb2 : ¬ w.heap.size = g := by omega
          have t1 : decide ((n : Int) ≤ 16384) = true := decide_eq_true (by omega)
          have t2 : (n : Int) < 16385 := by omega
          generalize (gat (xs.take k)).testBit n = bt at c2 HN HNU HNR
          clear h1
          go_wp2
          go_region
          go_wp2
          go_roundw
          case rel => exact ⟨k + 1, by omega, by go_num, HN, HNR, HNU.out.drew⟩
          case measure => simp [intOf]; omega
        · have HS2 : Hid (gat (xs.take (k + 1)) = gat (xs.take k)) := by
            have h := HS.out
            have e : tog (n : Int) = 0 := by unfold tog; rw [if_neg (by omega)]
            rw [e, Nat.xor_zero] at h; exact h
          have h3 : (16384 : Int) < (n : Int) := by omega
          clear h2 HS
          go_wp2
          go_roundw
          case rel => exact ⟨k + 1, by omega, by go_num, by rw [HS2.out]; exact HB, HR, HU⟩
          case measure => simp [intOf]; omega
      · have HS2 : Hid (gat (xs.take (k + 1)) = gat (xs.take k)) := by
          have h := HS.out
          have e : tog z = 0 := by unfold tog; rw [if_neg (by omega)]
          rw [e, Nat.xor_zero] at h; exact h
        have h3 : z < 0 := by omega
        clear h1 HS
        go_wp2
        go_roundw
        case rel => exact ⟨k + 1, by omega, by go_num, by rw [HS2.out]; exact HB, HR, HU⟩
        case measure => simp [intOf]; omega
    · obtain rfl : k = len := by omega
      have ht : gat (xs.take k) = gat xs := by rw [List.take_of_length_le (by have := Hlen.out; omega)]
      rw [ht] at HB
      clear ht HR
      go_wp2
      go_ret
      exact ⟨rfl, HB.out, HU.out⟩

theorem exps_low (P k : Nat) (hk : k + 1 ≤ top) : exps (P % 2 ^ (k + 1)) = if P.testBit k then (k : Int) :: exps (P % 2 ^ k) else exps (P % 2 ^ k) := by
  rw [exps_mod P (k + 1) hk, exps_mod P k (by omega)]; rfl
theorem exps_all (P : Nat) (h : P < 2 ^ top) : exps (P % 2 ^ top) = exps P := by rw [Nat.mod_eq_of_lt h]
attribute [local irreducible] Pm.exps

set_option maxRecDepth 20000 in
set_option maxHeartbeats 1600000 in
theorem rList_any (g P : Nat) (w : World) (hb : w.rowIs g 4 16385 (bitRow P)) (hP : P < 2 ^ top) :
    Calls Tryz.prog 108 #[.slice (some ⟨g, 0, none⟩) 16385 16385] w fun e w' => ∃ v, e = .returned v ∧ PolyV w w' v P ∧ Upd noBlock w w' := by
  obtain ⟨i0, hi0, hz0, hz1, hz2⟩ := intParts2
  have HB := Lib.hid hb
  have hbs := hb.lt
  have HP := Lib.hid hP
  clear hb hP
  go_enter Tryz.func108, Tryz.ntmps108
  go_wp2
  go_loopw [3, 4] (fun v i wr => ∃ (k : Nat) (out : List Int), k ≤ 16385 ∧ i = .int .i64 ((k : Int) - 1) ∧ Hid (wr.ownsRow w.heap.size 3 1 v out.length (vals out)) ∧ Hid (out ++ exps (P % 2 ^ k) = exps P) ∧ Hid (Upd noBlock w wr)) (fun _ i _ => (intOf i + 1).toNat)
  case atStart =>
    exact ⟨top, [], by unfold top; omega, rfl, World.ownsRow_nil _ _ _ _, exps_all P HP.out, Upd.refl _ _⟩
  case round =>
    obtain ⟨k, out, hk, rfl, HO, HE, HU⟩ := hrel
    by_cases h0 : 0 < k
    · obtain ⟨i, rfl⟩ : ∃ i, k = i + 1 := ⟨k - 1, by omega⟩
      have e1 : ((i + 1 : Nat) : Int) - 1 = (i : Int) := by omega
      rw [e1]
      have hb2 := HB.out.of_block (HU.out.block g hbs (fun h => h))
      have c1 : wr.cell? ⟨g, i, none⟩ = some (.bool (P.testBit i)) := hb2.cell (i := i) (by omega)
      have hlow := exps_low P i (by unfold top; omega)
      have hi5 : i < 16385 := by omega
      have hl0 : out.length + 1 ≤ 99999 := by
        have h1 := congrArg List.length HE.out
        rw [List.length_append] at h1
        have h2 := exps_length P
        omega
      have HK := Lib.hid hk
      clear e1 hb2 hk
      by_cases hbit : P.testBit i = true
      · have HE2 : Hid ((out ++ [(i : Int)]) ++ exps (P % 2 ^ i) = exps P) := by
          have h := HE.out
          rw [hlow, if_pos hbit] at h
          show (out ++ [(i : Int)]) ++ exps (P % 2 ^ i) = exps P
          rw [List.append_assoc]; exact h
        rw [hbit] at c1
        have HIn : Hid (Ints (wr.alloc (.cells #[.int .i64 (i : Int)] 3)) (wr.heap.size + 1) (some ⟨wr.heap.size, 0, none⟩) 1 [(i : Int)]) :=
          ⟨rfl, fun _ => ⟨wr.heap.size, 0, rfl, by omega, fun j hj => by
            obtain rfl : j = 0 := by omega
            rw [cell_of (heap_alloc_new wr _)]; rfl⟩⟩
        have HO2 := Lib.hid (HO.out.alloc (.cells #[.int .i64 (i : Int)] 3))
        have HU2 := Lib.hid (HU.out.alloc (.cells #[.int .i64 (i : Int)] 3))
        have HL := Lib.hid hl0
        have hsz := HU.out.size
        clear HU HO HE hbit hlow hl0
        go_wp2_with (at_builtin; refine wpList_append_ints _ rfl (.tmp 16) (.tmp 18) _ rfl w.heap.size 3 i0 _ Tryz.underlying59 hi0 hz0 hz1 hz2 rfl _ out.length (vals out) rfl HO2.out (wr.heap.size + 1) (some ⟨wr.heap.size, 0, none⟩) 1 1 [(i : Int)] rfl HIn.out (by have := HL.out; simp only [maxLen]; omega) (by have := HL.out; omega) (by simp; omega) ?_; intro v3 w3 hown3 hg3 _)
        go_roundw
        case rel =>
          refine ⟨i, out ++ [(i : Int)], by omega, rfl, ?_, HE2, ?_⟩
          · have e : (out ++ [(i : Int)]).length = out.length + 1 := by simp
            have e2 : vals (out ++ [(i : Int)]) = vals out ++ vals [(i : Int)] := by simp [vals]
            rw [e, e2]
            exact hown3
          · exact HU2.out.grownOwn hg3 (fun k hk => (HO2.out.lt k hk).1)
        case measure => simp [intOf]
      · have hbf : P.testBit i = false := by simpa using hbit
        have HE2 : Hid (out ++ exps (P % 2 ^ i) = exps P) := by
          have h := HE.out
          rw [hlow, if_neg hbit] at h
          exact h
        rw [hbf] at c1
        clear HE hbit hlow hl0 hbf
        go_wp2
        go_roundw
        case rel => exact ⟨i, out, by omega, rfl, HO, HE2, HU⟩
        case measure => simp [intOf]
    · obtain rfl : k = 0 := by omega
      have e1 : ((0 : Nat) : Int) - 1 = -1 := by omega
      rw [e1]
      have hout : out = exps P := by
        have := HE.out
        rw [Nat.pow_zero, Nat.mod_one, exps_zero, List.append_nil] at this
        exact this
      subst hout
      go_wp2
      go_ret
      exact ⟨_, rfl, ⟨HO.out, HP.out⟩, HU.out⟩
end Go.Proofs.YtnppjfaecnikpaaGreatDoor

/- Walks over the document's own answers for layer 2: Mul. -/
namespace Go.Proofs.YtnppjfaecnikpaaGreatDoor
open Go.RowKit Pm

theorem gat_shift (l : List Int) (k n : Nat) (h : k < l.length) (he : 0 ≤ l.getD k 0 ∧ l.getD k 0 + n ≤ 16384) :
    gat (l.take (k + 1)) * 2 ^ n = gat (l.take k) * 2 ^ n ^^^ tog (((l.getD k 0).toNat + n : Nat) : Int) := by
  rw [gat_take_succ l k h, xor_mul_pow]
  have e1 : tog (l.getD k 0) = 2 ^ (l.getD k 0).toNat := tog_ok _ (by omega)
  have e2 : tog (((l.getD k 0).toNat + n : Nat) : Int) = 2 ^ ((l.getD k 0).toNat + n) := by rw [tog_ok _ (by omega), Int.toNat_natCast]
  rw [e1, e2, Nat.pow_add]
attribute [local irreducible] Pm.exps

set_option maxRecDepth 20000 in
set_option maxHeartbeats 1600000 in
theorem rMul2_ok (a : Option Addr) (len cap B : Nat) (xs : List Int) (a' : Option Addr) (len' cap' B' : Nat) (ys : List Int) (w : World) (hr : Ints w B a len xs) (hB : B ≤ w.heap.size) (hm : len ≤ maxLen)
    (hr' : Ints w B' a' len' ys) (hB' : B' ≤ w.heap.size) (hm' : len' ≤ maxLen) (s t : Nat) (hs1 : 2 ^ s ≤ gat xs) (hs2 : gat xs < 2 ^ (s + 1)) (ht1 : 2 ^ t ≤ gat ys) (ht2 : gat ys < 2 ^ (t + 1)) (hst : s + t ≤ 16384) :
    Calls Tryz.prog 81 #[.slice a len cap, .slice a' len' cap'] w fun e w' => ∃ v, e = .returned (.tuple #[v, .bool true]) ∧ PolyV w w' v (pmul (gat xs) (gat ys)) ∧ Upd noBlock w w' := by
  have HR := Lib.hid hr
  have HR' := Lib.hid hr'
  have HP : Hid (pmul (gat xs) (gat ys) < 2 ^ top) := Nat.lt_of_lt_of_le (pmul_deg _ _ s t hs1 hs2 ht1 ht2 hst).2 (Nat.pow_le_pow_right (by omega) (by unfold top; omega))
  have HX := Lib.hid (exps_top (gat xs) s hs1 hs2 (by omega))
  have HY := Lib.hid (exps_top (gat ys) t ht1 ht2 (by omega))
  have HMX : Hid (∀ e ∈ exps (gat xs), 0 ≤ e ∧ e ≤ s) := fun e he => exps_mem e _ s he hs2 (by omega)
  have HMY : Hid (∀ e ∈ exps (gat ys), 0 ≤ e ∧ e ≤ t) := fun e he => exps_mem e _ t he ht2 (by omega)
  have t3 : decide ((16384 : Int) < (s : Int) + (t : Int)) = false := decide_eq_false (by omega)
  have t4 : IntKind.i64.wrap ((s : Int) + (t : Int)) = (s : Int) + (t : Int) := IntWalk.i64_in _ (by omega)
  have HST := Lib.hid hst
  obtain ⟨O1, HO1, hm1⟩ : ∃ O : Obj, Hid (O = .cells (madeCells #[.bool false] 16385) 4) ∧ ∀ w : World, (Instr.makeSlice 187 (.int .i64 16385) (.int .i64 16385)).run Tryz.prog w = .ok (.slice (some ⟨w.heap.size, 0, none⟩) 16385 16385) (w.alloc O) :=
    ⟨_, rfl, run_make_row' (P := Tryz.prog) 187 4 (.bool false) 1 Tryz.underlying187 boolCells rfl .i64 .i64 16385 (by omega) (by omega)⟩
  clear hr hr' hs1 ht1 ht2 hs2 hst
  go_enter Tryz.func81, Tryz.ntmps81
  go_wp2_with fail
  refine (rBits_any a len cap B xs _ HR.out hB hm).mono ?_
  rintro e w1 ⟨rfl, hb1, hu1⟩
  have HB1 := Lib.hid hb1
  have HU1 := Lib.hid hu1
  clear hb1 hu1
  go_wp2_with fail
  refine (rList_any w.heap.size (gat xs) _ HB1.out (gat_lt xs)).mono ?_
  rintro e w2 ⟨v2, rfl, hv2, hu2⟩
  have HU2 := Lib.hid (HU1.out.trans hu2)
  obtain ⟨p2, c2, rfl, hi2, m2, _⟩ := own_ints hv2.1
  have HI2 := Lib.hid hi2
  clear hu2 hv2 hi2 HB1 HU1
  go_wp2_with fail
  refine (rBits_any a' len' cap' B' ys _ (HR'.out.grow HU2.out hB') (Nat.le_trans hB' HU2.out.size) hm').mono ?_
  rintro e w3 ⟨rfl, hb3, hu3⟩
  have HB3 := Lib.hid hb3
  have HU3 := Lib.hid (HU2.out.trans hu3)
  have HI3 := Lib.hid ((HI2.out.grow hu3 (Nat.le_refl _)).more hu3.size)
  clear hb3 hu3 HU2 HI2
  go_wp2_with fail
  refine (rList_any w2.heap.size (gat ys) _ HB3.out (gat_lt ys)).mono ?_
  rintro e w4 ⟨v4, rfl, hv4, hu4⟩
  have HU4 := Lib.hid (HU3.out.trans hu4)
  obtain ⟨p4, c4, rfl, hi4, m4, _⟩ := own_ints hv4.1
  have HJ4 := Lib.hid hi4
  have HI4 := Lib.hid ((HI3.out.grow hu4 (Nat.le_refl _)).more hu4.size)
  clear hu4 hv4 hi4 HB3 HU3 HI3
  obtain ⟨g1, o1, rfl, _, hc1⟩ := HI4.out.cell (by rw [HX.out]; simp)
  obtain ⟨g2, o2, rfl, _, hc2⟩ := HJ4.out.cell (by rw [HY.out]; simp)
  have d1 : w4.cell? ⟨g1, o1, none⟩ = some (.int .i64 (s : Int)) := by have := hc1 0 (by rw [HX.out]; simp); rw [HX.out] at this; exact this
  have d2 : w4.cell? ⟨g2, o2, none⟩ = some (.int .i64 (t : Int)) := by have := hc2 0 (by rw [HY.out]; simp); rw [HY.out] at this; exact this
  have hl1 : 0 < (exps (gat xs)).length := by rw [HX.out]; simp
  have hl2 : 0 < (exps (gat ys)).length := by rw [HY.out]; simp
  clear hc1 hc2
  generalize hn1 : (exps (gat xs)).length = n1 at *
  generalize hn2 : (exps (gat ys)).length = n2 at *
  have HN1 := Lib.hid hn1
  have HN2 := Lib.hid hn2
  clear hn1 hn2
  have t1 : ((n1 : Int) == 0) = false := beq_eq_false_iff_ne.2 (by omega)
  have t2 : ((n2 : Int) == 0) = false := beq_eq_false_iff_ne.2 (by omega)
  have hn1 : n1 ≤ 9223372036854775807 := by unfold maxLen at m2; omega
  have hn2 : n2 ≤ 9223372036854775807 := by unfold maxLen at m4; omega
  clear m2 m4
  go_wp2_with fail
  go_quiet (fail)
  go_wp2_with fail
  have HB : Hid (((w4.drewN nq).alloc O1).rowIs w4.heap.size 4 16385 (bitRow (cm ((exps (gat xs)).take 0) (gat ys)))) := by
    rw [HO1.out]
    exact (World.rowIs_made (w4.drewN nq) (.bool false) 16385 4).congr (fun i _ => by simp [bitRow, cm])
  have hu5 : Upd noBlock w4 ((w4.drewN nq).alloc O1) := ((Upd.refl noBlock w4).drewN nq).alloc _
  have HI5 := Lib.hid (HI4.out.grow hu5 (Nat.le_refl _))
  have HJ5 := Lib.hid (HJ4.out.grow hu5 (Nat.le_refl _))
  have HU5 := Lib.hid (HU4.out.trans hu5)
  have hs4 := HU4.out.size
  have hgx : ∀ k, k < n1 → 0 ≤ (exps (gat xs)).getD k 0 ∧ (exps (gat xs)).getD k 0 ≤ s := fun k hk => by
    have hl : k < (exps (gat xs)).length := by rw [HN1.out]; exact hk
    have e : (exps (gat xs)).getD k 0 = (exps (gat xs))[k] := by rw [List.getD_eq_getElem?_getD, List.getElem?_eq_getElem hl]; rfl
    rw [e]; exact HMX.out _ (List.getElem_mem hl)
  have hgy : ∀ k, k < n2 → 0 ≤ (exps (gat ys)).getD k 0 ∧ (exps (gat ys)).getD k 0 ≤ t := fun k hk => by
    have hl : k < (exps (gat ys)).length := by rw [HN2.out]; exact hk
    have e : (exps (gat ys)).getD k 0 = (exps (gat ys))[k] := by rw [List.getD_eq_getElem?_getD, List.getElem?_eq_getElem hl]; rfl
    rw [e]; exact HMY.out _ (List.getElem_mem hl)
  have HGX := Lib.hid hgx
  have HGY := Lib.hid hgy
  clear hgx hgy hu5 HI4 HJ4 HU4 t3 t4 hm1 d1 d2 HMX HMY HO1
  go_loopw [9] (fun i wr => ∃ k : Nat, k ≤ n1 ∧ i = .int .i64 (k : Int) ∧ Hid (wr.rowIs w4.heap.size 4 16385 (bitRow (cm ((exps (gat xs)).take k) (gat ys)))) ∧ Hid (Ints wr w4.heap.size (some ⟨g1, o1, none⟩) n1 (exps (gat xs))) ∧ Hid (Ints wr w4.heap.size (some ⟨g2, o2, none⟩) n2 (exps (gat ys))) ∧ Hid (Upd noBlock w wr)) (fun i _ => n1 - (intOf i).toNat)
  case atStart => exact ⟨0, Nat.zero_le _, rfl, HB, HI5, HJ5, HU5⟩
  case round =>
    clear HB HI5 HJ5 HU5
    obtain ⟨k, hk, rfl, HB, HI, HJ, HU⟩ := hrel
    by_cases h0 : k < n1
    · have hkx := HGX.out k h0
      have hstep := cm_take (exps (gat xs)) (gat ys) k (by rw [HN1.out]; exact h0)
      obtain ⟨n, Hn⟩ : ∃ n : Nat, Hid ((exps (gat xs)).getD k 0 = (n : Int)) := by
        obtain ⟨n, hn⟩ := Int.eq_ofNat_of_zero_le hkx.1
        exact ⟨n, hn⟩
      rw [Hn.out] at hkx hstep
      rw [Int.toNat_natCast] at hstep
      have HS := Lib.hid hstep
      have hns : n ≤ s := by omega
      clear hstep hkx
      have HB0 : Hid (wr.rowIs w4.heap.size 4 16385 (bitRow (cm ((exps (gat xs)).take k) (gat ys) ^^^ gat ((exps (gat ys)).take 0) * 2 ^ n))) := by
        have e : cm ((exps (gat xs)).take k) (gat ys) ^^^ gat ((exps (gat ys)).take 0) * 2 ^ n = cm ((exps (gat xs)).take k) (gat ys) := by simp [gat]
        rw [e]; exact HB.out
      go_wp2
      obtain ⟨wo, rfl⟩ : ∃ wo : World, wo = wr := ⟨_, rfl⟩
      go_loopw [10] (fun j wr => ∃ m : Nat, m ≤ n2 ∧ j = .int .i64 (m : Int) ∧ Hid (wr.rowIs w4.heap.size 4 16385 (bitRow (cm ((exps (gat xs)).take k) (gat ys) ^^^ gat ((exps (gat ys)).take m) * 2 ^ n))) ∧ Hid (Ints wr w4.heap.size (some ⟨g1, o1, none⟩) n1 (exps (gat xs))) ∧ Hid (Ints wr w4.heap.size (some ⟨g2, o2, none⟩) n2 (exps (gat ys))) ∧ Hid (Upd noBlock w wr)) (fun j _ => n2 - (intOf j).toNat)
      case atStart => exact ⟨0, Nat.zero_le _, rfl, HB0, HI, HJ, HU⟩
      case round =>
        clear HB0 HB HI HJ HU
        obtain ⟨m, hm, rfl, HB, HI, HJ, HU⟩ := hrel
        by_cases hj : m < n2
        · obtain ⟨g', o', hgo, hgl1, hcell1⟩ := HI.out.cell (by omega)
          obtain ⟨rfl, rfl⟩ : g1 = g' ∧ o1 = o' := by simpa using hgo
          obtain ⟨g'', o'', hgo2, hgl2, hcell2⟩ := HJ.out.cell (by omega)
          obtain ⟨rfl, rfl⟩ : g2 = g'' ∧ o2 = o'' := by simpa using hgo2
          have c1 := hcell1 k h0
          have c2 := hcell2 m hj
          have hqy := HGY.out m hj
          have hsh := gat_shift (exps (gat ys)) m n (by rw [HN2.out]; exact hj) (by have := HST.out; omega)
          rw [Hn.out] at c1
          generalize (exps (gat ys)).getD m 0 = z at c2 hqy hsh
          obtain ⟨q, rfl⟩ := Int.eq_ofNat_of_zero_le hqy.1
          rw [Int.toNat_natCast] at hsh
          have hnq : q + n ≤ 16384 := by have := HST.out; omega
          have c3 : wr.cell? ⟨w4.heap.size, n + q, none⟩ = some (.bool ((cm ((exps (gat xs)).take k) (gat ys) ^^^ gat ((exps (gat ys)).take m) * 2 ^ n).testBit (n + q))) := HB.out.cell (i := n + q) (by omega)
          have f3 := HB.out.frozen (n + q)
          have hnot : ∀ (x : Bool) (w : World), (Op.unary .not (.bool x)).run Tryz.prog w = .ok (.bool (!x)) w := fun _ _ => rfl
          have HN : Hid ((wr.setCell ⟨w4.heap.size, n + q, none⟩ (.bool (!(cm ((exps (gat xs)).take k) (gat ys) ^^^ gat ((exps (gat ys)).take m) * 2 ^ n).testBit (n + q)))).rowIs w4.heap.size 4 16385 (bitRow (cm ((exps (gat xs)).take k) (gat ys) ^^^ gat ((exps (gat ys)).take (m + 1)) * 2 ^ n))) :=
            (HB.out.set (n + q) _).congr (fun i _ => by
              have e : q + n = n + q := Nat.add_comm q n
              rw [hsh, ← Nat.xor_assoc, e, bitRow_tog _ (n + q) (by omega) i])
          generalize (cm ((exps (gat xs)).take k) (gat ys) ^^^ gat ((exps (gat ys)).take m) * 2 ^ n).testBit (n + q) = bt at c3 HN
          have HNU : Hid (Upd noBlock w (wr.setCell ⟨w4.heap.size, n + q, none⟩ (.bool (!bt)))) := HU.out.setCell (.inr hs4) _
          have HNI : Hid (Ints (wr.setCell ⟨w4.heap.size, n + q, none⟩ (.bool (!bt))) w4.heap.size (some ⟨g1, o1, none⟩) n1 (exps (gat xs))) := HI.out.keep (fun g' _ hg' => Below.heap_setCell _ _ _ _ (by simp; omega))
          have HNJ : Hid (Ints (wr.setCell ⟨w4.heap.size, n + q, none⟩ (.bool (!bt))) w4.heap.size (some ⟨g2, o2, none⟩) n2 (exps (gat ys))) := HJ.out.keep (fun g' _ hg' => Below.heap_setCell _ _ _ _ (by simp; omega))
          have b1 : ¬ g1 = w4.heap.size := by omega
          have b2 : ¬ w4.heap.size = g1 := by omega
          have b3 : ¬ g2 = w4.heap.size := by omega
          have b4 : ¬ w4.heap.size = g2 := by omega
          have hn9 : n < 99999 := by omega
          have hq9 : q < 99999 := by omega
          have hnq2 : (n : Int) + (q : Int) < 16385 := by omega
          clear hsh hnq hqy hcell1 hcell2 hgo hgo2 hns
          go_wp2
          go_region
          go_wp2
          go_roundw
          case rel => exact ⟨m + 1, by omega, by go_num, HN, HNI, HNJ, HNU.out.drew⟩
          case measure => simp [intOf]; omega
        · obtain rfl : m = n2 := by omega
          have HB2 : Hid (wr.rowIs w4.heap.size 4 16385 (bitRow (cm ((exps (gat xs)).take (k + 1)) (gat ys)))) := by
            have h := HB.out
            have e : (exps (gat ys)).take m = exps (gat ys) := List.take_of_length_le (by have := HN2.out; omega)
            rw [e, gat_exps _ (gat_lt ys), ← HS.out] at h
            exact h
          clear HB
          go_wp2
          go_roundw
          case rel => exact ⟨k + 1, by omega, by go_num, HB2, HI, HJ, HU⟩
          case measure => simp [intOf]; omega
    · obtain rfl : k = n1 := by omega
      have HB2 : Hid (wr.rowIs w4.heap.size 4 16385 (bitRow (pmul (gat xs) (gat ys)))) := by
        have h := HB.out
        rw [List.take_of_length_le (by have := HN1.out; omega)] at h
        exact h
      clear HB HI HJ
      go_wp2_with fail
      refine (rList_any w4.heap.size _ _ HB2.out HP.out).mono ?_
      rintro e w5 ⟨v, rfl, hv, hu⟩
      have HV : Hid (PolyV w w5 v (pmul (gat xs) (gat ys))) := ⟨own_more hv.1 HU.out.size, hv.2⟩
      have HU6 := Lib.hid (HU.out.trans hu)
      clear hv hu
      go_wp2_with fail
      go_ret2
      exact ⟨_, rfl, HV.out, HU6.out⟩
end Go.Proofs.YtnppjfaecnikpaaGreatDoor

/- The document's Mul where nothing or too much comes out; the law PolyProducts, walked. -/
namespace Go.Proofs.YtnppjfaecnikpaaGreatDoor
open Go.RowKit Pm
attribute [local irreducible] Pm.exps pmul

end Go.Proofs.YtnppjfaecnikpaaGreatDoor
