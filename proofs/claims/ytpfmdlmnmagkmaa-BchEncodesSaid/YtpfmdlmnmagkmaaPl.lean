/- Walks over the document's own answers for layer 2: Bits, List. -/
import Derived.Test.YtpfmdlmnmagkmaaPj
import Derived.Deep.OwnRows
namespace Go.Proofs.Ytpfmdlmnmagkmaa
open Go.RowKit Pm

theorem boolCells : (Try.prog.info? 4).map (fun i => (i.zero, i.size, i.bytes)) = some (some (.bool false), 1, 1) := by kernel_rfl
/-- a bit an exponent -/
def bitRow (P i : Nat) : Value := .bool (P.testBit i)
theorem bitRow_tog (P n : Nat) (hn : n ≤ 16384) (i : Nat) : bitRow (P ^^^ tog (n : Int)) i = if i = n then .bool (!(P.testBit n)) else bitRow P i := by
  have e : tog (n : Int) = 2 ^ n := by unfold tog; rw [if_pos (by omega), Int.toNat_natCast]
  unfold bitRow
  rw [e, Nat.testBit_xor, Nat.testBit_two_pow]
  by_cases h : i = n
  · subst h; rw [if_pos rfl]; simp
  · have f : decide (n = i) = false := by simp; omega
    rw [if_neg h, f]; simp

set_option maxRecDepth 20000 in
set_option maxHeartbeats 800000 in
theorem rBits_any (a : Option Addr) (len cap B : Nat) (xs : List Int) (w : World) (hr : Ints w B a len xs) (hB : B ≤ w.heap.size) (hm : len ≤ maxLen) :
    Calls Try.prog 51 #[.slice a len cap] w fun e w' => e = .returned (.slice (some ⟨w.heap.size, 0, none⟩) 16385 16385) ∧ w'.rowIs w.heap.size 4 16385 (bitRow (gat xs)) ∧ Upd noBlock w w' := by
  have hcap : len ≤ 9223372036854775807 := by unfold maxLen at hm; omega
  have Hlen := Lib.hid hr.1
  obtain ⟨O1, HO1, hm1⟩ : ∃ O : Obj, Hid (O = .cells (madeCells #[.bool false] 16385) 4) ∧ ∀ w : World, (Instr.makeSlice 73 (.int .i64 16385) (.int .i64 16385)).run Try.prog w = .ok (.slice (some ⟨w.heap.size, 0, none⟩) 16385 16385) (w.alloc O) :=
    ⟨_, rfl, run_make_row' (P := Try.prog) 73 4 (.bool false) 1 Try.underlying73 boolCells rfl .i64 .i64 16385 (by omega) (by omega)⟩
  have HU : Hid (Upd noBlock w (w.alloc O1)) := (Upd.refl noBlock w).alloc _
  have HR := Lib.hid (hr.grow HU.out hB)
  have HB : Hid ((w.alloc O1).rowIs w.heap.size 4 16385 (bitRow 0)) := by
    rw [HO1.out]
    exact (World.rowIs_made w (.bool false) 16385 4).congr (fun i _ => by simp [bitRow])
  clear hr HO1 hm
  go_enter Try.func51, Try.ntmps51
  go_wp2
  clear hm1
  go_loopw [4] (fun i wr => ∃ k : Nat, k ≤ len ∧ i = .int .i64 (k : Int) ∧ Hid (wr.rowIs w.heap.size 4 16385 (bitRow (gat (xs.take k)))) ∧ Hid (Ints wr B a len xs) ∧ Hid (Upd noBlock w wr)) (fun i _ => len - (intOf i).toNat)
  case atStart => exact ⟨0, Nat.zero_le _, rfl, HB, HR, HU⟩
  case round =>
    clear HB HR HU
    obtain ⟨k, hk, rfl, HB, HR, HU⟩ := hrel
    by_cases h0 : k < len
    · obtain ⟨g, off, rfl, hgB, hcell⟩ := HR.out.cell (by omega)
      have c1 := hcell k h0
      have hs := gat_take_succ xs k (by have := Hlen.out; omega)
      generalize xs.getD k 0 = z at c1 hs
      have HS := Lib.hid hs
      clear hs hcell
      by_cases h1 : 0 ≤ z
      · obtain ⟨n, rfl⟩ := Int.eq_ofNat_of_zero_le h1
        by_cases h2 : n ≤ 16384
        · have c2 : wr.cell? ⟨w.heap.size, n, none⟩ = some (.bool ((gat (xs.take k)).testBit n)) := HB.out.cell (i := n) (by omega)
          have f2 := HB.out.frozen n
          have hnot : ∀ (x : Bool) (w : World), (Op.unary .not (.bool x)).run Try.prog w = .ok (.bool (!x)) w := fun _ _ => rfl
          have HN : Hid ((wr.setCell ⟨w.heap.size, n, none⟩ (.bool (!(gat (xs.take k)).testBit n))).rowIs w.heap.size 4 16385 (bitRow (gat (xs.take (k + 1))))) :=
            (HB.out.set n _).congr (fun i _ => by rw [HS.out, bitRow_tog _ n h2 i])
          have HNU : Hid (Upd noBlock w (wr.setCell ⟨w.heap.size, n, none⟩ (.bool (!(gat (xs.take k)).testBit n)))) := HU.out.setCell (.inr (Nat.le_refl _)) _
          have HNR : Hid (Ints (wr.setCell ⟨w.heap.size, n, none⟩ (.bool (!(gat (xs.take k)).testBit n))) B (some ⟨g, off, none⟩) len xs) := HR.out.keep (fun g' _ hg' => Below.heap_setCell _ _ _ _ (by simp; omega))
          have nb : ¬ g = w.heap.size := by omega
          have nb2 : ¬ w.heap.size = g := by omega
          have t1 : decide ((n : Int) ≤ 16384) = true := decide_eq_true (by omega)
          have t2 : (n : Int) < 16385 := by omega
          generalize (gat (xs.take k)).testBit n = bt at c2 HN HNU HNR
          clear h1
          go_wp2
          go_region
          go_wp2
          go_roundw
          case rel => exact ⟨k + 1, by omega, by go_num, HN, HNR, HNU.out.drew⟩
          case measure => simp [intOf]; omega
        · have HS2 : Hid (gat (xs.take (k + 1)) = gat (xs.take k)) := by
            have h := HS.out
            have e : tog (n : Int) = 0 := by unfold tog; rw [if_neg (by omega)]
            rw [e, Nat.xor_zero] at h; exact h
          have h3 : (16384 : Int) < (n : Int) := by omega
          clear h2 HS
          go_wp2
          go_roundw
          case rel => exact ⟨k + 1, by omega, by go_num, by rw [HS2.out]; exact HB, HR, HU⟩
          case measure => simp [intOf]; omega
      · have HS2 : Hid (gat (xs.take (k + 1)) = gat (xs.take k)) := by
          have h := HS.out
          have e : tog z = 0 := by unfold tog; rw [if_neg (by omega)]
          rw [e, Nat.xor_zero] at h; exact h
        have h3 : z < 0 := by omega
        clear h1 HS
        go_wp2
        go_roundw
        case rel => exact ⟨k + 1, by omega, by go_num, by rw [HS2.out]; exact HB, HR, HU⟩
        case measure => simp [intOf]; omega
    · obtain rfl : k = len := by omega
      have ht : gat (xs.take k) = gat xs := by rw [List.take_of_length_le (by have := Hlen.out; omega)]
      rw [ht] at HB
      clear ht HR
      go_wp2
      go_ret
      exact ⟨rfl, HB.out, HU.out⟩

theorem exps_low (P k : Nat) (hk : k + 1 ≤ top) : exps (P % 2 ^ (k + 1)) = if P.testBit k then (k : Int) :: exps (P % 2 ^ k) else exps (P % 2 ^ k) := by
  rw [exps_mod P (k + 1) hk, exps_mod P k (by omega)]; rfl
theorem exps_all (P : Nat) (h : P < 2 ^ top) : exps (P % 2 ^ top) = exps P := by rw [Nat.mod_eq_of_lt h]
attribute [local irreducible] Pm.exps

set_option maxRecDepth 20000 in
set_option maxHeartbeats 1600000 in
theorem rList_any (g P : Nat) (w : World) (hb : w.rowIs g 4 16385 (bitRow P)) (hP : P < 2 ^ top) :
    Calls Try.prog 50 #[.slice (some ⟨g, 0, none⟩) 16385 16385] w fun e w' => ∃ v, e = .returned v ∧ PolyV w w' v P ∧ Upd noBlock w w' := by
  obtain ⟨i0, hi0, hz0, hz1, hz2⟩ := intParts2
  have HB := Lib.hid hb
  have hbs := hb.lt
  have HP := Lib.hid hP
  clear hb hP
  go_enter Try.func50, Try.ntmps50
  go_wp2
  go_loopw [3, 4] (fun v i wr => ∃ (k : Nat) (out : List Int), k ≤ 16385 ∧ i = .int .i64 ((k : Int) - 1) ∧ Hid (wr.ownsRow w.heap.size 3 1 v out.length (vals out)) ∧ Hid (out ++ exps (P % 2 ^ k) = exps P) ∧ Hid (Upd noBlock w wr)) (fun _ i _ => (intOf i + 1).toNat)
  case atStart =>
    exact ⟨top, [], by unfold top; omega, rfl, World.ownsRow_nil _ _ _ _, exps_all P HP.out, Upd.refl _ _⟩
  case round =>
    obtain ⟨k, out, hk, rfl, HO, HE, HU⟩ := hrel
    by_cases h0 : 0 < k
    · obtain ⟨i, rfl⟩ : ∃ i, k = i + 1 := ⟨k - 1, by omega⟩
      have e1 : ((i + 1 : Nat) : Int) - 1 = (i : Int) := by omega
      rw [e1]
      have hb2 := HB.out.of_block (HU.out.block g hbs (fun h => h))
      have c1 : wr.cell? ⟨g, i, none⟩ = some (.bool (P.testBit i)) := hb2.cell (i := i) (by omega)
      have hlow := exps_low P i (by unfold top; omega)
      have hi5 : i < 16385 := by omega
      have hl0 : out.length + 1 ≤ 99999 := by
        have h1 := congrArg List.length HE.out
        rw [List.length_append] at h1
        have h2 := exps_length P
        omega
      have HK := Lib.hid hk
      clear e1 hb2 hk
      by_cases hbit : P.testBit i = true
      · have HE2 : Hid ((out ++ [(i : Int)]) ++ exps (P % 2 ^ i) = exps P) := by
          have h := HE.out
          rw [hlow, if_pos hbit] at h
          show (out ++ [(i : Int)]) ++ exps (P % 2 ^ i) = exps P
          rw [List.append_assoc]; exact h
        rw [hbit] at c1
        have HIn : Hid (Ints (wr.alloc (.cells #[.int .i64 (i : Int)] 3)) (wr.heap.size + 1) (some ⟨wr.heap.size, 0, none⟩) 1 [(i : Int)]) :=
          ⟨rfl, fun _ => ⟨wr.heap.size, 0, rfl, by omega, fun j hj => by
            obtain rfl : j = 0 := by omega
            rw [cell_of (heap_alloc_new wr _)]; rfl⟩⟩
        have HO2 := Lib.hid (HO.out.alloc (.cells #[.int .i64 (i : Int)] 3))
        have HU2 := Lib.hid (HU.out.alloc (.cells #[.int .i64 (i : Int)] 3))
        have HL := Lib.hid hl0
        have hsz := HU.out.size
        clear HU HO HE hbit hlow hl0
        go_wp2_with (at_builtin; refine wpList_append_ints _ rfl (.tmp 16) (.tmp 18) _ rfl w.heap.size 3 i0 _ Try.underlying34 hi0 hz0 hz1 hz2 rfl _ out.length (vals out) rfl HO2.out (wr.heap.size + 1) (some ⟨wr.heap.size, 0, none⟩) 1 1 [(i : Int)] rfl HIn.out (by have := HL.out; simp only [maxLen]; omega) (by have := HL.out; omega) (by simp; omega) ?_; intro v3 w3 hown3 hg3 _)
        go_roundw
        case rel =>
          refine ⟨i, out ++ [(i : Int)], by omega, rfl, ?_, HE2, ?_⟩
          · have e : (out ++ [(i : Int)]).length = out.length + 1 := by simp
            have e2 : vals (out ++ [(i : Int)]) = vals out ++ vals [(i : Int)] := by simp [vals]
            rw [e, e2]
            exact hown3
          · exact HU2.out.grownOwn hg3 (fun k hk => (HO2.out.lt k hk).1)
        case measure => simp [intOf]
      · have hbf : P.testBit i = false := by simpa using hbit
        have HE2 : Hid (out ++ exps (P % 2 ^ i) = exps P) := by
          have h := HE.out
          rw [hlow, if_neg hbit] at h
          exact h
        rw [hbf] at c1
        clear HE hbit hlow hl0 hbf
        go_wp2
        go_roundw
        case rel => exact ⟨i, out, by omega, rfl, HO, HE2, HU⟩
        case measure => simp [intOf]
    · obtain rfl : k = 0 := by omega
      have e1 : ((0 : Nat) : Int) - 1 = -1 := by omega
      rw [e1]
      have hout : out = exps P := by
        have := HE.out
        rw [Nat.pow_zero, Nat.mod_one, exps_zero, List.append_nil] at this
        exact this
      subst hout
      go_wp2
      go_ret
      exact ⟨_, rfl, ⟨HO.out, HP.out⟩, HU.out⟩
end Go.Proofs.Ytpfmdlmnmagkmaa
