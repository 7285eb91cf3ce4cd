/- Walks over the document's own answers for layer 2: Mod. -/
import Derived.Test.YtcmcjojjphhffaaPn
import Derived.Test.YtcmcjojjphhffaaPk
namespace Go.Proofs.Ytcmcjojjphhffaa
open Go.RowKit Pm
attribute [local irreducible] Pm.exps rm pmod pmul

set_option maxRecDepth 20000 in
set_option maxHeartbeats 800000 in
theorem rMod2_zero (a : Option Addr) (len cap B : Nat) (xs : List Int) (a' : Option Addr) (len' cap' B' : Nat) (ys : List Int) (w : World) (hr : Ints w B a len xs) (hB : B ≤ w.heap.size) (hm : len ≤ maxLen)
    (hr' : Ints w B' a' len' ys) (hB' : B' ≤ w.heap.size) (hm' : len' ≤ maxLen) (hz : gat ys = 0) :
    Calls Try.prog 17 #[.slice a len cap, .slice a' len' cap'] w fun e w' => e = .returned (.tuple #[.slice none 0 0, .bool false]) ∧ Upd noBlock w w' := by
  have HR := Lib.hid hr
  have HR' := Lib.hid hr'
  have HL : Hid ((exps (gat ys)).length = 0) := by rw [hz, exps_zero]; exact rfl
  clear hr hr' hz
  go_enter Try.func17, Try.ntmps17
  go_wp2_with fail
  refine (rBits_any a len cap B xs _ HR.out hB hm).mono ?_
  rintro e w1 ⟨rfl, hb1, hu1⟩
  have HU1 := Lib.hid hu1
  clear hb1 hu1
  go_wp2_with fail
  refine (rBits_any a' len' cap' B' ys _ (HR'.out.grow HU1.out hB') (Nat.le_trans hB' HU1.out.size) hm').mono ?_
  rintro e w3 ⟨rfl, hb3, hu3⟩
  have HB3 := Lib.hid hb3
  have HU3 := Lib.hid (HU1.out.trans hu3)
  clear hb3 hu3 HU1
  go_wp2_with fail
  refine (rList_any w1.heap.size (gat ys) _ HB3.out (gat_lt ys)).mono ?_
  rintro e w4 ⟨v4, rfl, hv4, hu4⟩
  have HU4 := Lib.hid (HU3.out.trans hu4)
  obtain ⟨p4, c4, rfl, hi4, m4, _⟩ := own_ints hv4.1
  clear hu4 hv4 hi4 HB3 HU3
  rw [HL.out]
  go_wp2_with fail
  go_ret2
  exact ⟨rfl, HU4.out⟩

set_option maxRecDepth 20000 in
set_option maxHeartbeats 1600000 in
theorem rMod2_ok (a : Option Addr) (len cap B : Nat) (xs : List Int) (a' : Option Addr) (len' cap' B' : Nat) (ys : List Int) (w : World) (hr : Ints w B a len xs) (hB : B ≤ w.heap.size) (hm : len ≤ maxLen)
    (hr' : Ints w B' a' len' ys) (hB' : B' ≤ w.heap.size) (hm' : len' ≤ maxLen) (t : Nat) (ht1 : 2 ^ t ≤ gat ys) (ht2 : gat ys < 2 ^ (t + 1)) (ht : t ≤ 16384) :
    Calls Try.prog 17 #[.slice a len cap, .slice a' len' cap'] w fun e w' => ∃ v, e = .returned (.tuple #[v, .bool true]) ∧ PolyV w w' v (pmod (gat xs) (gat ys) t) ∧ Upd noBlock w w' := by
  have HR := Lib.hid hr
  have HR' := Lib.hid hr'
  have HP : Hid (pmod (gat xs) (gat ys) t < 2 ^ top) := pmod_lt _ _ _ ht2 ht (gat_lt xs)
  have HY := Lib.hid (exps_top (gat ys) t ht1 ht2 ht)
  have HMY : Hid (∀ e ∈ exps (gat ys), 0 ≤ e ∧ e ≤ t) := fun e he => exps_mem e _ t he ht2 ht
  have HT := Lib.hid ht
  clear hr hr' ht1 ht2 ht
  go_enter Try.func17, Try.ntmps17
  go_wp2_with fail
  refine (rBits_any a len cap B xs _ HR.out hB hm).mono ?_
  rintro e w1 ⟨rfl, hb1, hu1⟩
  have HB1 := Lib.hid hb1
  have HU1 := Lib.hid hu1
  clear hb1 hu1
  go_wp2_with fail
  refine (rBits_any a' len' cap' B' ys _ (HR'.out.grow HU1.out hB') (Nat.le_trans hB' HU1.out.size) hm').mono ?_
  rintro e w3 ⟨rfl, hb3, hu3⟩
  have HB3 := Lib.hid hb3
  have HA3 := Lib.hid (HB1.out.of_block (hu3.block w.heap.size HB1.out.lt (fun h => h)))
  have HU3 := Lib.hid (HU1.out.trans hu3)
  have hsz3 := hu3.size
  have hsz1 := HB1.out.lt
  clear hb3 hu3 HU1 HB1
  go_wp2_with fail
  refine (rList_any w1.heap.size (gat ys) _ HB3.out (gat_lt ys)).mono ?_
  rintro e w4 ⟨v4, rfl, hv4, hu4⟩
  have HU4 := Lib.hid (HU3.out.trans hu4)
  have HA4 := Lib.hid (HA3.out.of_block (hu4.block w.heap.size HA3.out.lt (fun h => h)))
  obtain ⟨p4, c4, rfl, hi4, m4, hb4⟩ := own_ints hv4.1
  have hl2 : 0 < (exps (gat ys)).length := by rw [HY.out]; simp
  obtain ⟨g2, o2, rfl, hg2, hc2⟩ := hi4.cell hl2
  have hgw := (hb4 g2 rfl).1
  have HJ4 := Lib.hid hi4
  clear hu4 hv4 hi4 hb4 HB3 HU3 HA3 hc2
  generalize hn2 : (exps (gat ys)).length = n2 at *
  have HN2 := Lib.hid hn2
  clear hn2
  have t2 : ((n2 : Int) == 0) = false := beq_eq_false_iff_ne.2 (by omega)
  have hn22 : n2 ≤ 9223372036854775807 := by unfold maxLen at m4; omega
  clear m4
  have hgy : ∀ k, k < n2 → 0 ≤ (exps (gat ys)).getD k 0 ∧ (exps (gat ys)).getD k 0 ≤ t := fun k hk => by
    have hl : k < (exps (gat ys)).length := by rw [HN2.out]; exact hk
    have e : (exps (gat ys)).getD k 0 = (exps (gat ys))[k] := by rw [List.getD_eq_getElem?_getD, List.getElem?_eq_getElem hl]; rfl
    rw [e]; exact HMY.out _ (List.getElem_mem hl)
  have HGY := Lib.hid hgy
  have HK : Hid (∀ wr : World, Ints wr w4.heap.size (some ⟨g2, o2, none⟩) n2 (exps (gat ys)) → wr.cell? ⟨g2, o2, none⟩ = some (.int .i64 (t : Int))) := fun wr hi => by
    obtain ⟨g', o', hgo, _, hcell⟩ := hi.cell hl2
    obtain ⟨rfl, rfl⟩ : g2 = g' ∧ o2 = o' := by simpa using hgo
    have := hcell 0 hl2
    rw [HY.out] at this; exact this
  have HGW : Hid (¬ g2 = w.heap.size) := by show ¬ _; omega
  have hsz4 : w.heap.size ≤ w.heap.size := Nat.le_refl _
  clear HMY HR HR' hgy hgw hsz4 hsz3
  go_wp2_with fail
  go_loopw [8, 9] (fun i _ wr => ∃ (n R : Nat), n ≤ 16385 - t ∧ i = .int .i64 ((t : Int) + (n : Int) - 1) ∧ Hid (wr.rowIs w.heap.size 4 16385 (bitRow R)) ∧ Hid (rm (gat ys) t n R = pmod (gat xs) (gat ys) t) ∧ Hid (Ints wr w4.heap.size (some ⟨g2, o2, none⟩) n2 (exps (gat ys))) ∧ Hid (Upd noBlock w wr)) (fun i _ _ => (intOf i + 1).toNat)
  case atStart => exact ⟨16385 - t, gat xs, Nat.le_refl _, by have := HT.out; exact congrArg (Value.int .i64) (by omega), HA4, pmod_def _ _ _, HJ4, HU4⟩
  case round =>
    clear HA4 HJ4 HU4
    obtain ⟨n, R, hn, rfl, HC, HE, HI, HU⟩ := hrel
    have c0 := HK.out wr HI.out
    have HN := Lib.hid hn
    clear hn
    by_cases h0 : 0 < n
    · obtain ⟨k, rfl⟩ : ∃ k, n = k + 1 := ⟨n - 1, by omega⟩
      have e1 : (t : Int) + ((k + 1 : Nat) : Int) - 1 = ((t + k : Nat) : Int) := by omega
      rw [e1]
      have hb1 : Hid (t + k ≤ 16384) := by have := HN.out; have := HT.out; show t + k ≤ 16384; omega
      obtain ⟨x, Hx⟩ : ∃ x, Hid (t + k = x) := ⟨_, rfl⟩
      have hxt : t ≤ x := by rw [← Hx.out]; omega
      have hx2 : x < 16385 := by rw [← Hx.out]; have := hb1.out; omega
      have hge : decide ((t : Int) ≤ (x : Int)) = true := by simp; omega
      rw [Hx.out]
      clear e1
      have c1 : wr.cell? ⟨w.heap.size, x, none⟩ = some (.bool (R.testBit x)) := HC.out.cell (i := x) hx2
      have HX2 := Lib.hid hx2
      have hx9 : (x : Int) < 16385 := by omega
      by_cases hb : R.testBit x = true
      · have HE2 : Hid (rm (gat ys) t k (R ^^^ gat ys * 2 ^ k) = pmod (gat xs) (gat ys) t) := by
          have h : rm (gat ys) t k (if R.testBit (t + k) then R ^^^ gat ys * 2 ^ k else R) = pmod (gat xs) (gat ys) t := (rm_succ _ _ _ _).symm.trans HE.out
          rw [Hx.out, if_pos hb] at h; exact h
        have HC0 : Hid (wr.rowIs w.heap.size 4 16385 (bitRow (R ^^^ gat ((exps (gat ys)).take 0) * 2 ^ k))) := by
          have e : R ^^^ gat ((exps (gat ys)).take 0) * 2 ^ k = R := by simp [gat]
          rw [e]; exact HC.out
        rw [hb] at c1
        clear hb HE
        go_wp2
        clear c1 c0
        obtain ⟨wo, rfl⟩ : ∃ wo : World, wo = wr := ⟨_, rfl⟩
        go_loopw [9] (fun j wr => ∃ m : Nat, m ≤ n2 ∧ j = .int .i64 (m : Int) ∧ Hid (wr.rowIs w.heap.size 4 16385 (bitRow (R ^^^ gat ((exps (gat ys)).take m) * 2 ^ k))) ∧ Hid (Ints wr w4.heap.size (some ⟨g2, o2, none⟩) n2 (exps (gat ys))) ∧ Hid (Upd noBlock w wr)) (fun j _ => n2 - (intOf j).toNat)
        case atStart => exact ⟨0, Nat.zero_le _, rfl, HC0, HI, HU⟩
        case round =>
          clear HC0 HC HI HU
          obtain ⟨m, hm, rfl, HB, HJ, HU⟩ := hrel
          by_cases hj : m < n2
          · have c0 := HK.out wr HJ.out
            obtain ⟨g'', o'', hgo2, hgl2, hcell2⟩ := HJ.out.cell (by omega)
            obtain ⟨rfl, rfl⟩ : g2 = g'' ∧ o2 = o'' := by simpa using hgo2
            have c2 := hcell2 m hj
            have hqy := HGY.out m hj
            have hsh := gat_shift (exps (gat ys)) m k (by rw [HN2.out]; exact hj) (by have := hb1.out; omega)
            generalize (exps (gat ys)).getD m 0 = z at c2 hqy hsh
            obtain ⟨q, rfl⟩ := Int.eq_ofNat_of_zero_le hqy.1
            rw [Int.toNat_natCast] at hsh
            have hnq : q + k ≤ 16384 := by have := hb1.out; omega
            have c3 : wr.cell? ⟨w.heap.size, k + q, none⟩ = some (.bool ((R ^^^ gat ((exps (gat ys)).take m) * 2 ^ k).testBit (k + q))) := HB.out.cell (i := k + q) (by omega)
            have f3 := HB.out.frozen (k + q)
            have hnot : ∀ (x : Bool) (w : World), (Op.unary .not (.bool x)).run Try.prog w = .ok (.bool (!x)) w := fun _ _ => rfl
            have HN3 : Hid ((wr.setCell ⟨w.heap.size, k + q, none⟩ (.bool (!(R ^^^ gat ((exps (gat ys)).take m) * 2 ^ k).testBit (k + q)))).rowIs w.heap.size 4 16385 (bitRow (R ^^^ gat ((exps (gat ys)).take (m + 1)) * 2 ^ k))) :=
              (HB.out.set (k + q) _).congr (fun i _ => by
                have e : q + k = k + q := Nat.add_comm q k
                rw [hsh, ← Nat.xor_assoc, e, bitRow_tog _ (k + q) (by omega) i])
            generalize (R ^^^ gat ((exps (gat ys)).take m) * 2 ^ k).testBit (k + q) = bt at c3 HN3
            have HNU : Hid (Upd noBlock w (wr.setCell ⟨w.heap.size, k + q, none⟩ (.bool (!bt)))) := HU.out.setCell (.inr (Nat.le_refl _)) _
            have HNJ : Hid (Ints (wr.setCell ⟨w.heap.size, k + q, none⟩ (.bool (!bt))) w4.heap.size (some ⟨g2, o2, none⟩) n2 (exps (gat ys))) := HJ.out.keep (fun g' hg _ => Below.heap_setCell _ _ _ _ (by
              have e : g2 = g' := by simpa using hg
              subst e
              exact HGW.out))
            have b3 : ¬ g2 = w.heap.size := HGW.out
            have b4 : ¬ w.heap.size = g2 := Ne.symm HGW.out
            have hsub : (x : Int) - (t : Int) = (k : Int) := by have := Hx.out; omega
            have hk9 : k < 99999 := by omega
            have hq9 : q < 99999 := by omega
            have hnq2 : (k : Int) + (q : Int) < 16385 := by omega
            clear hsh hnq hqy hcell2 hgo2
            go_wp2
            go_region
            go_wp2
            go_roundw
            case rel => exact ⟨m + 1, by omega, by go_num, HN3, HNJ, HNU.out.drew⟩
            case measure => simp [intOf]; omega
          · obtain rfl : m = n2 := by omega
            have HB2 : Hid (wr.rowIs w.heap.size 4 16385 (bitRow (R ^^^ gat ys * 2 ^ k))) := by
              have h := HB.out
              have e : (exps (gat ys)).take m = exps (gat ys) := List.take_of_length_le (by have := HN2.out; omega)
              rw [e, gat_exps _ (gat_lt ys)] at h
              exact h
            clear HB
            go_wp2
            go_roundw
            case rel => exact ⟨k, _, by have := HN.out; omega, by have := Hx.out; exact congrArg (Value.int .i64) (by omega), HB2, HE2, HJ, HU⟩
            case measure => simp [intOf]
      · have HE2 : Hid (rm (gat ys) t k R = pmod (gat xs) (gat ys) t) := by
          have h : rm (gat ys) t k (if R.testBit (t + k) then R ^^^ gat ys * 2 ^ k else R) = pmod (gat xs) (gat ys) t := (rm_succ _ _ _ _).symm.trans HE.out
          rw [Hx.out, if_neg hb] at h; exact h
        have hbf : R.testBit x = false := by simpa using hb
        rw [hbf] at c1
        clear hb hbf HE
        go_wp2
        go_roundw
        case rel => exact ⟨k, _, by have := HN.out; omega, by have := Hx.out; exact congrArg (Value.int .i64) (by omega), HC, HE2, HI, HU⟩
        case measure => simp [intOf]
    · obtain rfl : n = 0 := by omega
      have e : R = pmod (gat xs) (gat ys) t := (rm_zero _ _ _).symm.trans HE.out
      subst e
      have e1 : (t : Int) + ((0 : Nat) : Int) - 1 = (t : Int) - 1 := by omega
      rw [e1]
      have t9 : decide ((t : Int) ≤ (t : Int) - 1) = false := decide_eq_false (by omega)
      have t8 : (t : Int) ≤ 99999 := by have := HT.out; omega
      clear e1
      clear HE HI
      go_wp2_with fail
      refine (rList_any w.heap.size _ _ HC.out HP.out).mono ?_
      rintro e w5 ⟨v, rfl, hv, hu⟩
      have HV : Hid (PolyV w w5 v (pmod (gat xs) (gat ys) t)) := ⟨own_more hv.1 HU.out.size, hv.2⟩
      have HU6 := Lib.hid (HU.out.trans hu)
      clear hv hu
      go_wp2_with fail
      go_ret2
      exact ⟨_, rfl, HV.out, HU6.out⟩
end Go.Proofs.Ytcmcjojjphhffaa
