/- The laws of layer 1, walked: powers, logarithms, rules, squares. -/
import Derived.Test.YtfahibnbfinibaaGfx
import Derived.OpenShut
namespace Go.Proofs.Ytfahibnbfinibaa
open Go.RowKit Gfm

theorem pw_trn (x : Nat) : pw (trn (x : Int)) = pw x := by
  have : trn (x : Int) = x % 8191 := by unfold trn; omega
  rw [this, pw_mod]
theorem npow_zero_pos (n : Nat) (h : 0 < n) : npow 0 n = 0 := by
  obtain ⟨m, rfl⟩ : ∃ m, n = m + 1 := ⟨n - 1, by omega⟩
  rw [npow, mul_zero]
theorem trn_nat (n : Int) (h : 0 ≤ n) : trn n = n.toNat % 8191 := by unfold trn; omega
theorem pw_mul_mod (x y : Nat) : pw (x * (y % 8191)) = pw (x * y) := by
  have e : x * y = x * (y % 8191) + 8191 * (x * (y / 8191)) := by
    have := Nat.mod_add_div y 8191
    calc x * y = x * (y % 8191 + 8191 * (y / 8191)) := by rw [this]
      _ = x * (y % 8191) + 8191 * (x * (y / 8191)) := by rw [Nat.mul_add, ← Nat.mul_assoc, Nat.mul_comm x 8191, Nat.mul_assoc]
  rw [e, pw_addk]
theorem powN_pos (a : Nat) (n : Int) (h : 0 < n) (ha : a < 8192) : powN a n = npow a n.toNat := by
  unfold powN
  rw [if_neg (by omega)]
  by_cases h0 : a = 0
  · rw [if_pos h0, h0, npow_zero_pos _ (by omega)]
  · rw [if_neg h0, ← Int.natCast_mul, pw_trn, trn_nat n (by omega), pw_mul_mod, ← npow_pw, pw_lg a (by omega) ha]
theorem neg_mul_mod (l r : Nat) (hl : l ≤ 8191) (hr : r ≤ 8191) : pw ((8191 - l) * r) = pw (l * (8191 - r)) := by
  have e1 : (8191 - l) * r + l * r = 8191 * r := by rw [← Nat.add_mul]; congr 1; omega
  have e2 : l * (8191 - r) + l * r = l * 8191 := by rw [← Nat.mul_add]; congr 1; omega
  have e3 : (8191 - l) * r + 8191 * l = l * (8191 - r) + 8191 * r := by
    generalize (8191 - l) * r = A at *
    generalize l * (8191 - r) = B at *
    generalize l * r = C at *
    omega
  rw [← pw_addk _ l, e3, pw_addk]
theorem powN_neg (a : Nat) (n : Int) (h : n < 0) (h0 : a ≠ 0) : powN a n = npow (invN a) (-(n.tmod 8191)).toNat := by
  have ht := tmod_cases n 8191
  obtain ⟨r, hr, hr2⟩ : ∃ r : Nat, (-(n.tmod 8191)).toNat = r ∧ (r : Int) = (-n) % 8191 := ⟨_, rfl, by omega⟩
  have hl := lg_lt a
  rw [hr]
  unfold powN invN
  rw [if_neg (by omega), if_neg h0, if_neg h0, npow_pw, ← Int.natCast_mul, pw_trn]
  have e : trn n = (8191 - r) % 8191 := by unfold trn; omega
  rw [e, pw_mul_mod]
  exact (neg_mul_mod (lg a) r (by omega) (by omega)).symm

/-- what GfPowers holds the power against -/
theorem invN_lt (a : Nat) : invN a < 8192 := by
  unfold invN; split
  · omega
  · exact pw_lt _
theorem low_nat (a : Nat) (h : a < 8192) : low (a : Int) = a := by unfold low; omega
theorem rPow_low (a n : Int) (w : World) (hn : 0 ≤ n) (hn2 : n ≤ 9223372036854775807) :
    Calls Try.prog 22 #[.int .i64 a, .int .i64 n] w fun e w' => e = .returned (.int .i64 (npow (low a) n.toNat : Nat)) ∧ w = w' := rPow_any a n w hn hn2

set_option maxRecDepth 100000 in
set_option maxHeartbeats 1600000 in
theorem gfPowers_walk (a n : Int) (w : World) (_wa : (Lit.int .i64 a).wf = true) (wn : (Lit.int .i64 n).wf = true) :
    Calls Try.prog 4 #[.int .i64 a, .int .i64 n] w fun e w' => e = .returned (.bool true) ∧ Below w.heap.size w w' := by
  have hnot : ∀ (x : Bool) (w : World), (Op.unary .not (.bool x)).run Try.prog w = .ok (.bool (!x)) w := fun _ _ => rfl
  have hb := bounds_i64 wn
  clear wn
  by_cases hp : 0 < n
  · have HV := Lib.hid (powN_pos (low a) n hp (low_lt a))
    go_enter Try.func4, Try.ntmps4
    go_wp2_with fail
    refine (speaks_any _).mono ?_
    rintro e w1 ⟨rfl, HU0⟩
    have HF := Lib.hid (fresh_new w1)
    have HU := Lib.hid (HU0.alloc (.cells #[.int .u32 0, .int .i32 0, .int .u32 0, .slice none 0 0, .slice none 0 0, .int .i64 0] 40))
    have hsz := HU0.size
    clear HU0
    go_wp2_with fail
    refine (rPow_low a n _ (by omega) (by omega)).mono ?_
    rintro e w' ⟨rfl, rfl⟩
    go_wp2_with fail
    refine (pow_any w1.heap.size 0 a n _ HF.out).mono ?_
    rintro e w3 ⟨rfl, F3, U3⟩
    have HF3 := Lib.hid F3
    have HU3 := Lib.hid (HU.out.new U3 hsz)
    clear F3 U3 HF HU
    rw [HV.out]
    go_wp2_with fail
    refine (exp_any w1.heap.size 0 n _ HF3.out).mono ?_
    rintro e w4 ⟨rfl, R4, U4⟩
    have HF4 := Lib.hid R4.fld
    have HU4 := Lib.hid (HU3.out.new U4 hsz)
    clear R4 U4 HF3 HU3
    go_wp2_with fail
    refine (rExp_any n _).mono ?_
    rintro e w' ⟨rfl, rfl⟩
    go_wp2_with fail
    refine (products_any w1.heap.size _ _ HF4.out).mono ?_
    rintro e w' ⟨rfl, rfl⟩
    go_wp2_with fail
    go_ret
    exact ⟨rfl, HU4.out.ends⟩
  · by_cases hz : n = 0
    · subst hz
      have HV : Hid (powN (low a) 0 = 1) := rfl
      go_enter Try.func4, Try.ntmps4
      go_wp2_with fail
      refine (speaks_any _).mono ?_
      rintro e w1 ⟨rfl, HU0⟩
      have HF := Lib.hid (fresh_new w1)
      have HU := Lib.hid (HU0.alloc (.cells #[.int .u32 0, .int .i32 0, .int .u32 0, .slice none 0 0, .slice none 0 0, .int .i64 0] 40))
      have hsz := HU0.size
      clear HU0
      go_wp2_with fail
      refine (pow_any w1.heap.size 0 a 0 _ HF.out).mono ?_
      rintro e w3 ⟨rfl, F3, U3⟩
      have HF3 := Lib.hid F3
      have HU3 := Lib.hid (HU.out.new U3 hsz)
      clear F3 U3 HF HU
      rw [HV.out]
      go_wp2_with fail
      refine (exp_any w1.heap.size 0 0 _ HF3.out).mono ?_
      rintro e w4 ⟨rfl, R4, U4⟩
      have HF4 := Lib.hid R4.fld
      have HU4 := Lib.hid (HU3.out.new U4 hsz)
      clear R4 U4 HF3 HU3
      go_wp2_with fail
      refine (rExp_any 0 _).mono ?_
      rintro e w' ⟨rfl, rfl⟩
      go_wp2_with fail
      refine (products_any w1.heap.size _ _ HF4.out).mono ?_
      rintro e w' ⟨rfl, rfl⟩
      go_wp2_with fail
      go_ret
      exact ⟨rfl, HU4.out.ends⟩
    · have hneg : n < 0 := by omega
      have ht := tmod_cases n 8191
      have ht2 : -8191 < n.tmod 8191 ∧ n.tmod 8191 ≤ 0 := by omega
      obtain ⟨ht3, ht4⟩ := ht2
      clear ht hz
      by_cases ha : low a = 0
      · have HV : Hid (powN (low a) n = 0) := by
          unfold powN; rw [if_neg (by omega), if_pos ha]; exact rfl
        have HA := Lib.hid ha
        clear ha
        go_enter Try.func4, Try.ntmps4
        go_wp2_with fail
        refine (speaks_any _).mono ?_
        rintro e w1 ⟨rfl, HU0⟩
        have HF := Lib.hid (fresh_new w1)
        have HU := Lib.hid (HU0.alloc (.cells #[.int .u32 0, .int .i32 0, .int .u32 0, .slice none 0 0, .slice none 0 0, .int .i64 0] 40))
        have hsz := HU0.size
        clear HU0
        go_wp2_with fail
        refine (rInv_low a _).mono ?_
        rintro e w' ⟨rfl, rfl⟩
        go_wp2_with fail
        refine (rPow_low _ _ _ (by omega) (by omega)).mono ?_
        rintro e w' ⟨rfl, rfl⟩
        go_wp2_with fail
        refine (rLow_low a _).mono ?_
        rintro e w' ⟨rfl, rfl⟩
        rw [HA.out]
        go_wp2_with fail
        refine (pow_any w1.heap.size 0 a n _ HF.out).mono ?_
        rintro e w3 ⟨rfl, F3, U3⟩
        have HF3 := Lib.hid F3
        have HU3 := Lib.hid (HU.out.new U3 hsz)
        clear F3 U3 HF HU
        rw [HV.out]
        go_wp2_with fail
        refine (exp_any w1.heap.size 0 n _ HF3.out).mono ?_
        rintro e w4 ⟨rfl, R4, U4⟩
        have HF4 := Lib.hid R4.fld
        have HU4 := Lib.hid (HU3.out.new U4 hsz)
        clear R4 U4 HF3 HU3
        go_wp2_with fail
        refine (rExp_any n _).mono ?_
        rintro e w' ⟨rfl, rfl⟩
        go_wp2_with fail
        refine (products_any w1.heap.size _ _ HF4.out).mono ?_
        rintro e w' ⟨rfl, rfl⟩
        go_wp2_with fail
        go_ret
        exact ⟨rfl, HU4.out.ends⟩
      · have HV : Hid (powN (low a) n = npow (low (invN (low a) : Nat)) (-(n.tmod 8191)).toNat) := by
          rw [low_nat _ (invN_lt _)]; exact powN_neg (low a) n hneg ha
        have HT : (((low a : Nat) : Int) == 0) = false := beq_eq_false_iff_ne.2 (by omega)
        clear ha
        go_enter Try.func4, Try.ntmps4
        go_wp2_with fail
        refine (speaks_any _).mono ?_
        rintro e w1 ⟨rfl, HU0⟩
        have HF := Lib.hid (fresh_new w1)
        have HU := Lib.hid (HU0.alloc (.cells #[.int .u32 0, .int .i32 0, .int .u32 0, .slice none 0 0, .slice none 0 0, .int .i64 0] 40))
        have hsz := HU0.size
        clear HU0
        go_wp2_with fail
        refine (rInv_low a _).mono ?_
        rintro e w' ⟨rfl, rfl⟩
        go_wp2_with fail
        refine (rPow_low _ _ _ (by omega) (by omega)).mono ?_
        rintro e w' ⟨rfl, rfl⟩
        go_wp2_with fail
        refine (rLow_low a _).mono ?_
        rintro e w' ⟨rfl, rfl⟩
        go_wp2_with fail
        refine (pow_any w1.heap.size 0 a n _ HF.out).mono ?_
        rintro e w3 ⟨rfl, F3, U3⟩
        have HF3 := Lib.hid F3
        have HU3 := Lib.hid (HU.out.new U3 hsz)
        clear F3 U3 HF HU
        rw [HV.out]
        go_wp2_with fail
        refine (exp_any w1.heap.size 0 n _ HF3.out).mono ?_
        rintro e w4 ⟨rfl, R4, U4⟩
        have HF4 := Lib.hid R4.fld
        have HU4 := Lib.hid (HU3.out.new U4 hsz)
        clear R4 U4 HF3 HU3
        go_wp2_with fail
        refine (rExp_any n _).mono ?_
        rintro e w' ⟨rfl, rfl⟩
        go_wp2_with fail
        refine (products_any w1.heap.size _ _ HF4.out).mono ?_
        rintro e w' ⟨rfl, rfl⟩
        go_wp2_with fail
        go_ret
        exact ⟨rfl, HU4.out.ends⟩
end Go.Proofs.Ytfahibnbfinibaa
