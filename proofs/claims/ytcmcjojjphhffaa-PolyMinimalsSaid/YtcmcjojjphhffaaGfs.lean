/- Walks over the document's own answers for layer 1: Exp, Eval. And how they agree with the calls. -/
import Derived.Test.YtcmcjojjphhffaaGfr
import Derived.Test.YtcmcjojjphhffaaGfe
namespace Go.Proofs.Ytcmcjojjphhffaa
open Go.RowKit Gfm

theorem low_lowR (a : Int) : lowR a = low a := rfl
theorem two_pow (n : Nat) : npow 2 n = pw n := by
  have h : (2 : Nat) = pw 1 := by decide
  rw [h, npow_pw, Nat.one_mul]

set_option maxRecDepth 100000 in
theorem rExp_any (n : Int) (w : World) :
    Calls Try.prog 23 #[.int .i64 n] w fun e w' => e = .returned (.int .i64 (pw (trn n) : Nat)) ∧ w = w' := by
  have l2 : npow (lowR 2) (trn n) = pw (trn n) := two_pow _
  have Hl := Lib.hid l2
  clear l2
  by_cases h0 : n.tmod 8191 < 0
  · have hv : n.tmod 8191 + 8191 = ((trn n : Nat) : Int) := by
      unfold trn
      have := tmod_cases n 8191
      omega
    have Hv := Lib.hid hv
    have b1 : -8191 < n.tmod 8191 := by have := tmod_cases n 8191; omega
    clear hv
    go_enter Try.func23, Try.ntmps23
    go_wp2_with (go_at_call 35; refine (rPow_any _ _ _ (by omega) (by omega)).mono ?_; rintro e w1 ⟨rfl, rfl⟩)
    go_ret
    refine ⟨?_, rfl⟩
    rw [Hv.out, Int.toNat_natCast, Hl.out]
    rfl
  · have hv : n.tmod 8191 = ((trn n : Nat) : Int) := by
      unfold trn
      have := tmod_cases n 8191
      omega
    have Hv := Lib.hid hv
    have b1 : n.tmod 8191 < 8191 := by have := tmod_cases n 8191; omega
    clear hv
    go_enter Try.func23, Try.ntmps23
    go_wp2_with (go_at_call 35; refine (rPow_any _ _ _ (by omega) (by omega)).mono ?_; rintro e w1 ⟨rfl, rfl⟩)
    go_ret
    refine ⟨?_, rfl⟩
    rw [Hv.out, Int.toNat_natCast, Hl.out]
    rfl

/-- the value, term by term -/
def sumE (x p : Nat) : List Int → Nat
  | [] => 0
  | c :: l => mul (low c) p ^^^ sumE x (mul p x) l
theorem sumE_lt (x p : Nat) (l : List Int) : sumE x p l < 8192 := by
  induction l generalizing p with
  | nil => simp [sumE]
  | cons c l ih => exact xor_lt _ _ (mul_lt _ _ (low_lt c)) (ih _)
theorem sumE_hor (x p : Nat) (l : List Int) (hx : x < 8192) (hp : p < 8192) : sumE x p l = mul (hor x l) p := by
  induction l generalizing p with
  | nil => simp [sumE, hor, zero_mul]
  | cons c l ih =>
    show mul (low c) p ^^^ sumE x (mul p x) l = mul (mul (hor x l) x ^^^ low c) p
    have hh := hor_lt x l
    rw [ih _ (mul_lt _ _ hp), xor_mul _ _ _ (mul_lt _ _ hh) (low_lt c), mul_assoc _ _ _ hh hx hp, mul_comm x p hx hp, Nat.xor_comm]
theorem sumE_step (x p v : Nat) (xs : List Int) (i : Nat) (h : i < xs.length) :
    v ^^^ sumE x p (xs.drop i) = (v ^^^ mul (low (xs.getD i 0)) p) ^^^ sumE x (mul p x) (xs.drop (i + 1)) := by
  rw [List.drop_eq_getElem_cons h]
  have e : xs[i] = xs.getD i 0 := by
    rw [List.getD_eq_getElem?_getD, List.getElem?_eq_getElem h]; rfl
  rw [e]
  show v ^^^ (mul (low (xs.getD i 0)) p ^^^ _) = _
  rw [Nat.xor_assoc]

/-! agreement -/
theorem invN_invR (a : Nat) (h : a < 8192) : invN a = invR a := by
  unfold invN invR
  by_cases h0 : a = 0
  · rw [if_pos h0, if_pos h0]
  · rw [if_neg h0, if_neg h0]
    have hp := pw_lg a (by omega) h
    have hl := lg_lt a
    have e : npow a 8190 = npow (pw (lg a)) 8190 := by rw [hp]
    rw [e, npow_pw]
    have e2 : lg a * 8190 + 8191 = (8191 - lg a) + 8191 * lg a := by omega
    rw [← pw_add (lg a * 8190), e2, pw_addk]
end Go.Proofs.Ytcmcjojjphhffaa
