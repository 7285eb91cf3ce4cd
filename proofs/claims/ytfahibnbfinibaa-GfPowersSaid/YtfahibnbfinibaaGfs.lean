/- Walks over the document's own answers for layer 1: Exp, Eval. And how they agree with the calls. -/
import Derived.Test.YtfahibnbfinibaaGfr
import Derived.Test.YtfahibnbfinibaaGfe
namespace Go.Proofs.Ytfahibnbfinibaa
open Go.RowKit Gfm

theorem low_lowR (a : Int) : lowR a = low a := rfl
theorem two_pow (n : Nat) : npow 2 n = pw n := by
  have h : (2 : Nat) = pw 1 := by decide
  rw [h, npow_pw, Nat.one_mul]

set_option maxRecDepth 100000 in
theorem rExp_any (n : Int) (w : World) :
    Calls Try.prog 25 #[.int .i64 n] w fun e w' => e = .returned (.int .i64 (pw (trn n) : Nat)) ∧ w = w' := by
  have l2 : npow (lowR 2) (trn n) = pw (trn n) := two_pow _
  have Hl := Lib.hid l2
  clear l2
  by_cases h0 : n.tmod 8191 < 0
  · have hv : n.tmod 8191 + 8191 = ((trn n : Nat) : Int) := by
      unfold trn
      have := tmod_cases n 8191
      omega
    have Hv := Lib.hid hv
    have b1 : -8191 < n.tmod 8191 := by have := tmod_cases n 8191; omega
    clear hv
    go_enter Try.func25, Try.ntmps25
    go_wp2_with (go_at_call 22; refine (rPow_any _ _ _ (by omega) (by omega)).mono ?_; rintro e w1 ⟨rfl, rfl⟩)
    go_ret
    refine ⟨?_, rfl⟩
    rw [Hv.out, Int.toNat_natCast, Hl.out]
    rfl
  · have hv : n.tmod 8191 = ((trn n : Nat) : Int) := by
      unfold trn
      have := tmod_cases n 8191
      omega
    have Hv := Lib.hid hv
    have b1 : n.tmod 8191 < 8191 := by have := tmod_cases n 8191; omega
    clear hv
    go_enter Try.func25, Try.ntmps25
    go_wp2_with (go_at_call 22; refine (rPow_any _ _ _ (by omega) (by omega)).mono ?_; rintro e w1 ⟨rfl, rfl⟩)
    go_ret
    refine ⟨?_, rfl⟩
    rw [Hv.out, Int.toNat_natCast, Hl.out]
    rfl

/-- the value, term by term -/
def sumE (x p : Nat) : List Int → Nat
  | [] => 0
  | c :: l => mul (low c) p ^^^ sumE x (mul p x) l
theorem sumE_lt (x p : Nat) (l : List Int) : sumE x p l < 8192 := by
  induction l generalizing p with
  | nil => simp [sumE]
  | cons c l ih => exact xor_lt _ _ (mul_lt _ _ (low_lt c)) (ih _)
theorem sumE_hor (x p : Nat) (l : List Int) (hx : x < 8192) (hp : p < 8192) : sumE x p l = mul (hor x l) p := by
  induction l generalizing p with
  | nil => simp [sumE, hor, zero_mul]
  | cons c l ih =>
    show mul (low c) p ^^^ sumE x (mul p x) l = mul (mul (hor x l) x ^^^ low c) p
    have hh := hor_lt x l
    rw [ih _ (mul_lt _ _ hp), xor_mul _ _ _ (mul_lt _ _ hh) (low_lt c), mul_assoc _ _ _ hh hx hp, mul_comm x p hx hp, Nat.xor_comm]
theorem sumE_step (x p v : Nat) (xs : List Int) (i : Nat) (h : i < xs.length) :
    v ^^^ sumE x p (xs.drop i) = (v ^^^ mul (low (xs.getD i 0)) p) ^^^ sumE x (mul p x) (xs.drop (i + 1)) := by
  rw [List.drop_eq_getElem_cons h]
  have e : xs[i] = xs.getD i 0 := by
    rw [List.getD_eq_getElem?_getD, List.getElem?_eq_getElem h]; rfl
  rw [e]
  show v ^^^ (mul (low (xs.getD i 0)) p ^^^ _) = _
  rw [Nat.xor_assoc]

set_option maxRecDepth 100000 in
set_option maxHeartbeats 1600000 in
theorem rEval_any (x : Int) (a : Option Addr) (len cap B : Nat) (xs : List Int) (w : World) (hr : Ints w B a len xs) (hm : len ≤ maxLen) :
    Calls Try.prog 28 #[.slice a len cap, .int .i64 x] w fun e w' => e = .returned (.int .i64 (hor (low x) xs : Nat)) ∧ w = w' := by
  have hx := low_lt x
  have HV := Lib.hid ((sumE_hor (low x) 1 xs hx (by omega)).trans (mul_one _))
  have hcap : len ≤ 9223372036854775807 := by unfold maxLen at hm; omega
  have Hlen := Lib.hid hr.1
  clear hm
  rw [← HV.out]
  go_enter Try.func28, Try.ntmps28
  go_wp2
  go_loop [5, 6, 7] (fun v p i => ∃ k v' p' : Nat, k ≤ len ∧ i = .int .i64 (k : Int) ∧ v = .int .i64 (v' : Int) ∧ p = .int .i64 (p' : Int) ∧ v' < 8192 ∧ p' < 8192 ∧ v' ^^^ sumE (low x) p' (xs.drop k) = sumE (low x) 1 xs) (fun _ _ i => len - (intOf i).toNat)
  case atStart => exact ⟨0, 0, 1, Nat.zero_le _, rfl, rfl, rfl, by omega, by omega, by simp⟩
  case round =>
    obtain ⟨k, v, p, hk, rfl, rfl, rfl, hv, hp, heq⟩ := hrel
    have HQ := Lib.hid heq
    clear heq
    by_cases h0 : k < len
    · obtain ⟨g, off, rfl, hg, hcell⟩ := hr.cell (by omega)
      have hs := sumE_step (low x) p v xs k (by have := Hlen.out; omega)
      have c1 := hcell k h0
      generalize xs.getD k 0 = z at c1 hs
      have lp := Lib.hid (lowR_nat p hp)
      have lz : low z < 8192 := low_lt z
      have hm := mul_lt (low z) p lz
      have hxx := xor_lt _ _ hv hm
      have m3 : bits .xor .i64 ((v : Nat) : Int) ((mul (low z) p : Nat) : Int) = ((v ^^^ mul (low z) p : Nat) : Int) := i64_xor_nat _ _ (by omega) (by omega)
      have HM := Lib.hid m3
      have HS := Lib.hid hs
      clear m3 hs hcell hr
      go_wp2_with fail
      refine (rMul_any _ _ _).mono ?_
      rintro e w1 ⟨rfl, rfl⟩
      rw [lp.out, low_lowR]
      have m3 := HM.out
      go_wp2_with fail
      refine (rMul_any _ _ _).mono ?_
      rintro e w1 ⟨rfl, rfl⟩
      rw [lp.out, low_lowR]
      go_wp2_with fail
      go_round
      case rel =>
        refine ⟨k + 1, v ^^^ mul (low z) p, mul p (low x), by omega, by go_num, rfl, rfl, hxx, mul_lt _ _ hp, ?_⟩
        rw [← HS.out, HQ.out]
      case measure => simp [intOf]; omega
    · obtain rfl : k = len := by omega
      have e : v = sumE (low x) 1 xs := by
        have := HQ.out
        rw [List.drop_of_length_le (by have := Hlen.out; omega)] at this
        simpa [sumE] using this
      have HE := Lib.hid e
      clear e
      go_wp2
      go_ret
      exact ⟨by rw [← HE.out]; rfl, rfl⟩

/-! agreement -/
theorem invN_invR (a : Nat) (h : a < 8192) : invN a = invR a := by
  unfold invN invR
  by_cases h0 : a = 0
  · rw [if_pos h0, if_pos h0]
  · rw [if_neg h0, if_neg h0]
    have hp := pw_lg a (by omega) h
    have hl := lg_lt a
    have e : npow a 8190 = npow (pw (lg a)) 8190 := by rw [hp]
    rw [e, npow_pw]
    have e2 : lg a * 8190 + 8191 = (8191 - lg a) + 8191 * lg a := by omega
    rw [← pw_add (lg a * 8190), e2, pw_addk]
end Go.Proofs.Ytfahibnbfinibaa
