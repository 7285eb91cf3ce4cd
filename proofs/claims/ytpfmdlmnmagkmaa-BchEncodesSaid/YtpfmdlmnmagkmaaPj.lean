/- Remainders over two numbers: they add up, leave nothing of a multiple, and are smaller than what is divided by. No Go in sight. -/
import Derived.Test.YtpfmdlmnmagkmaaPi
namespace Go.Proofs.Ytpfmdlmnmagkmaa
open Pm

theorem rm_xor (D d n R S : Nat) : rm D d n (R ^^^ S) = rm D d n R ^^^ rm D d n S := by
  induction n generalizing R S with
  | zero => rfl
  | succ n ih =>
    rw [rm_succ, rm_succ, rm_succ, ← ih, Nat.testBit_xor]
    congr 1
    generalize D * 2 ^ n = z
    cases R.testBit (d + n) <;> cases S.testBit (d + n) <;> simp
    · rw [Nat.xor_assoc]
    · rw [Nat.xor_assoc, Nat.xor_comm S z, ← Nat.xor_assoc]
    · rw [Nat.xor_assoc, Nat.xor_comm z (S ^^^ z), Nat.xor_assoc, Nat.xor_self, Nat.xor_zero]
theorem rm_small (D d n R : Nat) (h : R < 2 ^ d) : rm D d n R = R := by
  induction n generalizing R with
  | zero => rfl
  | succ n ih =>
    rw [rm_succ, Nat.testBit_lt_two_pow (Nat.lt_of_lt_of_le h (Nat.pow_le_pow_right (by omega) (by omega)))]
    exact ih R h
theorem rm_nothing (D d n : Nat) : rm D d n 0 = 0 := rm_small D d n 0 (Nat.two_pow_pos d)
theorem top_set (P t : Nat) (h1 : 2 ^ t ≤ P) (h2 : P < 2 ^ (t + 1)) : P.testBit t = true := by
  rw [Nat.testBit_eq_decide_div_mod_eq]
  have e : P / 2 ^ t = 1 := by
    have l1 : 1 ≤ P / 2 ^ t := (Nat.le_div_iff_mul_le (Nat.two_pow_pos t)).2 (by omega)
    have l2 : P / 2 ^ t < 2 := (Nat.div_lt_iff_lt_mul (Nat.two_pow_pos t)).2 (by rw [Nat.pow_succ] at h2; omega)
    omega
  rw [e]; rfl
theorem rm_mult (D d n e : Nat) (h1 : 2 ^ d ≤ D) (h2 : D < 2 ^ (d + 1)) (he : e < n) : rm D d n (D * 2 ^ e) = 0 := by
  induction n with
  | zero => omega
  | succ n ih =>
    rw [rm_succ, Nat.testBit_mul_two_pow]
    by_cases hn : e = n
    · subst hn
      have : d + e - e = d := by omega
      rw [this, top_set D d h1 h2]
      have hd : decide (e ≤ d + e) = true := by simp
      rw [hd, Bool.true_and, if_pos rfl, Nat.xor_self, rm_nothing]
    · have hb : D.testBit (d + n - e) = false := Nat.testBit_lt_two_pow (Nat.lt_of_lt_of_le h2 (Nat.pow_le_pow_right (by omega) (by omega)))
      rw [hb, Bool.and_false]
      exact ih (by omega)
theorem rm_cm (D d n : Nat) (l : List Int) (h1 : 2 ^ d ≤ D) (h2 : D < 2 ^ (d + 1)) (hl : ∀ e ∈ l, e.toNat < n) : rm D d n (cm l D) = 0 := by
  induction l with
  | nil => exact rm_nothing D d n
  | cons e l ih =>
    rw [cm_cons, rm_xor, rm_mult D d n _ h1 h2 (hl e List.mem_cons_self), ih (fun x hx => hl x (List.mem_cons_of_mem _ hx))]
    rfl
theorem rm_bound (D d n R : Nat) (h1 : 2 ^ d ≤ D) (h2 : D < 2 ^ (d + 1)) (hR : R < 2 ^ (d + n)) : rm D d n R < 2 ^ d := by
  induction n generalizing R with
  | zero => exact hR
  | succ n ih =>
    rw [rm_succ]
    apply ih
    by_cases hb : R.testBit (d + n) = true
    · rw [if_pos hb]
      have e1 : 2 ^ (d + n) ≤ R := Nat.ge_two_pow_of_testBit hb
      have e2 : D * 2 ^ n = 2 ^ (d + n) ^^^ (D ^^^ 2 ^ d) * 2 ^ n := by
        rw [xor_mul_pow, ← Nat.pow_add, ← Nat.xor_assoc, Nat.xor_comm (2 ^ (d + n)), Nat.xor_assoc, Nat.xor_self, Nat.xor_zero]
      have e3 : (D ^^^ 2 ^ d) * 2 ^ n < 2 ^ (d + n) := by
        rw [xor_top D d h1 h2, Nat.pow_add]
        exact Nat.mul_lt_mul_of_pos_right (Nat.mod_lt _ (Nat.two_pow_pos _)) (Nat.two_pow_pos _)
      have e4 : R ^^^ 2 ^ (d + n) < 2 ^ (d + n) := by
        rw [xor_top R (d + n) e1 (by rw [← Nat.add_assoc] at hR; exact hR)]
        exact Nat.mod_lt _ (Nat.two_pow_pos _)
      rw [e2, ← Nat.xor_assoc]
      exact Nat.xor_lt_two_pow e4 e3
    · rw [if_neg hb]
      rcases Nat.lt_or_ge R (2 ^ (d + n)) with h | h
      · exact h
      · exact absurd (top_set R (d + n) h (by rw [← Nat.add_assoc] at hR; exact hR)) hb
/-- what PolyDivides tells -/
theorem pmod_small (C D d : Nat) (h1 : 2 ^ d ≤ D) (h2 : D < 2 ^ (d + 1)) (hd : d ≤ 16384) (hC : C < 2 ^ top) : pmod C D d < 2 ^ d := by
  rw [← pmod_def]
  refine rm_bound D d _ C h1 h2 ?_
  have e : d + (16385 - d) = top := by unfold top; omega
  rw [e]; exact hC
theorem pmod_divides (A D d s R : Nat) (h1 : 2 ^ d ≤ D) (h2 : D < 2 ^ (d + 1)) (hA : A < 2 ^ (s + 1)) (hs : s + d ≤ 16384) (hR : R < 2 ^ d) : pmod (pmul A D ^^^ R) D d = R := by
  rw [← pmod_def, rm_xor, rm_small D d _ R hR]
  have : rm D d (16385 - d) (pmul A D) = 0 := rm_cm D d _ _ h1 h2 (fun e he => by
    have := exps_mem e A s he hA (by omega)
    omega)
  rw [this, Nat.zero_xor]
end Go.Proofs.Ytpfmdlmnmagkmaa
