/- What a plan tells, where some nodes fit. -/
import Derived.Test.YtnimgkijodfjkaaKJs
namespace Go.Proofs.Ytnimgkijodfjkaa
open Go.RowKit Pm
set_option linter.unusedVariables false

theorem cap_zero : cap 0 0 = 0 := by decide
/-- a geometry's plan, its capacity N; where N is no zero, its numbers are within what Fits asks -/
theorem plans_more (b p c k t : Int) : ∃ (j y s : Int) (h r : Nat) (ok : Bool),
    CallsOf 6 b p c k t (planV j h r y s) ok ∧ CallsCap 8 (planV j h r y s) (cap h r) ∧
    (0 < cap h r → 1 ≤ r ∧ r ≤ 62 ∧ h ≤ 26 ∧ 249 ≤ y ∧ y ≤ 1100 ∧ cap h r ≤ 600) := by
  have hz1 : CallsCap 8 (planV 0 ((0 : Nat) : Int) ((0 : Nat) : Int) 0 0) (cap 0 0) := fun W => plainCap_any 0 0 0 0 0 W (by decide) (by decide)
  have hz2 : 0 < cap 0 0 → 1 ≤ 0 ∧ 0 ≤ 62 ∧ 0 ≤ 26 ∧ (249 : Int) ≤ 0 ∧ (0 : Int) ≤ 1100 ∧ cap 0 0 ≤ 600 := fun h => absurd h (by decide)
  by_cases hg : GoodG b p c k t
  · obtain ⟨c', rfl⟩ : ∃ n : Nat, c = (n : Int) := ⟨c.toNat, by have := hg.c1; omega⟩
    obtain ⟨k', rfl⟩ : ∃ n : Nat, k = (n : Int) := ⟨k.toNat, by have := hg.k1; omega⟩
    obtain ⟨t', rfl⟩ : ∃ n : Nat, t = (n : Int) := ⟨t.toNat, by have := hg.t1; omega⟩
    have h1 := fun W => raw_good b p c' k' t' W hg
    have h2 := fun W => sizes_good b p c' k' t' W hg
    by_cases h : b < 12 ∨ p < 16 ∨ (c' : Int) * k' - 7 < 249
    · obtain ⟨a1, _⟩ := plans_no b p c' k' t' _ _ h1 h2 h
      exact ⟨0, 0, 0, 0, 0, false, a1, hz1, hz2⟩
    · obtain ⟨b1, b2, p1, p2, p4, c1, c2, k1, k2, _⟩ := hg
      have m2 : (c' : Int) * k' ≤ 1024 := by have := Int.mul_le_mul c2 k2 (by omega) (by omega); omega
      obtain ⟨n, rfl⟩ : ∃ n : Nat, p = (n : Int) := ⟨p.toNat, by omega⟩
      have hl : ((Pr.DL (n : Int) false).length : Int) - 2 = ((n - 5 : Nat) : Int) := by
        unfold Pr.DL
        rw [if_pos (Pr.okX_of n (by omega) (by omega) (by omega)), Int.toNat_natCast, dlf_len]; omega
      obtain ⟨j, hj⟩ : ∃ j, ((b / 8 < 2) ∧ j = 2) ∨ (¬ (b / 8 < 2) ∧ j = b / 8) := by
        by_cases q : b / 8 < 2
        · exact ⟨2, .inl ⟨q, rfl⟩⟩
        · exact ⟨_, .inr ⟨q, rfl⟩⟩
      have hh : (((b - j - 4) / 2).toNat : Int) = (b - j - 4) / 2 := Int.toNat_of_nonneg (by omega)
      refine ⟨j, _, _, ((b - j - 4) / 2).toNat, n - 5, true,
        fun W => spaceOf_yes b n c' k' t' _ _ j _ _ _ W h1 (by omega) (by omega) (by omega) (by omega) hj hh hl.symm rfl,
        fun W => plainCap_any _ _ _ _ _ W (by omega) (by omega), fun _ => ⟨by omega, by omega, by omega, by omega, by omega, cap_le (by omega) (by omega) (by omega)⟩⟩
  · obtain ⟨a1, _⟩ := plans_no b p c k t 0 0 (fun W => raw_bad b p c k t W hg) (fun W => sizes_bad b p c k t W hg) (.inr (.inr (by decide)))
    exact ⟨0, 0, 0, 0, 0, false, a1, hz1, hz2⟩
end Go.Proofs.Ytnimgkijodfjkaa
