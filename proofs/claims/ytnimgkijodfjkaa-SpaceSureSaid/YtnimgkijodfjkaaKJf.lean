/- SpacePlans, walked. -/
import Derived.Test.YtnimgkijodfjkaaKJe
namespace Go.Proofs.Ytnimgkijodfjkaa
open Go.RowKit Pm
set_option linter.unusedVariables false

theorem dlf_len (k : Nat) : (Pr.dl false k).length = k := by
  induction k with
  | zero => rfl
  | succ k ih => rw [Pr.dl_yes (show Pr.isData false k = true from rfl), List.length_append, ih]; rfl
theorem DL_le (p : Int) (s : Bool) : (Pr.DL p s).length ≤ 61 := by
  unfold Pr.DL
  split
  next h =>
    obtain ⟨n, rfl, h1, h2, h3⟩ := Pr.okX_yes h
    have := Pr.dl_len s ((n : Int).toNat - 3)
    rw [Int.toNat_natCast] at this ⊢
    omega
  next => exact Nat.zero_le _
def CallsOf (f : FuncId) (b p c k t : Int) (P : Value) (ok : Bool) : Prop :=
  ∀ W, Calls Try.prog f #[geoV b p c k t] W fun e w' => e = .returned (.tuple #[P, .bool ok]) ∧ Upd noBlock W w'
def CallsCap (f : FuncId) (P : Value) (N : Nat) : Prop :=
  ∀ W, Calls Try.prog f #[P] W fun e w' => e = .returned (.int .i64 (N : Int)) ∧ Upd noBlock W w'
theorem plans_no (b p c k t x y : Int)
    (h1 : ∀ W, Calls Try.prog 12 #[geoV b p c k t] W fun e w' => e = .returned (.tuple #[.int .i64 x, .int .i64 y]) ∧ Upd noBlock W w')
    (h2 : ∀ W, Calls Try.prog 14 #[geoV b p c k t] W fun e w' => e = .returned (.tuple #[.int .i64 x, .int .i64 y]) ∧ Upd noBlock W w')
    (h : b < 12 ∨ p < 16 ∨ y < 249) :
    CallsOf 6 b p c k t (planV 0 0 0 0 0) false ∧ CallsOf 7 b p c k t (planV 0 0 0 0 0) false :=
  ⟨fun W => spaceOf_no b p c k t x y W h1 (by omega), fun W => refOf_no b p c k t x y W h2 (by omega)⟩
theorem plans_any (b p c k t : Int) : ∃ (j y s : Int) (h r N : Nat) (ok : Bool),
    CallsOf 6 b p c k t (planV j h r y s) ok ∧ CallsOf 7 b p c k t (planV j h r y s) ok ∧
    CallsCap 8 (planV j h r y s) N ∧ CallsCap 9 (planV j h r y s) N := by
  have hz1 : CallsCap 8 (planV 0 ((0 : Nat) : Int) ((0 : Nat) : Int) 0 0) 0 := fun W => plainCap_any 0 0 0 0 0 W (by decide) (by decide)
  have hz2 : CallsCap 9 (planV 0 ((0 : Nat) : Int) ((0 : Nat) : Int) 0 0) 0 := fun W => refCap_zero W
  by_cases hg : GoodG b p c k t
  · obtain ⟨c', rfl⟩ : ∃ n : Nat, c = (n : Int) := ⟨c.toNat, by have := hg.c1; omega⟩
    obtain ⟨k', rfl⟩ : ∃ n : Nat, k = (n : Int) := ⟨k.toNat, by have := hg.k1; omega⟩
    obtain ⟨t', rfl⟩ : ∃ n : Nat, t = (n : Int) := ⟨t.toNat, by have := hg.t1; omega⟩
    have h1 := fun W => raw_good b p c' k' t' W hg
    have h2 := fun W => sizes_good b p c' k' t' W hg
    by_cases h : b < 12 ∨ p < 16 ∨ (c' : Int) * k' - 7 < 249
    · obtain ⟨a1, a2⟩ := plans_no b p c' k' t' _ _ h1 h2 h
      exact ⟨0, 0, 0, 0, 0, 0, false, a1, a2, hz1, hz2⟩
    · obtain ⟨b1, b2, p1, p2, p4, _⟩ := hg
      obtain ⟨n, rfl⟩ : ∃ n : Nat, p = (n : Int) := ⟨p.toNat, by omega⟩
      have hl : ((Pr.DL (n : Int) false).length : Int) - 2 = ((n - 5 : Nat) : Int) := by
        unfold Pr.DL
        rw [if_pos (Pr.okX_of n (by omega) (by omega) (by omega)), Int.toNat_natCast, dlf_len]; omega
      obtain ⟨j, hj⟩ : ∃ j, ((b / 8 < 2) ∧ j = 2) ∨ (¬ (b / 8 < 2) ∧ j = b / 8) := by
        by_cases q : b / 8 < 2
        · exact ⟨2, .inl ⟨q, rfl⟩⟩
        · exact ⟨_, .inr ⟨q, rfl⟩⟩
      have hh : (((b - j - 4) / 2).toNat : Int) = (b - j - 4) / 2 := Int.toNat_of_nonneg (by omega)
      refine ⟨j, _, _, ((b - j - 4) / 2).toNat, n - 5, cap ((b - j - 4) / 2).toNat (n - 5), true,
        fun W => spaceOf_yes b n c' k' t' _ _ j _ _ _ W h1 (by omega) (by omega) (by omega) (by omega) hj hh hl.symm rfl,
        fun W => refOf_yes b n c' k' t' _ _ j _ _ _ W h2 (by omega) (by omega) (by omega) (by omega) hj hh hl.symm rfl (DL_le _ _) (DL_le _ _),
        fun W => plainCap_any _ _ _ _ _ W (by omega) (by omega), fun W => refCap_any _ _ _ _ _ W (by omega) (by omega) (by omega)⟩
  · obtain ⟨a1, a2⟩ := plans_no b p c k t 0 0 (fun W => raw_bad b p c k t W hg) (fun W => sizes_bad b p c k t W hg) (.inr (.inr (by decide)))
    exact ⟨0, 0, 0, 0, 0, 0, false, a1, a2, hz1, hz2⟩
theorem speaks_of : ∃ r s : Int, CallsOf 6 16 16 1 256 1 (planV 2 5 r 249 s) true := by
  have hg : GoodG 16 16 ((1 : Nat) : Int) ((256 : Nat) : Int) ((1 : Nat) : Int) := by constructor <;> decide
  have h1 := fun W => raw_good 16 16 1 256 1 W hg
  exact ⟨_, _, fun W => spaceOf_yes 16 16 1 256 1 _ 249 2 5 _ _ W h1 (by decide) (by decide) (by decide) (by decide) (.inr ⟨by decide, by decide⟩) (by decide) rfl rfl⟩
set_option maxRecDepth 100000 in
theorem speaks17_any (w : World) :
    Calls Try.prog 5 #[] w fun e w' => e = .returned (.bool true) ∧ Upd noBlock w w' := by
  obtain ⟨r, s, h⟩ := speaks_of
  unfold CallsOf geoV planV at h
  have HOF := Lib.hid h
  clear h
  go_enter Try.func5, Try.ntmps5
  go_wp2_with (go_at_call 6; (with_reducible refine (HOF.out _).mono ?_); rintro e w1 ⟨rfl, hu⟩; have U1 := Lib.hid hu; clear hu)
  go_ret
  exact ⟨rfl, U1.out.alloc _⟩
end Go.Proofs.Ytnimgkijodfjkaa
