/- ParityApart: what holds of every plan, by looking at each. -/
import Derived.Test.YtkjajmhanhbkdaaTe
namespace Go.Proofs.Ytkjajmhanhbkdaa
open Go.RowKit

/-- a plan looked at -/
def chk (n : Nat) (s : Bool) : Bool :=
  (List.range (dl s (n - 3)).length).all (fun i => decide (0 ≤ (dl s (n - 3)).getD i 0) && decide ((dl s (n - 3)).getD i 0 < (n : Int)) && (i == 0 || decide ((dl s (n - 3)).getD (i - 1) 0 < (dl s (n - 3)).getD i 0))) &&
  (List.range (parL s n).length).all (fun g => decide (0 ≤ (parL s n).getD g 0) && decide ((parL s n).getD g 0 < (n : Int)) && (grp ((parL s n).getD g 0).toNat == (g : Int)) &&
    ((ml (g : Int) (dl s (n - 3))).length == 0 || decide ((ml (g : Int) (dl s (n - 3))).getD ((ml (g : Int) (dl s (n - 3))).length - 1) 0 ≤ (parL s n).getD g 0))) &&
  (List.range n).all (fun i => (dl s (n - 3) ++ parL s n).count (i : Int) == 1 || ((dl s (n - 3) ++ parL s n).count (i : Int) == 0 && (i + 2 == n || (s && grp i == 1))))
set_option maxRecDepth 100000 in
theorem chk_all : (List.range 16).all (fun m => chk (4 * (m + 1)) true && chk (4 * (m + 1)) false) = true := by decide +kernel
theorem chk_yes (n : Nat) (s : Bool) (h1 : 4 ≤ n) (h2 : n ≤ 64) (h3 : n % 4 = 0) : chk n s = true := by
  have h := List.all_eq_true.1 chk_all (n / 4 - 1) (List.mem_range.2 (by omega))
  simp only [Bool.and_eq_true] at h
  have e : 4 * (n / 4 - 1 + 1) = n := by omega
  rw [e] at h
  cases s
  · exact h.2
  · exact h.1
/-- what is known of a plan -/
structure Apart (n : Nat) (s : Bool) (D P : List Int) : Prop where
  d : ∀ i, i < D.length → ∃ p : Nat, D.getD i 0 = (p : Int) ∧ p < n
  inc : ∀ i, i + 1 < D.length → D.getD i 0 < D.getD (i + 1) 0
  p : ∀ g, g < P.length → ∃ p : Nat, P.getD g 0 = (p : Int) ∧ p < n ∧ grp p = (g : Int)
  last : ∀ g, g < P.length → 0 < (ml (g : Int) D).length → (ml (g : Int) D).getD ((ml (g : Int) D).length - 1) 0 ≤ P.getD g 0
  cnt : ∀ i, i < n → (D ++ P).count (i : Int) = 1 ∨ ((D ++ P).count (i : Int) = 0 ∧ (i + 2 = n ∨ (s = true ∧ grp i = 1)))
theorem apart_of (n : Nat) (s : Bool) (h1 : 4 ≤ n) (h2 : n ≤ 64) (h3 : n % 4 = 0) : Apart n s (dl s (n - 3)) (parL s n) := by
  have h := chk_yes n s h1 h2 h3
  unfold chk at h
  simp only [Bool.and_eq_true, List.all_eq_true, List.mem_range, Bool.or_eq_true, decide_eq_true_eq, beq_iff_eq] at h
  obtain ⟨⟨hd, hp⟩, hc⟩ := h
  refine ⟨fun i hi => ?_, fun i hi => ?_, fun g hg => ?_, fun g hg h0 => ?_, fun i hi => ?_⟩
  · obtain ⟨⟨a, b⟩, _⟩ := hd i hi
    exact ⟨((dl s (n - 3)).getD i 0).toNat, by omega, by omega⟩
  · obtain ⟨_, c⟩ := hd (i + 1) hi
    rcases c with c | c
    · omega
    · exact c
  · obtain ⟨⟨⟨a, b⟩, c⟩, _⟩ := hp g hg
    exact ⟨((parL s n).getD g 0).toNat, by omega, by omega, c⟩
  · obtain ⟨_, c⟩ := hp g hg
    rcases c with c | c
    · omega
    · exact c
  · exact hc i hi
/-- the pair of a page -/
def pr (k : Nat) : Nat := if k % 4 < 2 then k + 2 else k - 2
def upB (k : Nat) : Bool := !decide (k % 4 < 2)
theorem pair_nat (k : Nat) (w : World) (hp : Hid (k ≤ 9223372036854775800)) :
    Calls Try.prog 18 #[.int .i64 (k : Int)] w fun e w' => e = .returned (.tuple #[.int .i64 ((pr k : Nat) : Int), .bool (upB k)]) ∧ w = w' := by
  by_cases h : k % 4 < 2
  · rw [show pr k = k + 2 from if_pos h, show upB k = false by simp [upB, h]]
    exact pair_low k w (Lib.hid (by have := hp.out; omega)) h
  · rw [show pr k = k - 2 from if_neg h, show upB k = true by simp [upB, h]]
    exact pair_up k w (Lib.hid (by have := hp.out; omega)) h
theorem pr_apart (k : Nat) : (grp k == grp (pr k)) = false := by
  by_cases h : k % 4 < 2
  · rw [show pr k = k + 2 from if_pos h, show grp k = 0 from if_pos h, show grp (k + 2) = 1 from if_neg (by omega)]; rfl
  · rw [show pr k = k - 2 from if_neg h, show grp k = 1 from if_neg h, show grp (k - 2) = 0 from if_pos (by omega)]; rfl
theorem pr_le (k : Nat) : pr k ≤ k + 2 := by unfold pr; split <;> omega
theorem count_snoc (l : List Int) (x : Int) (i : Nat) : (l ++ [x]).count (i : Int) = l.count (i : Int) + (if x = (i : Int) then 1 else 0) := by
  rw [List.count_append, List.count_singleton]
  by_cases h : x = (i : Int)
  · rw [if_pos h, h]; simp
  · rw [if_neg h]
    have : (x == (i : Int)) = false := beq_eq_false_iff_ne.2 h
    rw [this]; rfl
theorem take_snoc (l : List Int) (k : Nat) (h : k < l.length) : l.take (k + 1) = l.take k ++ [l.getD k 0] := by
  rw [List.getD_eq_getElem?_getD, List.getElem?_eq_getElem h]
  simp
end Go.Proofs.Ytkjajmhanhbkdaa
