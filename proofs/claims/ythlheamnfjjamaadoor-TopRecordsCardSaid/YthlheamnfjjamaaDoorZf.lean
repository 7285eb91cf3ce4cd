/- The document's Unpack. -/
import Derived.Test.YthlheamnfjjamaaDoorZe
import Derived.Deep.CutRange
import Derived.BigQuiet
import Derived.DataShut
namespace Go.Proofs.YthlheamnfjjamaaDoor
open Go.RowKit

theorem q_at {q : ByteArray} {L : List UInt8} (hq : q = ⟨L.toArray⟩) (n : Nat) (c : UInt8) (hc : L[n]? = some c) : ∀ h : n < q.size, (q[n]'h).toNat = c.toNat := by
  subst hq
  intro h
  exact at_str L n c hc h
theorem drop_cons (r : List UInt8) (j : Nat) (h : j < r.length) : r.drop j = r[j] :: r.drop (j + 1) := List.drop_eq_getElem_cons h
theorem dup_last (t : List UInt8) (fr k : Nat) (hf : fr < t.length) : ∃ y : UInt8, (dup t fr k)[fr + k]? = some y ∧ dup t fr (k + 1) = dup t fr k ++ [y] := by
  have hl := dup_length t fr k
  have hlt : fr + k < (dup t fr k).length := by omega
  refine ⟨(dup t fr k)[fr + k], List.getElem?_eq_getElem hlt, ?_⟩
  rw [dup, List.getD_eq_getElem?_getD, List.getElem?_eq_getElem hlt]; rfl

theorem OwnB.own {w : World} {B : Nat} {v : Value} {l : List UInt8} (h : OwnB w B v l) (k : Nat) (hk : v.ownBlock = some k) : B ≤ k := by
  rcases h.2 with ⟨h1, _⟩ | ⟨g, cap, cur, h1, hB, _⟩
  · rw [h1] at hk; cases hk
  · rw [h1] at hk; cases hk; exact hB

theorem ar3 {m t nn : Nat} (h : m < t + nn) : (m : Int) < (t : Int) + (nn + 125) - 125 := by omega
theorem ar3n {m t nn : Nat} (h : ¬ m < t + nn) : ¬ (m : Int) < (t : Int) + (nn + 125) - 125 := by omega
theorem arB1 {x j r : Nat} (_ : x + (j + 3) = r) : (0 : Int) ≤ (j : Int) + 1 + 1 := by omega
theorem arB2 {x j r : Nat} (_ : x + (j + 3) = r) : (j : Int) + 1 < (r : Int) := by omega
theorem arB3 {x j r : Nat} (_ : x + (j + 3) = r) : (0 : Int) ≤ (j : Int) + 1 + 1 + 1 := by omega
theorem arB4 {x j r : Nat} (_ : x + (j + 3) = r) : (j : Int) + 1 + 1 < (r : Int) := by omega
theorem wrap64_byte (n : Nat) (h : n < 256) : wrap64 (n : Int) = (n : Int) := by unfold wrap64; omega

end Go.Proofs.YthlheamnfjjamaaDoor
