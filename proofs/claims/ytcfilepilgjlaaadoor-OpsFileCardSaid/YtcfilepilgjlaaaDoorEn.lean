/- OpsNothing. -/
import Derived.Test.YtcfilepilgjlaaaDoorEm
import Derived.Test.YtcfilepilgjlaaaDoorEl
namespace Go.Proofs.YtcfilepilgjlaaaDoor
open Go.RowKit

/-- the texts behind the first changes -/
def putT (F : Int) (f : Nat → ByteArray) (c : Int × List UInt8) : Nat → ByteArray := fun j => if c.2 = [] then f j else if (j : Int) = c.1 - F then ⟨c.2.toArray⟩ else f j
def putL (F : Int) (f : Nat → ByteArray) (L : List (Int × List UInt8)) : Nat → ByteArray := L.foldl (putT F) f
theorem putL_snoc (F : Int) (f : Nat → ByteArray) (L : List (Int × List UInt8)) (c : Int × List UInt8) : putL F f (L ++ [c]) = putT F (putL F f L) c := by unfold putL; rw [List.foldl_append]; rfl
theorem putL_dif (F : Int) (f : Nat → ByteArray) (f1 f2 : Nat → UInt8) : ∀ m j, putL F f (difL F f1 f2 m) j = if j < m ∧ same64 f2 f1 (j * 64) (j * 64) 64 = false ∧ ¬ tx f2 (j * 64) = [] then ⟨(tx f2 (j * 64)).toArray⟩ else f j
  | 0, j => by rw [if_neg (fun h => absurd h.1 (Nat.not_lt_zero j))]; rfl
  | m + 1, j => by
    rcases hb : same64 f2 f1 (m * 64) (m * 64) 64 with _ | _
    · rw [difL_other F f1 f2 m hb, putL_snoc]
      unfold putT
      by_cases ht : tx f2 (m * 64) = []
      · rw [if_pos ht, putL_dif F f f1 f2 m j]
        by_cases e : j = m
        · subst e; rw [if_neg (fun h => absurd h.1 (Nat.lt_irrefl j)), if_neg (fun h => h.2.2 ht)]
        · by_cases h2 : j < m
          · simp only [h2, show j < m + 1 by omega, true_and]
          · rw [if_neg (fun h => h2 h.1), if_neg (fun h => by omega)]
      · rw [if_neg ht]
        by_cases e : j = m
        · subst e
          rw [if_pos (by show (j : Int) = F + (j : Int) - F; omega), if_pos ⟨by omega, hb, ht⟩]
        · rw [if_neg (by show ¬ (j : Int) = F + (m : Int) - F; omega), putL_dif F f f1 f2 m j]
          by_cases h2 : j < m
          · simp only [h2, show j < m + 1 by omega, true_and]
          · rw [if_neg (fun h => h2 h.1), if_neg (fun h => by omega)]
    · rw [difL_same F f1 f2 m hb, putL_dif F f f1 f2 m j]
      by_cases e : j = m
      · subst e; rw [if_neg (fun h => absurd h.1 (Nat.lt_irrefl j)), if_neg (fun h => by rw [hb] at h; exact absurd h.2.1 (by decide))]
      · by_cases h2 : j < m
        · simp only [h2, show j < m + 1 by omega, true_and]
        · rw [if_neg (fun h => h2 h.1), if_neg (fun h => by omega)]
/-- a piece's text holds its bytes -/
theorem tN_after (f : Nat → UInt8) (o : Nat) : ∀ k j, tN f o k ≤ j → j < k → f (o + j) = 0
  | 0, j, _, h => absurd h (Nat.not_lt_zero j)
  | k + 1, j, h, hj => by
    rw [tN] at h
    split at h
    · rename_i h0
      by_cases e : j = k
      · subst e; exact h0
      · exact tN_after f o k j h (by omega)
    · omega
theorem tx_get (f : Nat → UInt8) (o j : Nat) (hj : j < 64) : (tx f o).getD j 0 = f (o + j) := by
  unfold tx
  rw [List.getD_eq_getElem?_getD]
  by_cases h : j < tN f o 64
  · rw [List.getElem?_eq_getElem (by rw [bytesAt_length]; exact h), Option.getD_some, bytesAt_get]
  · rw [List.getElem?_eq_none (by rw [bytesAt_length]; omega), Option.getD_none, tN_after f o 64 j (by omega) hj]
/-- what stands in the pieces behind the changes is what was to stand there -/
theorem put_all (F : Int) (f : Nat → ByteArray) (f1 f2 : Nat → UInt8) (m : Nat) (h1 : ∀ x, x < m * 64 → f1 x = (f (x / 64)).data.toList.getD (x % 64) 0)
    (h0 : ∀ p, p < m → tx f2 (p * 64) = [] → same64 f2 f1 (p * 64) (p * 64) 64 = true) (x : Nat) (hx : x < m * 64) : (putL F f (difL F f1 f2 m) (x / 64)).data.toList.getD (x % 64) 0 = f2 x := by
  rw [putL_dif]
  have e : x / 64 * 64 + x % 64 = x := by omega
  by_cases h : x / 64 < m ∧ same64 f2 f1 (x / 64 * 64) (x / 64 * 64) 64 = false ∧ ¬ tx f2 (x / 64 * 64) = []
  · rw [if_pos h]
    show (tx f2 (x / 64 * 64)).getD (x % 64) 0 = _
    rw [tx_get _ _ _ (by omega), e]
  · rw [if_neg h, ← h1 x hx]
    have hs : same64 f2 f1 (x / 64 * 64) (x / 64 * 64) 64 = true := by
      by_cases ht : tx f2 (x / 64 * 64) = []
      · exact h0 _ (by omega) ht
      · rcases hb : same64 f2 f1 (x / 64 * 64) (x / 64 * 64) 64 with _ | _
        · exact absurd ⟨by omega, hb, ht⟩ h
        · rfl
    have := same64_iff.1 hs (x % 64) (by omega)
    rw [e] at this
    exact this.symm
theorem difL_none (F : Int) (f1 f2 : Nat → UInt8) : ∀ m, (∀ x, x < m * 64 → f2 x = f1 x) → difL F f1 f2 m = []
  | 0, _ => rfl
  | m + 1, h => by
    rw [difL_same F f1 f2 m (same64_true fun j hj => h _ (by omega))]
    exact difL_none F f1 f2 m (fun x hx => h x (by omega))
end Go.Proofs.YtcfilepilgjlaaaDoor
