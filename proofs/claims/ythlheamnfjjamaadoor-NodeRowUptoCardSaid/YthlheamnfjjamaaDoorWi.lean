/- Nodes in a row, plain. -/
import Derived.Test.YthlheamnfjjamaaDoorOj
import Derived.Test.YthlheamnfjjamaaDoorOp
import Derived.Test.YthlheamnfjjamaaDoorOk
namespace Go.Proofs.YthlheamnfjjamaaDoor
open Go.RowKit Cm
attribute [local irreducible] beZ valN Cm.shs Cm.nxt Cm.reg Cm.ext

def okK (k : List UInt8) : Bool := decide (1 ≤ k.length) && decide (k.length ≤ 64)
def encR (n : Nat) (k : List UInt8) : List UInt8 := sealed (rawN (n : Int) false false k k)
def rowT : Nat → List (List UInt8) → List UInt8
  | _, [] => []
  | n, k :: r => encR n k ++ rowT (n + 1) r
theorem rowT_app : ∀ (n : Nat) (a b : List (List UInt8)), rowT n (a ++ b) = rowT n a ++ rowT (n + a.length) b
  | n, [], b => by simp [rowT]
  | n, k :: a, b => by
    rw [List.cons_append, rowT, rowT, rowT_app (n + 1) a b, List.append_assoc, List.length_cons]
    have : n + 1 + a.length = n + (a.length + 1) := by omega
    rw [this]
theorem rowT_snoc (F : List (List UInt8)) (k : List UInt8) : rowT 0 (F ++ [k]) = rowT 0 F ++ encR F.length k := by
  rw [rowT_app, rowT, rowT, List.append_nil, Nat.zero_add]
theorem rowT_at (F : List (List UInt8)) (m : Nat) (h : m < F.length) : rowT 0 F = rowT 0 (F.take m) ++ (encR m F[m] ++ rowT (m + 1) (F.drop (m + 1))) := by
  have e : F = F.take m ++ (F[m] :: F.drop (m + 1)) := by rw [← List.drop_eq_getElem_cons h, List.take_append_drop]
  conv => lhs; rw [e]
  rw [rowT_app, rowT, List.length_take, Nat.min_eq_left (by omega), Nat.zero_add]
theorem okK_iff (k : List UInt8) : okK k = true ↔ 1 ≤ k.length ∧ k.length ≤ 64 := by simp [okK]
theorem goodN_row (n : Nat) (k : List UInt8) (hn : n ≤ 1099511627776) (h : okK k = true) : goodN (n : Int) false k k = true := by
  obtain ⟨h1, h2⟩ := (okK_iff k).1 h
  have h3 : okN (n : Int) = true := (okN_iff _).2 ⟨by omega, by omega⟩
  unfold goodN
  rw [h3, decide_eq_true h1, decide_eq_true h2, decide_eq_true (by omega)]
  simp
theorem encR_length (n : Nat) (k : List UInt8) : (encR n k).length = 17 + 2 * k.length := by
  unfold encR
  rw [sealed_length, raw_length]; omega
theorem rowT_length : ∀ (n : Nat) (F : List (List UInt8)), F.all okK = true → (rowT n F).length ≤ 145 * F.length
  | _, [], _ => by simp [rowT]
  | n, k :: r, h => by
    rw [List.all_cons, Bool.and_eq_true] at h
    have := rowT_length (n + 1) r h.2
    have hk := (okK_iff k).1 h.1
    rw [rowT, List.length_append, encR_length, List.length_cons]
    omega
theorem rowT_next (F : List (List UInt8)) (m : Nat) (h : m < F.length) : (rowT 0 (F.take (m + 1))).length = (rowT 0 (F.take m)).length + (encR m F[m]).length := by
  rw [List.take_add_one, List.getElem?_eq_getElem h, Option.toList_some, rowT_snoc, List.length_append, List.length_take, Nat.min_eq_left (by omega)]
/-- behind the last node stand noughts -/
theorem decR_noughts (c : Nat) : decR (List.replicate c 0) = (zeroV, 0, 3) := by
  unfold decR
  cases c with
  | zero => rw [if_pos (.inl rfl)]
  | succ c => rw [if_pos (.inr rfl)]
theorem decP_noughts (p : List UInt8) (c : Nat) : decP (p ++ List.replicate c 0) (p.length : Int) = (zeroV, 0, 3) := by
  unfold decP
  rw [if_neg (by rw [List.length_append]; omega)]
  show (_, (if (decR ((p ++ List.replicate c 0).drop (p.length : Int).toNat)).2.2 = 0 then _ else _), _) = _
  rw [Int.toNat_natCast, List.drop_left, decR_noughts]
  rfl
end Go.Proofs.YthlheamnfjjamaaDoor
