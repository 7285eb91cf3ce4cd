/- pack.Unpack of any text that is not too long. -/
import Derived.Test.YthlheamnfjjamaaDoorOp
import Derived.Test.YthlheamnfjjamaaDoorZc
import Derived.Laws.AppendOwn
namespace Go.Proofs.YthlheamnfjjamaaDoor
open Go.RowKit Cm
attribute [local irreducible] beZ valN Cm.shs Cm.nxt Cm.reg Cm.ext
set_option linter.unusedVariables false

/-- a node's five cells -/
def cellsN (v : Value) : List Value := match v with | .agg cs => cs.toList | _ => []
theorem cellsN_node (n : Int) (g b : Bool) (k v : List UInt8) : cellsN (nodeV n g b k v) = [.int .i64 n, .bool g, .bool b, .string ⟨k.toArray⟩, .string ⟨v.toArray⟩] := rfl
/-- the nodes of a text, from a place on -/
def unpW (l : List UInt8) : Nat → Int → List Value → List Int → List Value × List Int × Int
  | 0, _, N, A => (N, A, 0)
  | f + 1, a, N, A => if (decP l a).2.2 = 0 then unpW l f (decP l a).2.1 (N ++ [(decP l a).1]) (A ++ [a]) else if (decP l a).2.2 = 3 then (N, A, 0) else ([], [], (decP l a).2.2)
theorem decR_len (r : List UInt8) (h : (decR r).2.2 = 0) : 18 ≤ (decR r).2.1 ∧ (decR r).2.1 ≤ r.length ∧ ∃ n g b k v, (decR r).1 = nodeV n g b k v := by
  unfold decR at h ⊢
  by_cases h1 : r = [] ∨ r.getD 0 0 = 0
  · rw [if_pos h1] at h; cases h
  rw [if_neg h1] at h ⊢
  by_cases h2 : r.getD 0 0 ≠ 78
  · rw [if_pos h2] at h; cases h
  rw [if_neg h2] at h ⊢
  by_cases h3 : r.length < 13
  · rw [if_pos h3] at h; cases h
  rw [if_neg h3] at h ⊢
  by_cases h4 : r.length < 17 + klenL r + vlenL r
  · rw [if_pos h4] at h; cases h
  rw [if_neg h4] at h ⊢
  by_cases h5 : sealed (r.take (13 + klenL r + vlenL r)) ≠ r.take (17 + klenL r + vlenL r)
  · rw [if_pos h5] at h; cases h
  rw [if_neg h5] at h ⊢
  cases h6 : parseOk (r.take (13 + klenL r + vlenL r)) with
  | false => rw [h6] at h; cases h
  | true =>
    rw [if_pos rfl]
    refine ⟨?_, by show 17 + klenL r + vlenL r ≤ _; omega, _, _, _, _, _, parseV_ok h6⟩
    show 18 ≤ 17 + klenL r + vlenL r
    have hk : 1 ≤ (keyL (r.take (13 + klenL r + vlenL r))).length := by
      unfold parseOk goodN at h6
      simp only [Bool.and_eq_true, decide_eq_true_eq] at h6
      exact h6.2.1.1.1.2
    unfold keyL at hk
    rw [(klen_take r _ (by omega)).1, List.length_take] at hk
    omega
theorem decP_ok (l : List UInt8) (p : Nat) (h : (decP l (p : Int)).2.2 = 0) : ∃ q : Nat, (decP l (p : Int)).2.1 = (q : Int) ∧ p + 18 ≤ q ∧ q ≤ l.length ∧ ∃ n g b k v, (decP l (p : Int)).1 = nodeV n g b k v := by
  unfold decP at h ⊢
  by_cases h0 : (p : Int) < 0 ∨ (l.length : Int) < (p : Int)
  · rw [if_pos h0] at h; cases h
  rw [if_neg h0] at h ⊢
  rw [Int.toNat_natCast] at h ⊢
  have h' : (decR (l.drop p)).2.2 = 0 := h
  obtain ⟨h1, h2, h3⟩ := decR_len _ h'
  rw [List.length_drop] at h2
  refine ⟨p + (decR (l.drop p)).2.1, ?_, by omega, by omega, h3⟩
  show (if (decR (l.drop p)).2.2 = 0 then _ else _) = _
  rw [if_pos h']; omega
theorem own_grow {w w' : World} {B : Nat} {e : TypeId} {n m : Nat} {v : Value} {xs : List Value} (h : w.ownsRow B e n v m xs) (hu : Upd noBlock w w') : w'.ownsRow B e n v m xs := by
  obtain ⟨hl, h⟩ := h
  refine ⟨hl, ?_⟩
  rcases h with ⟨h1, h2⟩ | ⟨g, cap, cur, rfl, hb, hg, r⟩
  · exact .inl ⟨h1, h2⟩
  · exact .inr ⟨g, cap, cur, rfl, hb, (hu.block g (lt_of_block hg) (fun h => h)).trans hg, r⟩
theorem own_base {w : World} {B : Nat} {e : TypeId} {n m : Nat} {v : Value} {xs : List Value} (h : w.ownsRow B e n v m xs) : ∀ k, v.ownBlock = some k → B ≤ k ∧ ∃ C, w.heap[k]? = some (.cells C e (0, 0)) := fun k hk => by
  rcases h.2 with ⟨h1, _⟩ | ⟨g, cap, cur, rfl, hb, hg, _⟩
  · rw [h1] at hk; cases hk
  · cases hk; exact ⟨hb, cur, hg⟩
/-- a row of another element type is kept -/
theorem own_other {w w' : World} {B B' : Nat} {e e' : TypeId} {n m n' m' : Nat} {v v' : Value} {xs xs' : List Value} (h : w.ownsRow B e n v m xs) (h' : w.ownsRow B' e' n' v' m' xs') (he : e ≠ e') (hg : w.grownBy w' v'.ownBlock) : w'.ownsRow B e n v m xs := by
  obtain ⟨hl, h⟩ := h
  refine ⟨hl, ?_⟩
  rcases h with ⟨h1, h2⟩ | ⟨g, cap, cur, rfl, hb, hgg, r⟩
  · exact .inl ⟨h1, h2⟩
  · refine .inr ⟨g, cap, cur, rfl, hb, (hg.block g (lt_of_block hgg) (fun e1 => ?_)).trans hgg, r⟩
    obtain ⟨_, C, hC⟩ := own_base h' g e1.symm
    rw [hC] at hgg
    cases hgg
    exact he rfl
def nodesC (N : List Value) : List Value := (N.map cellsN).flatten
theorem nodesC_snoc (N : List Value) (v : Value) : nodesC (N ++ [v]) = nodesC N ++ cellsN v := by simp [nodesC]
/-- what holds at the label -/
structure JU (w wr : World) (l : List UInt8) (R : List Value × List Int × Int) (p : Nat) (v5 v6 : Value) (N : List Value) (A : List Int) : Prop where
  run : ∃ f, l.length < f + p ∧ unpW l f (p : Int) N A = R
  nodes : wr.ownsRow w.heap.size 26 5 v5 N.length (nodesC N)
  places : wr.ownsRow w.heap.size 3 1 v6 A.length (A.map (Value.int .i64))
  cnt : N.length ≤ p ∧ A.length ≤ p
  le : p ≤ l.length
  up : Upd noBlock w wr
end Go.Proofs.YthlheamnfjjamaaDoor
