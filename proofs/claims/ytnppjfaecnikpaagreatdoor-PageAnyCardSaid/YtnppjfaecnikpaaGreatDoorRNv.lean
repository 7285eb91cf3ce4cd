/- Noise: all pieces of what is read. -/
import Derived.Test.YtnppjfaecnikpaaGreatDoorRGNs
import Derived.RangeFuncWrites
namespace Go.Proofs.YtnppjfaecnikpaaGreatDoor
open Go.RowKit
attribute [local go_sem] Oper.semAt_some

section
variable (T : Nat → Nat → (Nat → Nat) → Nat → Nat)
/-- what has become of the bytes when the pieces of a list have been treated, each with its place in the list -/
def foldT (f : Nat → Nat) (l : List Nat) : (Nat → Nat) × Nat := l.foldl (fun s x => (T x s.2 s.1, s.2 + 1)) (f, 0)
theorem foldT_snoc (f : Nat → Nat) (l : List Nat) (x : Nat) : foldT T f (l ++ [x]) = (T x (foldT T f l).2 (foldT T f l).1, (foldT T f l).2 + 1) := by
  unfold foldT; rw [List.foldl_append]; rfl
theorem foldT_snd (f : Nat → Nat) (l : List Nat) : (foldT T f l).2 = l.length := by
  unfold foldT
  suffices h : ∀ (l : List Nat) (s : (Nat → Nat) × Nat), (l.foldl (fun s x => (T x s.2 s.1, s.2 + 1)) s).2 = s.2 + l.length by
    rw [h l (f, 0)]; simp
  intro l
  induction l with
  | nil => intro s; rfl
  | cons a r ih => intro s; rw [List.foldl_cons, ih]; simp; omega
end
def mulC (x c : Nat) : Nat := x * c % 18446744073709551616
def hashN (pl j : Nat) : Nat := pl ^^^ mulC j 2870177450012600261
def pieceF (most L pc pl : Nat) (x j : Nat) (f : Nat → Nat) : Nat → Nat := pieceT most (pidx L pc x * pc) (min pc (L - pidx L pc x * pc)) (hashN pl j) f
/-- the loop's memory -/
def NoiseIn (w : World) (g N most L pc pl B : Nat) (seed : Nat) (f : Nat → Nat) (pre : List Nat) (W : World) : Prop :=
  W.heap[B]? = some (.cells #[.int .u64 (seed : Int), .int .i64 (most : Int), .int .i64 (pc : Int)] 83 (0, 0)) ∧ W.heap[B + 1]? = some (.cells #[.int .u64 (pl : Int)] 81 (0, 0)) ∧
    W.heap[B + 2]? = some (.cells #[.int .u64 ((pre.length : Nat) : Int)] 81 (0, 0)) ∧ ByteRow W g N 5 (foldT (pieceF most L pc pl) f pre).1 ∧ Upd (oneBlock g) w W ∧ B + 5 ≤ W.heap.size
theorem NoiseIn.step {w : World} {g N most L pc pl B seed : Nat} {f : Nat → Nat} {pre : List Nat} {W W1 : World} (h : NoiseIn w g N most L pc pl B seed f pre W) (x : Nat) (hu : Upd (oneBlock g) W W1) (hg : g < B) (hB : w.heap.size ≤ B)
    (hrow : ByteRow W1 g N 5 (pieceF most L pc pl x pre.length (foldT (pieceF most L pc pl) f pre).1)) :
    NoiseIn w g N most L pc pl B seed f (pre ++ [x]) (W1.setCell ⟨B + 1 + 1, 0, none⟩ (.int .u64 ((pre.length : Int) + 1))) := by
  obtain ⟨h1, h2, h3, _, h5, h6⟩ := h
  have n0 : ¬ oneBlock g B := by show ¬ B = g; omega
  have n1 : ¬ oneBlock g (B + 1) := by show ¬ B + 1 = g; omega
  have n2 : ¬ oneBlock g (B + 2) := by show ¬ B + 2 = g; omega
  refine ⟨block_set_other (hu.cells h1 n0) (by show ¬ B = B + 1 + 1; omega) _, block_set_other (hu.cells h2 n1) (by show ¬ B + 1 = B + 1 + 1; omega) _, ?_, ?_, (h5.trans hu).setCell (p := ⟨B + 1 + 1, 0, none⟩) (.inr (by show w.heap.size ≤ B + 1 + 1; omega)) _, by have := hu.size; simp; omega⟩
  · have := block_set (i := 0) (hu.cells h3 n2) (.int .u64 ((pre.length : Int) + 1))
    rw [List.length_append]
    exact this
  · rw [foldT_snoc, foldT_snd]
    obtain ⟨cur, z, hc, r⟩ := hrow
    exact ⟨cur, z, block_set_other hc (by show ¬ g = B + 1 + 1; omega) _, r⟩

end Go.Proofs.YtnppjfaecnikpaaGreatDoor
