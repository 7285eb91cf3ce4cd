/- KeyOrder: what lies in the law's blocks. -/
import Derived.Test.YtbnnkpnhfjkdpaaKj
import Derived.Test.YtbnnkpnhfjkdpaaKm
import Derived.Test.YtbnnkpnhfjkdpaaAr
import Derived.Test.YtbnnkpnhfjkdpaaKp
namespace Go.Proofs.Ytbnnkpnhfjkdpaa
open Go.RowKit
attribute [local irreducible] beZ valN

theorem ko_facts (w w2 w3 W : World) (A B N K1 R1 K2 R2 : Array Value) (t t' t'' : TypeId) (h1 : Upd noBlock (((w.alloc (.cells A t)).alloc (.cells B t')).alloc (.cells N t'')) w2)
    (h2 : Upd noBlock ((w2.alloc (.cells K1 25)).alloc (.cells R1 26)) w3) (h3 : Upd noBlock ((w3.alloc (.cells K2 25)).alloc (.cells R2 26)) W) :
    (∀ i, W.cell? ⟨w.heap.size, i, none⟩ = A[i]?) ∧ (∀ i, W.cell? ⟨w2.heap.size, i, none⟩ = K1[i]?) ∧ (∀ i, W.cell? ⟨w2.heap.size + 1, i, none⟩ = R1[i]?) ∧ (∀ i, W.cell? ⟨w3.heap.size, i, none⟩ = K2[i]?) ∧ (∀ i, W.cell? ⟨w3.heap.size + 1, i, none⟩ = R2[i]?) := by
  have u3 : Upd noBlock w3 W := (((Upd.refl _ _).alloc _).alloc _).trans h3
  have u2 : Upd noBlock w2 W := ((((Upd.refl _ _).alloc _).alloc _).trans h2).trans u3
  exact ⟨fun i => cell_of (u2.cells (h1.cells (block_alloc (block_alloc (heap_alloc_new w _) _) _) (fun h => h)) (fun h => h)) i,
    fun i => cell_of (u3.cells (h2.cells (block_alloc (heap_alloc_new w2 _) _) (fun h => h)) (fun h => h)) i,
    fun i => cell_of (u3.cells (h2.cells (heap_alloc2_new w2 _ _) (fun h => h)) (fun h => h)) i,
    fun i => cell_of (h3.cells (block_alloc (heap_alloc_new w3 _) _) (fun h => h)) i,
    fun i => cell_of (h3.cells (heap_alloc2_new w3 _ _) (fun h => h)) i⟩
theorem ko_upd (w w2 w3 W : World) (A B N K1 R1 K2 R2 : Array Value) (t t' t'' : TypeId) (h1 : Upd noBlock (((w.alloc (.cells A t)).alloc (.cells B t')).alloc (.cells N t'')) w2)
    (h2 : Upd noBlock ((w2.alloc (.cells K1 25)).alloc (.cells R1 26)) w3) (h3 : Upd noBlock ((w3.alloc (.cells K2 25)).alloc (.cells R2 26)) W) : Upd noBlock w W :=
  (((((((((Upd.refl _ w).alloc _).alloc _).alloc _).trans h1).alloc _).alloc _).trans h2).alloc _).alloc _ |>.trans h3
section
variable {G1 G2 : Bool} {b0 a0 b1 a1 : Int}
theorem kk1 (hN : (!G1 && G2) = (b0 == a0 && b1 == a1)) (h1 : G1 = true) (h2 : b0 = a0) : (!(b1 == a1)) = true := by
  subst h1 h2; simp at hN; simpa using hN
theorem kk3 (hN : (!G1 && G2) = (b0 == a0 && b1 == a1)) (h1 : ¬ G1 = true) (h2 : b0 = a0) : (G2 == (b1 == a1)) = true := by
  have h1 : G1 = false := by simpa using h1
  subst h1 h2; simp at hN; simp [hN]
theorem kk4 (hN : (!G1 && G2) = (b0 == a0 && b1 == a1)) (h1 : ¬ G1 = true) (h2 : ¬ b0 = a0) : (!G2) = true := by
  have h1 : G1 = false := by simpa using h1
  have h3 : (b0 == a0) = false := by simpa using h2
  subst h1; rw [h3] at hN; simp at hN; simp [hN]
end
theorem box3_facts (w W : World) (A B N : Array Value) (t t' t'' : TypeId) (h1 : Upd noBlock (((w.alloc (.cells A t)).alloc (.cells B t')).alloc (.cells N t'')) W) :
    (∀ i, W.cell? ⟨w.heap.size, i, none⟩ = A[i]?) ∧ (∀ i, W.cell? ⟨w.heap.size + 1, i, none⟩ = B[i]?) ∧ (∀ i, W.cell? ⟨w.heap.size + 1 + 1, i, none⟩ = N[i]?) := by
  have h := heap_alloc_new ((w.alloc (.cells A t)).alloc (.cells B t')) (.cells N t'')
  rw [World.size_alloc, World.size_alloc] at h
  exact ⟨fun i => cell_of (h1.cells (block_alloc (block_alloc (heap_alloc_new w _) _) _) (fun h => h)) i, fun i => cell_of (h1.cells (block_alloc (heap_alloc2_new w _ _) _) (fun h => h)) i, fun i => cell_of (h1.cells h (fun h => h)) i⟩
theorem eq_key (a0 a1 a2 b0 b1 b2 : Int) (q r : ByteArray) (E : Bool) (hE : (a0 == b0 && (a1 == b1 && (q.toList == r.toList && a2 == b2))) = E) (w : World) :
    (binOp .eql 25 (.agg #[.int .i64 a0, .int .i64 a1, .string q, .int .i64 a2]) (.agg #[.int .i64 b0, .int .i64 b1, .string r, .int .i64 b2])).run Try.prog w = .ok (.bool E) w := by
  subst hE
  go_simp
  by_cases h0 : a0 = b0 <;> by_cases h1 : a1 = b1 <;> by_cases h2 : q.toList = r.toList <;> by_cases h3 : a2 = b2 <;> simp [h0, h1, h2, h3]
end Go.Proofs.Ytbnnkpnhfjkdpaa

