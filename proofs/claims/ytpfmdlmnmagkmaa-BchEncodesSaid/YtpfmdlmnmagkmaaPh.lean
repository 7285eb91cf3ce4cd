/- The laws of layer 2: what they all begin with. -/
import Derived.Test.YtpfmdlmnmagkmaaPg
namespace Go.Proofs.Ytpfmdlmnmagkmaa
open Go.RowKit Pm

theorem exps3 : exps 3 = [1, 0] := by
  have h1 := exps_top 3 1 (by decide) (by decide) (by omega)
  have h2 := exps_top 1 0 (by decide) (by decide) (by omega)
  have e1 : 3 ^^^ 2 ^ 1 = 1 := by decide
  have e2 : 1 ^^^ 2 ^ 0 = 0 := by decide
  rw [e1] at h1
  rw [e2, exps_zero] at h2
  rw [h1, h2]; rfl
theorem exps5 : exps 5 = [2, 0] := by
  have h1 := exps_top 5 2 (by decide) (by decide) (by omega)
  have h2 := exps_top 1 0 (by decide) (by decide) (by omega)
  have e1 : 5 ^^^ 2 ^ 2 = 1 := by decide
  have e2 : 1 ^^^ 2 ^ 0 = 0 := by decide
  rw [e1] at h1
  rw [e2, exps_zero] at h2
  rw [h1, h2]; rfl
theorem gat10 : gat [1, 0] = 3 := by decide
theorem pmul33 : pmul 3 3 = 5 := by
  unfold pmul
  rw [exps3]; decide

/-- a new list of two -/
theorem ints2 (w : World) (x y : Int) : Ints (w.alloc (.cells #[.int .i64 x, .int .i64 y] 3)) (w.heap.size + 1) (some ⟨w.heap.size, 0, none⟩) 2 [x, y] :=
  ⟨rfl, fun _ => ⟨w.heap.size, 0, rfl, by omega, fun i hi => by
    rw [cell_of (heap_alloc_new w _)]
    have : i = 0 ∨ i = 1 := by omega
    rcases this with rfl | rfl <;> rfl⟩⟩

end Go.Proofs.Ytpfmdlmnmagkmaa
