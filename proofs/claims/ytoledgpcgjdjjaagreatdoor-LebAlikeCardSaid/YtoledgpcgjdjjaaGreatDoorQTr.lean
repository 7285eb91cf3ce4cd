/- Rows of strings of the call's own, told by a function of places. -/
import Derived.Test.YtoledgpcgjdjjaaGreatDoorRows
import Derived.Test.YtoledgpcgjdjjaaGreatDoorQSt
import Derived.Deep.OwnRows
namespace Go.Proofs.YtoledgpcgjdjjaaGreatDoor
open Go.RowKit

theorem strInfoT : (Tryz.prog.info? 9).map (fun i => (i.zero, i.size, i.bytes)) = some (some (.string ⟨#[]⟩), 1, 16) := by kernel_rfl
def TR (w : World) (g n : Nat) (f : Nat → ByteArray) : Prop :=
  ∃ cur : Array Value, w.heap[g]? = some (.cells cur 9) ∧ n ≤ cur.size ∧ ∀ j, j < n → cur[j]? = some (.string (f j))
theorem TR.lt {w : World} {g n : Nat} {f : Nat → ByteArray} (h : TR w g n f) : g < w.heap.size := by
  obtain ⟨cur, hg, _⟩ := h; exact lt_of_block hg
theorem TR.cell {w : World} {g n : Nat} {f : Nat → ByteArray} (h : TR w g n f) (j : Nat) (hj : j < n) : w.cell? ⟨g, j, none⟩ = some (.string (f j)) := by
  obtain ⟨cur, hg, _, hc⟩ := h
  rw [cell_of hg]; exact hc j hj
theorem TR.free {w : World} {g n : Nat} {f : Nat → ByteArray} (h : TR w g n f) (j : Nat) : w.frozen? ⟨g, j, none⟩ = false := by
  obtain ⟨cur, hg, _, _⟩ := h
  exact free_of hg j
theorem TR.block {w : World} {g n : Nat} {f : Nat → ByteArray} (h : TR w g n f) : ∃ x, w.heap[g]? = some (.cells x 9 (0, 0)) := by
  obtain ⟨cur, hg, _⟩ := h; exact ⟨cur, hg⟩
theorem TR.upd {w w' : World} {g n : Nat} {f : Nat → ByteArray} (h : TR w g n f) {R : Nat → Prop} (hu : Upd R w w') (hR : ¬ R g) : TR w' g n f := by
  have hl := h.lt
  obtain ⟨cur, hg, r⟩ := h
  exact ⟨cur, (hu.block g hl hR).trans hg, r⟩
theorem TR.grow {w w' : World} {g n : Nat} {f : Nat → ByteArray} (h : TR w g n f) (hu : Upd noBlock w w') : TR w' g n f := h.upd hu (fun h => h)
theorem TR.congr {w : World} {g n : Nat} {f f' : Nat → ByteArray} (h : TR w g n f) (hf : ∀ j, j < n → f j = f' j) : TR w g n f' := by
  obtain ⟨cur, hg, hs, hc⟩ := h
  exact ⟨cur, hg, hs, fun j hj => by rw [← hf j hj]; exact hc j hj⟩
theorem TR.made (w : World) (m : Nat) : TR (w.alloc (.cells (madeCells #[.string ⟨#[]⟩] m) 9)) w.heap.size m (fun _ => ⟨#[]⟩) := by
  refine ⟨_, heap_alloc_new w _, by simp [size_madeCells], fun j hj => ?_⟩
  simp [madeCells, hj]
  rw [show j % 1 = 0 by omega]
  rfl
theorem TR.set {w : World} {g n : Nat} {f : Nat → ByteArray} (h : TR w g n f) (i : Nat) (v : ByteArray) : TR (w.setCell ⟨g, i, none⟩ (.string v)) g n (fun j => if j = i then v else f j) := by
  obtain ⟨cur, hg, hs, hc⟩ := h
  refine ⟨_, block_set hg _, by rw [Array.size_setIfInBounds]; exact hs, fun j hj => ?_⟩
  rw [Array.getElem?_setIfInBounds]
  by_cases e1 : j = i
  · subst e1
    rw [if_pos rfl, if_pos (by omega)]
    simp only [if_true]
  · rw [if_neg (Ne.symm e1)]
    simp only [if_neg e1]
    exact hc j hj
theorem makeT (m : Nat) (V : Int) (hV : V = (m : Int)) (hm : m ≤ 2147483647) : ∀ w : World, (Instr.makeSlice 24 (.int .i64 V) (.int .i64 V)).run Tryz.prog w = .ok (.slice (some ⟨w.heap.size, 0, none⟩) m m) (w.alloc (.cells (madeCells #[.string ⟨#[]⟩] m) 9)) := by
  subst hV
  exact run_make_row' (P := Tryz.prog) 24 9 (.string ⟨#[]⟩) 16 Tryz.underlying24 strInfoT rfl .i64 .i64 m (by omega) (by omega)
end Go.Proofs.YtoledgpcgjdjjaaGreatDoor
