/- Rows of bytes: what each cell reads as, told by a function. -/
import Derived.Test.YtcfilepilgjlaaaDoorBy
namespace Go.Proofs.YtcfilepilgjlaaaDoor
open Go.RowKit

/-- the first n cells of a block of bytes read so, and may be written -/
def ByteRow (w : World) (g n : Nat) (e : TypeId) (f : Nat → Nat) : Prop :=
  ∃ (cur : Array Value) (z : Nat × Nat), w.heap[g]? = some (.cells cur e z) ∧ (z = (0, 0) ∨ n ≤ z.1) ∧ n ≤ cur.size ∧ ∀ j, j < n → cur[j]? = some (.int .u8 ((f j : Nat) : Int))
theorem ByteRow.cell {w : World} {g n : Nat} {e : TypeId} {f : Nat → Nat} (h : ByteRow w g n e f) (j : Nat) (hj : j < n) : w.cell? ⟨g, j, none⟩ = some (.int .u8 ((f j : Nat) : Int)) := by
  obtain ⟨cur, z, hg, _, _, hc⟩ := h
  rw [cell_of hg]; exact hc j hj
theorem ByteRow.free {w : World} {g n : Nat} {e : TypeId} {f : Nat → Nat} (h : ByteRow w g n e f) (j : Nat) (hj : j < n) : w.frozen? ⟨g, j, none⟩ = false := by
  obtain ⟨cur, z, hg, hz, _, _⟩ := h
  simp only [World.frozen?, hg]
  rcases hz with rfl | hz
  · simp
  · simp; omega
theorem ByteRow.grow {w w' : World} {g n : Nat} {e : TypeId} {f : Nat → Nat} (h : ByteRow w g n e f) (hu : Upd noBlock w w') : ByteRow w' g n e f := by
  obtain ⟨cur, z, hg, r⟩ := h
  exact ⟨cur, z, (hu.block g (lt_of_block hg) (fun h => h)).trans hg, r⟩
theorem ByteRow.congr {w : World} {g n : Nat} {e : TypeId} {f f' : Nat → Nat} (h : ByteRow w g n e f) (hf : ∀ j, j < n → f j = f' j) : ByteRow w g n e f' := by
  obtain ⟨cur, z, hg, hz, hs, hc⟩ := h
  exact ⟨cur, z, hg, hz, hs, fun j hj => by rw [← hf j hj]; exact hc j hj⟩
theorem ByteRow.set {w : World} {g n : Nat} {e : TypeId} {f : Nat → Nat} (h : ByteRow w g n e f) (i v : Nat) : ByteRow (w.setCell ⟨g, i, none⟩ (.int .u8 ((v : Nat) : Int))) g n e (fun j => if j = i then v else f j) := by
  obtain ⟨cur, z, hg, hz, hs, hc⟩ := h
  refine ⟨_, z, block_set hg _, hz, by rw [Array.size_setIfInBounds]; exact hs, fun j hj => ?_⟩
  rw [Array.getElem?_setIfInBounds]
  by_cases e1 : j = i
  · subst e1
    rw [if_pos rfl, if_pos (by omega)]
    simp only [if_true]
  · rw [if_neg (Ne.symm e1)]
    simp only [if_neg e1]
    exact hc j hj
theorem Bs.row {w : World} {B : Nat} {e : TypeId} {v : Value} {l : List UInt8} (h : Bs w B e v l) :
    ∃ g cap, v = .slice (some ⟨g, 0, none⟩) l.length cap ∧ B ≤ g ∧ ByteRow w g l.length e (fun j => (l.getD j 0).toNat) := by
  obtain ⟨g, cap, cur, z, rfl, hB, hg, hf, hlc, hcm, hcs, hc⟩ := h
  refine ⟨g, cap, rfl, hB, cur, z, hg, ?_, by omega, fun j hj => ?_⟩
  · rcases hf with hf | hf
    · exact .inl hf
    · exact .inr (by omega)
  · rw [hc j hj]
    show _ = some (Value.int .u8 (((l.getD j 0).toNat : Nat) : Int))
    rw [List.getD_eq_getElem?_getD, List.getElem?_eq_getElem hj]; rfl

section
variable {P : Program}
theorem ByteRow.text {w : World} {g n : Nat} {e : TypeId} {f : Nat → Nat} (h : ByteRow w g n e f) (l : List UInt8) (hl : l.length = n) (hf : ∀ j (h : j < l.length), l[j].toNat = f j) (cap : Nat) (src dst : TypeId)
    (hs : P.underlying src = some (.slice e)) (he : P.underlying e = some (.int .u8)) (hd : P.underlying dst = some .string) : (convert src dst (.slice (some ⟨g, 0, none⟩) n cap)).run P w = .ok (.string ⟨l.toArray⟩) w := by
  rw [← hl]
  exact run_convert_bytes_back w src dst e ⟨g, 0, none⟩ cap l hs he hd (fun j hj => by rw [add_zero_addr, hf j hj]; exact h.cell j (by omega))
end
end Go.Proofs.YtcfilepilgjlaaaDoor
