import Derived.Test.YtoledgpcgjdjjaaGreatDoorQLib
import Derived.Lib.ConvBytes
import Derived.Deep.AppendSrc
import Derived.Laws.IdiomStrings
import Derived.OwnWalk
/- A slice of bytes of the call's own: out of a text, appended to, back to a text. -/
namespace Go.Proofs.YtoledgpcgjdjjaaGreatDoor
open Go.RowKit

theorem upd_cell {a b : World} (hu : Upd noBlock a b) {g j : Nat} {v : Value} (h : a.cell? ⟨g, j, none⟩ = some v) : b.cell? ⟨g, j, none⟩ = some v :=
  (World.cell?_of_block (hu.block g (World.block_lt_of_cell? a _ h) (fun h => h))).trans h
theorem upd_bytes (w : World) (e : TypeId) (s : ByteArray) : Upd noBlock w (Lib.bytesWorld w e s) := by
  refine ⟨rfl, rfl, rfl, ?_, fun k hk _ => Lib.bytesWorld_at_old w e s k hk⟩
  rw [Lib.bytesWorld_size]; omega

def Bs (w : World) (B : Nat) (e : TypeId) (v : Value) (l : List UInt8) : Prop :=
  ∃ (g cap : Nat) (cur : Array Value) (z : Nat × Nat), v = .slice (some ⟨g, 0, none⟩) l.length cap ∧ B ≤ g ∧ w.heap[g]? = some (.cells cur e z) ∧ (z = (0, 0) ∨ cap ≤ z.1) ∧ l.length ≤ cap ∧ cap ≤ maxLen ∧ cap ≤ cur.size ∧
    ∀ j (h : j < l.length), cur[j]? = some (.int .u8 (l[j].toNat : Int))
theorem Bs.grow {w w' : World} {B : Nat} {e : TypeId} {v : Value} {l : List UInt8} (h : Bs w B e v l) (hu : Upd noBlock w w') : Bs w' B e v l := by
  obtain ⟨g, cap, cur, z, rfl, hB, hg, r⟩ := h
  exact ⟨g, cap, cur, z, rfl, hB, (hu.block g (lt_of_block hg) (fun h => h)).trans hg, r⟩
theorem Bs.more {w : World} {B B' : Nat} {e : TypeId} {v : Value} {l : List UInt8} (h : Bs w B' e v l) (hb : B ≤ B') : Bs w B e v l := by
  obtain ⟨g, cap, cur, z, rfl, hB, r⟩ := h
  exact ⟨g, cap, cur, z, rfl, Nat.le_trans hb hB, r⟩
theorem Bs.conv (w : World) (e : TypeId) (s : ByteArray) (hs : s.size ≤ maxLen) : Bs (Lib.bytesWorld w e s) w.heap.size e (.slice (some ⟨w.heap.size, 0, none⟩) s.size (grownCap w s.size 0 e)) s.data.toList := by
  have hsz : s.data.toList.length = s.size := rfl
  have hge := grownCap_ge w s.size 0 e
  have hcs : (Lib.bytesCells w e s).size = grownCap w s.size 0 e := by
    simp [Lib.bytesCells]
    have : s.data.size = s.size := rfl
    omega
  refine ⟨w.heap.size, grownCap w s.size 0 e, Lib.bytesCells w e s, _, by rw [hsz], Nat.le_refl _, Lib.bytesWorld_at_new w e s, .inr ?_, by omega, grownCap_le_maxLen w _ 0 e hs, by omega, fun j h => ?_⟩
  · show grownCap w s.size 0 e ≤ (Lib.bytesCells w e s).size
    omega
  · have hj : j < s.size := h
    simp [Lib.bytesCells, Array.getElem?_append, hj]
theorem Bs.cell {w : World} {B : Nat} {e : TypeId} {v : Value} {l : List UInt8} (h : Bs w B e v l) :
    ∃ g cap, v = .slice (some ⟨g, 0, none⟩) l.length cap ∧ B ≤ g ∧ ∀ j (h : j < l.length), w.cell? ⟨g, j, none⟩ = some (.int .u8 (l[j].toNat : Int)) := by
  obtain ⟨g, cap, cur, z, rfl, hB, hg, _, _, _, _, hc⟩ := h
  exact ⟨g, cap, rfl, hB, fun j hj => by rw [cell_of hg]; exact hc j hj⟩
theorem add_zero_addr (g j : Nat) : (⟨g, 0, none⟩ : Addr).add j = ⟨g, j, none⟩ := by
  by_cases h0 : j = 0
  · subst h0; simp [Addr.add]
  · simp [Addr.add, h0]

section
variable {P : Program}
theorem conv_row (src dst e : TypeId) (hs : P.underlying src = some .string) (hd : P.underlying dst = some (.slice e)) (he : P.underlying e = some (.int .u8)) (q : ByteArray) (hq : q.size ≤ maxLen) :
    ∃ (CW : World → World) (CC : World → Nat), (∀ w : World, (convert src dst (.string q)).run P w = .ok (.slice (some ⟨w.heap.size, 0, none⟩) q.size (CC w)) (CW w)) ∧
      Hid (∀ w, Upd noBlock w (CW w)) ∧ Hid (∀ w, Bs (CW w) w.heap.size e (.slice (some ⟨w.heap.size, 0, none⟩) q.size (CC w)) q.data.toList) :=
  ⟨fun w => Lib.bytesWorld w e q, fun w => grownCap w q.size 0 e, fun w => Lib.run_convert_string_bytes w src dst e q hs hd he, fun w => upd_bytes w e q, fun w => Bs.conv w e q hq⟩
theorem Bs.text {w : World} {B : Nat} {e : TypeId} {v : Value} {l : List UInt8} (h : Bs w B e v l) (src dst : TypeId) (hs : P.underlying src = some (.slice e)) (he : P.underlying e = some (.int .u8)) (hd : P.underlying dst = some .string) :
    (convert src dst v).run P w = .ok (.string ⟨l.toArray⟩) w := by
  obtain ⟨g, cap, rfl, _, hc⟩ := h.cell
  exact run_convert_bytes_back w src dst e ⟨g, 0, none⟩ cap l hs he hd (fun j hj => by rw [add_zero_addr]; exact hc j hj)

end
end Go.Proofs.YtoledgpcgjdjjaaGreatDoor

/- Rows of bytes: what each cell reads as, told by a function. -/
namespace Go.Proofs.YtoledgpcgjdjjaaGreatDoor
open Go.RowKit

def ByteRow (w : World) (g n : Nat) (e : TypeId) (f : Nat → Nat) : Prop :=
  ∃ (cur : Array Value) (z : Nat × Nat), w.heap[g]? = some (.cells cur e z) ∧ (z = (0, 0) ∨ n ≤ z.1) ∧ n ≤ cur.size ∧ ∀ j, j < n → cur[j]? = some (.int .u8 ((f j : Nat) : Int))
theorem ByteRow.cell {w : World} {g n : Nat} {e : TypeId} {f : Nat → Nat} (h : ByteRow w g n e f) (j : Nat) (hj : j < n) : w.cell? ⟨g, j, none⟩ = some (.int .u8 ((f j : Nat) : Int)) := by
  obtain ⟨cur, z, hg, _, _, hc⟩ := h
  rw [cell_of hg]; exact hc j hj
theorem ByteRow.free {w : World} {g n : Nat} {e : TypeId} {f : Nat → Nat} (h : ByteRow w g n e f) (j : Nat) (hj : j < n) : w.frozen? ⟨g, j, none⟩ = false := by
  obtain ⟨cur, z, hg, hz, _, _⟩ := h
  simp only [World.frozen?, hg]
  rcases hz with rfl | hz
  · simp
  · simp; omega
theorem ByteRow.grow {w w' : World} {g n : Nat} {e : TypeId} {f : Nat → Nat} (h : ByteRow w g n e f) (hu : Upd noBlock w w') : ByteRow w' g n e f := by
  obtain ⟨cur, z, hg, r⟩ := h
  exact ⟨cur, z, (hu.block g (lt_of_block hg) (fun h => h)).trans hg, r⟩
theorem ByteRow.congr {w : World} {g n : Nat} {e : TypeId} {f f' : Nat → Nat} (h : ByteRow w g n e f) (hf : ∀ j, j < n → f j = f' j) : ByteRow w g n e f' := by
  obtain ⟨cur, z, hg, hz, hs, hc⟩ := h
  exact ⟨cur, z, hg, hz, hs, fun j hj => by rw [← hf j hj]; exact hc j hj⟩
theorem ByteRow.set {w : World} {g n : Nat} {e : TypeId} {f : Nat → Nat} (h : ByteRow w g n e f) (i v : Nat) : ByteRow (w.setCell ⟨g, i, none⟩ (.int .u8 ((v : Nat) : Int))) g n e (fun j => if j = i then v else f j) := by
  obtain ⟨cur, z, hg, hz, hs, hc⟩ := h
  refine ⟨_, z, block_set hg _, hz, by rw [Array.size_setIfInBounds]; exact hs, fun j hj => ?_⟩
  rw [Array.getElem?_setIfInBounds]
  by_cases e1 : j = i
  · subst e1
    rw [if_pos rfl, if_pos (by omega)]
    simp only [if_true]
  · rw [if_neg (Ne.symm e1)]
    simp only [if_neg e1]
    exact hc j hj
theorem Bs.row {w : World} {B : Nat} {e : TypeId} {v : Value} {l : List UInt8} (h : Bs w B e v l) :
    ∃ g cap, v = .slice (some ⟨g, 0, none⟩) l.length cap ∧ B ≤ g ∧ ByteRow w g l.length e (fun j => (l.getD j 0).toNat) := by
  obtain ⟨g, cap, cur, z, rfl, hB, hg, hf, hlc, hcm, hcs, hc⟩ := h
  refine ⟨g, cap, rfl, hB, cur, z, hg, ?_, by omega, fun j hj => ?_⟩
  · rcases hf with hf | hf
    · exact .inl hf
    · exact .inr (by omega)
  · rw [hc j hj]
    show _ = some (Value.int .u8 (((l.getD j 0).toNat : Nat) : Int))
    rw [List.getD_eq_getElem?_getD, List.getElem?_eq_getElem hj]; rfl

section
variable {P : Program}
theorem ByteRow.text {w : World} {g n : Nat} {e : TypeId} {f : Nat → Nat} (h : ByteRow w g n e f) (l : List UInt8) (hl : l.length = n) (hf : ∀ j (h : j < l.length), l[j].toNat = f j) (cap : Nat) (src dst : TypeId)
    (hs : P.underlying src = some (.slice e)) (he : P.underlying e = some (.int .u8)) (hd : P.underlying dst = some .string) : (convert src dst (.slice (some ⟨g, 0, none⟩) n cap)).run P w = .ok (.string ⟨l.toArray⟩) w := by
  rw [← hl]
  exact run_convert_bytes_back w src dst e ⟨g, 0, none⟩ cap l hs he hd (fun j hj => by rw [add_zero_addr, hf j hj]; exact h.cell j (by omega))
end
end Go.Proofs.YtoledgpcgjdjjaaGreatDoor
