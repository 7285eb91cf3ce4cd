/- A field that lies wherever in a block: its spot, its six cells. -/
import Derived.Test.YtpfmdlmnmagkmaaRows
import Derived.Test.YtpfmdlmnmagkmaaLib
import Derived.Test.YtpfmdlmnmagkmaaGfm
import Derived.WalkKit
import Derived.Lib.Hide
import Derived.WalkSpells
import Derived.WalkLawsBesides
import Derived.BigQuiet
import Derived.BigRegion
import Derived.Deep.OwnRows
import Derived.Deep.QuietTactic
namespace Go.Proofs.Ytpfmdlmnmagkmaa
open Go.RowKit Gfm

/-- where a field lies: the block, the place in it, the block's type, its other cells -/
structure Spt where
  blk : Nat
  off : Nat
  T : TypeId
  R : Nat → Option Value
  hT : T ≠ 3
/-- the six cells of the field, the others as the spot tells -/
def FB (w : World) (b : Spt) (d s m p l n : Value) : Prop :=
  ∃ C : Array Value, w.heap[b.blk]? = some (.cells C b.T (0, 0)) ∧ C[b.off]? = some d ∧ C[b.off + 1]? = some s ∧ C[b.off + 2]? = some m ∧ C[b.off + 3]? = some p ∧ C[b.off + 4]? = some l ∧ C[b.off + 5]? = some n ∧ ∀ j, j < b.off ∨ b.off + 6 ≤ j → C[j]? = b.R j
theorem FB.lt {w : World} {b : Spt} {d s m p l n : Value} (h : FB w b d s m p l n) : b.blk < w.heap.size := by
  obtain ⟨C, hb, _⟩ := h; exact lt_of_block hb
theorem FB.c0 {w : World} {b : Spt} {d s m p l n : Value} (h : FB w b d s m p l n) : w.cell? ⟨b.blk, b.off, none⟩ = some d := by
  obtain ⟨C, hb, h0, _⟩ := h; rw [cell_of hb]; exact h0
theorem FB.c1 {w : World} {b : Spt} {d s m p l n : Value} (h : FB w b d s m p l n) : w.cell? ⟨b.blk, b.off + 1, none⟩ = some s := by
  obtain ⟨C, hb, _, h1, _⟩ := h; rw [cell_of hb]; exact h1
theorem FB.c3 {w : World} {b : Spt} {d s m p l n : Value} (h : FB w b d s m p l n) : w.cell? ⟨b.blk, b.off + 3, none⟩ = some p := by
  obtain ⟨C, hb, _, _, _, h3, _⟩ := h; rw [cell_of hb]; exact h3
theorem FB.c4 {w : World} {b : Spt} {d s m p l n : Value} (h : FB w b d s m p l n) : w.cell? ⟨b.blk, b.off + 4, none⟩ = some l := by
  obtain ⟨C, hb, _, _, _, _, h4, _⟩ := h; rw [cell_of hb]; exact h4
theorem FB.c5 {w : World} {b : Spt} {d s m p l n : Value} (h : FB w b d s m p l n) : w.cell? ⟨b.blk, b.off + 5, none⟩ = some n := by
  obtain ⟨C, hb, _, _, _, _, _, h5, _⟩ := h; rw [cell_of hb]; exact h5
theorem FB.fr {w : World} {b : Spt} {d s m p l n : Value} (h : FB w b d s m p l n) (i : Nat) : w.frozen? ⟨b.blk, i, none⟩ = false := by
  obtain ⟨C, hb, _⟩ := h; exact free_of hb i
theorem FB.upd {w w' : World} {b : Spt} {d s m p l n : Value} (h : FB w b d s m p l n) {R : Nat → Prop} (hu : Upd R w w') (hR : ¬ R b.blk) : FB w' b d s m p l n := by
  obtain ⟨C, hb, r⟩ := h; exact ⟨C, (hu.block _ (lt_of_block hb) hR).trans hb, r⟩
theorem FB.alloc {w : World} {b : Spt} {d s m p l n : Value} (h : FB w b d s m p l n) (o : Obj) : FB (w.alloc o) b d s m p l n := by
  obtain ⟨C, hb, r⟩ := h; exact ⟨C, block_alloc hb o, r⟩
theorem FB.other {w : World} {b : Spt} {d s m p l n : Value} (h : FB w b d s m p l n) {a : Addr} (ha : ¬ b.blk = a.block) (v : Value) : FB (w.setCell a v) b d s m p l n := by
  obtain ⟨C, hb, r⟩ := h; exact ⟨C, block_set_other hb ha v, r⟩
theorem FB.drew {w : World} {b : Spt} {d s m p l n : Value} (h : FB w b d s m p l n) : FB w.drew b d s m p l n := h
theorem FB.block {w : World} {b : Spt} {d s m p l n : Value} (h : FB w b d s m p l n) : ∃ c, w.heap[b.blk]? = some (.cells c b.T (0, 0)) := by
  obtain ⟨C, hb, _⟩ := h; exact ⟨C, hb⟩
theorem fb_get {C : Array Value} {i j : Nat} {u v : Value} (h : C[j]? = some u) (hne : ¬ i = j) : (C.setIfInBounds i v)[j]? = some u := by
  rw [Array.getElem?_setIfInBounds, if_neg hne]; exact h
theorem fb_same {C : Array Value} {i : Nat} {u v : Value} (h : C[i]? = some u) : (C.setIfInBounds i v)[i]? = some v := by
  rw [Array.getElem?_setIfInBounds, if_pos rfl, if_pos (Array.getElem?_eq_some_iff.1 h).1]
theorem fb_rest {C : Array Value} {o i : Nat} {R : Nat → Option Value} {v : Value} (h : ∀ j, j < o ∨ o + 6 ≤ j → C[j]? = R j) (h1 : o ≤ i) (h2 : i < o + 6) : ∀ j, j < o ∨ o + 6 ≤ j → (C.setIfInBounds i v)[j]? = R j := fun j hj => by
  rw [Array.getElem?_setIfInBounds, if_neg (by omega)]; exact h j hj
theorem FB.set0 {w : World} {b : Spt} {d s m p l n : Value} (h : FB w b d s m p l n) (v : Value) : FB (w.setCell ⟨b.blk, b.off, none⟩ v) b v s m p l n := by
  obtain ⟨C, hb, h0, h1, h2, h3, h4, h5, hr⟩ := h
  exact ⟨_, block_set hb v, fb_same h0, fb_get h1 (by omega), fb_get h2 (by omega), fb_get h3 (by omega), fb_get h4 (by omega), fb_get h5 (by omega), fb_rest hr (by omega) (by omega)⟩
theorem FB.set1 {w : World} {b : Spt} {d s m p l n : Value} (h : FB w b d s m p l n) (v : Value) : FB (w.setCell ⟨b.blk, b.off + 1, none⟩ v) b d v m p l n := by
  obtain ⟨C, hb, h0, h1, h2, h3, h4, h5, hr⟩ := h
  exact ⟨_, block_set hb v, fb_get h0 (by omega), fb_same h1, fb_get h2 (by omega), fb_get h3 (by omega), fb_get h4 (by omega), fb_get h5 (by omega), fb_rest hr (by omega) (by omega)⟩
theorem FB.set3 {w : World} {b : Spt} {d s m p l n : Value} (h : FB w b d s m p l n) (v : Value) : FB (w.setCell ⟨b.blk, b.off + 3, none⟩ v) b d s m v l n := by
  obtain ⟨C, hb, h0, h1, h2, h3, h4, h5, hr⟩ := h
  exact ⟨_, block_set hb v, fb_get h0 (by omega), fb_get h1 (by omega), fb_get h2 (by omega), fb_same h3, fb_get h4 (by omega), fb_get h5 (by omega), fb_rest hr (by omega) (by omega)⟩
theorem FB.set4 {w : World} {b : Spt} {d s m p l n : Value} (h : FB w b d s m p l n) (v : Value) : FB (w.setCell ⟨b.blk, b.off + 4, none⟩ v) b d s m p v n := by
  obtain ⟨C, hb, h0, h1, h2, h3, h4, h5, hr⟩ := h
  exact ⟨_, block_set hb v, fb_get h0 (by omega), fb_get h1 (by omega), fb_get h2 (by omega), fb_get h3 (by omega), fb_same h4, fb_get h5 (by omega), fb_rest hr (by omega) (by omega)⟩
theorem FB.set5 {w : World} {b : Spt} {d s m p l n : Value} (h : FB w b d s m p l n) (v : Value) : FB (w.setCell ⟨b.blk, b.off + 5, none⟩ v) b d s m p l v := by
  obtain ⟨C, hb, h0, h1, h2, h3, h4, h5, hr⟩ := h
  exact ⟨_, block_set hb v, fb_get h0 (by omega), fb_get h1 (by omega), fb_get h2 (by omega), fb_get h3 (by omega), fb_get h4 (by omega), fb_same h5, fb_rest hr (by omega) (by omega)⟩
end Go.Proofs.Ytpfmdlmnmagkmaa
