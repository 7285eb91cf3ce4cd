/- Rows of strings of the call's own, told by a function of places. -/
import Derived.Test.YtcfilepilgjlaaaDoorEk
namespace Go.Proofs.YtcfilepilgjlaaaDoor
open Go.RowKit

def RS (w : World) (g n : Nat) (f : Nat → ByteArray) : Prop :=
  ∃ cur : Array Value, w.heap[g]? = some (.cells cur 9) ∧ n ≤ cur.size ∧ ∀ j, j < n → cur[j]? = some (.string (f j))
theorem RS.lt {w : World} {g n : Nat} {f : Nat → ByteArray} (h : RS w g n f) : g < w.heap.size := by
  obtain ⟨cur, hg, _⟩ := h; exact lt_of_block hg
theorem RS.cell {w : World} {g n : Nat} {f : Nat → ByteArray} (h : RS w g n f) (j : Nat) (hj : j < n) : w.cell? ⟨g, j, none⟩ = some (.string (f j)) := by
  obtain ⟨cur, hg, _, hc⟩ := h
  rw [cell_of hg]; exact hc j hj
theorem RS.free {w : World} {g n : Nat} {f : Nat → ByteArray} (h : RS w g n f) (j : Nat) : w.frozen? ⟨g, j, none⟩ = false := by
  obtain ⟨cur, hg, _, _⟩ := h
  exact free_of hg j
theorem RS.keep {w w' : World} {g n : Nat} {f : Nat → ByteArray} (h : RS w g n f) (hk : w'.heap[g]? = w.heap[g]?) : RS w' g n f := by
  obtain ⟨cur, hg, r⟩ := h
  exact ⟨cur, hk.trans hg, r⟩
theorem RS.grow {w w' : World} {g n : Nat} {f : Nat → ByteArray} (h : RS w g n f) (hu : Upd noBlock w w') : RS w' g n f := h.keep (hu.block g h.lt (fun h => h))
theorem RS.congr {w : World} {g n : Nat} {f f' : Nat → ByteArray} (h : RS w g n f) (hf : ∀ j, j < n → f j = f' j) : RS w g n f' := by
  obtain ⟨cur, hg, hs, hc⟩ := h
  exact ⟨cur, hg, hs, fun j hj => by rw [← hf j hj]; exact hc j hj⟩
theorem RS.made (w : World) (m : Nat) : RS (w.alloc (.cells (madeCells #[.string ⟨#[]⟩] m) 9)) w.heap.size m (fun _ => ⟨#[]⟩) := by
  refine ⟨_, heap_alloc_new w _, by simp [size_madeCells], fun j hj => ?_⟩
  simp [madeCells, hj]
  rw [show j % 1 = 0 by omega]
  rfl
theorem RS.set {w : World} {g n : Nat} {f : Nat → ByteArray} (h : RS w g n f) (i : Nat) (v : ByteArray) : RS (w.setCell ⟨g, i, none⟩ (.string v)) g n (fun j => if j = i then v else f j) := by
  obtain ⟨cur, hg, hs, hc⟩ := h
  refine ⟨_, block_set hg _, by rw [Array.size_setIfInBounds]; exact hs, fun j hj => ?_⟩
  rw [Array.getElem?_setIfInBounds]
  by_cases e1 : j = i
  · subst e1
    rw [if_pos rfl, if_pos (by omega)]
    simp only [if_true]
  · rw [if_neg (Ne.symm e1)]
    simp only [if_neg e1]
    exact hc j hj
/-- the texts from o on, m of them -/
def strsAt (f : Nat → ByteArray) (o m : Nat) : List ByteArray := (List.range m).map fun j => f (o + j)
theorem strsAt_length (f : Nat → ByteArray) (o m : Nat) : (strsAt f o m).length = m := by simp [strsAt]
theorem strsAt_getD (f : Nat → ByteArray) (o m j : Nat) (h : j < m) : (strsAt f o m).getD j ⟨#[]⟩ = f (o + j) := by
  rw [List.getD_eq_getElem?_getD, List.getElem?_eq_getElem (by rw [strsAt_length]; exact h)]
  simp [strsAt]
theorem RS.strs {w : World} {g n : Nat} {f : Nat → ByteArray} (h : RS w g n f) (o m : Nat) (hm : o + m ≤ n) (hf : ∀ j, j < n → (f j).size ≤ maxLen) : Strs w (g + 1) (some ⟨g, o, none⟩) m (strsAt f o m) := by
  refine ⟨⟨by rw [List.length_map, strsAt_length], fun _ => ⟨g, o, rfl, Nat.lt_succ_self g, fun i hi => ?_⟩⟩, fun s hs => ?_⟩
  · rw [h.cell (o + i) (by omega), List.getElem?_map, List.getElem?_eq_getElem (by rw [strsAt_length]; exact hi)]
    simp [strsAt]
  · obtain ⟨j, hj, rfl⟩ := List.mem_map.1 hs
    exact hf _ (by have := List.mem_range.1 hj; omega)
theorem spF_strs (f : Nat → ByteArray) (o m j : Nat) (h : j < m * 64) : spF (strsAt f o m) j = (f (o + j / 64)).data.toList.getD (j % 64) 0 := by
  unfold spF; rw [strsAt_getD f o m _ (by omega)]
theorem makeS (m : Nat) (V : Int) (hV : V = (m : Int)) (hm : m ≤ 2147483647) : ∀ w : World, (Instr.makeSlice 23 (.int .i64 V) (.int .i64 V)).run Tryd.prog w = .ok (.slice (some ⟨w.heap.size, 0, none⟩) m m) (w.alloc (.cells (madeCells #[.string ⟨#[]⟩] m) 9)) := by
  subst hV
  exact run_make_row' (P := Tryd.prog) 23 9 (.string ⟨#[]⟩) 16 Tryd.underlying23 strInfo8 rfl .i64 .i64 m (by omega) (by omega)
/-- Plain of no text -/
theorem Plain_none (w : World) :
    Calls Tryd.prog 13 #[.string ⟨#[]⟩] w fun e w' => e = .returned (.tuple #[.string ⟨#[]⟩, .bool false]) ∧ Upd noBlock w w' := by
  have HU := refUnpack_any [] 64 w (by decide)
  have H := Lib.hid HU
  clear HU
  go_enter Tryd.func13, Tryd.ntmps13
  go_wp2_with (go_at_call 23; refine H.out.mono ?_; rintro e w1 ⟨rfl, h⟩; have HA := Lib.hid h; clear h)
  go_ret2
  exact ⟨rfl, HA.out⟩
/-- Plain of a change's text -/
theorem Plain_ch (t : List UInt8) (w : World) (ht : t.length ≤ 64) :
    Calls Tryd.prog 13 #[.string ⟨(if t = [] then [] else packL t).toArray⟩] w fun e w' => e = .returned (.tuple #[.string ⟨t.toArray⟩, .bool (!t.isEmpty)]) ∧ Upd noBlock w w' := by
  by_cases h : t = []
  · subst h
    exact Plain_none w
  · rw [if_neg h]
    have e : (!t.isEmpty) = true := by cases t with | nil => exact absurd rfl h | cons => rfl
    rw [e]
    exact Plain_any t w ht
/-- Cut where nothing is cut -/
theorem Cut_none (nm size x : Int) (l : ByteArray) (w : World) (h0 : 0 ≤ x) (h : size ≤ x) :
    Calls Tryd.prog 12 #[.int .i64 nm, .int .i64 size, .int .i64 x, .string l] w fun e w' => e = .returned (.slice none 0 0) ∧ w = w' := by
  have h1 : ¬ x < 0 := by omega
  go_enter Tryd.func12, Tryd.ntmps12
  go_wp2
  go_ret
  exact ⟨rfl, rfl⟩
end Go.Proofs.YtcfilepilgjlaaaDoor
