/- Rows of bytes of the call's own, told by a function of places: copied into, cleared, read back as a text. -/
import Derived.Test.YtcfilepilgjlaaaDoorZa
import Derived.Test.YtcfilepilgjlaaaDoorBr
import Derived.Laws.CopyRow
import Derived.Lib.BufferWrite
import Derived.Lib.SliceRun
import Derived.Laws.AppendOwn
namespace Go.Proofs.YtcfilepilgjlaaaDoor
open Go.RowKit

def R8 (w : World) (g n : Nat) (f : Nat → UInt8) : Prop :=
  ∃ cur : Array Value, w.heap[g]? = some (.cells cur 5) ∧ n ≤ cur.size ∧ ∀ j, j < n → cur[j]? = some (.int .u8 (((f j).toNat : Nat) : Int))
theorem R8.lt {w : World} {g n : Nat} {f : Nat → UInt8} (h : R8 w g n f) : g < w.heap.size := by
  obtain ⟨cur, hg, _⟩ := h; exact lt_of_block hg
theorem R8.cell {w : World} {g n : Nat} {f : Nat → UInt8} (h : R8 w g n f) (j : Nat) (hj : j < n) : w.cell? ⟨g, j, none⟩ = some (.int .u8 (((f j).toNat : Nat) : Int)) := by
  obtain ⟨cur, hg, _, hc⟩ := h
  rw [cell_of hg]; exact hc j hj
theorem R8.free {w : World} {g n : Nat} {f : Nat → UInt8} (h : R8 w g n f) (j : Nat) : w.frozen? ⟨g, j, none⟩ = false := by
  obtain ⟨cur, hg, _, _⟩ := h
  exact free_of hg j
theorem R8.keep {w w' : World} {g n : Nat} {f : Nat → UInt8} (h : R8 w g n f) (hk : w'.heap[g]? = w.heap[g]?) : R8 w' g n f := by
  obtain ⟨cur, hg, r⟩ := h
  exact ⟨cur, hk.trans hg, r⟩
theorem R8.grow {w w' : World} {g n : Nat} {f : Nat → UInt8} (h : R8 w g n f) (hu : Upd noBlock w w') : R8 w' g n f := h.keep (hu.block g h.lt (fun h => h))
theorem R8.upd {w w' : World} {g n : Nat} {f : Nat → UInt8} (h : R8 w g n f) {R : Nat → Prop} (hu : Upd R w w') (hR : ¬ R g) : R8 w' g n f := h.keep (hu.block g h.lt hR)
theorem R8.less {w : World} {g n m : Nat} {f : Nat → UInt8} (h : R8 w g n f) (hm : m ≤ n) : R8 w g m f := by
  obtain ⟨cur, hg, hs, hc⟩ := h
  exact ⟨cur, hg, by omega, fun j hj => hc j (by omega)⟩
theorem R8.congr {w : World} {g n : Nat} {f f' : Nat → UInt8} (h : R8 w g n f) (hf : ∀ j, j < n → f j = f' j) : R8 w g n f' := by
  obtain ⟨cur, hg, hs, hc⟩ := h
  exact ⟨cur, hg, hs, fun j hj => by rw [← hf j hj]; exact hc j hj⟩
theorem R8.made (w : World) (m : Nat) : R8 (w.alloc (.cells (madeCells #[.int .u8 0] m) 5)) w.heap.size m (fun _ => 0) := by
  refine ⟨_, heap_alloc_new w _, by simp [size_madeCells], fun j hj => ?_⟩
  simp [madeCells, hj]
  rw [show j % 1 = 0 by omega]
  rfl
theorem R8.set {w : World} {g n : Nat} {f : Nat → UInt8} (h : R8 w g n f) (i : Nat) (v : UInt8) : R8 (w.setCell ⟨g, i, none⟩ (.int .u8 ((v.toNat : Nat) : Int))) g n (fun j => if j = i then v else f j) := by
  obtain ⟨cur, hg, hs, hc⟩ := h
  refine ⟨_, block_set hg _, by rw [Array.size_setIfInBounds]; exact hs, fun j hj => ?_⟩
  rw [Array.getElem?_setIfInBounds]
  by_cases e1 : j = i
  · subst e1
    rw [if_pos rfl, if_pos (by omega)]
    simp only [if_true]
  · rw [if_neg (Ne.symm e1)]
    simp only [if_neg e1]
    exact hc j hj
theorem upd_setRow8 {R : Nat → Prop} {a w : World} (h : Upd R a w) {g : Nat} (hg : R g ∨ a.heap.size ≤ g) (cs : Array Value) : Upd R a (w.setRow g cs) :=
  ⟨h.os, h.tape, h.output, by simpa using h.size, fun i hi hn => (setRow_other w g i cs (by
    rintro rfl
    rcases hg with hg | hg
    · exact hn hg
    · omega)).trans (h.block i hi hn)⟩
/-- the bytes from o on, n of them -/
def bytesAt (f : Nat → UInt8) (o n : Nat) : List UInt8 := (List.range n).map fun j => f (o + j)
theorem bytesAt_length (f : Nat → UInt8) (o n : Nat) : (bytesAt f o n).length = n := by simp [bytesAt]
theorem bytesAt_get (f : Nat → UInt8) (o n j : Nat) (h : j < (bytesAt f o n).length) : (bytesAt f o n)[j] = f (o + j) := by simp [bytesAt]
theorem add_addr8 (g o j : Nat) : (⟨g, o, none⟩ : Addr).add j = ⟨g, o + j, none⟩ := by simp [Addr.add]

section
variable {P : Program}
theorem R8.text {w : World} {g n : Nat} {f : Nat → UInt8} (h : R8 w g n f) (o k cap : Nat) (hk : o + k ≤ n) (src dst : TypeId)
    (hs : P.underlying src = some (.slice 5)) (he : P.underlying 5 = some (.int .u8)) (hd : P.underlying dst = some .string) : (convert src dst (.slice (some ⟨g, o, none⟩) k cap)).run P w = .ok (.string ⟨(bytesAt f o k).toArray⟩) w := by
  have hl : (bytesAt f o k).length = k := bytesAt_length _ _ _
  have := run_convert_bytes_back w src dst 5 ⟨g, o, none⟩ cap (bytesAt f o k) hs he hd (fun j hj => by rw [add_addr8, bytesAt_get]; exact h.cell (o + j) (by omega))
  rwa [hl] at this
theorem run_copy_str_min (w : World) (dT sT ty elem : TypeId) (g o dLen dCap : Nat) (s : ByteArray) (cur : Array Value) (t : TypeId)
    (hu : P.underlying dT = some (.slice elem)) (hs : (P.info? elem).map (·.size) = some 1) (hg : w.heap[g]? = some (.cells cur t (0, 0))) (hfit : o + min s.size dLen ≤ cur.size) :
    (Builtin.copy_ #[dT, sT] ty #[.slice (some ⟨g, o, none⟩) dLen dCap, .string s]).run P w =
      .ok (goInt (min s.size dLen : Nat)) (w.setRow g (cur.toList.take o ++ bc (s.data.toList.take (min s.size dLen)) ++ cur.toList.drop (o + min s.size dLen)).toArray) := by
  have hlen : (bc (s.data.toList.take (min s.size dLen))).length = min s.size dLen := by
    rw [bc_length, List.length_take]; show min _ s.size = _; omega
  have hst := run_storeCells_at P g o t (bc (s.data.toList.take (min s.size dLen))) 0 cur w hg (by rw [hlen]; simpa using hfit) (bc_one _)
  have htk : List.take (min s.size dLen) (List.map (fun b : UInt8 => Value.int IntKind.u8 (b.toNat : Int)) s.data.toList) = bc (s.data.toList.take (min s.size dLen)) := by
    rw [← List.map_take]
    rfl
  rw [hlen] at hst
  simp only [Nat.add_zero] at hst
  cases hq : P.info? elem with
  | none => simp [hq] at hs
  | some i =>
    simp [Builtin.copy_, run_underlying hu, Builtin.lenOf, Builtin.firstCells, sizeOf, typeInfo, hq]
    have e1 : Nat.min s.size dLen = min s.size dLen := rfl
    rw [e1, htk, hst]
    simp [Result.andThen]
end
/-- a row with some places written anew -/
def laid (f : Nat → UInt8) (o : Nat) (s : List UInt8) (n : Nat) : Nat → UInt8 := fun j => if o ≤ j ∧ j < o + n then s.getD (j - o) 0 else f j
theorem R8.wrote {w : World} {g n o m : Nat} {f : Nat → UInt8} {cur : Array Value} (hg : w.heap[g]? = some (.cells cur 5)) (hs : n ≤ cur.size) (hc : ∀ j, j < n → cur[j]? = some (.int .u8 (((f j).toNat : Nat) : Int))) (s : List UInt8) (hm : m = s.length) (ho : o + m ≤ n) :
    R8 (w.setRow g (cur.toList.take o ++ bc s ++ cur.toList.drop (o + m)).toArray) g n (laid f o s m) := by
  have hbl : (bc s).length = m := by rw [bc_length, hm]
  have hcl : cur.toList.length = cur.size := rfl
  refine ⟨_, setRow_heap w g cur _ 5 (0, 0) hg, ?_, fun j hj => ?_⟩
  · simp only [List.size_toArray, List.length_append, List.length_take, List.length_drop, hbl]; omega
  · simp only [List.getElem?_toArray]
    unfold laid
    have htl : (cur.toList.take o).length = o := by rw [List.length_take]; omega
    by_cases h1 : j < o
    · rw [if_neg (by omega), List.append_assoc, List.getElem?_append_left (by omega), List.getElem?_take, if_pos h1, Array.getElem?_toList]
      exact hc j hj
    · rw [List.append_assoc, List.getElem?_append_right (by omega), htl]
      by_cases h2 : j < o + m
      · rw [if_pos ⟨by omega, h2⟩, List.getElem?_append_left (by omega)]
        show (s.map _)[j - o]? = _
        rw [List.getElem?_map, List.getD_eq_getElem?_getD, List.getElem?_eq_getElem (by omega)]
        rfl
      · rw [if_neg (by omega), List.getElem?_append_right (by omega), hbl, List.getElem?_drop, show o + m + (j - o - m) = j by omega, Array.getElem?_toList]
        exact hc j hj
theorem own_grow8 {w w' : World} {B : Nat} {e : TypeId} {n m : Nat} {v : Value} {xs : List Value} (h : w.ownsRow B e n v m xs) (hu : Upd noBlock w w') : w'.ownsRow B e n v m xs := by
  obtain ⟨hl, h⟩ := h
  refine ⟨hl, ?_⟩
  rcases h with ⟨h1, h2⟩ | ⟨g, cap, cur, rfl, hb, hg, r⟩
  · exact .inl ⟨h1, h2⟩
  · exact .inr ⟨g, cap, cur, rfl, hb, (hu.block g (lt_of_block hg) (fun h => h)).trans hg, r⟩
theorem own_base8 {w : World} {B : Nat} {e : TypeId} {n m : Nat} {v : Value} {xs : List Value} (h : w.ownsRow B e n v m xs) : ∀ k, v.ownBlock = some k → B ≤ k ∧ ∃ C, w.heap[k]? = some (.cells C e (0, 0)) := fun k hk => by
  rcases h.2 with ⟨h1, _⟩ | ⟨g, cap, cur, rfl, hb, hg, _⟩
  · rw [h1] at hk; cases hk
  · cases hk; exact ⟨hb, cur, hg⟩
/-- a row of another element type is kept -/
theorem own_other8 {w w' : World} {B B' : Nat} {e e' : TypeId} {n m n' m' : Nat} {v v' : Value} {xs xs' : List Value} (h : w.ownsRow B e n v m xs) (h' : w.ownsRow B' e' n' v' m' xs') (he : e ≠ e') (hg : w.grownBy w' v'.ownBlock) : w'.ownsRow B e n v m xs := by
  obtain ⟨hl, h⟩ := h
  refine ⟨hl, ?_⟩
  rcases h with ⟨h1, h2⟩ | ⟨g, cap, cur, rfl, hb, hgg, r⟩
  · exact .inl ⟨h1, h2⟩
  · refine .inr ⟨g, cap, cur, rfl, hb, (hg.block g (lt_of_block hgg) (fun e1 => ?_)).trans hgg, r⟩
    obtain ⟨_, C, hC⟩ := own_base8 h' g e1.symm
    rw [hC] at hgg
    cases hgg
    exact he rfl
theorem u8Cells : (Tryd.prog.info? 5).map (·.size) = some 1 := by kernel_rfl
theorem R8.copyS {w : World} {g n : Nat} {f : Nat → UInt8} (h : R8 w g n f) (o dLen dCap : Nat) (s : ByteArray) (ty : TypeId) (ho : o + min s.size dLen ≤ n) :
    ∃ w', (Builtin.copy_ #[37, 9] ty #[.slice (some ⟨g, o, none⟩) dLen dCap, .string s]).run Tryd.prog w = .ok (goInt (min s.size dLen : Nat)) w' ∧ R8 w' g n (laid f o (s.data.toList.take (min s.size dLen)) (min s.size dLen)) ∧ Upd (oneBlock g) w w' := by
  obtain ⟨cur, hg, hs, hc⟩ := h
  have hrun := run_copy_str_min (P := Tryd.prog) w 37 9 ty 5 g o dLen dCap s cur 5 Tryd.underlying37 u8Cells hg (by omega)
  exact ⟨_, hrun, R8.wrote hg hs hc _ (by rw [List.length_take]; show _ = min _ s.size; omega) ho, upd_setRow8 (R := oneBlock g) (Upd.refl _ _) (.inl rfl) _⟩
theorem R8.copyB {w : World} {g n g' n' : Nat} {f f' : Nat → UInt8} (h : R8 w g n f) (h' : R8 w g' n' f') (o dLen dCap o' sLen sCap : Nat) (ty : TypeId) (ho : o + min sLen dLen ≤ n) (ho' : o' + min sLen dLen ≤ n') :
    ∃ w', (Builtin.copy_ #[37, 37] ty #[.slice (some ⟨g, o, none⟩) dLen dCap, .slice (some ⟨g', o', none⟩) sLen sCap]).run Tryd.prog w = .ok (goInt (min sLen dLen : Nat)) w' ∧ R8 w' g n (laid f o (bytesAt f' o' (min sLen dLen)) (min sLen dLen)) ∧ Upd (oneBlock g) w w' := by
  obtain ⟨cur, hg, hs, hc⟩ := h
  have hl : (bc (bytesAt f' o' (min sLen dLen))).length = min sLen dLen := by rw [bc_length, bytesAt_length]
  have hrun := run_copy_row (P := Tryd.prog) w 37 37 ty 5 g o dLen dCap ⟨g', o', none⟩ sLen sCap cur 5 (bc (bytesAt f' o' (min sLen dLen))) Tryd.underlying37 u8Cells hg hl
    (fun j v hj => by
      have hjm : j < min sLen dLen := by have := (List.getElem?_eq_some_iff.1 hj).1; omega
      have e1 : (bc (bytesAt f' o' (min sLen dLen)))[j]? = some (.int .u8 (((f' (o' + j)).toNat : Nat) : Int)) := by
        show (List.map _ _)[j]? = _
        rw [List.getElem?_map, List.getElem?_eq_getElem (by rw [bytesAt_length]; exact hjm), bytesAt_get]
        rfl
      rw [← hj, e1, add_addr8]
      exact h'.cell (o' + j) (by omega)) (by rw [hl]; omega) (bc_one _)
  rw [hl] at hrun
  exact ⟨_, hrun, R8.wrote hg hs hc _ (by rw [bytesAt_length]) ho, upd_setRow8 (R := oneBlock g) (Upd.refl _ _) (.inl rfl) _⟩
theorem zero8 (w : World) : (zeroValue 5).run Tryd.prog w = .ok (.int .u8 0) w := by kernel_rfl
theorem R8.clear {w : World} {g n : Nat} {f : Nat → UInt8} (h : R8 w g n f) (o m c : Nat) (ty : TypeId) (hm : 0 < m) (ho : o + m ≤ n) :
    ∃ w', (Builtin.clear_ #[37] ty #[.slice (some ⟨g, o, none⟩) m c]).run Tryd.prog w = .ok (.tuple #[]) w' ∧ R8 w' g n (fun j => if o ≤ j ∧ j < o + m then 0 else f j) ∧ Upd (oneBlock g) w w' := by
  have hrun := Lib.run_clear_slice (P := Tryd.prog) w 37 5 ty (.int .u8 0) Tryd.underlying37 zero8 rfl rfl g o m c hm (fun j hj => by rw [h.cell (o + j) (by omega)]; rfl) (fun j hj => h.free _)
  obtain ⟨cur, hg, hs, hc⟩ := h
  have hset := setCells_blockZ g 5 (0, 0) (List.replicate m (.int .u8 0)) o w cur hg (by rw [List.length_replicate]; omega)
  obtain ⟨s1, s2, s3, s4, s5⟩ := setCells_upd g (List.replicate m (.int .u8 0)) o w
  have hcl : cur.toList.length = cur.size := rfl
  refine ⟨_, hrun, ⟨_, hset, ?_, fun j hj => ?_⟩, ⟨s3, s4, s5, Nat.le_of_eq s1.symm, fun k _ hk => s2 k (fun e => hk e)⟩⟩
  · simp only [List.size_toArray, List.length_append, List.length_take, List.length_drop, List.length_replicate]; omega
  · simp only [List.getElem?_toArray]
    have htl : (cur.toList.take o).length = o := by rw [List.length_take]; omega
    by_cases h1 : j < o
    · rw [if_neg (by omega), List.append_assoc, List.getElem?_append_left (by omega), List.getElem?_take, if_pos h1, Array.getElem?_toList]
      exact hc j hj
    · rw [List.append_assoc, List.getElem?_append_right (by omega), htl]
      by_cases h2 : j < o + m
      · rw [if_pos ⟨by omega, h2⟩, List.getElem?_append_left (by rw [List.length_replicate]; omega), List.getElem?_replicate, if_pos (by omega)]
        rfl
      · rw [if_neg (by omega), List.getElem?_append_right (by rw [List.length_replicate]; omega), List.length_replicate, List.getElem?_drop, show o + m + (j - o - m) = j by omega, Array.getElem?_toList]
        exact hc j hj
end Go.Proofs.YtcfilepilgjlaaaDoor
