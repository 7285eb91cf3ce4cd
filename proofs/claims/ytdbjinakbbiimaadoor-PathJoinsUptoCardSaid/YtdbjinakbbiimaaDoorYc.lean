/- Names; the program's Split. -/
import Derived.Test.YtdbjinakbbiimaaDoorYb
import Derived.Test.YtdbjinakbbiimaaDoorBy
import Derived.Test.YtdbjinakbbiimaaDoorShelf
namespace Go.Proofs.YtdbjinakbbiimaaDoor
open Go.RowKit
set_option linter.unusedVariables false

/-- the library's limit for short texts is there -/
def Ml (w : World) : Prop := ∃ m, w.cell? ⟨0, 0, none⟩ = some (.int .i64 m)
theorem Ml.upd {w w' : World} (h : Ml w) (hu : Upd noBlock w w') : Ml w' := by
  obtain ⟨m, hm⟩ := h
  exact ⟨m, upd_cell hu hm⟩
/-- lists of bytes as strings -/
def toB (xs : List (List UInt8)) : List ByteArray := xs.map fun l => ⟨l.toArray⟩
theorem toB_len (xs : List (List UInt8)) : (toB xs).length = xs.length := by simp [toB]
theorem toB_back (xs : List (List UInt8)) : (toB xs).map (·.data.toList) = xs := by
  unfold toB; rw [List.map_map]
  conv => rhs; rw [← List.map_id xs]
  rfl
theorem toB_of (Ss : List ByteArray) : toB (Ss.map (·.data.toList)) = Ss := by
  unfold toB; rw [List.map_map]
  conv => rhs; rw [← List.map_id Ss]
  rfl
theorem toB_inj {xs ys : List (List UInt8)} (h : toB xs = toB ys) : xs = ys := by rw [← toB_back xs, h, toB_back]
theorem toB_any (xs : List (List UInt8)) (f : List UInt8 → Bool) : (toB xs).any (fun s => f s.data.toList) = xs.any f := by
  unfold toB; rw [List.any_map]; rfl
theorem toB_take (xs : List (List UInt8)) (k : Nat) : (toB xs).take k = toB (xs.take k) := by unfold toB; rw [List.map_take]
theorem idx_cons (b : UInt8) (l : List UInt8) (c : UInt8) : Lib.indexByte (b :: l) c = if b == c then 0 else if Lib.indexByte l c == -1 then -1 else Lib.indexByte l c + 1 := rfl
theorem contains_idx (l : List UInt8) (c : UInt8) : decide (0 ≤ Lib.indexByte l c) = l.contains c := by
  induction l with
  | nil => rfl
  | cons b l ih =>
    rw [List.contains_cons, ← ih, idx_cons]
    have hge := Lib.indexByte_ge l c
    by_cases hb : b = c
    · subst hb; simp
    · have h1 : (b == c) = false := beq_eq_false_iff_ne.2 hb
      have h2 : (c == b) = false := beq_eq_false_iff_ne.2 (Ne.symm hb)
      simp only [h1, h2, Bool.false_or, Bool.false_eq_true, if_false]
      by_cases hm : Lib.indexByte l c = -1
      · rw [hm]; rfl
      · rw [if_neg (by simpa using hm), decide_eq_true (show 0 ≤ Lib.indexByte l c by omega), decide_eq_true (by omega)]
set_option maxRecDepth 100000 in
set_option maxHeartbeats 800000 in
theorem noName_any (s : ByteArray) (w : World) :
    Calls Tryd.prog 18 #[.string s] w fun e w' => e = .returned (.bool (Pt.noName s.data.toList)) ∧ w = w' := by
  have HC := Lib.hid (Tryd.strings_Contains_one s 0 w)
  have HE : Hid (Pt.noName s.data.toList = (s.toList == [] || s.toList == [46] || s.toList == [46, 46] || decide (0 ≤ Lib.indexByte s.data.toList 0))) := by
    show _ = _
    rw [Lib.toList_data, contains_idx]; rfl
  generalize decide (0 ≤ Lib.indexByte s.data.toList 0) = z at *
  generalize Pt.noName s.data.toList = y at *
  by_cases e0 : s.toList = []
  · have h0 : s.toList.isEmpty = true := by rw [e0]; rfl
    have HY : Hid (y = true) := by rw [HE.out, e0]; rfl
    clear e0 HE
    go_enter Tryd.func18, Tryd.ntmps18
    go_wp2_with fail
    go_ret
    exact ⟨ret_bool HY.out.symm, rfl⟩
  · have h0 : s.toList.isEmpty = false := by simpa using e0
    have b0 : (s.toList == []) = false := by simpa using e0
    by_cases e1 : s.toList = [46]
    · have h1 : (s.toList == [46]) = true := by simpa using e1
      have HY : Hid (y = true) := by rw [HE.out, h1, Bool.or_true]; rfl
      clear e0 e1 HE b0
      go_enter Tryd.func18, Tryd.ntmps18
      go_wp2_with fail
      go_ret
      exact ⟨ret_bool HY.out.symm, rfl⟩
    · have h1 : (s.toList == [46]) = false := by simpa using e1
      by_cases e2 : s.toList = [46, 46]
      · have h2 : (s.toList == [46, 46]) = true := by simpa using e2
        have HY : Hid (y = true) := by rw [HE.out, h2, Bool.or_true]; rfl
        clear e0 e1 e2 HE b0
        go_enter Tryd.func18, Tryd.ntmps18
        go_wp2_with fail
        go_ret
        exact ⟨ret_bool HY.out.symm, rfl⟩
      · have h2 : (s.toList == [46, 46]) = false := by simpa using e2
        have HY : Hid (y = z) := by rw [HE.out, b0, h1, h2]; rfl
        clear e0 e1 e2 HE b0
        go_enter Tryd.func18, Tryd.ntmps18
        go_wp2_with (go_at_call 26; (with_reducible refine HC.out.mono ?_); rintro e w1 ⟨rfl, rfl⟩)
        go_ret
        exact ⟨ret_bool HY.out.symm, rfl⟩
set_option maxRecDepth 20000 in
theorem clone_anyY (s : ByteArray) (w : World) (hs : s.size ≤ 281474976710656) :
    Calls Tryd.prog 20 #[.string s] w fun e w' => e = .returned (.string s) ∧ Upd noBlock w w' := by
  have H := Tryd.stringslite_Clone s w hs
  go_enter Tryd.func20, Tryd.ntmps20
  go_wp2_with fail
  refine H.mono ?_
  rintro e w1 ⟨rfl, hb⟩
  have HB := Lib.hid hb
  clear H hb
  go_wp2_with fail
  go_ret
  exact ⟨rfl, Upd.of_below HB.out _⟩
theorem hasPrefix_slash (l : List UInt8) : Lib.hasPrefix l [47] = (l.head? == some 47) := by
  cases l with
  | nil => rfl
  | cons c l =>
    show ((47 == c) && List.isPrefixOf [] l) = (some c == some 47)
    by_cases h : c = 47
    · subst h; rfl
    · rw [beq_eq_false_iff_ne.2 (Ne.symm h)]
      symm
      simpa using h
theorem set_same {α : Type} (C : Array α) (i : Nat) (v : α) (h : C[i]? = some v) : C.setIfInBounds i v = C := by
  apply Array.ext
  · simp
  · intro j h1 h2
    rw [Array.getElem_setIfInBounds]
    split
    · rename_i e
      subst e
      rw [Array.getElem?_eq_getElem h2] at h
      exact (Option.some.inj h).symm
    · rfl
/-- a whole block of strings -/
theorem strs_block {w : World} {g : Nat} {e : TypeId} {Ss : List ByteArray} (h : w.heap[g]? = some (.cells (Ss.map Value.string).toArray e (0, 0))) (hf : ∀ s ∈ Ss, s.size ≤ maxLen) : Strs w w.heap.size (some ⟨g, 0, none⟩) Ss.length Ss :=
  ⟨⟨by simp, fun _ => ⟨g, 0, rfl, lt_of_block h, fun i hi => by rw [Nat.zero_add, cell_of h i]; simp⟩⟩, hf⟩
theorem strs_nil (w : World) (B : Nat) (a : Option Addr) : Strs w B a 0 [] := ⟨Row1.nil _ _ _, fun s hs => by cases hs⟩
theorem splitB_pieces (q : ByteArray) : toB (Pt.pieces q.data.toList) = Lib.splitB ⟨#[47]⟩ 0 (Lib.countB q ⟨#[47]⟩) q := by
  have h := Lib.splitB_data ⟨#[47]⟩ 0 (Lib.countB q ⟨#[47]⟩) q
  have e : Lib.splitK [47] 0 (Lib.count q.data.toList [47]) q.data.toList = Pt.pieces q.data.toList := Pt.splitK_pieces _
  rw [← toB_of (Lib.splitB ⟨#[47]⟩ 0 (Lib.countB q ⟨#[47]⟩) q)]
  congr 1
  rw [← e]
  exact h.symm
theorem pieces_len_le (l : List UInt8) : ∀ x ∈ Pt.pieces l, x.length ≤ l.length := by
  induction l with
  | nil => intro x hx; simp [Pt.pieces] at hx; subst hx; exact Nat.le_refl _
  | cons c l ih =>
    obtain ⟨y, r, h⟩ : ∃ y r, Pt.pieces l = y :: r := by
      cases h : Pt.pieces l with
      | nil => exact absurd h (Pt.pieces_ne l)
      | cons y r => exact ⟨y, r, rfl⟩
    by_cases hc : c = 47
    · subst hc
      rw [Pt.pieces_slash]
      intro x hx
      rcases List.mem_cons.1 hx with rfl | hx
      · exact Nat.zero_le _
      · exact Nat.le_succ_of_le (ih x hx)
    · rw [Pt.pieces_cons hc h]
      rw [h] at ih
      intro x hx
      rcases List.mem_cons.1 hx with rfl | hx
      · exact Nat.succ_le_succ (ih y List.mem_cons_self)
      · exact Nat.le_succ_of_le (ih x (List.mem_cons_of_mem _ hx))
/-- what Split answers, in memory -/
def SplitA (p : List UInt8) (w : World) (e : Ending) (w' : World) : Prop :=
  ∃ a n c, e = .returned (.tuple #[.slice a n c, .int .i64 (Pt.splitP p).2]) ∧ Strs w' w'.heap.size a n (toB (Pt.splitP p).1) ∧ n ≤ c ∧ Upd noBlock w w' ∧ OwnS w' w.heap.size 9 (.slice a n c) (toB (Pt.splitP p).1)
end Go.Proofs.YtdbjinakbbiimaaDoor
