/- What is shown, as ConsoleBlanks goes through it: no quoted text breaks a line or ends in a backslash. -/
import Derived.Test.YthcjogigkagmdaaGreatDoorCoe
namespace Go.Proofs.YthcjogigkagmdaaGreatDoor.Con
open Go.Lib
set_option linter.unusedVariables false

/-- 0: outside, 1: in a quoted text, 2: there behind a backslash -/
def okL : Nat → List UInt8 → Bool
  | k, [] => k != 2
  | k, c :: r => if k = 2 then okL 1 r else if k = 1 then (if c = 92 then okL 2 r else if c = 34 then okL 0 r else c != 10 && okL 1 r) else if c = 34 then okL 1 r else okL 0 r
theorem ok_word (r : List UInt8) : ∀ w : List UInt8, w.all okW = true → okL 0 (w ++ r) = okL 0 r
  | [], _ => rfl
  | c :: w, h => by
    rw [List.all_cons, Bool.and_eq_true] at h
    obtain ⟨hc, h⟩ := h
    unfold okW at hc
    simp only [Bool.and_eq_true, bne_iff_ne] at hc
    rw [List.cons_append, okL, if_neg (by decide), if_neg (by decide), if_neg hc.1.2]
    exact ok_word r w h
theorem ok_in {c : UInt8} (r : List UInt8) (h1 : c ≠ 92) (h2 : c ≠ 34) (h3 : c ≠ 10) : okL 1 (c :: r) = okL 1 r := by
  rw [okL, if_neg (by decide), if_pos rfl, if_neg h1, if_neg h2]
  simp [h3]
theorem hexD_n10 : ∀ n : Fin 16, hexD n.val ≠ 10 := by decide
theorem ok_escB (r : List UInt8) (c : UInt8) : okL 1 (escB c ++ r) = okL 1 r := by
  have hs : ∀ x r, okL 1 (92 :: x :: r) = okL 1 r := by
    intro x r
    rw [okL, if_neg (by decide), if_pos rfl, if_pos rfl, okL, if_pos rfl]
  unfold escB
  cases hm : markB c with
  | true => rw [if_pos rfl]; exact hs c r
  | false =>
    rw [if_neg (by decide)]
    unfold markB at hm
    simp only [Bool.or_eq_false_iff, beq_eq_false_iff_ne] at hm
    cases hp : plainB c with
    | true =>
      rw [if_pos rfl]
      refine ok_in r hm.2 hm.1 ?_
      rintro rfl
      revert hp; decide
    | false =>
      rw [if_neg (by decide)]
      have hlt : c.toNat < 256 := c.toNat_lt
      obtain ⟨_, _, a3, a4, _⟩ := hexD_ok ⟨c.toNat / 16, by omega⟩
      obtain ⟨_, _, b3, b4, _⟩ := hexD_ok ⟨c.toNat % 16, by omega⟩
      show okL 1 (92 :: 120 :: hexD (c.toNat / 16) :: hexD (c.toNat % 16) :: r) = _
      rw [hs, ok_in _ a4 a3 (hexD_n10 ⟨c.toNat / 16, by omega⟩), ok_in _ b4 b3 (hexD_n10 ⟨c.toNat % 16, by omega⟩)]
theorem ok_body (r : List UInt8) : ∀ l : List UInt8, okL 1 (l.flatMap escB ++ r) = okL 1 r
  | [] => rfl
  | c :: l => by rw [List.flatMap_cons, List.append_assoc, ok_escB, ok_body r l]
theorem ok_quote (l r : List UInt8) : okL 0 (quoteL l ++ r) = okL 0 r := by
  unfold quoteL
  rw [List.cons_append, okL, if_neg (by decide), if_neg (by decide), if_pos rfl, List.append_assoc, ok_body]
  show okL 1 (34 :: r) = _
  rw [okL, if_neg (by decide), if_pos rfl, if_neg (by decide), if_pos rfl]
def StOk (x : List UInt8) : Prop := ∀ r, okL 0 (x ++ r) = okL 0 r
theorem ok_fd (a : A6) (c : UInt8) : StOk (showFd a c) := by
  intro r
  unfold showFd
  split
  · exact ok_quote _ _
  split
  · exact ok_quote _ _
  split
  · exact ok_quote _ _
  split
  · exact ok_word _ _ (itoa_okW _).1
  · exact ok_word _ _ (itoa_okW _).1
theorem ok_tail (r : List UInt8) : ∀ ps : List (List UInt8), (∀ x ∈ ps, StOk x) → okL 0 (joinTail (List.replicate (0 + 1) 32) ps ++ r) = okL 0 r
  | [], _ => rfl
  | x :: ps, h => by
    have e : joinTail (List.replicate (0 + 1) 32) (x :: ps) = List.replicate (0 + 1) 32 ++ (x ++ joinTail (List.replicate (0 + 1) 32) ps) := by simp [joinTail]
    rw [e, List.append_assoc, List.append_assoc]
    show okL 0 (32 :: (x ++ (joinTail (List.replicate (0 + 1) 32) ps ++ r))) = _
    rw [okL, if_neg (by decide), if_neg (by decide), if_neg (by decide), h x List.mem_cons_self, ok_tail r ps (fun y hy => h y (List.mem_cons_of_mem _ hy))]
theorem ok_line (r : List UInt8) {x : List UInt8} {ps : List (List UInt8)} (h : ∀ y ∈ x :: ps, StOk y) : okL 0 (lineP 0 (x :: ps) ++ 10 :: r) = okL 0 r := by
  unfold lineP
  rw [join_cons, List.append_assoc, h x List.mem_cons_self, ok_tail _ ps (fun y hy => h y (List.mem_cons_of_mem _ hy))]
  rw [okL, if_neg (by decide), if_neg (by decide), if_neg (by decide)]
theorem ok_wordK (k : Nat) : StOk (wordK k) := by
  intro r
  by_cases h : k ≤ 22
  · exact ok_word _ _ (word_ok ⟨k, by omega⟩).2.1
  · have e : cmds[k]? = none := List.getElem?_eq_none (by have e : cmds.length = 23 := by decide
                                                          omega)
    unfold wordK
    rw [List.getD_eq_getElem?_getD, e]; rfl
theorem ok_acts : ∀ acts : List A6, okL 0 (acts.flatMap (wideA false false)) = true
  | [] => rfl
  | a :: acts => by
    rw [List.flatMap_cons]
    unfold wideA
    show okL 0 ((lineP 0 (showP a) ++ 10 :: []) ++ acts.flatMap (wideA false false)) = true
    rw [List.append_assoc]
    show okL 0 (lineP 0 (showP a) ++ 10 :: acts.flatMap (wideA false false)) = true
    unfold showP
    rw [ok_line]
    · exact ok_acts acts
    · intro y hy
      rcases List.mem_cons.1 hy with rfl | hy
      · exact ok_wordK _
      · obtain ⟨c, _, rfl⟩ := List.mem_map.1 hy
        exact ok_fd _ _
theorem ok_show {s : Scr} (h : GoodS s) : okL 0 (showL s) = true := by
  rw [show_good h]
  unfold wideT
  show okL 0 (lineP 0 (wordK 0 :: s.nums.map itoa) ++ 10 :: s.acts.flatMap (wideA false false)) = true
  rw [ok_line]
  · exact ok_acts s.acts
  · intro y hy
    rcases List.mem_cons.1 hy with rfl | hy
    · exact ok_wordK _
    · obtain ⟨c, _, rfl⟩ := List.mem_map.1 hy
      exact fun r => ok_word _ _ (itoa_okW _).1
/-- how much wider, byte by byte -/
theorem wid_le (p q : Bool) : ∀ (l : List UInt8) (k : Nat), (widL p q k l).length ≤ 10 * l.length
  | [], k => by cases k <;> exact Nat.zero_le _
  | c :: r, k => by
    have h0 := wid_le p q r 0
    have h1 := wid_le p q r 1
    have h2 := wid_le p q r 2
    have he : (extL q).length ≤ 9 := by cases q <;> decide
    rw [widL]
    simp only [List.length_cons]
    split
    · simp only [List.length_cons]; omega
    split
    · split
      · simp only [List.length_cons]; omega
      split <;> (simp only [List.length_cons]; omega)
    split
    · simp only [List.length_cons]; omega
    split
    · have : (if p = true then [(32 : UInt8), 32] else []).length ≤ 2 := by cases p <;> decide
      simp only [List.length_cons, List.length_append]; omega
    split
    · simp only [List.length_cons, List.length_append]; omega
    · simp only [List.length_cons]; omega
end Go.Proofs.YthcjogigkagmdaaGreatDoor.Con
