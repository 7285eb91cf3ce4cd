/- Plain: what is shown is read again, with more blanks and lines that say nothing too; lines that say nothing ahead of a text. -/
import Derived.Test.YthcjogigkagmdaaGreatDoorCod
namespace Go.Proofs.YthcjogigkagmdaaGreatDoor.Con
open Go.Lib

theorem escB_ok (c : UInt8) : ∀ x ∈ escB c, x ≠ 10 := by
  unfold escB
  intro x hx
  cases hm : markB c with
  | true =>
    rw [hm, if_pos rfl] at hx
    unfold markB at hm
    simp only [Bool.or_eq_true, beq_iff_eq] at hm
    simp only [List.mem_cons, List.not_mem_nil, or_false] at hx
    rcases hx with rfl | rfl
    · decide
    · rcases hm with rfl | rfl <;> decide
  | false =>
    rw [hm, if_neg (by decide)] at hx
    cases hp : plainB c with
    | true =>
      rw [hp, if_pos rfl] at hx
      have : x = c := by simpa using hx
      subst this
      rintro rfl
      revert hp; decide
    | false =>
      rw [hp, if_neg (by decide)] at hx
      have hlt : c.toNat < 256 := c.toNat_lt
      simp only [List.mem_cons, List.not_mem_nil, or_false] at hx
      rcases hx with rfl | rfl | rfl | rfl
      · decide
      · decide
      · exact (hexD_ok ⟨c.toNat / 16, by omega⟩).2.1
      · exact (hexD_ok ⟨c.toNat % 16, by omega⟩).2.1
theorem quoteL_ok (l : List UInt8) : (10 : UInt8) ∉ quoteL l := by
  unfold quoteL
  intro h
  simp only [List.mem_cons, List.mem_append, List.mem_flatMap, List.not_mem_nil, or_false] at h
  rcases h with h | ⟨c, _, h⟩ | h
  · revert h; decide
  · exact escB_ok c _ h rfl
  · revert h; decide
theorem okW_nl {w : List UInt8} (h : w.all okW = true) : (10 : UInt8) ∉ w := fun hm => by
  have := List.all_eq_true.1 h _ hm
  revert this; decide
theorem showFd_ok (a : A6) (c : UInt8) : (10 : UInt8) ∉ showFd a c := by
  unfold showFd
  split
  · exact quoteL_ok _
  split
  · exact quoteL_ok _
  split
  · exact quoteL_ok _
  split
  · exact okW_nl (itoa_okW _).1
  · exact okW_nl (itoa_okW _).1
theorem join_nl (n : Nat) {ps : List (List UInt8)} (h : ∀ p ∈ ps, (10 : UInt8) ∉ p) : (10 : UInt8) ∉ lineP n ps := by
  unfold lineP
  cases ps with
  | nil => exact fun h => by cases h
  | cons p r =>
    rw [join_cons]
    intro hm
    rcases List.mem_append.1 hm with hm | hm
    · exact h p List.mem_cons_self hm
    · unfold joinTail at hm
      rw [List.mem_flatten] at hm
      obtain ⟨x, hx, hm⟩ := hm
      obtain ⟨q, hq, rfl⟩ := List.mem_map.1 hx
      rcases List.mem_append.1 hm with hm | hm
      · have := (List.mem_replicate.1 hm).2
        revert this; decide
      · exact h q (List.mem_cons_of_mem _ hq) hm
theorem word_all (k : Nat) : (10 : UInt8) ∉ wordK k := by
  by_cases h : k ≤ 22
  · exact okW_nl (word_ok ⟨k, by omega⟩).2.1
  · have e : cmds[k]? = none := List.getElem?_eq_none (by have e : cmds.length = 23 := by decide
                                                          omega)
    unfold wordK
    rw [List.getD_eq_getElem?_getD, e]
    exact fun h => by cases h
theorem showP_ok (a : A6) : ∀ p ∈ showP a, (10 : UInt8) ∉ p := by
  intro p hp
  unfold showP at hp
  rcases List.mem_cons.1 hp with rfl | hp
  · exact word_all _
  · obtain ⟨c, _, rfl⟩ := List.mem_map.1 hp
    exact showFd_ok a c
theorem geo_ok (g : List Int) : ∀ p ∈ wordK 0 :: g.map itoa, (10 : UInt8) ∉ p := by
  intro p hp
  rcases List.mem_cons.1 hp with rfl | hp
  · exact word_all _
  · obtain ⟨c, _, rfl⟩ := List.mem_map.1 hp
    exact okW_nl (itoa_okW _).1
/-- lines that say nothing -/
def extL (q : Bool) : List UInt8 := if q = true then [10, 35, 32, 110, 111, 10, 32, 32, 10] else []
def bl (p : Bool) : Nat := if p = true then 2 else 0
def wideA (p q : Bool) (a : A6) : List UInt8 := lineP (bl p) (showP a) ++ 10 :: extL q
def wideT (p q : Bool) (s : Scr) : List UInt8 := lineP (bl p) (wordK 0 :: s.nums.map itoa) ++ 10 :: (extL q ++ s.acts.flatMap (wideA p q))
theorem lines_ext (q : Bool) (r : List UInt8) : linesOf (extL q ++ r) = (if q = true then [[], [35, 32, 110, 111], [32, 32]] else []) ++ linesOf r := by
  cases q with
  | false => rfl
  | true =>
    show linesOf ([] ++ 10 :: ([35, 32, 110, 111] ++ 10 :: ([32, 32] ++ 10 :: r))) = _
    rw [linesOf_line _ (by decide), linesOf_line _ (by decide), linesOf_line _ (by decide)]; rfl
theorem run_ext (q : Bool) (m : Nat) (s : Scr) (L : List (List UInt8)) : ∃ m', runL m s ((if q = true then [[], [35, 32, 110, 111], [32, 32]] else []) ++ L) = runL m' s L := by
  cases q with
  | false => exact ⟨m, rfl⟩
  | true =>
    refine ⟨m + 3, ?_⟩
    have e1 : takeL s [] = (s, 0) := rfl
    have e2 : takeL s [35, 32, 110, 111] = (s, 0) := rfl
    have e3 : takeL s [32, 32] = (s, 0) := rfl
    show runL m s ([] :: [35, 32, 110, 111] :: [32, 32] :: L) = _
    rw [runL, e1, if_pos rfl, runL, e2, if_pos rfl, runL, e3, if_pos rfl]
theorem run_acts (p q : Bool) : ∀ (acts : List A6) (m : Nat) (s : Scr), (∀ a ∈ acts, GoodA a) → runL m s (linesOf (acts.flatMap (wideA p q))) = ({ s with acts := s.acts ++ acts }, 0, 0)
  | [], m, s, _ => by rw [List.append_nil]; rfl
  | a :: acts, m, s, h => by
    have e : (a :: acts).flatMap (wideA p q) = lineP (bl p) (showP a) ++ 10 :: (extL q ++ acts.flatMap (wideA p q)) := by
      rw [List.flatMap_cons]
      unfold wideA
      rw [List.append_assoc]; rfl
    rw [e, linesOf_line _ (join_nl _ (showP_ok a)), lines_ext, runL, take_act (h a List.mem_cons_self), if_pos rfl]
    obtain ⟨m', hm⟩ := run_ext q (m + 1) { s with acts := s.acts ++ [a] } (linesOf (acts.flatMap (wideA p q)))
    show runL (m + 1) { s with acts := s.acts ++ [a] } _ = _
    rw [hm, run_acts p q acts m' _ (fun x hx => h x (List.mem_cons_of_mem _ hx))]
    show (({ s with acts := (s.acts ++ [a]) ++ acts } : Scr), _, _) = _
    rw [List.append_assoc]; rfl
theorem run_wide (p q : Bool) {s : Scr} (h : GoodS s) : runL 0 zS (linesOf (wideT p q s)) = (s, 0, 0) := by
  unfold wideT
  rw [linesOf_line _ (join_nl _ (geo_ok _)), lines_ext, runL, take_geo h.five h.nine, if_pos rfl]
  obtain ⟨m', hm⟩ := run_ext q 1 { zS with nums := s.nums } (linesOf (s.acts.flatMap (wideA p q)))
  show runL 1 { zS with nums := s.nums } _ = _
  rw [hm, run_acts p q s.acts m' _ h.acts]
  show (({ nums := s.nums, acts := [] ++ s.acts } : Scr), _, _) = _
  rw [List.nil_append]
theorem showA_good {a : A6} (h : GoodA a) : showA a = wideA false false a := by
  obtain ⟨k, h1, h2, hk, _⟩ := h.back
  unfold showA
  rw [if_pos]
  · rfl
  · rw [Bool.and_eq_true, decide_eq_true_eq, decide_eq_true_eq]; omega
theorem flat_good {L : List A6} (h : ∀ a ∈ L, GoodA a) : L.flatMap showA = L.flatMap (wideA false false) := by
  induction L with
  | nil => rfl
  | cons a L ih => rw [List.flatMap_cons, List.flatMap_cons, showA_good (h a List.mem_cons_self), ih (fun x hx => h x (List.mem_cons_of_mem _ hx))]
theorem show_good {s : Scr} (h : GoodS s) : showL s = wideT false false s := by
  unfold showL wideT showG
  rw [flat_good h.acts, List.append_assoc]; rfl
/-- a script that was read is shown, and read again -/
theorem parse_show {s : Scr} (h : GoodS s) (hl : (showL s).length ≤ 65536) : parseL (showL s) = (s, 0, 0) := by
  unfold parseL
  rw [if_neg (by omega), show_good h]
  exact run_wide false false h
/-! more blanks, and lines that say nothing -/
/-- 0: outside, 1: in a quoted text, 2: there behind a backslash -/
def widL (p q : Bool) : Nat → List UInt8 → List UInt8
  | _, [] => []
  | k, c :: r => if k = 2 then c :: widL p q 1 r else if k = 1 then (if c = 92 then c :: widL p q 2 r else if c = 34 then c :: widL p q 0 r else c :: widL p q 1 r)
    else if c = 34 then c :: widL p q 1 r else if c = 32 then c :: ((if p = true then [32, 32] else []) ++ widL p q 0 r) else if c = 10 then c :: (extL q ++ widL p q 0 r) else c :: widL p q 0 r
theorem wid_word (p q : Bool) (r : List UInt8) : ∀ w : List UInt8, w.all okW = true → widL p q 0 (w ++ r) = w ++ widL p q 0 r
  | [], _ => rfl
  | c :: w, h => by
    rw [List.all_cons, Bool.and_eq_true] at h
    obtain ⟨hc, h⟩ := h
    unfold okW at hc
    simp only [Bool.and_eq_true, bne_iff_ne] at hc
    rw [List.cons_append, List.cons_append, ← wid_word p q r w h, widL, if_neg (by decide), if_neg (by decide), if_neg hc.1.2, if_neg hc.1.1, if_neg hc.2]
theorem wid_in (p q : Bool) {c : UInt8} (r : List UInt8) (h1 : c ≠ 92) (h2 : c ≠ 34) : widL p q 1 (c :: r) = c :: widL p q 1 r := by
  rw [widL, if_neg (by decide), if_pos rfl, if_neg h1, if_neg h2]
theorem wid_escB (p q : Bool) (r : List UInt8) (c : UInt8) : widL p q 1 (escB c ++ r) = escB c ++ widL p q 1 r := by
  have hs : ∀ x r, widL p q 1 (92 :: x :: r) = 92 :: x :: widL p q 1 r := by
    intro x r
    rw [widL, if_neg (by decide), if_pos rfl, if_pos rfl, widL, if_pos rfl]
  unfold escB
  cases hm : markB c with
  | true => rw [if_pos rfl]; exact hs c r
  | false =>
    rw [if_neg (by decide)]
    unfold markB at hm
    simp only [Bool.or_eq_false_iff, beq_eq_false_iff_ne] at hm
    cases hp : plainB c with
    | true => rw [if_pos rfl]; exact wid_in p q r hm.2 hm.1
    | false =>
      rw [if_neg (by decide)]
      have hlt : c.toNat < 256 := c.toNat_lt
      obtain ⟨_, _, a3, a4, _⟩ := hexD_ok ⟨c.toNat / 16, by omega⟩
      obtain ⟨_, _, b3, b4, _⟩ := hexD_ok ⟨c.toNat % 16, by omega⟩
      show widL p q 1 (92 :: 120 :: hexD (c.toNat / 16) :: hexD (c.toNat % 16) :: r) = _
      rw [hs, wid_in p q _ a4 a3, wid_in p q _ b4 b3]; rfl
theorem wid_body (p q : Bool) (r : List UInt8) : ∀ l : List UInt8, widL p q 1 (l.flatMap escB ++ r) = l.flatMap escB ++ widL p q 1 r
  | [] => rfl
  | c :: l => by rw [List.flatMap_cons, List.append_assoc, wid_escB, wid_body p q r l, List.append_assoc]
theorem wid_quote (p q : Bool) (l r : List UInt8) : widL p q 0 (quoteL l ++ r) = quoteL l ++ widL p q 0 r := by
  unfold quoteL
  rw [List.cons_append, widL, if_neg (by decide), if_neg (by decide), if_pos rfl, List.append_assoc, wid_body]
  show 34 :: (l.flatMap escB ++ widL p q 1 (34 :: r)) = _
  rw [widL, if_neg (by decide), if_pos rfl, if_neg (by decide), if_pos rfl, List.cons_append, List.append_assoc]; rfl
/-- a piece that is as it is -/
def Stays (p q : Bool) (x : List UInt8) : Prop := ∀ r, widL p q 0 (x ++ r) = x ++ widL p q 0 r
theorem stays_fd (p q : Bool) (a : A6) (c : UInt8) : Stays p q (showFd a c) := by
  intro r
  unfold showFd
  split
  · exact wid_quote _ _ _ _
  split
  · exact wid_quote _ _ _ _
  split
  · exact wid_quote _ _ _ _
  split
  · exact wid_word _ _ _ _ (itoa_okW _).1
  · exact wid_word _ _ _ _ (itoa_okW _).1
theorem wid_tail (p q : Bool) (r : List UInt8) : ∀ ps : List (List UInt8), (∀ x ∈ ps, Stays p q x) → widL p q 0 (joinTail (List.replicate (0 + 1) 32) ps ++ r) = joinTail (List.replicate (bl p + 1) 32) ps ++ widL p q 0 r
  | [], _ => rfl
  | x :: ps, h => by
    have e : ∀ n, joinTail (List.replicate (n + 1) 32) (x :: ps) = List.replicate (n + 1) 32 ++ (x ++ joinTail (List.replicate (n + 1) 32) ps) := fun n => by simp [joinTail]
    rw [e, e, List.append_assoc, List.append_assoc]
    show widL p q 0 (32 :: (x ++ (joinTail (List.replicate (0 + 1) 32) ps ++ r))) = _
    rw [widL, if_neg (by decide), if_neg (by decide), if_neg (by decide), if_pos rfl, h x List.mem_cons_self, wid_tail p q r ps (fun y hy => h y (List.mem_cons_of_mem _ hy))]
    cases p <;> simp [bl, List.replicate_succ]
theorem wid_line (p q : Bool) (r : List UInt8) {x : List UInt8} {ps : List (List UInt8)} (h : ∀ y ∈ x :: ps, Stays p q y) : widL p q 0 (lineP 0 (x :: ps) ++ 10 :: r) = lineP (bl p) (x :: ps) ++ 10 :: (extL q ++ widL p q 0 r) := by
  unfold lineP
  rw [join_cons, join_cons, List.append_assoc, h x List.mem_cons_self, wid_tail p q _ ps (fun y hy => h y (List.mem_cons_of_mem _ hy)), List.append_assoc]
  rw [widL, if_neg (by decide), if_neg (by decide), if_neg (by decide), if_neg (by decide), if_pos rfl]
theorem stays_word (p q : Bool) (k : Nat) : Stays p q (wordK k) := by
  intro r
  by_cases h : k ≤ 22
  · exact wid_word _ _ _ _ (word_ok ⟨k, by omega⟩).2.1
  · have e : cmds[k]? = none := List.getElem?_eq_none (by have e : cmds.length = 23 := by decide
                                                          omega)
    unfold wordK
    rw [List.getD_eq_getElem?_getD, e]; rfl
theorem wid_acts (p q : Bool) : ∀ acts : List A6, widL p q 0 (acts.flatMap (wideA false false)) = acts.flatMap (wideA p q)
  | [] => rfl
  | a :: acts => by
    have e : ∀ p q, (a :: acts).flatMap (wideA p q) = lineP (bl p) (showP a) ++ 10 :: (extL q ++ acts.flatMap (wideA p q)) := by
      intro p q
      rw [List.flatMap_cons]
      unfold wideA
      rw [List.append_assoc]; rfl
    rw [e, e]
    show widL p q 0 (lineP 0 (showP a) ++ 10 :: acts.flatMap (wideA false false)) = _
    unfold showP
    rw [wid_line, wid_acts p q acts]
    intro y hy
    rcases List.mem_cons.1 hy with rfl | hy
    · exact stays_word _ _ _
    · obtain ⟨c, _, rfl⟩ := List.mem_map.1 hy
      exact stays_fd _ _ _ _
theorem wid_show (p q : Bool) {s : Scr} (h : GoodS s) : widL p q 0 (showL s) = wideT p q s := by
  rw [show_good h]
  unfold wideT
  show widL p q 0 (lineP 0 (wordK 0 :: s.nums.map itoa) ++ 10 :: s.acts.flatMap (wideA false false)) = _
  rw [wid_line, wid_acts p q s.acts]
  intro y hy
  rcases List.mem_cons.1 hy with rfl | hy
  · exact stays_word _ _ _
  · obtain ⟨c, _, rfl⟩ := List.mem_map.1 hy
    exact fun r => wid_word _ _ _ _ (itoa_okW _).1
/-! how long it gets -/
theorem tail_len (n : Nat) (ps : List (List UInt8)) : (joinTail (List.replicate (n + 1) 32) ps).length = (n + 1) * ps.length + lens ps := by
  rw [joinTail_length, List.length_replicate]
theorem bl_le (p : Bool) : bl p ≤ 2 := by cases p <;> decide
theorem ext_le (q : Bool) : (extL q).length ≤ 9 := by cases q <;> decide
theorem lens_pos {ps : List (List UInt8)} (h : ∀ x ∈ ps, x ≠ []) : ps.length ≤ lens ps := by
  induction ps with
  | nil => exact Nat.zero_le _
  | cons x ps ih =>
    have h1 := ih (fun y hy => h y (List.mem_cons_of_mem _ hy))
    have h2 : 1 ≤ x.length := by
      rcases Nat.eq_zero_or_pos x.length with e | e
      · exact absurd (List.eq_nil_of_length_eq_zero e) (h x List.mem_cons_self)
      · exact e
    have : lens (x :: ps) = x.length + lens ps := by simp [lens]
    rw [List.length_cons]; omega
theorem line_len (p q : Bool) {x : List UInt8} {ps : List (List UInt8)} (hx : 3 ≤ x.length) : (lineP (bl p) (x :: ps) ++ 10 :: extL q).length ≤ 5 * (lineP 0 (x :: ps) ++ [10]).length := by
  unfold lineP
  rw [join_cons, join_cons]
  simp only [List.length_append, List.length_cons, List.length_nil, tail_len]
  have h1 := bl_le p
  have h2 := ext_le q
  have h3 : (bl p + 1) * ps.length ≤ 3 * ps.length := Nat.mul_le_mul_right _ (by omega)
  omega
theorem word_three : ∀ k : Fin 23, 3 ≤ (wordK k.val).length := by decide
theorem wide_acts_len (p q : Bool) : ∀ acts : List A6, (∀ a ∈ acts, GoodA a) → (acts.flatMap (wideA p q)).length ≤ 5 * (acts.flatMap (wideA false false)).length
  | [], _ => Nat.le_refl _
  | a :: acts, h => by
    rw [List.flatMap_cons, List.flatMap_cons, List.length_append, List.length_append]
    have h1 := wide_acts_len p q acts (fun x hx => h x (List.mem_cons_of_mem _ hx))
    obtain ⟨k, k1, k2, hk, _⟩ := (h a List.mem_cons_self).back
    have h2 : (wideA p q a).length ≤ 5 * (wideA false false a).length := by
      unfold wideA showP
      refine line_len p q ?_
      rw [hk]
      exact word_three ⟨k, by omega⟩
    omega
theorem wide_len (p q : Bool) {s : Scr} (h : GoodS s) : (wideT p q s).length ≤ 5 * (showL s).length := by
  rw [show_good h]
  have e : ∀ p q, wideT p q s = (lineP (bl p) (wordK 0 :: s.nums.map itoa) ++ 10 :: extL q) ++ s.acts.flatMap (wideA p q) := fun p q => by
    unfold wideT
    rw [List.append_assoc]; rfl
  rw [e, e, List.length_append (as := lineP (bl p) (wordK 0 :: s.nums.map itoa) ++ 10 :: extL q)]
  have h1 := wide_acts_len p q s.acts h.acts
  have h2 : (lineP (bl p) (wordK 0 :: s.nums.map itoa) ++ 10 :: extL q).length ≤ 5 * (lineP 0 (wordK 0 :: s.nums.map itoa) ++ [10]).length := line_len p q (word_three ⟨0, by omega⟩)
  have h3 : (lineP (bl false) (wordK 0 :: s.nums.map itoa) ++ 10 :: extL false) = lineP 0 (wordK 0 :: s.nums.map itoa) ++ [10] := rfl
  rw [h3, List.length_append (as := lineP 0 (wordK 0 :: s.nums.map itoa) ++ [10])]
  exact Nat.le_trans (Nat.add_le_add h2 h1) (by omega)
theorem parse_wide (p q : Bool) {s : Scr} (h : GoodS s) (hl : (showL s).length ≤ 9000) : parseL (widL p q 0 (showL s)) = (s, 0, 0) := by
  rw [wid_show p q h]
  unfold parseL
  rw [if_neg (by have := wide_len p q h; omega)]
  exact run_wide p q h
/-! lines that say nothing ahead -/
def noL : Nat → List UInt8
  | 0 => []
  | k + 1 => noL k ++ [35, 32, 110, 111, 10]
theorem noL_len (k : Nat) : (noL k).length = 5 * k := by
  induction k with
  | zero => rfl
  | succ k ih => rw [noL, List.length_append, ih]; simp; omega
theorem run_no : ∀ (k m : Nat) (s : Scr) (t : List UInt8), runL m s (linesOf (noL k ++ t)) = runL (m + k) s (linesOf t)
  | 0, m, s, t => rfl
  | k + 1, m, s, t => by
    rw [noL, List.append_assoc, run_no k m s]
    show runL (m + k) s (linesOf ([35, 32, 110, 111] ++ 10 :: t)) = _
    have e2 : takeL s [35, 32, 110, 111] = (s, 0) := rfl
    rw [linesOf_line _ (by decide), runL, e2, if_pos rfl]; rfl
theorem run_shift (k : Nat) : ∀ (L : List (List UInt8)) (m : Nat) (s : Scr), (runL (m + k) s L).1 = (runL m s L).1 ∧ (runL (m + k) s L).2.1 = (runL m s L).2.1 ∧ ((runL m s L).2.1 ≠ 0 → (runL (m + k) s L).2.2 = (runL m s L).2.2 + k) ∧ ((runL m s L).2.1 = 0 → (runL m s L).2.2 = 0 ∧ (runL (m + k) s L).2.2 = 0)
  | [], m, s => ⟨rfl, rfl, fun h => absurd rfl h, fun _ => ⟨rfl, rfl⟩⟩
  | l :: L, m, s => by
    rw [runL, runL]
    by_cases h : (takeL s l).2 = 0
    · rw [if_pos h, if_pos h]
      have := run_shift k L (m + 1) (takeL s l).1
      rw [show m + 1 + k = m + k + 1 by omega] at this
      exact this
    · rw [if_neg h, if_neg h]
      exact ⟨rfl, rfl, fun _ => by show m + k + 1 = m + 1 + k; omega, fun e => absurd e h⟩
theorem parse_no (k : Nat) (hk : k ≤ 100) (t : List UInt8) (ht : t.length ≤ 60000) : (parseL (noL k ++ t)).2.1 = (parseL t).2.1 ∧ ((parseL t).2.1 ≠ 0 → (parseL (noL k ++ t)).2.2 = (parseL t).2.2 + k) ∧ ((parseL t).2.1 = 0 → (parseL t).2.2 = 0 ∧ (parseL (noL k ++ t)).2.2 = 0) := by
  unfold parseL
  rw [if_neg (by rw [List.length_append, noL_len]; omega), if_neg (by omega), run_no]
  exact (run_shift k _ 0 zS).2
end Go.Proofs.YthcjogigkagmdaaGreatDoor.Con
