/- What Show answers, plain; a script that was read is shown, and read again. -/
import Derived.Test.YthcjogigkagmdaaGreatDoorCoc
import Derived.Lib.Join
namespace Go.Proofs.YthcjogigkagmdaaGreatDoor.Con
open Go.Lib

def hexD (n : Nat) : UInt8 := if n < 10 then UInt8.ofNat (48 + n) else UInt8.ofNat (55 + n)
def escB (c : UInt8) : List UInt8 := if markB c = true then [92, c] else if plainB c = true then [c] else [92, 120, hexD (c.toNat / 16), hexD (c.toNat % 16)]
def quoteL (l : List UInt8) : List UInt8 := 34 :: (l.flatMap escB ++ [34])
def wordK (k : Nat) : List UInt8 := (cmds.getD k ([], [])).1
def showFd (a : A6) (c : UInt8) : List UInt8 := if c = 80 then quoteL a.path.data.toList else if c = 81 then quoteL a.dest.data.toList else if c = 68 then quoteL a.data.data.toList else if c = 79 then itoa a.off else itoa a.size
def showP (a : A6) : List (List UInt8) := wordK a.kind.toNat :: (letters a.kind.toNat).map (showFd a)
def showA (a : A6) : List UInt8 := if (decide (1 ≤ a.kind) && decide (a.kind ≤ 22)) = true then join (showP a) [32] ++ [10] else []
def showG (n : List Int) : List UInt8 := join (wordK 0 :: n.map itoa) [32] ++ [10]
def showL (s : Scr) : List UInt8 := showG s.nums ++ s.acts.flatMap showA

/-- a text that is read as this field -/
def IsPc (p : List UInt8) (f : Fd) : Prop := ∀ out rest, (rest = [] ∨ rest.head? = some 32) → lexA out .bet (p ++ rest) = lexA (out ++ [f]) .bet rest
def okW (c : UInt8) : Bool := c != 32 && c != 34 && c != 10
theorem isPc_word {w : List UInt8} (h0 : w ≠ []) (h : w.all okW = true) : IsPc w (fd w false) := by
  intro out rest hr
  have hgo : ∀ (v a : List UInt8), v.all okW = true → lexA out (.word a) (v ++ rest) = lexA (out ++ [fd (a ++ v) false]) .bet rest := by
    intro v
    induction v with
    | nil =>
      intro a _
      rcases hr with rfl | hr
      · simp [lexA]
      · cases rest with
        | nil => cases hr
        | cons c r =>
          have : c = 32 := by simpa using hr
          subst this
          rw [List.nil_append, lexA, lexA, if_pos rfl, if_pos rfl, List.append_nil]
    | cons c v ih =>
      intro a hv
      rw [List.all_cons, Bool.and_eq_true] at hv
      obtain ⟨hc, hv⟩ := hv
      unfold okW at hc
      simp only [Bool.and_eq_true, bne_iff_ne] at hc
      rw [List.cons_append, lexA, if_neg hc.1.1, if_neg hc.1.2, ih (a ++ [c]) hv, List.append_assoc]; rfl
  cases w with
  | nil => exact absurd rfl h0
  | cons c w =>
    rw [List.all_cons, Bool.and_eq_true] at h
    obtain ⟨hc, hv⟩ := h
    unfold okW at hc
    simp only [Bool.and_eq_true, bne_iff_ne] at hc
    rw [List.cons_append, lexA, if_neg hc.1.1, if_neg hc.1.2, hgo w [c] hv]; rfl
theorem hexV_hexD : ∀ n : Fin 16, hexV (hexD n.val) = some n.val := by decide
theorem hexD_ok : ∀ n : Fin 16, plainB (hexD n.val) = true ∧ hexD n.val ≠ 10 ∧ hexD n.val ≠ 34 ∧ hexD n.val ≠ 92 ∧ hexD n.val ≠ 32 := by decide
theorem lex_escB (out : List Fd) (a r : List UInt8) (c : UInt8) : lexA out (.quo a .n) (escB c ++ r) = lexA out (.quo (a ++ [c]) .n) r := by
  unfold escB
  cases hm : markB c with
  | true =>
    rw [if_pos rfl]
    show lexA out (.quo a .n) (92 :: c :: r) = _
    rw [lexA, if_neg (by decide), if_pos (by decide), if_pos rfl, lexA, if_pos hm]
  | false =>
    rw [if_neg (by decide)]
    unfold markB at hm
    simp only [Bool.or_eq_false_iff, beq_eq_false_iff_ne] at hm
    cases hp : plainB c with
    | true =>
      rw [if_pos rfl]
      show lexA out (.quo a .n) (c :: r) = _
      rw [lexA, if_neg hm.1, if_pos hp, if_neg hm.2]
    | false =>
      rw [if_neg (by decide)]
      show lexA out (.quo a .n) (92 :: 120 :: hexD (c.toNat / 16) :: hexD (c.toNat % 16) :: r) = _
      have hlt : c.toNat < 256 := c.toNat_lt
      have h1 := hexV_hexD ⟨c.toNat / 16, by omega⟩
      have h2 := hexV_hexD ⟨c.toNat % 16, by omega⟩
      rw [lexA, if_neg (by decide), if_pos (by decide), if_pos rfl, lexA, if_neg (by decide), if_pos rfl, lexA, h1]
      show lexA out (.quo a (.h (c.toNat / 16))) _ = _
      rw [lexA, h2]
      show lexA out (.quo (a ++ [UInt8.ofNat (16 * (c.toNat / 16) + c.toNat % 16)]) .n) r = _
      have e : 16 * (c.toNat / 16) + c.toNat % 16 = c.toNat := by omega
      rw [e]
      simp
theorem lex_quoteL (out : List Fd) (r : List UInt8) : ∀ (l a : List UInt8), lexA out (.quo a .n) (l.flatMap escB ++ r) = lexA out (.quo (a ++ l) .n) r
  | [], a => by simp
  | c :: l, a => by
    rw [List.flatMap_cons, List.append_assoc, lex_escB, lex_quoteL out r l, List.append_assoc]; rfl
theorem isPc_quote (l : List UInt8) : IsPc (quoteL l) (fd l true) := by
  intro out rest hr
  unfold quoteL
  rw [List.cons_append, lexA, if_neg (by decide), if_pos rfl, List.append_assoc, lex_quoteL, List.nil_append]
  show lexA out (.quo l .n) (34 :: rest) = _
  rw [lexA, if_pos rfl]
  rcases hr with rfl | hr
  · rfl
  · cases rest with
    | nil => cases hr
    | cons c r =>
      have : c = 32 := by simpa using hr
      subst this
      rw [lexA, lexA, if_pos rfl, if_pos rfl]
theorem lex_reps (out : List Fd) (r : List UInt8) : ∀ n : Nat, lexA out .bet (List.replicate n 32 ++ r) = lexA out .bet r
  | 0 => rfl
  | n + 1 => by rw [List.replicate_succ, List.cons_append, lexA, if_pos rfl]; exact lex_reps out r n
inductive Pcs : List (List UInt8) → List Fd → Prop where
  | nil : Pcs [] []
  | cons {p : List UInt8} {f : Fd} {ps : List (List UInt8)} {fs : List Fd} (h1 : IsPc p f) (h2 : Pcs ps fs) : Pcs (p :: ps) (f :: fs)
/-- the pieces of a line, with n + 1 blanks between them -/
theorem lex_tail (n : Nat) : ∀ (ps : List (List UInt8)) (fs out : List Fd), Pcs ps fs → lexA out .bet (joinTail (List.replicate (n + 1) 32) ps) = some (out ++ fs)
  | [], [], out, h => by rw [List.append_nil]; rfl
  | [], f :: fs, out, h => nomatch h
  | p :: ps, [], out, h => nomatch h
  | p :: ps, f :: fs, out, h => by
    cases h with
    | cons h1 h2 =>
      have e : joinTail (List.replicate (n + 1) 32) (p :: ps) = List.replicate (n + 1) 32 ++ (p ++ joinTail (List.replicate (n + 1) 32) ps) := by simp [joinTail]
      rw [e, lex_reps, h1 out _ ?_, lex_tail n ps fs _ h2, List.append_assoc]; rfl
      cases ps with
      | nil => exact .inl rfl
      | cons q qs => right; simp [joinTail, List.replicate_succ]
theorem lex_join (n : Nat) {p : List UInt8} {ps : List (List UInt8)} {f : Fd} {fs : List Fd} (h1 : IsPc p f) (h2 : Pcs ps fs) : lexA [] .bet (join (p :: ps) (List.replicate (n + 1) 32)) = some (f :: fs) := by
  rw [join_cons, h1 [] _ ?_, lex_tail n ps fs _ h2]; rfl
  cases ps with
  | nil => exact .inl rfl
  | cons q qs => right; simp [joinTail, List.replicate_succ]
/-! numerals -/
theorem dd_okW (m : Nat) : (decDigits m).all okW = true := by
  have h := dec_all (decDigits m) 0
  rw [dd_val] at h
  rw [List.all_eq_true] at *
  have h' := (List.all_eq_true.1 h.symm)
  intro c hc
  have := h' c hc
  unfold isDig at this
  simp only [Bool.and_eq_true, decide_eq_true_eq] at this
  unfold okW
  simp only [Bool.and_eq_true, bne_iff_ne]
  refine ⟨⟨?_, ?_⟩, ?_⟩ <;> (rintro rfl; revert this; decide)
theorem itoa_okW (n : Int) : (itoa n).all okW = true ∧ itoa n ≠ [] := by
  unfold itoa
  split
  · exact ⟨by rw [List.all_cons, dd_okW]; rfl, by simp⟩
  · exact ⟨dd_okW _, dd_ne _⟩
theorem isPc_itoa (n : Int) : IsPc (itoa n) (fd (itoa n) false) := isPc_word (itoa_okW n).2 (itoa_okW n).1
theorem numF_itoa {n : Int} (h : Nine n) : numF (fd (itoa n) false) = some n := by
  unfold numF fd
  rw [if_neg (by intro e; cases e)]
  exact nine_numB h
theorem numF_nine {f : Fd} {n : Int} (h : numF f = some n) : Nine n := by
  unfold numF at h
  split at h
  · cases h
  · exact (numB_nine h).1
/-! acts -/
def fldOf (a : A6) (c : UInt8) : Fd := if c = 80 then (a.path, true) else if c = 81 then (a.dest, true) else if c = 68 then (a.data, true) else if c = 79 then fd (itoa a.off) false else fd (itoa a.size) false
theorem fd_of (x : ByteArray) (q : Bool) : fd x.data.toList q = (x, q) := rfl
theorem isPc_fld (a : A6) (c : UInt8) : IsPc (showFd a c) (fldOf a c) := by
  unfold showFd fldOf
  split
  · exact isPc_quote _
  split
  · exact isPc_quote _
  split
  · exact isPc_quote _
  split
  · exact isPc_itoa _
  · exact isPc_itoa _
theorem forall_fld (a : A6) : ∀ l : List UInt8, Pcs (l.map (showFd a)) (l.map (fldOf a))
  | [] => .nil
  | c :: l => .cons (isPc_fld a c) (forall_fld a l)
theorem put_back {b a : A6} {c : UInt8} {f : Fd} (h : putA b c f = some a) : (c = 80 → a = { b with path := a.path }) ∧ putA b c (fldOf a c) = some a := by
  unfold putA at *
  unfold fldOf
  by_cases h1 : c = 80
  · rw [if_pos h1] at h ⊢
    cases h
    exact ⟨fun _ => rfl, by rw [if_pos h1]⟩
  rw [if_neg h1] at h ⊢
  refine ⟨fun e => absurd e h1, ?_⟩
  rw [if_neg h1]
  by_cases h2 : c = 81
  · rw [if_pos h2] at h ⊢; cases h; rw [if_pos h2]
  rw [if_neg h2] at h ⊢
  rw [if_neg h2]
  by_cases h3 : c = 68
  · rw [if_pos h3] at h ⊢; cases h; rw [if_pos h3]
  rw [if_neg h3] at h ⊢
  rw [if_neg h3]
  by_cases h4 : c = 79
  · rw [if_pos h4] at h ⊢
    rw [if_pos h4]
    obtain ⟨n, hn, rfl⟩ := Option.map_eq_some_iff.1 h
    show (numF (fd (itoa n) false)).map _ = _
    rw [numF_itoa (numF_nine hn)]; rfl
  rw [if_neg h4] at h ⊢
  rw [if_neg h4]
  obtain ⟨n, hn, rfl⟩ := Option.map_eq_some_iff.1 h
  show (numF (fd (itoa n) false)).map _ = _
  rw [numF_itoa (numF_nine hn)]; rfl
/-- the kind of a letter's place: 0 path, 1 dest, 2 data, 3 off, 4 size -/
def plc (c : UInt8) : Nat := if c = 80 then 0 else if c = 81 then 1 else if c = 68 then 2 else if c = 79 then 3 else 4
theorem put_other {b a : A6} {c d : UInt8} {f : Fd} (h : putA b c f = some a) (hne : plc c ≠ plc d) : fldOf a d = fldOf b d ∧ a.kind = b.kind := by
  unfold putA at h
  unfold fldOf
  unfold plc at hne
  by_cases h1 : c = 80
  · rw [if_pos h1] at h; cases h
    rw [if_pos h1] at hne
    refine ⟨?_, rfl⟩
    by_cases d1 : d = 80
    · rw [if_pos d1] at hne; exact absurd rfl hne
    · simp only [if_neg d1]
  rw [if_neg h1] at h hne
  by_cases h2 : c = 81
  · rw [if_pos h2] at h; cases h
    rw [if_pos h2] at hne
    refine ⟨?_, rfl⟩
    by_cases d2 : d = 81
    · subst d2; exact absurd rfl hne
    · simp only [if_neg d2]
  rw [if_neg h2] at h hne
  by_cases h3 : c = 68
  · rw [if_pos h3] at h; cases h
    rw [if_pos h3] at hne
    refine ⟨?_, rfl⟩
    by_cases d3 : d = 68
    · subst d3; exact absurd rfl hne
    · simp only [if_neg d3]
  rw [if_neg h3] at h hne
  by_cases h4 : c = 79
  · rw [if_pos h4] at h hne
    obtain ⟨n, hn, rfl⟩ := Option.map_eq_some_iff.1 h
    refine ⟨?_, rfl⟩
    by_cases d4 : d = 79
    · subst d4; exact absurd rfl hne
    · simp only [if_neg d4]
  rw [if_neg h4] at h hne
  obtain ⟨n, hn, rfl⟩ := Option.map_eq_some_iff.1 h
  refine ⟨?_, rfl⟩
  by_cases d1 : d = 80
  · simp only [if_pos d1]
  by_cases d2 : d = 81
  · simp only [if_neg d1, if_pos d2]
  by_cases d3 : d = 68
  · simp only [if_neg d1, if_neg d2, if_pos d3]
  by_cases d4 : d = 79
  · simp only [if_neg d1, if_neg d2, if_neg d3, if_pos d4]
  · rw [if_neg d1, if_neg d2, if_neg d3, if_neg d4] at hne; exact absurd rfl hne
theorem put_kind {b a : A6} {c : UInt8} {f : Fd} (h : putA b c f = some a) : a.kind = b.kind := by
  by_cases hc : plc c = 0
  · exact (put_other (d := 81) h (by rw [hc]; decide)).2
  · exact (put_other (d := 80) h (by rw [show plc 80 = 0 by decide]; exact hc)).2
theorem puts_other : ∀ (l : List UInt8) (r : List Fd) (b a : A6) (d : UInt8), putsA b l r = some a → (∀ c ∈ l, plc c ≠ plc d) → fldOf a d = fldOf b d
  | [], _, b, a, d, h, _ => by unfold putsA at h; cases h; rfl
  | c :: l, [], b, a, d, h, _ => by unfold putsA at h; cases h; rfl
  | c :: l, f :: r, b, a, d, h, hl => by
    rw [putsA] at h
    cases hp : putA b c f with
    | none => rw [hp] at h; cases h
    | some b' =>
      rw [hp] at h
      rw [puts_other l r b' a d h (fun c hc => hl c (List.mem_cons_of_mem _ hc))]
      exact (put_other hp (hl c List.mem_cons_self)).1
theorem puts_kind : ∀ (l : List UInt8) (r : List Fd) (b a : A6), putsA b l r = some a → a.kind = b.kind
  | [], _, b, a, h => by unfold putsA at h; cases h; rfl
  | c :: l, [], b, a, h => by unfold putsA at h; cases h; rfl
  | c :: l, f :: r, b, a, h => by
    rw [putsA] at h
    cases hp : putA b c f with
    | none => rw [hp] at h; cases h
    | some b' => rw [hp] at h; rw [puts_kind l r b' a h, put_kind hp]
/-- what was put is shown, and put again -/
theorem puts_back : ∀ (l : List UInt8) (r : List Fd) (b a : A6), l.length = r.length → (l.map plc).Nodup → putsA b l r = some a → putsA b l (l.map (fldOf a)) = some a
  | [], _, b, a, _, _, h => by unfold putsA at h ⊢; exact h
  | c :: l, [], b, a, hn, _, h => by cases hn
  | c :: l, f :: r, b, a, hn, hd, h => by
    rw [putsA] at h
    cases hp : putA b c f with
    | none => rw [hp] at h; cases h
    | some b' =>
      rw [hp] at h
      rw [List.map_cons, List.nodup_cons] at hd
      have h1 : fldOf a c = fldOf b' c := puts_other l r b' a c h (fun x hx e => hd.1 (e ▸ List.mem_map_of_mem hx))
      rw [List.map_cons, putsA, h1, (put_back hp).2]
      exact puts_back l r b' a (by simpa using hn) hd.2 h
theorem letters_nodup : ∀ k : Fin 23, ((letters k.val).map plc).Nodup := by decide
theorem word_ok : ∀ k : Fin 23, wordK k.val ≠ [] ∧ (wordK k.val).all okW = true ∧ kindF (fd (wordK k.val) false) = some k.val ∧ (wordK k.val).head? ≠ some 35 := by decide
/-- an act that a line gave -/
def GoodA (a : A6) : Prop := ∃ (k : Nat) (F : List Fd), 1 ≤ k ∧ k ≤ 22 ∧ actF k F = some a
theorem GoodA.back {a : A6} (h : GoodA a) : ∃ k : Nat, 1 ≤ k ∧ k ≤ 22 ∧ a.kind = k ∧ actF k ((letters k).map (fldOf a)) = some a := by
  obtain ⟨k, F, h1, h2, h3⟩ := h
  refine ⟨k, h1, h2, ?_⟩
  unfold actF at h3
  by_cases hl : F.length = (letters k).length
  · rw [if_pos hl] at h3
    refine ⟨puts_kind _ _ _ _ h3, ?_⟩
    unfold actF
    rw [List.length_map, if_pos rfl]
    exact puts_back _ _ _ _ hl.symm (letters_nodup ⟨k, by omega⟩) h3
  · rw [if_neg hl] at h3; cases h3
/-- a script that was read -/
structure GoodS (s : Scr) : Prop where
  five : s.nums.length = 5
  nine : ∀ n ∈ s.nums, Nine n
  acts : ∀ a ∈ s.acts, GoodA a
theorem zS_good : GoodS zS := ⟨rfl, by intro n hn; simp [zS] at hn; subst hn; unfold Nine; decide, by intro a ha; cases ha⟩
theorem nums_good : ∀ (F : List Fd) (l : List Int), numsF F = some l → l.length = F.length ∧ ∀ n ∈ l, Nine n
  | [], l, h => by unfold numsF at h; cases h; exact ⟨rfl, fun n hn => by cases hn⟩
  | f :: F, l, h => by
    rw [numsF] at h
    cases hf : numF f with
    | none => rw [hf] at h; cases h
    | some n =>
      rw [hf] at h
      obtain ⟨m, hm, rfl⟩ := Option.map_eq_some_iff.1 h
      obtain ⟨h1, h2⟩ := nums_good F m hm
      refine ⟨by simp [h1], fun x hx => ?_⟩
      rcases List.mem_cons.1 hx with rfl | hx
      · exact numF_nine hf
      · exact h2 x hx
theorem kindAt_lt (a : List UInt8) : ∀ (l : List (List UInt8 × List UInt8)) (k m : Nat), kindAt a k l = some m → m < k + l.length
  | [], k, m, h => by cases h
  | c :: l, k, m, h => by
    rw [kindAt] at h
    split at h
    · cases h; simp
    · have := kindAt_lt a l (k + 1) m h
      simp only [List.length_cons]; omega
theorem kindF_lt {f : Fd} {k : Nat} (h : kindF f = some k) : k ≤ 22 := by
  unfold kindF at h
  split at h
  · cases h
  · have := kindAt_lt _ _ _ _ h
    have e : cmds.length = 23 := by decide
    omega
theorem takeL_good {s : Scr} {l : List UInt8} (h : GoodS s) : GoodS (takeL s l).1 := by
  unfold takeL
  split
  · exact h
  unfold takeF
  split
  · exact h
  · exact h
  · rename_i f r _
    cases hk : kindF f with
    | none => exact h
    | some k =>
      show GoodS (match addF s k r with | some t => (t, 0) | none => (s, 1) : Scr × Int).1
      cases ha : addF s k r with
      | none => exact h
      | some t =>
        show GoodS t
        unfold addF at ha
        split at ha
        · obtain ⟨g, hg, rfl⟩ := Option.map_eq_some_iff.1 ha
          unfold geoF at hg
          split at hg
          · rename_i h5
            obtain ⟨h1, h2⟩ := nums_good _ _ hg
            exact ⟨h1.trans h5, h2, h.acts⟩
          · cases hg
        · rename_i h0
          obtain ⟨a, hg, rfl⟩ := Option.map_eq_some_iff.1 ha
          refine ⟨h.five, h.nine, fun x hx => ?_⟩
          rcases List.mem_append.1 hx with hx | hx
          · exact h.acts x hx
          · have : x = a := by simpa using hx
            subst this
            exact ⟨k, r, by omega, kindF_lt hk, hg⟩
theorem runL_good : ∀ (L : List (List UInt8)) (n : Nat) (s : Scr), GoodS s → GoodS (runL n s L).1
  | [], n, s, h => h
  | l :: L, n, s, h => by
    rw [runL]
    split
    · exact runL_good L _ _ (takeL_good h)
    · exact zS_good
theorem parseL_good (t : List UInt8) : GoodS (parseL t).1 := by
  unfold parseL
  split
  · exact zS_good
  · exact runL_good _ _ _ zS_good
/-! what is shown, read again: a line of pieces with n + 1 blanks between -/
def lineP (n : Nat) (ps : List (List UInt8)) : List UInt8 := join ps (List.replicate (n + 1) 32)
theorem head_join (n : Nat) {p : List UInt8} (ps : List (List UInt8)) (h0 : p ≠ []) : (lineP n (p :: ps)).head? = p.head? := by
  unfold lineP
  rw [join_cons]
  cases p with
  | nil => exact absurd rfl h0
  | cons c r => rfl
theorem takeF_ok {s t : Scr} {f : Fd} {r : List Fd} {k : Nat} (h1 : kindF f = some k) (h2 : addF s k r = some t) : takeF s (some (f :: r)) = (t, 0) := by
  unfold takeF
  simp only [h1, h2]
theorem take_act {a : A6} (h : GoodA a) (n : Nat) (s : Scr) : takeL s (lineP n (showP a)) = ({ s with acts := s.acts ++ [a] }, 0) := by
  obtain ⟨k, h1, h2, hk, ha⟩ := h.back
  obtain ⟨w1, w2, w3, w4⟩ := word_ok ⟨k, by omega⟩
  have e : showP a = wordK k :: (letters k).map (showFd a) := by unfold showP; rw [hk]; rfl
  rw [e]
  unfold takeL
  rw [head_join n _ w1, if_neg w4]
  unfold lineP
  rw [lex_join n (isPc_word w1 w2) (forall_fld a _)]
  refine takeF_ok w3 ?_
  unfold addF
  rw [if_neg (by show ¬ k = 0; omega)]
  show (actF k ((letters k).map (fldOf a))).map _ = _
  rw [ha]; rfl
theorem forall_num : ∀ l : List Int, Pcs (l.map itoa) (l.map fun n => fd (itoa n) false)
  | [] => .nil
  | n :: l => .cons (isPc_itoa n) (forall_num l)
theorem nums_back : ∀ l : List Int, (∀ n ∈ l, Nine n) → numsF (l.map fun n => fd (itoa n) false) = some l
  | [], _ => rfl
  | n :: l, h => by
    rw [List.map_cons, numsF, numF_itoa (h n List.mem_cons_self)]
    show (numsF (l.map fun n => fd (itoa n) false)).map _ = _
    rw [nums_back l (fun x hx => h x (List.mem_cons_of_mem _ hx))]; rfl
theorem take_geo {g : List Int} (h5 : g.length = 5) (h9 : ∀ n ∈ g, Nine n) (n : Nat) (s : Scr) : takeL s (lineP n (wordK 0 :: g.map itoa)) = ({ s with nums := g }, 0) := by
  obtain ⟨w1, w2, w3, w4⟩ := word_ok ⟨0, by omega⟩
  unfold takeL
  rw [head_join n _ w1, if_neg w4]
  unfold lineP
  rw [lex_join n (isPc_word w1 w2) (forall_num g)]
  refine takeF_ok w3 ?_
  unfold addF geoF
  rw [if_pos rfl, List.length_map, if_pos h5, nums_back g h9]; rfl
end Go.Proofs.YthcjogigkagmdaaGreatDoor.Con
