/- Paths as lists of bytes: the pieces between slashes, what Split, Join, Parent and Within answer, and the loop that finds the pieces. -/
import Derived.Lib.SplitLaws
import Derived.Lib.Split
import Derived.Lib.Join
namespace Go.Proofs.YtdbjinakbbiimaaDoor.Pt
open Go.Lib

/-- the pieces of a text between slashes -/
def pieces : List UInt8 → List (List UInt8)
  | [] => [[]]
  | c :: l => if c = 47 then [] :: pieces l else match pieces l with
    | [] => [[c]]
    | x :: r => (c :: x) :: r

theorem pieces_ne (l : List UInt8) : pieces l ≠ [] := by
  cases l with
  | nil => exact fun h => by cases h
  | cons c l =>
    unfold pieces
    split
    · exact fun h => by cases h
    · split <;> exact fun h => by cases h
theorem pieces_slash (l : List UInt8) : pieces (47 :: l) = [] :: pieces l := by rw [pieces, if_pos rfl]
theorem pieces_cons {c : UInt8} (hc : c ≠ 47) {l x : List UInt8} {r : List (List UInt8)} (h : pieces l = x :: r) : pieces (c :: l) = (c :: x) :: r := by
  rw [pieces, if_neg hc, h]
theorem pieces_pre {x : List UInt8} (hx : (47 : UInt8) ∉ x) {l y : List UInt8} {r : List (List UInt8)} (h : pieces l = y :: r) : pieces (x ++ l) = (x ++ y) :: r := by
  induction x with
  | nil => exact h
  | cons c x ih =>
    rw [List.cons_append, List.cons_append]
    exact pieces_cons (fun e => hx (e ▸ List.mem_cons_self)) (ih fun h => hx (List.mem_cons_of_mem _ h))
theorem pieces_no (l : List UInt8) : ∀ x ∈ pieces l, (47 : UInt8) ∉ x := by
  induction l with
  | nil => intro x hx; simp [pieces] at hx; subst hx; simp
  | cons c l ih =>
    obtain ⟨y, r, h⟩ : ∃ y r, pieces l = y :: r := by
      cases h : pieces l with
      | nil => exact absurd h (pieces_ne l)
      | cons y r => exact ⟨y, r, rfl⟩
    by_cases hc : c = 47
    · subst hc
      rw [pieces_slash]
      intro x hx
      rcases List.mem_cons.1 hx with rfl | hx
      · simp
      · exact ih x hx
    · rw [pieces_cons hc h]
      rw [h] at ih
      intro x hx
      rcases List.mem_cons.1 hx with rfl | hx
      · have := ih y List.mem_cons_self
        simp only [List.mem_cons, not_or]
        exact ⟨fun e => hc e.symm, this⟩
      · exact ih x (List.mem_cons_of_mem _ hx)
theorem join_pieces (l : List UInt8) : join (pieces l) [47] = l := by
  induction l with
  | nil => rfl
  | cons c l ih =>
    obtain ⟨y, r, h⟩ : ∃ y r, pieces l = y :: r := by
      cases h : pieces l with
      | nil => exact absurd h (pieces_ne l)
      | cons y r => exact ⟨y, r, rfl⟩
    rw [h, join_cons] at ih
    by_cases hc : c = 47
    · subst hc
      rw [pieces_slash, join_cons, h]
      show [] ++ joinTail [47] (y :: r) = _
      rw [← ih]
      simp [joinTail]
    · rw [pieces_cons hc h, join_cons, List.cons_append, ih]
theorem pieces_join : ∀ (xs : List (List UInt8)), xs ≠ [] → (∀ x ∈ xs, (47 : UInt8) ∉ x) → pieces (join xs [47]) = xs
  | [], h, _ => absurd rfl h
  | [x], _, hx => by
    rw [join_one]
    have := pieces_pre (x := x) (hx x List.mem_cons_self) (l := []) (y := []) (r := []) rfl
    rwa [List.append_nil] at this
  | x :: y :: r, _, hx => by
    have ih := pieces_join (y :: r) (fun h => by cases h) (fun z hz => hx z (List.mem_cons_of_mem _ hz))
    rw [join_cons] at ih ⊢
    have e : joinTail [47] (y :: r) = 47 :: (y ++ joinTail [47] r) := by simp [joinTail]
    rw [e]
    have := pieces_pre (x := x) (hx x List.mem_cons_self) (pieces_slash (y ++ joinTail [47] r))
    rw [this, List.append_nil, ih]
theorem splitK_pieces (l : List UInt8) : splitK [47] 0 (count l [47]) l = pieces l := by
  induction l with
  | nil => rfl
  | cons c l ih =>
    by_cases hc : c = 47
    · subst hc
      rw [count_cons_eq, Nat.add_comm, pieces_slash]
      have hi : index (47 :: l) [47] = 0 := by unfold index; rw [if_pos (by simp [List.isPrefixOf])]
      rw [splitK, hi]
      simp [ih]
    · rw [count_cons_ne _ _ _ hc]
      have hi : index (c :: l) [47] = if index l [47] == -1 then -1 else index l [47] + 1 := by
        conv => lhs; unfold index
        rw [if_neg (by simp [List.isPrefixOf]; exact fun e => hc e.symm)]
      by_cases hm : index l [47] = -1
      · have h0 := count_miss hm
        rw [h0] at ih ⊢
        have e1 : pieces l = [l] := ih.symm
        rw [pieces_cons hc e1]
        rfl
      · have hge := index_ge l [47]
        obtain ⟨i, hi'⟩ : ∃ i : Nat, index l [47] = i := ⟨(index l [47]).toNat, by omega⟩
        have h1 := count_hit (sub := [47]) (fun h => by cases h) hi'
        obtain ⟨k, hk⟩ : ∃ k, count l [47] = k + 1 := ⟨_, by rw [h1, Nat.add_comm]⟩
        have hne : ¬ (((i : Int) == -1) = true) := fun e => by have := beq_iff_eq.1 e; omega
        rw [hk] at ih ⊢
        rw [splitK, hi', if_neg hne] at ih
        rw [splitK, hi, hi', if_neg hne]
        have hne2 : ¬ ((((i : Int) + 1) == -1) = true) := fun e => by have := beq_iff_eq.1 e; omega
        rw [if_neg hne2]
        have e2 : ((i : Int) + 1).toNat = i + 1 := by omega
        rw [e2, pieces_cons hc ih.symm]
        simp
theorem count_length (l : List UInt8) : (pieces l).length = count l [47] + 1 := by
  rw [count_one]
  induction l with
  | nil => rfl
  | cons c l ih =>
    obtain ⟨y, r, h⟩ : ∃ y r, pieces l = y :: r := by
      cases h : pieces l with
      | nil => exact absurd h (pieces_ne l)
      | cons y r => exact ⟨y, r, rfl⟩
    by_cases hc : c = 47
    · subst hc
      rw [pieces_slash, List.length_cons, ih]
      simp
    · rw [pieces_cons hc h, List.count_cons_of_ne (by simpa using hc)]
      rw [h] at ih
      exact ih

def noName (x : List UInt8) : Bool := x == [] || x == [46] || x == [46, 46] || x.contains 0
def long (x : List UInt8) : Bool := decide (32 < x.length)
/-- what Split answers -/
def splitL (l : List (List UInt8)) : List (List UInt8) × Int :=
  if (decide (16 < l.length) || l.any noName) = true then ([], 107) else if l.any long = true then ([], 105) else (l, 0)
def headOk (p : List UInt8) : Bool := p.head? == some 47 && decide (p.length ≤ 256)
def splitP (p : List UInt8) : List (List UInt8) × Int :=
  if headOk p = true then (if p.length = 1 then ([], 0) else splitL (pieces (p.drop 1))) else ([], 107)
def joinT (xs : List (List UInt8)) : List UInt8 := 47 :: join xs [47]
def joinP (xs : List (List UInt8)) : List UInt8 × Int :=
  if (splitP (joinT xs)).2 = 0 then (if (splitP (joinT xs)).1 = xs then (joinT xs, 0) else ([], 107)) else ([], (splitP (joinT xs)).2)
def parentP (p : List UInt8) : List UInt8 × List UInt8 × Int :=
  if (splitP p).2 = 0 then (if (splitP p).1 = [] then ([], [], 107) else ((joinP (splitP p).1.dropLast).1, (splitP p).1.getLastD [], (joinP (splitP p).1.dropLast).2)) else ([], [], (splitP p).2)
def withinP (p q : List UInt8) : Bool :=
  decide ((splitP p).2 = 0) && (decide ((splitP q).2 = 0) && decide ((splitP q).1 = (splitP p).1.take (splitP q).1.length))

/-- a good list of parts -/
structure Good (xs : List (List UInt8)) : Prop where
  depth : xs.length ≤ 16
  names : xs.any noName = false
  short : xs.any long = false
  none : ∀ x ∈ xs, (47 : UInt8) ∉ x
  size : (joinT xs).length ≤ 256
theorem splitL_ok {l : List (List UInt8)} (h : (splitL l).2 = 0) : (splitL l).1 = l ∧ l.length ≤ 16 ∧ l.any noName = false ∧ l.any long = false := by
  unfold splitL at h ⊢
  by_cases h1 : (decide (16 < l.length) || l.any noName) = true
  · rw [if_pos h1] at h; exact absurd h (by decide)
  · rw [if_neg h1] at h ⊢
    by_cases h2 : l.any long = true
    · rw [if_pos h2] at h; exact absurd h (by decide)
    · rw [if_neg h2]
      have h3 : ¬ 16 < l.length := fun e => h1 (by rw [decide_eq_true e]; rfl)
      have h4 : l.any noName = false := by cases e : l.any noName with
        | false => rfl
        | true => exact absurd (by rw [e, Bool.or_true]) h1
      exact ⟨rfl, by omega, h4, by simpa using h2⟩
/-- what is split is good, and joined again -/
theorem splitP_good {p : List UInt8} (h : (splitP p).2 = 0) : Good (splitP p).1 ∧ joinT (splitP p).1 = p := by
  unfold splitP at h ⊢
  by_cases h1 : headOk p = true
  · rw [if_pos h1] at h ⊢
    have h2 := h1
    unfold headOk at h2
    simp only [Bool.and_eq_true, beq_iff_eq, decide_eq_true_eq] at h2
    obtain ⟨hh, hl⟩ := h2
    obtain ⟨t, rfl⟩ : ∃ t, p = 47 :: t := by
      cases p with
      | nil => cases hh
      | cons c t => simp at hh; subst hh; exact ⟨t, rfl⟩
    by_cases h3 : (47 :: t).length = 1
    · rw [if_pos h3]
      have : t = [] := by simpa using h3
      subst this
      exact ⟨⟨by decide, by decide, by decide, (fun x hx => by cases hx), by decide⟩, rfl⟩
    · rw [if_neg h3] at h ⊢
      obtain ⟨e1, e2, e3, e4⟩ := splitL_ok h
      rw [e1]
      have hj : joinT (pieces (List.drop 1 (47 :: t))) = 47 :: t := by unfold joinT; rw [join_pieces]; rfl
      exact ⟨⟨e2, e3, e4, pieces_no _, by rw [hj]; exact hl⟩, hj⟩
  · rw [if_neg h1] at h; exact absurd h (by decide)
theorem good_split {xs : List (List UInt8)} (h : Good xs) : splitP (joinT xs) = (xs, 0) := by
  unfold splitP
  have hh : headOk (joinT xs) = true := by
    unfold headOk
    rw [decide_eq_true h.size]
    rfl
  rw [if_pos hh]
  by_cases hx : xs = []
  · subst hx; rfl
  · have hp : pieces (List.drop 1 (joinT xs)) = xs := pieces_join xs hx h.none
    have hl : (joinT xs).length ≠ 1 := by
      intro e
      have e1 : join xs [47] = [] := by
        have : (joinT xs).length = (join xs [47]).length + 1 := rfl
        exact List.eq_nil_of_length_eq_zero (by omega)
      have e2 : pieces (join xs [47]) = xs := hp
      rw [e1] at e2
      have : xs = [[]] := e2.symm
      subst this
      exact absurd h.names (by decide)
    rw [if_neg hl, hp]
    unfold splitL
    rw [h.names, Bool.or_false, if_neg (by rw [decide_eq_true_eq]; have := h.depth; omega), h.short, if_neg (by decide)]
theorem good_join {xs : List (List UInt8)} (h : Good xs) : joinP xs = (joinT xs, 0) := by
  unfold joinP
  rw [good_split h]
  simp
theorem joinT_take_len (xs : List (List UInt8)) (k : Nat) : (joinT (xs.take k)).length ≤ (joinT xs).length := by
  cases xs with
  | nil => rw [List.take_nil]; exact Nat.le_refl _
  | cons x r =>
    cases k with
    | zero => show ([47] : List UInt8).length ≤ _; show 1 ≤ (join (x :: r) [47]).length + 1; omega
    | succ k =>
      show (join (x :: r.take k) [47]).length + 1 ≤ (join (x :: r) [47]).length + 1
      rw [join_cons, join_cons, List.length_append, List.length_append]
      have := joinTail_take_le [47] r k
      omega
theorem Good.take {xs : List (List UInt8)} (h : Good xs) (k : Nat) : Good (xs.take k) where
  depth := by have := h.depth; rw [List.length_take]; omega
  names := by
    have := h.names
    rw [List.any_eq_false] at this ⊢
    exact fun x hx => this x (List.mem_of_mem_take hx)
  short := by
    have := h.short
    rw [List.any_eq_false] at this ⊢
    exact fun x hx => this x (List.mem_of_mem_take hx)
  none := fun x hx => h.none x (List.mem_of_mem_take hx)
  size := Nat.le_trans (joinT_take_len xs k) h.size
theorem Good.of {p : List UInt8} (h : (splitP p).2 = 0) : Good (splitP p).1 := (splitP_good h).1
theorem splitP_bad {p : List UInt8} (h : (splitP p).2 ≠ 0) : (splitP p).1 = [] := by
  unfold splitP at h ⊢
  by_cases h1 : headOk p = true
  · rw [if_pos h1] at h ⊢
    by_cases h2 : p.length = 1
    · rw [if_pos h2]
    · rw [if_neg h2] at h ⊢
      unfold splitL at h ⊢
      split
      · rfl
      · split
        · rfl
        · rename_i a b; rw [if_neg a, if_neg b] at h; exact absurd rfl h
  · rw [if_neg h1]
theorem take_snoc' {p : List UInt8} {f i : Nat} (hf : f ≤ i) (hi : i < p.length) : (p.drop f).take (i + 1 - f) = (p.drop f).take (i - f) ++ [p[i]] := by
  have e : i + 1 - f = (i - f) + 1 := by omega
  rw [e, List.take_add_one, List.getElem?_drop]
  have e2 : f + (i - f) = i := by omega
  rw [e2, List.getElem?_eq_getElem hi]
  rfl
theorem drop_split {p : List UInt8} {f i : Nat} (hf : f ≤ i) (hi : i < p.length) : p.drop f = (p.drop f).take (i - f) ++ p[i] :: p.drop (i + 1) := by
  have e : p.drop i = p[i] :: p.drop (i + 1) := List.drop_eq_getElem_cons hi
  have e2 : (p.drop f).drop (i - f) = p.drop i := by rw [List.drop_drop]; congr 1; omega
  rw [← e, ← e2, List.take_append_drop]
/-- the loop of the document's Split -/
structure RS (p : List UInt8) (i f : Nat) (L : List (List UInt8)) (bad lg : Bool) : Prop where
  lo : 1 ≤ i
  fi : i ≤ p.length → 1 ≤ f ∧ f ≤ i ∧ pieces (p.drop 1) = L ++ pieces (p.drop f) ∧ (47 : UInt8) ∉ (p.drop f).take (i - f) ∧ bad = (L.any noName || ((p.drop f).take (i - f)).contains 0)
  hi : p.length < i → L = pieces (p.drop 1) ∧ bad = L.any noName
  lg : lg = L.any long
  cnt : L.length ≤ i
theorem RS.start {p : List UInt8} (h : 1 ≤ p.length) : RS p 1 1 [] false false where
  lo := Nat.le_refl _
  fi := fun _ => ⟨Nat.le_refl _, Nat.le_refl _, rfl, by simp, by simp⟩
  hi := fun h' => absurd h' (by omega)
  lg := rfl
  cnt := by simp
theorem RS.more {p : List UInt8} {i f : Nat} {L : List (List UInt8)} {bad lg : Bool} (h : RS p i f L bad lg) (hi : i < p.length) (hne : p[i] ≠ 47) : RS p (i + 1) f L (bad || p[i] == 0) lg where
  lo := by omega
  fi := fun _ => by
    obtain ⟨a, b, c, d, e⟩ := h.fi (by omega)
    refine ⟨a, by omega, c, ?_, ?_⟩
    · rw [take_snoc' b hi]
      intro hm
      rcases List.mem_append.1 hm with hm | hm
      · exact d hm
      · simp at hm; exact hne hm.symm
    · rw [take_snoc' b hi, e, List.contains_append, Bool.or_assoc]
      congr 2
      simp only [List.contains_cons, List.contains_nil, Bool.or_false]
      exact Bool.beq_comm
  hi := fun h' => absurd h' (by omega)
  lg := h.lg
  cnt := by have := h.cnt; omega
theorem any_snoc {L : List (List UInt8)} {s : List UInt8} {f : List UInt8 → Bool} : (L ++ [s]).any f = (L.any f || f s) := by
  rw [List.any_append]; simp
theorem RS.cut {p : List UInt8} {i f : Nat} {L : List (List UInt8)} {bad lg : Bool} (h : RS p i f L bad lg) (hi : i < p.length) (he : p[i] = 47) :
    RS p (i + 1) (i + 1) (L ++ [(p.drop f).take (i - f)]) (((bad || (p.drop f).take (i - f) == []) || (p.drop f).take (i - f) == [46]) || (p.drop f).take (i - f) == [46, 46]) (lg || decide (32 < ((p.drop f).take (i - f)).length)) where
  lo := by omega
  fi := fun _ => by
    obtain ⟨a, b, c, d, e⟩ := h.fi (by omega)
    have hs := drop_split b hi
    rw [he] at hs
    generalize (p.drop f).take (i - f) = s at *
    refine ⟨by omega, by omega, ?_, by simp, ?_⟩
    · rw [c, hs, pieces_pre d (pieces_slash _), List.append_nil, List.append_assoc]
      rfl
    · rw [e, any_snoc]
      unfold noName
      simp only [Nat.sub_self, List.take_zero, List.contains_nil, Bool.or_false]
      cases L.any fun x => x == [] || x == [46] || x == [46, 46] || x.contains 0 <;> cases s.contains 0 <;> cases s == [] <;> cases s == [46] <;> cases s == [46, 46] <;> rfl
  hi := fun h' => absurd h' (by omega)
  lg := by rw [any_snoc, ← h.lg]; rfl
  cnt := by have := h.cnt; rw [List.length_append]; simp; omega
theorem RS.last {p : List UInt8} {f : Nat} {L : List (List UInt8)} {bad lg : Bool} (h : RS p p.length f L bad lg) :
    RS p (p.length + 1) (p.length + 1) (L ++ [(p.drop f).take (p.length - f)]) (((bad || (p.drop f).take (p.length - f) == []) || (p.drop f).take (p.length - f) == [46]) || (p.drop f).take (p.length - f) == [46, 46]) (lg || decide (32 < ((p.drop f).take (p.length - f)).length)) where
  lo := by omega
  fi := fun h' => absurd h' (by omega)
  hi := fun _ => by
    obtain ⟨a, b, c, d, e⟩ := h.fi (Nat.le_refl _)
    have hs : (p.drop f).take (p.length - f) = p.drop f := List.take_of_length_le (by rw [List.length_drop]; omega)
    rw [hs] at d e ⊢
    generalize p.drop f = s at *
    have hp : pieces s = [s] := by
      have := pieces_pre d (l := []) (y := []) (r := []) rfl
      rwa [List.append_nil] at this
    refine ⟨by rw [c, hp], ?_⟩
    rw [e, any_snoc]
    unfold noName
    cases L.any fun x => x == [] || x == [46] || x == [46, 46] || x.contains 0 <;> cases s.contains 0 <;> cases s == [] <;> cases s == [46] <;> cases s == [46, 46] <;> rfl
  lg := by rw [any_snoc, ← h.lg]; rfl
  cnt := by have := h.cnt; rw [List.length_append]; simp; omega
theorem RS.done {p : List UInt8} {f : Nat} {L : List (List UInt8)} {bad lg : Bool} {i : Nat} (h : RS p i f L bad lg) (hi : p.length < i) (hh : headOk p = true) (h1 : p.length ≠ 1) :
    splitP p = if (bad || decide (16 < L.length)) = true then ([], 107) else if lg = true then ([], 105) else (L, 0) := by
  obtain ⟨e1, e2⟩ := h.hi hi
  unfold splitP
  rw [if_pos hh, if_neg h1, ← e1, splitL, h.lg, e2, Bool.or_comm]
end Go.Proofs.YtdbjinakbbiimaaDoor.Pt
