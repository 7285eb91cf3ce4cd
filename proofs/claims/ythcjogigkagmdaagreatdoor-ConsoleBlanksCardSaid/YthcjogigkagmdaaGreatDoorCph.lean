/- How long what was read can be: the fields of a line, the acts of a text, what is shown of them. -/
import Derived.Test.YthcjogigkagmdaaGreatDoorCoe
namespace Go.Proofs.YthcjogigkagmdaaGreatDoor.Con
open Go.Lib
set_option linter.unusedVariables false

/-- an act whose texts have at most N bytes, whose numbers at most nine digits -/
structure SmA (N : Nat) (a : A6) : Prop where
  p : a.path.size ≤ N
  d : a.dest.size ≤ N
  t : a.data.size ≤ N
  o : Nine a.off
  s : Nine a.size
theorem nine0 : Nine 0 := by unfold Nine; decide
theorem zA_small (N : Nat) (k : Int) : SmA N { zA with kind := k } := ⟨Nat.zero_le _, Nat.zero_le _, Nat.zero_le _, nine0, nine0⟩
theorem numF_n9 {f : Fd} {n : Int} (h : numF f = some n) : Nine n := by
  unfold numF at h
  split at h
  · cases h
  · exact (numB_nine h).1
theorem putA_small {N : Nat} {a b : A6} {c : UInt8} {f : Fd} (ha : SmA N a) (hf : f.1.size ≤ N) (h : putA a c f = some b) : SmA N b := by
  unfold putA at h
  split at h
  · cases h; exact ⟨hf, ha.d, ha.t, ha.o, ha.s⟩
  split at h
  · cases h; exact ⟨ha.p, hf, ha.t, ha.o, ha.s⟩
  split at h
  · cases h; exact ⟨ha.p, ha.d, hf, ha.o, ha.s⟩
  split at h
  · obtain ⟨n, hn, rfl⟩ := Option.map_eq_some_iff.1 h
    exact ⟨ha.p, ha.d, ha.t, numF_n9 hn, ha.s⟩
  · obtain ⟨n, hn, rfl⟩ := Option.map_eq_some_iff.1 h
    exact ⟨ha.p, ha.d, ha.t, ha.o, numF_n9 hn⟩
theorem putsA_small {N : Nat} : ∀ (l : Bs) (F : List Fd) (a b : A6), SmA N a → (∀ f ∈ F, f.1.size ≤ N) → putsA a l F = some b → SmA N b
  | [], F, a, b, ha, hF, h => by unfold putsA at h; cases h; exact ha
  | c :: l, [], a, b, ha, hF, h => by unfold putsA at h; cases h; exact ha
  | c :: l, f :: F, a, b, ha, hF, h => by
    rw [putsA] at h
    cases hp : putA a c f with
    | none => rw [hp] at h; cases h
    | some x =>
      rw [hp] at h
      exact putsA_small l F x b (putA_small ha (hF f List.mem_cons_self) hp) (fun g hg => hF g (List.mem_cons_of_mem _ hg)) h
def bufLen : LS → Nat
  | .bet => 0
  | .word a => a.length
  | .quo a _ => a.length
  | .aft a => a.length
theorem fd_size (a : Bs) (q : Bool) : (fd a q).1.size = a.length := rfl
theorem snoc_small {N : Nat} {out : List Fd} {f : Fd} (h : ∀ g ∈ out, g.1.size ≤ N) (hf : f.1.size ≤ N) : ∀ g ∈ out ++ [f], g.1.size ≤ N := fun g hg => by
  rcases List.mem_append.1 hg with h1 | h1
  · exact h g h1
  · rw [List.mem_singleton.1 h1]; exact hf
theorem lex_small (N : Nat) : ∀ (l : Bs) (out : List Fd) (st : LS) (F : List Fd), lexA out st l = some F → (∀ f ∈ out, f.1.size ≤ N) → bufLen st + l.length ≤ N → ∀ f ∈ F, f.1.size ≤ N
  | [], out, .bet, F, h, ho, hb => by unfold lexA at h; cases h; exact ho
  | [], out, .word a, F, h, ho, hb => by unfold lexA at h; cases h; exact snoc_small ho (by rw [fd_size]; simpa [bufLen] using hb)
  | [], out, .quo a q, F, h, ho, hb => by cases q <;> (unfold lexA at h; cases h)
  | [], out, .aft a, F, h, ho, hb => by unfold lexA at h; cases h; exact snoc_small ho (by rw [fd_size]; simpa [bufLen] using hb)
  | c :: l, out, .bet, F, h, ho, hb => by
    rw [lexA] at h
    simp only [bufLen, List.length_cons] at hb
    split at h
    · exact lex_small N l _ _ F h ho (by simp only [bufLen]; omega)
    split at h
    · exact lex_small N l _ _ F h ho (by simp only [bufLen, List.length_nil]; omega)
    · exact lex_small N l _ _ F h ho (by simp only [bufLen, List.length_singleton]; omega)
  | c :: l, out, .word a, F, h, ho, hb => by
    rw [lexA] at h
    simp only [bufLen, List.length_cons] at hb
    split at h
    · exact lex_small N l _ _ F h (snoc_small ho (by rw [fd_size]; omega)) (by simp only [bufLen]; omega)
    split at h
    · cases h
    · exact lex_small N l _ _ F h ho (by simp only [bufLen, List.length_append, List.length_singleton]; omega)
  | c :: l, out, .quo a .n, F, h, ho, hb => by
    rw [lexA] at h
    simp only [bufLen, List.length_cons] at hb
    split at h
    · exact lex_small N l _ _ F h ho (by simp only [bufLen]; omega)
    split at h
    · split at h
      · exact lex_small N l _ _ F h ho (by simp only [bufLen]; omega)
      · exact lex_small N l _ _ F h ho (by simp only [bufLen, List.length_append, List.length_singleton]; omega)
    · cases h
  | c :: l, out, .quo a .b, F, h, ho, hb => by
    rw [lexA] at h
    simp only [bufLen, List.length_cons] at hb
    split at h
    · exact lex_small N l _ _ F h ho (by simp only [bufLen, List.length_append, List.length_singleton]; omega)
    split at h
    · exact lex_small N l _ _ F h ho (by simp only [bufLen]; omega)
    · cases h
  | c :: l, out, .quo a .x, F, h, ho, hb => by
    rw [lexA] at h
    simp only [bufLen, List.length_cons] at hb
    split at h
    · exact lex_small N l _ _ F h ho (by simp only [bufLen]; omega)
    · cases h
  | c :: l, out, .quo a (.h d), F, h, ho, hb => by
    rw [lexA] at h
    simp only [bufLen, List.length_cons] at hb
    split at h
    · exact lex_small N l _ _ F h ho (by simp only [bufLen, List.length_append, List.length_singleton]; omega)
    · cases h
  | c :: l, out, .aft a, F, h, ho, hb => by
    rw [lexA] at h
    simp only [bufLen, List.length_cons] at hb
    split at h
    · exact lex_small N l _ _ F h (snoc_small ho (by rw [fd_size]; omega)) (by simp only [bufLen]; omega)
    · cases h
theorem takeL_small {N : Nat} {s : Scr} {l : Bs} (hs : ∀ a ∈ s.acts, SmA N a) (hl : l.length ≤ N) : (∀ a ∈ (takeL s l).1.acts, SmA N a) ∧ (takeL s l).1.acts.length ≤ s.acts.length + 1 := by
  unfold takeL
  split
  · exact ⟨hs, by show s.acts.length ≤ _; omega⟩
  · cases hF : lexA [] .bet l with
    | none => exact ⟨hs, by show s.acts.length ≤ _; omega⟩
    | some F =>
      have hsm := lex_small N l [] .bet F hF (fun f hf => by cases hf) (by simp only [bufLen]; omega)
      cases F with
      | nil => exact ⟨hs, by show s.acts.length ≤ _; omega⟩
      | cons f r =>
        unfold takeF
        simp only
        cases hk : kindF f with
        | none => exact ⟨hs, by show s.acts.length ≤ _; omega⟩
        | some k =>
          simp only
          cases ha : addF s k r with
          | none => exact ⟨hs, by show s.acts.length ≤ _; omega⟩
          | some t =>
            simp only
            unfold addF at ha
            split at ha
            · obtain ⟨g, _, rfl⟩ := Option.map_eq_some_iff.1 ha
              exact ⟨hs, by show s.acts.length ≤ _; omega⟩
            · obtain ⟨a, h9, rfl⟩ := Option.map_eq_some_iff.1 ha
              refine ⟨fun x hx => ?_, by simp⟩
              rcases List.mem_append.1 hx with h1 | h1
              · exact hs x h1
              · rw [List.mem_singleton.1 h1]
                unfold actF at h9
                split at h9
                · exact putsA_small _ _ _ _ (zA_small N k) (fun g hg => hsm g (List.mem_cons_of_mem _ hg)) h9
                · cases h9
theorem runL_small {N : Nat} : ∀ (L : List Bs) (n : Nat) (s : Scr), (∀ a ∈ s.acts, SmA N a) → (∀ l ∈ L, l.length ≤ N) → (∀ a ∈ (runL n s L).1.acts, SmA N a) ∧ (runL n s L).1.acts.length ≤ s.acts.length + L.length
  | [], n, s, hs, hL => ⟨hs, Nat.le_refl _⟩
  | l :: L, n, s, hs, hL => by
    rw [runL]
    obtain ⟨h1, h2⟩ := takeL_small hs (hL l List.mem_cons_self)
    split
    · obtain ⟨h3, h4⟩ := runL_small L (n + 1) (takeL s l).1 h1 (fun x hx => hL x (List.mem_cons_of_mem _ hx))
      exact ⟨h3, by rw [List.length_cons]; omega⟩
    · exact ⟨fun a ha => (by cases ha), Nat.zero_le _⟩
theorem lines_small : ∀ t : Bs, (∀ l ∈ linesOf t, l.length ≤ t.length) ∧ (linesOf t).length ≤ t.length
  | [] => ⟨fun l hl => (by cases hl), Nat.le_refl _⟩
  | c :: t => by
    obtain ⟨h1, h2⟩ := lines_small t
    rw [linesOf]
    split
    · refine ⟨fun l hl => ?_, by rw [List.length_cons, List.length_cons]; omega⟩
      rcases List.mem_cons.1 hl with rfl | hl
      · exact Nat.zero_le _
      · have := h1 l hl; rw [List.length_cons]; omega
    · split
      · refine ⟨fun l hl => ?_, by simp⟩
        rw [List.mem_singleton.1 hl]; simp
      · next x r hx =>
        rw [hx] at h1 h2
        refine ⟨fun l hl => ?_, by simp only [List.length_cons] at *; omega⟩
        rcases List.mem_cons.1 hl with rfl | hl
        · have := h1 x List.mem_cons_self; simp only [List.length_cons]; omega
        · have := h1 l (List.mem_cons_of_mem _ hl); rw [List.length_cons]; omega
theorem parseL_small (t : Bs) : (∀ a ∈ (parseL t).1.acts, SmA 65536 a) ∧ (parseL t).1.acts.length ≤ 65536 := by
  unfold parseL
  split
  · exact ⟨fun a ha => (by cases ha), Nat.zero_le _⟩
  · next h =>
    obtain ⟨h1, h2⟩ := lines_small t
    obtain ⟨h3, h4⟩ := runL_small (N := 65536) (linesOf t) 0 zS (fun a ha => by cases ha) (fun l hl => Nat.le_trans (h1 l hl) (by omega))
    refine ⟨h3, ?_⟩
    have : zS.acts.length = 0 := rfl
    omega
theorem natF_len {r : Bs} {n : Nat} (h : natF r = some n) : r.length ≤ 9 := by
  unfold natF at h
  split at h
  · next hc =>
    simp only [Bool.and_eq_true, decide_eq_true_eq] at hc
    exact hc.1.1.2
  · cases h
theorem itoa_len {n : Int} (h : Nine n) : (itoa n).length ≤ 10 := by
  have hb := nine_numB h
  unfold numB at hb
  split at hb
  · next r hr =>
    rw [hr, List.length_cons]
    split at hb
    · cases hb
    · next m hm => have := natF_len hm; omega
    · cases hb
  · obtain ⟨m, hm, _⟩ := Option.map_eq_some_iff.1 hb
    have := natF_len hm; omega
theorem escB_len (c : UInt8) : (escB c).length ≤ 4 := by
  unfold escB
  split
  · simp
  · split <;> simp
theorem quote_len (l : Bs) : (quoteL l).length ≤ 4 * l.length + 2 := by
  have : (l.flatMap escB).length ≤ 4 * l.length := by
    induction l with
    | nil => simp
    | cons c l ih => rw [List.flatMap_cons, List.length_append, List.length_cons]; have := escB_len c; omega
  unfold quoteL
  rw [List.length_cons, List.length_append, List.length_singleton]; omega
theorem showFd_len {N : Nat} {a : A6} (h : SmA N a) (c : UInt8) : (showFd a c).length ≤ 4 * N + 12 := by
  have e : ∀ b : ByteArray, b.data.toList.length = b.size := fun _ => rfl
  unfold showFd
  have h1 := quote_len a.path.data.toList
  have h2 := quote_len a.dest.data.toList
  have h3 := quote_len a.data.data.toList
  have h4 := itoa_len h.o
  have h5 := itoa_len h.s
  have := h.p; have := h.d; have := h.t
  rw [e] at h1 h2 h3
  split
  · omega
  split
  · omega
  split
  · omega
  split <;> omega
theorem tail_le (M : Nat) : ∀ r : List Bs, (∀ x ∈ r, x.length ≤ M) → (joinTail [32] r).length ≤ r.length * (M + 1)
  | [], _ => Nat.zero_le _
  | x :: r, h => by
    have ih := tail_le M r (fun y hy => h y (List.mem_cons_of_mem _ hy))
    have hx := h x List.mem_cons_self
    unfold joinTail at ih ⊢
    rw [List.map_cons, List.flatten_cons, List.length_append, List.length_append, List.length_singleton, List.length_cons, Nat.succ_mul]
    omega
theorem word_le : ∀ k : Fin 23, (wordK k.val).length ≤ 10 := by decide
theorem letters_le : ∀ k : Fin 23, (letters k.val).length ≤ 3 := by decide
theorem showA_len {a : A6} (h : SmA 65536 a) : (showA a).length ≤ 1000000 := by
  unfold showA
  split
  · next hc =>
    simp only [Bool.and_eq_true, decide_eq_true_eq] at hc
    obtain ⟨k, hk⟩ : ∃ k : Nat, a.kind.toNat = k := ⟨_, rfl⟩
    have hk22 : k ≤ 22 := by omega
    unfold showP
    rw [hk, join_cons, List.length_append, List.length_append, List.length_singleton]
    have h1 := word_le ⟨k, by omega⟩
    have h2 := tail_le 262156 ((letters k).map (showFd a)) (fun x hx => by
      obtain ⟨c, _, rfl⟩ := List.mem_map.1 hx
      have := showFd_len h c; omega)
    rw [List.length_map] at h2
    have h3 := letters_le ⟨k, by omega⟩
    simp only at h1 h3
    have h4 : (letters k).length * (262156 + 1) ≤ 3 * (262156 + 1) := Nat.mul_le_mul_right _ h3
    omega
  · simp
theorem showG_len {l : List Int} (h5 : l.length = 5) (h : ∀ n ∈ l, Nine n) : (showG l).length ≤ 100 := by
  unfold showG
  rw [join_cons, List.length_append, List.length_append, List.length_singleton]
  have h1 := word_le ⟨0, by omega⟩
  have h2 := tail_le 10 (l.map itoa) (fun x hx => by
    obtain ⟨n, hn, rfl⟩ := List.mem_map.1 hx
    exact itoa_len (h n hn))
  rw [List.length_map, h5] at h2
  simp only at h1
  omega
theorem acts_long : ∀ l : List A6, (∀ a ∈ l, SmA 65536 a) → (l.flatMap showA).length ≤ l.length * 1000000
  | [], _ => Nat.zero_le _
  | a :: l, h => by
    have ih := acts_long l (fun x hx => h x (List.mem_cons_of_mem _ hx))
    have := showA_len (h a List.mem_cons_self)
    rw [List.flatMap_cons, List.length_append, List.length_cons]
    omega
theorem show_long (t : Bs) : (showL (parseL t).1).length ≤ 140737488355328 := by
  obtain ⟨h1, h2⟩ := parseL_small t
  have hg := parseL_good t
  unfold showL
  rw [List.length_append]
  have h3 := showG_len hg.five hg.nine
  have h4 := acts_long _ h1
  omega
end Go.Proofs.YthcjogigkagmdaaGreatDoor.Con
