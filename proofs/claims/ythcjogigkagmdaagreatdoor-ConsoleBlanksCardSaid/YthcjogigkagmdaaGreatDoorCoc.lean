/- The automaton's steps at a place of a text, as the document goes; lines of a text by places. -/
import Derived.Test.YthcjogigkagmdaaGreatDoorCob
namespace Go.Proofs.YthcjogigkagmdaaGreatDoor.Con
open Go.Lib

theorem drop_at {l : List UInt8} {i : Nat} {c : UInt8} (h : l[i]? = some c) : l.drop i = c :: l.drop (i + 1) := by
  obtain ⟨hi, e⟩ := List.getElem?_eq_some_iff.1 h
  rw [List.drop_eq_getElem_cons hi, e]
section
variable {out : List Fd} {l a : List UInt8} {i : Nat} {c : UInt8}
theorem lx_space (h : l[i]? = some 32) : lexA out .bet (l.drop i) = lexA out .bet (l.drop (i + 1)) := by
  rw [drop_at h, lexA, if_pos rfl]
theorem lx_word (h : l[i]? = some c) (h1 : c ≠ 32) (h2 : c ≠ 34) : lexA out .bet (l.drop i) = lexA out (.word []) (l.drop i) := by
  rw [drop_at h, lexA, lexA, if_neg h1, if_neg h2, if_neg h1, if_neg h2]; rfl
theorem lx_more (h : l[i]? = some c) (h1 : c ≠ 32) (h2 : c ≠ 34) : lexA out (.word a) (l.drop i) = lexA out (.word (a ++ [c])) (l.drop (i + 1)) := by
  rw [drop_at h, lexA, if_neg h1, if_neg h2]
theorem lx_stuck (h : l[i]? = some 34) : lexA out (.word a) (l.drop i) = none := by
  rw [drop_at h, lexA, if_neg (by decide), if_pos rfl]
theorem lx_end (h : i = l.length ∨ l[i]? = some 32) : lexA out (.word a) (l.drop i) = lexA (out ++ [fd a false]) .bet (l.drop i) := by
  rcases h with h | h
  · subst h; rw [List.drop_length]; rfl
  · rw [drop_at h, lexA, lexA, if_pos rfl, if_pos rfl]
theorem lx_open (h : l[i]? = some 34) : lexA out .bet (l.drop i) = lexA out (.quo [] .n) (l.drop (i + 1)) := by
  rw [drop_at h, lexA, if_neg (by decide), if_pos rfl]
theorem lq_bad (h : l[i]? = some c) (h1 : c ≠ 34) (h2 : plainB c = false) : lexA out (.quo a .n) (l.drop i) = none := by
  rw [drop_at h, lexA, if_neg h1, h2, if_neg (by decide)]
theorem lq_more (h : l[i]? = some c) (h1 : c ≠ 34) (h2 : plainB c = true) (h3 : c ≠ 92) : lexA out (.quo a .n) (l.drop i) = lexA out (.quo (a ++ [c]) .n) (l.drop (i + 1)) := by
  rw [drop_at h, lexA, if_neg h1, h2, if_pos rfl, if_neg h3]
theorem lq_slash (h : l[i]? = some 92) : lexA out (.quo a .n) (l.drop i) = lexA out (.quo a .b) (l.drop (i + 1)) := by
  rw [drop_at h, lexA, if_neg (by decide), if_pos (by decide), if_pos rfl]
theorem lq_mark (h : l[i]? = some 92) (h1 : l[i + 1]? = some c) (h2 : markB c = true) : lexA out (.quo a .n) (l.drop i) = lexA out (.quo (a ++ [c]) .n) (l.drop (i + 2)) := by
  rw [lq_slash h, drop_at h1, lexA, if_pos h2]
/-- no escape begins here -/
theorem lq_none (h : l[i]? = some 92) (h1 : ∀ c, l[i + 1]? = some c → markB c = false) (h2 : ¬ (l[i + 1]? = some 120 ∧ (∃ x d, l[i + 2]? = some x ∧ hexV x = some d) ∧ ∃ y e, l[i + 3]? = some y ∧ hexV y = some e)) : lexA out (.quo a .n) (l.drop i) = none := by
  rw [lq_slash h]
  cases e1 : l[i + 1]? with
  | none => rw [List.drop_eq_nil_of_le (List.getElem?_eq_none_iff.1 e1)]; rfl
  | some c =>
    rw [drop_at e1, lexA, h1 c e1, if_neg (by decide)]
    by_cases h3 : c = 120
    · subst h3
      rw [if_pos rfl]
      cases e2 : l[i + 1 + 1]? with
      | none => rw [List.drop_eq_nil_of_le (List.getElem?_eq_none_iff.1 e2)]; rfl
      | some x =>
        rw [drop_at e2, lexA]
        cases hx : hexV x with
        | none => rfl
        | some d =>
          show lexA out (.quo a (.h d)) _ = none
          cases e3 : l[i + 1 + 1 + 1]? with
          | none => rw [List.drop_eq_nil_of_le (List.getElem?_eq_none_iff.1 e3)]; rfl
          | some y =>
            rw [drop_at e3, lexA]
            cases hy : hexV y with
            | none => rfl
            | some e => exact absurd ⟨e1, ⟨x, d, e2, hx⟩, y, e, e3, hy⟩ h2
    · rw [if_neg h3]
theorem lq_hex {x y : UInt8} {d e : Nat} (h : l[i]? = some 92) (h1 : l[i + 1]? = some 120) (h2 : l[i + 2]? = some x) (hx : hexV x = some d) (h3 : l[i + 3]? = some y) (hy : hexV y = some e) : lexA out (.quo a .n) (l.drop i) = lexA out (.quo (a ++ [UInt8.ofNat (16 * d + e)]) .n) (l.drop (i + 4)) := by
  rw [lq_slash h, drop_at h1, lexA, if_neg (by decide), if_pos rfl, drop_at h2, lexA, hx]
  show lexA out (.quo a (.h d)) _ = _
  rw [drop_at h3, lexA, hy]
theorem lq_over (h : l.length ≤ i) : lexA out (.quo a .n) (l.drop i) = none := by
  rw [List.drop_eq_nil_of_le h]; rfl
theorem lq_shut (h : l[i]? = some 34) : lexA out (.quo a .n) (l.drop i) = lexA out (.aft a) (l.drop (i + 1)) := by
  rw [drop_at h, lexA, if_pos rfl]
theorem la_bad (h : l[i]? = some c) (h1 : c ≠ 32) : lexA out (.aft a) (l.drop i) = none := by
  rw [drop_at h, lexA, if_neg h1]
theorem la_end (h : l.length ≤ i ∨ l[i]? = some 32) : lexA out (.aft a) (l.drop i) = lexA (out ++ [fd a true]) .bet (l.drop i) := by
  rcases h with h | h
  · rw [List.drop_eq_nil_of_le h]; rfl
  · rw [drop_at h, lexA, lexA, if_pos rfl, if_pos rfl]
end
/-! lines by places: from the place f on, at the place i no newline was met -/
theorem linesOf_at {t : List UInt8} {f i : Nat} (hf : f ≤ i) (hn : (10 : UInt8) ∉ (t.drop f).take (i - f)) (hc : t[i]? = some 10) :
    linesOf (t.drop f) = (t.drop f).take (i - f) :: linesOf (t.drop (i + 1)) := by
  have e : t.drop f = (t.drop f).take (i - f) ++ t.drop i := by
    have h1 := (List.take_append_drop (i - f) (t.drop f)).symm
    rw [List.drop_drop] at h1
    rwa [show f + (i - f) = i by omega] at h1
  rw [drop_at hc] at e
  conv => lhs; rw [e]
  exact linesOf_line _ hn _
theorem linesOf_tail {t : List UInt8} {f : Nat} (hf : f < t.length) (hn : (10 : UInt8) ∉ t.drop f) : linesOf (t.drop f) = [t.drop f] :=
  linesOf_last _ hn (by
    intro h
    have := congrArg List.length h
    rw [List.length_drop, List.length_nil] at this
    omega)
theorem take_more {t : List UInt8} {f i : Nat} {c : UInt8} (hf : f ≤ i) (hc : t[i]? = some c) : (t.drop f).take (i + 1 - f) = (t.drop f).take (i - f) ++ [c] := by
  rw [show i + 1 - f = (i - f) + 1 by omega, List.take_add_one, List.getElem?_drop, show f + (i - f) = i by omega, hc]; rfl
end Go.Proofs.YthcjogigkagmdaaGreatDoor.Con
