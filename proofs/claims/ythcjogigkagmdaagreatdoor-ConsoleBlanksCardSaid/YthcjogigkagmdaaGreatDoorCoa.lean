/- Scripts as texts, plain: lines, fields, numbers, commands, what Parse answers; a line's fields as an automaton over its bytes. -/
import Derived.Lib.Atoi
import Derived.Lib.ItoaNum
import Derived.Lib.Strings
import Derived.Lib.Bytealg
import Derived.Lib.IndexAny
namespace Go.Proofs.YthcjogigkagmdaaGreatDoor.Con
open Go.Lib

abbrev Bs := List UInt8
def plainB (c : UInt8) : Bool := decide (32 ≤ c.toNat) && decide (c.toNat ≤ 126)
def markB (c : UInt8) : Bool := c == 34 || c == 92
def hexV (c : UInt8) : Option Nat := if 48 ≤ c.toNat ∧ c.toNat ≤ 57 then some (c.toNat - 48) else if 65 ≤ c.toNat ∧ c.toNat ≤ 70 then some (c.toNat - 55) else none
/-- within a quoted text: nothing begun, behind a backslash, behind its x, behind one digit -/
inductive Q where
  | n | b | x
  | h (d : Nat)
/-- within a line: between fields, in a word, in a quoted text, behind its closing quote -/
inductive LS where
  | bet
  | word (a : Bs)
  | quo (a : Bs) (q : Q)
  | aft (a : Bs)
/-- a field: its bytes, and whether it was quoted -/
abbrev Fd := ByteArray × Bool
def fd (a : Bs) (q : Bool) : Fd := (⟨a.toArray⟩, q)
def lexA : List Fd → LS → Bs → Option (List Fd)
  | out, .bet, [] => some out
  | out, .bet, c :: r => if c = 32 then lexA out .bet r else if c = 34 then lexA out (.quo [] .n) r else lexA out (.word [c]) r
  | out, .word a, [] => some (out ++ [fd a false])
  | out, .word a, c :: r => if c = 32 then lexA (out ++ [fd a false]) .bet r else if c = 34 then none else lexA out (.word (a ++ [c])) r
  | _, .quo _ _, [] => none
  | out, .quo a .n, c :: r => if c = 34 then lexA out (.aft a) r else if plainB c = true then (if c = 92 then lexA out (.quo a .b) r else lexA out (.quo (a ++ [c]) .n) r) else none
  | out, .quo a .b, c :: r => if markB c = true then lexA out (.quo (a ++ [c]) .n) r else if c = 120 then lexA out (.quo a .x) r else none
  | out, .quo a .x, c :: r => match hexV c with
    | some d => lexA out (.quo a (.h d)) r
    | none => none
  | out, .quo a (.h d), c :: r => match hexV c with
    | some e => lexA out (.quo (a ++ [UInt8.ofNat (16 * d + e)]) .n) r
    | none => none
  | out, .aft a, [] => some (out ++ [fd a true])
  | out, .aft a, c :: r => if c = 32 then lexA (out ++ [fd a true]) .bet r else none

/-- the lines of a text -/
def linesOf : Bs → List Bs
  | [] => []
  | c :: r => if c = 10 then [] :: linesOf r else match linesOf r with
    | [] => [[c]]
    | x :: t => (c :: x) :: t

/-! numbers -/
def isDig (c : UInt8) : Bool := decide (48 ≤ c.toNat) && decide (c.toNat ≤ 57)
def natF (r : Bs) : Option Nat :=
  if (decide (1 ≤ r.length) && decide (r.length ≤ 9) && r.all isDig && (decide (r.length = 1) || r.head? != some 48)) = true then decFrom 0 r else none
def numB : Bs → Option Int
  | 45 :: r => match natF r with
    | some 0 => none
    | some n => some (-(n : Int))
    | none => none
  | r => (natF r).map fun (n : Nat) => (n : Int)
def numF (f : Fd) : Option Int := if f.2 = true then none else numB f.1.data.toList

/-! commands -/
def cmds : List (Bs × Bs) := [([103, 101, 111, 109, 101, 116, 114, 121], []),
  ([109, 107, 100, 105, 114], [80]),
  ([99, 114, 101, 97, 116, 101], [80]),
  ([108, 105, 110, 107], [80, 81]),
  ([117, 110, 108, 105, 110, 107], [80]),
  ([114, 109, 100, 105, 114], [80]),
  ([114, 101, 110, 97, 109, 101], [80, 81]),
  ([116, 114, 117, 110, 99, 97, 116, 101], [80, 83]),
  ([119, 114, 105, 116, 101], [80, 79, 68]),
  ([114, 101, 97, 100], [80, 79, 83]),
  ([114, 101, 97, 100, 100, 105, 114], [80]),
  ([115, 116, 97, 116], [80]),
  ([115, 121, 110, 99], []),
  ([102, 115, 121, 110, 99], [80]),
  ([116, 105, 99, 107], []),
  ([117, 110, 109, 111, 117, 110, 116], []),
  ([109, 111, 117, 110, 116], []),
  ([99, 104, 101, 99, 107], []),
  ([99, 117, 116], [79, 83]),
  ([115, 112, 111, 105, 108], [79, 83]),
  ([119, 101, 97, 114], [79]),
  ([110, 111, 105, 115, 101], [79, 83]),
  ([102, 111, 114, 109, 97, 116], [])]
/-- the first command from the k-th on that has this word -/
def kindAt (a : Bs) : Nat → List (Bs × Bs) → Option Nat
  | _, [] => none
  | k, c :: r => if a = c.1 then some k else kindAt a (k + 1) r
def kindF (f : Fd) : Option Nat := if f.2 = true then none else kindAt f.1.data.toList 0 cmds
def letters (k : Nat) : Bs := (cmds.getD k ([], [])).2
/-- an act -/
structure A6 where
  kind : Int
  path : ByteArray
  dest : ByteArray
  data : ByteArray
  off : Int
  size : Int
  deriving DecidableEq
def zA : A6 := ⟨0, ⟨#[]⟩, ⟨#[]⟩, ⟨#[]⟩, 0, 0⟩
def putA (a : A6) (c : UInt8) (f : Fd) : Option A6 :=
  if c = 80 then some { a with path := f.1 } else if c = 81 then some { a with dest := f.1 } else if c = 68 then some { a with data := f.1 }
  else if c = 79 then (numF f).map fun n => { a with off := n } else (numF f).map fun n => { a with size := n }
def putsA : A6 → Bs → List Fd → Option A6
  | a, c :: l, f :: r => match putA a c f with
    | some b => putsA b l r
    | none => none
  | a, _, _ => some a
def actF (k : Nat) (F : List Fd) : Option A6 := if F.length = (letters k).length then putsA { zA with kind := (k : Int) } (letters k) F else none
def numsF : List Fd → Option (List Int)
  | [] => some []
  | f :: r => match numF f with
    | some n => (numsF r).map fun l => n :: l
    | none => none
def geoF (F : List Fd) : Option (List Int) := if F.length = 5 then numsF F else none
/-- a script -/
structure Scr where
  nums : List Int
  acts : List A6
def zS : Scr := ⟨[0, 0, 0, 0, 0], []⟩
/-- what a line does: the script, the error's number -/
def addF (s : Scr) (k : Nat) (F : List Fd) : Option Scr :=
  if k = 0 then (geoF F).map fun g => { s with nums := g } else (actF k F).map fun a => { s with acts := s.acts ++ [a] }
def takeF (s : Scr) (F : Option (List Fd)) : Scr × Int := match F with
  | none => (s, 4)
  | some [] => (s, 0)
  | some (f :: r) => match kindF f with
    | none => (s, 140)
    | some k => match addF s k r with
      | some t => (t, 0)
      | none => (s, 1)
def takeL (s : Scr) (l : Bs) : Scr × Int := if l.head? = some 35 then (s, 0) else takeF s (lexA [] .bet l)
/-- the script, the error's number and line -/
def runL : Nat → Scr → List Bs → Scr × Int × Nat
  | _, s, [] => (s, 0, 0)
  | n, s, l :: r => if (takeL s l).2 = 0 then runL (n + 1) (takeL s l).1 r else (zS, (takeL s l).2, n + 1)
def parseL (t : Bs) : Scr × Int × Nat := if 65536 < t.length then (zS, 2, 0) else runL 0 zS (linesOf t)

/-! the automaton's steps, as the program goes -/
theorem lex_spaces (out : List Fd) : ∀ l : Bs, lexA out .bet l = lexA out .bet (l.dropWhile (· == 32))
  | [] => rfl
  | c :: r => by
    by_cases h : c = 32
    · subst h
      rw [List.dropWhile_cons_of_pos (by rfl), lexA, if_pos rfl]
      exact lex_spaces out r
    · rw [List.dropWhile_cons_of_neg (by simpa using h)]
/-- a byte that ends a word -/
def endB (c : UInt8) : Bool := c == 32 || c == 34
theorem lex_word (out : List Fd) : ∀ (l a : Bs), lexA out (.word a) l = match l.dropWhile (fun c => !endB c) with
    | [] => some (out ++ [fd (a ++ l) false])
    | c :: r => if c = 32 then lexA (out ++ [fd (a ++ l.takeWhile (fun c => !endB c)) false]) .bet r else none
  | [], a => by simp [lexA]
  | c :: r, a => by
    by_cases h : c = 32
    · subst h
      rw [List.dropWhile_cons_of_neg (by decide), List.takeWhile_cons_of_neg (by decide), lexA, if_pos rfl, List.append_nil]
      rfl
    · by_cases h2 : c = 34
      · subst h2
        rw [List.dropWhile_cons_of_neg (by decide), lexA, if_neg h, if_pos rfl]
        rfl
      · have he : (fun c => !endB c) c = true := by simp [endB, h, h2]
        rw [List.dropWhile_cons_of_pos (p := fun c => !endB c) he, List.takeWhile_cons_of_pos (p := fun c => !endB c) he, lexA, if_neg h, if_neg h2, lex_word out r (a ++ [c])]
        simp only [List.append_assoc, List.singleton_append]
/-- a quoted text from behind its opening quote: its bytes, and what comes behind it -/
def unqA : Bs → Q → Bs → Option (Bs × Bs)
  | _, _, [] => none
  | a, .n, c :: r => if c = 34 then some (a, r) else if plainB c = true then (if c = 92 then unqA a .b r else unqA (a ++ [c]) .n r) else none
  | a, .b, c :: r => if markB c = true then unqA (a ++ [c]) .n r else if c = 120 then unqA a .x r else none
  | a, .x, c :: r => match hexV c with
    | some d => unqA a (.h d) r
    | none => none
  | a, .h d, c :: r => match hexV c with
    | some e => unqA (a ++ [UInt8.ofNat (16 * d + e)]) .n r
    | none => none
theorem lex_quo (out : List Fd) : ∀ (l a : Bs) (q : Q), lexA out (.quo a q) l = match unqA a q l with
    | some (v, r) => lexA out (.aft v) r
    | none => none
  | [], a, q => by cases q <;> rfl
  | c :: r, a, .n => by
    rw [lexA, unqA]
    by_cases h : c = 34
    · rw [if_pos h, if_pos h]
    rw [if_neg h, if_neg h]
    by_cases h2 : plainB c = true
    · rw [if_pos h2, if_pos h2]
      by_cases h3 : c = 92
      · rw [if_pos h3, if_pos h3]; exact lex_quo out r _ _
      · rw [if_neg h3, if_neg h3]; exact lex_quo out r _ _
    · rw [if_neg h2, if_neg h2]
  | c :: r, a, .b => by
    rw [lexA, unqA]
    by_cases h : markB c = true
    · rw [if_pos h, if_pos h]; exact lex_quo out r _ _
    rw [if_neg h, if_neg h]
    by_cases h2 : c = 120
    · rw [if_pos h2, if_pos h2]; exact lex_quo out r _ _
    · rw [if_neg h2, if_neg h2]
  | c :: r, a, .x => by
    rw [lexA, unqA]
    cases hexV c with
    | none => rfl
    | some d => exact lex_quo out r _ _
  | c :: r, a, .h d => by
    rw [lexA, unqA]
    cases hexV c with
    | none => rfl
    | some e => exact lex_quo out r _ _
def hex2 : Option Nat → Option Nat → UInt8 × Nat
  | some d, some e => (UInt8.ofNat (16 * d + e), 4)
  | _, _ => (0, 0)
/-- one escape: the byte for which a text stands that begins with a backslash, and how many bytes tell it -/
def escL (t : List UInt8) : UInt8 × Nat :=
  if (decide (1 < t.length) && markB (t.getD 1 0)) = true then (t.getD 1 0, 2)
  else if (decide (t.length < 4) || t.getD 1 0 != 120) = true then (0, 0)
  else hex2 (hexV (t.getD 2 0)) (hexV (t.getD 3 0))
theorem unq_esc (a t : List UInt8) (ht : t.head? = some 92) : unqA a .n t = if (escL t).2 = 0 then none else unqA (a ++ [(escL t).1]) .n (t.drop (escL t).2) := by
  cases t with
  | nil => cases ht
  | cons c t =>
    have : c = 92 := by simpa using ht
    subst this
    rw [unqA, if_neg (by decide), if_pos (by decide), if_pos rfl]
    cases t with
    | nil => rfl
    | cons c t =>
      rw [unqA]
      cases h : markB c with
      | true =>
        have : escL (92 :: c :: t) = (c, 2) := by simp [escL, h]
        rw [if_pos rfl, this]
        rfl
      | false =>
        rw [if_neg (by decide)]
        by_cases h2 : c = 120
        · subst h2
          rw [if_pos rfl]
          cases t with
          | nil => rw [unqA]; rfl
          | cons x t =>
            rw [unqA]
            cases hx : hexV x with
            | none =>
              have : (escL (92 :: 120 :: x :: t)).2 = 0 := by
                unfold escL
                rw [if_neg (by have : markB 120 = false := rfl; simp [this])]
                split
                · rfl
                · show (hex2 (hexV x) _).2 = _
                  rw [hx]; rfl
              rw [if_pos this]
            | some d =>
              cases t with
              | nil => rfl
              | cons y t =>
                show unqA a (.h d) (y :: t) = _
                rw [unqA]
                have h4 : ¬ (decide ((92 :: 120 :: x :: y :: t : List UInt8).length < 4) || (92 :: 120 :: x :: y :: t : List UInt8).getD 1 0 != 120) = true := by simp
                have h5 : ¬ (decide (1 < (92 :: 120 :: x :: y :: t : List UInt8).length) && markB ((92 :: 120 :: x :: y :: t : List UInt8).getD 1 0)) = true := by
                  have : markB 120 = false := rfl
                  simp [this]
                cases hy : hexV y with
                | none =>
                  have : (escL (92 :: 120 :: x :: y :: t)).2 = 0 := by
                    unfold escL
                    rw [if_neg h5, if_neg h4]
                    show (hex2 (hexV x) (hexV y)).2 = _
                    rw [hx, hy]; rfl
                  rw [if_pos this]
                | some e =>
                  have : escL (92 :: 120 :: x :: y :: t) = (UInt8.ofNat (16 * d + e), 4) := by
                    unfold escL
                    rw [if_neg h5, if_neg h4]
                    show hex2 (hexV x) (hexV y) = _
                    rw [hx, hy]; rfl
                  rw [this]; rfl
        · rw [if_neg h2]
          have : (escL (92 :: c :: t)).2 = 0 := by
            unfold escL
            rw [if_neg (by simp [h]), if_pos (by simp [h2])]
          rw [if_pos this]
/-! lines -/
theorem linesOf_nl (r : Bs) : linesOf (10 :: r) = [] :: linesOf r := by rw [linesOf, if_pos rfl]
theorem linesOf_line (x : Bs) (hx : (10 : UInt8) ∉ x) (r : Bs) : linesOf (x ++ 10 :: r) = x :: linesOf r := by
  induction x with
  | nil => exact linesOf_nl r
  | cons c x ih =>
    have hc : c ≠ 10 := fun e => hx (e ▸ List.mem_cons_self)
    rw [List.cons_append, linesOf, if_neg hc, ih (fun h => hx (List.mem_cons_of_mem _ h))]
theorem linesOf_last (x : Bs) (hx : (10 : UInt8) ∉ x) (h0 : x ≠ []) : linesOf x = [x] := by
  induction x with
  | nil => exact absurd rfl h0
  | cons c x ih =>
    have hc : c ≠ 10 := fun e => hx (e ▸ List.mem_cons_self)
    rw [linesOf, if_neg hc]
    cases x with
    | nil => rfl
    | cons d x => rw [ih (fun h => hx (List.mem_cons_of_mem _ h)) (by simp)]
end Go.Proofs.YthcjogigkagmdaaGreatDoor.Con
