/- The document's least polynomial: elimination, in plain numbers. No Go in sight. -/
import Derived.Test.YtcmcjojjphhffaaPv
namespace Go.Proofs.Ytcmcjojjphhffaa
open Pm Gfm

/-- the first k rows taken off v, the mixes off m -/
def rd (R M : List Nat) (v m : Nat) : Nat → Nat × Nat
  | 0 => (v, m)
  | k + 1 => if (rd R M v m k).1 ^^^ R.getD k 0 < (rd R M v m k).1 then ((rd R M v m k).1 ^^^ R.getD k 0, (rd R M v m k).2 ^^^ M.getD k 0) else rd R M v m k
/-- how many rows ahead are greater -/
def posn : List Nat → Nat → Nat | [], _ => 0 | x :: l, v => if v < x then posn l v + 1 else 0
theorem posn_spec (v : Nat) : ∀ (l : List Nat) (i : Nat), i ≤ l.length → (∀ j, j < i → v < l.getD j 0) → (i = l.length ∨ ¬ v < l.getD i 0) → posn l v = i := by
  intro l
  induction l with
  | nil => intro i h _ _; simp at h; subst h; rfl
  | cons x l ih =>
    intro i h h1 h2
    cases i with
    | zero =>
      have : ¬ v < x := by simpa using h2
      show (if v < x then posn l v + 1 else 0) = 0
      rw [if_neg this]
    | succ i =>
      have hx : v < x := by simpa using h1 0 (by omega)
      show (if v < x then posn l v + 1 else 0) = i + 1
      rw [if_pos hx, ih i (by simpa using h) (fun j hj => by simpa using h1 (j + 1) (by omega)) (by simpa using h2)]
theorem posn_le (v : Nat) (l : List Nat) : posn l v ≤ l.length := by
  induction l with
  | nil => exact Nat.le_refl _
  | cons x l ih =>
    show (if v < x then posn l v + 1 else 0) ≤ l.length + 1
    split <;> omega
def ins (l : List Nat) (i v : Nat) : List Nat := l.take i ++ [v] ++ l.drop i
theorem ins_length (l : List Nat) (i v : Nat) (h : i ≤ l.length) : (ins l i v).length = l.length + 1 := by
  simp [ins]; omega
/-- the rows, the mixes and the power ahead of round d -/
def el (r : Nat) : Nat → List Nat × List Nat × Nat
  | 0 => ([], [], 1)
  | d + 1 => (ins (el r d).1 (posn (el r d).1 (rd (el r d).1 (el r d).2.1 (el r d).2.2 (2 ^ d) d).1) (rd (el r d).1 (el r d).2.1 (el r d).2.2 (2 ^ d) d).1,
      ins (el r d).2.1 (posn (el r d).1 (rd (el r d).1 (el r d).2.1 (el r d).2.2 (2 ^ d) d).1) (rd (el r d).1 (el r d).2.1 (el r d).2.2 (2 ^ d) d).2, mul (el r d).2.2 r)
/-- what round d leaves -/
def ez (r d : Nat) : Nat × Nat := rd (el r d).1 (el r d).2.1 (el r d).2.2 (2 ^ d) d
theorem el_succ (r d : Nat) : el r (d + 1) = (ins (el r d).1 (posn (el r d).1 (ez r d).1) (ez r d).1, ins (el r d).2.1 (posn (el r d).1 (ez r d).1) (ez r d).2, mul (el r d).2.2 r) := rfl
theorem el_length (r d : Nat) : (el r d).1.length = d ∧ (el r d).2.1.length = d := by
  induction d with
  | zero => exact ⟨rfl, rfl⟩
  | succ d ih =>
    rw [el_succ]
    have hp := posn_le (ez r d).1 (el r d).1
    refine ⟨?_, ?_⟩
    · show (ins _ _ _).length = _
      rw [ins_length _ _ _ hp, ih.1]
    · show (ins _ _ _).length = _
      rw [ins_length _ _ _ (by rw [ih.2]; rw [ih.1] at hp; exact hp), ih.2]
def Tiny (l : List Nat) (b : Nat) : Prop := ∀ x ∈ l, x < b
theorem Tiny.getD {l : List Nat} {b : Nat} (h : Tiny l b) (hb : 0 < b) (j : Nat) : l.getD j 0 < b := by
  rw [List.getD_eq_getElem?_getD]
  cases hx : l[j]? with
  | none => simpa using hb
  | some x => exact h x (List.mem_of_getElem? hx)
theorem rd_lt (R M : List Nat) (v m k : Nat) (hR : Tiny R 8192) (hM : Tiny M 16384) (hv : v < 8192) (hm : m < 16384) : (rd R M v m k).1 < 8192 ∧ (rd R M v m k).2 < 16384 := by
  induction k with
  | zero => exact ⟨hv, hm⟩
  | succ k ih =>
    unfold rd
    split
    · exact ⟨xor_lt _ _ ih.1 (hR.getD (by omega) k), Nat.xor_lt_two_pow (n := 14) ih.2 (hM.getD (by omega) k)⟩
    · exact ih
theorem ins_tiny {l : List Nat} {b : Nat} (h : Tiny l b) (i v : Nat) (hv : v < b) : Tiny (ins l i v) b := fun x hx => by
  simp only [ins, List.mem_append, List.mem_singleton] at hx
  rcases hx with (hx | rfl) | hx
  · exact h x (List.mem_of_mem_take hx)
  · exact hv
  · exact h x (List.mem_of_mem_drop hx)
theorem el_tiny (r d : Nat) (hd : d ≤ 14) : Tiny (el r d).1 8192 ∧ Tiny (el r d).2.1 16384 ∧ (el r d).2.2 < 8192 := by
  induction d with
  | zero => exact ⟨fun x hx => (by cases hx), fun x hx => (by cases hx), (by show 1 < 8192; omega)⟩
  | succ d ih =>
    obtain ⟨h1, h2, h3⟩ := ih (by omega)
    have hp : (2 : Nat) ^ d < 16384 := Nat.lt_of_lt_of_le (Nat.pow_lt_pow_right (by omega) (show d < 14 by omega)) (by decide)
    have hr := rd_lt _ _ _ (2 ^ d) d h1 h2 h3 hp
    exact ⟨ins_tiny h1 _ _ hr.1, ins_tiny h2 _ _ hr.2, mul_lt _ _ h3⟩
theorem ez_lt (r d : Nat) (hd : d ≤ 13) : (ez r d).1 < 8192 ∧ (ez r d).2 < 16384 := by
  obtain ⟨h1, h2, h3⟩ := el_tiny r d (by omega)
  exact rd_lt _ _ _ (2 ^ d) d h1 h2 h3 (Nat.lt_of_lt_of_le (Nat.pow_lt_pow_right (by omega) (show d < 14 by omega)) (by decide))
end Go.Proofs.Ytcmcjojjphhffaa
