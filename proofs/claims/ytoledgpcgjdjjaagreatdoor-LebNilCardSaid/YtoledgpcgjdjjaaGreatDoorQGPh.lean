import Derived.Test.YtoledgpcgjdjjaaGreatDoorQGPc
import Derived.Deep.AppendSrc
/- The laws of layer 2: what they all begin with. -/
namespace Go.Proofs.YtoledgpcgjdjjaaGreatDoor
open Go.RowKit Pm

theorem ints2 (w : World) (x y : Int) : Ints (w.alloc (.cells #[.int .i64 x, .int .i64 y] 3)) (w.heap.size + 1) (some ⟨w.heap.size, 0, none⟩) 2 [x, y] :=
  ⟨rfl, fun _ => ⟨w.heap.size, 0, rfl, by omega, fun i hi => by
    rw [cell_of (heap_alloc_new w _)]
    have : i = 0 ∨ i = 1 := by omega
    rcases this with rfl | rfl <;> rfl⟩⟩

end Go.Proofs.YtoledgpcgjdjjaaGreatDoor

/- Squares and degrees of products over two numbers. No Go in sight. -/
namespace Go.Proofs.YtoledgpcgjdjjaaGreatDoor
open Pm

theorem xor_mul_pow (A B n : Nat) : (A ^^^ B) * 2 ^ n = A * 2 ^ n ^^^ B * 2 ^ n := by
  apply Nat.eq_of_testBit_eq
  intro i
  rw [Nat.testBit_xor, Nat.testBit_mul_two_pow, Nat.testBit_mul_two_pow, Nat.testBit_mul_two_pow, Nat.testBit_xor]
  cases decide (n ≤ i) <;> simp
theorem cm_cons (e : Int) (l : List Int) (B : Nat) : cm (e :: l) B = B * 2 ^ e.toNat ^^^ cm l B := by
  have key : ∀ (l : List Int) (P : Nat), l.foldl (fun P e => P ^^^ B * 2 ^ e.toNat) P = P ^^^ l.foldl (fun P e => P ^^^ B * 2 ^ e.toNat) 0 := by
    intro l
    induction l with
    | nil => intro P; simp
    | cons e l ih => intro P; simp only [List.foldl_cons]; rw [ih, ih (0 ^^^ _), Nat.zero_xor, Nat.xor_assoc]
  unfold cm
  rw [List.foldl_cons, key, Nat.zero_xor]
theorem top_xor (t G : Nat) (h : G < 2 ^ t) : 2 ^ t ≤ 2 ^ t ^^^ G ∧ 2 ^ t ^^^ G < 2 ^ (t + 1) ∧ (2 ^ t ^^^ G) ^^^ 2 ^ t = G := by
  have e : 2 ^ t ^^^ G = 2 ^ t + G := by
    apply Nat.eq_of_testBit_eq
    intro i
    have := Nat.testBit_two_pow_mul_add (a := 1) (b := G) (i := t) h i
    rw [Nat.mul_one] at this
    rw [this, Nat.testBit_xor, Nat.testBit_two_pow]
    rcases Nat.lt_trichotomy i t with hi | hi | hi
    · have f : decide (t = i) = false := by simp; omega
      rw [f, if_pos hi]; simp
    · subst hi
      rw [if_neg (by omega), Nat.testBit_lt_two_pow h]; simp
    · have f : decide (t = i) = false := by simp; omega
      have g : G.testBit i = false := Nat.testBit_lt_two_pow (Nat.lt_of_lt_of_le h (Nat.pow_le_pow_right (by omega) (by omega)))
      rw [f, g, if_neg (by omega)]
      have : Nat.testBit 1 (i - t) = false := Nat.testBit_lt_two_pow (Nat.lt_of_lt_of_le (by decide : 1 < 2 ^ 1) (Nat.pow_le_pow_right (by omega) (by omega)))
      rw [this]; rfl
  refine ⟨by omega, by rw [Nat.pow_succ]; omega, ?_⟩
  rw [Nat.xor_comm (2 ^ t) G, Nat.xor_assoc, Nat.xor_self, Nat.xor_zero]
theorem pmul_deg (X Y s t : Nat) (h1 : 2 ^ s ≤ X) (h2 : X < 2 ^ (s + 1)) (h3 : 2 ^ t ≤ Y) (h4 : Y < 2 ^ (t + 1)) (hst : s + t ≤ 16384) :
    2 ^ (s + t) ≤ pmul X Y ∧ pmul X Y < 2 ^ (s + t + 1) := by
  unfold pmul
  rw [exps_top X s h1 h2 (by omega), cm_cons, Int.toNat_natCast]
  have hX' : X ^^^ 2 ^ s < 2 ^ s := by rw [xor_top X s h1 h2]; exact Nat.mod_lt _ (Nat.two_pow_pos _)
  have hl : cm (exps (X ^^^ 2 ^ s)) Y < 2 ^ (s + t) := cm_lt _ _ t _ h4 (fun e he => by
    rcases Nat.eq_zero_or_pos s with h0 | h0
    · subst h0
      have : X ^^^ 2 ^ 0 = 0 := by omega
      rw [this, exps_zero] at he; cases he
    · have := exps_mem e _ (s - 1) he (by rw [show s - 1 + 1 = s by omega]; exact hX') (by omega)
      omega)
  have e1 : Y * 2 ^ s = 2 ^ (s + t) ^^^ (Y ^^^ 2 ^ t) * 2 ^ s := by
    rw [xor_mul_pow, ← Nat.pow_add, Nat.add_comm t s, ← Nat.xor_assoc, Nat.xor_comm (2 ^ (s + t)), Nat.xor_assoc, Nat.xor_self, Nat.xor_zero]
  have hY' : (Y ^^^ 2 ^ t) * 2 ^ s < 2 ^ (s + t) := by
    rw [xor_top Y t h3 h4, Nat.pow_add, Nat.mul_comm]
    exact Nat.mul_lt_mul_of_pos_left (Nat.mod_lt _ (Nat.two_pow_pos _)) (Nat.two_pow_pos _)
  rw [e1, Nat.xor_assoc]
  have := top_xor (s + t) _ (Nat.xor_lt_two_pow hY' hl)
  exact ⟨this.1, this.2.1⟩
end Go.Proofs.YtoledgpcgjdjjaaGreatDoor
