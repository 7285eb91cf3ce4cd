/- Squares and degrees of products over two numbers. No Go in sight. -/
import Derived.Test.YtpfmdlmnmagkmaaPh
namespace Go.Proofs.Ytpfmdlmnmagkmaa
open Pm

theorem xor_mul_pow (A B n : Nat) : (A ^^^ B) * 2 ^ n = A * 2 ^ n ^^^ B * 2 ^ n := by
  apply Nat.eq_of_testBit_eq
  intro i
  rw [Nat.testBit_xor, Nat.testBit_mul_two_pow, Nat.testBit_mul_two_pow, Nat.testBit_mul_two_pow, Nat.testBit_xor]
  cases decide (n ≤ i) <;> simp
theorem cm_cons (e : Int) (l : List Int) (B : Nat) : cm (e :: l) B = B * 2 ^ e.toNat ^^^ cm l B := by
  have key : ∀ (l : List Int) (P : Nat), l.foldl (fun P e => P ^^^ B * 2 ^ e.toNat) P = P ^^^ l.foldl (fun P e => P ^^^ B * 2 ^ e.toNat) 0 := by
    intro l
    induction l with
    | nil => intro P; simp
    | cons e l ih => intro P; simp only [List.foldl_cons]; rw [ih, ih (0 ^^^ _), Nat.zero_xor, Nat.xor_assoc]
  unfold cm
  rw [List.foldl_cons, key, Nat.zero_xor]
theorem cm_xor (l : List Int) (A B : Nat) : cm l (A ^^^ B) = cm l A ^^^ cm l B := by
  induction l with
  | nil => simp [cm]
  | cons e l ih =>
    rw [cm_cons, cm_cons, cm_cons, ih, xor_mul_pow]
    generalize A * 2 ^ e.toNat = a; generalize B * 2 ^ e.toNat = b; generalize cm l A = c; generalize cm l B = d
    rw [Nat.xor_assoc, Nat.xor_assoc, ← Nat.xor_assoc b, Nat.xor_comm b c, Nat.xor_assoc c]
/-- exponents that a polynomial can have -/
def Okl (l : List Int) : Prop := ∀ e ∈ l, 0 ≤ e ∧ e ≤ 16384
theorem tog_ok (e : Int) (h : 0 ≤ e ∧ e ≤ 16384) : tog e = 2 ^ e.toNat := by unfold tog; rw [if_pos h]
theorem cm_pow (l : List Int) (n : Nat) (h : Okl l) : cm l (2 ^ n) = gat l * 2 ^ n := by
  induction l with
  | nil => simp [cm, gat]
  | cons e l ih =>
    rw [cm_cons, gat_cons, ih (fun x hx => h x (List.mem_cons_of_mem _ hx)), xor_mul_pow, tog_ok e (h e List.mem_cons_self), Nat.mul_comm]
/-- exponents doubled -/
def dbls (l : List Int) : List Int := l.map (2 * ·)
theorem cm_square (l : List Int) (h : Okl l) (h2 : Okl (dbls l)) : cm l (gat l) = gat (dbls l) := by
  induction l with
  | nil => rfl
  | cons e l ih =>
    have h' : Okl l := fun x hx => h x (List.mem_cons_of_mem _ hx)
    have h2' : Okl (dbls l) := fun x hx => h2 x (List.mem_cons_of_mem _ hx)
    have he := h e List.mem_cons_self
    have e2 : tog (2 * e) = 2 ^ e.toNat * 2 ^ e.toNat := by
      rw [tog_ok _ (h2 (2 * e) (by simp [dbls])), ← Nat.pow_add]
      congr 1; omega
    rw [cm_cons, gat_cons, cm_xor, ih h' h2', tog_ok e he, cm_pow l _ h', xor_mul_pow]
    show _ = gat ((2 * e) :: dbls l)
    rw [gat_cons, e2]
    generalize 2 ^ e.toNat * 2 ^ e.toNat = a; generalize gat l * 2 ^ e.toNat = b; generalize gat (dbls l) = c
    rw [Nat.xor_assoc, ← Nat.xor_assoc b, Nat.xor_self, Nat.zero_xor]
theorem exps_ok (P : Nat) : Okl (exps P) := fun e he => by
  have := lst_bound top P e he
  unfold top at this; omega
/-- falling -/
theorem lst_fall (n P : Nat) : (lst n P).Pairwise (fun a b => b < a) := by
  induction n with
  | zero => exact List.Pairwise.nil
  | succ n ih =>
    unfold lst
    split
    · exact List.Pairwise.cons (fun e he => (lst_bound n P e he).2) ih
    · exact ih
theorem exps_fall (P : Nat) : (exps P).Pairwise (fun a b => b < a) := lst_fall top P
theorem gat_lt_of (l : List Int) (n : Nat) (h : ∀ e ∈ l, 0 ≤ e ∧ e < n) (ho : Okl l) : gat l < 2 ^ n := by
  induction l with
  | nil => simp [gat]; exact Nat.two_pow_pos n
  | cons e l ih =>
    rw [gat_cons, tog_ok e (ho e List.mem_cons_self)]
    refine Nat.xor_lt_two_pow (Nat.pow_lt_pow_right (by omega) ?_) (ih (fun x hx => h x (List.mem_cons_of_mem _ hx)) (fun x hx => ho x (List.mem_cons_of_mem _ hx)))
    have := h e List.mem_cons_self; omega
theorem top_xor (t G : Nat) (h : G < 2 ^ t) : 2 ^ t ≤ 2 ^ t ^^^ G ∧ 2 ^ t ^^^ G < 2 ^ (t + 1) ∧ (2 ^ t ^^^ G) ^^^ 2 ^ t = G := by
  have e : 2 ^ t ^^^ G = 2 ^ t + G := by
    apply Nat.eq_of_testBit_eq
    intro i
    have := Nat.testBit_two_pow_mul_add (a := 1) (b := G) (i := t) h i
    rw [Nat.mul_one] at this
    rw [this, Nat.testBit_xor, Nat.testBit_two_pow]
    rcases Nat.lt_trichotomy i t with hi | hi | hi
    · have f : decide (t = i) = false := by simp; omega
      rw [f, if_pos hi]; simp
    · subst hi
      rw [if_neg (by omega), Nat.testBit_lt_two_pow h]; simp
    · have f : decide (t = i) = false := by simp; omega
      have g : G.testBit i = false := Nat.testBit_lt_two_pow (Nat.lt_of_lt_of_le h (Nat.pow_le_pow_right (by omega) (by omega)))
      rw [f, g, if_neg (by omega)]
      have : Nat.testBit 1 (i - t) = false := Nat.testBit_lt_two_pow (Nat.lt_of_lt_of_le (by decide : 1 < 2 ^ 1) (Nat.pow_le_pow_right (by omega) (by omega)))
      rw [this]; rfl
  refine ⟨by omega, by rw [Nat.pow_succ]; omega, ?_⟩
  rw [Nat.xor_comm (2 ^ t) G, Nat.xor_assoc, Nat.xor_self, Nat.xor_zero]
theorem exps_gat (l : List Int) (ho : Okl l) (hf : l.Pairwise (fun a b => b < a)) : exps (gat l) = l := by
  induction l with
  | nil => exact exps_zero
  | cons e l ih =>
    have he := ho e List.mem_cons_self
    have ho' : Okl l := fun x hx => ho x (List.mem_cons_of_mem _ hx)
    obtain ⟨hlt, hf'⟩ := List.pairwise_cons.1 hf
    obtain ⟨n, rfl⟩ := Int.eq_ofNat_of_zero_le he.1
    have hG : gat l < 2 ^ n := gat_lt_of l n (fun x hx => ⟨(ho' x hx).1, hlt x hx⟩) ho'
    obtain ⟨h1, h2, h3⟩ := top_xor n (gat l) hG
    rw [gat_cons, tog_ok _ he, Int.toNat_natCast, exps_top _ n h1 h2 (by omega), h3, ih ho' hf']
/-- the square has its exponents doubled -/
theorem exps_square (X s : Nat) (h2 : X < 2 ^ (s + 1)) (hs : s ≤ 8192) (hX : X < 2 ^ top) : exps (pmul X X) = dbls (exps X) := by
  have ho := exps_ok X
  have ho2 : Okl (dbls (exps X)) := fun x hx => by
    obtain ⟨e, he, rfl⟩ := List.mem_map.1 hx
    have := exps_mem e X s he h2 (by omega)
    omega
  have hp : pmul X X = gat (dbls (exps X)) := by
    have h := cm_square (exps X) ho ho2
    rw [gat_exps X hX] at h
    exact h
  rw [hp]
  refine exps_gat _ ho2 ?_
  unfold dbls
  rw [List.pairwise_map]
  exact (exps_fall X).imp (fun h => by omega)
/-- a product's degree is the sum of the degrees -/
theorem pmul_deg (X Y s t : Nat) (h1 : 2 ^ s ≤ X) (h2 : X < 2 ^ (s + 1)) (h3 : 2 ^ t ≤ Y) (h4 : Y < 2 ^ (t + 1)) (hst : s + t ≤ 16384) :
    2 ^ (s + t) ≤ pmul X Y ∧ pmul X Y < 2 ^ (s + t + 1) := by
  unfold pmul
  rw [exps_top X s h1 h2 (by omega), cm_cons, Int.toNat_natCast]
  have hX' : X ^^^ 2 ^ s < 2 ^ s := by rw [xor_top X s h1 h2]; exact Nat.mod_lt _ (Nat.two_pow_pos _)
  have hl : cm (exps (X ^^^ 2 ^ s)) Y < 2 ^ (s + t) := cm_lt _ _ t _ h4 (fun e he => by
    rcases Nat.eq_zero_or_pos s with h0 | h0
    · subst h0
      have : X ^^^ 2 ^ 0 = 0 := by omega
      rw [this, exps_zero] at he; cases he
    · have := exps_mem e _ (s - 1) he (by rw [show s - 1 + 1 = s by omega]; exact hX') (by omega)
      omega)
  have e1 : Y * 2 ^ s = 2 ^ (s + t) ^^^ (Y ^^^ 2 ^ t) * 2 ^ s := by
    rw [xor_mul_pow, ← Nat.pow_add, Nat.add_comm t s, ← Nat.xor_assoc, Nat.xor_comm (2 ^ (s + t)), Nat.xor_assoc, Nat.xor_self, Nat.xor_zero]
  have hY' : (Y ^^^ 2 ^ t) * 2 ^ s < 2 ^ (s + t) := by
    rw [xor_top Y t h3 h4, Nat.pow_add, Nat.mul_comm]
    exact Nat.mul_lt_mul_of_pos_left (Nat.mod_lt _ (Nat.two_pow_pos _)) (Nat.two_pow_pos _)
  rw [e1, Nat.xor_assoc]
  have := top_xor (s + t) _ (Nat.xor_lt_two_pow hY' hl)
  exact ⟨this.1, this.2.1⟩
end Go.Proofs.Ytpfmdlmnmagkmaa
