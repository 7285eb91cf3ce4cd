/- Elimination over bits: rows with distinct leading bits. Plain. -/
import Derived.Test.YtcmcjojjphhffaaPC
namespace Go.Proofs.Ytcmcjojjphhffaa
open Pm Gfm

theorem lead_bit (x : Nat) (h : x ≠ 0) : x.testBit x.log2 = true :=
  Nat.testBit_of_two_pow_le_and_two_pow_add_one_gt (Nat.log2_self_le h) Nat.lt_log2_self
theorem over_bit (x t : Nat) (h : x.log2 < t) : x.testBit t = false :=
  Nat.testBit_lt_two_pow (Nat.lt_of_lt_of_le Nat.lt_log2_self (Nat.pow_le_pow_right (by omega) h))
theorem less_bit (a b t : Nat) (ha : a.testBit t = false) (hb : b.testBit t = true) (h : ∀ j, t < j → a.testBit j = b.testBit j) : a < b := by
  have e : a / 2 ^ (t + 1) = b / 2 ^ (t + 1) := by
    refine Nat.eq_of_testBit_eq fun j => ?_
    rw [Nat.testBit_div_two_pow, Nat.testBit_div_two_pow]
    exact h _ (by omega)
  rw [Nat.testBit_eq_decide_div_mod_eq] at ha hb
  have h1 : ¬ a / 2 ^ t % 2 = 1 := of_decide_eq_false ha
  have h2 : b / 2 ^ t % 2 = 1 := of_decide_eq_true hb
  rw [Nat.pow_succ, ← Nat.div_div_eq_div_mul, ← Nat.div_div_eq_div_mul] at e
  have h3 : a / 2 ^ t < b / 2 ^ t := by omega
  rcases Nat.lt_or_ge a b with h4 | h4
  · exact h4
  · have := Nat.div_le_div_right (c := 2 ^ t) h4
    omega
theorem xor_less (v x : Nat) (h : x ≠ 0) : v ^^^ x < v ↔ v.testBit x.log2 = true := by
  have hx := lead_bit x h
  have ho : ∀ j, x.log2 < j → (v ^^^ x).testBit j = v.testBit j := fun j hj => by
    rw [Nat.testBit_xor, over_bit x j hj]; simp
  have hb : (v ^^^ x).testBit x.log2 = !v.testBit x.log2 := by rw [Nat.testBit_xor, hx]; simp
  constructor
  · intro hlt
    cases hv : v.testBit x.log2 with
    | true => rfl
    | false =>
      have := less_bit _ _ x.log2 hv (by rw [hb, hv]; rfl) (fun j hj => (ho j hj).symm)
      omega
  · intro hv
    exact less_bit _ _ x.log2 (by rw [hb, hv]; rfl) hv ho
/-- rows none of which is 0, the leading bits falling -/
def Ech (R : List Nat) : Prop := (∀ x ∈ R, x ≠ 0) ∧ R.Pairwise (fun x y => y.log2 < x.log2)
/-- the sums of rows -/
def Spn : List Nat → Nat → Prop
  | [], v => v = 0
  | x :: l, v => Spn l v ∨ Spn l (v ^^^ x)
theorem spn_zero (R : List Nat) : Spn R 0 := by
  induction R with
  | nil => rfl
  | cons x l ih => exact .inl ih
theorem spn_xor (R : List Nat) : ∀ a b, Spn R a → Spn R b → Spn R (a ^^^ b) := by
  induction R with
  | nil =>
    intro a b ha hb
    have h1 : a = 0 := ha
    have h2 : b = 0 := hb
    subst h1 h2; rfl
  | cons x l ih =>
    intro a b ha hb
    rcases ha with ha | ha <;> rcases hb with hb | hb
    · exact .inl (ih _ _ ha hb)
    · exact .inr (by have := ih _ _ ha hb; rwa [← Nat.xor_assoc] at this)
    · exact .inr (by have := ih _ _ ha hb; rwa [Nat.xor_assoc, Nat.xor_comm x, ← Nat.xor_assoc] at this)
    · refine .inl ?_
      have := ih _ _ ha hb
      rw [Nat.xor_assoc, Nat.xor_comm b x, ← Nat.xor_assoc x x, Nat.xor_self, Nat.zero_xor] at this
      exact this
theorem spn_mem (R : List Nat) : ∀ x ∈ R, Spn R x := by
  induction R with
  | nil => intro x h; cases h
  | cons y l ih =>
    intro x h
    rcases List.mem_cons.1 h with rfl | h
    · exact .inr (by rw [Nat.xor_self]; exact spn_zero l)
    · exact .inl (ih x h)
theorem spn_sub (R R' : List Nat) (h : ∀ x ∈ R, Spn R' x) : ∀ v, Spn R v → Spn R' v := by
  induction R with
  | nil => intro v hv; have : v = 0 := hv; subst this; exact spn_zero R'
  | cons x l ih =>
    intro v hv
    have ih' := ih (fun y hy => h y (List.mem_cons_of_mem _ hy))
    rcases hv with hv | hv
    · exact ih' v hv
    · have := spn_xor R' _ _ (ih' _ hv) (h x List.mem_cons_self)
      rwa [Nat.xor_assoc, Nat.xor_self, Nat.xor_zero] at this
theorem ech_small {x : Nat} {l : List Nat} (h : Ech (x :: l)) : ∀ v, Spn l v → v < 2 ^ x.log2 := by
  have hl : ∀ y ∈ l, y < 2 ^ x.log2 := fun y hy => by
    have := (List.pairwise_cons.1 h.2).1 y hy
    exact Nat.lt_of_lt_of_le Nat.lt_log2_self (Nat.pow_le_pow_right (by omega) this)
  clear h
  induction l with
  | nil => intro v hv; have : v = 0 := hv; subst this; exact Nat.two_pow_pos _
  | cons y l ih =>
    intro v hv
    have ih' := ih (fun z hz => hl z (List.mem_cons_of_mem _ hz))
    rcases hv with hv | hv
    · exact ih' v hv
    · have h1 := Nat.xor_lt_two_pow (ih' _ hv) (hl y List.mem_cons_self)
      rwa [Nat.xor_assoc, Nat.xor_self, Nat.xor_zero] at h1
theorem ech_tail {x : Nat} {l : List Nat} (h : Ech (x :: l)) : Ech l := ⟨fun y hy => h.1 y (List.mem_cons_of_mem _ hy), (List.pairwise_cons.1 h.2).2⟩
/-- what is a sum of rows and has none of their leading bits is 0 -/
theorem red_zero (R : List Nat) (h : Ech R) : ∀ v, Spn R v → (∀ x ∈ R, v.testBit x.log2 = false) → v = 0 := by
  induction R with
  | nil => intro v hv _; exact hv
  | cons x l ih =>
    intro v hv hb
    rcases hv with hv | hv
    · exact ih (ech_tail h) v hv (fun y hy => hb y (List.mem_cons_of_mem _ hy))
    · have h1 := Nat.testBit_lt_two_pow (ech_small h _ hv)
      rw [Nat.testBit_xor, hb x List.mem_cons_self, lead_bit x (h.1 x List.mem_cons_self)] at h1
      cases h1
theorem ech_length (R : List Nat) : ∀ b, Ech R → (∀ x ∈ R, x < 2 ^ b) → R.length ≤ b := by
  induction R with
  | nil => intro b _ _; exact Nat.zero_le _
  | cons x l ih =>
    intro b h hb
    have hx := hb x List.mem_cons_self
    have h1 : x.log2 < b := (Nat.log2_lt (h.1 x List.mem_cons_self)).2 hx
    have h2 := ih x.log2 (ech_tail h) (fun y hy => ech_small h y (spn_mem l y hy))
    show l.length + 1 ≤ b
    omega
/-- as many rows as bits: nothing is left -/
theorem full_zero (R : List Nat) : ∀ v, Ech R → (∀ x ∈ R, x < 2 ^ R.length) → v < 2 ^ R.length → (∀ x ∈ R, v.testBit x.log2 = false) → v = 0 := by
  induction R with
  | nil => intro v _ _ hv _; simpa using hv
  | cons x l ih =>
    intro v h hb hv hr
    have h1 : x.log2 < l.length + 1 := (Nat.log2_lt (h.1 x List.mem_cons_self)).2 (hb x List.mem_cons_self)
    have h2 := ech_length l x.log2 (ech_tail h) (fun y hy => ech_small h y (spn_mem l y hy))
    have h3 : x.log2 = l.length := by omega
    have hl : ∀ y ∈ l, y < 2 ^ l.length := fun y hy => by have := ech_small h y (spn_mem l y hy); rwa [h3] at this
    have hv2 : v < 2 ^ l.length := by
      refine Nat.lt_pow_two_of_testBit v fun j hj => ?_
      rcases Nat.eq_or_lt_of_le hj with h4 | h4
      · rw [← h4, ← h3]; exact hr x List.mem_cons_self
      · exact Nat.testBit_lt_two_pow (Nat.lt_of_lt_of_le hv (Nat.pow_le_pow_right (by omega) h4))
    exact ih v (ech_tail h) hl hv2 (fun y hy => hr y (List.mem_cons_of_mem _ hy))
end Go.Proofs.Ytcmcjojjphhffaa
