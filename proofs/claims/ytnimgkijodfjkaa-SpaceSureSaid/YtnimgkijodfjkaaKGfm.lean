/- The field of 8192 elements in plain numbers: its doubles, powers, products, logarithms. No Go in sight. -/
namespace Go.Proofs.Ytnimgkijodfjkaa.Gfm
/-- the double of an element: x times it -/
def dbl (a : Nat) : Nat := if 8192 ≤ 2 * a then (2 * a) ^^^ 8219 else 2 * a
/-- the powers of x -/
def pw : Nat → Nat | 0 => 1 | n + 1 => dbl (pw n)
/-- the product, bit by bit of the second factor, its highest first: n bits -/
def Mf (a : Nat) : Nat → Nat → Nat
  | 0, _ => 0
  | f + 1, b => dbl (Mf a f (b / 2)) ^^^ (if b % 2 = 1 then a else 0)
def mul (a b : Nat) : Nat := Mf a 13 b

theorem dbl_eq (a : Nat) : dbl a = (2 * a) ^^^ (if 4096 ≤ a then 8219 else 0) := by
  unfold dbl
  by_cases h : 4096 ≤ a
  · rw [if_pos (by omega), if_pos h]
  · rw [if_neg (by omega), if_neg h]; simp
theorem top_bit (a : Nat) (h : a < 8192) : a.testBit 12 = decide (4096 ≤ a) := by
  rw [Nat.testBit_eq_decide_div_mod_eq]
  by_cases k : 4096 ≤ a
  · have : a / 2 ^ 12 % 2 = 1 := by omega
    simp [k, this]
  · have : a / 2 ^ 12 % 2 = 0 := by omega
    simp [k, this]
theorem two_mul_xor (a b : Nat) : 2 * (a ^^^ b) = (2 * a) ^^^ (2 * b) := by
  apply Nat.eq_of_testBit_eq
  intro i
  cases i with
  | zero => simp
  | succ i => rw [Nat.testBit_xor, Nat.testBit_succ, Nat.testBit_succ, Nat.testBit_succ, Nat.mul_div_cancel_left _ (by omega), Nat.mul_div_cancel_left _ (by omega), Nat.mul_div_cancel_left _ (by omega), Nat.testBit_xor]
theorem xor_lt (a b : Nat) (ha : a < 8192) (hb : b < 8192) : a ^^^ b < 8192 := Nat.xor_lt_two_pow (n := 13) ha hb
theorem dbl_xor (a b : Nat) (ha : a < 8192) (hb : b < 8192) : dbl (a ^^^ b) = dbl a ^^^ dbl b := by
  have h := top_bit (a ^^^ b) (xor_lt a b ha hb)
  rw [Nat.testBit_xor, top_bit a ha, top_bit b hb] at h
  rw [dbl_eq, dbl_eq, dbl_eq, two_mul_xor]
  by_cases k : 4096 ≤ a <;> by_cases l : 4096 ≤ b <;> simp [k, l] at h <;> simp only [k, l, if_true, if_false]
  · rw [if_neg (by omega)]
    rw [Nat.xor_assoc (2 * a) 8219, Nat.xor_comm 8219 (2 * b ^^^ 8219), Nat.xor_assoc (2 * b), Nat.xor_self]; simp
  · rw [if_pos (by omega)]
    rw [Nat.xor_assoc, Nat.xor_comm (2 * b), ← Nat.xor_assoc]; simp
  · rw [if_pos (by omega)]
    rw [Nat.xor_assoc]; simp
  · rw [if_neg (by omega)]
    simp
theorem dbl_zero : dbl 0 = 0 := by decide
theorem dbl_lt (a : Nat) (h : a < 8192) : dbl a < 8192 := by
  unfold dbl
  by_cases k : 8192 ≤ 2 * a
  · rw [if_pos k]
    have h1 : 2 * a ^^^ 8219 < 2 ^ 14 := Nat.xor_lt_two_pow (by omega) (by omega)
    have hb : (2 * a ^^^ 8219).testBit 13 = false := by
      rw [Nat.testBit_xor, Nat.testBit_eq_decide_div_mod_eq]
      have e : 2 * a / 2 ^ 13 % 2 = 1 := by omega
      rw [e]; decide
    rw [Nat.testBit_eq_decide_div_mod_eq] at hb
    have := of_decide_eq_false hb
    omega
  · rw [if_neg k]; omega
theorem pw_lt (n : Nat) : pw n < 8192 := by
  induction n with
  | zero => decide
  | succ n ih => exact dbl_lt _ ih
theorem ite_xor (p q : Prop) [Decidable p] [Decidable q] (a : Nat) : (if p then a else 0) ^^^ (if q then a else 0) = if (p ∧ ¬ q) ∨ (q ∧ ¬ p) then a else 0 := by
  by_cases hp : p <;> by_cases hq : q <;> simp [hp, hq]
theorem Mf_lt (a f b : Nat) (ha : a < 8192) : Mf a f b < 8192 := by
  induction f generalizing b with
  | zero => simp [Mf]
  | succ f ih =>
    unfold Mf
    refine xor_lt _ _ (dbl_lt _ (ih _)) ?_
    split <;> omega
theorem mul_lt (a b : Nat) (ha : a < 8192) : mul a b < 8192 := Mf_lt a 13 b ha
theorem xor4 (a b c d : Nat) : (a ^^^ b) ^^^ (c ^^^ d) = (a ^^^ c) ^^^ (b ^^^ d) := by
  rw [Nat.xor_assoc, Nat.xor_assoc, ← Nat.xor_assoc b c d, Nat.xor_comm b c, Nat.xor_assoc c b d]
/-- additive in the first -/
theorem Mf_xor_left (a a' f b : Nat) (ha : a < 8192) (ha' : a' < 8192) : Mf (a ^^^ a') f b = Mf a f b ^^^ Mf a' f b := by
  induction f generalizing b with
  | zero => simp [Mf]
  | succ f ih =>
    simp only [Mf]
    rw [ih, dbl_xor _ _ (Mf_lt _ _ _ ha) (Mf_lt _ _ _ ha'), xor4]
    congr 1
    split <;> simp
theorem half_xor (b b' : Nat) : (b ^^^ b') / 2 = b / 2 ^^^ b' / 2 := by
  apply Nat.eq_of_testBit_eq
  intro i
  rw [Nat.testBit_xor, ← Nat.testBit_succ, ← Nat.testBit_succ, ← Nat.testBit_succ, Nat.testBit_xor]
theorem par_xor (b b' : Nat) : (b ^^^ b') % 2 = (b % 2 + b' % 2) % 2 := by
  have h := Nat.testBit_xor b b' 0
  simp only [Nat.testBit_zero] at h
  rcases Nat.mod_two_eq_zero_or_one b with h1 | h1 <;> rcases Nat.mod_two_eq_zero_or_one b' with h2 | h2 <;> rcases Nat.mod_two_eq_zero_or_one (b ^^^ b') with h3 | h3 <;> simp [h1, h2, h3] at h ⊢
/-- additive in the second -/
theorem Mf_xor (a f b b' : Nat) (ha : a < 8192) : Mf a f (b ^^^ b') = Mf a f b ^^^ Mf a f b' := by
  induction f generalizing b b' with
  | zero => simp [Mf]
  | succ f ih =>
    simp only [Mf]
    rw [half_xor, ih, dbl_xor _ _ (Mf_lt _ _ _ ha) (Mf_lt _ _ _ ha), xor4]
    congr 1
    rw [par_xor]
    by_cases h : b % 2 = 1 <;> by_cases h' : b' % 2 = 1
    · simp [h, h']
    · have : b' % 2 = 0 := by omega
      simp [h, this]
    · have : b % 2 = 0 := by omega
      simp [h', this]
    · have e : b' % 2 = 0 := by omega
      have : b % 2 = 0 := by omega
      simp [e, this]
theorem Mf_fuel (a f b : Nat) (h : b < 2 ^ f) : Mf a (f + 1) b = Mf a f b := by
  induction f generalizing b with
  | zero =>
    have : b = 0 := by omega
    subst this; simp [Mf, dbl_zero]
  | succ f ih =>
    rw [Mf, ih (b / 2) (by rw [Nat.pow_succ] at h; omega)]
    rfl
theorem Mf_two (a f b : Nat) : Mf a (f + 1) (2 * b) = dbl (Mf a f b) := by
  rw [Mf]; simp
/-! every element but 0 is a power of x -/
def sweep : Nat → Nat → Nat → Nat
  | 0, p, acc => if p = 1 then acc else 0
  | n + 1, p, acc => match dbl p, acc ||| (1 <<< p) with
    | q + 1, r + 1 => sweep n (q + 1) (r + 1)
    | _, _ => 0
def full (n : Nat) : Nat := 2 ^ (n + 1) - 2
theorem swept : sweep 8191 1 0 = full 8191 := by decide +kernel
theorem sweep_bit (n k : Nat) (acc a : Nat) (h : (sweep n (pw k) acc).testBit a = true) : pw (k + n) = 1 ∧ (acc.testBit a = true ∨ ∃ m, k ≤ m ∧ m < k + n ∧ pw m = a) := by
  induction n generalizing k acc with
  | zero =>
    unfold sweep at h
    by_cases e : pw k = 1
    · rw [if_pos e] at h; exact ⟨e, .inl h⟩
    · rw [if_neg e] at h; simp at h
  | succ n ih =>
    unfold sweep at h
    split at h
    · rename_i q r e1 e2
      have h : (sweep n (Nat.succ q) (Nat.succ r)).testBit a = true := h
      rw [← e1, ← e2] at h
      obtain ⟨g1, g2⟩ := ih (k + 1) _ h
      refine ⟨by rw [← g1]; congr 1; omega, ?_⟩
      rcases g2 with g2 | ⟨m, m1, m2, m3⟩
      · rw [Nat.testBit_or] at g2
        rcases (Bool.or_eq_true_iff ..).1 g2 with g2 | g2
        · exact .inl g2
        · rw [Nat.one_shiftLeft, Nat.testBit_two_pow] at g2
          exact .inr ⟨k, Nat.le_refl _, by omega, of_decide_eq_true g2⟩
      · exact .inr ⟨m, by omega, by omega, m3⟩
    · simp at h
theorem full_bit (n a : Nat) (h0 : 0 < a) (h : a ≤ n) : (full n).testBit a = true := by
  obtain ⟨b, rfl⟩ : ∃ b, a = b + 1 := ⟨a - 1, by omega⟩
  have e : full n / 2 = 2 ^ n - 1 := by unfold full; rw [Nat.pow_succ]; omega
  rw [Nat.testBit_succ, e, Nat.testBit_two_pow_sub_one]
  exact decide_eq_true (by omega)
theorem pw_all (a : Nat) (h0 : 0 < a) (h : a < 8192) : ∃ m, m < 8191 ∧ pw m = a := by
  have hb := full_bit 8191 a h0 (by omega)
  rw [← swept] at hb
  rcases (sweep_bit 8191 0 0 a hb).2 with g | ⟨m, _, m2, m3⟩
  · simp at g
  · exact ⟨m, by omega, m3⟩
theorem Mf_dbl (x f b : Nat) (h : x < 8192) : Mf (dbl x) f b = dbl (Mf x f b) := by
  induction f generalizing b with
  | zero => simp [Mf, dbl_zero]
  | succ f ih =>
    simp only [Mf]
    rw [ih, dbl_xor _ _ (dbl_lt _ (Mf_lt _ _ _ h)) (by split <;> omega)]
    congr 1
    split <;> simp [dbl_zero]
theorem Mf_modulus (x : Nat) (h : x < 8192) : Mf x 14 8219 = 0 := by
  rcases Nat.eq_zero_or_pos x with rfl | h0
  · decide
  · obtain ⟨m, _, rfl⟩ := pw_all x h0 h
    clear h h0
    induction m with
    | zero => decide
    | succ m ih => rw [pw, Mf_dbl _ _ _ (pw_lt m), ih (by omega), dbl_zero]
theorem mul_dbl (x y : Nat) (hx : x < 8192) (hy : y < 8192) : mul x (dbl y) = dbl (mul x y) := by
  have h1 : dbl (mul x y) = Mf x 14 (2 * y) := (Mf_two x 13 y).symm
  have h2 : mul x (dbl y) = Mf x 14 (dbl y) := (Mf_fuel x 13 _ (dbl_lt y hy)).symm
  rw [h1, h2, dbl_eq, Mf_xor _ _ _ _ hx]
  by_cases k : 4096 ≤ y
  · rw [if_pos k, Mf_modulus x hx]; simp
  · rw [if_neg k]
    have : Mf x 14 0 = 0 := by simp [Mf, dbl_zero]
    rw [this]; simp
theorem mul_one (x : Nat) : mul x 1 = x := by simp [mul, Mf, dbl_zero]
theorem zero_mul (b : Nat) : mul 0 b = 0 := by
  have : ∀ f b, Mf 0 f b = 0 := by
    intro f; induction f with
    | zero => intro b; rfl
    | succ f ih => intro b; rw [Mf, ih]; simp [dbl_zero]
  exact this 13 b
theorem mul_zero (a : Nat) : mul a 0 = 0 := by simp [mul, Mf, dbl_zero]
theorem mul_pw (i j : Nat) : mul (pw i) (pw j) = pw (i + j) := by
  induction j with
  | zero => exact mul_one _
  | succ j ih => rw [pw, mul_dbl _ _ (pw_lt i) (pw_lt j), ih]; rfl
theorem mul_xor (a b c : Nat) (ha : a < 8192) : mul a (b ^^^ c) = mul a b ^^^ mul a c := Mf_xor a 13 b c ha
theorem xor_mul (a b c : Nat) (ha : a < 8192) (hb : b < 8192) : mul (a ^^^ b) c = mul a c ^^^ mul b c := Mf_xor_left a b 13 c ha hb

theorem pw_order : pw 8191 = 1 := by
  have hb := full_bit 8191 1 (by omega) (by omega)
  rw [← swept] at hb
  exact (sweep_bit 8191 0 0 1 hb).1
theorem pw_add (n : Nat) : pw (n + 8191) = pw n := by
  have g : ∀ k, pw k = 1 → pw (n + k) = pw n := fun k hk => by rw [← mul_pw, hk, mul_one]
  exact g 8191 pw_order
theorem pw_addk (n k : Nat) : pw (n + 8191 * k) = pw n := by
  induction k with
  | zero => rfl
  | succ k ih => rw [← ih, ← pw_add (n + 8191 * k)]; exact congrArg pw (by omega)
theorem pw_mod (n : Nat) : pw (n % 8191) = pw n := by
  have := pw_addk (n % 8191) (n / 8191)
  rw [← this]; exact congrArg pw (by omega)
theorem pw_pos (n : Nat) : 0 < pw n := by
  rcases Nat.eq_zero_or_pos (pw n) with h | h
  · exfalso
    have : ∀ k, pw (n + k) = 0 := by
      intro k; induction k with
      | zero => exact h
      | succ k ih => rw [← Nat.add_assoc, pw, ih, dbl_zero]
    have h2 := this (8191 * (n + 1) - n)
    have e : n + (8191 * (n + 1) - n) = 0 + 8191 * (n + 1) := by omega
    rw [e, pw_addk] at h2
    exact absurd h2 (by decide)
  · exact h
/-- every element: 0, or a power -/
theorem elem (a : Nat) (h : a < 8192) : a = 0 ∨ ∃ m, m < 8191 ∧ a = pw m := by
  rcases Nat.eq_zero_or_pos a with h0 | h0
  · exact .inl h0
  · obtain ⟨m, h1, h2⟩ := pw_all a h0 h
    exact .inr ⟨m, h1, h2.symm⟩
theorem mul_comm (a b : Nat) (ha : a < 8192) (hb : b < 8192) : mul a b = mul b a := by
  rcases elem a ha with rfl | ⟨i, _, rfl⟩
  · rw [zero_mul, mul_zero]
  · rcases elem b hb with rfl | ⟨j, _, rfl⟩
    · rw [zero_mul, mul_zero]
    · rw [mul_pw, mul_pw, Nat.add_comm]
theorem mul_assoc (a b c : Nat) (ha : a < 8192) (hb : b < 8192) (hc : c < 8192) : mul (mul a b) c = mul a (mul b c) := by
  rcases elem a ha with rfl | ⟨i, _, rfl⟩
  · simp only [zero_mul]
  · rcases elem b hb with rfl | ⟨j, _, rfl⟩
    · simp only [zero_mul, mul_zero]
    · rcases elem c hc with rfl | ⟨k, _, rfl⟩
      · simp only [mul_zero]
      · simp only [mul_pw, Nat.add_assoc]

/-! logarithms, as the loop lays them -/
def lgk : Nat → Nat → Nat
  | 0, _ => 0
  | k + 1, a => if pw k = a then k else lgk k a
def lg (a : Nat) : Nat := lgk 8191 a
theorem lgk_spec (k a : Nat) (h : ∃ m, m < k ∧ pw m = a) : pw (lgk k a) = a ∧ lgk k a < k := by
  induction k with
  | zero => obtain ⟨m, h, _⟩ := h; omega
  | succ k ih =>
    unfold lgk
    by_cases e : pw k = a
    · rw [if_pos e]; exact ⟨e, by omega⟩
    · rw [if_neg e]
      obtain ⟨m, m1, m2⟩ := h
      have : m ≠ k := by rintro rfl; exact e m2
      have := ih ⟨m, by omega, m2⟩
      exact ⟨this.1, by omega⟩
theorem lgk_lt (k a : Nat) (h : 0 < k) : lgk k a < k := by
  induction k with
  | zero => omega
  | succ k ih =>
    unfold lgk
    split
    · omega
    · rcases Nat.eq_zero_or_pos k with rfl | hk
      · simp [lgk]
      · have := ih hk; omega
theorem lg_lt (a : Nat) : lg a < 8191 := lgk_lt 8191 a (by omega)
theorem pw_lg (a : Nat) (h0 : 0 < a) (h : a < 8192) : pw (lg a) = a := (lgk_spec 8191 a (pw_all a h0 h)).1
theorem prod_eq (a b : Nat) (ha0 : 0 < a) (hb0 : 0 < b) (ha : a < 8192) (hb : b < 8192) : pw (lg a + lg b) = mul a b := by
  rw [← mul_pw, pw_lg a ha0 ha, pw_lg b hb0 hb]
/-- a power of an element, by its factors -/
def npow (a : Nat) : Nat → Nat | 0 => 1 | n + 1 => mul (npow a n) a
theorem npow_pw (i n : Nat) : npow (pw i) n = pw (i * n) := by
  induction n with
  | zero => rfl
  | succ n ih => rw [npow, ih, mul_pw]; rfl
theorem npow_lt (a n : Nat) : npow a n < 8192 := by
  induction n with
  | zero => simp [npow]
  | succ n ih => exact mul_lt _ _ ih
end Go.Proofs.Ytnimgkijodfjkaa.Gfm
