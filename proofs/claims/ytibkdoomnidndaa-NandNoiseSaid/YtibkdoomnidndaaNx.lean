/- Noise: no more bits of a piece turn than are allowed. -/
import Derived.Test.YtibkdoomnidndaaNw
namespace Go.Proofs.Ytibkdoomnidndaa
open Go.RowKit

def pop (x : Nat) : Nat := x % 2 + x / 2 % 2 + x / 4 % 2 + x / 8 % 2 + x / 16 % 2 + x / 32 % 2 + x / 64 % 2 + x / 128 % 2
theorem pop_flip0 : ∀ z, z < 256 → ∀ s, s < 8 → pop (z ^^^ 2 ^ s) ≤ pop z + 1 := by decide +kernel
theorem pop_half (x : Nat) (h : x < 256) : pop x = x % 2 + pop (x / 2) := by
  unfold pop
  omega
/-- how many bits of f and g are unlike in the n bytes from a on -/
def unlike (f g : Nat → Nat) (a : Nat) : Nat → Nat
  | 0 => 0
  | n + 1 => unlike f g a n + pop (f (a + n) ^^^ g (a + n))
theorem unlike_same {f f' g : Nat → Nat} {a : Nat} : ∀ n, (∀ i, a ≤ i → i < a + n → f i = f' i) → unlike f g a n = unlike f' g a n
  | 0, _ => rfl
  | n + 1, h => by rw [unlike, unlike, unlike_same n (fun i h1 h2 => h i h1 (by omega)), h (a + n) (by omega) (by omega)]
theorem unlike_self (f : Nat → Nat) (a : Nat) : ∀ n, unlike f f a n = 0
  | 0 => rfl
  | n + 1 => by rw [unlike, unlike_self f a n, Nat.xor_self]; rfl
theorem unlike_mono (f g : Nat → Nat) (a : Nat) {n m : Nat} (h : n ≤ m) : unlike f g a n ≤ unlike f g a m := by
  induction m with
  | zero => obtain rfl : n = 0 := by omega
            exact Nat.le_refl _
  | succ m ih =>
    by_cases e : n = m + 1
    · subst e; exact Nat.le_refl _
    · have := ih (by omega)
      rw [unlike]; omega
theorem unlike_turn {f g : Nat → Nat} (hf : ∀ i, f i < 256) (hg : ∀ i, g i < 256) (o b a : Nat) : ∀ n, unlike (turnBit f o b) g a n ≤ unlike f g a n + 1 ∧ (¬ (a ≤ o + b / 8 ∧ o + b / 8 < a + n) → unlike (turnBit f o b) g a n = unlike f g a n)
  | 0 => ⟨Nat.zero_le _, fun _ => rfl⟩
  | n + 1 => by
    obtain ⟨h1, h2⟩ := unlike_turn hf hg o b a n
    rw [unlike, unlike]
    by_cases e : a + n = o + b / 8
    · have h3 := h2 (by omega)
      rw [h3]
      have h4 : turnBit f o b (a + n) = f (a + n) ^^^ 2 ^ (b % 8) := by unfold turnBit; rw [if_pos e]
      rw [h4, Nat.xor_assoc, Nat.xor_comm (2 ^ (b % 8)), ← Nat.xor_assoc]
      have h5 := pop_flip0 (f (a + n) ^^^ g (a + n)) (Nat.xor_lt_two_pow (n := 8) (hf _) (hg _)) (b % 8) (by omega)
      exact ⟨by omega, fun h => absurd ⟨by omega, by omega⟩ h⟩
    · have h4 : turnBit f o b (a + n) = f (a + n) := by unfold turnBit; rw [if_neg e]
      rw [h4]
      exact ⟨by omega, fun h => by rw [h2 (by omega)]⟩
theorem unlike_turns (o len h : Nat) (hl : 1 ≤ len) {g : Nat → Nat} (hg : ∀ i, g i < 256) (a n : Nat) (f : Nat → Nat) (hf : ∀ i, f i < 256) : ∀ k, unlike (turns o len k h f) g a n ≤ unlike f g a n + k ∧ (a + n ≤ o ∨ o + len ≤ a → unlike (turns o len k h f) g a n = unlike f g a n)
  | 0 => ⟨Nat.le_refl _, fun _ => rfl⟩
  | k + 1 => by
    obtain ⟨h1, h2⟩ := unlike_turns o len h hl hg a n f hf k
    rw [turns_succ]
    obtain ⟨h3, h4⟩ := unlike_turn (turns_lt o len k h f hf) hg o (drawnN (stepsH (k + 1) h) (8 * len)) a n
    have h5 : drawnN (stepsH (k + 1) h) (8 * len) < 8 * len := by rw [drawnN]; exact Nat.mod_lt _ (by omega)
    exact ⟨by omega, fun hd => by rw [h4 (by omega), h2 hd]⟩
/-- the pieces up to the j-th treated: at most so many bits of each are unlike -/
theorem unlike_fold (most L pc pl : Nat) (hm : 1 ≤ most) (hp : 1 ≤ pc) (f : Nat → Nat) (hf : ∀ i, f i < 256) (q : Nat) : ∀ j, j ≤ pieces L pc → unlike (foldT (pieceF most L pc pl) f (List.range j)).1 f (q * pc) (min pc (L - q * pc)) ≤ if q < j then most else 0
  | 0, _ => by rw [if_neg (Nat.not_lt_zero q)]; exact Nat.le_of_eq (unlike_self f _ _)
  | j + 1, hj => by
    have ih := unlike_fold most L pc pl hm hp f hf q j (by omega)
    rw [range_succ', foldT_snoc]
    have hjL : j * pc < L := (pieces_lt hp).1 (by omega)
    have hpi : pidx L pc j = j := by unfold pidx; rw [if_pos hjL]
    have hlt := foldT_lt (fun x j f h => pieceF_lt most L pc pl x j f h) f hf (List.range j)
    have ht : drawnN (hashN pl (foldT (pieceF most L pc pl) f (List.range j)).2) most < most := by rw [drawnN]; exact Nat.mod_lt _ (by omega)
    show unlike (pieceF most L pc pl j _ _) f _ _ ≤ _
    rw [pieceF, hpi, pieceT]
    obtain ⟨h1, h2⟩ := unlike_turns (j * pc) (min pc (L - j * pc)) (hashN pl (foldT (pieceF most L pc pl) f (List.range j)).2) (by omega) hf (q * pc) (min pc (L - q * pc)) _ hlt (drawnN (hashN pl (foldT (pieceF most L pc pl) f (List.range j)).2) most + 1)
    by_cases e : q = j
    · subst e
      rw [if_neg (Nat.lt_irrefl q)] at ih
      rw [if_pos (by omega)]
      omega
    · have hd : q * pc + min pc (L - q * pc) ≤ j * pc ∨ j * pc + min pc (L - j * pc) ≤ q * pc := by
        by_cases e2 : q < j
        · left
          have : (q + 1) * pc ≤ j * pc := Nat.mul_le_mul_right pc (by omega)
          rw [Nat.succ_mul] at this
          omega
        · right
          have : (j + 1) * pc ≤ q * pc := Nat.mul_le_mul_right pc (by omega)
          rw [Nat.succ_mul] at this
          omega
      rw [h2 hd]
      by_cases e3 : q < j
      · rw [if_pos e3] at ih; rw [if_pos (by omega)]; exact ih
      · rw [if_neg e3] at ih; rw [if_neg (by omega)]; exact ih
/-- what the law counts: a piece's count begins anew at each piece -/
def countT (d : Nat → Nat) (pc : Nat) : Nat → Nat
  | 0 => 0
  | k + 1 => (if k % pc = 0 then 0 else countT d pc k) + pop (d k)
theorem countT_is (f g : Nat → Nat) (pc : Nat) (hp : 1 ≤ pc) : ∀ k, countT (fun i => f i ^^^ g i) pc (k + 1) = unlike f g (k / pc * pc) (k % pc + 1)
  | 0 => by simp [countT, unlike, Nat.zero_mod, Nat.zero_div]
  | k + 1 => by
    rw [countT]
    by_cases h : (k + 1) % pc = 0
    · rw [if_pos h, h, unlike, unlike]
      have e : (k + 1) / pc * pc = k + 1 := Nat.div_mul_cancel (Nat.dvd_of_mod_eq_zero h)
      rw [e, Nat.add_zero]
    · rw [if_neg h, countT_is f g pc hp k]
      have e1 : (k + 1) % pc = k % pc + 1 := by
        have h0 : k % pc < pc := Nat.mod_lt _ (by omega)
        by_cases e : k % pc + 1 = pc
        · exfalso
          apply h
          have : k + 1 = pc * (k / pc) + pc := by have := Nat.div_add_mod k pc; omega
          rw [this, ← Nat.mul_succ, Nat.mul_mod_right]
        · have : k + 1 = pc * (k / pc) + (k % pc + 1) := by have := Nat.div_add_mod k pc; omega
          rw [this, Nat.mul_add_mod, Nat.mod_eq_of_lt (by omega)]
      have e2 : (k + 1) / pc = k / pc := by
        have a1 := Nat.div_add_mod (k + 1) pc
        have a2 := Nat.div_add_mod k pc
        rw [e1] at a1
        exact Nat.eq_of_mul_eq_mul_left (show 0 < pc by omega) (by omega)
      rw [e2, e1]
      have hu : unlike f g (k / pc * pc) (k % pc + 1 + 1) = unlike f g (k / pc * pc) (k % pc + 1) + pop (f (k / pc * pc + (k % pc + 1)) ^^^ g (k / pc * pc + (k % pc + 1))) := rfl
      have e3 : k / pc * pc + (k % pc + 1) = k + 1 := by rw [Nat.mul_comm]; have := Nat.div_add_mod k pc; omega
      rw [hu, e3]
theorem countT_le (most L pc pl : Nat) (hm : 1 ≤ most) (hp : 1 ≤ pc) (f : Nat → Nat) (hf : ∀ i, f i < 256) (k : Nat) (hk : k ≤ L) : countT (fun i => noiseT most L pc pl f i ^^^ f i) pc k ≤ most := by
  cases k with
  | zero => exact Nat.zero_le _
  | succ k =>
    have := countT_is (noiseT most L pc pl f) f pc hp k
    rw [this]
    have h1 := unlike_fold most L pc pl hm hp f hf (k / pc) (pieces L pc) (Nat.le_refl _)
    have hdm := Nat.div_add_mod k pc
    have hmul : pc * (k / pc) = k / pc * pc := Nat.mul_comm _ _
    have hml : k % pc < pc := Nat.mod_lt _ (by omega)
    rw [if_pos ((pieces_lt hp).2 (by omega))] at h1
    exact Nat.le_trans (unlike_mono _ _ _ (by omega)) h1
end Go.Proofs.Ytibkdoomnidndaa
