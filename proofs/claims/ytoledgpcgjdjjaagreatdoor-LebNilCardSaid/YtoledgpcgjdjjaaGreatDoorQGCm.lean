import Derived.WalkKit
/- The checksum in plain numbers: a bit's step, a byte's step, a half byte's table; sums of registers; a changed byte is told. No Go in sight. -/
namespace Go.Proofs.YtoledgpcgjdjjaaGreatDoor
namespace Cm

def P : Nat := 3988292384
def sh (r : Nat) : Nat := (r >>> 1) ^^^ (if r.testBit 0 then P else 0)
def shs : Nat → Nat → Nat
  | 0, r => r
  | n + 1, r => shs n (sh r)
theorem shs_add (m n r : Nat) : shs (m + n) r = shs n (shs m r) := by
  induction m generalizing r with
  | zero => simp [shs]
  | succ m ih => rw [show m + 1 + n = (m + n) + 1 by omega]; exact ih (sh r)
def nxt (r : Nat) (c : UInt8) : Nat := shs 8 (r ^^^ c.toNat)
def reg (r : Nat) (l : List UInt8) : Nat := l.foldl nxt r
theorem reg_nil (r : Nat) : reg r [] = r := rfl
theorem reg_cons (r : Nat) (c : UInt8) (l : List UInt8) : reg r (c :: l) = reg (nxt r c) l := rfl
theorem reg_append (r : Nat) (a b : List UInt8) : reg r (a ++ b) = reg (reg r a) b := List.foldl_append
theorem reg_snoc (r : Nat) (a : List UInt8) (c : UInt8) : reg r (a ++ [c]) = nxt (reg r a) c := by rw [reg_append]; rfl
def ones : Nat := 4294967295
def ext (c : Nat) (l : List UInt8) : Nat := reg (c ^^^ ones) l ^^^ ones
theorem ones_ones (c : Nat) : c ^^^ ones ^^^ ones = c := by rw [Nat.xor_assoc, Nat.xor_self, Nat.xor_zero]
theorem sh_lt {r : Nat} (h : r < 2 ^ 32) : sh r < 2 ^ 32 := by
  unfold sh
  refine Nat.xor_lt_two_pow (by rw [Nat.shiftRight_eq_div_pow]; omega) ?_
  split
  · decide
  · decide
theorem shs_lt (n : Nat) {r : Nat} (h : r < 2 ^ 32) : shs n r < 2 ^ 32 := by
  induction n generalizing r with
  | zero => exact h
  | succ n ih => exact ih (sh_lt h)
theorem u8_lt (c : UInt8) : c.toNat < 256 := c.toNat_lt
theorem nxt_lt {r : Nat} (c : UInt8) (h : r < 2 ^ 32) : nxt r c < 2 ^ 32 :=
  shs_lt 8 (Nat.xor_lt_two_pow h (by have := u8_lt c; omega))
theorem reg_lt {r : Nat} (l : List UInt8) (h : r < 2 ^ 32) : reg r l < 2 ^ 32 := by
  induction l generalizing r with
  | nil => exact h
  | cons c l ih => exact ih (nxt_lt c h)
theorem ext_lt {c : Nat} (l : List UInt8) (h : c < 2 ^ 32) : ext c l < 2 ^ 32 :=
  Nat.xor_lt_two_pow (reg_lt l (Nat.xor_lt_two_pow h (by decide))) (by decide)

theorem sh_xor (a b : Nat) : sh (a ^^^ b) = sh a ^^^ sh b := by
  unfold sh
  rw [Nat.shiftRight_xor_distrib, Nat.testBit_xor]
  generalize a >>> 1 = x; generalize b >>> 1 = y
  cases a.testBit 0 <;> cases b.testBit 0 <;> simp
  · rw [Nat.xor_assoc]
  · rw [Nat.xor_assoc, Nat.xor_comm y, ← Nat.xor_assoc]
  · rw [Nat.xor_assoc x, Nat.xor_comm P (y ^^^ P), Nat.xor_assoc y, Nat.xor_self, Nat.xor_zero]
theorem shs_xor (n a b : Nat) : shs n (a ^^^ b) = shs n a ^^^ shs n b := by
  induction n generalizing a b with
  | zero => rfl
  | succ n ih => show shs n _ = shs n _ ^^^ shs n _; rw [sh_xor, ih]
theorem sh_two (m : Nat) : sh (2 * m) = m := by
  unfold sh
  have h : (2 * m).testBit 0 = false := by simp
  rw [h, Nat.shiftRight_eq_div_pow]
  simp
theorem shs4_16 (q : Nat) : shs 4 (16 * q) = q := by
  show sh (sh (sh (sh (16 * q)))) = q
  rw [show 16 * q = 2 * (2 * (2 * (2 * q))) by omega, sh_two, sh_two, sh_two, sh_two]
theorem split16 (r : Nat) : r = 16 * (r >>> 4) ^^^ (r &&& 15) := by
  have h1 : r &&& 15 = r % 16 := Nat.and_two_pow_sub_one_eq_mod r 4
  have h2 : r >>> 4 = r / 16 := Nat.shiftRight_eq_div_pow r 4
  rw [h1, h2]
  have : 16 * (r / 16) ^^^ (r % 16) = 16 * (r / 16) + r % 16 := by
    apply Nat.eq_of_testBit_eq
    intro i
    have e := Nat.testBit_two_pow_mul_add (a := r / 16) (b := r % 16) (i := 4) (Nat.mod_lt _ (by omega)) i
    rw [show (2 : Nat) ^ 4 = 16 from rfl] at e
    rw [e, Nat.testBit_xor]
    have e2 : (16 * (r / 16)).testBit i = if i < 4 then false else (r / 16).testBit (i - 4) := by
      have := Nat.testBit_two_pow_mul_add (a := r / 16) (b := 0) (i := 4) (by decide) i
      rw [show (2 : Nat) ^ 4 = 16 from rfl] at this
      simpa using this
    rw [e2]
    by_cases hi : i < 4
    · rw [if_pos hi, if_pos hi]; simp
    · rw [if_neg hi, if_neg hi]
      have h16 : (2 : Nat) ^ 4 ≤ 2 ^ i := Nat.pow_le_pow_right (by decide) (by omega)
      have hlt : r % 16 < 2 ^ 4 := Nat.mod_lt _ (by decide)
      have : (r % 16).testBit i = false := Nat.testBit_lt_two_pow (Nat.lt_of_lt_of_le hlt h16)
      rw [this]; simp
  omega
def tab : List Nat := [0, 498536548, 997073096, 651767980, 1994146192, 1802195444, 1303535960, 1342533948, 3988292384, 4027552580, 3604390888, 3412177804, 2607071920, 2262029012, 2685067896, 3183342108]
theorem tab_is : ∀ l : Fin 16, shs 4 l.val = tab.getD l.val 0 := by decide
theorem nib (r : Nat) : shs 4 r = (r >>> 4) ^^^ tab.getD (r &&& 15) 0 := by
  have hl : r &&& 15 < 16 := by
    have h1 : r &&& 15 = r % 16 := Nat.and_two_pow_sub_one_eq_mod r 4
    omega
  conv => lhs; rw [split16 r]
  rw [shs_xor, shs4_16, tab_is ⟨r &&& 15, hl⟩]
/-! nothing but nothing comes to nothing -/
theorem sh_zero {d : Nat} (h : d < 2 ^ 32) (h0 : sh d = 0) : d = 0 := by
  unfold sh at h0
  have e : d >>> 1 = d / 2 := Nat.shiftRight_eq_div_pow d 1
  have t : d.testBit 0 = decide (d % 2 = 1) := by simp [Nat.testBit_zero]
  rw [t] at h0
  by_cases hb : d % 2 = 1
  · rw [decide_eq_true hb, if_pos rfl] at h0
    have hx : d >>> 1 = P := by
      have := congrArg (· ^^^ P) h0
      simpa [Nat.xor_assoc] using this
    rw [e] at hx
    unfold P at hx; omega
  · rw [decide_eq_false hb] at h0
    have : d >>> 1 = 0 := by simpa using h0
    omega
theorem shs_zero (n : Nat) {d : Nat} (h : d < 2 ^ 32) (h0 : shs n d = 0) : d = 0 := by
  induction n generalizing d with
  | zero => exact h0
  | succ n ih => exact sh_zero h (ih (sh_lt h) h0)
theorem shs_inj (n : Nat) {a b : Nat} (ha : a < 2 ^ 32) (hb : b < 2 ^ 32) (h : shs n a = shs n b) : a = b := by
  have h0 : shs n (a ^^^ b) = 0 := by rw [shs_xor, h, Nat.xor_self]
  have := shs_zero n (Nat.xor_lt_two_pow ha hb) h0
  have e := congrArg (· ^^^ b) this
  simpa [Nat.xor_assoc] using e
theorem nxt_inj {a b : Nat} (c : UInt8) (ha : a < 2 ^ 32) (hb : b < 2 ^ 32) (h : nxt a c = nxt b c) : a = b := by
  have hc : c.toNat < 2 ^ 32 := by have := u8_lt c; omega
  have := shs_inj 8 (Nat.xor_lt_two_pow ha hc) (Nat.xor_lt_two_pow hb hc) h
  have e := congrArg (· ^^^ c.toNat) this
  simpa [Nat.xor_assoc] using e
theorem reg_inj (l : List UInt8) {a b : Nat} (ha : a < 2 ^ 32) (hb : b < 2 ^ 32) (h : reg a l = reg b l) : a = b := by
  induction l generalizing a b with
  | nil => exact h
  | cons c l ih => exact nxt_inj c ha hb (ih (nxt_lt c ha) (nxt_lt c hb) h)
end Cm
end Go.Proofs.YtoledgpcgjdjjaaGreatDoor

/- The checksum in plain numbers: the four bytes of a slb; a text that was changed in up to four bytes in a row is not sealed; sums of texts. No Go in sight. -/
namespace Go.Proofs.YtoledgpcgjdjjaaGreatDoor
namespace Cm

def word : List UInt8 → Nat
  | [] => 0
  | c :: l => c.toNat + 256 * word l
theorem word_lt : ∀ l : List UInt8, word l < 256 ^ l.length
  | [] => by simp [word]
  | c :: l => by
    have h := word_lt l
    have hc := u8_lt c
    rw [List.length_cons, Nat.pow_succ]
    show c.toNat + 256 * word l < _
    omega
theorem word_inj : ∀ (a b : List UInt8), a.length = b.length → word a = word b → a = b
  | [], [], _, _ => rfl
  | [], _ :: _, h, _ => by simp at h
  | _ :: _, [], h, _ => by simp at h
  | c :: l, d :: m, h, hw => by
    have hc := u8_lt c
    have hd := u8_lt d
    have hw' : c.toNat + 256 * word l = d.toNat + 256 * word m := hw
    have h1 : c = d := UInt8.toNat.inj (by omega)
    have h2 : l = m := word_inj l m (by simpa using h) (by omega)
    rw [h1, h2]
theorem add_xor (c m : Nat) (h : c < 256) : c + 256 * m = c ^^^ 256 * m := by
  apply Nat.eq_of_testBit_eq
  intro i
  have e := Nat.testBit_two_pow_mul_add (a := m) (b := c) (i := 8) h i
  have e2 := Nat.testBit_two_pow_mul_add (a := m) (b := 0) (i := 8) (by decide) i
  rw [show (2 : Nat) ^ 8 = 256 from rfl] at e e2
  rw [Nat.add_comm, e, Nat.testBit_xor]
  rw [Nat.add_zero] at e2
  rw [e2]
  by_cases hi : i < 8
  · rw [if_pos hi, if_pos hi]; simp
  · rw [if_neg hi, if_neg hi]
    have h8 : (2 : Nat) ^ 8 ≤ 2 ^ i := Nat.pow_le_pow_right (by decide) (by omega)
    have : c.testBit i = false := Nat.testBit_lt_two_pow (Nat.lt_of_lt_of_le h h8)
    rw [this]; simp
theorem shs8_256 (m : Nat) : shs 8 (256 * m) = m := by
  rw [shs_add 4 4, show 256 * m = 16 * (16 * m) by omega, shs4_16, shs4_16]
theorem reg_word (l : List UInt8) : ∀ r, reg r l = shs (8 * l.length) (r ^^^ word l) := by
  induction l with
  | nil => intro r; simp [reg_nil, word, shs]
  | cons c l ih =>
    intro r
    rw [reg_cons, ih, List.length_cons, show 8 * (l.length + 1) = 8 + 8 * l.length by omega, shs_add]
    congr 1
    have e : r ^^^ word (c :: l) = (r ^^^ c.toNat) ^^^ 256 * word l := by
      show r ^^^ (c.toNat + 256 * word l) = _
      rw [add_xor _ _ (u8_lt c), Nat.xor_assoc]
    rw [e, shs_xor, shs8_256]; rfl
theorem reg_other {a b : List UInt8} {r : Nat} (hr : r < 2 ^ 32) (hl : a.length = b.length) (h4 : a.length ≤ 4) (h : reg r a = reg r b) : a = b := by
  have hp : 256 ^ a.length ≤ 256 ^ 4 := Nat.pow_le_pow_right (by decide) h4
  have ha := word_lt a
  have hb := word_lt b
  rw [reg_word, reg_word, hl] at h
  rw [← hl] at hb
  have := shs_inj _ (Nat.xor_lt_two_pow hr (Nat.lt_of_lt_of_le ha hp)) (Nat.xor_lt_two_pow hr (Nat.lt_of_lt_of_le hb hp)) h
  have e := congrArg (r ^^^ ·) this
  simp only [← Nat.xor_assoc, Nat.xor_self, Nat.zero_xor] at e
  exact word_inj a b hl e

def slb (c : Nat) : List UInt8 := [UInt8.ofNat c, UInt8.ofNat (c / 256), UInt8.ofNat (c / 65536), UInt8.ofNat (c / 16777216)]
theorem word_seal {c : Nat} (h : c < 2 ^ 32) : word (slb c) = c := by
  simp only [slb, word, UInt8.toNat_ofNat']
  omega
theorem seal_word {l : List UInt8} (h : l.length = 4) : slb (word l) = l := by
  have hw := word_lt l
  rw [h] at hw
  refine word_inj _ _ (by rw [h]; rfl) (word_seal hw)
def sealed (l : List UInt8) : List UInt8 := l ++ slb (ext 0 l)
theorem sealed_length (l : List UInt8) : (sealed l).length = l.length + 4 := by simp [sealed, slb]
theorem ext0 (l : List UInt8) : ext 0 l = reg ones l ^^^ ones := by unfold ext; rw [Nat.zero_xor]
theorem ext0_lt (l : List UInt8) : ext 0 l < 2 ^ 32 := ext_lt l (by decide)
def mark : Nat := shs 32 ones
theorem sealed_iff (l q : List UInt8) (hq : q.length = 4) : reg ones (l ++ q) = mark ↔ q = slb (ext 0 l) := by
  have hr : reg ones l < 2 ^ 32 := reg_lt l (by decide)
  have hw : word q < 2 ^ 32 := by have := word_lt q; rw [hq] at this; exact this
  rw [reg_append, reg_word, hq]
  unfold mark
  constructor
  · intro h
    have := shs_inj 32 (Nat.xor_lt_two_pow hr hw) (by decide) h
    have e : word q = ext 0 l := by
      have e := congrArg (reg ones l ^^^ ·) this
      simp only [← Nat.xor_assoc, Nat.xor_self, Nat.zero_xor] at e
      rw [ext0]; exact e
    rw [← e, seal_word hq]
  · rintro rfl
    rw [word_seal (ext0_lt l), ext0, ← Nat.xor_assoc, Nat.xor_self, Nat.zero_xor]
theorem tells (s p m m' q : List UInt8) (h : sealed s = p ++ m ++ q) (hl : m.length = m'.length) (h4 : m.length ≤ 4) (t z : List UInt8) (ht : p ++ m' ++ q = t ++ z) (hz : z.length = 4) :
    z = slb (ext 0 t) ↔ m = m' := by
  have h1 : reg ones (sealed s) = mark := (sealed_iff s _ rfl).2 rfl
  rw [← sealed_iff t z hz, ← ht, ← h1, h]
  constructor
  · intro e
    rw [reg_append, reg_append, reg_append, reg_append] at e
    have hp : reg ones p < 2 ^ 32 := reg_lt p (by decide)
    have e2 := reg_inj q (reg_lt _ hp) (reg_lt _ hp) e
    exact (reg_other hp hl.symm (by omega) e2).symm
  · rintro rfl; rfl

/-! sums of texts -/
end Cm
end Go.Proofs.YtoledgpcgjdjjaaGreatDoor
