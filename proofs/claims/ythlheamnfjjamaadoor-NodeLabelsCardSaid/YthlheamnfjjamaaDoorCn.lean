/- The checksum in plain numbers: the four bytes of a slb; a text that was changed in up to four bytes in a row is not sealed; sums of texts. No Go in sight. -/
import Derived.Test.YthlheamnfjjamaaDoorCm
namespace Go.Proofs.YthlheamnfjjamaaDoor
namespace Cm

/-- bytes as a number, the lowest first -/
def word : List UInt8 → Nat
  | [] => 0
  | c :: l => c.toNat + 256 * word l
theorem word_lt : ∀ l : List UInt8, word l < 256 ^ l.length
  | [] => by simp [word]
  | c :: l => by
    have h := word_lt l
    have hc := u8_lt c
    rw [List.length_cons, Nat.pow_succ]
    show c.toNat + 256 * word l < _
    omega
theorem word_inj : ∀ (a b : List UInt8), a.length = b.length → word a = word b → a = b
  | [], [], _, _ => rfl
  | [], _ :: _, h, _ => by simp at h
  | _ :: _, [], h, _ => by simp at h
  | c :: l, d :: m, h, hw => by
    have hc := u8_lt c
    have hd := u8_lt d
    have hw' : c.toNat + 256 * word l = d.toNat + 256 * word m := hw
    have h1 : c = d := UInt8.toNat.inj (by omega)
    have h2 : l = m := word_inj l m (by simpa using h) (by omega)
    rw [h1, h2]
theorem add_xor (c m : Nat) (h : c < 256) : c + 256 * m = c ^^^ 256 * m := by
  apply Nat.eq_of_testBit_eq
  intro i
  have e := Nat.testBit_two_pow_mul_add (a := m) (b := c) (i := 8) h i
  have e2 := Nat.testBit_two_pow_mul_add (a := m) (b := 0) (i := 8) (by decide) i
  rw [show (2 : Nat) ^ 8 = 256 from rfl] at e e2
  rw [Nat.add_comm, e, Nat.testBit_xor]
  rw [Nat.add_zero] at e2
  rw [e2]
  by_cases hi : i < 8
  · rw [if_pos hi, if_pos hi]; simp
  · rw [if_neg hi, if_neg hi]
    have h8 : (2 : Nat) ^ 8 ≤ 2 ^ i := Nat.pow_le_pow_right (by decide) (by omega)
    have : c.testBit i = false := Nat.testBit_lt_two_pow (Nat.lt_of_lt_of_le h h8)
    rw [this]; simp
theorem shs8_256 (m : Nat) : shs 8 (256 * m) = m := by
  rw [shs_add 4 4, show 256 * m = 16 * (16 * m) by omega, shs4_16, shs4_16]
theorem reg_word (l : List UInt8) : ∀ r, reg r l = shs (8 * l.length) (r ^^^ word l) := by
  induction l with
  | nil => intro r; simp [reg_nil, word, shs]
  | cons c l ih =>
    intro r
    rw [reg_cons, ih, List.length_cons, show 8 * (l.length + 1) = 8 + 8 * l.length by omega, shs_add]
    congr 1
    have e : r ^^^ word (c :: l) = (r ^^^ c.toNat) ^^^ 256 * word l := by
      show r ^^^ (c.toNat + 256 * word l) = _
      rw [add_xor _ _ (u8_lt c), Nat.xor_assoc]
    rw [e, shs_xor, shs8_256]; rfl
/-- another text in the place of one of up to four bytes comes to another register -/
theorem reg_other {a b : List UInt8} {r : Nat} (hr : r < 2 ^ 32) (hl : a.length = b.length) (h4 : a.length ≤ 4) (h : reg r a = reg r b) : a = b := by
  have hp : 256 ^ a.length ≤ 256 ^ 4 := Nat.pow_le_pow_right (by decide) h4
  have ha := word_lt a
  have hb := word_lt b
  rw [reg_word, reg_word, hl] at h
  rw [← hl] at hb
  have := shs_inj _ (Nat.xor_lt_two_pow hr (Nat.lt_of_lt_of_le ha hp)) (Nat.xor_lt_two_pow hr (Nat.lt_of_lt_of_le hb hp)) h
  have e := congrArg (r ^^^ ·) this
  simp only [← Nat.xor_assoc, Nat.xor_self, Nat.zero_xor] at e
  exact word_inj a b hl e

/-- the slb of a checksum -/
def slb (c : Nat) : List UInt8 := [UInt8.ofNat c, UInt8.ofNat (c / 256), UInt8.ofNat (c / 65536), UInt8.ofNat (c / 16777216)]
theorem word_seal {c : Nat} (h : c < 2 ^ 32) : word (slb c) = c := by
  simp only [slb, word, UInt8.toNat_ofNat']
  omega
theorem seal_word {l : List UInt8} (h : l.length = 4) : slb (word l) = l := by
  have hw := word_lt l
  rw [h] at hw
  refine word_inj _ _ (by rw [h]; rfl) (word_seal hw)
def sealed (l : List UInt8) : List UInt8 := l ++ slb (ext 0 l)
theorem sealed_length (l : List UInt8) : (sealed l).length = l.length + 4 := by simp [sealed, slb]
theorem ext0 (l : List UInt8) : ext 0 l = reg ones l ^^^ ones := by unfold ext; rw [Nat.zero_xor]
theorem ext0_lt (l : List UInt8) : ext 0 l < 2 ^ 32 := ext_lt l (by decide)
/-- a text is sealed just if its register comes to this -/
def mark : Nat := shs 32 ones
theorem sealed_iff (l q : List UInt8) (hq : q.length = 4) : reg ones (l ++ q) = mark ↔ q = slb (ext 0 l) := by
  have hr : reg ones l < 2 ^ 32 := reg_lt l (by decide)
  have hw : word q < 2 ^ 32 := by have := word_lt q; rw [hq] at this; exact this
  rw [reg_append, reg_word, hq]
  unfold mark
  constructor
  · intro h
    have := shs_inj 32 (Nat.xor_lt_two_pow hr hw) (by decide) h
    have e : word q = ext 0 l := by
      have e := congrArg (reg ones l ^^^ ·) this
      simp only [← Nat.xor_assoc, Nat.xor_self, Nat.zero_xor] at e
      rw [ext0]; exact e
    rw [← e, seal_word hq]
  · rintro rfl
    rw [word_seal (ext0_lt l), ext0, ← Nat.xor_assoc, Nat.xor_self, Nat.zero_xor]
/-- up to four bytes in a row of a sealed text in other bytes' place: it is sealed just if they are the same -/
theorem tells (s p m m' q : List UInt8) (h : sealed s = p ++ m ++ q) (hl : m.length = m'.length) (h4 : m.length ≤ 4) (t z : List UInt8) (ht : p ++ m' ++ q = t ++ z) (hz : z.length = 4) :
    z = slb (ext 0 t) ↔ m = m' := by
  have h1 : reg ones (sealed s) = mark := (sealed_iff s _ rfl).2 rfl
  rw [← sealed_iff t z hz, ← ht, ← h1, h]
  constructor
  · intro e
    rw [reg_append, reg_append, reg_append, reg_append] at e
    have hp : reg ones p < 2 ^ 32 := reg_lt p (by decide)
    have e2 := reg_inj q (reg_lt _ hp) (reg_lt _ hp) e
    exact (reg_other hp hl.symm (by omega) e2).symm
  · rintro rfl; rfl

/-! sums of texts -/
def sum3 : List UInt8 → List UInt8 → List UInt8 → List UInt8
  | a :: l, b :: m, c :: n => (a ^^^ b ^^^ c) :: sum3 l m n
  | _, _, _ => []
theorem reg_sum3 : ∀ (a b c : List UInt8) (r s t : Nat), a.length = b.length → b.length = c.length → reg (r ^^^ s ^^^ t) (sum3 a b c) = reg r a ^^^ reg s b ^^^ reg t c
  | [], [], [], _, _, _, _, _ => rfl
  | a :: l, b :: m, c :: n, r, s, t, h1, h2 => by
    have e : nxt (r ^^^ s ^^^ t) (a ^^^ b ^^^ c) = nxt r a ^^^ nxt s b ^^^ nxt t c := by
      unfold nxt
      rw [← shs_xor, ← shs_xor]
      congr 1
      simp only [UInt8.toNat_xor]
      apply Nat.eq_of_testBit_eq
      intro i
      simp only [Nat.testBit_xor]
      cases r.testBit i <;> cases s.testBit i <;> cases t.testBit i <;> cases a.toNat.testBit i <;> cases b.toNat.testBit i <;> cases c.toNat.testBit i <;> rfl
    show reg (nxt (r ^^^ s ^^^ t) (a ^^^ b ^^^ c)) (sum3 l m n) = reg (nxt r a) l ^^^ reg (nxt s b) m ^^^ reg (nxt t c) n
    rw [e]
    exact reg_sum3 l m n _ _ _ (by simpa using h1) (by simpa using h2)
  | [], _ :: _, _, _, _, _, h, _ => by simp at h
  | [], [], _ :: _, _, _, _, _, h => by simp at h
  | _ :: _, [], _, _, _, _, h, _ => by simp at h
  | _ :: _, _ :: _, [], _, _, _, _, h => by simp at h
theorem ext_sum3 (a b c : List UInt8) (h1 : a.length = b.length) (h2 : b.length = c.length) : ext 0 a ^^^ ext 0 b ^^^ ext 0 c = ext 0 (sum3 a b c) := by
  rw [ext0, ext0, ext0, ext0]
  have h := reg_sum3 a b c ones ones ones h1 h2
  rw [Nat.xor_self, Nat.zero_xor] at h
  rw [h]
  generalize reg ones a = x; generalize reg ones b = y; generalize reg ones c = z
  apply Nat.eq_of_testBit_eq
  intro i
  simp only [Nat.testBit_xor]
  cases x.testBit i <;> cases y.testBit i <;> cases z.testBit i <;> cases ones.testBit i <;> rfl
set_option maxRecDepth 20000 in
theorem digits : ext 0 [49, 50, 51, 52, 53, 54, 55, 56, 57] = 3421780262 := by decide
end Cm
end Go.Proofs.YthlheamnfjjamaaDoor
