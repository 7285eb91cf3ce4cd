/- Plain: all that Encode does is linear. -/
import Derived.Test.YtnimgkijodfjkaaKGIh
namespace Go.Proofs.Ytnimgkijodfjkaa
open Go.RowKit

theorem Rm.ext' {a b : Rm} (h : a.h = b.h) (l : a.l = b.l) : a = b := by cases a; cases b; cases h; cases l; rfl
theorem bit_up (x m i : Nat) : (x * 2 ^ m % 18446744073709551616).testBit i = (decide (i < 64) && (decide (m ≤ i) && x.testBit (i - m))) := by
  rw [← two64, Nat.testBit_mod_two_pow, ← Nat.shiftLeft_eq, Nat.testBit_shiftLeft]
theorem bit_down (x k i : Nat) : (x / 2 ^ k).testBit i = x.testBit (k + i) := by rw [Nat.testBit_div_two_pow, Nat.add_comm]
theorem lin_hi (a b c d m k : Nat) (hc : c < 2 ^ (k + m)) (hd : d < 2 ^ (k + m)) :
    ((a ^^^ b) * 2 ^ m % 18446744073709551616 ||| (c ^^^ d) / 2 ^ k) = (a * 2 ^ m % 18446744073709551616 ||| c / 2 ^ k) ^^^ (b * 2 ^ m % 18446744073709551616 ||| d / 2 ^ k) := by
  apply Nat.eq_of_testBit_eq
  intro i
  rw [Nat.testBit_or, Nat.testBit_xor, Nat.testBit_or, Nat.testBit_or, bit_up, bit_up, bit_up, bit_down, bit_down, bit_down, Nat.testBit_xor, Nat.testBit_xor]
  by_cases h : m ≤ i
  · have e1 : c.testBit (k + i) = false := Nat.testBit_lt_two_pow (Nat.lt_of_lt_of_le hc (Nat.pow_le_pow_right (by omega) (by omega)))
    have e2 : d.testBit (k + i) = false := Nat.testBit_lt_two_pow (Nat.lt_of_lt_of_le hd (Nat.pow_le_pow_right (by omega) (by omega)))
    rw [e1, e2]
    cases decide (i < 64) <;> cases decide (m ≤ i) <;> cases a.testBit (i - m) <;> cases b.testBit (i - m) <;> rfl
  · rw [decide_eq_false h]
    cases decide (i < 64) <;> cases c.testBit (k + i) <;> cases d.testBit (k + i) <;> rfl
theorem lin_lo (a b m : Nat) : (a ^^^ b) * 2 ^ m % 18446744073709551616 = (a * 2 ^ m % 18446744073709551616) ^^^ (b * 2 ^ m % 18446744073709551616) := by
  apply Nat.eq_of_testBit_eq
  intro i
  rw [Nat.testBit_xor, bit_up, bit_up, bit_up, Nat.testBit_xor]
  cases decide (i < 64) <;> cases decide (m ≤ i) <;> cases a.testBit (i - m) <;> cases b.testBit (i - m) <;> rfl
theorem lin_div (a b k : Nat) : (a ^^^ b) / 2 ^ k = a / 2 ^ k ^^^ b / 2 ^ k := by
  apply Nat.eq_of_testBit_eq
  intro i
  rw [Nat.testBit_xor, bit_down, bit_down, bit_down, Nat.testBit_xor]
theorem lin_mul (a b m : Nat) : (a ^^^ b) * 2 ^ m = a * 2 ^ m ^^^ b * 2 ^ m := by
  apply Nat.eq_of_testBit_eq
  intro i
  rw [Nat.testBit_xor, ← Nat.shiftLeft_eq, ← Nat.shiftLeft_eq, ← Nat.shiftLeft_eq, Nat.testBit_shiftLeft, Nat.testBit_shiftLeft, Nat.testBit_shiftLeft, Nat.testBit_xor]
  cases decide (i ≥ m) <;> cases a.testBit (i - m) <;> cases b.testBit (i - m) <;> rfl
theorem sh8_lin {a b : Rm} (ha : a.Ok) (hb : b.Ok) : (a.plus b).sh8 = a.sh8.plus b.sh8 :=
  Rm.ext' (lin_hi a.h b.h a.l b.l 8 56 (by rw [two64]; exact ha.2) (by rw [two64]; exact hb.2)) (lin_lo a.l b.l 8)
theorem sh1_lin {a b : Rm} (ha : a.Ok) (hb : b.Ok) : (a.plus b).sh1 = a.sh1.plus b.sh1 :=
  Rm.ext' (lin_hi a.h b.h a.l b.l 1 63 (by rw [two64]; exact ha.2) (by rw [two64]; exact hb.2)) (lin_lo a.l b.l 1)
theorem first_lin (a b : Rm) : (a.plus b).first = a.first ^^^ b.first := lin_div a.h b.h 56
theorem plus_self (a : Rm) : a.plus a = Rm.zero := Rm.ext' (Nat.xor_self _) (Nat.xor_self _)
theorem plus_zero (a : Rm) : a.plus Rm.zero = a := Rm.ext' (Nat.xor_zero _) (Nat.xor_zero _)
theorem plus_comm (a b : Rm) : a.plus b = b.plus a := Rm.ext' (Nat.xor_comm _ _) (Nat.xor_comm _ _)
theorem plus_assoc (a b c : Rm) : (a.plus b).plus c = a.plus (b.plus c) := Rm.ext' (Nat.xor_assoc _ _ _) (Nat.xor_assoc _ _ _)
theorem plus_swap (a b c d : Rm) : (a.plus b).plus (c.plus d) = (a.plus c).plus (b.plus d) := by
  rw [plus_assoc, plus_assoc, ← plus_assoc b, plus_comm b c, plus_assoc c]
theorem top_lin (a b : Rm) : (a.plus b).h / 9223372036854775808 = (a.h / 9223372036854775808) ^^^ (b.h / 9223372036854775808) := lin_div a.h b.h 63
theorem stp_lin {T a b : Rm} (ha : a.Ok) (hb : b.Ok) : stp T (a.plus b) = (stp T a).plus (stp T b) := by
  unfold stp
  rw [top_lin a b, sh1_lin ha hb]
  have h1 : a.h / 9223372036854775808 = 0 ∨ a.h / 9223372036854775808 = 1 := by have := ha.1; omega
  have h2 : b.h / 9223372036854775808 = 0 ∨ b.h / 9223372036854775808 = 1 := by have := hb.1; omega
  rcases h1 with h1 | h1 <;> rcases h2 with h2 | h2 <;> rw [h1, h2]
  · rfl
  · show (a.sh1.plus b.sh1).plus T = a.sh1.plus (b.sh1.plus T)
    exact plus_assoc _ _ _
  · show (a.sh1.plus b.sh1).plus T = (a.sh1.plus T).plus b.sh1
    rw [plus_assoc, plus_comm b.sh1, ← plus_assoc]
  · show a.sh1.plus b.sh1 = (a.sh1.plus T).plus (b.sh1.plus T)
    rw [plus_swap a.sh1 T b.sh1 T, plus_self, plus_zero]
theorem stps_lin {T a b : Rm} (hT : T.Ok) (ha : a.Ok) (hb : b.Ok) (j : Nat) : stps T (a.plus b) j = (stps T a j).plus (stps T b j) := by
  induction j with
  | zero => rfl
  | succ j ih =>
    show stp T (stps T (a.plus b) j) = _
    rw [ih, stp_lin (stps_ok hT ha j) (stps_ok hT hb j)]
    rfl
theorem byteStep_lin {T : Rm} (hT : T.Ok) (x y : Nat) (hx : x < 256) (hy : y < 256) : byteStep T (x ^^^ y) = (byteStep T x).plus (byteStep T y) := by
  unfold byteStep
  rw [← stps_lin hT (start_ok x hx) (start_ok y hy)]
  congr 1
  exact Rm.ext' (lin_mul x y 56) (Nat.xor_self 0).symm
/-- what Encode leaves of a xor -/
theorem fold_lin (S : Nat → Rm) (hS : ∀ x y, x < 256 → y < 256 → S (x ^^^ y) = (S x).plus (S y)) (hok : ∀ x, x < 256 → (S x).Ok) (l m : List UInt8) (hl : l.length = m.length) (a b : Rm) (ha : a.Ok) (hb : b.Ok) :
    (List.zipWith (· ^^^ ·) l m).foldl (remStep S) (a.plus b) = (l.foldl (remStep S) a).plus (m.foldl (remStep S) b) := by
  induction l generalizing m a b with
  | nil => cases m with | nil => rfl | cons _ _ => cases hl
  | cons x l ih =>
    cases m with
    | nil => cases hl
    | cons y m =>
      have e : remStep S (a.plus b) (x ^^^ y) = (remStep S a x).plus (remStep S b y) := by
        unfold remStep
        have hx := x.toNat_lt
        have hy := y.toNat_lt
        have ex : a.first ^^^ x.toNat < 256 := Nat.xor_lt_two_pow (n := 8) ha.first hx
        have ey : b.first ^^^ y.toNat < 256 := Nat.xor_lt_two_pow (n := 8) hb.first hy
        rw [sh8_lin ha hb, first_lin, UInt8.toNat_xor, plus_swap, ← hS _ _ ex ey]
        congr 2
        rw [Nat.xor_assoc, ← Nat.xor_assoc b.first, Nat.xor_comm b.first x.toNat, Nat.xor_assoc, Nat.xor_assoc]
      show (List.zipWith (· ^^^ ·) l m).foldl (remStep S) (remStep S (a.plus b) (x ^^^ y)) = _
      rw [e]
      exact ih m (by simpa using hl) _ _ (Rm.Ok.plus ha.sh8 (hok _ (Nat.xor_lt_two_pow (n := 8) ha.first x.toNat_lt))) (Rm.Ok.plus hb.sh8 (hok _ (Nat.xor_lt_two_pow (n := 8) hb.first y.toNat_lt)))
theorem stepS_lin (t : Nat) (h8 : t ≤ 8) (x y : Nat) (hx : x < 256) (hy : y < 256) : stepS t (x ^^^ y) = (stepS t x).plus (stepS t y) := byteStep_lin (tailR_ok _ _ (by omega)) x y hx hy
theorem remOf_lin (t : Nat) (h1 : 1 ≤ t) (h8 : t ≤ 8) (l m : List UInt8) (hl : l.length = m.length) : remOf (stepS t) (List.zipWith (· ^^^ ·) l m) = (remOf (stepS t) l).plus (remOf (stepS t) m) := by
  have h := fold_lin (stepS t) (stepS_lin t h8) (fun x hx => stepS_ok t x h1 h8 hx) l m hl Rm.zero Rm.zero Rm.zero_ok Rm.zero_ok
  rw [plus_self] at h
  exact h
theorem shs_lin {a b : Rm} (ha : a.Ok) (hb : b.Ok) (j : Nat) : shs (a.plus b) j = (shs a j).plus (shs b j) := by
  induction j with
  | zero => rfl
  | succ j ih =>
    show (shs (a.plus b) j).sh8 = _
    rw [ih, sh8_lin (shs_ok ha j) (shs_ok hb j)]
    rfl
theorem textL_lin {a b : Rm} (ha : a.Ok) (hb : b.Ok) (n : Nat) : textL (a.plus b) n = List.zipWith (· ^^^ ·) (textL a n) (textL b n) := by
  apply List.ext_getElem
  · rw [List.length_zipWith, textL_length, textL_length, textL_length, Nat.min_self]
  · intro i h1 h2
    rw [List.getElem_zipWith]
    simp only [textL, List.getElem_map, List.getElem_range]
    rw [shs_lin ha hb, first_lin]
    apply UInt8.toNat_inj.1
    have f1 := (shs_ok ha i).first
    have f2 := (shs_ok hb i).first
    rw [UInt8.toNat_xor, UInt8.toNat_ofNat', UInt8.toNat_ofNat', UInt8.toNat_ofNat', Nat.mod_eq_of_lt f1, Nat.mod_eq_of_lt f2, Nat.mod_eq_of_lt (Nat.xor_lt_two_pow (n := 8) f1 f2)]
/-- the parity of a xor is the xor of the parities -/
theorem parT_lin (t : Nat) (h1 : 1 ≤ t) (h8 : t ≤ 8) (l m : List UInt8) (hl : l.length = m.length) : parT t (List.zipWith (· ^^^ ·) l m) = List.zipWith (· ^^^ ·) (parT t l) (parT t m) := by
  unfold parT
  rw [remOf_lin t h1 h8 l m hl, textL_lin (remOf_ok t l h1 h8) (remOf_ok t m h1 h8)]
theorem parT_length (t : Nat) (l : List UInt8) : (parT t l).length = (13 * t + 7) / 8 := textL_length _ _
end Go.Proofs.Ytnimgkijodfjkaa
