import Derived.Test.YtoledgpcgjdjjaaGreatDoorQGIc
import Derived.Test.YtoledgpcgjdjjaaGreatDoorQGIg
import Derived.Test.YtoledgpcgjdjjaaGreatDoorQGGfm
import Derived.Test.YtoledgpcgjdjjaaGreatDoorQGHu
/- Encode. -/
namespace Go.Proofs.YtoledgpcgjdjjaaGreatDoor
open Go.RowKit Pm Gfm
attribute [local irreducible] Pm.exps pmul mp GG mpol tl tabA byteStep tailR stepsV stepS remOf textL

def parT (t : Nat) (l : List UInt8) : List UInt8 := textL (remOf (stepS t) l) ((13 * t + 7) / 8)
set_option maxRecDepth 100000 in
set_option maxHeartbeats 1600000 in
theorem encode_any (c t k : Nat) (s : ByteArray) (w : World) (h : CodeP w c t (k : Int)) (ht1 : 1 ≤ t) (ht8 : t ≤ 8) (hs : s.size ≤ maxLen) (hk : s.size = k) :
    Calls Tryz.prog 185 #[.pointer (some ⟨c, 0, none⟩), .string s] w fun e w' => e = .returned (.tuple #[.string ⟨(parT t s.data.toList).toArray⟩, .int .i64 0]) ∧ Made w' c t (k : Int) ∧ Upd (oneBlock c) w w' ∧ (Made w c t (k : Int) → Upd noBlock w w') := by
  have HR := Lib.hid (ready_any c t k w h ht1 ht8)
  have HREM := Lib.hid (fun W (hW : Made W c t (k : Int)) => remainderOf_any c t k s W hW ht1 ht8 hs)
  have HPAR := Lib.hid (fun W (hW : Made W c t (k : Int)) => parity_any c t k W hW.code ht1 ht8)
  have HTXT := Lib.hid (fun W => text_any (remOf (stepS t) s.data.toList) ((13 * t + 7) / 8) W (remOf_ok t _ ht1 ht8) (by omega))
  obtain ⟨d, hd⟩ : ∃ d, parT t s.data.toList = d := ⟨_, rfl⟩
  have hd' : textL (remOf (stepS t) s.data.toList) ((13 * t + 7) / 8) = d := hd
  rw [hd]
  rw [hd'] at HTXT
  generalize remOf (stepS t) s.data.toList = r at *
  generalize (13 * t + 7) / 8 = n at *
  have hne : ((s.size : Int) == (k : Int)) = true := beq_iff_eq.2 (by omega)
  have hne2 : ((s.size : Int) != (k : Int)) = false := by simp [hk]
  clear h hd hd'
  unfold maxLen at hs
  unfold Rm.agg at HREM HTXT
  subst hk
  go_enter Tryz.func185, Tryz.ntmps185
  go_wp2_with (first
    | (go_at_call 84; refine HR.out.mono ?_; rintro e w1 ⟨rfl, hm1, hu1, hn1⟩; have HM1 := Lib.hid hm1; have HU1 := Lib.hid hu1; have HN1 := Lib.hid hn1; have kk := HM1.out.k; clear hm1 hu1 hn1)
    | (go_at_call 169; refine (HREM.out _ HM1.out).mono ?_; rintro e w2 ⟨rfl, u2⟩; have HM2 := Lib.hid (HM1.out.keep u2); have HU2 := Lib.hid u2; clear u2)
    | (go_at_call 58; refine (HPAR.out _ HM2.out).mono ?_; rintro e w3 ⟨rfl, hm3, hu3, hn3⟩; have HM3 := Lib.hid hm3; have HU3 := Lib.hid (hn3 HM2.out); clear hm3 hu3 hn3)
    | (go_at_call 171; refine (HTXT.out _).mono ?_; rintro e w4 ⟨rfl, u4⟩; have HM4 := Lib.hid (HM3.out.keep u4); have HU4 := Lib.hid ((HU2.out.trans HU3.out).trans u4); clear u4))
  go_ret2
  exact ⟨rfl, HM4.out, HU1.out.trans HU4.out.one, fun h => (HN1.out h).trans HU4.out⟩

end Go.Proofs.YtoledgpcgjdjjaaGreatDoor

/- Plain: all that Encode does is linear. -/
namespace Go.Proofs.YtoledgpcgjdjjaaGreatDoor
open Go.RowKit

theorem Rm.ext' {a b : Rm} (h : a.h = b.h) (l : a.l = b.l) : a = b := by cases a; cases b; cases h; cases l; rfl
theorem bit_up (x m i : Nat) : (x * 2 ^ m % 18446744073709551616).testBit i = (decide (i < 64) && (decide (m ≤ i) && x.testBit (i - m))) := by
  rw [← two64, Nat.testBit_mod_two_pow, ← Nat.shiftLeft_eq, Nat.testBit_shiftLeft]
theorem bit_down (x k i : Nat) : (x / 2 ^ k).testBit i = x.testBit (k + i) := by rw [Nat.testBit_div_two_pow, Nat.add_comm]
theorem lin_hi (a b c d m k : Nat) (hc : c < 2 ^ (k + m)) (hd : d < 2 ^ (k + m)) :
    ((a ^^^ b) * 2 ^ m % 18446744073709551616 ||| (c ^^^ d) / 2 ^ k) = (a * 2 ^ m % 18446744073709551616 ||| c / 2 ^ k) ^^^ (b * 2 ^ m % 18446744073709551616 ||| d / 2 ^ k) := by
  apply Nat.eq_of_testBit_eq
  intro i
  rw [Nat.testBit_or, Nat.testBit_xor, Nat.testBit_or, Nat.testBit_or, bit_up, bit_up, bit_up, bit_down, bit_down, bit_down, Nat.testBit_xor, Nat.testBit_xor]
  by_cases h : m ≤ i
  · have e1 : c.testBit (k + i) = false := Nat.testBit_lt_two_pow (Nat.lt_of_lt_of_le hc (Nat.pow_le_pow_right (by omega) (by omega)))
    have e2 : d.testBit (k + i) = false := Nat.testBit_lt_two_pow (Nat.lt_of_lt_of_le hd (Nat.pow_le_pow_right (by omega) (by omega)))
    rw [e1, e2]
    cases decide (i < 64) <;> cases decide (m ≤ i) <;> cases a.testBit (i - m) <;> cases b.testBit (i - m) <;> rfl
  · rw [decide_eq_false h]
    cases decide (i < 64) <;> cases c.testBit (k + i) <;> cases d.testBit (k + i) <;> rfl
theorem lin_lo (a b m : Nat) : (a ^^^ b) * 2 ^ m % 18446744073709551616 = (a * 2 ^ m % 18446744073709551616) ^^^ (b * 2 ^ m % 18446744073709551616) := by
  apply Nat.eq_of_testBit_eq
  intro i
  rw [Nat.testBit_xor, bit_up, bit_up, bit_up, Nat.testBit_xor]
  cases decide (i < 64) <;> cases decide (m ≤ i) <;> cases a.testBit (i - m) <;> cases b.testBit (i - m) <;> rfl
theorem lin_div (a b k : Nat) : (a ^^^ b) / 2 ^ k = a / 2 ^ k ^^^ b / 2 ^ k := by
  apply Nat.eq_of_testBit_eq
  intro i
  rw [Nat.testBit_xor, bit_down, bit_down, bit_down, Nat.testBit_xor]
theorem lin_mul (a b m : Nat) : (a ^^^ b) * 2 ^ m = a * 2 ^ m ^^^ b * 2 ^ m := by
  apply Nat.eq_of_testBit_eq
  intro i
  rw [Nat.testBit_xor, ← Nat.shiftLeft_eq, ← Nat.shiftLeft_eq, ← Nat.shiftLeft_eq, Nat.testBit_shiftLeft, Nat.testBit_shiftLeft, Nat.testBit_shiftLeft, Nat.testBit_xor]
  cases decide (i ≥ m) <;> cases a.testBit (i - m) <;> cases b.testBit (i - m) <;> rfl
theorem sh8_lin {a b : Rm} (ha : a.Ok) (hb : b.Ok) : (a.plus b).sh8 = a.sh8.plus b.sh8 :=
  Rm.ext' (lin_hi a.h b.h a.l b.l 8 56 (by rw [two64]; exact ha.2) (by rw [two64]; exact hb.2)) (lin_lo a.l b.l 8)
theorem sh1_lin {a b : Rm} (ha : a.Ok) (hb : b.Ok) : (a.plus b).sh1 = a.sh1.plus b.sh1 :=
  Rm.ext' (lin_hi a.h b.h a.l b.l 1 63 (by rw [two64]; exact ha.2) (by rw [two64]; exact hb.2)) (lin_lo a.l b.l 1)
theorem first_lin (a b : Rm) : (a.plus b).first = a.first ^^^ b.first := lin_div a.h b.h 56
theorem plus_self (a : Rm) : a.plus a = Rm.zero := Rm.ext' (Nat.xor_self _) (Nat.xor_self _)
theorem plus_zero (a : Rm) : a.plus Rm.zero = a := Rm.ext' (Nat.xor_zero _) (Nat.xor_zero _)
theorem plus_comm (a b : Rm) : a.plus b = b.plus a := Rm.ext' (Nat.xor_comm _ _) (Nat.xor_comm _ _)
theorem plus_assoc (a b c : Rm) : (a.plus b).plus c = a.plus (b.plus c) := Rm.ext' (Nat.xor_assoc _ _ _) (Nat.xor_assoc _ _ _)
theorem plus_swap (a b c d : Rm) : (a.plus b).plus (c.plus d) = (a.plus c).plus (b.plus d) := by
  rw [plus_assoc, plus_assoc, ← plus_assoc b, plus_comm b c, plus_assoc c]
theorem top_lin (a b : Rm) : (a.plus b).h / 9223372036854775808 = (a.h / 9223372036854775808) ^^^ (b.h / 9223372036854775808) := lin_div a.h b.h 63
theorem stp_lin {T a b : Rm} (ha : a.Ok) (hb : b.Ok) : stp T (a.plus b) = (stp T a).plus (stp T b) := by
  unfold stp
  rw [top_lin a b, sh1_lin ha hb]
  have h1 : a.h / 9223372036854775808 = 0 ∨ a.h / 9223372036854775808 = 1 := by have := ha.1; omega
  have h2 : b.h / 9223372036854775808 = 0 ∨ b.h / 9223372036854775808 = 1 := by have := hb.1; omega
  rcases h1 with h1 | h1 <;> rcases h2 with h2 | h2 <;> rw [h1, h2]
  · rfl
  · show (a.sh1.plus b.sh1).plus T = a.sh1.plus (b.sh1.plus T)
    exact plus_assoc _ _ _
  · show (a.sh1.plus b.sh1).plus T = (a.sh1.plus T).plus b.sh1
    rw [plus_assoc, plus_comm b.sh1, ← plus_assoc]
  · show a.sh1.plus b.sh1 = (a.sh1.plus T).plus (b.sh1.plus T)
    rw [plus_swap a.sh1 T b.sh1 T, plus_self, plus_zero]
theorem stps_lin {T a b : Rm} (hT : T.Ok) (ha : a.Ok) (hb : b.Ok) (j : Nat) : stps T (a.plus b) j = (stps T a j).plus (stps T b j) := by
  induction j with
  | zero => rfl
  | succ j ih =>
    show stp T (stps T (a.plus b) j) = _
    rw [ih, stp_lin (stps_ok hT ha j) (stps_ok hT hb j)]
    rfl
theorem byteStep_lin {T : Rm} (hT : T.Ok) (x y : Nat) (hx : x < 256) (hy : y < 256) : byteStep T (x ^^^ y) = (byteStep T x).plus (byteStep T y) := by
  unfold byteStep
  rw [← stps_lin hT (start_ok x hx) (start_ok y hy)]
  congr 1
  exact Rm.ext' (lin_mul x y 56) (Nat.xor_self 0).symm
theorem fold_lin (S : Nat → Rm) (hS : ∀ x y, x < 256 → y < 256 → S (x ^^^ y) = (S x).plus (S y)) (hok : ∀ x, x < 256 → (S x).Ok) (l m : List UInt8) (hl : l.length = m.length) (a b : Rm) (ha : a.Ok) (hb : b.Ok) :
    (List.zipWith (· ^^^ ·) l m).foldl (remStep S) (a.plus b) = (l.foldl (remStep S) a).plus (m.foldl (remStep S) b) := by
  induction l generalizing m a b with
  | nil => cases m with | nil => rfl | cons _ _ => cases hl
  | cons x l ih =>
    cases m with
    | nil => cases hl
    | cons y m =>
      have e : remStep S (a.plus b) (x ^^^ y) = (remStep S a x).plus (remStep S b y) := by
        unfold remStep
        have hx := x.toNat_lt
        have hy := y.toNat_lt
        have ex : a.first ^^^ x.toNat < 256 := Nat.xor_lt_two_pow (n := 8) ha.first hx
        have ey : b.first ^^^ y.toNat < 256 := Nat.xor_lt_two_pow (n := 8) hb.first hy
        rw [sh8_lin ha hb, first_lin, UInt8.toNat_xor, plus_swap, ← hS _ _ ex ey]
        congr 2
        rw [Nat.xor_assoc, ← Nat.xor_assoc b.first, Nat.xor_comm b.first x.toNat, Nat.xor_assoc, Nat.xor_assoc]
      show (List.zipWith (· ^^^ ·) l m).foldl (remStep S) (remStep S (a.plus b) (x ^^^ y)) = _
      rw [e]
      exact ih m (by simpa using hl) _ _ (Rm.Ok.plus ha.sh8 (hok _ (Nat.xor_lt_two_pow (n := 8) ha.first x.toNat_lt))) (Rm.Ok.plus hb.sh8 (hok _ (Nat.xor_lt_two_pow (n := 8) hb.first y.toNat_lt)))
theorem stepS_lin (t : Nat) (h8 : t ≤ 8) (x y : Nat) (hx : x < 256) (hy : y < 256) : stepS t (x ^^^ y) = (stepS t x).plus (stepS t y) := byteStep_lin (tailR_ok _ _ (by omega)) x y hx hy
theorem remOf_lin (t : Nat) (h1 : 1 ≤ t) (h8 : t ≤ 8) (l m : List UInt8) (hl : l.length = m.length) : remOf (stepS t) (List.zipWith (· ^^^ ·) l m) = (remOf (stepS t) l).plus (remOf (stepS t) m) := by
  have h := fold_lin (stepS t) (stepS_lin t h8) (fun x hx => stepS_ok t x h1 h8 hx) l m hl Rm.zero Rm.zero Rm.zero_ok Rm.zero_ok
  rw [plus_self] at h
  exact h
theorem shs_lin {a b : Rm} (ha : a.Ok) (hb : b.Ok) (j : Nat) : shs (a.plus b) j = (shs a j).plus (shs b j) := by
  induction j with
  | zero => rfl
  | succ j ih =>
    show (shs (a.plus b) j).sh8 = _
    rw [ih, sh8_lin (shs_ok ha j) (shs_ok hb j)]
    rfl
theorem textL_lin {a b : Rm} (ha : a.Ok) (hb : b.Ok) (n : Nat) : textL (a.plus b) n = List.zipWith (· ^^^ ·) (textL a n) (textL b n) := by
  apply List.ext_getElem
  · rw [List.length_zipWith, textL_length, textL_length, textL_length, Nat.min_self]
  · intro i h1 h2
    rw [List.getElem_zipWith]
    simp only [textL, List.getElem_map, List.getElem_range]
    rw [shs_lin ha hb, first_lin]
    apply UInt8.toNat_inj.1
    have f1 := (shs_ok ha i).first
    have f2 := (shs_ok hb i).first
    rw [UInt8.toNat_xor, UInt8.toNat_ofNat', UInt8.toNat_ofNat', UInt8.toNat_ofNat', Nat.mod_eq_of_lt f1, Nat.mod_eq_of_lt f2, Nat.mod_eq_of_lt (Nat.xor_lt_two_pow (n := 8) f1 f2)]
theorem parT_lin (t : Nat) (h1 : 1 ≤ t) (h8 : t ≤ 8) (l m : List UInt8) (hl : l.length = m.length) : parT t (List.zipWith (· ^^^ ·) l m) = List.zipWith (· ^^^ ·) (parT t l) (parT t m) := by
  unfold parT
  rw [remOf_lin t h1 h8 l m hl, textL_lin (remOf_ok t l h1 h8) (remOf_ok t m h1 h8)]
theorem parT_length (t : Nat) (l : List UInt8) : (parT t l).length = (13 * t + 7) / 8 := textL_length _ _
end Go.Proofs.YtoledgpcgjdjjaaGreatDoor

/- Plain: the program's bytes and steps against long division, bit by bit. -/
namespace Go.Proofs.YtoledgpcgjdjjaaGreatDoor
open Go.RowKit Pm

def rb (r : Rm) (j : Nat) : Bool := if j < 64 then r.h.testBit (63 - j) else if j < 128 then r.l.testBit (127 - j) else false
theorem rb_lo (r : Rm) (j : Nat) (h : j < 64) : rb r j = r.h.testBit (63 - j) := if_pos h
theorem rb_mid (r : Rm) (j : Nat) (h : ¬ j < 64) (h2 : j < 128) : rb r j = r.l.testBit (127 - j) := (if_neg h).trans (if_pos h2)
theorem rb_hi (r : Rm) (j : Nat) (h : ¬ j < 128) : rb r j = false := (if_neg (by omega)).trans (if_neg h)
theorem testBit_big {x i : Nat} (h : x < 18446744073709551616) (hk : 64 ≤ i) : x.testBit i = false :=
  Nat.testBit_lt_two_pow (Nat.lt_of_lt_of_le (by rw [two64]; exact h) (Nat.pow_le_pow_right (by omega) hk))
theorem rb_plus (a b : Rm) (j : Nat) : rb (a.plus b) j = (rb a j != rb b j) := by
  by_cases h1 : j < 64
  · rw [rb_lo _ _ h1, rb_lo _ _ h1, rb_lo _ _ h1]; exact Nat.testBit_xor _ _ _
  · by_cases h2 : j < 128
    · rw [rb_mid _ _ h1 h2, rb_mid _ _ h1 h2, rb_mid _ _ h1 h2]; exact Nat.testBit_xor _ _ _
    · rw [rb_hi _ _ h2, rb_hi _ _ h2, rb_hi _ _ h2]; rfl
theorem rb_zero (j : Nat) : rb Rm.zero j = false := by
  by_cases h1 : j < 64
  · rw [rb_lo _ _ h1]; exact Nat.zero_testBit _
  · by_cases h2 : j < 128
    · rw [rb_mid _ _ h1 h2]; exact Nat.zero_testBit _
    · rw [rb_hi _ _ h2]
theorem rb_sh1 {r : Rm} (h : r.Ok) (j : Nat) : rb r.sh1 j = rb r (j + 1) := by
  have e1 : ∀ i, (r.h * 2 % 18446744073709551616).testBit i = (decide (i < 64) && (decide (1 ≤ i) && r.h.testBit (i - 1))) := fun i => bit_up r.h 1 i
  have e2 : ∀ i, (r.l * 2 % 18446744073709551616).testBit i = (decide (i < 64) && (decide (1 ≤ i) && r.l.testBit (i - 1))) := fun i => bit_up r.l 1 i
  have e3 : ∀ i, (r.l / 9223372036854775808).testBit i = r.l.testBit (63 + i) := fun i => bit_down r.l 63 i
  by_cases h1 : j < 64
  · rw [rb_lo _ _ h1]
    show Nat.testBit (r.h * 2 % 18446744073709551616 ||| r.l / 9223372036854775808) (63 - j) = _
    rw [Nat.testBit_or, e1, e3, decide_eq_true (show 63 - j < 64 by omega), Bool.true_and]
    by_cases h2 : j + 1 < 64
    · rw [rb_lo _ _ h2, testBit_big h.2 (by omega), decide_eq_true (show 1 ≤ 63 - j by omega), Bool.true_and, Bool.or_false]
      congr 1
    · rw [rb_mid _ _ h2 (by omega), decide_eq_false (show ¬ 1 ≤ 63 - j by omega), Bool.false_and, Bool.false_or]
      congr 1
      omega
  · by_cases h2 : j < 128
    · rw [rb_mid _ _ h1 h2]
      show Nat.testBit (r.l * 2 % 18446744073709551616) (127 - j) = _
      rw [e2, decide_eq_true (show 127 - j < 64 by omega), Bool.true_and]
      by_cases h3 : j + 1 < 128
      · rw [rb_mid _ _ (by omega) h3, decide_eq_true (show 1 ≤ 127 - j by omega), Bool.true_and]
        congr 1
      · rw [rb_hi _ _ h3, decide_eq_false (show ¬ 1 ≤ 127 - j by omega), Bool.false_and]
    · rw [rb_hi _ _ h2, rb_hi _ _ (by omega)]
theorem rb_sh8 {r : Rm} (h : r.Ok) (j : Nat) : rb r.sh8 j = rb r (j + 8) := by
  have e1 : ∀ i, (r.h * 256 % 18446744073709551616).testBit i = (decide (i < 64) && (decide (8 ≤ i) && r.h.testBit (i - 8))) := fun i => bit_up r.h 8 i
  have e2 : ∀ i, (r.l * 256 % 18446744073709551616).testBit i = (decide (i < 64) && (decide (8 ≤ i) && r.l.testBit (i - 8))) := fun i => bit_up r.l 8 i
  have e3 : ∀ i, (r.l / 72057594037927936).testBit i = r.l.testBit (56 + i) := fun i => bit_down r.l 56 i
  by_cases h1 : j < 64
  · rw [rb_lo _ _ h1]
    show Nat.testBit (r.h * 256 % 18446744073709551616 ||| r.l / 72057594037927936) (63 - j) = _
    rw [Nat.testBit_or, e1, e3, decide_eq_true (show 63 - j < 64 by omega), Bool.true_and]
    by_cases h2 : j + 8 < 64
    · rw [rb_lo _ _ h2, testBit_big h.2 (by omega), decide_eq_true (show 8 ≤ 63 - j by omega), Bool.true_and, Bool.or_false]
      congr 1
    · rw [rb_mid _ _ h2 (by omega), decide_eq_false (show ¬ 8 ≤ 63 - j by omega), Bool.false_and, Bool.false_or]
      congr 1
      omega
  · by_cases h2 : j < 128
    · rw [rb_mid _ _ h1 h2]
      show Nat.testBit (r.l * 256 % 18446744073709551616) (127 - j) = _
      rw [e2, decide_eq_true (show 127 - j < 64 by omega), Bool.true_and]
      by_cases h3 : j + 8 < 128
      · rw [rb_mid _ _ (by omega) h3, decide_eq_true (show 8 ≤ 127 - j by omega), Bool.true_and]
        congr 1
      · rw [rb_hi _ _ h3, decide_eq_false (show ¬ 8 ≤ 127 - j by omega), Bool.false_and]
    · rw [rb_hi _ _ h2, rb_hi _ _ (by omega)]
theorem rb_bit (n j : Nat) (hn : n < 128) : rb (Rm.bit n) j = decide (j = n) := by
  by_cases h : n < 64
  · have e : Rm.bit n = ⟨2 ^ (63 - n), 0⟩ := if_pos h
    rw [e]
    by_cases h1 : j < 64
    · rw [rb_lo _ _ h1]
      show Nat.testBit (2 ^ (63 - n)) (63 - j) = _
      rw [Nat.testBit_two_pow]
      by_cases e : j = n
      · rw [decide_eq_true e, decide_eq_true (by omega)]
      · rw [decide_eq_false e, decide_eq_false (by omega)]
    · rw [decide_eq_false (by omega)]
      by_cases h2 : j < 128
      · rw [rb_mid _ _ h1 h2]; exact Nat.zero_testBit _
      · rw [rb_hi _ _ h2]
  · have e : Rm.bit n = ⟨0, 2 ^ (127 - n)⟩ := if_neg h
    rw [e]
    by_cases h1 : j < 64
    · rw [rb_lo _ _ h1, decide_eq_false (by omega)]; exact Nat.zero_testBit _
    · by_cases h2 : j < 128
      · rw [rb_mid _ _ h1 h2]
        show Nat.testBit (2 ^ (127 - n)) (127 - j) = _
        rw [Nat.testBit_two_pow]
        by_cases e : j = n
        · rw [decide_eq_true e, decide_eq_true (by omega)]
        · rw [decide_eq_false e, decide_eq_false (by omega)]
      · rw [rb_hi _ _ h2, decide_eq_false (by omega)]
theorem rb_ext {a b : Rm} (ha : a.Ok) (hb : b.Ok) (h : ∀ j, j < 128 → rb a j = rb b j) : a = b := by
  apply Rm.ext'
  · apply Nat.eq_of_testBit_eq
    intro i
    by_cases hi : i < 64
    · have := h (63 - i) (by omega)
      rw [rb_lo _ _ (by omega), rb_lo _ _ (by omega), show 63 - (63 - i) = i by omega] at this
      exact this
    · rw [testBit_big ha.1 (by omega), testBit_big hb.1 (by omega)]
  · apply Nat.eq_of_testBit_eq
    intro i
    by_cases hi : i < 64
    · have := h (127 - i) (by omega)
      rw [rb_mid _ _ (by omega) (by omega), rb_mid _ _ (by omega) (by omega), show 127 - (127 - i) = i by omega] at this
      exact this
    · rw [testBit_big ha.2 (by omega), testBit_big hb.2 (by omega)]
def flp (l : List Int) (b : Nat) (p : Nat) : Bool := l.foldl (fun s e => s != decide (p = b - e.toNat)) false
theorem flp_shift (s : Bool) (l : List Int) (b p : Nat) : l.foldl (fun s e => s != decide (p = b - e.toNat)) s = (s != flp l b p) := by
  unfold flp
  induction l generalizing s with
  | nil => cases s <;> rfl
  | cons e l ih => rw [List.foldl_cons, List.foldl_cons, ih, ih (false != _)]; cases s <;> cases decide (p = b - e.toNat) <;> simp
theorem flp_cons (e : Int) (l : List Int) (b p : Nat) : flp (e :: l) b p = (decide (p = b - e.toNat) != flp l b p) := by
  show List.foldl _ (false != _) l = _
  rw [flp_shift]; simp
theorem rb_tail (d : Nat) (hd : d ≤ 120) (i : Nat) : ∀ (l : List Int), (∀ k, k < l.length → ∃ e : Nat, l.getD k 0 = (e : Int) ∧ e < d) → ∀ j, rb (tailR d l) j = flp l (i + d) (i + 1 + j) := by
  intro l
  have key : ∀ (l : List Int), (∀ e ∈ l, ∃ n : Nat, e = (n : Int) ∧ n < d) → ∀ (r : Rm) j, rb (l.foldl (fun r e => r.plus (Rm.bit (d - 1 - e.toNat))) r) j = (rb r j != flp l (i + d) (i + 1 + j)) := by
    intro l
    induction l with
    | nil => intro _ r j; show rb r j = (rb r j != false); cases rb r j <;> rfl
    | cons e l ih =>
      intro hl r j
      obtain ⟨n, rfl, hn⟩ := hl e List.mem_cons_self
      rw [List.foldl_cons, ih (fun x hx => hl x (List.mem_cons_of_mem _ hx)), rb_plus, flp_cons, rb_bit _ _ (by omega)]
      have e1 : decide (j = d - 1 - (n : Int).toNat) = decide (i + 1 + j = i + d - (n : Int).toNat) := by
        rw [Int.toNat_natCast]
        by_cases e : j = d - 1 - n
        · rw [decide_eq_true e, decide_eq_true (by omega)]
        · rw [decide_eq_false e, decide_eq_false (by omega)]
      rw [e1]
      cases rb r j <;> cases decide (i + 1 + j = i + d - (n : Int).toNat) <;> cases flp l (i + d) (i + 1 + j) <;> rfl
  intro hl j
  have := key l (fun e he => by
    obtain ⟨k, hk, rfl⟩ := List.mem_iff_getElem.1 he
    obtain ⟨n, hn, h⟩ := hl k hk
    rw [List.getD_eq_getElem?_getD, List.getElem?_eq_getElem hk] at hn
    exact ⟨n, hn, h⟩) Rm.zero j
  rw [rb_zero] at this
  unfold tailR
  rw [this]
  cases flp l (i + d) (i + 1 + j) <;> rfl
def bst (T r : Rm) (x : Bool) : Rm := if (rb r 0 != x) then r.sh1.plus T else r.sh1
theorem bst_ok {T r : Rm} (hT : T.Ok) (hr : r.Ok) (x : Bool) : (bst T r x).Ok := by
  unfold bst; split
  · exact hr.sh1.plus hT
  · exact hr.sh1
theorem rb_bst {T r : Rm} (hr : r.Ok) (x : Bool) (j : Nat) : rb (bst T r x) j = (rb r (j + 1) != ((rb r 0 != x) && rb T j)) := by
  unfold bst
  split
  · rename_i h; rw [rb_plus, rb_sh1 hr, h, Bool.true_and]
  · rename_i h
    rw [Bool.not_eq_true] at h
    rw [rb_sh1 hr, h, Bool.false_and]; cases rb r (j + 1) <;> rfl
theorem stp_bst {T r : Rm} (hr : r.Ok) : stp T r = bst T r false := by
  unfold stp bst
  have h : r.h / 9223372036854775808 = 0 ∨ r.h / 9223372036854775808 = 1 := by have := hr.1; omega
  have e : rb r 0 = decide (r.h / 9223372036854775808 = 1) := by
    show (if (0 : Nat) < 64 then r.h.testBit (63 - 0) else _) = _
    rw [if_pos (by omega), Nat.testBit_eq_decide_div_mod_eq]
    rcases h with h | h
    · rw [show (2 : Nat) ^ (63 - 0) = 9223372036854775808 by decide, h]
    · rw [show (2 : Nat) ^ (63 - 0) = 9223372036854775808 by decide, h]
  rw [e]
  rcases h with h | h <;> rw [h] <;> rfl
def bb (b : Nat) (k : Nat) : Bool := b.testBit (7 - k)
def bsts (T r : Rm) (x : Nat → Bool) : Nat → Rm | 0 => r | k + 1 => bst T (bsts T r x k) (x k)
theorem bsts_ok {T r : Rm} (hT : T.Ok) (hr : r.Ok) (x : Nat → Bool) (k : Nat) : (bsts T r x k).Ok := by
  induction k with
  | zero => exact hr
  | succ k ih => exact bst_ok hT ih _
theorem rb_top (b k j : Nat) : rb ⟨b * 2 ^ (56 + k) % 18446744073709551616, 0⟩ j = (decide (j + k < 8) && bb b (j + k)) := by
  unfold bb
  by_cases h1 : j < 64
  · rw [rb_lo _ _ h1]
    show Nat.testBit (b * 2 ^ (56 + k) % 18446744073709551616) (63 - j) = _
    rw [bit_up]
    by_cases h : j + k < 8
    · rw [decide_eq_true h, decide_eq_true (show 63 - j < 64 by omega), decide_eq_true (show 56 + k ≤ 63 - j by omega), Bool.true_and, Bool.true_and, Bool.true_and]
      congr 1
      omega
    · rw [decide_eq_false h, decide_eq_false (show ¬ 56 + k ≤ 63 - j by omega), Bool.false_and, Bool.and_false, Bool.false_and]
  · rw [decide_eq_false (by omega), Bool.false_and]
    by_cases h2 : j < 128
    · rw [rb_mid _ _ h1 h2]; exact Nat.zero_testBit _
    · rw [rb_hi _ _ h2]
theorem top_ok (b k : Nat) : (⟨b * 2 ^ (56 + k) % 18446744073709551616, 0⟩ : Rm).Ok := ⟨Nat.mod_lt _ (by omega), by show 0 < _; omega⟩
theorem stps_byte {T r : Rm} (hT : T.Ok) (hr : r.Ok) (b : Nat) (hb : b < 256) : ∀ k, k ≤ 8 → stps T (r.plus ⟨b * 72057594037927936, 0⟩) k = (bsts T r (bb b) k).plus ⟨b * 2 ^ (56 + k) % 18446744073709551616, 0⟩ := by
  intro k
  induction k with
  | zero =>
    intro _
    show r.plus _ = r.plus _
    congr 1
    refine Rm.ext' ?_ rfl
    show b * 72057594037927936 = b * 2 ^ 56 % 18446744073709551616
    omega
  | succ k ih =>
    intro hk
    show stp T (stps T _ k) = _
    rw [ih (by omega)]
    have hq := bsts_ok hT hr (bb b) k
    rw [stp_bst (hq.plus (top_ok b k))]
    apply rb_ext (bst_ok hT (hq.plus (top_ok b k)) _) ((bst_ok hT hq _).plus (top_ok b (k + 1)))
    intro j _
    show _ = rb ((bst T (bsts T r (bb b) k) (bb b k)).plus _) j
    rw [rb_bst (hq.plus (top_ok b k)), rb_plus, rb_plus, rb_plus, rb_bst hq, rb_top, rb_top, rb_top]
    rw [decide_eq_true (show 0 + k < 8 by omega), Nat.zero_add, show j + 1 + k = j + (k + 1) by omega]
    generalize rb (bsts T r (bb b) k) (j + 1) = u1
    generalize rb (bsts T r (bb b) k) 0 = u2
    generalize rb T j = u3
    generalize bb b (j + (k + 1)) = u4
    generalize bb b k = u5
    generalize decide (j + (k + 1) < 8) = u6
    cases u1 <;> cases u2 <;> cases u3 <;> cases u4 <;> cases u5 <;> cases u6 <;> rfl
theorem sh_rest {T r : Rm} (hT : T.Ok) (hr : r.Ok) : ∀ k, k ≤ 8 → (∀ j, j < k → rb r j = false) → ∀ j, rb (stps T r k) j = rb r (j + k) := by
  intro k
  induction k with
  | zero => intro _ _ j; rfl
  | succ k ih =>
    intro hk h0 j
    show rb (stp T (stps T r k)) j = _
    have hi := ih (by omega) (fun j hj => h0 j (by omega))
    rw [stp_bst (stps_ok hT hr k), rb_bst (stps_ok hT hr k), hi, hi, Nat.zero_add, h0 k (by omega), show j + 1 + k = j + (k + 1) by omega]
    cases rb r (j + (k + 1)) <;> rfl
theorem remStep_bits {T r : Rm} (hT : T.Ok) (hr : r.Ok) (b : UInt8) : remStep (byteStep T) r b = bsts T r (bb b.toNat) 8 := by
  have hb := b.toNat_lt
  have hf := hr.first
  have hx : r.first ^^^ b.toNat < 256 := Nat.xor_lt_two_pow (n := 8) hf hb
  have h1 : r.plus ⟨b.toNat * 72057594037927936, 0⟩ = (⟨r.h % 72057594037927936, r.l⟩ : Rm).plus ⟨(r.first ^^^ b.toNat) * 72057594037927936, 0⟩ := by
    refine Rm.ext' ?_ (by rfl)
    show r.h ^^^ _ = _ ^^^ _
    have e : r.h = r.h % 72057594037927936 ^^^ r.first * 72057594037927936 := by
      apply Nat.eq_of_testBit_eq
      intro i
      have e1 : (r.first * 72057594037927936).testBit i = (decide (56 ≤ i) && r.h.testBit i) := by
        show (r.first * 2 ^ 56).testBit i = _
        rw [← Nat.shiftLeft_eq, Nat.testBit_shiftLeft]
        by_cases h : 56 ≤ i
        · rw [decide_eq_true h, Bool.true_and, Bool.true_and]
          show (r.h / 2 ^ 56).testBit _ = _
          rw [bit_down]; congr 1; omega
        · rw [decide_eq_false h, Bool.false_and, Bool.false_and]
      have e2 : (r.h % 72057594037927936).testBit i = (decide (i < 56) && r.h.testBit i) := by
        show (r.h % 2 ^ 56).testBit i = _
        rw [Nat.testBit_mod_two_pow]
      rw [Nat.testBit_xor, e1, e2]
      by_cases h : 56 ≤ i
      · rw [decide_eq_true h, decide_eq_false (show ¬ i < 56 by omega)]; simp
      · rw [decide_eq_false h, decide_eq_true (show i < 56 by omega)]; simp
    have e3 : (r.first ^^^ b.toNat) * 72057594037927936 = r.first * 72057594037927936 ^^^ b.toNat * 72057594037927936 := by
      show (r.first ^^^ b.toNat) * 2 ^ 56 = r.first * 2 ^ 56 ^^^ b.toNat * 2 ^ 56
      apply Nat.eq_of_testBit_eq
      intro i
      rw [Nat.testBit_xor, ← Nat.shiftLeft_eq, ← Nat.shiftLeft_eq, ← Nat.shiftLeft_eq, Nat.testBit_shiftLeft, Nat.testBit_shiftLeft, Nat.testBit_shiftLeft, Nat.testBit_xor]
      cases decide (i ≥ 56) <;> cases r.first.testBit (i - 56) <;> cases b.toNat.testBit (i - 56) <;> rfl
    rw [e3]
    conv => lhs; rw [e]
    rw [Nat.xor_assoc]
  have hlow : (⟨r.h % 72057594037927936, r.l⟩ : Rm).Ok := ⟨by show _ % _ < _; have := hr.1; omega, hr.2⟩
  have hst : ∀ x, x < 256 → (⟨x * 72057594037927936, 0⟩ : Rm).Ok := fun x hx => ⟨by show x * _ < _; omega, by show 0 < _; omega⟩
  have h2 := stps_byte hT hr b.toNat hb 8 (Nat.le_refl _)
  rw [h1, stps_lin hT hlow (hst _ hx)] at h2
  have hz : (⟨b.toNat * 2 ^ (56 + 8) % 18446744073709551616, 0⟩ : Rm) = Rm.zero := Rm.ext' (by show b.toNat * 2 ^ (56 + 8) % 18446744073709551616 = 0; omega) rfl
  rw [hz, plus_zero] at h2
  rw [← h2]
  unfold remStep
  have e4 : stps T ⟨r.h % 72057594037927936, r.l⟩ 8 = r.sh8 := by
    apply rb_ext (stps_ok hT hlow 8) hr.sh8
    intro j _
    have hbits : ∀ j, rb ⟨r.h % 72057594037927936, r.l⟩ j = (decide (8 ≤ j) && rb r j) := by
      intro j
      by_cases h1 : j < 64
      · rw [rb_lo _ _ h1, rb_lo _ _ h1]
        show (r.h % 2 ^ 56).testBit (63 - j) = _
        rw [Nat.testBit_mod_two_pow]
        congr 1
        by_cases h : 8 ≤ j
        · rw [decide_eq_true h, decide_eq_true (by omega)]
        · rw [decide_eq_false h, decide_eq_false (by omega)]
      · rw [decide_eq_true (show 8 ≤ j by omega), Bool.true_and]
        by_cases h2 : j < 128
        · rw [rb_mid _ _ h1 h2, rb_mid _ _ h1 h2]
        · rw [rb_hi _ _ h2, rb_hi _ _ h2]
    rw [sh_rest hT hlow 8 (Nat.le_refl _) (fun j hj => by rw [hbits, decide_eq_false (by omega), Bool.false_and]), hbits, rb_sh8 hr, decide_eq_true (by omega), Bool.true_and]
  rw [e4]
  rfl
def dbit (l : List UInt8) (p : Nat) : Bool := bb (l.getD (p / 8) 0).toNat (p % 8)
def regs (T : Rm) (l : List UInt8) : Nat → Rm | 0 => Rm.zero | i + 1 => bst T (regs T l i) (dbit l i)
theorem regs_ok {T : Rm} (hT : T.Ok) (l : List UInt8) (i : Nat) : (regs T l i).Ok := by
  induction i with
  | zero => exact Rm.zero_ok
  | succ i ih => exact bst_ok hT ih _
theorem regs_bsts (T : Rm) (l : List UInt8) (k : Nat) : ∀ j, j ≤ 8 → regs T l (8 * k + j) = bsts T (regs T l (8 * k)) (bb (l.getD k 0).toNat) j := by
  intro j
  induction j with
  | zero => intro _; rfl
  | succ j ih =>
    intro hj
    show bst T (regs T l (8 * k + j)) (dbit l (8 * k + j)) = bst T _ _
    rw [ih (by omega)]
    unfold dbit
    rw [show (8 * k + j) / 8 = k by omega, show (8 * k + j) % 8 = j by omega]
theorem fold_regs {T : Rm} (hT : T.Ok) (l : List UInt8) : ∀ k, k ≤ l.length → (l.take k).foldl (remStep (byteStep T)) Rm.zero = regs T l (8 * k) := by
  intro k
  induction k with
  | zero => intro _; rfl
  | succ k ih =>
    intro hk
    rw [List.take_succ_eq_append_getElem (by omega), List.foldl_append, ih (by omega)]
    show remStep (byteStep T) (regs T l (8 * k)) l[k] = regs T l (8 * k + 8)
    rw [regs_bsts T l k 8 (Nat.le_refl _), remStep_bits hT (regs_ok hT l _), List.getD_eq_getElem?_getD, List.getElem?_eq_getElem (by omega)]
    rfl
def rows (g : List Int) (d : Nat) (l : List UInt8) : Nat → Nat → Bool
  | 0, p => dbit l p
  | i + 1, p => (rows g d l i p != (rows g d l i i && flp g (i + d) p))
theorem flp_high (l : List Int) (b p : Nat) (h : b < p) : flp l b p = false := by
  induction l with
  | nil => rfl
  | cons e l ih => rw [flp_cons, ih, decide_eq_false (by omega)]; rfl
theorem regs_high (d : Nat) (hd : d ≤ 120) (tl : List Int) (htl : ∀ k, k < tl.length → ∃ e : Nat, tl.getD k 0 = (e : Int) ∧ e < d) (hT : (tailR d tl).Ok) (l : List UInt8) (i j : Nat) (hj : d ≤ j) : rb (regs (tailR d tl) l i) j = false := by
  induction i generalizing j with
  | zero => exact rb_zero _
  | succ i ih =>
    show rb (bst _ _ _) j = false
    rw [rb_bst (regs_ok hT l i), ih (j + 1) (by omega), rb_tail d hd i tl htl, flp_high _ _ _ (by omega), Bool.and_false]
    rfl
def by8 (x : Nat → Bool) : Nat → Nat | 0 => 0 | k + 1 => by8 x k ||| (if x k then 2 ^ (7 - k) else 0)
theorem by8_bit (x : Nat → Bool) (k : Nat) (hk : k ≤ 8) (i : Nat) : (by8 x k).testBit i = (decide (i < 8) && decide (7 - i < k) && x (7 - i)) := by
  induction k with
  | zero => rw [show by8 x 0 = 0 from rfl, Nat.zero_testBit, decide_eq_false (show ¬ 7 - i < 0 by omega), Bool.and_false, Bool.false_and]
  | succ k ih =>
    show Nat.testBit (by8 x k ||| _) i = _
    rw [Nat.testBit_or, ih (by omega)]
    have e : (if x k then 2 ^ (7 - k) else 0).testBit i = (decide (7 - k = i) && x k) := by
      split
      · rename_i h; rw [Nat.testBit_two_pow, h, Bool.and_true]
      · rename_i h; rw [Bool.not_eq_true] at h; rw [Nat.zero_testBit, h, Bool.and_false]
    rw [e]
    by_cases h1 : 7 - k = i
    · rw [decide_eq_true h1, decide_eq_true (show i < 8 by omega), decide_eq_true (show 7 - i < k + 1 by omega), decide_eq_false (show ¬ 7 - i < k by omega), show 7 - i = k by omega]
      simp
    · rw [decide_eq_false h1, Bool.false_and, Bool.or_false]
      by_cases h2 : i < 8
      · by_cases h3 : 7 - i < k
        · rw [decide_eq_true h3, decide_eq_true (show 7 - i < k + 1 by omega)]
        · rw [decide_eq_false h3, decide_eq_false (show ¬ 7 - i < k + 1 by omega)]
      · rw [decide_eq_false h2]; simp
theorem by8_lt (x : Nat → Bool) (k : Nat) (hk : k ≤ 8) : by8 x k < 256 := by
  induction k with
  | zero => show 0 < 256; omega
  | succ k ih =>
    refine Nat.or_lt_two_pow (n := 8) (ih (by omega)) ?_
    split
    · exact Nat.pow_lt_pow_right (by omega) (by omega)
    · omega
theorem first_by8 {r : Rm} (h : r.Ok) : r.first = by8 (rb r) 8 := by
  apply Nat.eq_of_testBit_eq
  intro i
  rw [by8_bit _ _ (Nat.le_refl _)]
  by_cases hi : i < 8
  · rw [decide_eq_true hi, decide_eq_true (show 7 - i < 8 by omega), rb_lo _ _ (by omega)]
    show Nat.testBit (r.h / 2 ^ 56) i = _
    rw [bit_down, show 63 - (7 - i) = 56 + i by omega]
    rfl
  · rw [decide_eq_false hi, Bool.false_and, Bool.false_and]
    exact Nat.testBit_lt_two_pow (Nat.lt_of_lt_of_le h.first (Nat.pow_le_pow_right (show 0 < 2 by omega) (show 8 ≤ i by omega)))
theorem by8_congr {x y : Nat → Bool} (k : Nat) (h : ∀ j, j < k → x j = y j) : by8 x k = by8 y k := by
  induction k with
  | zero => rfl
  | succ k ih =>
    show by8 x k ||| _ = by8 y k ||| _
    rw [ih (fun j hj => h j (by omega)), h k (by omega)]
theorem by8_stop (x : Nat → Bool) (k m : Nat) (h : ∀ j, k ≤ j → j < k + m → x j = false) : by8 x (k + m) = by8 x k := by
  induction m with
  | zero => rfl
  | succ m ih =>
    show by8 x (k + m) ||| (if x (k + m) then 2 ^ (7 - (k + m)) else 0) = _
    rw [ih fun j h1 h2 => h j h1 (by omega), h (k + m) (by omega) (by omega)]
    exact Nat.or_zero _
theorem rb_shs {r : Rm} (h : r.Ok) (m j : Nat) : rb (shs r m) j = rb r (8 * m + j) := by
  induction m generalizing j with
  | zero => rw [Nat.mul_zero, Nat.zero_add]; rfl
  | succ m ih =>
    show rb (shs r m).sh8 j = _
    rw [rb_sh8 (shs_ok h m), ih]
    congr 1
    omega
def txt (x : Nat → Bool) (i : Nat) : List UInt8 := (List.range ((i + 7) / 8)).map fun m => UInt8.ofNat (by8 (fun k => x (8 * m + k)) (min 8 (i - 8 * m)))
theorem txt_length (x : Nat → Bool) (i : Nat) : (txt x i).length = (i + 7) / 8 := by simp [txt]
theorem txt_get (x : Nat → Bool) (i m : Nat) (_h : m < (txt x i).length) : (txt x i)[m] = UInt8.ofNat (by8 (fun k => x (8 * m + k)) (min 8 (i - 8 * m))) := by simp [txt]
theorem textL_txt {r : Rm} (h : r.Ok) (d : Nat) (hz : ∀ j, d ≤ j → rb r j = false) : textL r ((d + 7) / 8) = txt (rb r) d := by
  apply List.ext_getElem
  · rw [txt_length]; simp [textL]
  · intro m h1 h2
    rw [txt_get]
    rw [txt_length] at h2
    simp only [textL, List.getElem_map, List.getElem_range]
    congr 1
    rw [first_by8 (shs_ok h m), by8_congr 8 (y := fun k => rb r (8 * m + k)) (fun j _ => rb_shs h m j)]
    have e := by8_stop (fun k => rb r (8 * m + k)) (min 8 (d - 8 * m)) (8 - min 8 (d - 8 * m)) (fun j h1 h2 => hz _ (by omega))
    rw [show min 8 (d - 8 * m) + (8 - min 8 (d - 8 * m)) = 8 by omega] at e
    exact e
def bi (b : Bool) : Int := if b then 1 else 0
def bl (N : Nat) (f : Nat → Bool) : List Int := (List.range N).map fun p => bi (f p)
end Go.Proofs.YtoledgpcgjdjjaaGreatDoor

/- Plain: the values of remainders and words at powers of the field's generator; what is 0 at 2t of them is nothing; bits turned; no more than one set of places. -/
namespace Go.Proofs.YtoledgpcgjdjjaaGreatDoor
open F
open Go.RowKit Pm
set_option linter.unusedVariables false
def invR2 (x : Nat) : Nat → Nat → Nat
  | 0, a => a
  | n + 1, a => match a * a * x % 8191 with | 0 => 0 | q + 1 => invR2 x n (q + 1)
def invC2 (x : Nat) : Bool := match invR2 x 11 1 with | 0 => false | a + 1 => (((a + 1) * (a + 1) % 8191) * ((a + 1) * (a + 1) % 8191) % 8191 * x % 8191) * x % 8191 == 1
def invD2 : Nat → Nat → Bool
  | _, 0 => true
  | s, n + 1 => match invC2 (s + n + 1) with | true => invD2 s n | false => false
theorem invD2_spec (s n : Nat) (h : invD2 s n = true) : ∀ x, s < x → x ≤ s + n → ∃ y, y * x % 8191 = 1 := by
  induction n with
  | zero => intro x h1 h2; omega
  | succ n ih =>
    unfold invD2 at h
    split at h
    · rename_i hc
      intro x h1 h2
      rcases Nat.lt_or_ge x (s + n + 1) with h3 | h3
      · exact ih h x h1 (by omega)
      · obtain rfl : x = s + n + 1 := by omega
        unfold invC2 at hc
        split at hc
        · cases hc
        · exact ⟨_, by simpa using hc⟩
    · cases h
set_option maxRecDepth 100000 in
theorem invD2_run : ∀ a : Fin 63, invD2 (130 * a.val) 130 = true := by decide +kernel
theorem inverse2 (K : Nat) (h0 : 0 < K) (h : K < 8191) : ∃ y, y * K % 8191 = 1 := by
  have h1 : (K - 1) / 130 < 63 := by omega
  exact invD2_spec _ _ (invD2_run ⟨(K - 1) / 130, h1⟩) K (by show 130 * ((K - 1) / 130) < K; omega) (by show K ≤ 130 * ((K - 1) / 130) + 130; omega)
namespace F
theorem al_one : al 1 ≠ 1 := fun h => by
  have : Gfm.pw 1 = 1 := congrArg Subtype.val h
  exact absurd this (by decide)
theorem al_inj {m n : Nat} (hm : m < 8191) (hn : n < 8191) (h : al m = al n) : m = n := by
  have key : ∀ m n : Nat, m < n → n < 8191 → al m = al n → False := fun m n h1 h2 h => by
    have e : al m * al (n - m) = al m * 1 := by rw [← al_add, mul_one, h]; congr 1; omega
    have e1 := mul_left_cancel (al_ne m) e
    obtain ⟨y, hy⟩ := inverse2 (n - m) (by omega) (by omega)
    have p1 : ∀ k, pow (1 : F) k = 1 := fun k => by
      induction k with
      | zero => rfl
      | succ k ih => rw [pow_succ, ih, mul_one]
    have e2 : pow (al (n - m)) y = 1 := by rw [e1, p1]
    rw [pow_al, ← al_mod, Nat.mul_comm, hy] at e2
    exact al_one e2
  rcases Nat.lt_trichotomy m n with h1 | h1 | h1
  · exact (key m n h1 hn h).elim
  · exact h1
  · exact (key n m h1 hm h.symm).elim
end F
def fx (b : Bool) (x : F) : F := if b then x else 0
theorem fx_xor (a b : Bool) (x : F) : fx (a != b) x = fx a x + fx b x := by
  cases a <;> cases b
  · exact (add_zero 0).symm
  · exact (zero_add x).symm
  · exact (add_zero x).symm
  · exact (add_self x).symm
theorem fx_and (a b : Bool) (x : F) : fx (a && b) x = fx a (fx b x) := by cases a <;> rfl
theorem fx_mul (a : Bool) (c x : F) : c * fx a x = fx a (c * x) := by
  cases a
  · exact mul_zero c
  · rfl
theorem fx_sq (a : Bool) (x : F) : fx a x * fx a x = fx a (x * x) := by
  cases a
  · exact mul_zero 0
  · rfl
theorem sm_fx (b : Bool) (f : Nat → F) (n : Nat) : sm (fun i => fx b (f i)) n = fx b (sm f n) := by
  cases b
  · exact sm_zero fun _ _ => rfl
  · rfl
theorem sm_sq (f : Nat → F) (n : Nat) : sm f n * sm f n = sm (fun i => f i * f i) n := by
  induction n with
  | zero => exact mul_zero 0
  | succ n ih => show (sm f n + f n) * (sm f n + f n) = _; rw [sq_add, ih]; rfl
theorem sm_split (f : Nat → F) (a b : Nat) : sm f (a + b) = sm f a + sm (fun i => f (a + i)) b := by
  induction b with
  | zero => exact (add_zero _).symm
  | succ b ih => show sm f (a + b) + f (a + b) = _ + (_ + _); rw [ih, add_assoc]
def evR (d K : Nat) (r : Rm) : F := sm (fun j => fx (rb r j) (al (K * (d - 1 - j)))) d
theorem evR_plus (d K : Nat) (a b : Rm) : evR d K (a.plus b) = evR d K a + evR d K b := by
  unfold evR
  rw [← sm_add]
  exact sm_congr fun j _ => by rw [rb_plus, fx_xor]
theorem evR_bit (d K e : Nat) (hd : d ≤ 120) (he : e < d) : evR d K (Rm.bit (d - 1 - e)) = al (K * e) := by
  unfold evR
  rw [sm_only (d - 1 - e) (by omega) fun i hi hne => by rw [rb_bit _ _ (by omega), decide_eq_false hne]; rfl]
  rw [rb_bit _ _ (by omega), decide_eq_true rfl, show d - 1 - (d - 1 - e) = e by omega]
  rfl
theorem evR_zero (d K : Nat) : evR d K Rm.zero = 0 := sm_zero fun j _ => by rw [rb_zero]; rfl
theorem evR_tail (d K : Nat) (hd : d ≤ 120) (l : List Int) (hl : ∀ e ∈ l, ∃ n : Nat, e = (n : Int) ∧ n < d) : (evR d K (tailR d l)).1 = evs K l := by
  have key : ∀ (l : List Int), (∀ e ∈ l, ∃ n : Nat, e = (n : Int) ∧ n < d) → ∀ r : Rm, (evR d K (l.foldl (fun r e => r.plus (Rm.bit (d - 1 - e.toNat))) r)).1 = (evR d K r).1 ^^^ evs K l := by
    intro l
    induction l with
    | nil => intro _ r; exact (Nat.xor_zero _).symm
    | cons e l ih =>
      intro hl r
      obtain ⟨n, rfl, hn⟩ := hl e List.mem_cons_self
      rw [List.foldl_cons, ih (fun x hx => hl x (List.mem_cons_of_mem _ hx)), evR_plus, Int.toNat_natCast, evR_bit d K n hd hn]
      show ((evR d K r).1 ^^^ Gfm.pw (K * n)) ^^^ evs K l = (evR d K r).1 ^^^ (Gfm.pw (trn ((K : Int) * (n : Int))) ^^^ evs K l)
      rw [pw_trn, Nat.xor_assoc]
  unfold tailR
  rw [key l hl, evR_zero]
  exact Nat.zero_xor _
def Root (d K : Nat) (T : Rm) : Prop := evR d K T = al (K * d)
theorem root_of (d K : Nat) (hd : d ≤ 120) (l : List Int) (hl : ∀ e ∈ l, ∃ n : Nat, e = (n : Int) ∧ n < d) (h : evs K ((d : Int) :: l) = 0) : Root d K (tailR d l) := by
  apply F.ext
  rw [evR_tail d K hd l hl]
  show _ = Gfm.pw (K * d)
  have h' : Gfm.pw (trn ((K : Int) * (d : Int))) ^^^ evs K l = 0 := h
  rw [pw_trn] at h'
  have e : Gfm.pw (K * d) ^^^ (Gfm.pw (K * d) ^^^ evs K l) = Gfm.pw (K * d) ^^^ 0 := by rw [h']
  rw [← Nat.xor_assoc, Nat.xor_self, Nat.zero_xor, Nat.xor_zero] at e
  exact e
theorem evR_bst {d K : Nat} {T r : Rm} (hr : r.Ok) (hz : rb r d = false) (hT : Root d K T) (hd : 1 ≤ d) (x : Bool) : evR d K (bst T r x) = al K * evR d K r + fx x (al (K * d)) := by
  obtain ⟨D, rfl⟩ : ∃ D, d = D + 1 := ⟨d - 1, by omega⟩
  have e1 : evR (D + 1) K (bst T r x) = sm (fun j => fx (rb r (j + 1)) (al (K * (D + 1 - 1 - j)))) (D + 1) + fx (rb r 0 != x) (evR (D + 1) K T) := by
    unfold evR
    rw [← sm_fx, ← sm_add]
    exact sm_congr fun j _ => by rw [rb_bst hr, fx_xor, fx_and]
  have e2 : sm (fun j => fx (rb r (j + 1)) (al (K * (D + 1 - 1 - j)))) (D + 1) = sm (fun j => fx (rb r (j + 1)) (al (K * (D - j)))) D := by
    show sm _ D + fx (rb r (D + 1)) _ = _
    rw [hz]
    show sm _ D + 0 = _
    rw [add_zero]
    exact sm_congr fun j _ => by rw [Nat.add_sub_cancel]
  have e3 : al K * evR (D + 1) K r = fx (rb r 0) (al (K * (D + 1))) + sm (fun j => fx (rb r (j + 1)) (al (K * (D - j)))) D := by
    unfold evR
    rw [← sm_mul, sm_first]
    congr 1
    · rw [fx_mul, ← al_add]; congr 2; show K + K * (D + 1 - 1 - 0) = _; rw [show D + 1 - 1 - 0 = D by omega, Nat.mul_succ, Nat.add_comm]
    · refine sm_congr fun j hj => ?_
      rw [fx_mul, ← al_add]
      congr 2
      obtain ⟨q, rfl⟩ : ∃ q, D = j + q + 1 := ⟨D - j - 1, by omega⟩
      rw [show j + q + 1 + 1 - 1 - (j + 1) = q by omega, show j + q + 1 - j = q + 1 by omega, Nat.mul_succ, Nat.add_comm]
  rw [e1, e2, e3, hT, fx_xor]
  ac_rfl
theorem ev_regs {d K : Nat} {tl : List Int} (hd : d ≤ 120) (hd1 : 1 ≤ d) (htl : ∀ k, k < tl.length → ∃ e : Nat, tl.getD k 0 = (e : Int) ∧ e < d) (hT : (tailR d tl).Ok) (hR : Root d K (tailR d tl)) (l : List UInt8) (i : Nat) :
    evR d K (regs (tailR d tl) l i) = sm (fun q => fx (dbit l q) (al (K * (d + (i - 1 - q))))) i := by
  induction i with
  | zero => exact evR_zero d K
  | succ i ih =>
    show evR d K (bst _ _ _) = sm _ i + fx (dbit l i) (al (K * (d + (i + 1 - 1 - i))))
    rw [evR_bst (regs_ok hT l i) (regs_high d hd tl htl hT l i d (Nat.le_refl _)) hR hd1, ih, ← sm_mul, show d + (i + 1 - 1 - i) = d by omega]
    congr 1
    refine sm_congr fun q hq => ?_
    rw [fx_mul, ← al_add]
    congr 2
    obtain ⟨p, rfl⟩ : ∃ p, i = q + p + 1 := ⟨i - q - 1, by omega⟩
    rw [show d + (q + p + 1 - 1 - q) = d + p by omega, show d + (q + p + 1 + 1 - 1 - q) = (d + p) + 1 by omega, Nat.mul_succ, Nat.add_comm]
def wv (K : Nat) (W : List UInt8) (N : Nat) : F := sm (fun q => fx (dbit W q) (al (K * (N - 1 - q)))) N
theorem dbit_left (a b : List UInt8) (q : Nat) (h : q < 8 * a.length) : dbit (a ++ b) q = dbit a q := by
  unfold dbit
  rw [List.getD_eq_getElem?_getD, List.getElem?_append_left (by omega), ← List.getD_eq_getElem?_getD]
theorem dbit_right (a b : List UInt8) (j : Nat) : dbit (a ++ b) (8 * a.length + j) = dbit b j := by
  unfold dbit
  rw [show (8 * a.length + j) / 8 = a.length + j / 8 by omega, show (8 * a.length + j) % 8 = j % 8 by omega, List.getD_eq_getElem?_getD, List.getElem?_append_right (by omega), Nat.add_sub_cancel_left, ← List.getD_eq_getElem?_getD]
theorem wv_rest {d K : Nat} {tl : List Int} (hd : d ≤ 120) (hd1 : 1 ≤ d) (htl : ∀ k, k < tl.length → ∃ e : Nat, tl.getD k 0 = (e : Int) ∧ e < d) (hT : (tailR d tl).Ok) (hR : Root d K (tailR d tl)) (a b : List UInt8) (g : Rm) (hg : ∀ j, j < d → rb g j = dbit b j) :
    evR d K ((regs (tailR d tl) a (8 * a.length)).plus g) = wv K (a ++ b) (8 * a.length + d) := by
  unfold wv
  rw [evR_plus, ev_regs hd hd1 htl hT hR, sm_split]
  congr 1
  · refine sm_congr fun q hq => ?_
    rw [dbit_left _ _ _ hq]
    congr 3
    omega
  · refine sm_congr fun j hj => ?_
    rw [dbit_right, hg j hj]
    congr 3
    omega
theorem no_roots : ∀ (L : Nat) (C : Nat → F) (l : List F), l.Nodup → L < l.length → (∀ i, L < i → C i = 0) → (∀ X ∈ l, cv C (pow X) L = 0) → ∀ i, C i = 0 := by
  intro L
  induction L with
  | zero =>
    intro C l hn hl hd hr i
    by_cases hi : i = 0
    · obtain ⟨X, hX⟩ : ∃ X, X ∈ l := by
        cases l with
        | nil => exact absurd hl (by simp)
        | cons X _ => exact ⟨X, List.mem_cons_self⟩
      have := hr X hX
      rw [cv_zero, pow_zero, mul_one] at this
      rw [hi, this]
    · exact hd i (by omega)
  | succ L ih =>
    intro C l hn hl hd hr
    by_cases h0 : C 0 = 0
    · have hs : ∀ X, cv C (pow X) (L + 1) = cv (fun i => C (i + 1)) (pow X) L := fun X => by
        unfold cv
        rw [sm_first, h0, zero_mul, zero_add]
        exact sm_congr fun i hi => by rw [show L + 1 - (i + 1) = L - i by omega]
      have := ih (fun i => C (i + 1)) l hn (by omega) (fun i hi => hd (i + 1) (by omega)) fun X hX => by rw [← hs, hr X hX]
      intro i
      cases i with
      | zero => exact h0
      | succ i => exact this i
    · exfalso
      have := (factor l (fun i => inv (C 0) * C i) (L + 1) hn (by show inv (C 0) * C 0 = 1; rw [mul_comm, mul_inv h0]) (fun i hi => by show inv (C 0) * C i = 0; rw [hd i hi, mul_zero]) (fun X hX => by rw [cv_mul_left, hr X hX, mul_zero])).1
      omega
def cj (t : Nat) : List Nat := (List.range t).flatMap fun i => (List.range 13).map fun j => (2 * i + 1) * 2 ^ j % 8191
theorem cj_nodup : ∀ t : Fin 9, (cj t.val).Nodup := by decide +kernel
theorem cj_length : ∀ t : Fin 9, (cj t.val).length = 13 * t.val := by decide +kernel
theorem cj_mem {t e : Nat} (h : e ∈ cj t) : ∃ i j, i < t ∧ e = (2 * i + 1) * 2 ^ j % 8191 := by
  unfold cj at h
  obtain ⟨i, hi, h⟩ := List.mem_flatMap.1 h
  obtain ⟨j, _, rfl⟩ := List.mem_map.1 h
  exact ⟨i, j, List.mem_range.1 hi, rfl⟩
theorem evR_two (d K : Nat) (r : Rm) : evR d (2 * K) r = evR d K r * evR d K r := by
  unfold evR
  rw [sm_sq]
  refine sm_congr fun j _ => ?_
  rw [fx_sq, ← al_add, ← Nat.two_mul, Nat.mul_assoc]
theorem evR_mod (d K : Nat) (r : Rm) : evR d (K % 8191) r = evR d K r := by
  refine sm_congr fun j _ => ?_
  rw [← al_mod (K % 8191 * _), ← al_mod (K * _), Nat.mod_mul_mod]
theorem rest_zero (t : Nat) (h1 : 1 ≤ t) (h8 : t ≤ 8) (r : Rm) (hr : r.Ok) (hz : ∀ j, 13 * t ≤ j → rb r j = false) (h : ∀ K, 1 ≤ K → K ≤ 2 * t → evR (13 * t) K r = 0) : r = Rm.zero := by
  have hpow : ∀ i j, i < t → evR (13 * t) ((2 * i + 1) * 2 ^ j) r = 0 := by
    intro i j hi
    induction j with
    | zero => exact h _ (by omega) (by omega)
    | succ j ih => rw [Nat.pow_succ, show (2 * i + 1) * (2 ^ j * 2) = 2 * ((2 * i + 1) * 2 ^ j) by rw [← Nat.mul_assoc, Nat.mul_comm _ 2], evR_two, ih, mul_zero]
  have hev : ∀ K, cv (fun j => fx (rb r j) 1) (pow (al K)) (13 * t - 1) = evR (13 * t) K r := fun K => by
    unfold cv evR
    rw [show 13 * t - 1 + 1 = 13 * t by omega]
    refine sm_congr fun j _ => ?_
    rw [pow_al, mul_comm, fx_mul, mul_one]
  have hnd := cj_nodup ⟨t, by omega⟩
  have hlen := cj_length ⟨t, by omega⟩
  have hall := no_roots (13 * t - 1) (fun j => fx (rb r j) 1) ((cj t).map al)
    (by
      rw [List.nodup_iff_pairwise_ne, List.pairwise_map]
      refine List.Pairwise.imp_of_mem (R := fun a b => a ≠ b) (fun {a b} ha hb hab e => ?_) (List.nodup_iff_pairwise_ne.1 hnd)
      obtain ⟨_, _, _, rfl⟩ := cj_mem ha
      obtain ⟨_, _, _, rfl⟩ := cj_mem hb
      exact hab (al_inj (Nat.mod_lt _ (by omega)) (Nat.mod_lt _ (by omega)) e))
    (by rw [List.length_map]; have : (cj t).length = 13 * t := hlen; omega)
    (fun i hi => by show fx (rb r i) 1 = 0; rw [hz i (by omega)]; rfl)
    (fun X hX => by
      obtain ⟨e, he, rfl⟩ := List.mem_map.1 hX
      obtain ⟨i, j, hi, rfl⟩ := cj_mem he
      rw [hev, evR_mod, hpow i j hi])
  refine rb_ext hr Rm.zero_ok fun j _ => ?_
  rw [rb_zero]
  have := hall j
  cases hb : rb r j
  · rfl
  · rw [hb] at this
    exact absurd this one_ne_zero
theorem rb_fromStep (s : ByteArray) (r : Rm) (hr : r.Ok) (i j : Nat) (hj : j < 128) : rb (fromStep s r i) j = if j < 120 then rb r (j + 8) else bb (s.data.toList.getD i 0).toNat (j - 120) := by
  have e2 : ∀ q, (r.l * 256 % 18446744073709551616).testBit q = (decide (q < 64) && (decide (8 ≤ q) && r.l.testBit (q - 8))) := fun q => bit_up r.l 8 q
  have h8 := rb_sh8 hr j
  unfold fromStep
  by_cases hs : i < s.size
  · rw [dif_pos hs]
    have hb : (s[i]).toNat < 256 := s[i].toNat_lt
    have hg : (s.data.toList.getD i 0).toNat = s[i].toNat := by rw [List.getD_eq_getElem?_getD, List.getElem?_eq_getElem (by simpa using hs)]; rfl
    rw [hg]
    by_cases h1 : j < 64
    · rw [if_pos (by omega), ← h8, rb_lo _ _ h1, rb_lo _ _ h1]
    · rw [rb_mid _ _ h1 hj]
      show Nat.testBit (r.sh8.l ||| s[i].toNat) (127 - j) = _
      rw [Nat.testBit_or]
      by_cases h2 : j < 120
      · rw [if_pos h2, ← h8, rb_mid _ _ h1 hj, Nat.testBit_lt_two_pow (x := s[i].toNat) (Nat.lt_of_lt_of_le hb (Nat.pow_le_pow_right (show 0 < 2 by omega) (show 8 ≤ 127 - j by omega))), Bool.or_false]
      · rw [if_neg h2]
        have : (r.sh8.l).testBit (127 - j) = false := by
          show Nat.testBit (r.l * 256 % 18446744073709551616) (127 - j) = false
          rw [e2, decide_eq_false (show ¬ 8 ≤ 127 - j by omega), Bool.false_and, Bool.and_false]
        rw [this, Bool.false_or]
        unfold bb
        congr 1
        omega
  · rw [dif_neg hs]
    by_cases h2 : j < 120
    · rw [if_pos h2, h8]
    · rw [if_neg h2, h8, rb_hi _ _ (by omega), List.getD_eq_getElem?_getD, List.getElem?_eq_none (by simpa using hs)]
      exact (Nat.zero_testBit _).symm
theorem rb_fromR (s : ByteArray) : ∀ i, i ≤ 16 → ∀ j, j < 128 → rb (fromR s i) j = if 128 - 8 * i ≤ j then dbit s.data.toList (8 * i + j - 128) else false := by
  intro i
  induction i with
  | zero => intro _ j hj; rw [if_neg (by omega)]; exact rb_zero j
  | succ i ih =>
    intro hi j hj
    show rb (fromStep s (fromR s i) i) j = _
    rw [rb_fromStep s _ (fromR_ok s i) i j hj]
    by_cases h : j < 120
    · rw [if_pos h, ih (by omega) (j + 8) (by omega)]
      by_cases h2 : 128 - 8 * (i + 1) ≤ j
      · rw [if_pos h2, if_pos (by omega), show 8 * i + (j + 8) - 128 = 8 * (i + 1) + j - 128 by omega]
      · rw [if_neg h2, if_neg (by omega)]
    · rw [if_neg h, if_pos (by omega)]
      unfold dbit
      rw [show (8 * (i + 1) + j - 128) / 8 = i by omega, show (8 * (i + 1) + j - 128) % 8 = j - 120 by omega]
def maskN (m : Nat) : Nat := 18446744073709551615 - 18446744073709551615 / 2 ^ m
def maskOk (m : Nat) : Nat → Bool | 0 => true | i + 1 => ((maskN m).testBit i == decide (64 ≤ i + m)) && maskOk m i
theorem maskOk_all : ∀ m : Fin 65, maskOk m.val 64 = true := by decide +kernel
theorem maskOk_bit (m : Nat) : ∀ n, maskOk m n = true → ∀ i, i < n → (maskN m).testBit i = decide (64 ≤ i + m) := by
  intro n
  induction n with
  | zero => intro _ i hi; omega
  | succ n ih =>
    intro h i hi
    unfold maskOk at h
    obtain ⟨h1, h2⟩ := (Bool.and_eq_true_iff ..).1 h
    by_cases e : i = n
    · subst e; exact eq_of_beq h1
    · exact ih h2 i (by omega)
theorem mask_bit (m i : Nat) (hm : m ≤ 64) (hi : i < 64) : (maskN m).testBit i = decide (64 ≤ i + m) := maskOk_bit m 64 (maskOk_all ⟨m, by omega⟩) i hi
theorem rb_from (s : ByteArray) (d : Nat) (hd : d ≤ 128) (j : Nat) : rb (fromT s d) j = (decide (j < d) && dbit s.data.toList j) := by
  by_cases h1 : j < 64
  · rw [rb_lo _ _ h1]
    show Nat.testBit ((fromR s 16).h &&& maskN (min d 64)) (63 - j) = _
    rw [Nat.testBit_and, mask_bit _ _ (by omega) (by omega), ← rb_lo _ _ h1, rb_fromR s 16 (by omega) j (by omega), if_pos (by omega), Bool.and_comm, show 8 * 16 + j - 128 = j by omega]
    congr 1
    by_cases h : j < d
    · rw [decide_eq_true h, decide_eq_true (by omega)]
    · rw [decide_eq_false h, decide_eq_false (by omega)]
  · by_cases h2 : j < 128
    · rw [rb_mid _ _ h1 h2]
      show Nat.testBit ((fromR s 16).l &&& maskN (d - 64)) (127 - j) = _
      rw [Nat.testBit_and, mask_bit _ _ (by omega) (by omega), ← rb_mid _ _ h1 h2, rb_fromR s 16 (by omega) j h2, if_pos (by omega), Bool.and_comm, show 8 * 16 + j - 128 = j by omega]
      congr 1
      by_cases h : j < d
      · rw [decide_eq_true h, decide_eq_true (by omega)]
      · rw [decide_eq_false h, decide_eq_false (by omega)]
    · rw [rb_hi _ _ h2, decide_eq_false (by omega), Bool.false_and]
theorem from_ok (s : ByteArray) (d : Nat) : (fromT s d).Ok := ⟨Nat.lt_of_le_of_lt Nat.and_le_left (fromR_ok s 16).1, Nat.lt_of_le_of_lt Nat.and_le_left (fromR_ok s 16).2⟩
def flipB (W : List UInt8) (q : Nat) : List UInt8 := W.set (q / 8) (W.getD (q / 8) 0 ^^^ UInt8.ofNat (2 ^ (7 - q % 8)))
theorem flipB_length (W : List UInt8) (q : Nat) : (flipB W q).length = W.length := List.length_set
theorem dbit_flip (W : List UInt8) (q p : Nat) (hq : q < 8 * W.length) : dbit (flipB W q) p = (dbit W p != decide (p = q)) := by
  unfold dbit flipB
  by_cases h : p / 8 = q / 8
  · rw [h, List.getD_eq_getElem?_getD, List.getElem?_set_self (by omega), Option.getD_some, UInt8.toNat_xor, UInt8.toNat_ofNat', Nat.mod_eq_of_lt (show 2 ^ (7 - q % 8) < 2 ^ 8 from Nat.pow_lt_pow_right (by omega) (by omega))]
    unfold bb
    rw [Nat.testBit_xor, Nat.testBit_two_pow]
    show _ = (_ != _)
    congr 1
    by_cases e : p = q
    · rw [decide_eq_true e, decide_eq_true (by omega)]
    · rw [decide_eq_false e, decide_eq_false (by omega)]
  · rw [decide_eq_false (fun e => h (by rw [e])), List.getD_eq_getElem?_getD, List.getElem?_set_ne (fun e => h e.symm), ← List.getD_eq_getElem?_getD]
    cases bb (W.getD (p / 8) 0).toNat (p % 8) <;> rfl
theorem wv_flip (K : Nat) (W : List UInt8) (N q : Nat) (hq : q < N) (hN : N ≤ 8 * W.length) : wv K (flipB W q) N = wv K W N + al (K * (N - 1 - q)) := by
  have e : wv K (flipB W q) N = wv K W N + sm (fun p => fx (decide (p = q)) (al (K * (N - 1 - p)))) N := by
    unfold wv
    rw [← sm_add]
    exact sm_congr fun p _ => by rw [dbit_flip W q p (by omega), fx_xor]
  rw [e, sm_only q hq fun i _ hne => by rw [decide_eq_false hne]; rfl, decide_eq_true rfl]
  rfl
def turns (N : Nat) (W : List UInt8) (ps : List Nat) : List UInt8 := ps.foldl (fun W p => flipB W (N - 1 - p)) W
theorem turns_length (N : Nat) (ps : List Nat) : ∀ W, (turns N W ps).length = W.length := by
  induction ps with
  | nil => intro W; rfl
  | cons p ps ih => intro W; exact (ih _).trans (flipB_length _ _)
theorem turns_snoc (N : Nat) (W : List UInt8) (ps : List Nat) (p : Nat) : turns N W (ps ++ [p]) = flipB (turns N W ps) (N - 1 - p) := by unfold turns; rw [List.foldl_append]; rfl
theorem bytes_ext {a b : List UInt8} (hl : a.length = b.length) (h : ∀ q, q < 8 * a.length → dbit a q = dbit b q) : a = b := by
  apply List.ext_getElem hl
  intro i h1 h2
  apply UInt8.toNat_inj.1
  apply Nat.eq_of_testBit_eq
  intro k
  by_cases hk : k < 8
  · have := h (8 * i + (7 - k)) (by omega)
    unfold dbit bb at this
    rw [show (8 * i + (7 - k)) / 8 = i by omega, show (8 * i + (7 - k)) % 8 = 7 - k by omega, show 7 - (7 - k) = k by omega, List.getD_eq_getElem?_getD, List.getD_eq_getElem?_getD, List.getElem?_eq_getElem h1, List.getElem?_eq_getElem h2] at this
    exact this
  · rw [Nat.testBit_lt_two_pow (Nat.lt_of_lt_of_le a[i].toNat_lt (Nat.pow_le_pow_right (show 0 < 2 by omega) (show 8 ≤ k by omega))), Nat.testBit_lt_two_pow (Nat.lt_of_lt_of_le b[i].toNat_lt (Nat.pow_le_pow_right (show 0 < 2 by omega) (show 8 ≤ k by omega)))]
theorem dbit_txt (x : Nat → Bool) (i q : Nat) (hi : ∀ j, i ≤ j → x j = false) : dbit (txt x i) q = x q := by
  unfold dbit bb
  by_cases h : q / 8 < (txt x i).length
  · rw [List.getD_eq_getElem?_getD, List.getElem?_eq_getElem h, Option.getD_some, txt_get, UInt8.toNat_ofNat', Nat.mod_eq_of_lt (by8_lt _ _ (by omega)), by8_bit _ _ (by omega)]
    rw [decide_eq_true (show 7 - q % 8 < 8 by omega), Bool.true_and, show 7 - (7 - q % 8) = q % 8 by omega, show 8 * (q / 8) + q % 8 = q by omega]
    by_cases h2 : q < i
    · rw [decide_eq_true (show q % 8 < min 8 (i - 8 * (q / 8)) by omega), Bool.true_and]
    · rw [hi q (by omega), Bool.and_false]
  · rw [txt_length] at h
    rw [List.getD_eq_getElem?_getD, List.getElem?_eq_none (by rw [txt_length]; omega), hi q (by omega)]
    exact Nat.zero_testBit _
def Good (t N : Nat) (r : Rm) (ps : List Nat) : Prop := ps.Pairwise (· < ·) ∧ (∀ p ∈ ps, p < N) ∧ ps.length ≤ t ∧ ∀ K, 1 ≤ K → K ≤ 2 * t → evR (13 * t) K r = lsum (ps.map al) (fun X => pow X K)
theorem wv_code (t : Nat) (h8 : t ≤ 8) (h1 : 1 ≤ t) (tl : List Int) (htl : ∀ k, k < tl.length → ∃ e : Nat, tl.getD k 0 = (e : Int) ∧ e < 13 * t) (hT : (tailR (13 * t) tl).Ok) {K : Nat} (hR : Root (13 * t) K (tailR (13 * t) tl)) (a : List UInt8) :
    wv K (a ++ textL (regs (tailR (13 * t) tl) a (8 * a.length)) ((13 * t + 7) / 8)) (8 * a.length + 13 * t) = 0 := by
  have hreg := regs_ok hT a (8 * a.length)
  have hhigh := fun j hj => regs_high (13 * t) (by omega) tl htl hT a (8 * a.length) j hj
  have e : (regs (tailR (13 * t) tl) a (8 * a.length)).plus (regs (tailR (13 * t) tl) a (8 * a.length)) = Rm.zero := Rm.ext' (Nat.xor_self _) (Nat.xor_self _)
  rw [← wv_rest (by omega) (by omega) htl hT hR a _ (regs (tailR (13 * t) tl) a (8 * a.length)) (fun j hj => by rw [textL_txt hreg (13 * t) hhigh, dbit_txt _ _ _ hhigh]), e, evR_zero]
theorem same_places {l l' : List F} {t : Nat} (hn : l.Nodup) (hn' : l'.Nodup) (hz : ∀ X ∈ l, X ≠ 0) (hz' : ∀ X ∈ l', X ≠ 0) (hl : l.length ≤ t) (hl' : l'.length ≤ t) (h : ∀ K, 1 ≤ K → K ≤ 2 * t → lsum l (fun X => pow X K) = lsum l' (fun X => pow X K)) : ∀ X, X ∈ l → X ∈ l' := by
  intro X hX
  by_cases hX' : X ∈ l'
  · exact hX'
  · exfalso
    let u := l ++ l'.filter fun Y => decide (Y ∉ l)
    let c : F → F := fun Y => fx (decide (Y ∈ l)) Y + fx (decide (Y ∈ l')) Y
    have hu : u.Nodup := List.nodup_append.2 ⟨hn, hn'.filter _, fun a ha b hb e => by
      have := (List.mem_filter.1 hb).2
      exact absurd (e ▸ ha) (of_decide_eq_true this)⟩
    have hsub : ∀ (v w : List F) (g : F → F), v.Nodup → w.Nodup → (∀ Y ∈ w, Y ∈ v) → lsum v (fun Y => fx (decide (Y ∈ w)) (g Y)) = lsum w g := by
      intro v
      induction v with
      | nil =>
        intro w g _ _ hw
        cases w with
        | nil => rfl
        | cons Y _ => exact absurd (hw Y List.mem_cons_self) (by simp)
      | cons Z v ih =>
        intro w g hv hw hs
        obtain ⟨hZ, hv2⟩ := List.nodup_cons.1 hv
        show fx (decide (Z ∈ w)) (g Z) + lsum v _ = lsum w g
        by_cases hZw : Z ∈ w
        · have e1 : lsum w g = g Z + lsum (w.erase Z) g := by
            clear ih hs
            induction w with
            | nil => cases hZw
            | cons Y w ihw =>
              by_cases e : Y = Z
              · subst e; rw [List.erase_cons_head]; rfl
              · rw [List.erase_cons_tail (by simpa using e)]
                show g Y + lsum w g = g Z + (g Y + _)
                rw [ihw (List.nodup_cons.1 hw).2 (by rcases List.mem_cons.1 hZw with h | h; exact absurd h.symm e; exact h), add_left_comm]
          have e2 := ih (w.erase Z) g hv2 (hw.erase Z) (fun Y hY => by
            have hYw := List.mem_of_mem_erase hY
            rcases List.mem_cons.1 (hs Y hYw) with h | h
            · subst h; exact absurd hY (fun h => (List.Nodup.mem_erase_iff hw).1 h |>.1 rfl)
            · exact h)
          rw [e1, decide_eq_true hZw, ← e2]
          show g Z + _ = g Z + _
          congr 1
          refine lsum_congr fun Y hY => ?_
          have hne : Y ≠ Z := fun e => hZ (e ▸ hY)
          by_cases hYw : Y ∈ w
          · rw [decide_eq_true hYw, decide_eq_true ((List.mem_erase_of_ne hne).2 hYw)]
          · rw [decide_eq_false hYw, decide_eq_false (fun h => hYw ((List.mem_erase_of_ne hne).1 h))]
        · rw [decide_eq_false hZw]
          show (0 : F) + _ = _
          rw [zero_add]
          exact ih w g hv2 hw fun Y hY => by
            rcases List.mem_cons.1 (hs Y hY) with h | h
            · exact absurd (h ▸ hY) hZw
            · exact h
    have hlu : ∀ Y ∈ l, Y ∈ u := fun Y hY => List.mem_append_left _ hY
    have hlu' : ∀ Y ∈ l', Y ∈ u := fun Y hY => by
      by_cases h : Y ∈ l
      · exact hlu Y h
      · exact List.mem_append_right _ (List.mem_filter.2 ⟨hY, decide_eq_true h⟩)
    have hlen : u.length ≤ 2 * t := by
      have := List.length_filter_le (fun Y => decide (Y ∉ l)) l'
      show (l ++ _).length ≤ _
      rw [List.length_append]
      omega
    have hc := vand (fun Y => Y) u c hu (fun _ _ _ _ h => h) (fun m hm => by
      have e1 := hsub u l (fun Y => pow Y (m + 1)) hu hn hlu
      have e2 := hsub u l' (fun Y => pow Y (m + 1)) hu hn' hlu'
      have e3 : lsum u (fun Y => c Y * pow Y m) = lsum u (fun Y => fx (decide (Y ∈ l)) (pow Y (m + 1))) + lsum u (fun Y => fx (decide (Y ∈ l')) (pow Y (m + 1))) := by
        rw [← lsum_add]
        refine lsum_congr fun Y _ => ?_
        show (fx _ Y + fx _ Y) * pow Y m = _
        rw [add_mul, mul_comm, fx_mul, mul_comm (fx _ Y), fx_mul]
        rfl
      rw [e3, e1, e2, h (m + 1) (by omega) (by omega), add_self]) X (hlu X hX)
    have : c X = X := by
      show fx (decide (X ∈ l)) X + fx (decide (X ∈ l')) X = X
      rw [decide_eq_true hX, decide_eq_false hX']
      exact add_zero X
    rw [this] at hc
    exact hz X hX hc
theorem al_map_nodup {ps : List Nat} (h : ps.Pairwise (· < ·)) (hN : ∀ p ∈ ps, p < 8191) : (ps.map al).Nodup := by
  rw [List.nodup_iff_pairwise_ne, List.pairwise_map]
  exact List.Pairwise.imp_of_mem (fun {a b} ha hb hab e => by have := al_inj (hN a ha) (hN b hb) e; omega) h
theorem al_map_ne {ps : List Nat} : ∀ X ∈ ps.map al, X ≠ 0 := fun X hX => by
  obtain ⟨p, _, rfl⟩ := List.mem_map.1 hX
  exact al_ne p
theorem al_map_mem {ps : List Nat} (hN : ∀ p ∈ ps, p < 8191) {q : Nat} (hq : q < 8191) : al q ∈ ps.map al ↔ q ∈ ps := by
  constructor
  · intro h
    obtain ⟨p, hp, e⟩ := List.mem_map.1 h
    rw [← al_inj (hN p hp) hq e]; exact hp
  · intro h; exact List.mem_map_of_mem h
theorem asc_ext : ∀ (a b : List Nat), a.Pairwise (· < ·) → b.Pairwise (· < ·) → (∀ x, x ∈ a ↔ x ∈ b) → a = b := by
  intro a
  induction a with
  | nil =>
    intro b _ _ h
    cases b with
    | nil => rfl
    | cons y _ => exact absurd ((h y).2 List.mem_cons_self) (by simp)
  | cons x a ih =>
    intro b ha hb h
    cases b with
    | nil => exact absurd ((h x).1 List.mem_cons_self) (by simp)
    | cons y b =>
      obtain ⟨hx, ha'⟩ := List.pairwise_cons.1 ha
      obtain ⟨hy, hb'⟩ := List.pairwise_cons.1 hb
      have e : x = y := by
        rcases List.mem_cons.1 ((h x).1 List.mem_cons_self) with e | h1
        · exact e
        · rcases List.mem_cons.1 ((h y).2 List.mem_cons_self) with e | h2
          · exact e.symm
          · have := hx y h2; have := hy x h1; omega
      subst e
      congr 1
      refine ih b ha' hb' fun z => ?_
      constructor
      · intro hz
        rcases List.mem_cons.1 ((h z).1 (List.mem_cons_of_mem _ hz)) with e | h1
        · have := hx z hz; omega
        · exact h1
      · intro hz
        rcases List.mem_cons.1 ((h z).2 (List.mem_cons_of_mem _ hz)) with e | h1
        · have := hy z hz; omega
        · exact h1
theorem good_unique {t N : Nat} {r : Rm} {ps ps' : List Nat} (hN : N ≤ 8191) (h : Good t N r ps) (h' : Good t N r ps') : ps = ps' := by
  obtain ⟨a1, a2, a3, a4⟩ := h
  obtain ⟨b1, b2, b3, b4⟩ := h'
  have ha : ∀ p ∈ ps, p < 8191 := fun p hp => by have := a2 p hp; omega
  have hb : ∀ p ∈ ps', p < 8191 := fun p hp => by have := b2 p hp; omega
  have e : ∀ K, 1 ≤ K → K ≤ 2 * t → lsum (ps.map al) (fun X => pow X K) = lsum (ps'.map al) (fun X => pow X K) := fun K k1 k2 => (a4 K k1 k2).symm.trans (b4 K k1 k2)
  refine asc_ext ps ps' a1 b1 fun x => ?_
  constructor
  · intro hx
    exact (al_map_mem hb (ha x hx)).1 (same_places (al_map_nodup a1 ha) (al_map_nodup b1 hb) al_map_ne al_map_ne (by rw [List.length_map]; exact a3) (by rw [List.length_map]; exact b3) e _ ((al_map_mem ha (ha x hx)).2 hx))
  · intro hx
    exact (al_map_mem ha (hb x hx)).1 (same_places (al_map_nodup b1 hb) (al_map_nodup a1 ha) al_map_ne al_map_ne (by rw [List.length_map]; exact b3) (by rw [List.length_map]; exact a3) (fun K k1 k2 => (e K k1 k2).symm) _ ((al_map_mem hb (hb x hx)).2 hx))
end Go.Proofs.YtoledgpcgjdjjaaGreatDoor

/- Plain: what the search for roots finds is what tells the rest; lists of numbers of the field. -/
namespace Go.Proofs.YtoledgpcgjdjjaaGreatDoor
open F
open Go.RowKit Pm
set_option linter.unusedVariables false
def il (N : Nat) (g : Nat → F) : List Int := (List.range N).map fun i => ((g i).1 : Int)
theorem il_length (N : Nat) (g : Nat → F) : (il N g).length = N := by simp [il]
theorem il_getD (N : Nat) (g : Nat → F) (i : Nat) (h : i < N) : (il N g).getD i 0 = ((g i).1 : Int) := by simp [il, List.getD_eq_getElem?_getD, h]
theorem il_congr {N : Nat} {f g : Nat → F} (h : ∀ p, p < N → f p = g p) : il N f = il N g := List.map_congr_left fun p hp => by rw [h p (List.mem_range.1 hp)]
theorem il_set (N : Nat) (g : Nat → F) (q : Nat) (x : F) : (il N g).set q (x.1 : Int) = il N fun i => if i = q then x else g i := by
  apply List.ext_getElem
  · rw [List.length_set, il_length, il_length]
  · intro p h1 h2
    rw [List.getElem_set]
    simp only [il, List.getElem_map, List.getElem_range]
    split
    · rename_i e; rw [if_pos e.symm]
    · rename_i e; rw [if_neg (fun h => e h.symm)]
theorem il_take (N k : Nat) (g : Nat → F) (h : k ≤ N) : (il N g).take k = il k g := by
  unfold il
  rw [← List.map_take, List.take_range, Nat.min_eq_left h]
def gp (C S : Nat → F) (n i : Nat) : F := sm (fun i => C i * S (n - i)) i
theorem gp_all (C S : Nat → F) (n N : Nat) (h : ∀ i, N ≤ i → C i = 0) : gp C S n (min N (n + 1)) = cv C S n := by
  unfold gp cv
  exact (sm_more (by omega) fun i h1 h2 => by rw [h i (by omega), zero_mul]).symm
def mendQ (C B : Nat → F) (f : F) (m j i : Nat) : F := C i + (if m ≤ i ∧ i < m + j then f * B (i - m) else 0)
theorem mendQ_zero (C B : Nat → F) (f : F) (m : Nat) : mendQ C B f m 0 = C := by
  funext i; unfold mendQ; rw [if_neg (by omega), add_zero]
theorem mendQ_succ (C B : Nat → F) (f : F) (m j : Nat) : mendQ C B f m (j + 1) = fun i => if i = j + m then mendQ C B f m j (j + m) + f * B j else mendQ C B f m j i := by
  funext i
  unfold mendQ
  split
  · rename_i e
    split
    · rename_i e2
      subst e2
      rw [if_neg (by omega), add_zero, show j + m - m = j by omega]
    · rename_i e2
      rw [if_pos (by omega)]
  · rename_i e
    split
    · omega
    · rename_i e2; rw [if_neg (by omega)]
theorem mendQ_all (C B : Nat → F) (f : F) (m N : Nat) (h : ∀ i, N ≤ i → B i = 0) : mendQ C B f m N = mend C B f m := by
  funext i
  unfold mendQ mend upBy
  congr 1
  by_cases h1 : m ≤ i
  · rw [if_pos h1]
    by_cases h2 : i < m + N
    · rw [if_pos ⟨h1, h2⟩]
    · rw [if_neg (by omega), h (i - m) (by omega), mul_zero]
  · rw [if_neg h1, if_neg (by omega), mul_zero]
theorem mend_far (C B : Nat → F) (f : F) (m N M : Nat) (h : ∀ i, N ≤ i → C i = 0) (h' : ∀ i, M ≤ i → B i = 0) : ∀ i, max N (M + m) ≤ i → mend C B f m i = 0 := fun i hi => by
  unfold mend upBy
  rw [h i (by omega), zero_add]
  split
  · rw [h' _ (by omega), mul_zero]
  · exact mul_zero _
def alI (a : Int) : F := al (trn a)
theorem alI_nat (n : Nat) : alI (n : Int) = al n := by
  have e : trn (n : Int) = n % 8191 := by unfold trn; omega
  unfold alI
  rw [e, al_mod]
theorem alI_add (a b : Int) : alI (a + b) = alI a * alI b := by
  have e : trn (a + b) = (trn a + trn b) % 8191 := by unfold trn; omega
  unfold alI
  rw [← al_add, e, al_mod]
def lgI (x : F) : Int := if x = 0 then -1 else (Gfm.lg x.1 : Int)
theorem al_of_eq (n : Nat) (x : F) (h : Gfm.pw n = x.1) : al n = x := F.ext h
theorem val_pos {x : F} (h : x ≠ 0) : 0 < x.1 := by
  rcases Nat.eq_zero_or_pos x.1 with h0 | h0
  · exact absurd (F.ext h0) h
  · exact h0
theorem lg_al {x : F} (h : x ≠ 0) : al (Gfm.lg x.1) = x := al_of_eq _ x (Gfm.pw_lg x.1 (val_pos h) x.2)
theorem lg_of_al {m : Nat} (h : m < 8191) : Gfm.lg (al m).1 = m := al_inj (Gfm.lg_lt _) h (lg_al (al_ne m))
def rtq (C : Nat → F) (p m : Nat) : F := sm (fun i => C i * alI (-((i : Int) * (p : Int)))) m
theorem rtq_zero (C : Nat → F) (p L : Nat) : rtq C p (L + 1) = 0 ↔ cv C (pow (al p)) L = 0 := by
  have e : al (p * L) * rtq C p (L + 1) = cv C (pow (al p)) L := by
    unfold rtq cv
    rw [← sm_mul]
    refine sm_congr fun i hi => ?_
    rw [pow_al, show al (p * L) * (C i * alI (-((i : Int) * (p : Int)))) = C i * (al (p * L) * alI (-((i : Int) * (p : Int)))) by ac_rfl, ← alI_nat (p * L), ← alI_add, ← alI_nat (p * (L - i))]
    congr 2
    obtain ⟨q, rfl⟩ : ∃ q, L = i + q := ⟨L - i, by omega⟩
    rw [Nat.add_sub_cancel_left]
    rw [Nat.mul_add, Int.natCast_add, Int.natCast_mul, Int.natCast_mul, Int.mul_comm (i : Int)]
    omega
  rw [← e]
  constructor
  · intro h; rw [h, mul_zero]
  · intro h
    rcases mul_eq_zero h with h | h
    · exact absurd h (al_ne _)
    · exact h
theorem lamQ_snoc (Y : F) (l : List F) : lamQ (mulX unit Y) l = lam (l ++ [Y]) := by
  induction l with
  | nil => rfl
  | cons X r ih => show mulX (lamQ _ r) X = mulX (lam (r ++ [Y])) X; rw [ih]
theorem lsum_append (a b : List F) (g : F → F) : lsum (a ++ b) g = lsum a g + lsum b g := by
  induction a with
  | nil => exact (zero_add _).symm
  | cons X r ih => show g X + lsum (r ++ b) g = (g X + lsum r g) + _; rw [ih, add_assoc]
theorem asc_split (k : Nat) : ∀ a : List Nat, a.Pairwise (· < ·) → a = a.filter (fun x => decide (x < k)) ++ a.filter (fun x => decide (k ≤ x)) := by
  intro a
  induction a with
  | nil => intro _; rfl
  | cons x a ih =>
    intro h
    obtain ⟨hx, ha⟩ := List.pairwise_cons.1 h
    by_cases e : x < k
    · rw [List.filter_cons_of_pos (by simpa using e), List.filter_cons_of_neg (by simpa using e), List.cons_append, ← ih ha]
    · have : ∀ y ∈ a, ¬ y < k := fun y hy => by have := hx y hy; omega
      rw [List.filter_cons_of_neg (by simpa using e), List.filter_cons_of_pos (by simp; omega), List.filter_eq_nil_iff.2 (fun y hy => by simpa using this y hy), List.nil_append, List.filter_eq_self.2 (fun y hy => by have := this y hy; simp; omega)]
noncomputable def rts (C : Nat → F) (L place : Nat) : List Nat := (List.range place).filter fun p => decide (cv C (pow (al p)) L = 0)
theorem rts_asc (C : Nat → F) (L place : Nat) : (rts C L place).Pairwise (· < ·) := List.Pairwise.filter _ (List.pairwise_lt_range)
theorem rts_mem {C : Nat → F} {L place p : Nat} : p ∈ rts C L place ↔ p < place ∧ cv C (pow (al p)) L = 0 := by
  unfold rts
  rw [List.mem_filter, List.mem_range]
  exact ⟨fun h => ⟨h.1, of_decide_eq_true h.2⟩, fun h => ⟨h.1, decide_eq_true h.2⟩⟩
theorem rts_succ (C : Nat → F) (L place : Nat) : rts C L (place + 1) = if cv C (pow (al place)) L = 0 then rts C L place ++ [place] else rts C L place := by
  unfold rts
  rw [List.range_succ, List.filter_append]
  split
  · rename_i h
    congr 1
    rw [List.filter_cons_of_pos (by simpa using h)]; rfl
  · rename_i h
    rw [List.filter_cons_of_neg (by simpa using h)]; exact List.append_nil _
structure Rule (t : Nat) (r : Rm) (C : Nat → F) (L : Nat) : Prop where
  gen : Gen C L (fun j => evR (13 * t) (j + 1) r) (2 * t)
  least : ∀ C' L', Gen C' L' (fun j => evR (13 * t) (j + 1) r) (2 * t) → L ≤ L'
theorem good_rule {t N : Nat} {r : Rm} {C : Nat → F} {L : Nat} (hN : N ≤ 8191) (h : Rule t r C L) {ps : List Nat} (hg : Good t N r ps) : ps.length = L ∧ C = lam (ps.map al) := by
  obtain ⟨a1, a2, a3, a4⟩ := hg
  have ha : ∀ p ∈ ps, p < 8191 := fun p hp => by have := a2 p hp; omega
  have := complete (al_map_nodup a1 ha) al_map_ne (by rw [List.length_map]; exact a3) (fun j hj => a4 (j + 1) (by omega) (by omega)) h.gen h.least
  rw [List.length_map] at this
  exact this
theorem good_none {t N : Nat} {r : Rm} {C : Nat → F} {L : Nat} (hN : N ≤ 8191) (h : Rule t r C L) (hbad : t < L ∨ C L = 0) (ps : List Nat) : ¬ Good t N r ps := fun hg => by
  obtain ⟨e1, e2⟩ := good_rule hN h hg
  rcases hbad with hb | hb
  · have := hg.2.2.1; omega
  · rw [e2, ← e1] at hb
    have := lam_top (l := ps.map al) al_map_ne
    rw [List.length_map] at this
    exact this hb
theorem good_few {t N : Nat} {r : Rm} {C : Nat → F} {L : Nat} (hN : N ≤ 8191) (h : Rule t r C L) (hf : (rts C L N).length < L - 1) (ps : List Nat) : ¬ Good t N r ps := fun hg => by
  obtain ⟨e1, e2⟩ := good_rule hN h hg
  have ha : ∀ p ∈ ps, p < 8191 := fun p hp => by have := hg.2.1 p hp; omega
  have : ps = rts C L N := asc_ext _ _ hg.1 (rts_asc C L N) fun x => by
    rw [rts_mem, e2]
    constructor
    · intro hx
      refine ⟨hg.2.1 x hx, ?_⟩
      rw [← e1, ← List.length_map (f := al), lam_value]
      exact List.mem_map_of_mem hx
    · rintro ⟨h1, h2⟩
      rw [← e1, ← List.length_map (f := al), lam_value] at h2
      exact (al_map_mem ha (by omega)).1 h2
  rw [← this] at hf
  omega
theorem last_of {t : Nat} {r : Rm} {C : Nat → F} {L place : Nat} (h : Rule t r C L) (hp : place ≤ 8191) (hL : 1 ≤ L) (hlen : (rts C L place).length = L - 1) :
    C = lam ((rts C L place).map al ++ [C 1 + lsum ((rts C L place).map al) (fun X => X)]) := by
  have ha : ∀ p ∈ rts C L place, p < 8191 := fun p hp' => by have := (rts_mem.1 hp').1; omega
  obtain ⟨h1, Q, q1, q2, q3⟩ := factor ((rts C L place).map al) C L (al_map_nodup (rts_asc C L place) ha) h.gen.1 h.gen.2.1 (fun X hX => by
    obtain ⟨p, hp', rfl⟩ := List.mem_map.1 hX
    exact (rts_mem.1 hp').2)
  rw [List.length_map, hlen] at q2
  generalize (rts C L place).map al = l at *
  have hC1 := lamQ_one Q q1 l
  rw [← q3] at hC1
  have hQ : Q = mulX unit (C 1 + lsum l fun X => X) := by
    funext i
    match i with
    | 0 => rw [q1, mulX_zero]; rfl
    | 1 => rw [mulX_succ, hC1]; show _ = (0 : F) + (lsum l _ + Q 1 + lsum l _) * 1; rw [zero_add, mul_one, add_comm (lsum l _), add_assoc, add_self, add_zero]
    | i + 2 => rw [q2 (i + 2) (by omega), mulX_succ, unit_deg _ (by omega), unit_deg _ (by omega), mul_zero, add_zero]
  rw [← lamQ_snoc, ← hQ]
  exact q3
theorem good_last {t N : Nat} {r : Rm} {C : Nat → F} {L place : Nat} (ht : 1 ≤ t) (hN : N ≤ 8191) (hp : place ≤ N) (h : Rule t r C L) (hL : 1 ≤ L) (hLt : L ≤ t) (hCL : C L ≠ 0) (hlen : (rts C L place).length = L - 1) :
    C 1 + lsum ((rts C L place).map al) (fun X => X) ≠ 0 ∧
    ∀ q, q = Gfm.lg (C 1 + lsum ((rts C L place).map al) (fun X => X)).1 → ∀ ps, Good t N r ps ↔ (q < N ∧ (∀ p ∈ rts C L place, p < q)) ∧ ps = rts C L place ++ [q] := by
  have ha : ∀ p ∈ rts C L place, p < 8191 := fun p hp' => by have := (rts_mem.1 hp').1; omega
  have hC := last_of h (by omega) hL hlen
  have hasc := rts_asc C L place
  have hmem : ∀ p, p ∈ rts C L place ↔ p < place ∧ cv C (pow (al p)) L = 0 := fun p => rts_mem
  generalize rts C L place = rs at *
  generalize hY : C 1 + lsum (rs.map al) (fun X => X) = Y at *
  have hY0 : Y ≠ 0 := fun e => by
    apply hCL
    rw [hC, e]
    have : ∀ l : List F, lam (l ++ [0]) = lam l := fun l => by
      rw [← lamQ_snoc]
      have e0 : mulX unit 0 = unit := by funext i; unfold mulX; rw [zero_mul, add_zero]
      rw [e0]; rfl
    rw [this]
    exact lam_deg _ _ (by rw [List.length_map]; omega)
  refine ⟨hY0, fun q hq ps => ⟨fun hg => ?_, ?_⟩⟩
  · obtain ⟨e1, e2⟩ := good_rule hN h hg
    have hps : ∀ p ∈ ps, p < 8191 := fun p hp => by have := hg.2.1 p hp; omega
    have hroot : ∀ x, x < 8191 → (x ∈ ps ↔ cv C (pow (al x)) L = 0) := fun x hx => by
      rw [e2, ← e1, ← List.length_map (f := al), lam_value, al_map_mem hps hx]
    have hsp := asc_split place ps hg.1
    have hlow : ps.filter (fun x => decide (x < place)) = rs := asc_ext _ _ (List.Pairwise.filter _ hg.1) hasc fun x => by
      rw [List.mem_filter, hmem]
      constructor
      · rintro ⟨h1, h2⟩
        exact ⟨of_decide_eq_true h2, (hroot x (hps x h1)).1 h1⟩
      · rintro ⟨h1, h2⟩
        exact ⟨(hroot x (by omega)).2 h2, decide_eq_true h1⟩
    rw [hlow] at hsp
    obtain ⟨x, hx⟩ : ∃ x, ps.filter (fun x => decide (place ≤ x)) = [x] := by
      have : (ps.filter (fun x => decide (place ≤ x))).length = 1 := by
        have := congrArg List.length hsp
        rw [List.length_append, e1, hlen] at this
        omega
      exact List.length_eq_one_iff.1 this
    have hxm : x ∈ ps ∧ place ≤ x := by
      have := List.mem_filter.1 (show x ∈ ps.filter (fun x => decide (place ≤ x)) by rw [hx]; exact List.mem_singleton.2 rfl)
      exact ⟨this.1, of_decide_eq_true this.2⟩
    rw [hx] at hsp
    have hxq : x = q := by
      have e3 : C 1 = lsum (ps.map al) (fun X => X) := by
        rw [e2]
        show lamQ unit _ 1 = _
        rw [lamQ_one unit rfl]
        exact add_zero _
      have : Y = al x := by
        rw [← hY, e3, hsp, List.map_append, lsum_append]
        show lsum (rs.map al) _ + (al x + 0) + lsum (rs.map al) _ = _
        rw [add_zero, add_comm (lsum (rs.map al) _), add_assoc, add_self, add_zero]
      rw [hq, this, lg_of_al (hps x hxm.1)]
    subst hxq
    exact ⟨⟨hg.2.1 x hxm.1, fun p hp => by have := ((hmem p).1 hp).1; omega⟩, hsp⟩
  · rintro ⟨⟨h1, h2⟩, rfl⟩
    have hYq : al q = Y := by rw [hq]; exact lg_al hY0
    have hasc2 : (rs ++ [q]).Pairwise (· < ·) := List.pairwise_append.2 ⟨hasc, List.pairwise_singleton _ _, fun a ha b hb => by rw [List.mem_singleton.1 hb]; exact h2 a ha⟩
    have hlt : ∀ p ∈ rs ++ [q], p < N := fun p hp => by
      rcases List.mem_append.1 hp with h3 | h3
      · have := ((hmem p).1 h3).1; omega
      · rw [List.mem_singleton.1 h3]; exact h1
    have hl2 : (rs ++ [q]).length = L := by rw [List.length_append, hlen]; show L - 1 + 1 = L; omega
    have hC2 : C = lam ((rs ++ [q]).map al) := by rw [List.map_append]; show C = lam (rs.map al ++ [al q]); rw [hYq]; exact hC
    refine ⟨hasc2, hlt, by rw [hl2]; exact hLt, fun K k1 k2 => ?_⟩
    have hs := sound (l := (rs ++ [q]).map al) (S := fun j => evR (13 * t) (j + 1) r) (t := t) (al_map_nodup hasc2 fun p hp => by have := hlt p hp; omega) al_map_ne (by rw [List.length_map, hl2]; exact hLt)
      (fun j _ => by show evR (13 * t) (2 * j + 1 + 1) r = _; rw [show 2 * j + 1 + 1 = 2 * (j + 1) by omega, evR_two])
      (by rw [List.length_map, hl2, ← hC2]; exact h.gen) (by rw [List.length_map, hl2]; exact h.least) (K - 1) (by omega)
    have e4 : K - 1 + 1 = K := by omega
    simp only [e4] at hs
    rw [hs]
    exact lsum_congr fun X _ => by show pow X (K - 1 + 1) = _; rw [e4]
theorem good_zero (t N : Nat) (ht : 1 ≤ t) (hN : N ≤ 8191) (ps : List Nat) : Good t N Rm.zero ps ↔ ps = [] := by
  have h0 : Good t N Rm.zero [] := ⟨List.Pairwise.nil, fun p hp => (by cases hp), Nat.zero_le _, fun K _ _ => evR_zero _ _⟩
  exact ⟨fun h => good_unique hN h h0, fun h => h ▸ h0⟩
theorem rule_pos {t : Nat} (h1 : 1 ≤ t) (h8 : t ≤ 8) {r : Rm} (hr : r.Ok) (hz : ∀ j, 13 * t ≤ j → rb r j = false) {C : Nat → F} {L : Nat} (h : Rule t r C L) (hne : r ≠ Rm.zero) : 1 ≤ L := by
  by_cases h0 : L = 0
  · exfalso
    apply hne
    subst h0
    refine rest_zero t h1 h8 r hr hz fun K k1 k2 => ?_
    have := h.gen.2.2 (K - 1) (by omega) (by omega)
    have e : C = unit := by
      funext i
      unfold unit
      split
      · rename_i e; rw [e, h.gen.1]
      · exact h.gen.2.1 i (by omega)
    rw [e, cv_unit] at this
    have e4 : K - 1 + 1 = K := by omega
    simp only [e4] at this
    exact this
  · omega
end Go.Proofs.YtoledgpcgjdjjaaGreatDoor
