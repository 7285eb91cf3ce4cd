import Derived.Test.YtjcmfaadoealgaaGreatDoorQGIc
import Derived.Test.YtjcmfaadoealgaaGreatDoorQGIg
/- Encode. -/
namespace Go.Proofs.YtjcmfaadoealgaaGreatDoor
open Go.RowKit Pm Gfm
attribute [local irreducible] Pm.exps pmul mp GG mpol tl tabA byteStep tailR stepsV stepS remOf textL

/-- the parity of a chunk -/
def parT (t : Nat) (l : List UInt8) : List UInt8 := textL (remOf (stepS t) l) ((13 * t + 7) / 8)
set_option maxRecDepth 100000 in
set_option maxHeartbeats 1600000 in
theorem encode_any (c t k : Nat) (s : ByteArray) (w : World) (h : CodeP w c t (k : Int)) (ht1 : 1 ≤ t) (ht8 : t ≤ 8) (hs : s.size ≤ maxLen) (hk : s.size = k) :
    Calls Tryz.prog 88 #[.pointer (some ⟨c, 0, none⟩), .string s] w fun e w' => e = .returned (.tuple #[.string ⟨(parT t s.data.toList).toArray⟩, .int .i64 0]) ∧ Made w' c t (k : Int) ∧ Upd (oneBlock c) w w' ∧ (Made w c t (k : Int) → Upd noBlock w w') := by
  have HR := Lib.hid (ready_any c t k w h ht1 ht8)
  have HREM := Lib.hid (fun W (hW : Made W c t (k : Int)) => remainderOf_any c t k s W hW ht1 ht8 hs)
  have HPAR := Lib.hid (fun W (hW : Made W c t (k : Int)) => parity_any c t k W hW.code ht1 ht8)
  have HTXT := Lib.hid (fun W => text_any (remOf (stepS t) s.data.toList) ((13 * t + 7) / 8) W (remOf_ok t _ ht1 ht8) (by omega))
  obtain ⟨d, hd⟩ : ∃ d, parT t s.data.toList = d := ⟨_, rfl⟩
  have hd' : textL (remOf (stepS t) s.data.toList) ((13 * t + 7) / 8) = d := hd
  rw [hd]
  rw [hd'] at HTXT
  generalize remOf (stepS t) s.data.toList = r at *
  generalize (13 * t + 7) / 8 = n at *
  have hne : ((s.size : Int) == (k : Int)) = true := beq_iff_eq.2 (by omega)
  have hne2 : ((s.size : Int) != (k : Int)) = false := by simp [hk]
  clear h hd hd'
  unfold maxLen at hs
  unfold Rm.agg at HREM HTXT
  subst hk
  go_enter Tryz.func88, Tryz.ntmps88
  go_wp2_with (first
    | (go_at_call 81; refine HR.out.mono ?_; rintro e w1 ⟨rfl, hm1, hu1, hn1⟩; have HM1 := Lib.hid hm1; have HU1 := Lib.hid hu1; have HN1 := Lib.hid hn1; have kk := HM1.out.k; clear hm1 hu1 hn1)
    | (go_at_call 121; refine (HREM.out _ HM1.out).mono ?_; rintro e w2 ⟨rfl, u2⟩; have HM2 := Lib.hid (HM1.out.keep u2); have HU2 := Lib.hid u2; clear u2)
    | (go_at_call 46; refine (HPAR.out _ HM2.out).mono ?_; rintro e w3 ⟨rfl, hm3, hu3, hn3⟩; have HM3 := Lib.hid hm3; have HU3 := Lib.hid (hn3 HM2.out); clear hm3 hu3 hn3)
    | (go_at_call 122; refine (HTXT.out _).mono ?_; rintro e w4 ⟨rfl, u4⟩; have HM4 := Lib.hid (HM3.out.keep u4); have HU4 := Lib.hid ((HU2.out.trans HU3.out).trans u4); clear u4))
  go_ret2
  exact ⟨rfl, HM4.out, HU1.out.trans HU4.out.one, fun h => (HN1.out h).trans HU4.out⟩

end Go.Proofs.YtjcmfaadoealgaaGreatDoor

/- Plain: all that Encode does is linear. -/
namespace Go.Proofs.YtjcmfaadoealgaaGreatDoor
open Go.RowKit

theorem Rm.ext' {a b : Rm} (h : a.h = b.h) (l : a.l = b.l) : a = b := by cases a; cases b; cases h; cases l; rfl
theorem bit_up (x m i : Nat) : (x * 2 ^ m % 18446744073709551616).testBit i = (decide (i < 64) && (decide (m ≤ i) && x.testBit (i - m))) := by
  rw [← two64, Nat.testBit_mod_two_pow, ← Nat.shiftLeft_eq, Nat.testBit_shiftLeft]
theorem bit_down (x k i : Nat) : (x / 2 ^ k).testBit i = x.testBit (k + i) := by rw [Nat.testBit_div_two_pow, Nat.add_comm]
theorem lin_hi (a b c d m k : Nat) (hc : c < 2 ^ (k + m)) (hd : d < 2 ^ (k + m)) :
    ((a ^^^ b) * 2 ^ m % 18446744073709551616 ||| (c ^^^ d) / 2 ^ k) = (a * 2 ^ m % 18446744073709551616 ||| c / 2 ^ k) ^^^ (b * 2 ^ m % 18446744073709551616 ||| d / 2 ^ k) := by
  apply Nat.eq_of_testBit_eq
  intro i
  rw [Nat.testBit_or, Nat.testBit_xor, Nat.testBit_or, Nat.testBit_or, bit_up, bit_up, bit_up, bit_down, bit_down, bit_down, Nat.testBit_xor, Nat.testBit_xor]
  by_cases h : m ≤ i
  · have e1 : c.testBit (k + i) = false := Nat.testBit_lt_two_pow (Nat.lt_of_lt_of_le hc (Nat.pow_le_pow_right (by omega) (by omega)))
    have e2 : d.testBit (k + i) = false := Nat.testBit_lt_two_pow (Nat.lt_of_lt_of_le hd (Nat.pow_le_pow_right (by omega) (by omega)))
    rw [e1, e2]
    cases decide (i < 64) <;> cases decide (m ≤ i) <;> cases a.testBit (i - m) <;> cases b.testBit (i - m) <;> rfl
  · rw [decide_eq_false h]
    cases decide (i < 64) <;> cases c.testBit (k + i) <;> cases d.testBit (k + i) <;> rfl
theorem lin_lo (a b m : Nat) : (a ^^^ b) * 2 ^ m % 18446744073709551616 = (a * 2 ^ m % 18446744073709551616) ^^^ (b * 2 ^ m % 18446744073709551616) := by
  apply Nat.eq_of_testBit_eq
  intro i
  rw [Nat.testBit_xor, bit_up, bit_up, bit_up, Nat.testBit_xor]
  cases decide (i < 64) <;> cases decide (m ≤ i) <;> cases a.testBit (i - m) <;> cases b.testBit (i - m) <;> rfl
theorem lin_div (a b k : Nat) : (a ^^^ b) / 2 ^ k = a / 2 ^ k ^^^ b / 2 ^ k := by
  apply Nat.eq_of_testBit_eq
  intro i
  rw [Nat.testBit_xor, bit_down, bit_down, bit_down, Nat.testBit_xor]
theorem lin_mul (a b m : Nat) : (a ^^^ b) * 2 ^ m = a * 2 ^ m ^^^ b * 2 ^ m := by
  apply Nat.eq_of_testBit_eq
  intro i
  rw [Nat.testBit_xor, ← Nat.shiftLeft_eq, ← Nat.shiftLeft_eq, ← Nat.shiftLeft_eq, Nat.testBit_shiftLeft, Nat.testBit_shiftLeft, Nat.testBit_shiftLeft, Nat.testBit_xor]
  cases decide (i ≥ m) <;> cases a.testBit (i - m) <;> cases b.testBit (i - m) <;> rfl
theorem sh8_lin {a b : Rm} (ha : a.Ok) (hb : b.Ok) : (a.plus b).sh8 = a.sh8.plus b.sh8 :=
  Rm.ext' (lin_hi a.h b.h a.l b.l 8 56 (by rw [two64]; exact ha.2) (by rw [two64]; exact hb.2)) (lin_lo a.l b.l 8)
theorem sh1_lin {a b : Rm} (ha : a.Ok) (hb : b.Ok) : (a.plus b).sh1 = a.sh1.plus b.sh1 :=
  Rm.ext' (lin_hi a.h b.h a.l b.l 1 63 (by rw [two64]; exact ha.2) (by rw [two64]; exact hb.2)) (lin_lo a.l b.l 1)
theorem first_lin (a b : Rm) : (a.plus b).first = a.first ^^^ b.first := lin_div a.h b.h 56
theorem plus_self (a : Rm) : a.plus a = Rm.zero := Rm.ext' (Nat.xor_self _) (Nat.xor_self _)
theorem plus_zero (a : Rm) : a.plus Rm.zero = a := Rm.ext' (Nat.xor_zero _) (Nat.xor_zero _)
theorem plus_comm (a b : Rm) : a.plus b = b.plus a := Rm.ext' (Nat.xor_comm _ _) (Nat.xor_comm _ _)
theorem plus_assoc (a b c : Rm) : (a.plus b).plus c = a.plus (b.plus c) := Rm.ext' (Nat.xor_assoc _ _ _) (Nat.xor_assoc _ _ _)
theorem plus_swap (a b c d : Rm) : (a.plus b).plus (c.plus d) = (a.plus c).plus (b.plus d) := by
  rw [plus_assoc, plus_assoc, ← plus_assoc b, plus_comm b c, plus_assoc c]
theorem top_lin (a b : Rm) : (a.plus b).h / 9223372036854775808 = (a.h / 9223372036854775808) ^^^ (b.h / 9223372036854775808) := lin_div a.h b.h 63
theorem stp_lin {T a b : Rm} (ha : a.Ok) (hb : b.Ok) : stp T (a.plus b) = (stp T a).plus (stp T b) := by
  unfold stp
  rw [top_lin a b, sh1_lin ha hb]
  have h1 : a.h / 9223372036854775808 = 0 ∨ a.h / 9223372036854775808 = 1 := by have := ha.1; omega
  have h2 : b.h / 9223372036854775808 = 0 ∨ b.h / 9223372036854775808 = 1 := by have := hb.1; omega
  rcases h1 with h1 | h1 <;> rcases h2 with h2 | h2 <;> rw [h1, h2]
  · rfl
  · show (a.sh1.plus b.sh1).plus T = a.sh1.plus (b.sh1.plus T)
    exact plus_assoc _ _ _
  · show (a.sh1.plus b.sh1).plus T = (a.sh1.plus T).plus b.sh1
    rw [plus_assoc, plus_comm b.sh1, ← plus_assoc]
  · show a.sh1.plus b.sh1 = (a.sh1.plus T).plus (b.sh1.plus T)
    rw [plus_swap a.sh1 T b.sh1 T, plus_self, plus_zero]
theorem stps_lin {T a b : Rm} (hT : T.Ok) (ha : a.Ok) (hb : b.Ok) (j : Nat) : stps T (a.plus b) j = (stps T a j).plus (stps T b j) := by
  induction j with
  | zero => rfl
  | succ j ih =>
    show stp T (stps T (a.plus b) j) = _
    rw [ih, stp_lin (stps_ok hT ha j) (stps_ok hT hb j)]
    rfl
theorem byteStep_lin {T : Rm} (hT : T.Ok) (x y : Nat) (hx : x < 256) (hy : y < 256) : byteStep T (x ^^^ y) = (byteStep T x).plus (byteStep T y) := by
  unfold byteStep
  rw [← stps_lin hT (start_ok x hx) (start_ok y hy)]
  congr 1
  exact Rm.ext' (lin_mul x y 56) (Nat.xor_self 0).symm
/-- what Encode leaves of a xor -/
theorem fold_lin (S : Nat → Rm) (hS : ∀ x y, x < 256 → y < 256 → S (x ^^^ y) = (S x).plus (S y)) (hok : ∀ x, x < 256 → (S x).Ok) (l m : List UInt8) (hl : l.length = m.length) (a b : Rm) (ha : a.Ok) (hb : b.Ok) :
    (List.zipWith (· ^^^ ·) l m).foldl (remStep S) (a.plus b) = (l.foldl (remStep S) a).plus (m.foldl (remStep S) b) := by
  induction l generalizing m a b with
  | nil => cases m with | nil => rfl | cons _ _ => cases hl
  | cons x l ih =>
    cases m with
    | nil => cases hl
    | cons y m =>
      have e : remStep S (a.plus b) (x ^^^ y) = (remStep S a x).plus (remStep S b y) := by
        unfold remStep
        have hx := x.toNat_lt
        have hy := y.toNat_lt
        have ex : a.first ^^^ x.toNat < 256 := Nat.xor_lt_two_pow (n := 8) ha.first hx
        have ey : b.first ^^^ y.toNat < 256 := Nat.xor_lt_two_pow (n := 8) hb.first hy
        rw [sh8_lin ha hb, first_lin, UInt8.toNat_xor, plus_swap, ← hS _ _ ex ey]
        congr 2
        rw [Nat.xor_assoc, ← Nat.xor_assoc b.first, Nat.xor_comm b.first x.toNat, Nat.xor_assoc, Nat.xor_assoc]
      show (List.zipWith (· ^^^ ·) l m).foldl (remStep S) (remStep S (a.plus b) (x ^^^ y)) = _
      rw [e]
      exact ih m (by simpa using hl) _ _ (Rm.Ok.plus ha.sh8 (hok _ (Nat.xor_lt_two_pow (n := 8) ha.first x.toNat_lt))) (Rm.Ok.plus hb.sh8 (hok _ (Nat.xor_lt_two_pow (n := 8) hb.first y.toNat_lt)))
theorem stepS_lin (t : Nat) (h8 : t ≤ 8) (x y : Nat) (hx : x < 256) (hy : y < 256) : stepS t (x ^^^ y) = (stepS t x).plus (stepS t y) := byteStep_lin (tailR_ok _ _ (by omega)) x y hx hy
theorem remOf_lin (t : Nat) (h1 : 1 ≤ t) (h8 : t ≤ 8) (l m : List UInt8) (hl : l.length = m.length) : remOf (stepS t) (List.zipWith (· ^^^ ·) l m) = (remOf (stepS t) l).plus (remOf (stepS t) m) := by
  have h := fold_lin (stepS t) (stepS_lin t h8) (fun x hx => stepS_ok t x h1 h8 hx) l m hl Rm.zero Rm.zero Rm.zero_ok Rm.zero_ok
  rw [plus_self] at h
  exact h
theorem shs_lin {a b : Rm} (ha : a.Ok) (hb : b.Ok) (j : Nat) : shs (a.plus b) j = (shs a j).plus (shs b j) := by
  induction j with
  | zero => rfl
  | succ j ih =>
    show (shs (a.plus b) j).sh8 = _
    rw [ih, sh8_lin (shs_ok ha j) (shs_ok hb j)]
    rfl
theorem textL_lin {a b : Rm} (ha : a.Ok) (hb : b.Ok) (n : Nat) : textL (a.plus b) n = List.zipWith (· ^^^ ·) (textL a n) (textL b n) := by
  apply List.ext_getElem
  · rw [List.length_zipWith, textL_length, textL_length, textL_length, Nat.min_self]
  · intro i h1 h2
    rw [List.getElem_zipWith]
    simp only [textL, List.getElem_map, List.getElem_range]
    rw [shs_lin ha hb, first_lin]
    apply UInt8.toNat_inj.1
    have f1 := (shs_ok ha i).first
    have f2 := (shs_ok hb i).first
    rw [UInt8.toNat_xor, UInt8.toNat_ofNat', UInt8.toNat_ofNat', UInt8.toNat_ofNat', Nat.mod_eq_of_lt f1, Nat.mod_eq_of_lt f2, Nat.mod_eq_of_lt (Nat.xor_lt_two_pow (n := 8) f1 f2)]
/-- the parity of a xor is the xor of the parities -/
theorem parT_lin (t : Nat) (h1 : 1 ≤ t) (h8 : t ≤ 8) (l m : List UInt8) (hl : l.length = m.length) : parT t (List.zipWith (· ^^^ ·) l m) = List.zipWith (· ^^^ ·) (parT t l) (parT t m) := by
  unfold parT
  rw [remOf_lin t h1 h8 l m hl, textL_lin (remOf_ok t l h1 h8) (remOf_ok t m h1 h8)]
theorem parT_length (t : Nat) (l : List UInt8) : (parT t l).length = (13 * t + 7) / 8 := textL_length _ _
end Go.Proofs.YtjcmfaadoealgaaGreatDoor

/- Plain: the program's bytes and steps against long division, bit by bit. -/
namespace Go.Proofs.YtjcmfaadoealgaaGreatDoor
open Go.RowKit Pm

/-- the j-th bit of a remainder, the top one first -/
def rb (r : Rm) (j : Nat) : Bool := if j < 64 then r.h.testBit (63 - j) else if j < 128 then r.l.testBit (127 - j) else false
theorem rb_lo (r : Rm) (j : Nat) (h : j < 64) : rb r j = r.h.testBit (63 - j) := if_pos h
theorem rb_mid (r : Rm) (j : Nat) (h : ¬ j < 64) (h2 : j < 128) : rb r j = r.l.testBit (127 - j) := (if_neg h).trans (if_pos h2)
theorem rb_hi (r : Rm) (j : Nat) (h : ¬ j < 128) : rb r j = false := (if_neg (by omega)).trans (if_neg h)
theorem testBit_big {x i : Nat} (h : x < 18446744073709551616) (hk : 64 ≤ i) : x.testBit i = false :=
  Nat.testBit_lt_two_pow (Nat.lt_of_lt_of_le (by rw [two64]; exact h) (Nat.pow_le_pow_right (by omega) hk))
theorem rb_plus (a b : Rm) (j : Nat) : rb (a.plus b) j = (rb a j != rb b j) := by
  by_cases h1 : j < 64
  · rw [rb_lo _ _ h1, rb_lo _ _ h1, rb_lo _ _ h1]; exact Nat.testBit_xor _ _ _
  · by_cases h2 : j < 128
    · rw [rb_mid _ _ h1 h2, rb_mid _ _ h1 h2, rb_mid _ _ h1 h2]; exact Nat.testBit_xor _ _ _
    · rw [rb_hi _ _ h2, rb_hi _ _ h2, rb_hi _ _ h2]; rfl
theorem rb_zero (j : Nat) : rb Rm.zero j = false := by
  by_cases h1 : j < 64
  · rw [rb_lo _ _ h1]; exact Nat.zero_testBit _
  · by_cases h2 : j < 128
    · rw [rb_mid _ _ h1 h2]; exact Nat.zero_testBit _
    · rw [rb_hi _ _ h2]
theorem rb_sh1 {r : Rm} (h : r.Ok) (j : Nat) : rb r.sh1 j = rb r (j + 1) := by
  have e1 : ∀ i, (r.h * 2 % 18446744073709551616).testBit i = (decide (i < 64) && (decide (1 ≤ i) && r.h.testBit (i - 1))) := fun i => bit_up r.h 1 i
  have e2 : ∀ i, (r.l * 2 % 18446744073709551616).testBit i = (decide (i < 64) && (decide (1 ≤ i) && r.l.testBit (i - 1))) := fun i => bit_up r.l 1 i
  have e3 : ∀ i, (r.l / 9223372036854775808).testBit i = r.l.testBit (63 + i) := fun i => bit_down r.l 63 i
  by_cases h1 : j < 64
  · rw [rb_lo _ _ h1]
    show Nat.testBit (r.h * 2 % 18446744073709551616 ||| r.l / 9223372036854775808) (63 - j) = _
    rw [Nat.testBit_or, e1, e3, decide_eq_true (show 63 - j < 64 by omega), Bool.true_and]
    by_cases h2 : j + 1 < 64
    · rw [rb_lo _ _ h2, testBit_big h.2 (by omega), decide_eq_true (show 1 ≤ 63 - j by omega), Bool.true_and, Bool.or_false]
      congr 1
    · rw [rb_mid _ _ h2 (by omega), decide_eq_false (show ¬ 1 ≤ 63 - j by omega), Bool.false_and, Bool.false_or]
      congr 1
      omega
  · by_cases h2 : j < 128
    · rw [rb_mid _ _ h1 h2]
      show Nat.testBit (r.l * 2 % 18446744073709551616) (127 - j) = _
      rw [e2, decide_eq_true (show 127 - j < 64 by omega), Bool.true_and]
      by_cases h3 : j + 1 < 128
      · rw [rb_mid _ _ (by omega) h3, decide_eq_true (show 1 ≤ 127 - j by omega), Bool.true_and]
        congr 1
      · rw [rb_hi _ _ h3, decide_eq_false (show ¬ 1 ≤ 127 - j by omega), Bool.false_and]
    · rw [rb_hi _ _ h2, rb_hi _ _ (by omega)]
theorem rb_sh8 {r : Rm} (h : r.Ok) (j : Nat) : rb r.sh8 j = rb r (j + 8) := by
  have e1 : ∀ i, (r.h * 256 % 18446744073709551616).testBit i = (decide (i < 64) && (decide (8 ≤ i) && r.h.testBit (i - 8))) := fun i => bit_up r.h 8 i
  have e2 : ∀ i, (r.l * 256 % 18446744073709551616).testBit i = (decide (i < 64) && (decide (8 ≤ i) && r.l.testBit (i - 8))) := fun i => bit_up r.l 8 i
  have e3 : ∀ i, (r.l / 72057594037927936).testBit i = r.l.testBit (56 + i) := fun i => bit_down r.l 56 i
  by_cases h1 : j < 64
  · rw [rb_lo _ _ h1]
    show Nat.testBit (r.h * 256 % 18446744073709551616 ||| r.l / 72057594037927936) (63 - j) = _
    rw [Nat.testBit_or, e1, e3, decide_eq_true (show 63 - j < 64 by omega), Bool.true_and]
    by_cases h2 : j + 8 < 64
    · rw [rb_lo _ _ h2, testBit_big h.2 (by omega), decide_eq_true (show 8 ≤ 63 - j by omega), Bool.true_and, Bool.or_false]
      congr 1
    · rw [rb_mid _ _ h2 (by omega), decide_eq_false (show ¬ 8 ≤ 63 - j by omega), Bool.false_and, Bool.false_or]
      congr 1
      omega
  · by_cases h2 : j < 128
    · rw [rb_mid _ _ h1 h2]
      show Nat.testBit (r.l * 256 % 18446744073709551616) (127 - j) = _
      rw [e2, decide_eq_true (show 127 - j < 64 by omega), Bool.true_and]
      by_cases h3 : j + 8 < 128
      · rw [rb_mid _ _ (by omega) h3, decide_eq_true (show 8 ≤ 127 - j by omega), Bool.true_and]
        congr 1
      · rw [rb_hi _ _ h3, decide_eq_false (show ¬ 8 ≤ 127 - j by omega), Bool.false_and]
    · rw [rb_hi _ _ h2, rb_hi _ _ (by omega)]
theorem rb_bit (n j : Nat) (hn : n < 128) : rb (Rm.bit n) j = decide (j = n) := by
  by_cases h : n < 64
  · have e : Rm.bit n = ⟨2 ^ (63 - n), 0⟩ := if_pos h
    rw [e]
    by_cases h1 : j < 64
    · rw [rb_lo _ _ h1]
      show Nat.testBit (2 ^ (63 - n)) (63 - j) = _
      rw [Nat.testBit_two_pow]
      by_cases e : j = n
      · rw [decide_eq_true e, decide_eq_true (by omega)]
      · rw [decide_eq_false e, decide_eq_false (by omega)]
    · rw [decide_eq_false (by omega)]
      by_cases h2 : j < 128
      · rw [rb_mid _ _ h1 h2]; exact Nat.zero_testBit _
      · rw [rb_hi _ _ h2]
  · have e : Rm.bit n = ⟨0, 2 ^ (127 - n)⟩ := if_neg h
    rw [e]
    by_cases h1 : j < 64
    · rw [rb_lo _ _ h1, decide_eq_false (by omega)]; exact Nat.zero_testBit _
    · by_cases h2 : j < 128
      · rw [rb_mid _ _ h1 h2]
        show Nat.testBit (2 ^ (127 - n)) (127 - j) = _
        rw [Nat.testBit_two_pow]
        by_cases e : j = n
        · rw [decide_eq_true e, decide_eq_true (by omega)]
        · rw [decide_eq_false e, decide_eq_false (by omega)]
      · rw [rb_hi _ _ h2, decide_eq_false (by omega)]
/-- two remainders with the same bits are the same -/
theorem rb_ext {a b : Rm} (ha : a.Ok) (hb : b.Ok) (h : ∀ j, j < 128 → rb a j = rb b j) : a = b := by
  apply Rm.ext'
  · apply Nat.eq_of_testBit_eq
    intro i
    by_cases hi : i < 64
    · have := h (63 - i) (by omega)
      rw [rb_lo _ _ (by omega), rb_lo _ _ (by omega), show 63 - (63 - i) = i by omega] at this
      exact this
    · rw [testBit_big ha.1 (by omega), testBit_big hb.1 (by omega)]
  · apply Nat.eq_of_testBit_eq
    intro i
    by_cases hi : i < 64
    · have := h (127 - i) (by omega)
      rw [rb_mid _ _ (by omega) (by omega), rb_mid _ _ (by omega) (by omega), show 127 - (127 - i) = i by omega] at this
      exact this
    · rw [testBit_big ha.2 (by omega), testBit_big hb.2 (by omega)]
/-- how often p is told by a list of exponents, taken twice as nothing -/
def flp (l : List Int) (b : Nat) (p : Nat) : Bool := l.foldl (fun s e => s != decide (p = b - e.toNat)) false
theorem flp_shift (s : Bool) (l : List Int) (b p : Nat) : l.foldl (fun s e => s != decide (p = b - e.toNat)) s = (s != flp l b p) := by
  unfold flp
  induction l generalizing s with
  | nil => cases s <;> rfl
  | cons e l ih => rw [List.foldl_cons, List.foldl_cons, ih, ih (false != _)]; cases s <;> cases decide (p = b - e.toNat) <;> simp
theorem flp_cons (e : Int) (l : List Int) (b p : Nat) : flp (e :: l) b p = (decide (p = b - e.toNat) != flp l b p) := by
  show List.foldl _ (false != _) l = _
  rw [flp_shift]; simp
theorem rb_tail (d : Nat) (hd : d ≤ 120) (i : Nat) : ∀ (l : List Int), (∀ k, k < l.length → ∃ e : Nat, l.getD k 0 = (e : Int) ∧ e < d) → ∀ j, rb (tailR d l) j = flp l (i + d) (i + 1 + j) := by
  intro l
  have key : ∀ (l : List Int), (∀ e ∈ l, ∃ n : Nat, e = (n : Int) ∧ n < d) → ∀ (r : Rm) j, rb (l.foldl (fun r e => r.plus (Rm.bit (d - 1 - e.toNat))) r) j = (rb r j != flp l (i + d) (i + 1 + j)) := by
    intro l
    induction l with
    | nil => intro _ r j; show rb r j = (rb r j != false); cases rb r j <;> rfl
    | cons e l ih =>
      intro hl r j
      obtain ⟨n, rfl, hn⟩ := hl e List.mem_cons_self
      rw [List.foldl_cons, ih (fun x hx => hl x (List.mem_cons_of_mem _ hx)), rb_plus, flp_cons, rb_bit _ _ (by omega)]
      have e1 : decide (j = d - 1 - (n : Int).toNat) = decide (i + 1 + j = i + d - (n : Int).toNat) := by
        rw [Int.toNat_natCast]
        by_cases e : j = d - 1 - n
        · rw [decide_eq_true e, decide_eq_true (by omega)]
        · rw [decide_eq_false e, decide_eq_false (by omega)]
      rw [e1]
      cases rb r j <;> cases decide (i + 1 + j = i + d - (n : Int).toNat) <;> cases flp l (i + d) (i + 1 + j) <;> rfl
  intro hl j
  have := key l (fun e he => by
    obtain ⟨k, hk, rfl⟩ := List.mem_iff_getElem.1 he
    obtain ⟨n, hn, h⟩ := hl k hk
    rw [List.getD_eq_getElem?_getD, List.getElem?_eq_getElem hk] at hn
    exact ⟨n, hn, h⟩) Rm.zero j
  rw [rb_zero] at this
  unfold tailR
  rw [this]
  cases flp l (i + d) (i + 1 + j) <;> rfl
/-- one bit of the text goes in -/
def bst (T r : Rm) (x : Bool) : Rm := if (rb r 0 != x) then r.sh1.plus T else r.sh1
theorem bst_ok {T r : Rm} (hT : T.Ok) (hr : r.Ok) (x : Bool) : (bst T r x).Ok := by
  unfold bst; split
  · exact hr.sh1.plus hT
  · exact hr.sh1
theorem rb_bst {T r : Rm} (hr : r.Ok) (x : Bool) (j : Nat) : rb (bst T r x) j = (rb r (j + 1) != ((rb r 0 != x) && rb T j)) := by
  unfold bst
  split
  · rename_i h; rw [rb_plus, rb_sh1 hr, h, Bool.true_and]
  · rename_i h
    rw [Bool.not_eq_true] at h
    rw [rb_sh1 hr, h, Bool.false_and]; cases rb r (j + 1) <;> rfl
theorem stp_bst {T r : Rm} (hr : r.Ok) : stp T r = bst T r false := by
  unfold stp bst
  have h : r.h / 9223372036854775808 = 0 ∨ r.h / 9223372036854775808 = 1 := by have := hr.1; omega
  have e : rb r 0 = decide (r.h / 9223372036854775808 = 1) := by
    show (if (0 : Nat) < 64 then r.h.testBit (63 - 0) else _) = _
    rw [if_pos (by omega), Nat.testBit_eq_decide_div_mod_eq]
    rcases h with h | h
    · rw [show (2 : Nat) ^ (63 - 0) = 9223372036854775808 by decide, h]
    · rw [show (2 : Nat) ^ (63 - 0) = 9223372036854775808 by decide, h]
  rw [e]
  rcases h with h | h <;> rw [h] <;> rfl
/-- the bits of a byte, the top one first -/
def bb (b : Nat) (k : Nat) : Bool := b.testBit (7 - k)
/-- k bits of a byte go in -/
def bsts (T r : Rm) (x : Nat → Bool) : Nat → Rm | 0 => r | k + 1 => bst T (bsts T r x k) (x k)
theorem bsts_ok {T r : Rm} (hT : T.Ok) (hr : r.Ok) (x : Nat → Bool) (k : Nat) : (bsts T r x k).Ok := by
  induction k with
  | zero => exact hr
  | succ k ih => exact bst_ok hT ih _
theorem rb_top (b k j : Nat) : rb ⟨b * 2 ^ (56 + k) % 18446744073709551616, 0⟩ j = (decide (j + k < 8) && bb b (j + k)) := by
  unfold bb
  by_cases h1 : j < 64
  · rw [rb_lo _ _ h1]
    show Nat.testBit (b * 2 ^ (56 + k) % 18446744073709551616) (63 - j) = _
    rw [bit_up]
    by_cases h : j + k < 8
    · rw [decide_eq_true h, decide_eq_true (show 63 - j < 64 by omega), decide_eq_true (show 56 + k ≤ 63 - j by omega), Bool.true_and, Bool.true_and, Bool.true_and]
      congr 1
      omega
    · rw [decide_eq_false h, decide_eq_false (show ¬ 56 + k ≤ 63 - j by omega), Bool.false_and, Bool.and_false, Bool.false_and]
  · rw [decide_eq_false (by omega), Bool.false_and]
    by_cases h2 : j < 128
    · rw [rb_mid _ _ h1 h2]; exact Nat.zero_testBit _
    · rw [rb_hi _ _ h2]
theorem top_ok (b k : Nat) : (⟨b * 2 ^ (56 + k) % 18446744073709551616, 0⟩ : Rm).Ok := ⟨Nat.mod_lt _ (by omega), by show 0 < _; omega⟩
theorem stps_byte {T r : Rm} (hT : T.Ok) (hr : r.Ok) (b : Nat) (hb : b < 256) : ∀ k, k ≤ 8 → stps T (r.plus ⟨b * 72057594037927936, 0⟩) k = (bsts T r (bb b) k).plus ⟨b * 2 ^ (56 + k) % 18446744073709551616, 0⟩ := by
  intro k
  induction k with
  | zero =>
    intro _
    show r.plus _ = r.plus _
    congr 1
    refine Rm.ext' ?_ rfl
    show b * 72057594037927936 = b * 2 ^ 56 % 18446744073709551616
    omega
  | succ k ih =>
    intro hk
    show stp T (stps T _ k) = _
    rw [ih (by omega)]
    have hq := bsts_ok hT hr (bb b) k
    rw [stp_bst (hq.plus (top_ok b k))]
    apply rb_ext (bst_ok hT (hq.plus (top_ok b k)) _) ((bst_ok hT hq _).plus (top_ok b (k + 1)))
    intro j _
    show _ = rb ((bst T (bsts T r (bb b) k) (bb b k)).plus _) j
    rw [rb_bst (hq.plus (top_ok b k)), rb_plus, rb_plus, rb_plus, rb_bst hq, rb_top, rb_top, rb_top]
    rw [decide_eq_true (show 0 + k < 8 by omega), Nat.zero_add, show j + 1 + k = j + (k + 1) by omega]
    generalize rb (bsts T r (bb b) k) (j + 1) = u1
    generalize rb (bsts T r (bb b) k) 0 = u2
    generalize rb T j = u3
    generalize bb b (j + (k + 1)) = u4
    generalize bb b k = u5
    generalize decide (j + (k + 1) < 8) = u6
    cases u1 <;> cases u2 <;> cases u3 <;> cases u4 <;> cases u5 <;> cases u6 <;> rfl
theorem sh_rest {T r : Rm} (hT : T.Ok) (hr : r.Ok) : ∀ k, k ≤ 8 → (∀ j, j < k → rb r j = false) → ∀ j, rb (stps T r k) j = rb r (j + k) := by
  intro k
  induction k with
  | zero => intro _ _ j; rfl
  | succ k ih =>
    intro hk h0 j
    show rb (stp T (stps T r k)) j = _
    have hi := ih (by omega) (fun j hj => h0 j (by omega))
    rw [stp_bst (stps_ok hT hr k), rb_bst (stps_ok hT hr k), hi, hi, Nat.zero_add, h0 k (by omega), show j + 1 + k = j + (k + 1) by omega]
    cases rb r (j + (k + 1)) <;> rfl
/-- a byte goes in: its eight bits -/
theorem remStep_bits {T r : Rm} (hT : T.Ok) (hr : r.Ok) (b : UInt8) : remStep (byteStep T) r b = bsts T r (bb b.toNat) 8 := by
  have hb := b.toNat_lt
  have hf := hr.first
  have hx : r.first ^^^ b.toNat < 256 := Nat.xor_lt_two_pow (n := 8) hf hb
  have h1 : r.plus ⟨b.toNat * 72057594037927936, 0⟩ = (⟨r.h % 72057594037927936, r.l⟩ : Rm).plus ⟨(r.first ^^^ b.toNat) * 72057594037927936, 0⟩ := by
    refine Rm.ext' ?_ (by rfl)
    show r.h ^^^ _ = _ ^^^ _
    have e : r.h = r.h % 72057594037927936 ^^^ r.first * 72057594037927936 := by
      apply Nat.eq_of_testBit_eq
      intro i
      have e1 : (r.first * 72057594037927936).testBit i = (decide (56 ≤ i) && r.h.testBit i) := by
        show (r.first * 2 ^ 56).testBit i = _
        rw [← Nat.shiftLeft_eq, Nat.testBit_shiftLeft]
        by_cases h : 56 ≤ i
        · rw [decide_eq_true h, Bool.true_and, Bool.true_and]
          show (r.h / 2 ^ 56).testBit _ = _
          rw [bit_down]; congr 1; omega
        · rw [decide_eq_false h, Bool.false_and, Bool.false_and]
      have e2 : (r.h % 72057594037927936).testBit i = (decide (i < 56) && r.h.testBit i) := by
        show (r.h % 2 ^ 56).testBit i = _
        rw [Nat.testBit_mod_two_pow]
      rw [Nat.testBit_xor, e1, e2]
      by_cases h : 56 ≤ i
      · rw [decide_eq_true h, decide_eq_false (show ¬ i < 56 by omega)]; simp
      · rw [decide_eq_false h, decide_eq_true (show i < 56 by omega)]; simp
    have e3 : (r.first ^^^ b.toNat) * 72057594037927936 = r.first * 72057594037927936 ^^^ b.toNat * 72057594037927936 := by
      show (r.first ^^^ b.toNat) * 2 ^ 56 = r.first * 2 ^ 56 ^^^ b.toNat * 2 ^ 56
      apply Nat.eq_of_testBit_eq
      intro i
      rw [Nat.testBit_xor, ← Nat.shiftLeft_eq, ← Nat.shiftLeft_eq, ← Nat.shiftLeft_eq, Nat.testBit_shiftLeft, Nat.testBit_shiftLeft, Nat.testBit_shiftLeft, Nat.testBit_xor]
      cases decide (i ≥ 56) <;> cases r.first.testBit (i - 56) <;> cases b.toNat.testBit (i - 56) <;> rfl
    rw [e3]
    conv => lhs; rw [e]
    rw [Nat.xor_assoc]
  have hlow : (⟨r.h % 72057594037927936, r.l⟩ : Rm).Ok := ⟨by show _ % _ < _; have := hr.1; omega, hr.2⟩
  have hst : ∀ x, x < 256 → (⟨x * 72057594037927936, 0⟩ : Rm).Ok := fun x hx => ⟨by show x * _ < _; omega, by show 0 < _; omega⟩
  have h2 := stps_byte hT hr b.toNat hb 8 (Nat.le_refl _)
  rw [h1, stps_lin hT hlow (hst _ hx)] at h2
  have hz : (⟨b.toNat * 2 ^ (56 + 8) % 18446744073709551616, 0⟩ : Rm) = Rm.zero := Rm.ext' (by show b.toNat * 2 ^ (56 + 8) % 18446744073709551616 = 0; omega) rfl
  rw [hz, plus_zero] at h2
  rw [← h2]
  unfold remStep
  have e4 : stps T ⟨r.h % 72057594037927936, r.l⟩ 8 = r.sh8 := by
    apply rb_ext (stps_ok hT hlow 8) hr.sh8
    intro j _
    have hbits : ∀ j, rb ⟨r.h % 72057594037927936, r.l⟩ j = (decide (8 ≤ j) && rb r j) := by
      intro j
      by_cases h1 : j < 64
      · rw [rb_lo _ _ h1, rb_lo _ _ h1]
        show (r.h % 2 ^ 56).testBit (63 - j) = _
        rw [Nat.testBit_mod_two_pow]
        congr 1
        by_cases h : 8 ≤ j
        · rw [decide_eq_true h, decide_eq_true (by omega)]
        · rw [decide_eq_false h, decide_eq_false (by omega)]
      · rw [decide_eq_true (show 8 ≤ j by omega), Bool.true_and]
        by_cases h2 : j < 128
        · rw [rb_mid _ _ h1 h2, rb_mid _ _ h1 h2]
        · rw [rb_hi _ _ h2, rb_hi _ _ h2]
    rw [sh_rest hT hlow 8 (Nat.le_refl _) (fun j hj => by rw [hbits, decide_eq_false (by omega), Bool.false_and]), hbits, rb_sh8 hr, decide_eq_true (by omega), Bool.true_and]
  rw [e4]
  rfl
/-- a bit of a text -/
def dbit (l : List UInt8) (p : Nat) : Bool := bb (l.getD (p / 8) 0).toNat (p % 8)
/-- the register behind i bits -/
def regs (T : Rm) (l : List UInt8) : Nat → Rm | 0 => Rm.zero | i + 1 => bst T (regs T l i) (dbit l i)
theorem regs_ok {T : Rm} (hT : T.Ok) (l : List UInt8) (i : Nat) : (regs T l i).Ok := by
  induction i with
  | zero => exact Rm.zero_ok
  | succ i ih => exact bst_ok hT ih _
theorem regs_bsts (T : Rm) (l : List UInt8) (k : Nat) : ∀ j, j ≤ 8 → regs T l (8 * k + j) = bsts T (regs T l (8 * k)) (bb (l.getD k 0).toNat) j := by
  intro j
  induction j with
  | zero => intro _; rfl
  | succ j ih =>
    intro hj
    show bst T (regs T l (8 * k + j)) (dbit l (8 * k + j)) = bst T _ _
    rw [ih (by omega)]
    unfold dbit
    rw [show (8 * k + j) / 8 = k by omega, show (8 * k + j) % 8 = j by omega]
theorem fold_regs {T : Rm} (hT : T.Ok) (l : List UInt8) : ∀ k, k ≤ l.length → (l.take k).foldl (remStep (byteStep T)) Rm.zero = regs T l (8 * k) := by
  intro k
  induction k with
  | zero => intro _; rfl
  | succ k ih =>
    intro hk
    rw [List.take_succ_eq_append_getElem (by omega), List.foldl_append, ih (by omega)]
    show remStep (byteStep T) (regs T l (8 * k)) l[k] = regs T l (8 * k + 8)
    rw [regs_bsts T l k 8 (Nat.le_refl _), remStep_bits hT (regs_ok hT l _), List.getD_eq_getElem?_getD, List.getElem?_eq_getElem (by omega)]
    rfl
/-- the document's row behind i steps -/
def rows (g : List Int) (d : Nat) (l : List UInt8) : Nat → Nat → Bool
  | 0, p => dbit l p
  | i + 1, p => (rows g d l i p != (rows g d l i i && flp g (i + d) p))
theorem flp_high (l : List Int) (b p : Nat) (h : b < p) : flp l b p = false := by
  induction l with
  | nil => rfl
  | cons e l ih => rw [flp_cons, ih, decide_eq_false (by omega)]; rfl
theorem regs_high (d : Nat) (hd : d ≤ 120) (tl : List Int) (htl : ∀ k, k < tl.length → ∃ e : Nat, tl.getD k 0 = (e : Int) ∧ e < d) (hT : (tailR d tl).Ok) (l : List UInt8) (i j : Nat) (hj : d ≤ j) : rb (regs (tailR d tl) l i) j = false := by
  induction i generalizing j with
  | zero => exact rb_zero _
  | succ i ih =>
    show rb (bst _ _ _) j = false
    rw [rb_bst (regs_ok hT l i), ih (j + 1) (by omega), rb_tail d hd i tl htl, flp_high _ _ _ (by omega), Bool.and_false]
    rfl
/-- the first n of eight bits, as a byte -/
def by8 (x : Nat → Bool) : Nat → Nat | 0 => 0 | k + 1 => by8 x k ||| (if x k then 2 ^ (7 - k) else 0)
theorem by8_bit (x : Nat → Bool) (k : Nat) (hk : k ≤ 8) (i : Nat) : (by8 x k).testBit i = (decide (i < 8) && decide (7 - i < k) && x (7 - i)) := by
  induction k with
  | zero => rw [show by8 x 0 = 0 from rfl, Nat.zero_testBit, decide_eq_false (show ¬ 7 - i < 0 by omega), Bool.and_false, Bool.false_and]
  | succ k ih =>
    show Nat.testBit (by8 x k ||| _) i = _
    rw [Nat.testBit_or, ih (by omega)]
    have e : (if x k then 2 ^ (7 - k) else 0).testBit i = (decide (7 - k = i) && x k) := by
      split
      · rename_i h; rw [Nat.testBit_two_pow, h, Bool.and_true]
      · rename_i h; rw [Bool.not_eq_true] at h; rw [Nat.zero_testBit, h, Bool.and_false]
    rw [e]
    by_cases h1 : 7 - k = i
    · rw [decide_eq_true h1, decide_eq_true (show i < 8 by omega), decide_eq_true (show 7 - i < k + 1 by omega), decide_eq_false (show ¬ 7 - i < k by omega), show 7 - i = k by omega]
      simp
    · rw [decide_eq_false h1, Bool.false_and, Bool.or_false]
      by_cases h2 : i < 8
      · by_cases h3 : 7 - i < k
        · rw [decide_eq_true h3, decide_eq_true (show 7 - i < k + 1 by omega)]
        · rw [decide_eq_false h3, decide_eq_false (show ¬ 7 - i < k + 1 by omega)]
      · rw [decide_eq_false h2]; simp
theorem by8_lt (x : Nat → Bool) (k : Nat) (hk : k ≤ 8) : by8 x k < 256 := by
  induction k with
  | zero => show 0 < 256; omega
  | succ k ih =>
    refine Nat.or_lt_two_pow (n := 8) (ih (by omega)) ?_
    split
    · exact Nat.pow_lt_pow_right (by omega) (by omega)
    · omega
theorem first_by8 {r : Rm} (h : r.Ok) : r.first = by8 (rb r) 8 := by
  apply Nat.eq_of_testBit_eq
  intro i
  rw [by8_bit _ _ (Nat.le_refl _)]
  by_cases hi : i < 8
  · rw [decide_eq_true hi, decide_eq_true (show 7 - i < 8 by omega), rb_lo _ _ (by omega)]
    show Nat.testBit (r.h / 2 ^ 56) i = _
    rw [bit_down, show 63 - (7 - i) = 56 + i by omega]
    rfl
  · rw [decide_eq_false hi, Bool.false_and, Bool.false_and]
    exact Nat.testBit_lt_two_pow (Nat.lt_of_lt_of_le h.first (Nat.pow_le_pow_right (show 0 < 2 by omega) (show 8 ≤ i by omega)))
theorem by8_congr {x y : Nat → Bool} (k : Nat) (h : ∀ j, j < k → x j = y j) : by8 x k = by8 y k := by
  induction k with
  | zero => rfl
  | succ k ih =>
    show by8 x k ||| _ = by8 y k ||| _
    rw [ih (fun j hj => h j (by omega)), h k (by omega)]
theorem by8_stop (x : Nat → Bool) (k m : Nat) (h : ∀ j, k ≤ j → j < k + m → x j = false) : by8 x (k + m) = by8 x k := by
  induction m with
  | zero => rfl
  | succ m ih =>
    show by8 x (k + m) ||| (if x (k + m) then 2 ^ (7 - (k + m)) else 0) = _
    rw [ih fun j h1 h2 => h j h1 (by omega), h (k + m) (by omega) (by omega)]
    exact Nat.or_zero _
theorem rb_shs {r : Rm} (h : r.Ok) (m j : Nat) : rb (shs r m) j = rb r (8 * m + j) := by
  induction m generalizing j with
  | zero => rw [Nat.mul_zero, Nat.zero_add]; rfl
  | succ m ih =>
    show rb (shs r m).sh8 j = _
    rw [rb_sh8 (shs_ok h m), ih]
    congr 1
    omega
/-- the first i of some bits, as bytes -/
def txt (x : Nat → Bool) (i : Nat) : List UInt8 := (List.range ((i + 7) / 8)).map fun m => UInt8.ofNat (by8 (fun k => x (8 * m + k)) (min 8 (i - 8 * m)))
theorem txt_length (x : Nat → Bool) (i : Nat) : (txt x i).length = (i + 7) / 8 := by simp [txt]
theorem txt_get (x : Nat → Bool) (i m : Nat) (_h : m < (txt x i).length) : (txt x i)[m] = UInt8.ofNat (by8 (fun k => x (8 * m + k)) (min 8 (i - 8 * m))) := by simp [txt]
theorem textL_txt {r : Rm} (h : r.Ok) (d : Nat) (hz : ∀ j, d ≤ j → rb r j = false) : textL r ((d + 7) / 8) = txt (rb r) d := by
  apply List.ext_getElem
  · rw [txt_length]; simp [textL]
  · intro m h1 h2
    rw [txt_get]
    rw [txt_length] at h2
    simp only [textL, List.getElem_map, List.getElem_range]
    congr 1
    rw [first_by8 (shs_ok h m), by8_congr 8 (y := fun k => rb r (8 * m + k)) (fun j _ => rb_shs h m j)]
    have e := by8_stop (fun k => rb r (8 * m + k)) (min 8 (d - 8 * m)) (8 - min 8 (d - 8 * m)) (fun j h1 h2 => hz _ (by omega))
    rw [show min 8 (d - 8 * m) + (8 - min 8 (d - 8 * m)) = 8 by omega] at e
    exact e
/-- bits as numbers -/
def bi (b : Bool) : Int := if b then 1 else 0
def bl (N : Nat) (f : Nat → Bool) : List Int := (List.range N).map fun p => bi (f p)
end Go.Proofs.YtjcmfaadoealgaaGreatDoor
