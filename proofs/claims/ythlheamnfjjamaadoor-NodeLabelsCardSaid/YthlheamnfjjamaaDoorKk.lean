/- Plain: numbers and their bytes; the order of texts. -/
import Derived.Test.YthlheamnfjjamaaDoorKi
namespace Go.Proofs.YthlheamnfjjamaaDoor
open Go.RowKit

theorem valN_cons (c : UInt8) (l : List UInt8) : valN (c :: l) = c.toNat * 256 ^ l.length + valN l := by
  have key : ∀ (l : List UInt8) (a : Nat), l.foldl (fun a c => 256 * a + c.toNat) a = a * 256 ^ l.length + l.foldl (fun a c => 256 * a + c.toNat) 0 := by
    intro l
    induction l with
    | nil => intro a; simp
    | cons d l ih =>
      intro a
      rw [List.foldl_cons, List.foldl_cons, ih (256 * a + d.toNat), ih (256 * 0 + d.toNat), List.length_cons, Nat.pow_succ, Nat.add_mul]
      have e : 256 * a * 256 ^ l.length = a * (256 ^ l.length * 256) := by rw [Nat.mul_comm 256 a, Nat.mul_assoc, Nat.mul_comm 256]
      rw [e, Nat.mul_zero, Nat.zero_add]
      omega
  unfold valN
  rw [List.foldl_cons, key l (256 * 0 + c.toNat)]
  simp
theorem valN_lt : ∀ l : List UInt8, valN l < 256 ^ l.length
  | [] => by decide
  | c :: l => by
    have h := valN_lt l
    have hc := c.toNat_lt
    rw [valN_cons, List.length_cons, Nat.pow_succ]
    have : (c.toNat + 1) * 256 ^ l.length ≤ 256 * 256 ^ l.length := Nat.mul_le_mul_right _ (by omega)
    rw [Nat.add_mul] at this
    rw [Nat.mul_comm (256 ^ l.length)]
    omega
theorem valN_beZK : ∀ (k n : Nat), n < 256 ^ k → valN (beZ k (n : Int)) = n
  | 0, n, h => by
    have : n = 0 := by simpa using h
    subst this; rfl
  | k + 1, n, h => by
    have hd : n / 256 < 256 ^ k := by rw [Nat.pow_succ] at h; exact Nat.div_lt_of_lt_mul (by rw [Nat.mul_comm]; exact h)
    rw [beZ_snocF, valN_snoc]
    have ih := valN_beZK k (n / 256) hd
    have e1 : ((n : Int) / 256) = ((n / 256 : Nat) : Int) := rfl
    have e2 : ((n : Int) % 256).toNat = n % 256 := rfl
    rw [e1, ih, e2]
    have := u8_ofNat' (n % 256)
    omega
theorem beZ_valN (l : List UInt8) : beZ l.length ((valN l : Nat) : Int) = l := by
  induction hn : l.length generalizing l with
  | zero =>
    obtain rfl := List.eq_nil_of_length_eq_zero hn
    rfl
  | succ k ih =>
    obtain ⟨i, c, rfl⟩ : ∃ i c, l = i ++ [c] := ⟨l.dropLast, l.getLast (by intro e; subst e; cases hn), (List.dropLast_concat_getLast _).symm⟩
    have hi : i.length = k := by rw [List.length_append] at hn; simpa using hn
    rw [beZ_snocF, valN_snoc]
    have hc := c.toNat_lt
    have e1 : (((256 * valN i + c.toNat : Nat) : Int) / 256) = ((valN i : Nat) : Int) := by omega
    have e2 : (((256 * valN i + c.toNat : Nat) : Int) % 256).toNat = c.toNat := by omega
    rw [e1, e2, ih i hi]
    simp
theorem bl_nil (l : List UInt8) : Op.bytesLess l [] = false := by cases l <;> rfl
theorem bl_nil_cons (c : UInt8) (l : List UInt8) : Op.bytesLess [] (c :: l) = true := rfl
theorem bl_cons (a b : UInt8) (x y : List UInt8) : Op.bytesLess (a :: x) (b :: y) = (decide (a < b) || (a == b && Op.bytesLess x y)) := rfl
theorem bl_append : ∀ (x y a b : List UInt8), x.length = y.length → Op.bytesLess (x ++ a) (y ++ b) = (Op.bytesLess x y || (x == y && Op.bytesLess a b))
  | [], [], a, b, _ => by simp [bl_nil]
  | c :: x, d :: y, a, b, h => by
    rw [List.cons_append, List.cons_append, bl_cons, bl_cons, bl_append x y a b (by simpa using h)]
    by_cases e : c = d
    · subst e
      simp
    · have : (c == d) = false := by simpa using e
      simp [this]
theorem bl_val : ∀ (x y : List UInt8), x.length = y.length → Op.bytesLess x y = decide (valN x < valN y)
  | [], [], _ => by simp [bl_nil, valN]
  | c :: x, d :: y, h => by
    have hl : x.length = y.length := by simpa using h
    have h1 := valN_lt x
    have h2 := valN_lt y
    rw [bl_cons, bl_val x y hl, valN_cons, valN_cons]
    rw [hl] at h1 ⊢
    generalize 256 ^ y.length = P at *
    by_cases e : c = d
    · subst e
      simp
    · have e0 : (c == d) = false := by simpa using e
      have e3 : ¬ c.toNat = d.toNat := fun h => e (UInt8.toNat_inj.1 h)
      rw [e0, Bool.false_and, Bool.or_false]
      have e4 : (c < d) ↔ c.toNat < d.toNat := UInt8.lt_iff_toNat_lt
      simp only [e4]
      by_cases h5 : c.toNat < d.toNat
      · have : (c.toNat + 1) * P ≤ d.toNat * P := Nat.mul_le_mul_right _ h5
        rw [Nat.add_mul] at this
        have h6 : c.toNat * P + valN x < d.toNat * P + valN y := by omega
        rw [decide_eq_true h5, decide_eq_true h6]
      · have : (d.toNat + 1) * P ≤ c.toNat * P := Nat.mul_le_mul_right _ (by omega)
        rw [Nat.add_mul] at this
        have h6 : ¬ c.toNat * P + valN x < d.toNat * P + valN y := by omega
        rw [decide_eq_false h5, decide_eq_false h6]
theorem eq_val (x y : List UInt8) (h : x.length = y.length) : (x == y) = decide (valN x = valN y) := by
  by_cases e : valN x = valN y
  · rw [decide_eq_true e]
    have : x = y := by rw [← beZ_valN x, ← beZ_valN y, e, h]
    simp [this]
  · rw [decide_eq_false e]
    have : ¬ x = y := fun h => e (by rw [h])
    simpa using this
/-- a key's first nine bytes, as a number -/
theorem valN_app (a b : List UInt8) : valN (a ++ b) = valN a * 256 ^ b.length + valN b := by
  induction a with
  | nil => simp [valN]
  | cons c a ih =>
    rw [List.cons_append, valN_cons, ih, valN_cons, List.length_append, Nat.pow_add, Nat.add_mul, Nat.mul_assoc]
    omega
theorem head_val (n k : Int) (h0 : 0 ≤ n) (h1 : n ≤ 1099511627776) (h2 : 0 ≤ k) (h3 : k ≤ 255) : ((valN (beZ 8 n ++ beZ 1 k) : Nat) : Int) = 256 * n + k := by
  obtain ⟨m, rfl⟩ : ∃ m : Nat, n = (m : Int) := ⟨n.toNat, by omega⟩
  obtain ⟨j, rfl⟩ : ∃ m : Nat, k = (m : Int) := ⟨k.toNat, by omega⟩
  rw [valN_app, beZ_length, valN_beZK 8 m (by omega), valN_beZK 1 j (by omega)]
  omega
theorem head_len (n k : Int) : (beZ 8 n ++ beZ 1 k).length = 9 := by rw [List.length_append, beZ_length, beZ_length]
end Go.Proofs.YthlheamnfjjamaaDoor
