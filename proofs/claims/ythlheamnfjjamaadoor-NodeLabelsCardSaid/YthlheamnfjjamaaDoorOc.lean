/- node: lengths, sizeOf. -/
import Derived.Test.YthlheamnfjjamaaDoorOb
import Derived.Test.YthlheamnfjjamaaDoorCf
namespace Go.Proofs.YthlheamnfjjamaaDoor
open Go.RowKit Cm
attribute [local irreducible] beZ valN
attribute [local go_sem ↓] Go.wp_at_zero Go.wp_at_succ

def klenL (l : List UInt8) : Nat := valN ((l.drop 10).take 1)
def vlenL (l : List UInt8) : Nat := valN ((l.drop 11).take 2)
theorem valN_snoc' (l : List UInt8) (c : UInt8) : valN (l ++ [c]) = 256 * valN l + c.toNat := valN_snoc l c
theorem valN_bound (l : List UInt8) : valN l < 256 ^ l.length := by
  induction hn : l.length generalizing l with
  | zero =>
    obtain rfl := List.eq_nil_of_length_eq_zero hn
    unfold valN; decide
  | succ k ih =>
    obtain ⟨i, c, rfl⟩ : ∃ i c, l = i ++ [c] := ⟨l.dropLast, l.getLast (by intro e; subst e; cases hn), (List.dropLast_concat_getLast _).symm⟩
    have hi : i.length = k := by rw [List.length_append] at hn; simpa using hn
    have h := ih i hi
    have hc := c.toNat_lt
    rw [valN_snoc, Nat.pow_succ]
    omega
theorem klen_lt (l : List UInt8) : klenL l < 256 := by
  have h := valN_bound ((l.drop 10).take 1)
  have : ((l.drop 10).take 1).length ≤ 1 := by rw [List.length_take]; omega
  have h2 : (256 : Nat) ^ ((l.drop 10).take 1).length ≤ 256 ^ 1 := Nat.pow_le_pow_right (by omega) this
  unfold klenL
  omega
theorem vlen_lt (l : List UInt8) : vlenL l < 65536 := by
  have h := valN_bound ((l.drop 11).take 2)
  have : ((l.drop 11).take 2).length ≤ 2 := by rw [List.length_take]; omega
  have h2 : (256 : Nat) ^ ((l.drop 11).take 2).length ≤ 256 ^ 2 := Nat.pow_le_pow_right (by omega) this
  unfold vlenL
  omega
theorem ext_str (l : List UInt8) (a b : Nat) : (ByteArray.mk l.toArray).extract a b = ⟨((l.drop a).take (b - a)).toArray⟩ := by
  apply ByteArray.ext; apply Array.ext'; simp
theorem w64_nat (n : Nat) (h : n < 4611686018427387904) : wrap64 (n : Int) = (n : Int) := by unfold wrap64; omega
set_option maxRecDepth 20000 in
set_option maxHeartbeats 1600000 in
theorem lengths_any (l : List UInt8) (w : World) (h13 : 13 ≤ l.length) (hl : l.length ≤ 281474976710656) :
    Calls Tryd.prog 63 #[.string ⟨l.toArray⟩] w fun e w' => e = .returned (.tuple #[.int .i64 (klenL l : Int), .int .i64 (vlenL l : Int)]) ∧ Upd noBlock w w' := by
  have HA := fun W => Of_any ((l.drop 10).take 1) W (by rw [List.length_take]; unfold maxLen; omega)
  have HB := fun W => Of_any ((l.drop 11).take 2) W (by rw [List.length_take]; unfold maxLen; omega)
  have ea : wrap64 ((valN ((l.drop 10).take 1) : Nat) : Int) = (klenL l : Int) := w64_nat _ (Nat.lt_trans (klen_lt l) (by decide))
  have eb : wrap64 ((valN ((l.drop 11).take 2) : Nat) : Int) = (vlenL l : Int) := w64_nat _ (Nat.lt_trans (vlen_lt l) (by decide))
  rw [ea] at HA
  rw [eb] at HB
  have xa := ext_str l 10 11
  have xb := ext_str l 11 13
  obtain ⟨q, hq⟩ : ∃ q : ByteArray, ⟨l.toArray⟩ = q := ⟨_, rfl⟩
  obtain ⟨qa, hqa⟩ : ∃ q : ByteArray, ⟨((l.drop 10).take 1).toArray⟩ = q := ⟨_, rfl⟩
  obtain ⟨qb, hqb⟩ : ∃ q : ByteArray, ⟨((l.drop 11).take 2).toArray⟩ = q := ⟨_, rfl⟩
  have hsz : q.size = l.length := by rw [← hq]; rfl
  rw [hq] at xa xb ⊢
  rw [show 11 - 10 = 1 from rfl, hqa] at xa
  rw [show 13 - 11 = 2 from rfl, hqb] at xb
  rw [hqa] at HA
  rw [hqb] at HB
  replace HA := Lib.hid HA
  replace HB := Lib.hid HB
  clear hq hqa hqb ea eb
  generalize l.length = len at *
  generalize klenL l = kl at *
  generalize vlenL l = vl at *
  go_enter Tryd.func63, Tryd.ntmps63
  go_wp2_with fail
  go_region_with (first
    | (go_at_call 48; with_reducible refine (HA.out _).mono ?_; rintro e w1 ⟨rfl, rfl⟩)
    | (go_at_call 48; with_reducible refine (HB.out _).mono ?_; rintro e w1 ⟨rfl, rfl⟩))
  all_goals
    go_wp2_with fail
    go_ret2
    exact ⟨rfl, (Upd.refl _ _).drew⟩
set_option maxRecDepth 20000 in
theorem sizeOf_any (l : List UInt8) (w : World) (hl : l.length ≤ 281474976710656) :
    Calls Tryd.prog 43 #[.string ⟨l.toArray⟩] w fun e w' => e = .returned (.tuple #[.int .i64 ((if 13 ≤ l.length then 17 + klenL l + vlenL l else 0 : Nat) : Int), .bool (decide (13 ≤ l.length))]) ∧ Upd noBlock w w' := by
  by_cases h13 : 13 ≤ l.length
  · have HL := fun W => lengths_any l W h13 hl
    have k1 := klen_lt l
    have k2 := vlen_lt l
    rw [if_pos h13, decide_eq_true h13]
    obtain ⟨q, hq⟩ : ∃ q : ByteArray, ⟨l.toArray⟩ = q := ⟨_, rfl⟩
    have hsz : q.size = l.length := by rw [← hq]; rfl
    rw [hq] at HL ⊢
    replace HL := Lib.hid HL
    clear hq
    have hn : l.length ≤ 9223372036854775807 := by omega
    have hlt : ¬ (l.length : Int) < 13 := by omega
    generalize l.length = len at *
    generalize klenL l = kl at *
    generalize vlenL l = vl at *
    go_enter Tryd.func43, Tryd.ntmps43
    go_wp2_with (go_at_call 63; with_reducible refine (HL.out _).mono ?_; rintro e w1 ⟨rfl, h⟩; have HA := Lib.hid h; clear h)
    go_ret2
    exact ⟨by
      have : ((17 + kl + vl : Nat) : Int) = 13 + (kl : Int) + (vl : Int) + 4 := by omega
      rw [this]; rfl, HA.out⟩
  · rw [if_neg h13, decide_eq_false h13]
    obtain ⟨q, hq⟩ : ∃ q : ByteArray, ⟨l.toArray⟩ = q := ⟨_, rfl⟩
    have hsz : q.size = l.length := by rw [← hq]; rfl
    rw [hq]
    clear hq
    have hn : l.length ≤ 9223372036854775807 := by omega
    have hlt : (l.length : Int) < 13 := by omega
    generalize l.length = len at *
    go_enter Tryd.func43, Tryd.ntmps43
    go_wp2_with fail
    go_ret2
    exact ⟨rfl, Upd.refl _ _⟩
end Go.Proofs.YthlheamnfjjamaaDoor
