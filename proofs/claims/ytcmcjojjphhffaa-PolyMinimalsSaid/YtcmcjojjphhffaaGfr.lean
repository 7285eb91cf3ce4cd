/- Walks over the document's own answers for layer 1. -/
import Derived.Test.YtcmcjojjphhffaaRows
import Derived.Test.YtcmcjojjphhffaaLib
import Derived.Test.YtcmcjojjphhffaaGfm
import Derived.WalkKit
import Derived.Lib.Hide
import Derived.WalkSpells
import Derived.WalkLawsBesides
namespace Go.Proofs.Ytcmcjojjphhffaa
open Go.RowKit Gfm

def lowR (a : Int) : Nat := (a % 8192).toNat

set_option maxRecDepth 100000 in
theorem rLow_any (a : Int) (w : World) :
    Calls Try.prog 43 #[.int .i64 a] w fun e w' => e = .returned (.int .i64 (lowR a : Nat)) ∧ w = w' := by
  have hv : wrap64 ((IntKind.u64.wrap a).tmod 8192) = ((lowR a : Nat) : Int) := by
    rw [IntKind.wrap_u64, tmod_of_emod]
    unfold lowR wrap64; omega
  have Hv := Lib.hid hv
  clear hv
  go_enter Try.func43, Try.ntmps43
  go_wp2
  go_ret
  exact ⟨congrArg (fun x => Ending.returned (.int .i64 x)) Hv.out, rfl⟩

theorem Mf_step (a b i : Nat) (h : i < 13) : Mf a (13 - i) (b / 2 ^ i) = dbl (Mf a (13 - (i + 1)) (b / 2 ^ (i + 1))) ^^^ (if b / 2 ^ i % 2 = 1 then a else 0) := by
  have e : 13 - i = (13 - (i + 1)) + 1 := by omega
  rw [e, Mf, Nat.div_div_eq_div_mul, ← Nat.pow_succ]

set_option maxRecDepth 100000 in
set_option maxHeartbeats 1600000 in
theorem rMul_any (a b : Int) (w : World) :
    Calls Try.prog 33 #[.int .i64 a, .int .i64 b] w fun e w' => e = .returned (.int .i64 (mul (lowR a) (lowR b) : Nat)) ∧ w = w' := by
  have ha : lowR a < 8192 := by unfold lowR; omega
  have hb : lowR b < 8192 := by unfold lowR; omega
  go_enter Try.func33, Try.ntmps33
  go_wp2_with (go_at_call 43; refine (rLow_any _ _).mono ?_; rintro e w1 ⟨rfl, rfl⟩)
  generalize hx : lowR a = x at *
  generalize hy : lowR b = y at *
  have Hx := Lib.hid hx
  have Hy := Lib.hid hy
  clear hx hy
  go_loop [5, 6] (fun o i => ∃ k : Nat, k ≤ 13 ∧ i = .int .i64 ((k : Int) - 1) ∧ o = .int .i64 ((Mf x (13 - k) (y / 2 ^ k) : Nat) : Int)) (fun _ i => (intOf i + 1).toNat)
  case atStart => exact ⟨13, by omega, rfl, rfl⟩
  case round =>
    obtain ⟨k, hk, rfl, rfl⟩ := hrel
    by_cases h0 : 0 < k
    · obtain ⟨i, rfl⟩ : ∃ i, k = i + 1 := ⟨k - 1, by omega⟩
      have hs := Mf_step x y i (by omega)
      have ho := Mf_lt x (13 - (i + 1)) (y / 2 ^ (i + 1)) ha
      generalize Mf x (13 - (i + 1)) (y / 2 ^ (i + 1)) = o at *
      have e1 : ((i + 1 : Nat) : Int) - 1 = (i : Int) := by omega
      rw [e1]
      have HS := Lib.hid hs
      have hi : i < 13 := by omega
      clear hs h0 hk e1
      have hd := dbl_lt o ho
      have hxx := xor_lt _ _ hd ha
      have mB : bits .and .i64 ((y : Int) / 2 ^ i) 1 = ((y / 2 ^ i % 2 : Nat) : Int) := by
        have e : (y : Int) / 2 ^ i = ((y / 2 ^ i : Nat) : Int) := by rw [Int.natCast_ediv]; norm_cast
        rw [e]
        have := i64_mask ((y / 2 ^ i : Nat) : Int) 1 (by omega)
        rw [show ((2 ^ 1 - 1 : Nat) : Int) = 1 from rfl] at this
        rw [this]; omega
      have mY : bits .xor .i64 ((dbl o : Nat) : Int) (x : Int) = ((dbl o ^^^ x : Nat) : Int) := i64_xor_nat _ _ (by omega) (by omega)
      by_cases h1 : 4096 ≤ o
      · have mX : bits .xor .i64 ((o : Int) * 2) 8219 = ((dbl o : Nat) : Int) := by
          have := i64_xor_nat (2 * o) 8219 (by omega) (by omega)
          unfold dbl
          rw [if_pos (by omega), ← this, Int.mul_comm]
          rfl
        by_cases h2 : y / 2 ^ i % 2 = 1
        · have t1 : (bits .and .i64 ((y : Int) / 2 ^ i) 1 == 1) = true := by rw [mB, h2]; rfl
          have HV : Hid (Mf x (13 - i) (y / 2 ^ i) = dbl o ^^^ x) := by have := HS.out; rw [if_pos h2] at this; exact this
          clear HS h2 mB
          go_wp2
          go_round
          case rel => exact ⟨i, by omega, rfl, by rw [HV.out]⟩
          case measure => simp [intOf]
        · have t1 : (bits .and .i64 ((y : Int) / 2 ^ i) 1 == 1) = false := by rw [mB]; exact beq_eq_false_iff_ne.2 (fun e => h2 (by exact_mod_cast e))
          have HV : Hid (Mf x (13 - i) (y / 2 ^ i) = dbl o) := by have := HS.out; rw [if_neg h2, Nat.xor_zero] at this; exact this
          clear HS h2 mB
          go_wp2
          go_round
          case rel => exact ⟨i, by omega, rfl, by rw [HV.out]⟩
          case measure => simp [intOf]
      · have mX : (o : Int) * 2 = ((dbl o : Nat) : Int) := by
          unfold dbl
          rw [if_neg (by omega)]; omega
        by_cases h2 : y / 2 ^ i % 2 = 1
        · have t1 : (bits .and .i64 ((y : Int) / 2 ^ i) 1 == 1) = true := by rw [mB, h2]; rfl
          have HV : Hid (Mf x (13 - i) (y / 2 ^ i) = dbl o ^^^ x) := by have := HS.out; rw [if_pos h2] at this; exact this
          clear HS h2 mB
          go_wp2
          go_round
          case rel => exact ⟨i, by omega, rfl, by rw [HV.out]⟩
          case measure => simp [intOf]
        · have t1 : (bits .and .i64 ((y : Int) / 2 ^ i) 1 == 1) = false := by rw [mB]; exact beq_eq_false_iff_ne.2 (fun e => h2 (by exact_mod_cast e))
          have HV : Hid (Mf x (13 - i) (y / 2 ^ i) = dbl o) := by have := HS.out; rw [if_neg h2, Nat.xor_zero] at this; exact this
          clear HS h2 mB
          go_wp2
          go_round
          case rel => exact ⟨i, by omega, rfl, by rw [HV.out]⟩
          case measure => simp [intOf]
    · obtain rfl : k = 0 := by omega
      have e1 : ((0 : Nat) : Int) - 1 = -1 := by omega
      rw [e1]
      go_wp2
      go_ret
      exact ⟨by rw [Hx.out, Hy.out]; simp [mul], rfl⟩

/-! powers by squares -/
theorem npow_mul_self (a n : Nat) (ha : a < 8192) : npow (mul a a) n = npow a (2 * n) := by
  rcases elem a ha with rfl | ⟨i, _, rfl⟩
  · rw [mul_zero]
    cases n with
    | zero => rfl
    | succ n =>
      have e : 2 * (n + 1) = (2 * n + 1) + 1 := by omega
      rw [e, npow, npow, mul_zero, mul_zero]
  · rw [mul_pw, npow_pw, npow_pw]; exact congrArg pw (by rw [← Nat.two_mul, Nat.mul_assoc, Nat.mul_left_comm])
theorem npow_step (o a n : Nat) (ho : o < 8192) (ha : a < 8192) :
    mul o (npow a n) = if n % 2 = 1 then mul (mul o a) (npow (mul a a) (n / 2)) else mul o (npow (mul a a) (n / 2)) := by
  rw [npow_mul_self a _ ha]
  by_cases h : n % 2 = 1
  · rw [if_pos h]
    have e : n = 2 * (n / 2) + 1 := by omega
    have hl := npow_lt a (2 * (n / 2))
    rw [mul_assoc _ _ _ ho ha hl, mul_comm a _ ha hl, ← npow]
    exact congrArg (fun k => mul o (npow a k)) e
  · rw [if_neg h]
    have e : 2 * (n / 2) = n := by omega
    rw [e]

theorem lowR_nat (a : Nat) (h : a < 8192) : lowR (a : Int) = a := by unfold lowR; omega

set_option maxRecDepth 100000 in
set_option maxHeartbeats 1600000 in
theorem rPow_any (a n : Int) (w : World) (hn : 0 ≤ n) (hn2 : n ≤ 9223372036854775807) :
    Calls Try.prog 35 #[.int .i64 a, .int .i64 n] w fun e w' => e = .returned (.int .i64 (npow (lowR a) n.toNat : Nat)) ∧ w = w' := by
  have ha : lowR a < 8192 := by unfold lowR; omega
  obtain ⟨m, rfl⟩ := Int.eq_ofNat_of_zero_le hn
  rw [Int.toNat_natCast]
  go_enter Try.func35, Try.ntmps35
  go_wp2_with (go_at_call 43; refine (rLow_any _ _).mono ?_; rintro e w1 ⟨rfl, rfl⟩)
  go_loop [0, 1, 5] (fun x n o => ∃ x' n' o' : Nat, x = .int .i64 (x' : Int) ∧ n = .int .i64 (n' : Int) ∧ o = .int .i64 (o' : Int) ∧ x' < 8192 ∧ o' < 8192 ∧ (n' : Int) ≤ 9223372036854775807 ∧ mul o' (npow x' n') = npow (lowR a) m) (fun _ n _ => (intOf n).toNat)
  case atStart =>
    refine ⟨lowR a, m, 1, rfl, rfl, rfl, ha, by omega, hn2, ?_⟩
    rw [mul_comm _ _ (by omega) (npow_lt _ _), mul_one]
  case round =>
    obtain ⟨x, k, o, rfl, rfl, rfl, hx, ho, hk, hv⟩ := hrel
    have HV := Lib.hid hv
    have hst := Lib.hid (npow_step o x k ho hx)
    have lx := Lib.hid (lowR_nat x hx)
    have lo := Lib.hid (lowR_nat o ho)
    clear hv
    by_cases h0 : 0 < k
    · by_cases h1 : k % 2 = 1
      · have t1 : ((k : Int) % 2 == 1) = true := by rw [beq_iff_eq]; omega
        go_wp2_with fail
        refine (rMul_any _ _ _).mono ?_
        rintro e w1 ⟨rfl, rfl⟩
        go_wp2_with fail
        refine (rMul_any _ _ _).mono ?_
        rintro e w1 ⟨rfl, rfl⟩
        go_wp2_with fail
        go_round
        case rel =>
          rw [lx.out, lo.out]
          refine ⟨mul x x, k / 2, mul o x, rfl, by go_num, rfl, mul_lt _ _ hx, mul_lt _ _ ho, by omega, ?_⟩
          rw [← HV.out, hst.out, if_pos h1]
        case measure => simp [intOf]; omega
      · have t1 : ((k : Int) % 2 == 1) = false := beq_eq_false_iff_ne.2 (by omega)
        go_wp2_with fail
        refine (rMul_any _ _ _).mono ?_
        rintro e w1 ⟨rfl, rfl⟩
        go_wp2_with fail
        go_round
        case rel =>
          rw [lx.out]
          refine ⟨mul x x, k / 2, o, rfl, by go_num, rfl, mul_lt _ _ hx, ho, by omega, ?_⟩
          rw [← HV.out, hst.out, if_neg h1]
        case measure => simp [intOf]; omega
    · obtain rfl : k = 0 := by omega
      have e : o = npow (lowR a) m := by
        have := HV.out
        rw [show npow x 0 = 1 from rfl, mul_one] at this
        exact this
      have HE := Lib.hid e
      clear e
      go_wp2
      go_ret
      exact ⟨by rw [← HE.out]; rfl, rfl⟩

def invR (a : Nat) : Nat := if a = 0 then 0 else npow a 8190
end Go.Proofs.Ytcmcjojjphhffaa
