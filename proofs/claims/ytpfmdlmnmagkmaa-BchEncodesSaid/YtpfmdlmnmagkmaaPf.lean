/- Walks over package poly: Mul where nothing or too much comes out; Mod. -/
import Derived.Test.YtpfmdlmnmagkmaaPe
namespace Go.Proofs.Ytpfmdlmnmagkmaa
open Go.RowKit Pm

set_option maxRecDepth 20000 in
set_option maxHeartbeats 800000 in
theorem pmul_zero (a : Option Addr) (len cap B : Nat) (xs : List Int) (a' : Option Addr) (len' cap' B' : Nat) (ys : List Int) (w : World) (hr : Ints w B a len xs) (hB : B ≤ w.heap.size) (hm : len ≤ maxLen)
    (hr' : Ints w B' a' len' ys) (hB' : B' ≤ w.heap.size) (hm' : len' ≤ maxLen) (hz : gat xs = 0 ∨ gat ys = 0) :
    Calls Try.prog 45 #[.slice a len cap, .slice a' len' cap'] w fun e w' => e = .returned (.tuple #[.slice none 0 0, .bool true]) ∧ Upd noBlock w w' := by
  have HR := Lib.hid hr
  have HR' := Lib.hid hr'
  clear hr hr'
  by_cases hx : gat xs = 0
  · have hl : (exps (gat xs)).length = 0 := by rw [hx, exps_zero]; rfl
    have HL := Lib.hid hl
    clear hx hl hz
    go_enter Try.func45, Try.ntmps45
    go_wp2_with fail
    refine (of_any a len cap B xs _ HR.out hB hm).mono ?_
    rintro e w1 ⟨v1, rfl, hv1, hu1⟩
    have HU1 := Lib.hid hu1
    obtain ⟨p1, c1, rfl, _, _, _⟩ := own_ints hv1.1
    clear hu1 hv1
    rw [HL.out]
    go_wp2_with fail
    refine (of_any a' len' cap' B' ys _ (HR'.out.grow HU1.out hB') (Nat.le_trans hB' HU1.out.size) hm').mono ?_
    rintro e w2 ⟨v2, rfl, hv2, hu2⟩
    have HU2 := Lib.hid (HU1.out.trans hu2)
    clear hu2 hv2
    go_wp2_with fail
    go_ret2
    exact ⟨rfl, HU2.out⟩
  · have hy : gat ys = 0 := by omega
    have hl : (exps (gat ys)).length = 0 := by rw [hy, exps_zero]; rfl
    have h1 : (((exps (gat xs)).length : Int) == 0) = false := by
      obtain ⟨t, _, _, _, e⟩ := exps_head _ hx (gat_lt xs)
      rw [e]; exact beq_eq_false_iff_ne.2 (by simp; omega)
    have HL := Lib.hid hl
    clear hx hl hz hy
    go_enter Try.func45, Try.ntmps45
    go_wp2_with fail
    refine (of_any a len cap B xs _ HR.out hB hm).mono ?_
    rintro e w1 ⟨v1, rfl, hv1, hu1⟩
    have HU1 := Lib.hid hu1
    obtain ⟨p1, c1, rfl, _, _, _⟩ := own_ints hv1.1
    clear hu1 hv1
    go_wp2_with fail
    refine (of_any a' len' cap' B' ys _ (HR'.out.grow HU1.out hB') (Nat.le_trans hB' HU1.out.size) hm').mono ?_
    rintro e w2 ⟨v2, rfl, hv2, hu2⟩
    have HU2 := Lib.hid (HU1.out.trans hu2)
    obtain ⟨p2, c2, rfl, _, _, _⟩ := own_ints hv2.1
    clear hu2 hv2
    rw [HL.out]
    go_wp2_with fail
    go_ret2
    exact ⟨rfl, HU2.out⟩

set_option maxRecDepth 20000 in
set_option maxHeartbeats 800000 in
theorem pmul_big (a : Option Addr) (len cap B : Nat) (xs : List Int) (a' : Option Addr) (len' cap' B' : Nat) (ys : List Int) (w : World) (hr : Ints w B a len xs) (hB : B ≤ w.heap.size) (hm : len ≤ maxLen)
    (hr' : Ints w B' a' len' ys) (hB' : B' ≤ w.heap.size) (hm' : len' ≤ maxLen) (s t : Nat) (hs1 : 2 ^ s ≤ gat xs) (hs2 : gat xs < 2 ^ (s + 1)) (ht1 : 2 ^ t ≤ gat ys) (ht2 : gat ys < 2 ^ (t + 1)) (hs : s ≤ 16384) (ht : t ≤ 16384) (hst : 16384 < s + t) :
    Calls Try.prog 45 #[.slice a len cap, .slice a' len' cap'] w fun e w' => e = .returned (.tuple #[.slice none 0 0, .bool false]) ∧ Upd noBlock w w' := by
  have HR := Lib.hid hr
  have HR' := Lib.hid hr'
  have HX := Lib.hid (exps_top (gat xs) s hs1 hs2 hs)
  have HY := Lib.hid (exps_top (gat ys) t ht1 ht2 ht)
  have t3 : decide ((16384 : Int) < (s : Int) + (t : Int)) = true := by simp; omega
  have t4 : IntKind.i64.wrap ((s : Int) + (t : Int)) = (s : Int) + (t : Int) := IntWalk.i64_in _ (by omega)
  clear hr hr' hs1 ht1 ht2 hs2 hst hs ht
  go_enter Try.func45, Try.ntmps45
  go_wp2_with fail
  refine (of_any a len cap B xs _ HR.out hB hm).mono ?_
  rintro e w1 ⟨v1, rfl, hv1, hu1⟩
  have HU1 := Lib.hid hu1
  have HV1 := Lib.hid hv1
  clear hu1 hv1
  go_wp2_with fail
  refine (of_any a' len' cap' B' ys _ (HR'.out.grow HU1.out hB') (Nat.le_trans hB' HU1.out.size) hm').mono ?_
  rintro e w2 ⟨v2, rfl, hv2, hu2⟩
  have HU2 := Lib.hid (HU1.out.trans hu2)
  obtain ⟨p1, c1, rfl, hi1, hm1, hb1⟩ := own_ints HV1.out.1
  obtain ⟨p2, c2, rfl, hi2, hm2, hb2⟩ := own_ints hv2.1
  have hi1' := hi1.grow hu2 (Nat.le_refl _)
  obtain ⟨g1, o1, rfl, hg1, hc1⟩ := hi1'.cell (by rw [HX.out]; simp)
  obtain ⟨g2, o2, rfl, hg2, hc2⟩ := hi2.cell (by rw [HY.out]; simp)
  have d1 : w2.cell? ⟨g1, o1, none⟩ = some (.int .i64 (s : Int)) := by have := hc1 0 (by rw [HX.out]; simp); rw [HX.out] at this; exact this
  have d2 : w2.cell? ⟨g2, o2, none⟩ = some (.int .i64 (t : Int)) := by have := hc2 0 (by rw [HY.out]; simp); rw [HY.out] at this; exact this
  have hl1 : 0 < (exps (gat xs)).length := by rw [HX.out]; simp
  have hl2 : 0 < (exps (gat ys)).length := by rw [HY.out]; simp
  clear hi1 hi1' hi2 hb1 hb2 hc1 hc2 hu2 hv2 HV1 HX HY
  generalize (exps (gat xs)).length = n1 at *
  generalize (exps (gat ys)).length = n2 at *
  have t1 : ((n1 : Int) == 0) = false := beq_eq_false_iff_ne.2 (by omega)
  have t2 : ((n2 : Int) == 0) = false := beq_eq_false_iff_ne.2 (by omega)
  clear hm1 hm2
  go_wp2_with fail
  go_quiet (fail)
  go_wp2_with fail
  go_ret2
  exact ⟨rfl, HU2.out.drewN _⟩

/-- the remainder, from the greatest exponent on: n steps -/
def rm (D d : Nat) : Nat → Nat → Nat
  | 0, R => R
  | n + 1, R => rm D d n (if R.testBit (d + n) then R ^^^ D * 2 ^ n else R)
def pmod (A D d : Nat) : Nat := rm D d (16385 - d) A
theorem rm_lt (D d n R : Nat) (hD : D < 2 ^ (d + 1)) (hn : d + n ≤ 16385) (hR : R < 2 ^ top) : rm D d n R < 2 ^ top := by
  induction n generalizing R with
  | zero => exact hR
  | succ n ih =>
    refine ih _ (by omega) ?_
    split
    · refine Nat.xor_lt_two_pow hR ?_
      have h2 : D * 2 ^ n < 2 ^ (d + 1) * 2 ^ n := Nat.mul_lt_mul_of_pos_right hD (Nat.two_pow_pos _)
      rw [← Nat.pow_add] at h2
      exact Nat.lt_of_lt_of_le h2 (Nat.pow_le_pow_right (by omega) (by unfold top; omega))
    · exact hR

theorem pmod_lt (A D d : Nat) (hD : D < 2 ^ (d + 1)) (hd : d ≤ 16384) (hA : A < 2 ^ top) : pmod A D d < 2 ^ top := rm_lt _ _ _ _ hD (by omega) hA
theorem pmod_def (A D d : Nat) : rm D d (16385 - d) A = pmod A D d := rfl
theorem rm_zero (D d R : Nat) : rm D d 0 R = R := rfl
theorem rm_succ (D d n R : Nat) : rm D d (n + 1) R = rm D d n (if R.testBit (d + n) then R ^^^ D * 2 ^ n else R) := rfl
attribute [local irreducible] Pm.exps rm pmod

end Go.Proofs.Ytpfmdlmnmagkmaa
