/- The document's Mul where nothing or too much comes out; the law PolyProducts, walked. -/
import Derived.Test.YtpfmdlmnmagkmaaPn
import Derived.Test.YtpfmdlmnmagkmaaPk
namespace Go.Proofs.Ytpfmdlmnmagkmaa
open Go.RowKit Pm
attribute [local irreducible] Pm.exps pmul

set_option maxRecDepth 20000 in
set_option maxHeartbeats 800000 in
theorem rMul2_zero (a : Option Addr) (len cap B : Nat) (xs : List Int) (a' : Option Addr) (len' cap' B' : Nat) (ys : List Int) (w : World) (hr : Ints w B a len xs) (hB : B ≤ w.heap.size) (hm : len ≤ maxLen)
    (hr' : Ints w B' a' len' ys) (hB' : B' ≤ w.heap.size) (hm' : len' ≤ maxLen) (hz : gat xs = 0 ∨ gat ys = 0) :
    Calls Try.prog 38 #[.slice a len cap, .slice a' len' cap'] w fun e w' => e = .returned (.tuple #[.slice none 0 0, .bool true]) ∧ Upd noBlock w w' := by
  have HR := Lib.hid hr
  have HR' := Lib.hid hr'
  clear hr hr'
  by_cases hx : gat xs = 0
  · have HL : Hid ((exps (gat xs)).length = 0) := by rw [hx, exps_zero]; exact rfl
    clear hx hz
    go_enter Try.func38, Try.ntmps38
    go_wp2_with fail
    refine (rBits_any a len cap B xs _ HR.out hB hm).mono ?_
    rintro e w1 ⟨rfl, hb1, hu1⟩
    have HB1 := Lib.hid hb1
    have HU1 := Lib.hid hu1
    clear hb1 hu1
    go_wp2_with fail
    refine (rList_any w.heap.size (gat xs) _ HB1.out (gat_lt xs)).mono ?_
    rintro e w2 ⟨v2, rfl, hv2, hu2⟩
    have HU2 := Lib.hid (HU1.out.trans hu2)
    obtain ⟨p2, c2, rfl, hi2, m2, _⟩ := own_ints hv2.1
    have HI2 := Lib.hid hi2
    clear hu2 hv2 hi2 HB1 HU1
    rw [HL.out]
    go_wp2_with fail
    refine (rBits_any a' len' cap' B' ys _ (HR'.out.grow HU2.out hB') (Nat.le_trans hB' HU2.out.size) hm').mono ?_
    rintro e w3 ⟨rfl, hb3, hu3⟩
    have HB3 := Lib.hid hb3
    have HU3 := Lib.hid (HU2.out.trans hu3)
    have HI3 := Lib.hid ((HI2.out.grow hu3 (Nat.le_refl _)).more hu3.size)
    clear hb3 hu3 HU2 HI2
    go_wp2_with fail
    refine (rList_any w2.heap.size (gat ys) _ HB3.out (gat_lt ys)).mono ?_
    rintro e w4 ⟨v4, rfl, hv4, hu4⟩
    have HU4 := Lib.hid (HU3.out.trans hu4)
    obtain ⟨p4, c4, rfl, hi4, m4, _⟩ := own_ints hv4.1
    have HJ4 := Lib.hid hi4
    have HI4 := Lib.hid ((HI3.out.grow hu4 (Nat.le_refl _)).more hu4.size)
    clear hu4 hv4 hi4 HB3 HU3 HI3
    go_wp2_with fail
    go_ret2
    exact ⟨rfl, HU4.out⟩
  · have hy : gat ys = 0 := by omega
    have HL : Hid ((exps (gat ys)).length = 0) := by rw [hy, exps_zero]; exact rfl
    have h1 : (((exps (gat xs)).length : Int) == 0) = false := by
      obtain ⟨t, _, _, _, e⟩ := exps_head _ hx (gat_lt xs)
      rw [e]; exact beq_eq_false_iff_ne.2 (by simp; omega)
    clear hx hz hy
    go_enter Try.func38, Try.ntmps38
    go_wp2_with fail
    refine (rBits_any a len cap B xs _ HR.out hB hm).mono ?_
    rintro e w1 ⟨rfl, hb1, hu1⟩
    have HB1 := Lib.hid hb1
    have HU1 := Lib.hid hu1
    clear hb1 hu1
    go_wp2_with fail
    refine (rList_any w.heap.size (gat xs) _ HB1.out (gat_lt xs)).mono ?_
    rintro e w2 ⟨v2, rfl, hv2, hu2⟩
    have HU2 := Lib.hid (HU1.out.trans hu2)
    obtain ⟨p2, c2, rfl, hi2, m2, _⟩ := own_ints hv2.1
    have HI2 := Lib.hid hi2
    clear hu2 hv2 hi2 HB1 HU1
    go_wp2_with fail
    refine (rBits_any a' len' cap' B' ys _ (HR'.out.grow HU2.out hB') (Nat.le_trans hB' HU2.out.size) hm').mono ?_
    rintro e w3 ⟨rfl, hb3, hu3⟩
    have HB3 := Lib.hid hb3
    have HU3 := Lib.hid (HU2.out.trans hu3)
    have HI3 := Lib.hid ((HI2.out.grow hu3 (Nat.le_refl _)).more hu3.size)
    clear hb3 hu3 HU2 HI2
    go_wp2_with fail
    refine (rList_any w2.heap.size (gat ys) _ HB3.out (gat_lt ys)).mono ?_
    rintro e w4 ⟨v4, rfl, hv4, hu4⟩
    have HU4 := Lib.hid (HU3.out.trans hu4)
    obtain ⟨p4, c4, rfl, hi4, m4, _⟩ := own_ints hv4.1
    have HJ4 := Lib.hid hi4
    have HI4 := Lib.hid ((HI3.out.grow hu4 (Nat.le_refl _)).more hu4.size)
    clear hu4 hv4 hi4 HB3 HU3 HI3
    rw [HL.out]
    go_wp2_with fail
    go_ret2
    exact ⟨rfl, HU4.out⟩

set_option maxRecDepth 20000 in
set_option maxHeartbeats 800000 in
theorem rMul2_big (a : Option Addr) (len cap B : Nat) (xs : List Int) (a' : Option Addr) (len' cap' B' : Nat) (ys : List Int) (w : World) (hr : Ints w B a len xs) (hB : B ≤ w.heap.size) (hm : len ≤ maxLen)
    (hr' : Ints w B' a' len' ys) (hB' : B' ≤ w.heap.size) (hm' : len' ≤ maxLen) (s t : Nat) (hs1 : 2 ^ s ≤ gat xs) (hs2 : gat xs < 2 ^ (s + 1)) (ht1 : 2 ^ t ≤ gat ys) (ht2 : gat ys < 2 ^ (t + 1)) (hs : s ≤ 16384) (ht : t ≤ 16384) (hst : 16384 < s + t) :
    Calls Try.prog 38 #[.slice a len cap, .slice a' len' cap'] w fun e w' => e = .returned (.tuple #[.slice none 0 0, .bool false]) ∧ Upd noBlock w w' := by
  have HR := Lib.hid hr
  have HR' := Lib.hid hr'
  have HX := Lib.hid (exps_top (gat xs) s hs1 hs2 hs)
  have HY := Lib.hid (exps_top (gat ys) t ht1 ht2 ht)
  have t3 : decide ((16384 : Int) < (s : Int) + (t : Int)) = true := decide_eq_true (by omega)
  have t4 : IntKind.i64.wrap ((s : Int) + (t : Int)) = (s : Int) + (t : Int) := IntWalk.i64_in _ (by omega)
  clear hr hr' hs1 ht1 ht2 hs2 hst hs ht
  go_enter Try.func38, Try.ntmps38
  go_wp2_with fail
  refine (rBits_any a len cap B xs _ HR.out hB hm).mono ?_
  rintro e w1 ⟨rfl, hb1, hu1⟩
  have HB1 := Lib.hid hb1
  have HU1 := Lib.hid hu1
  clear hb1 hu1
  go_wp2_with fail
  refine (rList_any w.heap.size (gat xs) _ HB1.out (gat_lt xs)).mono ?_
  rintro e w2 ⟨v2, rfl, hv2, hu2⟩
  have HU2 := Lib.hid (HU1.out.trans hu2)
  obtain ⟨p2, c2, rfl, hi2, m2, _⟩ := own_ints hv2.1
  have HI2 := Lib.hid hi2
  clear hu2 hv2 hi2 HB1 HU1
  go_wp2_with fail
  refine (rBits_any a' len' cap' B' ys _ (HR'.out.grow HU2.out hB') (Nat.le_trans hB' HU2.out.size) hm').mono ?_
  rintro e w3 ⟨rfl, hb3, hu3⟩
  have HB3 := Lib.hid hb3
  have HU3 := Lib.hid (HU2.out.trans hu3)
  have HI3 := Lib.hid ((HI2.out.grow hu3 (Nat.le_refl _)).more hu3.size)
  clear hb3 hu3 HU2 HI2
  go_wp2_with fail
  refine (rList_any w2.heap.size (gat ys) _ HB3.out (gat_lt ys)).mono ?_
  rintro e w4 ⟨v4, rfl, hv4, hu4⟩
  have HU4 := Lib.hid (HU3.out.trans hu4)
  obtain ⟨p4, c4, rfl, hi4, m4, _⟩ := own_ints hv4.1
  have HJ4 := Lib.hid hi4
  have HI4 := Lib.hid ((HI3.out.grow hu4 (Nat.le_refl _)).more hu4.size)
  clear hu4 hv4 hi4 HB3 HU3 HI3
  obtain ⟨g1, o1, rfl, _, hc1⟩ := HI4.out.cell (by rw [HX.out]; simp)
  obtain ⟨g2, o2, rfl, _, hc2⟩ := HJ4.out.cell (by rw [HY.out]; simp)
  have d1 : w4.cell? ⟨g1, o1, none⟩ = some (.int .i64 (s : Int)) := by have := hc1 0 (by rw [HX.out]; simp); rw [HX.out] at this; exact this
  have d2 : w4.cell? ⟨g2, o2, none⟩ = some (.int .i64 (t : Int)) := by have := hc2 0 (by rw [HY.out]; simp); rw [HY.out] at this; exact this
  have hl1 : 0 < (exps (gat xs)).length := by rw [HX.out]; simp
  have hl2 : 0 < (exps (gat ys)).length := by rw [HY.out]; simp
  clear hc1 hc2 HI4 HJ4 HX HY m2 m4
  generalize (exps (gat xs)).length = n1 at *
  generalize (exps (gat ys)).length = n2 at *
  have t1 : ((n1 : Int) == 0) = false := beq_eq_false_iff_ne.2 (by omega)
  have t2 : ((n2 : Int) == 0) = false := beq_eq_false_iff_ne.2 (by omega)
  go_wp2_with fail
  go_quiet (fail)
  go_wp2_with fail
  go_ret2
  exact ⟨rfl, HU4.out.drewN _⟩

end Go.Proofs.Ytpfmdlmnmagkmaa
