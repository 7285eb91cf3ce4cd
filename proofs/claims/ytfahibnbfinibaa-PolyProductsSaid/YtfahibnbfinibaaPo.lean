/- The document's Mul where nothing or too much comes out; the law PolyProducts, walked. -/
import Derived.Test.YtfahibnbfinibaaPn
import Derived.Test.YtfahibnbfinibaaPk
namespace Go.Proofs.Ytfahibnbfinibaa
open Go.RowKit Pm
attribute [local irreducible] Pm.exps pmul

set_option maxRecDepth 20000 in
set_option maxHeartbeats 800000 in
theorem rMul2_zero (a : Option Addr) (len cap B : Nat) (xs : List Int) (a' : Option Addr) (len' cap' B' : Nat) (ys : List Int) (w : World) (hr : Ints w B a len xs) (hB : B ≤ w.heap.size) (hm : len ≤ maxLen)
    (hr' : Ints w B' a' len' ys) (hB' : B' ≤ w.heap.size) (hm' : len' ≤ maxLen) (hz : gat xs = 0 ∨ gat ys = 0) :
    Calls Try.prog 37 #[.slice a len cap, .slice a' len' cap'] w fun e w' => e = .returned (.tuple #[.slice none 0 0, .bool true]) ∧ Upd noBlock w w' := by
  have HR := Lib.hid hr
  have HR' := Lib.hid hr'
  clear hr hr'
  by_cases hx : gat xs = 0
  · have HL : Hid ((exps (gat xs)).length = 0) := by rw [hx, exps_zero]; exact rfl
    clear hx hz
    go_enter Try.func37, Try.ntmps37
    go_wp2_with fail
    refine (rBits_any a len cap B xs _ HR.out hB hm).mono ?_
    rintro e w1 ⟨rfl, hb1, hu1⟩
    have HB1 := Lib.hid hb1
    have HU1 := Lib.hid hu1
    clear hb1 hu1
    go_wp2_with fail
    refine (rList_any w.heap.size (gat xs) _ HB1.out (gat_lt xs)).mono ?_
    rintro e w2 ⟨v2, rfl, hv2, hu2⟩
    have HU2 := Lib.hid (HU1.out.trans hu2)
    obtain ⟨p2, c2, rfl, hi2, m2, _⟩ := own_ints hv2.1
    have HI2 := Lib.hid hi2
    clear hu2 hv2 hi2 HB1 HU1
    rw [HL.out]
    go_wp2_with fail
    refine (rBits_any a' len' cap' B' ys _ (HR'.out.grow HU2.out hB') (Nat.le_trans hB' HU2.out.size) hm').mono ?_
    rintro e w3 ⟨rfl, hb3, hu3⟩
    have HB3 := Lib.hid hb3
    have HU3 := Lib.hid (HU2.out.trans hu3)
    have HI3 := Lib.hid ((HI2.out.grow hu3 (Nat.le_refl _)).more hu3.size)
    clear hb3 hu3 HU2 HI2
    go_wp2_with fail
    refine (rList_any w2.heap.size (gat ys) _ HB3.out (gat_lt ys)).mono ?_
    rintro e w4 ⟨v4, rfl, hv4, hu4⟩
    have HU4 := Lib.hid (HU3.out.trans hu4)
    obtain ⟨p4, c4, rfl, hi4, m4, _⟩ := own_ints hv4.1
    have HJ4 := Lib.hid hi4
    have HI4 := Lib.hid ((HI3.out.grow hu4 (Nat.le_refl _)).more hu4.size)
    clear hu4 hv4 hi4 HB3 HU3 HI3
    go_wp2_with fail
    go_ret2
    exact ⟨rfl, HU4.out⟩
  · have hy : gat ys = 0 := by omega
    have HL : Hid ((exps (gat ys)).length = 0) := by rw [hy, exps_zero]; exact rfl
    have h1 : (((exps (gat xs)).length : Int) == 0) = false := by
      obtain ⟨t, _, _, _, e⟩ := exps_head _ hx (gat_lt xs)
      rw [e]; exact beq_eq_false_iff_ne.2 (by simp; omega)
    clear hx hz hy
    go_enter Try.func37, Try.ntmps37
    go_wp2_with fail
    refine (rBits_any a len cap B xs _ HR.out hB hm).mono ?_
    rintro e w1 ⟨rfl, hb1, hu1⟩
    have HB1 := Lib.hid hb1
    have HU1 := Lib.hid hu1
    clear hb1 hu1
    go_wp2_with fail
    refine (rList_any w.heap.size (gat xs) _ HB1.out (gat_lt xs)).mono ?_
    rintro e w2 ⟨v2, rfl, hv2, hu2⟩
    have HU2 := Lib.hid (HU1.out.trans hu2)
    obtain ⟨p2, c2, rfl, hi2, m2, _⟩ := own_ints hv2.1
    have HI2 := Lib.hid hi2
    clear hu2 hv2 hi2 HB1 HU1
    go_wp2_with fail
    refine (rBits_any a' len' cap' B' ys _ (HR'.out.grow HU2.out hB') (Nat.le_trans hB' HU2.out.size) hm').mono ?_
    rintro e w3 ⟨rfl, hb3, hu3⟩
    have HB3 := Lib.hid hb3
    have HU3 := Lib.hid (HU2.out.trans hu3)
    have HI3 := Lib.hid ((HI2.out.grow hu3 (Nat.le_refl _)).more hu3.size)
    clear hb3 hu3 HU2 HI2
    go_wp2_with fail
    refine (rList_any w2.heap.size (gat ys) _ HB3.out (gat_lt ys)).mono ?_
    rintro e w4 ⟨v4, rfl, hv4, hu4⟩
    have HU4 := Lib.hid (HU3.out.trans hu4)
    obtain ⟨p4, c4, rfl, hi4, m4, _⟩ := own_ints hv4.1
    have HJ4 := Lib.hid hi4
    have HI4 := Lib.hid ((HI3.out.grow hu4 (Nat.le_refl _)).more hu4.size)
    clear hu4 hv4 hi4 HB3 HU3 HI3
    rw [HL.out]
    go_wp2_with fail
    go_ret2
    exact ⟨rfl, HU4.out⟩

set_option maxRecDepth 20000 in
set_option maxHeartbeats 800000 in
theorem rMul2_big (a : Option Addr) (len cap B : Nat) (xs : List Int) (a' : Option Addr) (len' cap' B' : Nat) (ys : List Int) (w : World) (hr : Ints w B a len xs) (hB : B ≤ w.heap.size) (hm : len ≤ maxLen)
    (hr' : Ints w B' a' len' ys) (hB' : B' ≤ w.heap.size) (hm' : len' ≤ maxLen) (s t : Nat) (hs1 : 2 ^ s ≤ gat xs) (hs2 : gat xs < 2 ^ (s + 1)) (ht1 : 2 ^ t ≤ gat ys) (ht2 : gat ys < 2 ^ (t + 1)) (hs : s ≤ 16384) (ht : t ≤ 16384) (hst : 16384 < s + t) :
    Calls Try.prog 37 #[.slice a len cap, .slice a' len' cap'] w fun e w' => e = .returned (.tuple #[.slice none 0 0, .bool false]) ∧ Upd noBlock w w' := by
  have HR := Lib.hid hr
  have HR' := Lib.hid hr'
  have HX := Lib.hid (exps_top (gat xs) s hs1 hs2 hs)
  have HY := Lib.hid (exps_top (gat ys) t ht1 ht2 ht)
  have t3 : decide ((16384 : Int) < (s : Int) + (t : Int)) = true := decide_eq_true (by omega)
  have t4 : IntKind.i64.wrap ((s : Int) + (t : Int)) = (s : Int) + (t : Int) := IntWalk.i64_in _ (by omega)
  clear hr hr' hs1 ht1 ht2 hs2 hst hs ht
  go_enter Try.func37, Try.ntmps37
  go_wp2_with fail
  refine (rBits_any a len cap B xs _ HR.out hB hm).mono ?_
  rintro e w1 ⟨rfl, hb1, hu1⟩
  have HB1 := Lib.hid hb1
  have HU1 := Lib.hid hu1
  clear hb1 hu1
  go_wp2_with fail
  refine (rList_any w.heap.size (gat xs) _ HB1.out (gat_lt xs)).mono ?_
  rintro e w2 ⟨v2, rfl, hv2, hu2⟩
  have HU2 := Lib.hid (HU1.out.trans hu2)
  obtain ⟨p2, c2, rfl, hi2, m2, _⟩ := own_ints hv2.1
  have HI2 := Lib.hid hi2
  clear hu2 hv2 hi2 HB1 HU1
  go_wp2_with fail
  refine (rBits_any a' len' cap' B' ys _ (HR'.out.grow HU2.out hB') (Nat.le_trans hB' HU2.out.size) hm').mono ?_
  rintro e w3 ⟨rfl, hb3, hu3⟩
  have HB3 := Lib.hid hb3
  have HU3 := Lib.hid (HU2.out.trans hu3)
  have HI3 := Lib.hid ((HI2.out.grow hu3 (Nat.le_refl _)).more hu3.size)
  clear hb3 hu3 HU2 HI2
  go_wp2_with fail
  refine (rList_any w2.heap.size (gat ys) _ HB3.out (gat_lt ys)).mono ?_
  rintro e w4 ⟨v4, rfl, hv4, hu4⟩
  have HU4 := Lib.hid (HU3.out.trans hu4)
  obtain ⟨p4, c4, rfl, hi4, m4, _⟩ := own_ints hv4.1
  have HJ4 := Lib.hid hi4
  have HI4 := Lib.hid ((HI3.out.grow hu4 (Nat.le_refl _)).more hu4.size)
  clear hu4 hv4 hi4 HB3 HU3 HI3
  obtain ⟨g1, o1, rfl, _, hc1⟩ := HI4.out.cell (by rw [HX.out]; simp)
  obtain ⟨g2, o2, rfl, _, hc2⟩ := HJ4.out.cell (by rw [HY.out]; simp)
  have d1 : w4.cell? ⟨g1, o1, none⟩ = some (.int .i64 (s : Int)) := by have := hc1 0 (by rw [HX.out]; simp); rw [HX.out] at this; exact this
  have d2 : w4.cell? ⟨g2, o2, none⟩ = some (.int .i64 (t : Int)) := by have := hc2 0 (by rw [HY.out]; simp); rw [HY.out] at this; exact this
  have hl1 : 0 < (exps (gat xs)).length := by rw [HX.out]; simp
  have hl2 : 0 < (exps (gat ys)).length := by rw [HY.out]; simp
  clear hc1 hc2 HI4 HJ4 HX HY m2 m4
  generalize (exps (gat xs)).length = n1 at *
  generalize (exps (gat ys)).length = n2 at *
  have t1 : ((n1 : Int) == 0) = false := beq_eq_false_iff_ne.2 (by omega)
  have t2 : ((n2 : Int) == 0) = false := beq_eq_false_iff_ne.2 (by omega)
  go_wp2_with fail
  go_quiet (fail)
  go_wp2_with fail
  go_ret2
  exact ⟨rfl, HU4.out.drewN _⟩

set_option maxRecDepth 20000 in
set_option maxHeartbeats 1600000 in
theorem polyProducts_walk (a0 : Option Addr) (len0 cap0 : Nat) (z0 : List Int) (a1 : Option Addr) (len1 cap1 : Nat) (z1 : List Int) (w : World)
    (w0 : IsRow .i64 w a0 len0 cap0 z0) (s0 : cap0 * 8 ≤ 140737488351232) (w1 : IsRow .i64 w a1 len1 cap1 z1) (s1 : cap1 * 8 ≤ 140737488351232) :
    Calls Try.prog 11 #[.slice a0 len0 cap0, .slice a1 len1 cap1] w fun e w' => e = .returned (.bool true) ∧ Below w.heap.size w w' := by
  have hnot : ∀ (x : Bool) (w : World), (Op.unary .not (.bool x)).run Try.prog w = .ok (.bool (!x)) w := fun _ _ => rfl
  have l0 := row_len w0
  have l1 := row_len w1
  have LA0 := Lib.hid w0.ints.1
  have LB0 := Lib.hid w1.ints.1
  have LM0 := Lib.hid w0.ints.2
  have LM1 := Lib.hid w1.ints.2
  have HU0 : Hid (Upd noBlock w w) := Upd.refl _ _
  generalize z0.take len0 = x0 at LA0
  generalize z1.take len1 = x1 at LB0
  clear w0 w1
  by_cases hz : gat x0 = 0 ∨ gat x1 = 0
  · have HZ := Lib.hid hz
    clear hz
    go_enter Try.func11, Try.ntmps11
    go_wp2_with fail
    refine (speaks2_any _).mono ?_
    rintro e v1 ⟨rfl, hu⟩
    have LA1 := Lib.hid (LA0.out.next hu)
    have LB1 := Lib.hid (LB0.out.next hu)
    have HU1 := Lib.hid (HU0.out.trans hu)
    clear hu HU0 LA0 LB0
    go_wp2_with fail
    refine (copied_any a0 len0 cap0 _ x0 _ LA1.out (Nat.le_refl _) (by omega)).mono ?_
    rintro e v2 ⟨r2, rfl, ho, hu⟩
    obtain ⟨p2, c2, rfl, hi, m2, _⟩ := own_ints ho
    have CA2 := Lib.hid hi
    clear ho hi
    have LA2 := Lib.hid (LA1.out.next hu)
    have LB2 := Lib.hid (LB1.out.next hu)
    have HU2 := Lib.hid (HU1.out.trans hu)
    clear hu HU1 LA1 LB1
    go_wp2_with fail
    refine (copied_any a1 len1 cap1 _ x1 _ LB2.out (Nat.le_refl _) (by omega)).mono ?_
    rintro e v3 ⟨r3, rfl, ho, hu⟩
    obtain ⟨p3, c3, rfl, hi, m3, _⟩ := own_ints ho
    have CB3 := Lib.hid hi
    clear ho hi
    have LA3 := Lib.hid (LA2.out.next hu)
    have LB3 := Lib.hid (LB2.out.next hu)
    have CA3 := Lib.hid (CA2.out.next hu)
    have HU3 := Lib.hid (HU2.out.trans hu)
    clear hu HU2 LA2 LB2 CA2
    go_wp2_with fail
    refine (pmul_zero p2 len0 c2 _ x0 p3 len1 c3 _ x1 _ CA3.out (Nat.le_refl _) m2 CB3.out (Nat.le_refl _) m3 HZ.out).mono ?_
    rintro e v4 ⟨rfl, hu⟩
    have LA4 := Lib.hid (LA3.out.next hu)
    have LB4 := Lib.hid (LB3.out.next hu)
    have CA4 := Lib.hid (CA3.out.next hu)
    have CB4 := Lib.hid (CB3.out.next hu)
    have HU4 := Lib.hid (HU3.out.trans hu)
    clear hu HU3 LA3 LB3 CA3 CB3
    go_wp2_with fail
    refine (rMul2_zero a0 len0 cap0 _ x0 a1 len1 cap1 _ x1 _ LA4.out (Nat.le_refl _) LM0.out LB4.out (Nat.le_refl _) LM1.out HZ.out).mono ?_
    rintro e v5 ⟨rfl, hu⟩
    have LA5 := Lib.hid (LA4.out.next hu)
    have LB5 := Lib.hid (LB4.out.next hu)
    have CA5 := Lib.hid (CA4.out.next hu)
    have CB5 := Lib.hid (CB4.out.next hu)
    have HU5 := Lib.hid (HU4.out.trans hu)
    clear hu HU4 LA4 LB4 CA4 CB4
    go_wp2_with fail
    refine (same_yes none 0 0 0 none 0 0 [] _ ⟨rfl, fun h => absurd h (by omega)⟩ ⟨rfl, fun h => absurd h (by omega)⟩ (Nat.zero_le _)).mono ?_
    rintro e v6 ⟨rfl, hu⟩
    have LA6 := Lib.hid (LA5.out.next hu)
    have LB6 := Lib.hid (LB5.out.next hu)
    have CA6 := Lib.hid (CA5.out.next hu)
    have CB6 := Lib.hid (CB5.out.next hu)
    have HU6 := Lib.hid (HU5.out.trans hu)
    clear hu HU5 LA5 LB5 CA5 CB5
    go_wp2_with fail
    refine (same_yes p2 len0 c2 _ a0 cap0 _ x0 _ CA6.out LA6.out m2).mono ?_
    rintro e v7 ⟨rfl, hu⟩
    have LA7 := Lib.hid (LA6.out.next hu)
    have LB7 := Lib.hid (LB6.out.next hu)
    have CA7 := Lib.hid (CA6.out.next hu)
    have CB7 := Lib.hid (CB6.out.next hu)
    have HU7 := Lib.hid (HU6.out.trans hu)
    clear hu HU6 LA6 LB6 CA6 CB6
    go_wp2_with fail
    refine (same_yes p3 len1 c3 _ a1 cap1 _ x1 _ CB7.out LB7.out m3).mono ?_
    rintro e v8 ⟨rfl, hu⟩
    have LA8 := Lib.hid (LA7.out.next hu)
    have LB8 := Lib.hid (LB7.out.next hu)
    have CA8 := Lib.hid (CA7.out.next hu)
    have CB8 := Lib.hid (CB7.out.next hu)
    have HU8 := Lib.hid (HU7.out.trans hu)
    clear hu HU7 LA7 LB7 CA7 CB7
    go_wp2_with fail
    go_ret
    exact ⟨rfl, upd_ends HU8.out⟩
  · obtain ⟨s, hs, hx1, hx2, _⟩ := exps_head (gat x0) (fun h => hz (.inl h)) (gat_lt x0)
    obtain ⟨t, ht, hy1, hy2, _⟩ := exps_head (gat x1) (fun h => hz (.inr h)) (gat_lt x1)
    have X1 := Lib.hid hx1
    have X2 := Lib.hid hx2
    have Y1 := Lib.hid hy1
    have Y2 := Lib.hid hy2
    have S1 := Lib.hid hs
    have T1 := Lib.hid ht
    by_cases hst : s + t ≤ 16384
    · have ST := Lib.hid hst
      clear hz hs ht hx1 hx2 hy1 hy2 hst
      go_enter Try.func11, Try.ntmps11
      go_wp2_with fail
      refine (speaks2_any _).mono ?_
      rintro e v1 ⟨rfl, hu⟩
      have LA1 := Lib.hid (LA0.out.next hu)
      have LB1 := Lib.hid (LB0.out.next hu)
      have HU1 := Lib.hid (HU0.out.trans hu)
      clear hu HU0 LA0 LB0
      go_wp2_with fail
      refine (copied_any a0 len0 cap0 _ x0 _ LA1.out (Nat.le_refl _) (by omega)).mono ?_
      rintro e v2 ⟨r2, rfl, ho, hu⟩
      obtain ⟨p2, c2, rfl, hi, m2, _⟩ := own_ints ho
      have CA2 := Lib.hid hi
      clear ho hi
      have LA2 := Lib.hid (LA1.out.next hu)
      have LB2 := Lib.hid (LB1.out.next hu)
      have HU2 := Lib.hid (HU1.out.trans hu)
      clear hu HU1 LA1 LB1
      go_wp2_with fail
      refine (copied_any a1 len1 cap1 _ x1 _ LB2.out (Nat.le_refl _) (by omega)).mono ?_
      rintro e v3 ⟨r3, rfl, ho, hu⟩
      obtain ⟨p3, c3, rfl, hi, m3, _⟩ := own_ints ho
      have CB3 := Lib.hid hi
      clear ho hi
      have LA3 := Lib.hid (LA2.out.next hu)
      have LB3 := Lib.hid (LB2.out.next hu)
      have CA3 := Lib.hid (CA2.out.next hu)
      have HU3 := Lib.hid (HU2.out.trans hu)
      clear hu HU2 LA2 LB2 CA2
      go_wp2_with fail
      refine (pmul_ok p2 len0 c2 _ x0 p3 len1 c3 _ x1 _ CA3.out (Nat.le_refl _) m2 CB3.out (Nat.le_refl _) m3 s t X1.out X2.out Y1.out Y2.out ST.out).mono ?_
      rintro e v4 ⟨r4, rfl, hv, hu⟩
      obtain ⟨p4, c4, rfl, hi, m4, _⟩ := own_ints hv.1
      have M4 := Lib.hid hi
      clear hv hi
      have LA4 := Lib.hid (LA3.out.next hu)
      have LB4 := Lib.hid (LB3.out.next hu)
      have CA4 := Lib.hid (CA3.out.next hu)
      have CB4 := Lib.hid (CB3.out.next hu)
      have HU4 := Lib.hid (HU3.out.trans hu)
      clear hu HU3 LA3 LB3 CA3 CB3
      go_wp2_with fail
      refine (rMul2_ok a0 len0 cap0 _ x0 a1 len1 cap1 _ x1 _ LA4.out (Nat.le_refl _) LM0.out LB4.out (Nat.le_refl _) LM1.out s t X1.out X2.out Y1.out Y2.out ST.out).mono ?_
      rintro e v5 ⟨r5, rfl, hv, hu⟩
      obtain ⟨p5, c5, rfl, hi, m5, _⟩ := own_ints hv.1
      have N5 := Lib.hid hi
      clear hv hi
      have LA5 := Lib.hid (LA4.out.next hu)
      have LB5 := Lib.hid (LB4.out.next hu)
      have CA5 := Lib.hid (CA4.out.next hu)
      have CB5 := Lib.hid (CB4.out.next hu)
      have M5 := Lib.hid (M4.out.next hu)
      have HU5 := Lib.hid (HU4.out.trans hu)
      clear hu HU4 LA4 LB4 CA4 CB4 M4
      go_wp2_with fail
      refine (same_yes p4 _ c4 _ p5 c5 _ _ _ M5.out N5.out m4).mono ?_
      rintro e v6 ⟨rfl, hu⟩
      have LA6 := Lib.hid (LA5.out.next hu)
      have LB6 := Lib.hid (LB5.out.next hu)
      have CA6 := Lib.hid (CA5.out.next hu)
      have CB6 := Lib.hid (CB5.out.next hu)
      have M6 := Lib.hid (M5.out.next hu)
      have N6 := Lib.hid (N5.out.next hu)
      have HU6 := Lib.hid (HU5.out.trans hu)
      clear hu HU5 LA5 LB5 CA5 CB5 M5 N5
      go_wp2_with fail
      refine (same_yes p2 len0 c2 _ a0 cap0 _ x0 _ CA6.out LA6.out m2).mono ?_
      rintro e v7 ⟨rfl, hu⟩
      have LA7 := Lib.hid (LA6.out.next hu)
      have LB7 := Lib.hid (LB6.out.next hu)
      have CA7 := Lib.hid (CA6.out.next hu)
      have CB7 := Lib.hid (CB6.out.next hu)
      have M7 := Lib.hid (M6.out.next hu)
      have N7 := Lib.hid (N6.out.next hu)
      have HU7 := Lib.hid (HU6.out.trans hu)
      clear hu HU6 LA6 LB6 CA6 CB6 M6 N6
      go_wp2_with fail
      refine (same_yes p3 len1 c3 _ a1 cap1 _ x1 _ CB7.out LB7.out m3).mono ?_
      rintro e v8 ⟨rfl, hu⟩
      have LA8 := Lib.hid (LA7.out.next hu)
      have LB8 := Lib.hid (LB7.out.next hu)
      have CA8 := Lib.hid (CA7.out.next hu)
      have CB8 := Lib.hid (CB7.out.next hu)
      have M8 := Lib.hid (M7.out.next hu)
      have N8 := Lib.hid (N7.out.next hu)
      have HU8 := Lib.hid (HU7.out.trans hu)
      clear hu HU7 LA7 LB7 CA7 CB7 M7 N7
      go_wp2_with fail
      go_ret
      exact ⟨rfl, upd_ends HU8.out⟩
    · have hst2 : 16384 < s + t := by omega
      have ST := Lib.hid hst2
      clear hz hs ht hx1 hx2 hy1 hy2 hst hst2
      go_enter Try.func11, Try.ntmps11
      go_wp2_with fail
      refine (speaks2_any _).mono ?_
      rintro e v1 ⟨rfl, hu⟩
      have LA1 := Lib.hid (LA0.out.next hu)
      have LB1 := Lib.hid (LB0.out.next hu)
      have HU1 := Lib.hid (HU0.out.trans hu)
      clear hu HU0 LA0 LB0
      go_wp2_with fail
      refine (copied_any a0 len0 cap0 _ x0 _ LA1.out (Nat.le_refl _) (by omega)).mono ?_
      rintro e v2 ⟨r2, rfl, ho, hu⟩
      obtain ⟨p2, c2, rfl, hi, m2, _⟩ := own_ints ho
      have CA2 := Lib.hid hi
      clear ho hi
      have LA2 := Lib.hid (LA1.out.next hu)
      have LB2 := Lib.hid (LB1.out.next hu)
      have HU2 := Lib.hid (HU1.out.trans hu)
      clear hu HU1 LA1 LB1
      go_wp2_with fail
      refine (copied_any a1 len1 cap1 _ x1 _ LB2.out (Nat.le_refl _) (by omega)).mono ?_
      rintro e v3 ⟨r3, rfl, ho, hu⟩
      obtain ⟨p3, c3, rfl, hi, m3, _⟩ := own_ints ho
      have CB3 := Lib.hid hi
      clear ho hi
      have LA3 := Lib.hid (LA2.out.next hu)
      have LB3 := Lib.hid (LB2.out.next hu)
      have CA3 := Lib.hid (CA2.out.next hu)
      have HU3 := Lib.hid (HU2.out.trans hu)
      clear hu HU2 LA2 LB2 CA2
      go_wp2_with fail
      refine (pmul_big p2 len0 c2 _ x0 p3 len1 c3 _ x1 _ CA3.out (Nat.le_refl _) m2 CB3.out (Nat.le_refl _) m3 s t X1.out X2.out Y1.out Y2.out S1.out T1.out ST.out).mono ?_
      rintro e v4 ⟨rfl, hu⟩
      have LA4 := Lib.hid (LA3.out.next hu)
      have LB4 := Lib.hid (LB3.out.next hu)
      have CA4 := Lib.hid (CA3.out.next hu)
      have CB4 := Lib.hid (CB3.out.next hu)
      have HU4 := Lib.hid (HU3.out.trans hu)
      clear hu HU3 LA3 LB3 CA3 CB3
      go_wp2_with fail
      refine (rMul2_big a0 len0 cap0 _ x0 a1 len1 cap1 _ x1 _ LA4.out (Nat.le_refl _) LM0.out LB4.out (Nat.le_refl _) LM1.out s t X1.out X2.out Y1.out Y2.out S1.out T1.out ST.out).mono ?_
      rintro e v5 ⟨rfl, hu⟩
      have LA5 := Lib.hid (LA4.out.next hu)
      have LB5 := Lib.hid (LB4.out.next hu)
      have CA5 := Lib.hid (CA4.out.next hu)
      have CB5 := Lib.hid (CB4.out.next hu)
      have HU5 := Lib.hid (HU4.out.trans hu)
      clear hu HU4 LA4 LB4 CA4 CB4
      go_wp2_with fail
      refine (same_yes none 0 0 0 none 0 0 [] _ ⟨rfl, fun h => absurd h (by omega)⟩ ⟨rfl, fun h => absurd h (by omega)⟩ (Nat.zero_le _)).mono ?_
      rintro e v6 ⟨rfl, hu⟩
      have LA6 := Lib.hid (LA5.out.next hu)
      have LB6 := Lib.hid (LB5.out.next hu)
      have CA6 := Lib.hid (CA5.out.next hu)
      have CB6 := Lib.hid (CB5.out.next hu)
      have HU6 := Lib.hid (HU5.out.trans hu)
      clear hu HU5 LA5 LB5 CA5 CB5
      go_wp2_with fail
      refine (same_yes p2 len0 c2 _ a0 cap0 _ x0 _ CA6.out LA6.out m2).mono ?_
      rintro e v7 ⟨rfl, hu⟩
      have LA7 := Lib.hid (LA6.out.next hu)
      have LB7 := Lib.hid (LB6.out.next hu)
      have CA7 := Lib.hid (CA6.out.next hu)
      have CB7 := Lib.hid (CB6.out.next hu)
      have HU7 := Lib.hid (HU6.out.trans hu)
      clear hu HU6 LA6 LB6 CA6 CB6
      go_wp2_with fail
      refine (same_yes p3 len1 c3 _ a1 cap1 _ x1 _ CB7.out LB7.out m3).mono ?_
      rintro e v8 ⟨rfl, hu⟩
      have LA8 := Lib.hid (LA7.out.next hu)
      have LB8 := Lib.hid (LB7.out.next hu)
      have CA8 := Lib.hid (CA7.out.next hu)
      have CB8 := Lib.hid (CB7.out.next hu)
      have HU8 := Lib.hid (HU7.out.trans hu)
      clear hu HU7 LA7 LB7 CA7 CB7
      go_wp2_with fail
      go_ret
      exact ⟨rfl, upd_ends HU8.out⟩
end Go.Proofs.Ytfahibnbfinibaa
