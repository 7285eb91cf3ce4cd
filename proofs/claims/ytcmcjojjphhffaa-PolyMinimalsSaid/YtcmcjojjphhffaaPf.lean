/- Walks over package poly: Mul where nothing or too much comes out; Mod. -/
import Derived.Test.YtcmcjojjphhffaaPe
namespace Go.Proofs.Ytcmcjojjphhffaa
open Go.RowKit Pm

set_option maxRecDepth 20000 in
set_option maxHeartbeats 800000 in
theorem pmul_zero (a : Option Addr) (len cap B : Nat) (xs : List Int) (a' : Option Addr) (len' cap' B' : Nat) (ys : List Int) (w : World) (hr : Ints w B a len xs) (hB : B ≤ w.heap.size) (hm : len ≤ maxLen)
    (hr' : Ints w B' a' len' ys) (hB' : B' ≤ w.heap.size) (hm' : len' ≤ maxLen) (hz : gat xs = 0 ∨ gat ys = 0) :
    Calls Try.prog 18 #[.slice a len cap, .slice a' len' cap'] w fun e w' => e = .returned (.tuple #[.slice none 0 0, .bool true]) ∧ Upd noBlock w w' := by
  have HR := Lib.hid hr
  have HR' := Lib.hid hr'
  clear hr hr'
  by_cases hx : gat xs = 0
  · have hl : (exps (gat xs)).length = 0 := by rw [hx, exps_zero]; rfl
    have HL := Lib.hid hl
    clear hx hl hz
    go_enter Try.func18, Try.ntmps18
    go_wp2_with fail
    refine (of_any a len cap B xs _ HR.out hB hm).mono ?_
    rintro e w1 ⟨v1, rfl, hv1, hu1⟩
    have HU1 := Lib.hid hu1
    obtain ⟨p1, c1, rfl, _, _, _⟩ := own_ints hv1.1
    clear hu1 hv1
    rw [HL.out]
    go_wp2_with fail
    refine (of_any a' len' cap' B' ys _ (HR'.out.grow HU1.out hB') (Nat.le_trans hB' HU1.out.size) hm').mono ?_
    rintro e w2 ⟨v2, rfl, hv2, hu2⟩
    have HU2 := Lib.hid (HU1.out.trans hu2)
    clear hu2 hv2
    go_wp2_with fail
    go_ret2
    exact ⟨rfl, HU2.out⟩
  · have hy : gat ys = 0 := by omega
    have hl : (exps (gat ys)).length = 0 := by rw [hy, exps_zero]; rfl
    have h1 : (((exps (gat xs)).length : Int) == 0) = false := by
      obtain ⟨t, _, _, _, e⟩ := exps_head _ hx (gat_lt xs)
      rw [e]; exact beq_eq_false_iff_ne.2 (by simp; omega)
    have HL := Lib.hid hl
    clear hx hl hz hy
    go_enter Try.func18, Try.ntmps18
    go_wp2_with fail
    refine (of_any a len cap B xs _ HR.out hB hm).mono ?_
    rintro e w1 ⟨v1, rfl, hv1, hu1⟩
    have HU1 := Lib.hid hu1
    obtain ⟨p1, c1, rfl, _, _, _⟩ := own_ints hv1.1
    clear hu1 hv1
    go_wp2_with fail
    refine (of_any a' len' cap' B' ys _ (HR'.out.grow HU1.out hB') (Nat.le_trans hB' HU1.out.size) hm').mono ?_
    rintro e w2 ⟨v2, rfl, hv2, hu2⟩
    have HU2 := Lib.hid (HU1.out.trans hu2)
    obtain ⟨p2, c2, rfl, _, _, _⟩ := own_ints hv2.1
    clear hu2 hv2
    rw [HL.out]
    go_wp2_with fail
    go_ret2
    exact ⟨rfl, HU2.out⟩

set_option maxRecDepth 20000 in
set_option maxHeartbeats 800000 in
theorem pmul_big (a : Option Addr) (len cap B : Nat) (xs : List Int) (a' : Option Addr) (len' cap' B' : Nat) (ys : List Int) (w : World) (hr : Ints w B a len xs) (hB : B ≤ w.heap.size) (hm : len ≤ maxLen)
    (hr' : Ints w B' a' len' ys) (hB' : B' ≤ w.heap.size) (hm' : len' ≤ maxLen) (s t : Nat) (hs1 : 2 ^ s ≤ gat xs) (hs2 : gat xs < 2 ^ (s + 1)) (ht1 : 2 ^ t ≤ gat ys) (ht2 : gat ys < 2 ^ (t + 1)) (hs : s ≤ 16384) (ht : t ≤ 16384) (hst : 16384 < s + t) :
    Calls Try.prog 18 #[.slice a len cap, .slice a' len' cap'] w fun e w' => e = .returned (.tuple #[.slice none 0 0, .bool false]) ∧ Upd noBlock w w' := by
  have HR := Lib.hid hr
  have HR' := Lib.hid hr'
  have HX := Lib.hid (exps_top (gat xs) s hs1 hs2 hs)
  have HY := Lib.hid (exps_top (gat ys) t ht1 ht2 ht)
  have t3 : decide ((16384 : Int) < (s : Int) + (t : Int)) = true := by simp; omega
  have t4 : IntKind.i64.wrap ((s : Int) + (t : Int)) = (s : Int) + (t : Int) := IntWalk.i64_in _ (by omega)
  clear hr hr' hs1 ht1 ht2 hs2 hst hs ht
  go_enter Try.func18, Try.ntmps18
  go_wp2_with fail
  refine (of_any a len cap B xs _ HR.out hB hm).mono ?_
  rintro e w1 ⟨v1, rfl, hv1, hu1⟩
  have HU1 := Lib.hid hu1
  have HV1 := Lib.hid hv1
  clear hu1 hv1
  go_wp2_with fail
  refine (of_any a' len' cap' B' ys _ (HR'.out.grow HU1.out hB') (Nat.le_trans hB' HU1.out.size) hm').mono ?_
  rintro e w2 ⟨v2, rfl, hv2, hu2⟩
  have HU2 := Lib.hid (HU1.out.trans hu2)
  obtain ⟨p1, c1, rfl, hi1, hm1, hb1⟩ := own_ints HV1.out.1
  obtain ⟨p2, c2, rfl, hi2, hm2, hb2⟩ := own_ints hv2.1
  have hi1' := hi1.grow hu2 (Nat.le_refl _)
  obtain ⟨g1, o1, rfl, hg1, hc1⟩ := hi1'.cell (by rw [HX.out]; simp)
  obtain ⟨g2, o2, rfl, hg2, hc2⟩ := hi2.cell (by rw [HY.out]; simp)
  have d1 : w2.cell? ⟨g1, o1, none⟩ = some (.int .i64 (s : Int)) := by have := hc1 0 (by rw [HX.out]; simp); rw [HX.out] at this; exact this
  have d2 : w2.cell? ⟨g2, o2, none⟩ = some (.int .i64 (t : Int)) := by have := hc2 0 (by rw [HY.out]; simp); rw [HY.out] at this; exact this
  have hl1 : 0 < (exps (gat xs)).length := by rw [HX.out]; simp
  have hl2 : 0 < (exps (gat ys)).length := by rw [HY.out]; simp
  clear hi1 hi1' hi2 hb1 hb2 hc1 hc2 hu2 hv2 HV1 HX HY
  generalize (exps (gat xs)).length = n1 at *
  generalize (exps (gat ys)).length = n2 at *
  have t1 : ((n1 : Int) == 0) = false := beq_eq_false_iff_ne.2 (by omega)
  have t2 : ((n2 : Int) == 0) = false := beq_eq_false_iff_ne.2 (by omega)
  clear hm1 hm2
  go_wp2_with fail
  go_quiet (fail)
  go_wp2_with fail
  go_ret2
  exact ⟨rfl, HU2.out.drewN _⟩

/-- the remainder, from the greatest exponent on: n steps -/
def rm (D d : Nat) : Nat → Nat → Nat
  | 0, R => R
  | n + 1, R => rm D d n (if R.testBit (d + n) then R ^^^ D * 2 ^ n else R)
def pmod (A D d : Nat) : Nat := rm D d (16385 - d) A
theorem rm_lt (D d n R : Nat) (hD : D < 2 ^ (d + 1)) (hn : d + n ≤ 16385) (hR : R < 2 ^ top) : rm D d n R < 2 ^ top := by
  induction n generalizing R with
  | zero => exact hR
  | succ n ih =>
    refine ih _ (by omega) ?_
    split
    · refine Nat.xor_lt_two_pow hR ?_
      have h2 : D * 2 ^ n < 2 ^ (d + 1) * 2 ^ n := Nat.mul_lt_mul_of_pos_right hD (Nat.two_pow_pos _)
      rw [← Nat.pow_add] at h2
      exact Nat.lt_of_lt_of_le h2 (Nat.pow_le_pow_right (by omega) (by unfold top; omega))
    · exact hR

set_option maxRecDepth 20000 in
set_option maxHeartbeats 800000 in
theorem pmod_zero (a : Option Addr) (len cap : Nat) (a' : Option Addr) (len' cap' B' : Nat) (ys : List Int) (w : World)
    (hr' : Ints w B' a' len' ys) (hB' : B' ≤ w.heap.size) (hm' : len' ≤ maxLen) (hz : gat ys = 0) :
    Calls Try.prog 16 #[.slice a len cap, .slice a' len' cap'] w fun e w' => e = .returned (.tuple #[.slice none 0 0, .bool false]) ∧ Upd noBlock w w' := by
  have HR' := Lib.hid hr'
  have hl : (exps (gat ys)).length = 0 := by rw [hz, exps_zero]; rfl
  have HL := Lib.hid hl
  clear hr' hz hl
  go_enter Try.func16, Try.ntmps16
  go_wp2_with fail
  refine (of_any a' len' cap' B' ys _ HR'.out hB' hm').mono ?_
  rintro e w2 ⟨v2, rfl, hv2, hu2⟩
  have HU2 := Lib.hid hu2
  obtain ⟨p2, c2, rfl, _, _, _⟩ := own_ints hv2.1
  clear hu2 hv2
  rw [HL.out]
  go_wp2_with fail
  go_ret2
  exact ⟨rfl, HU2.out⟩

theorem pmod_lt (A D d : Nat) (hD : D < 2 ^ (d + 1)) (hd : d ≤ 16384) (hA : A < 2 ^ top) : pmod A D d < 2 ^ top := rm_lt _ _ _ _ hD (by omega) hA
theorem pmod_def (A D d : Nat) : rm D d (16385 - d) A = pmod A D d := rfl
theorem rm_zero (D d R : Nat) : rm D d 0 R = R := rfl
theorem rm_succ (D d n R : Nat) : rm D d (n + 1) R = rm D d n (if R.testBit (d + n) then R ^^^ D * 2 ^ n else R) := rfl
attribute [local irreducible] Pm.exps rm pmod

set_option maxRecDepth 20000 in
set_option maxHeartbeats 1600000 in
theorem pmod_ok (a : Option Addr) (len cap B : Nat) (xs : List Int) (a' : Option Addr) (len' cap' B' : Nat) (ys : List Int) (w : World) (hr : Ints w B a len xs) (hB : B ≤ w.heap.size) (hm : len ≤ maxLen)
    (hr' : Ints w B' a' len' ys) (hB' : B' ≤ w.heap.size) (hm' : len' ≤ maxLen) (t : Nat) (ht1 : 2 ^ t ≤ gat ys) (ht2 : gat ys < 2 ^ (t + 1)) (ht : t ≤ 16384) :
    Calls Try.prog 16 #[.slice a len cap, .slice a' len' cap'] w fun e w' => ∃ v, e = .returned (.tuple #[v, .bool true]) ∧ PolyV w w' v (pmod (gat xs) (gat ys) t) ∧ Upd noBlock w w' := by
  have HR := Lib.hid hr
  have HR' := Lib.hid hr'
  have HP : Hid (pmod (gat xs) (gat ys) t < 2 ^ top) := pmod_lt _ _ _ ht2 ht (gat_lt xs)
  have HY := Lib.hid (exps_top (gat ys) t ht1 ht2 ht)
  have HT := Lib.hid ht
  clear hr hr' ht1 ht2 ht
  go_enter Try.func16, Try.ntmps16
  go_wp2_with fail
  refine (of_any a' len' cap' B' ys _ HR'.out hB' hm').mono ?_
  rintro e w2 ⟨v2, rfl, hv2, hu2⟩
  have HU2 := Lib.hid hu2
  obtain ⟨p2, c2, rfl, hi2, hm2, hb2⟩ := own_ints hv2.1
  obtain ⟨g2, o2, rfl, hg2, hc2⟩ := hi2.cell (by rw [HY.out]; simp)
  have hl2 : 0 < (exps (gat ys)).length := by rw [HY.out]; simp
  have HI2 := Lib.hid hi2
  have hsz2 := hu2.size
  clear hi2 hb2 hc2 hu2 hv2
  generalize hn2 : (exps (gat ys)).length = n2 at *
  have HN2 := Lib.hid hn2
  clear hn2
  have t2 : ((n2 : Int) == 0) = false := beq_eq_false_iff_ne.2 (by omega)
  go_wp2_with fail
  refine (gather_any a len cap B xs _ (HR.out.grow HU2.out hB) (Nat.le_trans hB HU2.out.size) hm).mono ?_
  rintro e w3 ⟨rfl, hu3⟩
  have HU3 := Lib.hid (HU2.out.trans hu3)
  have HI3 := Lib.hid (HI2.out.grow hu3 (Nat.le_refl _))
  have hsz3 := hu3.size
  clear hu3 HI2 HU2
  go_wp2_with fail
  refine (gather_any _ n2 c2 w2.heap.size (exps (gat ys)) _ HI3.out hsz3 hm2).mono ?_
  rintro e w4 ⟨rfl, hu4⟩
  rw [gat_exps _ (gat_lt ys)]
  have HU4 := Lib.hid (HU3.out.trans hu4)
  have HI4 := Lib.hid (HI3.out.grow hu4 (by omega))
  have hsz4 := hu4.size
  clear hu4 HI3 HU3
  have HC := Lib.hid ((Coef.new w4).alloc (.cells Try.zeroCells63 63))
  have HD0 := Coef.new (w4.alloc (.cells Try.zeroCells63 63))
  rw [World.size_alloc] at HD0
  have HD := Lib.hid HD0
  clear HD0
  have HC2 := Lib.hid (HC.out.row (Q := gat xs))
  have HD2 := Lib.hid (HD.out.rowOther (g := w4.heap.size) (by omega) (wordsA (gat xs)))
  have HC3 := Lib.hid (HC2.out.rowOther (g := w4.heap.size + 1) (by omega) (wordsA (gat ys)))
  have HD3 := Lib.hid (HD2.out.row (Q := gat ys))
  have HU5 := Lib.hid ((((HU4.out.alloc (.cells Try.zeroCells63 63)).alloc (.cells Try.zeroCells63 63)).setRow (g := w4.heap.size) (.inr (by omega)) (wordsA (gat xs))).setRow (g := w4.heap.size + 1) (.inr (by omega)) (wordsA (gat ys)))
  have HI5 := Lib.hid (HI4.out.keep (w' := (((w4.alloc (.cells Try.zeroCells63 63)).alloc (.cells Try.zeroCells63 63)).setRow w4.heap.size (wordsA (gat xs))).setRow (w4.heap.size + 1) (wordsA (gat ys))) (fun g _ hg => by
    rw [setRow_other _ _ _ _ (by omega), setRow_other _ _ _ _ (by omega), Below.heap_alloc _ _ _ (by simp; omega), Below.heap_alloc _ _ _ (by omega)]))
  go_wp2_with (first
    | (refine wpList_store_row rfl 63 (.tmp 6) (.tmp 15) rfl w4.heap.size (wordsA (gat xs)) rfl rfl 63 (wordsA 0) HC.out (wordsA_info _) (by rw [wordsA_size, wordsA_size]) (wordsA_one _) ?_)
    | (refine wpList_store_row rfl 63 (.tmp 7) (.tmp 17) rfl (w4.heap.size + 1) (wordsA (gat ys)) rfl rfl 63 (wordsA 0) HD2.out (wordsA_info _) (by rw [wordsA_size, wordsA_size]) (wordsA_one _) ?_))
  have HK : Hid (∀ wr : World, Ints wr w2.heap.size (some ⟨g2, o2, none⟩) n2 (exps (gat ys)) → wr.cell? ⟨g2, o2, none⟩ = some (.int .i64 (t : Int))) := fun wr hi => by
    obtain ⟨g', o', hgo, _, hcell⟩ := hi.cell hl2
    obtain ⟨rfl, rfl⟩ : g2 = g' ∧ o2 = o' := by simpa using hgo
    have := hcell 0 hl2
    rw [HY.out] at this; exact this
  clear HC HD HC2 HD2 HU4 HI4 HR HR'
  go_loopw [8] (fun i wr => ∃ (n R : Nat), n ≤ 16385 - t ∧ i = .int .i64 ((t : Int) + (n : Int) - 1) ∧ Hid (Coef wr w4.heap.size R) ∧ Hid (rm (gat ys) t n R = pmod (gat xs) (gat ys) t) ∧ Hid (Coef wr (w4.heap.size + 1) (gat ys)) ∧ Hid (Ints wr w2.heap.size (some ⟨g2, o2, none⟩) n2 (exps (gat ys))) ∧ Hid (Upd noBlock w wr)) (fun i _ => (intOf i + 1).toNat)
  case atStart => exact ⟨16385 - t, gat xs, Nat.le_refl _, by have := HT.out; exact congrArg (Value.int .i64) (by omega), HC3, pmod_def _ _ _, HD3, HI5, HU5⟩
  case round =>
    clear HC3 HD3 HI5 HU5
    obtain ⟨n, R, hn, rfl, HC, HE, HD, HI, HU⟩ := hrel
    have c0 := HK.out wr HI.out
    have HN := Lib.hid hn
    clear hn
    by_cases h0 : 0 < n
    · obtain ⟨k, rfl⟩ : ∃ k, n = k + 1 := ⟨n - 1, by omega⟩
      have e1 : (t : Int) + ((k + 1 : Nat) : Int) - 1 = ((t + k : Nat) : Int) := by omega
      rw [e1]
      have hb1 : Hid (t + k ≤ 16384) := by have := HN.out; have := HT.out; show t + k ≤ 16384; omega
      have hb2 : t + k ≤ 99999 := by have := hb1.out; omega
      obtain ⟨x, Hx⟩ : ∃ x, Hid (t + k = x) := ⟨_, rfl⟩
      have hxt : t ≤ x := by rw [← Hx.out]; omega
      have hx2 : x ≤ 99999 := by rw [← Hx.out]; exact hb2
      have hxk : Hid (x - t = k) := by show x - t = k; rw [← Hx.out]; omega
      have hge : decide ((t : Int) ≤ (x : Int)) = true := by simp; omega
      rw [Hx.out]
      clear e1 hb2
      by_cases hb : R.testBit x = true
      · have HE2 : Hid (rm (gat ys) t k (R ^^^ gat ys * 2 ^ k) = pmod (gat xs) (gat ys) t) := by
          have h : rm (gat ys) t k (if R.testBit (t + k) then R ^^^ gat ys * 2 ^ k else R) = pmod (gat xs) (gat ys) t := (rm_succ _ _ _ _).symm.trans HE.out
          rw [Hx.out, if_pos hb] at h; exact h
        have HB := Lib.hid hb
        clear hb HE
        go_wp2_with fail
        refine (has_any w4.heap.size R x _ HC.out (by rw [← Hx.out]; exact hb1.out)).mono ?_
        rintro e w5 ⟨rfl, rfl⟩
        rw [HB.out]
        go_wp2_with fail
        have hsub : (x : Int) - (t : Int) = ((k : Nat) : Int) := by have := hxk.out; omega
        rw [hsub]
        refine (add_any w4.heap.size (w4.heap.size + 1) R (gat ys) k _ HC.out HD.out (by omega) (by have := hb1.out; omega)).mono ?_
        rintro e w6 ⟨rfl, hc, hd, hu⟩
        have HC6 := Lib.hid hc
        have HD6 := Lib.hid hd
        have HI6 := Lib.hid (HI.out.upd hu (by have := HC.out.lt; omega) (fun g hg hgB e => by have e' : g = w4.heap.size := e; omega))
        have HU6 := Lib.hid (HU.out.step hu (fun i hi e => by have e' : i = w4.heap.size := e; omega))
        clear hc hd hu
        go_wp2_with fail
        go_roundw
        case rel => exact ⟨k, _, by have := HN.out; omega, by have := Hx.out; exact congrArg (Value.int .i64) (by omega), HC6, HE2, HD6, HI6, HU6⟩
        case measure => simp [intOf]
      · have HE2 : Hid (rm (gat ys) t k R = pmod (gat xs) (gat ys) t) := by
          have h : rm (gat ys) t k (if R.testBit (t + k) then R ^^^ gat ys * 2 ^ k else R) = pmod (gat xs) (gat ys) t := (rm_succ _ _ _ _).symm.trans HE.out
          rw [Hx.out, if_neg hb] at h; exact h
        have HB : Hid (R.testBit x = false) := by
          show R.testBit x = false
          simpa using hb
        clear hb HE
        go_wp2_with fail
        refine (has_any w4.heap.size R x _ HC.out (by rw [← Hx.out]; exact hb1.out)).mono ?_
        rintro e w5 ⟨rfl, rfl⟩
        rw [HB.out]
        go_wp2_with fail
        go_roundw
        case rel => exact ⟨k, _, by have := HN.out; omega, by have := Hx.out; exact congrArg (Value.int .i64) (by omega), HC, HE2, HD, HI, HU⟩
        case measure => simp [intOf]
    · obtain rfl : n = 0 := by omega
      have e : R = pmod (gat xs) (gat ys) t := (rm_zero _ _ _).symm.trans HE.out
      subst e
      have e1 : (t : Int) + ((0 : Nat) : Int) - 1 = (t : Int) - 1 := by omega
      rw [e1]
      have t9 : decide ((t : Int) ≤ (t : Int) - 1) = false := decide_eq_false (by omega)
      have t8 : (t : Int) ≤ 99999 := by have := HT.out; omega
      clear e1
      clear HE HI
      go_wp2_with fail
      refine (poly_any w4.heap.size _ _ HC.out HP.out).mono ?_
      rintro e w5 ⟨v, rfl, ho, hu⟩
      have HO := Lib.hid (own_more ho HU.out.size)
      have HU5 := Lib.hid (HU.out.trans hu)
      clear ho hu
      go_wp2_with fail
      go_ret2
      exact ⟨_, rfl, ⟨HO.out, HP.out⟩, HU5.out⟩
end Go.Proofs.Ytcmcjojjphhffaa
