/- The law TopRoots, walked. -/
import Derived.Test.YtcmcjojjphhffaaPA
import Derived.Test.YtcmcjojjphhffaaGfw
namespace Go.Proofs.Ytcmcjojjphhffaa
open Go.RowKit Pm Gfm

/-- was one of the first i squares the other power? -/
def isB (K O : Nat) : Nat → Bool | 0 => false | i + 1 => isB K O i || (rt K i == pw O)
theorem isB_iff (K O i : Nat) : isB K O i = true ↔ ∃ j, j < i ∧ pw O = rt K j := by
  induction i with
  | zero => simp [isB]
  | succ i ih =>
    rw [isB, Bool.or_eq_true, ih, beq_iff_eq]
    constructor
    · rintro (⟨j, h1, h2⟩ | h)
      · exact ⟨j, by omega, h2⟩
      · exact ⟨i, by omega, h.symm⟩
    · rintro ⟨j, h1, h2⟩
      rcases Nat.lt_or_ge j i with h | h
      · exact .inl ⟨j, h, h2⟩
      · obtain rfl : j = i := by omega
        exact .inr h2.symm
theorem exps_at (A s k : Nat) (h2 : A < 2 ^ (s + 1)) (hs : s ≤ 16384) (hk : k < (exps A).length) : 0 ≤ (exps A).getD k 0 ∧ (exps A).getD k 0 ≤ s := by
  have e : (exps A).getD k 0 = (exps A)[k] := by rw [List.getD_eq_getElem?_getD, List.getElem?_eq_getElem hk]; rfl
  rw [e]
  exact exps_mem _ A s (List.getElem_mem hk) h2 hs
theorem mul_low (a : Nat) (h : a < 8192) : mul (low (a : Int)) (low (a : Int)) = mul a a := by rw [low_nat a h]
attribute [local irreducible] Pm.exps pmul mpol evs mprod rt isB

set_option maxRecDepth 20000 in
set_option maxHeartbeats 3200000 in
theorem topRoots_walk (k other : Int) (w : World) (_wk : (Lit.int .i64 k).wf = true) (_wo : (Lit.int .i64 other).wf = true) :
    Calls Try.prog 8 #[.int .i64 k, .int .i64 other] w fun e w' => e = .returned (.bool true) ∧ Below w.heap.size w w' := by
  have hnot : ∀ (x : Bool) (w : World), (Op.unary .not (.bool x)).run Try.prog w = .ok (.bool (!x)) w := fun _ _ => rfl
  have HF0 := Lib.hid (fresh_new w)
  have HUN : Hid (Upd noBlock w (w.alloc (.cells #[.int .u32 0, .int .i32 0, .int .u32 0, .slice none 0 0, .slice none 0 0, .int .i64 0] 52))) := (Upd.refl _ _).alloc _
  have hmul : mul (low 4096) (low 2) = 27 := by decide
  have Hm27 := Lib.hid hmul
  clear hmul
  go_enter Try.func8, Try.ntmps8
  go_wp2_with fail
  refine (minimal_any w.heap.size 0 k _ HF0.out).mono ?_
  rintro e w1 ⟨J, v, hJ1, hJ13, hJr, hJm, rfl, hv, hr1, hu1⟩
  obtain ⟨K, HK⟩ : ∃ K, Hid (trn k = K) := ⟨_, rfl⟩
  obtain ⟨O, HOth⟩ : ∃ O, Hid (trn other = O) := ⟨_, rfl⟩
  rw [HK.out] at hJr hJm hv
  obtain ⟨hb1, hb2, hb3⟩ := mpol_bits K J hJ1 hJ13 hJr
  have hPE := exps_top (mpol K J) J hb1 hb2 (by omega)
  have hP2 : mpol K J ^^^ 2 ^ J ≠ 0 := fun e => hb3 ((xor_zero_iff _ _).1 e)
  have hP3 : mpol K J ^^^ 2 ^ J < 2 ^ top := Nat.xor_lt_two_pow hv.2 (Nat.pow_lt_pow_right (by omega) (by unfold top; omega))
  obtain ⟨t, _, _, _, hte⟩ := exps_head _ hP2 hP3
  have hlen2 : 2 ≤ (exps (mpol K J)).length := by rw [hPE, hte]; simp
  have HLL : Hid (∀ j, j < (exps (mpol K J)).length → 0 ≤ (exps (mpol K J)).getD j 0 ∧ (exps (mpol K J)).getD j 0 ≤ 13) := fun j hj => by
    have := exps_at (mpol K J) J j hb2 (by omega) hj
    omega
  obtain ⟨p, c, rfl, hi1, hm1, hg1⟩ := own_ints hv.1
  have HPE := Lib.hid hPE
  obtain ⟨m, Hm⟩ : ∃ m, Hid ((exps (mpol K J)).length = m) := ⟨_, rfl⟩
  rw [Hm.out] at hi1 hm1 HLL hlen2
  rw [Hm.out]
  obtain ⟨g, o, rfl, _, _⟩ := hi1.cell (by omega)
  have hgb := (hg1 g rfl).1
  have HGB : Hid (¬ g = w.heap.size) := by
    show ¬ _
    simp at hgb; omega
  have HCE : Hid (∀ W, Ints W W.heap.size (some ⟨g, o, none⟩) m (exps (mpol K J)) → W.cell? ⟨g, o, none⟩ = some (.int .i64 (J : Int))) := fun W hi => by
    obtain ⟨g', o', e, _, hc⟩ := hi.cell (by omega)
    obtain ⟨rfl, rfl⟩ : g = g' ∧ o = o' := by simpa using e
    have := hc 0 (by omega)
    rw [HPE.out] at this; exact this
  have HIU : Hid (∀ W W', Ints W W.heap.size (some ⟨g, o, none⟩) m (exps (mpol K J)) → Upd (oneBlock w.heap.size) W W' → Ints W' W'.heap.size (some ⟨g, o, none⟩) m (exps (mpol K J))) := fun W W' hi hu =>
    (hi.upd hu (Nat.le_refl _) (fun g' hg _ e => by
      have e1 : g = g' := by simpa using hg
      have e2 : g' = w.heap.size := e
      exact HGB.out (by omega))).more hu.size
  have HR1 := Lib.hid hr1
  have HU1 := Lib.hid (HUN.out.step hu1 (fun i hi e => by
    have e' : i = w.heap.size := e
    omega))
  have HI1 := Lib.hid hi1
  have c1 := HCE.out _ hi1
  have HJR := Lib.hid hJr
  have HJM := Lib.hid hJm
  have hJ14 : decide ((13 : Int) < (J : Int)) = false := decide_eq_false (by omega)
  have hm2 : decide ((m : Int) < 2) = false := decide_eq_false (by omega)
  have hm0 : (0 : Int) < (m : Int) := by omega
  clear hv hr1 hu1 hi1 hg1 hPE hP2 hP3 hte hb1 hb2 hb3 hgb hJr hJm hlen2 HF0
  go_wp2_with fail
  refine (mul_any w.heap.size 0 4096 2 _ HR1.out.fld (by omega)).mono ?_
  rintro e w2 ⟨rfl, hr2, hu2⟩
  rw [Hm27.out]
  have HR2 := Lib.hid hr2
  have HI2 := Lib.hid (HIU.out _ _ HI1.out hu2)
  have HU2 := Lib.hid (HU1.out.step hu2 (fun i hi e => by
    have e' : i = w.heap.size := e
    omega))
  clear hr2 hu2 c1 HR1 HI1 HU1
  go_wp2_with fail
  refine (exp_ready w.heap.size _ k _ HR2.out).mono ?_
  rintro e w3 ⟨rfl, hr3, hu3⟩
  have e0 : pw (trn k) = rt K 0 := by rw [HK.out]; unfold rt; rfl
  rw [e0]
  have HR3 := Lib.hid hr3
  have HI3 := Lib.hid (HIU.out _ _ HI2.out hu3.one)
  have HU3 := Lib.hid (HU2.out.trans hu3)
  have HB0 : Hid (isB K O 0 = false) := by show _ = _; unfold isB; rfl
  clear hr3 hu3 e0 HR2 HI2 HU2 hJ14 hm2
  go_wp2_with fail
  go_loopw [8, 9, 10] (fun s is n wr => ∃ i : Nat, i < J ∧ s = .int .i64 ((rt K i : Nat) : Int) ∧ is = .bool (isB K O i) ∧ n = .int .i64 (i : Int) ∧ Hid (Ready wr w.heap.size ((i : Int) + 1)) ∧ Hid (Ints wr wr.heap.size (some ⟨g, o, none⟩) m (exps (mpol K J))) ∧ Hid (Upd noBlock w wr)) (fun _ _ n _ => (14 - intOf n).toNat)
  case atStart => exact ⟨0, by omega, rfl, by rw [HB0.out], rfl, HR3, HI3, HU3⟩
  case round =>
    clear HR3 HI3 HU3
    obtain ⟨i, hi, rfl, rfl, rfl, HR, HI, HU⟩ := hrel
    have ev0 : evs (2 ^ i * K) (exps (mpol K J)) = 0 := (mpol_zero K J _ hJ1 hJ13 HJR.out).2 ⟨i, hi, (rt_pw K i).symm⟩
    have HEV0 := Lib.hid ev0
    have HRP := Lib.hid (rt_pw K i)
    have HVAL := Lib.hid (value_any w.heap.size _ _ m c _ (2 ^ i * K) wr HR.out HI.out hm1 HLL.out)
    rw [HEV0.out, ← HRP.out] at HVAL
    have HRL := Lib.hid (rt_lt K i)
    have HRN : Hid (mul (low ((rt K i : Nat) : Int)) (low ((rt K i : Nat) : Int)) = rt K (i + 1)) := by
      show _ = _
      rw [mul_low _ (rt_lt K i)]
      conv => rhs; unfold rt
    have HBS : Hid (isB K O (i + 1) = (isB K O i || (rt K i == pw O))) := by show _ = _; conv => lhs; unfold isB
    have hmi : (0 : Int) ≤ (i : Int) + 1 ∧ (i : Int) + 1 < 1000000 := by omega
    have HMI := Lib.hid hmi
    clear ev0 hmi
    go_wp2_with fail
    refine HVAL.out.mono ?_
    rintro e w4 ⟨rfl, hu4⟩
    have HR4 := Lib.hid (HR.out.upd hu4)
    have HI4 := Lib.hid (HIU.out _ _ HI.out hu4.one)
    have HU4 := Lib.hid (HU.out.trans hu4)
    clear hu4 HR HI HU HVAL
    cases hb : isB K O i
    · rw [hb] at HBS
      clear hb
      have HBN : Hid (((((rt K i : Nat) : Int) == ((pw O : Nat) : Int)) : Bool) = isB K O (i + 1)) := by
        have h := HBS.out
        rw [Bool.false_or] at h
        show _ = _
        rw [h, Bool.eq_iff_iff, beq_iff_eq, beq_iff_eq]
        omega
      go_wp2_with fail
      refine (exp_ready w.heap.size _ other _ HR4.out).mono ?_
      rintro e w5 ⟨rfl, hr5, hu5⟩
      rw [HOth.out]
      have HR5 := Lib.hid hr5
      have HI5 := Lib.hid (HIU.out _ _ HI4.out hu5.one)
      have HU5 := Lib.hid (HU4.out.trans hu5)
      clear hr5 hu5
      go_wp2_with fail
      refine (mul_any w.heap.size _ _ _ _ HR5.out.fld HMI.out).mono ?_
      rintro e w6 ⟨rfl, hr6, hu6⟩
      rw [HRN.out]
      have HR6 := Lib.hid hr6
      have HI6 := Lib.hid (HIU.out _ _ HI5.out hu6)
      have HU6 := Lib.hid (HU5.out.step hu6 (fun i hi e => by
        have e' : i = w.heap.size := e
        omega))
      clear hr6 hu6
      try rw [HBN.out]
      by_cases hJ : i + 1 = J
      · have hsq : rt K (i + 1) = rt K 0 := by rw [hJ]; exact HJR.out
        rw [hsq]
        have c6 := HCE.out _ HI6.out
        have tJ : (((i : Int) + 1) == (J : Int)) = true := beq_iff_eq.2 (by omega)
        have HFB : Hid (isB K O (i + 1) = (evs O (exps (mpol K J)) == 0)) := by
          show _ = _
          rw [hJ, Bool.eq_iff_iff, isB_iff, beq_iff_eq, mpol_zero K J O hJ1 hJ13 HJR.out]
        clear hsq hJ
        go_wp2_with fail
        refine (exp_ready w.heap.size _ other _ HR6.out).mono ?_
        rintro e w7 ⟨rfl, hr7, hu7⟩
        rw [HOth.out]
        have HI7 := Lib.hid (HIU.out _ _ HI6.out hu7.one)
        have HU7 := Lib.hid (HU6.out.trans hu7)
        have HV7 := Lib.hid (value_any w.heap.size _ _ m c _ O w7 hr7 HI7.out hm1 HLL.out)
        clear hr7 hu7
        go_wp2_with fail
        refine HV7.out.mono ?_
        rintro e w8 ⟨rfl, hu8⟩
        have HU8 := Lib.hid (HU7.out.trans hu8)
        clear hu8
        have t8 : ((((evs O (exps (mpol K J)) : Nat) : Int) == 0) : Bool) = isB K O (i + 1) := by
          rw [HFB.out, Bool.eq_iff_iff, beq_iff_eq, beq_iff_eq]
          omega
        generalize evs O (exps (mpol K J)) = z at *
        generalize isB K O (i + 1) = ib at *
        go_wp2_with fail
        go_ret
        exact ⟨rfl, HU8.out.below (fun _ _ h => h)⟩
      · have hne : rt K (i + 1) ≠ rt K 0 := HJM.out (i + 1) (by omega) (by omega)
        have tn : ((((rt K (i + 1) : Nat) : Int) == ((rt K 0 : Nat) : Int)) : Bool) = false := beq_eq_false_iff_ne.2 (by omega)
        have hiJ : i + 1 < J := by omega
        clear hne hJ
        go_wp2_with fail
        go_roundw
        case rel => exact ⟨i + 1, hiJ, rfl, rfl, by go_num, by simpa using HR6, HI6, HU6⟩
        case measure => simp [intOf]; omega
    · rw [hb] at HBS
      clear hb
      have HBN : Hid (isB K O (i + 1) = true) := by have h := HBS.out; rw [Bool.true_or] at h; exact h
      go_wp2_with fail
      have hu5 : Upd noBlock w4 w4 := Upd.refl _ _
      refine (mul_any w.heap.size _ _ _ _ HR4.out.fld HMI.out).mono ?_
      rintro e w6 ⟨rfl, hr6, hu6⟩
      rw [HRN.out]
      have HR6 := Lib.hid hr6
      have HI6 := Lib.hid (HIU.out _ _ HI4.out hu6)
      have HU6 := Lib.hid (HU4.out.step hu6 (fun i hi e => by
        have e' : i = w.heap.size := e
        omega))
      clear hr6 hu6
      by_cases hJ : i + 1 = J
      · have hsq : rt K (i + 1) = rt K 0 := by rw [hJ]; exact HJR.out
        rw [hsq]
        have c6 := HCE.out _ HI6.out
        have tJ : (((i : Int) + 1) == (J : Int)) = true := beq_iff_eq.2 (by omega)
        have HFB : Hid (isB K O (i + 1) = (evs O (exps (mpol K J)) == 0)) := by
          show _ = _
          rw [hJ, Bool.eq_iff_iff, isB_iff, beq_iff_eq, mpol_zero K J O hJ1 hJ13 HJR.out]
        clear hsq hJ
        go_wp2_with fail
        refine (exp_ready w.heap.size _ other _ HR6.out).mono ?_
        rintro e w7 ⟨rfl, hr7, hu7⟩
        rw [HOth.out]
        have HI7 := Lib.hid (HIU.out _ _ HI6.out hu7.one)
        have HU7 := Lib.hid (HU6.out.trans hu7)
        have HV7 := Lib.hid (value_any w.heap.size _ _ m c _ O w7 hr7 HI7.out hm1 HLL.out)
        clear hr7 hu7
        go_wp2_with fail
        refine HV7.out.mono ?_
        rintro e w8 ⟨rfl, hu8⟩
        have HU8 := Lib.hid (HU7.out.trans hu8)
        clear hu8
        have t8 : ((((evs O (exps (mpol K J)) : Nat) : Int) == 0) : Bool) = isB K O (i + 1) := by
          rw [HFB.out, Bool.eq_iff_iff, beq_iff_eq, beq_iff_eq]
          omega
        generalize evs O (exps (mpol K J)) = z at *
        rw [HBN.out] at t8
        go_wp2_with fail
        go_ret
        exact ⟨rfl, HU8.out.below (fun _ _ h => h)⟩
      · have hne : rt K (i + 1) ≠ rt K 0 := HJM.out (i + 1) (by omega) (by omega)
        have tn : ((((rt K (i + 1) : Nat) : Int) == ((rt K 0 : Nat) : Int)) : Bool) = false := beq_eq_false_iff_ne.2 (by omega)
        have hiJ : i + 1 < J := by omega
        clear hne hJ
        go_wp2_with fail
        go_roundw
        case rel => exact ⟨i + 1, hiJ, rfl, by rw [HBN.out], by go_num, by simpa using HR6, HI6, HU6⟩
        case measure => simp [intOf]; omega
end Go.Proofs.Ytcmcjojjphhffaa
