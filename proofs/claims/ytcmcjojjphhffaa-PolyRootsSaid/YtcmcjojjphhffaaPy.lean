/- The law PolyRoots, walked. -/
import Derived.Test.YtcmcjojjphhffaaPx
import Derived.Test.YtcmcjojjphhffaaGfw
import Derived.Deep.DeepCutAuto
namespace Go.Proofs.Ytcmcjojjphhffaa
open Go.RowKit Pm Gfm
attribute [local irreducible] Pm.exps pmul mp GG mpol evs

set_option maxRecDepth 20000 in
set_option maxHeartbeats 1600000 in
theorem polyRoots_in_in (T : Nat) (hT1 : 1 ≤ T) (hT8 : T ≤ 8) (K : Nat) (hK1 : 1 ≤ K) (hK2 : K ≤ 2 * T) (w : World) :
    Calls Try.prog 7 #[.int .i64 (T : Int), .int .i64 (K : Int)] w fun e w' => e = .returned (.bool true) ∧ Below w.heap.size w w' := by
  have hnot : ∀ (x : Bool) (w : World), (Op.unary .not (.bool x)).run Try.prog w = .ok (.bool (!x)) w := fun _ _ => rfl
  have d1 : decide ((T : Int) < 1) = false := decide_eq_false (by omega)
  have d2 : decide ((8 : Int) < (T : Int)) = false := decide_eq_false (by omega)
  have e1 : decide ((K : Int) < 1) = false := decide_eq_false (by omega)
  have e2 : decide (2 * (T : Int) < (K : Int)) = false := decide_eq_false (by omega)
  have HZ := Lib.hid (roots_zero T K hT1 hT8 hK1 hK2)
  have hK16 : K ≤ 16 := by omega
  have HK16 := Lib.hid hK16
  clear hK1 hK2 hK16
  go_enter Try.func7, Try.ntmps7
  go_wp2_with fail
  refine (speaks2_any _).mono ?_
  rintro e w1 ⟨rfl, hu1⟩
  have HU1 := Lib.hid hu1
  clear hu1
  go_upto_region 5 with fail
  have HF1 := Lib.hid (fresh_new w1)
  have HG := Lib.hid (generator_any w1.heap.size 0 T _ HF1.out hT1 hT8)
  have hdeg := GG_deg T hT8
  have HGE := Lib.hid (exps_top (GG T) (13 * T) hdeg.1 hdeg.2 (by omega))
  have HGB : Hid (∀ j, j < (exps (GG T)).length → 0 ≤ (exps (GG T)).getD j 0 ∧ (exps (GG T)).getD j 0 ≤ 104) := fun j hj => by
    have e : (exps (GG T)).getD j 0 = (exps (GG T))[j] := by rw [List.getD_eq_getElem?_getD, List.getElem?_eq_getElem hj]; rfl
    rw [e]
    have := exps_mem _ (GG T) (13 * T) (List.getElem_mem hj) hdeg.2 (by omega)
    omega
  have HU1F : Hid (Upd noBlock w (w1.alloc (.cells #[.int .u32 0, .int .i32 0, .int .u32 0, .slice none 0 0, .slice none 0 0, .int .i64 0] 52))) := HU1.out.alloc _
  have hbw := HU1.out.size
  clear hdeg
  go_wp2_with fail
  refine HG.out.mono ?_
  rintro e w2 ⟨v2, rfl, hgp, _, hu2⟩
  obtain ⟨p, m, c, rfl, hi2, hm, hpg⟩ := hgp
  have hlm : (exps (GG T)).length = m := hi2.1
  have hm0 : 0 < m := by rw [← hlm, HGE.out]; simp
  obtain ⟨g, o, rfl, hgw, hc⟩ := hi2.cell hm0
  have c0 : w2.cell? ⟨g, o, none⟩ = some (.int .i64 ((13 * T : Nat) : Int)) := by
    have := hc 0 hm0
    rw [HGE.out] at this; exact this
  have c0' : w2.cell? ⟨g, o, none⟩ = some (.int .i64 (13 * (T : Int))) := by rw [c0]; simp
  have HC := Lib.hid hc
  have HLM := Lib.hid hlm
  have HU2 : Hid (Upd noBlock w w2) := HU1F.out.step hu2 (fun i hi e => by
    have e' : i = w1.heap.size := e
    omega)
  have t1 : ((m : Int) == 0) = false := beq_eq_false_iff_ne.2 (by omega)
  have t2 : decide ((13 * (T : Int)) < (13 * (T : Int))) = false := decide_eq_false (by omega)
  have hm9 : m ≤ 9223372036854775807 := by unfold maxLen at hm; omega
  have hmi : (0 : Int) < (m : Int) := by omega
  clear hc hlm hi2 hpg hu2 c0
  go_upto_region 11 with fail
  clear c0' t1 t2 hmi
  go_wp2_with fail
  go_loop [8, 9] (fun v i => ∃ j : Nat, j ≤ m ∧ i = .int .i64 (j : Int) ∧ v = .int .i64 ((evs K ((exps (GG T)).take j) : Nat) : Int)) (fun _ i => m - (intOf i).toNat)
  case atStart => exact ⟨0, Nat.zero_le _, rfl, by rw [List.take_zero]; unfold evs; rfl⟩
  case round =>
    obtain ⟨j, hj, rfl, rfl⟩ := hrel
    by_cases h0 : j < m
    · have c1 := HC.out j h0
      have hb := HGB.out j (by rw [HLM.out]; exact h0)
      have HEV := Lib.hid (evs_take K (exps (GG T)) j (by rw [HLM.out]; exact h0))
      have hlt := evs_lt K ((exps (GG T)).take j)
      generalize (exps (GG T)).getD j 0 = z at *
      obtain ⟨z, rfl⟩ := Int.eq_ofNat_of_zero_le hb.1
      have hz := hb.2
      have hkz : (K : Int) * (z : Int) ≤ 1664 ∧ 0 ≤ (K : Int) * (z : Int) := by
        have h1 : K * z ≤ 16 * 104 := Nat.mul_le_mul HK16.out (by omega)
        rw [← Int.natCast_mul]; omega
      have tw : IntKind.i64.wrap ((K : Int) * (z : Int)) = (K : Int) * (z : Int) := IntWalk.i64_in _ (by omega)
      generalize hq : evs K ((exps (GG T)).take j) = q at *
      have hpl := pw_lt (trn ((K : Int) * (z : Int)))
      have hx : bits .xor .i64 (q : Int) ((pw (trn ((K : Int) * (z : Int))) : Nat) : Int) = ((q ^^^ pw (trn ((K : Int) * (z : Int))) : Nat) : Int) := i64_xor_nat _ _ (by omega) (by omega)
      have hkz1 := hkz.1
      have hkz2 := hkz.2
      clear hb hz hkz hq
      go_wp2_with fail
      refine (rExp_any ((K : Int) * (z : Int)) _).mono ?_
      rintro e w3 ⟨rfl, rfl⟩
      go_wp2
      go_round
      case rel => exact ⟨j + 1, by omega, by go_num, by rw [HEV.out]⟩
      case measure => simp [intOf]; omega
    · obtain rfl : j = m := by omega
      have ht : (exps (GG T)).take j = exps (GG T) := List.take_of_length_le (by rw [HLM.out]; omega)
      rw [ht, HZ.out]
      clear ht
      go_wp2
      go_ret
      exact ⟨rfl, upd_ends HU2.out⟩

set_option maxRecDepth 20000 in
set_option maxHeartbeats 1600000 in
theorem polyRoots_in_low (T : Nat) (hT1 : 1 ≤ T) (hT8 : T ≤ 8) (k : Int) (hk : k < 1) (w : World) :
    Calls Try.prog 7 #[.int .i64 (T : Int), .int .i64 k] w fun e w' => e = .returned (.bool true) ∧ Below w.heap.size w w' := by
  have hnot : ∀ (x : Bool) (w : World), (Op.unary .not (.bool x)).run Try.prog w = .ok (.bool (!x)) w := fun _ _ => rfl
  obtain ⟨K, hKe⟩ : ∃ K : Nat, (K : Int) = 2 * (T : Int) := ⟨2 * T, by omega⟩
  have hK1 : 1 ≤ K := by omega
  have hK2 : K ≤ 2 * T := by omega
  have HKE := Lib.hid hKe
  clear hKe
  have d1 : decide ((T : Int) < 1) = false := decide_eq_false (by omega)
  have d2 : decide ((8 : Int) < (T : Int)) = false := decide_eq_false (by omega)
  have e1 : decide (k < 1) = true := decide_eq_true hk
  have HZ := Lib.hid (roots_zero T K hT1 hT8 hK1 hK2)
  have hK16 : K ≤ 16 := by omega
  have HK16 := Lib.hid hK16
  clear hK1 hK2 hK16
  clear hk
  go_enter Try.func7, Try.ntmps7
  go_wp2_with fail
  refine (speaks2_any _).mono ?_
  rintro e w1 ⟨rfl, hu1⟩
  have HU1 := Lib.hid hu1
  clear hu1
  go_upto_region 5 with fail
  have HF1 := Lib.hid (fresh_new w1)
  have HG := Lib.hid (generator_any w1.heap.size 0 T _ HF1.out hT1 hT8)
  have hdeg := GG_deg T hT8
  have HGE := Lib.hid (exps_top (GG T) (13 * T) hdeg.1 hdeg.2 (by omega))
  have HGB : Hid (∀ j, j < (exps (GG T)).length → 0 ≤ (exps (GG T)).getD j 0 ∧ (exps (GG T)).getD j 0 ≤ 104) := fun j hj => by
    have e : (exps (GG T)).getD j 0 = (exps (GG T))[j] := by rw [List.getD_eq_getElem?_getD, List.getElem?_eq_getElem hj]; rfl
    rw [e]
    have := exps_mem _ (GG T) (13 * T) (List.getElem_mem hj) hdeg.2 (by omega)
    omega
  have HU1F : Hid (Upd noBlock w (w1.alloc (.cells #[.int .u32 0, .int .i32 0, .int .u32 0, .slice none 0 0, .slice none 0 0, .int .i64 0] 52))) := HU1.out.alloc _
  have hbw := HU1.out.size
  clear hdeg
  go_wp2_with fail
  refine HG.out.mono ?_
  rintro e w2 ⟨v2, rfl, hgp, _, hu2⟩
  obtain ⟨p, m, c, rfl, hi2, hm, hpg⟩ := hgp
  have hlm : (exps (GG T)).length = m := hi2.1
  have hm0 : 0 < m := by rw [← hlm, HGE.out]; simp
  obtain ⟨g, o, rfl, hgw, hc⟩ := hi2.cell hm0
  have c0 : w2.cell? ⟨g, o, none⟩ = some (.int .i64 ((13 * T : Nat) : Int)) := by
    have := hc 0 hm0
    rw [HGE.out] at this; exact this
  have c0' : w2.cell? ⟨g, o, none⟩ = some (.int .i64 (13 * (T : Int))) := by rw [c0]; simp
  have HC := Lib.hid hc
  have HLM := Lib.hid hlm
  have HU2 : Hid (Upd noBlock w w2) := HU1F.out.step hu2 (fun i hi e => by
    have e' : i = w1.heap.size := e
    omega)
  have t1 : ((m : Int) == 0) = false := beq_eq_false_iff_ne.2 (by omega)
  have t2 : decide ((13 * (T : Int)) < (13 * (T : Int))) = false := decide_eq_false (by omega)
  have hm9 : m ≤ 9223372036854775807 := by unfold maxLen at hm; omega
  have hmi : (0 : Int) < (m : Int) := by omega
  clear hc hlm hi2 hpg hu2 c0
  go_upto_region 11 with fail
  rw [← HKE.out]
  clear c0' t1 t2 hmi
  go_wp2_with fail
  go_loop [8, 9] (fun v i => ∃ j : Nat, j ≤ m ∧ i = .int .i64 (j : Int) ∧ v = .int .i64 ((evs K ((exps (GG T)).take j) : Nat) : Int)) (fun _ i => m - (intOf i).toNat)
  case atStart => exact ⟨0, Nat.zero_le _, rfl, by rw [List.take_zero]; unfold evs; rfl⟩
  case round =>
    obtain ⟨j, hj, rfl, rfl⟩ := hrel
    by_cases h0 : j < m
    · have c1 := HC.out j h0
      have hb := HGB.out j (by rw [HLM.out]; exact h0)
      have HEV := Lib.hid (evs_take K (exps (GG T)) j (by rw [HLM.out]; exact h0))
      have hlt := evs_lt K ((exps (GG T)).take j)
      generalize (exps (GG T)).getD j 0 = z at *
      obtain ⟨z, rfl⟩ := Int.eq_ofNat_of_zero_le hb.1
      have hz := hb.2
      have hkz : (K : Int) * (z : Int) ≤ 1664 ∧ 0 ≤ (K : Int) * (z : Int) := by
        have h1 : K * z ≤ 16 * 104 := Nat.mul_le_mul HK16.out (by omega)
        rw [← Int.natCast_mul]; omega
      have tw : IntKind.i64.wrap ((K : Int) * (z : Int)) = (K : Int) * (z : Int) := IntWalk.i64_in _ (by omega)
      generalize hq : evs K ((exps (GG T)).take j) = q at *
      have hpl := pw_lt (trn ((K : Int) * (z : Int)))
      have hx : bits .xor .i64 (q : Int) ((pw (trn ((K : Int) * (z : Int))) : Nat) : Int) = ((q ^^^ pw (trn ((K : Int) * (z : Int))) : Nat) : Int) := i64_xor_nat _ _ (by omega) (by omega)
      have hkz1 := hkz.1
      have hkz2 := hkz.2
      clear hb hz hkz hq
      go_wp2_with fail
      refine (rExp_any ((K : Int) * (z : Int)) _).mono ?_
      rintro e w3 ⟨rfl, rfl⟩
      go_wp2
      go_round
      case rel => exact ⟨j + 1, by omega, by go_num, by rw [HEV.out]⟩
      case measure => simp [intOf]; omega
    · obtain rfl : j = m := by omega
      have ht : (exps (GG T)).take j = exps (GG T) := List.take_of_length_le (by rw [HLM.out]; omega)
      rw [ht, HZ.out]
      clear ht
      go_wp2
      go_ret
      exact ⟨rfl, upd_ends HU2.out⟩

set_option maxRecDepth 20000 in
set_option maxHeartbeats 1600000 in
theorem polyRoots_in_high (T : Nat) (hT1 : 1 ≤ T) (hT8 : T ≤ 8) (k : Int) (hk : 2 * (T : Int) < k) (w : World) :
    Calls Try.prog 7 #[.int .i64 (T : Int), .int .i64 k] w fun e w' => e = .returned (.bool true) ∧ Below w.heap.size w w' := by
  have hnot : ∀ (x : Bool) (w : World), (Op.unary .not (.bool x)).run Try.prog w = .ok (.bool (!x)) w := fun _ _ => rfl
  obtain ⟨K, hKe⟩ : ∃ K : Nat, (K : Int) = 2 * (T : Int) := ⟨2 * T, by omega⟩
  have hK1 : 1 ≤ K := by omega
  have hK2 : K ≤ 2 * T := by omega
  have HKE := Lib.hid hKe
  clear hKe
  have d1 : decide ((T : Int) < 1) = false := decide_eq_false (by omega)
  have d2 : decide ((8 : Int) < (T : Int)) = false := decide_eq_false (by omega)
  have e1 : decide (k < 1) = false := decide_eq_false (by omega)
  have e2 : decide (2 * (T : Int) < k) = true := decide_eq_true hk
  have HZ := Lib.hid (roots_zero T K hT1 hT8 hK1 hK2)
  have hK16 : K ≤ 16 := by omega
  have HK16 := Lib.hid hK16
  clear hK1 hK2 hK16
  clear hk
  go_enter Try.func7, Try.ntmps7
  go_wp2_with fail
  refine (speaks2_any _).mono ?_
  rintro e w1 ⟨rfl, hu1⟩
  have HU1 := Lib.hid hu1
  clear hu1
  go_upto_region 5 with fail
  have HF1 := Lib.hid (fresh_new w1)
  have HG := Lib.hid (generator_any w1.heap.size 0 T _ HF1.out hT1 hT8)
  have hdeg := GG_deg T hT8
  have HGE := Lib.hid (exps_top (GG T) (13 * T) hdeg.1 hdeg.2 (by omega))
  have HGB : Hid (∀ j, j < (exps (GG T)).length → 0 ≤ (exps (GG T)).getD j 0 ∧ (exps (GG T)).getD j 0 ≤ 104) := fun j hj => by
    have e : (exps (GG T)).getD j 0 = (exps (GG T))[j] := by rw [List.getD_eq_getElem?_getD, List.getElem?_eq_getElem hj]; rfl
    rw [e]
    have := exps_mem _ (GG T) (13 * T) (List.getElem_mem hj) hdeg.2 (by omega)
    omega
  have HU1F : Hid (Upd noBlock w (w1.alloc (.cells #[.int .u32 0, .int .i32 0, .int .u32 0, .slice none 0 0, .slice none 0 0, .int .i64 0] 52))) := HU1.out.alloc _
  have hbw := HU1.out.size
  clear hdeg
  go_wp2_with fail
  refine HG.out.mono ?_
  rintro e w2 ⟨v2, rfl, hgp, _, hu2⟩
  obtain ⟨p, m, c, rfl, hi2, hm, hpg⟩ := hgp
  have hlm : (exps (GG T)).length = m := hi2.1
  have hm0 : 0 < m := by rw [← hlm, HGE.out]; simp
  obtain ⟨g, o, rfl, hgw, hc⟩ := hi2.cell hm0
  have c0 : w2.cell? ⟨g, o, none⟩ = some (.int .i64 ((13 * T : Nat) : Int)) := by
    have := hc 0 hm0
    rw [HGE.out] at this; exact this
  have c0' : w2.cell? ⟨g, o, none⟩ = some (.int .i64 (13 * (T : Int))) := by rw [c0]; simp
  have HC := Lib.hid hc
  have HLM := Lib.hid hlm
  have HU2 : Hid (Upd noBlock w w2) := HU1F.out.step hu2 (fun i hi e => by
    have e' : i = w1.heap.size := e
    omega)
  have t1 : ((m : Int) == 0) = false := beq_eq_false_iff_ne.2 (by omega)
  have t2 : decide ((13 * (T : Int)) < (13 * (T : Int))) = false := decide_eq_false (by omega)
  have hm9 : m ≤ 9223372036854775807 := by unfold maxLen at hm; omega
  have hmi : (0 : Int) < (m : Int) := by omega
  clear hc hlm hi2 hpg hu2 c0
  go_upto_region 11 with fail
  rw [← HKE.out]
  clear c0' t1 t2 hmi
  go_wp2_with fail
  go_loop [8, 9] (fun v i => ∃ j : Nat, j ≤ m ∧ i = .int .i64 (j : Int) ∧ v = .int .i64 ((evs K ((exps (GG T)).take j) : Nat) : Int)) (fun _ i => m - (intOf i).toNat)
  case atStart => exact ⟨0, Nat.zero_le _, rfl, by rw [List.take_zero]; unfold evs; rfl⟩
  case round =>
    obtain ⟨j, hj, rfl, rfl⟩ := hrel
    by_cases h0 : j < m
    · have c1 := HC.out j h0
      have hb := HGB.out j (by rw [HLM.out]; exact h0)
      have HEV := Lib.hid (evs_take K (exps (GG T)) j (by rw [HLM.out]; exact h0))
      have hlt := evs_lt K ((exps (GG T)).take j)
      generalize (exps (GG T)).getD j 0 = z at *
      obtain ⟨z, rfl⟩ := Int.eq_ofNat_of_zero_le hb.1
      have hz := hb.2
      have hkz : (K : Int) * (z : Int) ≤ 1664 ∧ 0 ≤ (K : Int) * (z : Int) := by
        have h1 : K * z ≤ 16 * 104 := Nat.mul_le_mul HK16.out (by omega)
        rw [← Int.natCast_mul]; omega
      have tw : IntKind.i64.wrap ((K : Int) * (z : Int)) = (K : Int) * (z : Int) := IntWalk.i64_in _ (by omega)
      generalize hq : evs K ((exps (GG T)).take j) = q at *
      have hpl := pw_lt (trn ((K : Int) * (z : Int)))
      have hx : bits .xor .i64 (q : Int) ((pw (trn ((K : Int) * (z : Int))) : Nat) : Int) = ((q ^^^ pw (trn ((K : Int) * (z : Int))) : Nat) : Int) := i64_xor_nat _ _ (by omega) (by omega)
      have hkz1 := hkz.1
      have hkz2 := hkz.2
      clear hb hz hkz hq
      go_wp2_with fail
      refine (rExp_any ((K : Int) * (z : Int)) _).mono ?_
      rintro e w3 ⟨rfl, rfl⟩
      go_wp2
      go_round
      case rel => exact ⟨j + 1, by omega, by go_num, by rw [HEV.out]⟩
      case measure => simp [intOf]; omega
    · obtain rfl : j = m := by omega
      have ht : (exps (GG T)).take j = exps (GG T) := List.take_of_length_le (by rw [HLM.out]; omega)
      rw [ht, HZ.out]
      clear ht
      go_wp2
      go_ret
      exact ⟨rfl, upd_ends HU2.out⟩

set_option maxRecDepth 20000 in
set_option maxHeartbeats 1600000 in
theorem polyRoots_low_in (T : Nat) (hT3 : (T : Int) = 3) (t : Int) (ht : t < 1) (K : Nat) (hK1 : 1 ≤ K) (hK2 : K ≤ 2 * T) (w : World) :
    Calls Try.prog 7 #[.int .i64 t, .int .i64 (K : Int)] w fun e w' => e = .returned (.bool true) ∧ Below w.heap.size w w' := by
  have hnot : ∀ (x : Bool) (w : World), (Op.unary .not (.bool x)).run Try.prog w = .ok (.bool (!x)) w := fun _ _ => rfl
  have hT1 : 1 ≤ T := by omega
  have hT8 : T ≤ 8 := by omega
  have HT3 := Lib.hid hT3
  clear hT3
  have d1 : decide (t < 1) = true := decide_eq_true ht
  have e1 : decide ((K : Int) < 1) = false := decide_eq_false (by omega)
  have e2 : decide (2 * (T : Int) < (K : Int)) = false := decide_eq_false (by omega)
  have HZ := Lib.hid (roots_zero T K hT1 hT8 hK1 hK2)
  have hK16 : K ≤ 16 := by omega
  have HK16 := Lib.hid hK16
  clear hK1 hK2 hK16
  clear ht
  go_enter Try.func7, Try.ntmps7
  go_wp2_with fail
  refine (speaks2_any _).mono ?_
  rintro e w1 ⟨rfl, hu1⟩
  have HU1 := Lib.hid hu1
  clear hu1
  go_upto_region 5 with fail
  rw [← HT3.out]
  have HF1 := Lib.hid (fresh_new w1)
  have HG := Lib.hid (generator_any w1.heap.size 0 T _ HF1.out hT1 hT8)
  have hdeg := GG_deg T hT8
  have HGE := Lib.hid (exps_top (GG T) (13 * T) hdeg.1 hdeg.2 (by omega))
  have HGB : Hid (∀ j, j < (exps (GG T)).length → 0 ≤ (exps (GG T)).getD j 0 ∧ (exps (GG T)).getD j 0 ≤ 104) := fun j hj => by
    have e : (exps (GG T)).getD j 0 = (exps (GG T))[j] := by rw [List.getD_eq_getElem?_getD, List.getElem?_eq_getElem hj]; rfl
    rw [e]
    have := exps_mem _ (GG T) (13 * T) (List.getElem_mem hj) hdeg.2 (by omega)
    omega
  have HU1F : Hid (Upd noBlock w (w1.alloc (.cells #[.int .u32 0, .int .i32 0, .int .u32 0, .slice none 0 0, .slice none 0 0, .int .i64 0] 52))) := HU1.out.alloc _
  have hbw := HU1.out.size
  clear hdeg
  go_wp2_with fail
  refine HG.out.mono ?_
  rintro e w2 ⟨v2, rfl, hgp, _, hu2⟩
  obtain ⟨p, m, c, rfl, hi2, hm, hpg⟩ := hgp
  have hlm : (exps (GG T)).length = m := hi2.1
  have hm0 : 0 < m := by rw [← hlm, HGE.out]; simp
  obtain ⟨g, o, rfl, hgw, hc⟩ := hi2.cell hm0
  have c0 : w2.cell? ⟨g, o, none⟩ = some (.int .i64 ((13 * T : Nat) : Int)) := by
    have := hc 0 hm0
    rw [HGE.out] at this; exact this
  have c0' : w2.cell? ⟨g, o, none⟩ = some (.int .i64 (13 * (T : Int))) := by rw [c0]; simp
  have HC := Lib.hid hc
  have HLM := Lib.hid hlm
  have HU2 : Hid (Upd noBlock w w2) := HU1F.out.step hu2 (fun i hi e => by
    have e' : i = w1.heap.size := e
    omega)
  have t1 : ((m : Int) == 0) = false := beq_eq_false_iff_ne.2 (by omega)
  have t2 : decide ((13 * (T : Int)) < (13 * (T : Int))) = false := decide_eq_false (by omega)
  have hm9 : m ≤ 9223372036854775807 := by unfold maxLen at hm; omega
  have hmi : (0 : Int) < (m : Int) := by omega
  clear hc hlm hi2 hpg hu2 c0
  go_upto_region 11 with fail
  clear c0' t1 t2 hmi
  go_wp2_with fail
  go_loop [8, 9] (fun v i => ∃ j : Nat, j ≤ m ∧ i = .int .i64 (j : Int) ∧ v = .int .i64 ((evs K ((exps (GG T)).take j) : Nat) : Int)) (fun _ i => m - (intOf i).toNat)
  case atStart => exact ⟨0, Nat.zero_le _, rfl, by rw [List.take_zero]; unfold evs; rfl⟩
  case round =>
    obtain ⟨j, hj, rfl, rfl⟩ := hrel
    by_cases h0 : j < m
    · have c1 := HC.out j h0
      have hb := HGB.out j (by rw [HLM.out]; exact h0)
      have HEV := Lib.hid (evs_take K (exps (GG T)) j (by rw [HLM.out]; exact h0))
      have hlt := evs_lt K ((exps (GG T)).take j)
      generalize (exps (GG T)).getD j 0 = z at *
      obtain ⟨z, rfl⟩ := Int.eq_ofNat_of_zero_le hb.1
      have hz := hb.2
      have hkz : (K : Int) * (z : Int) ≤ 1664 ∧ 0 ≤ (K : Int) * (z : Int) := by
        have h1 : K * z ≤ 16 * 104 := Nat.mul_le_mul HK16.out (by omega)
        rw [← Int.natCast_mul]; omega
      have tw : IntKind.i64.wrap ((K : Int) * (z : Int)) = (K : Int) * (z : Int) := IntWalk.i64_in _ (by omega)
      generalize hq : evs K ((exps (GG T)).take j) = q at *
      have hpl := pw_lt (trn ((K : Int) * (z : Int)))
      have hx : bits .xor .i64 (q : Int) ((pw (trn ((K : Int) * (z : Int))) : Nat) : Int) = ((q ^^^ pw (trn ((K : Int) * (z : Int))) : Nat) : Int) := i64_xor_nat _ _ (by omega) (by omega)
      have hkz1 := hkz.1
      have hkz2 := hkz.2
      clear hb hz hkz hq
      go_wp2_with fail
      refine (rExp_any ((K : Int) * (z : Int)) _).mono ?_
      rintro e w3 ⟨rfl, rfl⟩
      go_wp2
      go_round
      case rel => exact ⟨j + 1, by omega, by go_num, by rw [HEV.out]⟩
      case measure => simp [intOf]; omega
    · obtain rfl : j = m := by omega
      have ht : (exps (GG T)).take j = exps (GG T) := List.take_of_length_le (by rw [HLM.out]; omega)
      rw [ht, HZ.out]
      clear ht
      go_wp2
      go_ret
      exact ⟨rfl, upd_ends HU2.out⟩

set_option maxRecDepth 20000 in
set_option maxHeartbeats 1600000 in
theorem polyRoots_low_low (T : Nat) (hT3 : (T : Int) = 3) (t : Int) (ht : t < 1) (k : Int) (hk : k < 1) (w : World) :
    Calls Try.prog 7 #[.int .i64 t, .int .i64 k] w fun e w' => e = .returned (.bool true) ∧ Below w.heap.size w w' := by
  have hnot : ∀ (x : Bool) (w : World), (Op.unary .not (.bool x)).run Try.prog w = .ok (.bool (!x)) w := fun _ _ => rfl
  have hT1 : 1 ≤ T := by omega
  have hT8 : T ≤ 8 := by omega
  obtain ⟨K, hKe⟩ : ∃ K : Nat, (K : Int) = 2 * (T : Int) := ⟨2 * T, by omega⟩
  have hK1 : 1 ≤ K := by omega
  have hK2 : K ≤ 2 * T := by omega
  have HKE := Lib.hid hKe
  clear hKe
  have HT3 := Lib.hid hT3
  clear hT3
  have d1 : decide (t < 1) = true := decide_eq_true ht
  have e1 : decide (k < 1) = true := decide_eq_true hk
  have HZ := Lib.hid (roots_zero T K hT1 hT8 hK1 hK2)
  have hK16 : K ≤ 16 := by omega
  have HK16 := Lib.hid hK16
  clear hK1 hK2 hK16
  clear ht
  clear hk
  go_enter Try.func7, Try.ntmps7
  go_wp2_with fail
  refine (speaks2_any _).mono ?_
  rintro e w1 ⟨rfl, hu1⟩
  have HU1 := Lib.hid hu1
  clear hu1
  go_upto_region 5 with fail
  rw [← HT3.out]
  have HF1 := Lib.hid (fresh_new w1)
  have HG := Lib.hid (generator_any w1.heap.size 0 T _ HF1.out hT1 hT8)
  have hdeg := GG_deg T hT8
  have HGE := Lib.hid (exps_top (GG T) (13 * T) hdeg.1 hdeg.2 (by omega))
  have HGB : Hid (∀ j, j < (exps (GG T)).length → 0 ≤ (exps (GG T)).getD j 0 ∧ (exps (GG T)).getD j 0 ≤ 104) := fun j hj => by
    have e : (exps (GG T)).getD j 0 = (exps (GG T))[j] := by rw [List.getD_eq_getElem?_getD, List.getElem?_eq_getElem hj]; rfl
    rw [e]
    have := exps_mem _ (GG T) (13 * T) (List.getElem_mem hj) hdeg.2 (by omega)
    omega
  have HU1F : Hid (Upd noBlock w (w1.alloc (.cells #[.int .u32 0, .int .i32 0, .int .u32 0, .slice none 0 0, .slice none 0 0, .int .i64 0] 52))) := HU1.out.alloc _
  have hbw := HU1.out.size
  clear hdeg
  go_wp2_with fail
  refine HG.out.mono ?_
  rintro e w2 ⟨v2, rfl, hgp, _, hu2⟩
  obtain ⟨p, m, c, rfl, hi2, hm, hpg⟩ := hgp
  have hlm : (exps (GG T)).length = m := hi2.1
  have hm0 : 0 < m := by rw [← hlm, HGE.out]; simp
  obtain ⟨g, o, rfl, hgw, hc⟩ := hi2.cell hm0
  have c0 : w2.cell? ⟨g, o, none⟩ = some (.int .i64 ((13 * T : Nat) : Int)) := by
    have := hc 0 hm0
    rw [HGE.out] at this; exact this
  have c0' : w2.cell? ⟨g, o, none⟩ = some (.int .i64 (13 * (T : Int))) := by rw [c0]; simp
  have HC := Lib.hid hc
  have HLM := Lib.hid hlm
  have HU2 : Hid (Upd noBlock w w2) := HU1F.out.step hu2 (fun i hi e => by
    have e' : i = w1.heap.size := e
    omega)
  have t1 : ((m : Int) == 0) = false := beq_eq_false_iff_ne.2 (by omega)
  have t2 : decide ((13 * (T : Int)) < (13 * (T : Int))) = false := decide_eq_false (by omega)
  have hm9 : m ≤ 9223372036854775807 := by unfold maxLen at hm; omega
  have hmi : (0 : Int) < (m : Int) := by omega
  clear hc hlm hi2 hpg hu2 c0
  go_upto_region 11 with fail
  rw [← HKE.out]
  clear c0' t1 t2 hmi
  go_wp2_with fail
  go_loop [8, 9] (fun v i => ∃ j : Nat, j ≤ m ∧ i = .int .i64 (j : Int) ∧ v = .int .i64 ((evs K ((exps (GG T)).take j) : Nat) : Int)) (fun _ i => m - (intOf i).toNat)
  case atStart => exact ⟨0, Nat.zero_le _, rfl, by rw [List.take_zero]; unfold evs; rfl⟩
  case round =>
    obtain ⟨j, hj, rfl, rfl⟩ := hrel
    by_cases h0 : j < m
    · have c1 := HC.out j h0
      have hb := HGB.out j (by rw [HLM.out]; exact h0)
      have HEV := Lib.hid (evs_take K (exps (GG T)) j (by rw [HLM.out]; exact h0))
      have hlt := evs_lt K ((exps (GG T)).take j)
      generalize (exps (GG T)).getD j 0 = z at *
      obtain ⟨z, rfl⟩ := Int.eq_ofNat_of_zero_le hb.1
      have hz := hb.2
      have hkz : (K : Int) * (z : Int) ≤ 1664 ∧ 0 ≤ (K : Int) * (z : Int) := by
        have h1 : K * z ≤ 16 * 104 := Nat.mul_le_mul HK16.out (by omega)
        rw [← Int.natCast_mul]; omega
      have tw : IntKind.i64.wrap ((K : Int) * (z : Int)) = (K : Int) * (z : Int) := IntWalk.i64_in _ (by omega)
      generalize hq : evs K ((exps (GG T)).take j) = q at *
      have hpl := pw_lt (trn ((K : Int) * (z : Int)))
      have hx : bits .xor .i64 (q : Int) ((pw (trn ((K : Int) * (z : Int))) : Nat) : Int) = ((q ^^^ pw (trn ((K : Int) * (z : Int))) : Nat) : Int) := i64_xor_nat _ _ (by omega) (by omega)
      have hkz1 := hkz.1
      have hkz2 := hkz.2
      clear hb hz hkz hq
      go_wp2_with fail
      refine (rExp_any ((K : Int) * (z : Int)) _).mono ?_
      rintro e w3 ⟨rfl, rfl⟩
      go_wp2
      go_round
      case rel => exact ⟨j + 1, by omega, by go_num, by rw [HEV.out]⟩
      case measure => simp [intOf]; omega
    · obtain rfl : j = m := by omega
      have ht : (exps (GG T)).take j = exps (GG T) := List.take_of_length_le (by rw [HLM.out]; omega)
      rw [ht, HZ.out]
      clear ht
      go_wp2
      go_ret
      exact ⟨rfl, upd_ends HU2.out⟩

set_option maxRecDepth 20000 in
set_option maxHeartbeats 1600000 in
theorem polyRoots_low_high (T : Nat) (hT3 : (T : Int) = 3) (t : Int) (ht : t < 1) (k : Int) (hk : 2 * (T : Int) < k) (w : World) :
    Calls Try.prog 7 #[.int .i64 t, .int .i64 k] w fun e w' => e = .returned (.bool true) ∧ Below w.heap.size w w' := by
  have hnot : ∀ (x : Bool) (w : World), (Op.unary .not (.bool x)).run Try.prog w = .ok (.bool (!x)) w := fun _ _ => rfl
  have hT1 : 1 ≤ T := by omega
  have hT8 : T ≤ 8 := by omega
  obtain ⟨K, hKe⟩ : ∃ K : Nat, (K : Int) = 2 * (T : Int) := ⟨2 * T, by omega⟩
  have hK1 : 1 ≤ K := by omega
  have hK2 : K ≤ 2 * T := by omega
  have HKE := Lib.hid hKe
  clear hKe
  have HT3 := Lib.hid hT3
  clear hT3
  have d1 : decide (t < 1) = true := decide_eq_true ht
  have e1 : decide (k < 1) = false := decide_eq_false (by omega)
  have e2 : decide (2 * (T : Int) < k) = true := decide_eq_true hk
  have HZ := Lib.hid (roots_zero T K hT1 hT8 hK1 hK2)
  have hK16 : K ≤ 16 := by omega
  have HK16 := Lib.hid hK16
  clear hK1 hK2 hK16
  clear ht
  clear hk
  go_enter Try.func7, Try.ntmps7
  go_wp2_with fail
  refine (speaks2_any _).mono ?_
  rintro e w1 ⟨rfl, hu1⟩
  have HU1 := Lib.hid hu1
  clear hu1
  go_upto_region 5 with fail
  rw [← HT3.out]
  have HF1 := Lib.hid (fresh_new w1)
  have HG := Lib.hid (generator_any w1.heap.size 0 T _ HF1.out hT1 hT8)
  have hdeg := GG_deg T hT8
  have HGE := Lib.hid (exps_top (GG T) (13 * T) hdeg.1 hdeg.2 (by omega))
  have HGB : Hid (∀ j, j < (exps (GG T)).length → 0 ≤ (exps (GG T)).getD j 0 ∧ (exps (GG T)).getD j 0 ≤ 104) := fun j hj => by
    have e : (exps (GG T)).getD j 0 = (exps (GG T))[j] := by rw [List.getD_eq_getElem?_getD, List.getElem?_eq_getElem hj]; rfl
    rw [e]
    have := exps_mem _ (GG T) (13 * T) (List.getElem_mem hj) hdeg.2 (by omega)
    omega
  have HU1F : Hid (Upd noBlock w (w1.alloc (.cells #[.int .u32 0, .int .i32 0, .int .u32 0, .slice none 0 0, .slice none 0 0, .int .i64 0] 52))) := HU1.out.alloc _
  have hbw := HU1.out.size
  clear hdeg
  go_wp2_with fail
  refine HG.out.mono ?_
  rintro e w2 ⟨v2, rfl, hgp, _, hu2⟩
  obtain ⟨p, m, c, rfl, hi2, hm, hpg⟩ := hgp
  have hlm : (exps (GG T)).length = m := hi2.1
  have hm0 : 0 < m := by rw [← hlm, HGE.out]; simp
  obtain ⟨g, o, rfl, hgw, hc⟩ := hi2.cell hm0
  have c0 : w2.cell? ⟨g, o, none⟩ = some (.int .i64 ((13 * T : Nat) : Int)) := by
    have := hc 0 hm0
    rw [HGE.out] at this; exact this
  have c0' : w2.cell? ⟨g, o, none⟩ = some (.int .i64 (13 * (T : Int))) := by rw [c0]; simp
  have HC := Lib.hid hc
  have HLM := Lib.hid hlm
  have HU2 : Hid (Upd noBlock w w2) := HU1F.out.step hu2 (fun i hi e => by
    have e' : i = w1.heap.size := e
    omega)
  have t1 : ((m : Int) == 0) = false := beq_eq_false_iff_ne.2 (by omega)
  have t2 : decide ((13 * (T : Int)) < (13 * (T : Int))) = false := decide_eq_false (by omega)
  have hm9 : m ≤ 9223372036854775807 := by unfold maxLen at hm; omega
  have hmi : (0 : Int) < (m : Int) := by omega
  clear hc hlm hi2 hpg hu2 c0
  go_upto_region 11 with fail
  rw [← HKE.out]
  clear c0' t1 t2 hmi
  go_wp2_with fail
  go_loop [8, 9] (fun v i => ∃ j : Nat, j ≤ m ∧ i = .int .i64 (j : Int) ∧ v = .int .i64 ((evs K ((exps (GG T)).take j) : Nat) : Int)) (fun _ i => m - (intOf i).toNat)
  case atStart => exact ⟨0, Nat.zero_le _, rfl, by rw [List.take_zero]; unfold evs; rfl⟩
  case round =>
    obtain ⟨j, hj, rfl, rfl⟩ := hrel
    by_cases h0 : j < m
    · have c1 := HC.out j h0
      have hb := HGB.out j (by rw [HLM.out]; exact h0)
      have HEV := Lib.hid (evs_take K (exps (GG T)) j (by rw [HLM.out]; exact h0))
      have hlt := evs_lt K ((exps (GG T)).take j)
      generalize (exps (GG T)).getD j 0 = z at *
      obtain ⟨z, rfl⟩ := Int.eq_ofNat_of_zero_le hb.1
      have hz := hb.2
      have hkz : (K : Int) * (z : Int) ≤ 1664 ∧ 0 ≤ (K : Int) * (z : Int) := by
        have h1 : K * z ≤ 16 * 104 := Nat.mul_le_mul HK16.out (by omega)
        rw [← Int.natCast_mul]; omega
      have tw : IntKind.i64.wrap ((K : Int) * (z : Int)) = (K : Int) * (z : Int) := IntWalk.i64_in _ (by omega)
      generalize hq : evs K ((exps (GG T)).take j) = q at *
      have hpl := pw_lt (trn ((K : Int) * (z : Int)))
      have hx : bits .xor .i64 (q : Int) ((pw (trn ((K : Int) * (z : Int))) : Nat) : Int) = ((q ^^^ pw (trn ((K : Int) * (z : Int))) : Nat) : Int) := i64_xor_nat _ _ (by omega) (by omega)
      have hkz1 := hkz.1
      have hkz2 := hkz.2
      clear hb hz hkz hq
      go_wp2_with fail
      refine (rExp_any ((K : Int) * (z : Int)) _).mono ?_
      rintro e w3 ⟨rfl, rfl⟩
      go_wp2
      go_round
      case rel => exact ⟨j + 1, by omega, by go_num, by rw [HEV.out]⟩
      case measure => simp [intOf]; omega
    · obtain rfl : j = m := by omega
      have ht : (exps (GG T)).take j = exps (GG T) := List.take_of_length_le (by rw [HLM.out]; omega)
      rw [ht, HZ.out]
      clear ht
      go_wp2
      go_ret
      exact ⟨rfl, upd_ends HU2.out⟩

set_option maxRecDepth 20000 in
set_option maxHeartbeats 1600000 in
theorem polyRoots_high_in (T : Nat) (hT3 : (T : Int) = 3) (t : Int) (ht : 8 < t) (K : Nat) (hK1 : 1 ≤ K) (hK2 : K ≤ 2 * T) (w : World) :
    Calls Try.prog 7 #[.int .i64 t, .int .i64 (K : Int)] w fun e w' => e = .returned (.bool true) ∧ Below w.heap.size w w' := by
  have hnot : ∀ (x : Bool) (w : World), (Op.unary .not (.bool x)).run Try.prog w = .ok (.bool (!x)) w := fun _ _ => rfl
  have hT1 : 1 ≤ T := by omega
  have hT8 : T ≤ 8 := by omega
  have HT3 := Lib.hid hT3
  clear hT3
  have d1 : decide (t < 1) = false := decide_eq_false (by omega)
  have d2 : decide (8 < t) = true := decide_eq_true ht
  have e1 : decide ((K : Int) < 1) = false := decide_eq_false (by omega)
  have e2 : decide (2 * (T : Int) < (K : Int)) = false := decide_eq_false (by omega)
  have HZ := Lib.hid (roots_zero T K hT1 hT8 hK1 hK2)
  have hK16 : K ≤ 16 := by omega
  have HK16 := Lib.hid hK16
  clear hK1 hK2 hK16
  clear ht
  go_enter Try.func7, Try.ntmps7
  go_wp2_with fail
  refine (speaks2_any _).mono ?_
  rintro e w1 ⟨rfl, hu1⟩
  have HU1 := Lib.hid hu1
  clear hu1
  go_upto_region 5 with fail
  rw [← HT3.out]
  have HF1 := Lib.hid (fresh_new w1)
  have HG := Lib.hid (generator_any w1.heap.size 0 T _ HF1.out hT1 hT8)
  have hdeg := GG_deg T hT8
  have HGE := Lib.hid (exps_top (GG T) (13 * T) hdeg.1 hdeg.2 (by omega))
  have HGB : Hid (∀ j, j < (exps (GG T)).length → 0 ≤ (exps (GG T)).getD j 0 ∧ (exps (GG T)).getD j 0 ≤ 104) := fun j hj => by
    have e : (exps (GG T)).getD j 0 = (exps (GG T))[j] := by rw [List.getD_eq_getElem?_getD, List.getElem?_eq_getElem hj]; rfl
    rw [e]
    have := exps_mem _ (GG T) (13 * T) (List.getElem_mem hj) hdeg.2 (by omega)
    omega
  have HU1F : Hid (Upd noBlock w (w1.alloc (.cells #[.int .u32 0, .int .i32 0, .int .u32 0, .slice none 0 0, .slice none 0 0, .int .i64 0] 52))) := HU1.out.alloc _
  have hbw := HU1.out.size
  clear hdeg
  go_wp2_with fail
  refine HG.out.mono ?_
  rintro e w2 ⟨v2, rfl, hgp, _, hu2⟩
  obtain ⟨p, m, c, rfl, hi2, hm, hpg⟩ := hgp
  have hlm : (exps (GG T)).length = m := hi2.1
  have hm0 : 0 < m := by rw [← hlm, HGE.out]; simp
  obtain ⟨g, o, rfl, hgw, hc⟩ := hi2.cell hm0
  have c0 : w2.cell? ⟨g, o, none⟩ = some (.int .i64 ((13 * T : Nat) : Int)) := by
    have := hc 0 hm0
    rw [HGE.out] at this; exact this
  have c0' : w2.cell? ⟨g, o, none⟩ = some (.int .i64 (13 * (T : Int))) := by rw [c0]; simp
  have HC := Lib.hid hc
  have HLM := Lib.hid hlm
  have HU2 : Hid (Upd noBlock w w2) := HU1F.out.step hu2 (fun i hi e => by
    have e' : i = w1.heap.size := e
    omega)
  have t1 : ((m : Int) == 0) = false := beq_eq_false_iff_ne.2 (by omega)
  have t2 : decide ((13 * (T : Int)) < (13 * (T : Int))) = false := decide_eq_false (by omega)
  have hm9 : m ≤ 9223372036854775807 := by unfold maxLen at hm; omega
  have hmi : (0 : Int) < (m : Int) := by omega
  clear hc hlm hi2 hpg hu2 c0
  go_upto_region 11 with fail
  clear c0' t1 t2 hmi
  go_wp2_with fail
  go_loop [8, 9] (fun v i => ∃ j : Nat, j ≤ m ∧ i = .int .i64 (j : Int) ∧ v = .int .i64 ((evs K ((exps (GG T)).take j) : Nat) : Int)) (fun _ i => m - (intOf i).toNat)
  case atStart => exact ⟨0, Nat.zero_le _, rfl, by rw [List.take_zero]; unfold evs; rfl⟩
  case round =>
    obtain ⟨j, hj, rfl, rfl⟩ := hrel
    by_cases h0 : j < m
    · have c1 := HC.out j h0
      have hb := HGB.out j (by rw [HLM.out]; exact h0)
      have HEV := Lib.hid (evs_take K (exps (GG T)) j (by rw [HLM.out]; exact h0))
      have hlt := evs_lt K ((exps (GG T)).take j)
      generalize (exps (GG T)).getD j 0 = z at *
      obtain ⟨z, rfl⟩ := Int.eq_ofNat_of_zero_le hb.1
      have hz := hb.2
      have hkz : (K : Int) * (z : Int) ≤ 1664 ∧ 0 ≤ (K : Int) * (z : Int) := by
        have h1 : K * z ≤ 16 * 104 := Nat.mul_le_mul HK16.out (by omega)
        rw [← Int.natCast_mul]; omega
      have tw : IntKind.i64.wrap ((K : Int) * (z : Int)) = (K : Int) * (z : Int) := IntWalk.i64_in _ (by omega)
      generalize hq : evs K ((exps (GG T)).take j) = q at *
      have hpl := pw_lt (trn ((K : Int) * (z : Int)))
      have hx : bits .xor .i64 (q : Int) ((pw (trn ((K : Int) * (z : Int))) : Nat) : Int) = ((q ^^^ pw (trn ((K : Int) * (z : Int))) : Nat) : Int) := i64_xor_nat _ _ (by omega) (by omega)
      have hkz1 := hkz.1
      have hkz2 := hkz.2
      clear hb hz hkz hq
      go_wp2_with fail
      refine (rExp_any ((K : Int) * (z : Int)) _).mono ?_
      rintro e w3 ⟨rfl, rfl⟩
      go_wp2
      go_round
      case rel => exact ⟨j + 1, by omega, by go_num, by rw [HEV.out]⟩
      case measure => simp [intOf]; omega
    · obtain rfl : j = m := by omega
      have ht : (exps (GG T)).take j = exps (GG T) := List.take_of_length_le (by rw [HLM.out]; omega)
      rw [ht, HZ.out]
      clear ht
      go_wp2
      go_ret
      exact ⟨rfl, upd_ends HU2.out⟩

set_option maxRecDepth 20000 in
set_option maxHeartbeats 1600000 in
theorem polyRoots_high_low (T : Nat) (hT3 : (T : Int) = 3) (t : Int) (ht : 8 < t) (k : Int) (hk : k < 1) (w : World) :
    Calls Try.prog 7 #[.int .i64 t, .int .i64 k] w fun e w' => e = .returned (.bool true) ∧ Below w.heap.size w w' := by
  have hnot : ∀ (x : Bool) (w : World), (Op.unary .not (.bool x)).run Try.prog w = .ok (.bool (!x)) w := fun _ _ => rfl
  have hT1 : 1 ≤ T := by omega
  have hT8 : T ≤ 8 := by omega
  obtain ⟨K, hKe⟩ : ∃ K : Nat, (K : Int) = 2 * (T : Int) := ⟨2 * T, by omega⟩
  have hK1 : 1 ≤ K := by omega
  have hK2 : K ≤ 2 * T := by omega
  have HKE := Lib.hid hKe
  clear hKe
  have HT3 := Lib.hid hT3
  clear hT3
  have d1 : decide (t < 1) = false := decide_eq_false (by omega)
  have d2 : decide (8 < t) = true := decide_eq_true ht
  have e1 : decide (k < 1) = true := decide_eq_true hk
  have HZ := Lib.hid (roots_zero T K hT1 hT8 hK1 hK2)
  have hK16 : K ≤ 16 := by omega
  have HK16 := Lib.hid hK16
  clear hK1 hK2 hK16
  clear ht
  clear hk
  go_enter Try.func7, Try.ntmps7
  go_wp2_with fail
  refine (speaks2_any _).mono ?_
  rintro e w1 ⟨rfl, hu1⟩
  have HU1 := Lib.hid hu1
  clear hu1
  go_upto_region 5 with fail
  rw [← HT3.out]
  have HF1 := Lib.hid (fresh_new w1)
  have HG := Lib.hid (generator_any w1.heap.size 0 T _ HF1.out hT1 hT8)
  have hdeg := GG_deg T hT8
  have HGE := Lib.hid (exps_top (GG T) (13 * T) hdeg.1 hdeg.2 (by omega))
  have HGB : Hid (∀ j, j < (exps (GG T)).length → 0 ≤ (exps (GG T)).getD j 0 ∧ (exps (GG T)).getD j 0 ≤ 104) := fun j hj => by
    have e : (exps (GG T)).getD j 0 = (exps (GG T))[j] := by rw [List.getD_eq_getElem?_getD, List.getElem?_eq_getElem hj]; rfl
    rw [e]
    have := exps_mem _ (GG T) (13 * T) (List.getElem_mem hj) hdeg.2 (by omega)
    omega
  have HU1F : Hid (Upd noBlock w (w1.alloc (.cells #[.int .u32 0, .int .i32 0, .int .u32 0, .slice none 0 0, .slice none 0 0, .int .i64 0] 52))) := HU1.out.alloc _
  have hbw := HU1.out.size
  clear hdeg
  go_wp2_with fail
  refine HG.out.mono ?_
  rintro e w2 ⟨v2, rfl, hgp, _, hu2⟩
  obtain ⟨p, m, c, rfl, hi2, hm, hpg⟩ := hgp
  have hlm : (exps (GG T)).length = m := hi2.1
  have hm0 : 0 < m := by rw [← hlm, HGE.out]; simp
  obtain ⟨g, o, rfl, hgw, hc⟩ := hi2.cell hm0
  have c0 : w2.cell? ⟨g, o, none⟩ = some (.int .i64 ((13 * T : Nat) : Int)) := by
    have := hc 0 hm0
    rw [HGE.out] at this; exact this
  have c0' : w2.cell? ⟨g, o, none⟩ = some (.int .i64 (13 * (T : Int))) := by rw [c0]; simp
  have HC := Lib.hid hc
  have HLM := Lib.hid hlm
  have HU2 : Hid (Upd noBlock w w2) := HU1F.out.step hu2 (fun i hi e => by
    have e' : i = w1.heap.size := e
    omega)
  have t1 : ((m : Int) == 0) = false := beq_eq_false_iff_ne.2 (by omega)
  have t2 : decide ((13 * (T : Int)) < (13 * (T : Int))) = false := decide_eq_false (by omega)
  have hm9 : m ≤ 9223372036854775807 := by unfold maxLen at hm; omega
  have hmi : (0 : Int) < (m : Int) := by omega
  clear hc hlm hi2 hpg hu2 c0
  go_upto_region 11 with fail
  rw [← HKE.out]
  clear c0' t1 t2 hmi
  go_wp2_with fail
  go_loop [8, 9] (fun v i => ∃ j : Nat, j ≤ m ∧ i = .int .i64 (j : Int) ∧ v = .int .i64 ((evs K ((exps (GG T)).take j) : Nat) : Int)) (fun _ i => m - (intOf i).toNat)
  case atStart => exact ⟨0, Nat.zero_le _, rfl, by rw [List.take_zero]; unfold evs; rfl⟩
  case round =>
    obtain ⟨j, hj, rfl, rfl⟩ := hrel
    by_cases h0 : j < m
    · have c1 := HC.out j h0
      have hb := HGB.out j (by rw [HLM.out]; exact h0)
      have HEV := Lib.hid (evs_take K (exps (GG T)) j (by rw [HLM.out]; exact h0))
      have hlt := evs_lt K ((exps (GG T)).take j)
      generalize (exps (GG T)).getD j 0 = z at *
      obtain ⟨z, rfl⟩ := Int.eq_ofNat_of_zero_le hb.1
      have hz := hb.2
      have hkz : (K : Int) * (z : Int) ≤ 1664 ∧ 0 ≤ (K : Int) * (z : Int) := by
        have h1 : K * z ≤ 16 * 104 := Nat.mul_le_mul HK16.out (by omega)
        rw [← Int.natCast_mul]; omega
      have tw : IntKind.i64.wrap ((K : Int) * (z : Int)) = (K : Int) * (z : Int) := IntWalk.i64_in _ (by omega)
      generalize hq : evs K ((exps (GG T)).take j) = q at *
      have hpl := pw_lt (trn ((K : Int) * (z : Int)))
      have hx : bits .xor .i64 (q : Int) ((pw (trn ((K : Int) * (z : Int))) : Nat) : Int) = ((q ^^^ pw (trn ((K : Int) * (z : Int))) : Nat) : Int) := i64_xor_nat _ _ (by omega) (by omega)
      have hkz1 := hkz.1
      have hkz2 := hkz.2
      clear hb hz hkz hq
      go_wp2_with fail
      refine (rExp_any ((K : Int) * (z : Int)) _).mono ?_
      rintro e w3 ⟨rfl, rfl⟩
      go_wp2
      go_round
      case rel => exact ⟨j + 1, by omega, by go_num, by rw [HEV.out]⟩
      case measure => simp [intOf]; omega
    · obtain rfl : j = m := by omega
      have ht : (exps (GG T)).take j = exps (GG T) := List.take_of_length_le (by rw [HLM.out]; omega)
      rw [ht, HZ.out]
      clear ht
      go_wp2
      go_ret
      exact ⟨rfl, upd_ends HU2.out⟩

set_option maxRecDepth 20000 in
set_option maxHeartbeats 1600000 in
theorem polyRoots_high_high (T : Nat) (hT3 : (T : Int) = 3) (t : Int) (ht : 8 < t) (k : Int) (hk : 2 * (T : Int) < k) (w : World) :
    Calls Try.prog 7 #[.int .i64 t, .int .i64 k] w fun e w' => e = .returned (.bool true) ∧ Below w.heap.size w w' := by
  have hnot : ∀ (x : Bool) (w : World), (Op.unary .not (.bool x)).run Try.prog w = .ok (.bool (!x)) w := fun _ _ => rfl
  have hT1 : 1 ≤ T := by omega
  have hT8 : T ≤ 8 := by omega
  obtain ⟨K, hKe⟩ : ∃ K : Nat, (K : Int) = 2 * (T : Int) := ⟨2 * T, by omega⟩
  have hK1 : 1 ≤ K := by omega
  have hK2 : K ≤ 2 * T := by omega
  have HKE := Lib.hid hKe
  clear hKe
  have HT3 := Lib.hid hT3
  clear hT3
  have d1 : decide (t < 1) = false := decide_eq_false (by omega)
  have d2 : decide (8 < t) = true := decide_eq_true ht
  have e1 : decide (k < 1) = false := decide_eq_false (by omega)
  have e2 : decide (2 * (T : Int) < k) = true := decide_eq_true hk
  have HZ := Lib.hid (roots_zero T K hT1 hT8 hK1 hK2)
  have hK16 : K ≤ 16 := by omega
  have HK16 := Lib.hid hK16
  clear hK1 hK2 hK16
  clear ht
  clear hk
  go_enter Try.func7, Try.ntmps7
  go_wp2_with fail
  refine (speaks2_any _).mono ?_
  rintro e w1 ⟨rfl, hu1⟩
  have HU1 := Lib.hid hu1
  clear hu1
  go_upto_region 5 with fail
  rw [← HT3.out]
  have HF1 := Lib.hid (fresh_new w1)
  have HG := Lib.hid (generator_any w1.heap.size 0 T _ HF1.out hT1 hT8)
  have hdeg := GG_deg T hT8
  have HGE := Lib.hid (exps_top (GG T) (13 * T) hdeg.1 hdeg.2 (by omega))
  have HGB : Hid (∀ j, j < (exps (GG T)).length → 0 ≤ (exps (GG T)).getD j 0 ∧ (exps (GG T)).getD j 0 ≤ 104) := fun j hj => by
    have e : (exps (GG T)).getD j 0 = (exps (GG T))[j] := by rw [List.getD_eq_getElem?_getD, List.getElem?_eq_getElem hj]; rfl
    rw [e]
    have := exps_mem _ (GG T) (13 * T) (List.getElem_mem hj) hdeg.2 (by omega)
    omega
  have HU1F : Hid (Upd noBlock w (w1.alloc (.cells #[.int .u32 0, .int .i32 0, .int .u32 0, .slice none 0 0, .slice none 0 0, .int .i64 0] 52))) := HU1.out.alloc _
  have hbw := HU1.out.size
  clear hdeg
  go_wp2_with fail
  refine HG.out.mono ?_
  rintro e w2 ⟨v2, rfl, hgp, _, hu2⟩
  obtain ⟨p, m, c, rfl, hi2, hm, hpg⟩ := hgp
  have hlm : (exps (GG T)).length = m := hi2.1
  have hm0 : 0 < m := by rw [← hlm, HGE.out]; simp
  obtain ⟨g, o, rfl, hgw, hc⟩ := hi2.cell hm0
  have c0 : w2.cell? ⟨g, o, none⟩ = some (.int .i64 ((13 * T : Nat) : Int)) := by
    have := hc 0 hm0
    rw [HGE.out] at this; exact this
  have c0' : w2.cell? ⟨g, o, none⟩ = some (.int .i64 (13 * (T : Int))) := by rw [c0]; simp
  have HC := Lib.hid hc
  have HLM := Lib.hid hlm
  have HU2 : Hid (Upd noBlock w w2) := HU1F.out.step hu2 (fun i hi e => by
    have e' : i = w1.heap.size := e
    omega)
  have t1 : ((m : Int) == 0) = false := beq_eq_false_iff_ne.2 (by omega)
  have t2 : decide ((13 * (T : Int)) < (13 * (T : Int))) = false := decide_eq_false (by omega)
  have hm9 : m ≤ 9223372036854775807 := by unfold maxLen at hm; omega
  have hmi : (0 : Int) < (m : Int) := by omega
  clear hc hlm hi2 hpg hu2 c0
  go_upto_region 11 with fail
  rw [← HKE.out]
  clear c0' t1 t2 hmi
  go_wp2_with fail
  go_loop [8, 9] (fun v i => ∃ j : Nat, j ≤ m ∧ i = .int .i64 (j : Int) ∧ v = .int .i64 ((evs K ((exps (GG T)).take j) : Nat) : Int)) (fun _ i => m - (intOf i).toNat)
  case atStart => exact ⟨0, Nat.zero_le _, rfl, by rw [List.take_zero]; unfold evs; rfl⟩
  case round =>
    obtain ⟨j, hj, rfl, rfl⟩ := hrel
    by_cases h0 : j < m
    · have c1 := HC.out j h0
      have hb := HGB.out j (by rw [HLM.out]; exact h0)
      have HEV := Lib.hid (evs_take K (exps (GG T)) j (by rw [HLM.out]; exact h0))
      have hlt := evs_lt K ((exps (GG T)).take j)
      generalize (exps (GG T)).getD j 0 = z at *
      obtain ⟨z, rfl⟩ := Int.eq_ofNat_of_zero_le hb.1
      have hz := hb.2
      have hkz : (K : Int) * (z : Int) ≤ 1664 ∧ 0 ≤ (K : Int) * (z : Int) := by
        have h1 : K * z ≤ 16 * 104 := Nat.mul_le_mul HK16.out (by omega)
        rw [← Int.natCast_mul]; omega
      have tw : IntKind.i64.wrap ((K : Int) * (z : Int)) = (K : Int) * (z : Int) := IntWalk.i64_in _ (by omega)
      generalize hq : evs K ((exps (GG T)).take j) = q at *
      have hpl := pw_lt (trn ((K : Int) * (z : Int)))
      have hx : bits .xor .i64 (q : Int) ((pw (trn ((K : Int) * (z : Int))) : Nat) : Int) = ((q ^^^ pw (trn ((K : Int) * (z : Int))) : Nat) : Int) := i64_xor_nat _ _ (by omega) (by omega)
      have hkz1 := hkz.1
      have hkz2 := hkz.2
      clear hb hz hkz hq
      go_wp2_with fail
      refine (rExp_any ((K : Int) * (z : Int)) _).mono ?_
      rintro e w3 ⟨rfl, rfl⟩
      go_wp2
      go_round
      case rel => exact ⟨j + 1, by omega, by go_num, by rw [HEV.out]⟩
      case measure => simp [intOf]; omega
    · obtain rfl : j = m := by omega
      have ht : (exps (GG T)).take j = exps (GG T) := List.take_of_length_le (by rw [HLM.out]; omega)
      rw [ht, HZ.out]
      clear ht
      go_wp2
      go_ret
      exact ⟨rfl, upd_ends HU2.out⟩

theorem polyRoots_walk (t k : Int) (w : World) (_wt : (Lit.int .i64 t).wf = true) (_wk : (Lit.int .i64 k).wf = true) :
    Calls Try.prog 7 #[.int .i64 t, .int .i64 k] w fun e w' => e = .returned (.bool true) ∧ Below w.heap.size w w' := by
  rcases Int.lt_or_le t 1 with h | h
  · rcases Int.lt_or_le k 1 with h2 | h2
    · exact polyRoots_low_low 3 rfl t h k h2 w
    · rcases Int.lt_or_le 6 k with h3 | h3
      · exact polyRoots_low_high 3 rfl t h k h3 w
      · obtain ⟨K, rfl⟩ := Int.eq_ofNat_of_zero_le (show 0 ≤ k by omega)
        exact polyRoots_low_in 3 rfl t h K (by omega) (by omega) w
  · rcases Int.lt_or_le 8 t with h1 | h1
    · rcases Int.lt_or_le k 1 with h2 | h2
      · exact polyRoots_high_low 3 rfl t h1 k h2 w
      · rcases Int.lt_or_le 6 k with h3 | h3
        · exact polyRoots_high_high 3 rfl t h1 k h3 w
        · obtain ⟨K, rfl⟩ := Int.eq_ofNat_of_zero_le (show 0 ≤ k by omega)
          exact polyRoots_high_in 3 rfl t h1 K (by omega) (by omega) w
    · obtain ⟨T, rfl⟩ := Int.eq_ofNat_of_zero_le (show 0 ≤ t by omega)
      rcases Int.lt_or_le k 1 with h2 | h2
      · exact polyRoots_in_low T (by omega) (by omega) k h2 w
      · rcases Int.lt_or_le (2 * (T : Int)) k with h3 | h3
        · exact polyRoots_in_high T (by omega) (by omega) k h3 w
        · obtain ⟨K, rfl⟩ := Int.eq_ofNat_of_zero_le (show 0 ≤ k by omega)
          exact polyRoots_in_in T (by omega) (by omega) K (by omega) (by omega) w
end Go.Proofs.Ytcmcjojjphhffaa
