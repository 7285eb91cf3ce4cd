/- The law PolyMinimals, walked. -/
import Derived.Test.YtcmcjojjphhffaaPNi
import Derived.Test.YtcmcjojjphhffaaPk
import Derived.Deep.DeepCutAuto
namespace Go.Proofs.Ytcmcjojjphhffaa
open Go.RowKit Pm Gfm
attribute [local irreducible] Pm.exps pmul mp GG mpol mres

set_option maxRecDepth 20000 in
set_option maxHeartbeats 3200000 in
theorem polyMinimals_in (k : Int) (T : Nat) (hT1 : 1 ≤ T) (hT8 : T ≤ 8) (w : World) :
    Calls Try.prog 6 #[.int .i64 k, .int .i64 (T : Int)] w fun e w' => e = .returned (.bool true) ∧ Below w.heap.size w w' := by
  have hnot : ∀ (x : Bool) (w : World), (Op.unary .not (.bool x)).run Try.prog w = .ok (.bool (!x)) w := fun _ _ => rfl
  have d1 : decide ((T : Int) < 1) = false := decide_eq_false (by omega)
  have d2 : decide ((8 : Int) < (T : Int)) = false := decide_eq_false (by omega)
  go_enter Try.func6, Try.ntmps6
  go_wp2_with fail
  refine (speaks2_any _).mono ?_
  rintro e w1 ⟨rfl, hu1⟩
  have HU1 := Lib.hid hu1
  clear hu1
  go_upto_region 4 with fail
  have HF1 := Lib.hid (fresh_new w1)
  have HU1F : Hid (Upd noBlock w (w1.alloc (.cells #[.int .u32 0, .int .i32 0, .int .u32 0, .slice none 0 0, .slice none 0 0, .int .i64 0] 52))) := HU1.out.alloc _
  have hbw := HU1.out.size
  have HM := Lib.hid (minimal_any w1.heap.size 0 k _ HF1.out)
  go_wp2_with fail
  refine HM.out.mono ?_
  rintro e w2 ⟨J, v2, hJ1, hJ2, hJ3, hJ4, rfl, hv2, hr2, hu2⟩
  have HEQ : Hid (mres (pw (trn k)) 0 14 = mpol (trn k) J) := mres_mpol (trn k) J (trn_lt k) hJ1 hJ2 hJ3 hJ4
  obtain ⟨a2, c2, rfl, hi2, m2, hb2⟩ := own_ints hv2.1
  have HI2 := Lib.hid hi2
  have HB2 : Hid (∀ g, a2.map Addr.block = some g → ¬ g = w1.heap.size) := fun g hg e => by
    have h1 := (hb2 g hg).1
    rw [World.size_alloc] at h1
    omega
  have HF2 := Lib.hid hr2.fld
  have HU2 : Hid (Upd noBlock w w2) := HU1F.out.step hu2 (fun i hi e => by
    have e' : i = w1.heap.size := e
    omega)
  clear hJ1 hJ2 hJ3 hJ4 hv2 hr2 hu2 hi2 hb2 HM HF1 HU1F
  have HG := Lib.hid (generator_any w1.heap.size 0 T _ HF2.out hT1 hT8)
  go_wp2_with fail
  refine HG.out.mono ?_
  rintro e w3 ⟨v3, rfl, hgp, _, hu3⟩
  obtain ⟨p, m, c, rfl, hi3, hm3, _⟩ := hgp
  have hl3 := hi3.1
  subst hl3
  have HI3 := Lib.hid hi3
  have HI2' := Lib.hid ((HI2.out.upd hu3 (Nat.le_refl _) (fun g hg _ e => HB2.out g hg e)).more hu3.size)
  have HU3 : Hid (Upd noBlock w w3) := HU2.out.step hu3 (fun i hi e => by
    have e' : i = w1.heap.size := e
    omega)
  clear hi3 hu3 HG HF2 HU2 HI2
  go_wp2_with fail
  refine (rMinimal_any k _).mono ?_
  rintro e w4 ⟨v4, rfl, hv4, hu4⟩
  rw [HEQ.out] at hv4
  obtain ⟨a4, c4, rfl, hi4, m4, _⟩ := own_ints hv4.1
  have HI4 := Lib.hid hi4
  have HI24 := Lib.hid (HI2'.out.next hu4)
  have HU4 := Lib.hid (HU3.out.trans hu4)
  have HI34 := Lib.hid (HI3.out.next hu4)
  clear hi4 hv4 hu4
  go_wp2_with fail
  refine (same_yes a2 _ c2 _ a4 c4 _ (exps (mpol (trn k) J)) _ HI24.out HI4.out m4).mono ?_
  rintro e w5 ⟨rfl, hu5⟩
  have HU5 := Lib.hid (HU4.out.trans hu5)
  have HI35 := Lib.hid (HI34.out.next hu5)
  clear hu5
  go_wp2_with fail
  refine (minimal_nil k _).mono ?_
  rintro e w6 ⟨rfl, rfl⟩
  go_wp2_with fail
  refine (generator_nil _ _).mono ?_
  rintro e w7 ⟨rfl, rfl⟩
  go_wp2_with fail
  refine (rGenerator_any T _ hT1 hT8).mono ?_
  rintro e w8 ⟨v8, rfl, hv8, hu8⟩
  obtain ⟨a8, c8, rfl, hi8, m8, _⟩ := own_ints hv8.1
  have HI8 := Lib.hid hi8
  have HI38 := Lib.hid (HI35.out.next hu8)
  have HU8 := Lib.hid (HU5.out.trans hu8)
  clear hi8 hv8 hu8
  go_wp2_with fail
  refine (same_yes p _ c _ a8 c8 _ (exps (GG T)) _ HI38.out HI8.out m8).mono ?_
  rintro e w9 ⟨rfl, hu9⟩
  have HU9 := Lib.hid (HU8.out.trans hu9)
  clear hu9
  go_wp2_with fail
  go_ret
  exact ⟨rfl, upd_ends HU9.out⟩

set_option maxRecDepth 20000 in
set_option maxHeartbeats 3200000 in
theorem polyMinimals_low (k : Int) (t : Int) (ht : t < 1) (w : World) :
    Calls Try.prog 6 #[.int .i64 k, .int .i64 t] w fun e w' => e = .returned (.bool true) ∧ Below w.heap.size w w' := by
  have hnot : ∀ (x : Bool) (w : World), (Op.unary .not (.bool x)).run Try.prog w = .ok (.bool (!x)) w := fun _ _ => rfl
  have d1 : decide (t < 1) = true := decide_eq_true ht
  have HTT := Lib.hid ht
  clear ht
  go_enter Try.func6, Try.ntmps6
  go_wp2_with fail
  refine (speaks2_any _).mono ?_
  rintro e w1 ⟨rfl, hu1⟩
  have HU1 := Lib.hid hu1
  clear hu1
  go_upto_region 4 with fail
  have HF1 := Lib.hid (fresh_new w1)
  have HU1F : Hid (Upd noBlock w (w1.alloc (.cells #[.int .u32 0, .int .i32 0, .int .u32 0, .slice none 0 0, .slice none 0 0, .int .i64 0] 52))) := HU1.out.alloc _
  have hbw := HU1.out.size
  have HM := Lib.hid (minimal_any w1.heap.size 0 k _ HF1.out)
  go_wp2_with fail
  refine HM.out.mono ?_
  rintro e w2 ⟨J, v2, hJ1, hJ2, hJ3, hJ4, rfl, hv2, hr2, hu2⟩
  have HEQ : Hid (mres (pw (trn k)) 0 14 = mpol (trn k) J) := mres_mpol (trn k) J (trn_lt k) hJ1 hJ2 hJ3 hJ4
  obtain ⟨a2, c2, rfl, hi2, m2, hb2⟩ := own_ints hv2.1
  have HI2 := Lib.hid hi2
  have HB2 : Hid (∀ g, a2.map Addr.block = some g → ¬ g = w1.heap.size) := fun g hg e => by
    have h1 := (hb2 g hg).1
    rw [World.size_alloc] at h1
    omega
  have HF2 := Lib.hid hr2.fld
  have HU2 : Hid (Upd noBlock w w2) := HU1F.out.step hu2 (fun i hi e => by
    have e' : i = w1.heap.size := e
    omega)
  clear hJ1 hJ2 hJ3 hJ4 hv2 hr2 hu2 hi2 hb2 HM HF1 HU1F
  go_wp2_with fail
  refine (generator_low w1.heap.size t _ HTT.out).mono ?_
  rintro e w3 ⟨rfl, rfl⟩
  have HI2' := HI2
  have HU3 := HU2
  go_wp2_with fail
  refine (rMinimal_any k _).mono ?_
  rintro e w4 ⟨v4, rfl, hv4, hu4⟩
  rw [HEQ.out] at hv4
  obtain ⟨a4, c4, rfl, hi4, m4, _⟩ := own_ints hv4.1
  have HI4 := Lib.hid hi4
  have HI24 := Lib.hid (HI2'.out.next hu4)
  have HU4 := Lib.hid (HU3.out.trans hu4)
  clear hi4 hv4 hu4
  go_wp2_with fail
  refine (same_yes a2 _ c2 _ a4 c4 _ (exps (mpol (trn k) J)) _ HI24.out HI4.out m4).mono ?_
  rintro e w5 ⟨rfl, hu5⟩
  have HU5 := Lib.hid (HU4.out.trans hu5)
  clear hu5
  go_wp2_with fail
  refine (minimal_nil k _).mono ?_
  rintro e w6 ⟨rfl, rfl⟩
  go_wp2_with fail
  refine (generator_nil _ _).mono ?_
  rintro e w7 ⟨rfl, rfl⟩
  go_wp2_with fail
  go_ret
  exact ⟨rfl, upd_ends HU5.out⟩

set_option maxRecDepth 20000 in
set_option maxHeartbeats 3200000 in
theorem polyMinimals_high (k : Int) (t : Int) (ht : 8 < t) (w : World) :
    Calls Try.prog 6 #[.int .i64 k, .int .i64 t] w fun e w' => e = .returned (.bool true) ∧ Below w.heap.size w w' := by
  have hnot : ∀ (x : Bool) (w : World), (Op.unary .not (.bool x)).run Try.prog w = .ok (.bool (!x)) w := fun _ _ => rfl
  have d1 : decide (t < 1) = false := decide_eq_false (by omega)
  have d2 : decide (8 < t) = true := decide_eq_true ht
  have HTT := Lib.hid ht
  clear ht
  go_enter Try.func6, Try.ntmps6
  go_wp2_with fail
  refine (speaks2_any _).mono ?_
  rintro e w1 ⟨rfl, hu1⟩
  have HU1 := Lib.hid hu1
  clear hu1
  go_upto_region 4 with fail
  have HF1 := Lib.hid (fresh_new w1)
  have HU1F : Hid (Upd noBlock w (w1.alloc (.cells #[.int .u32 0, .int .i32 0, .int .u32 0, .slice none 0 0, .slice none 0 0, .int .i64 0] 52))) := HU1.out.alloc _
  have hbw := HU1.out.size
  have HM := Lib.hid (minimal_any w1.heap.size 0 k _ HF1.out)
  go_wp2_with fail
  refine HM.out.mono ?_
  rintro e w2 ⟨J, v2, hJ1, hJ2, hJ3, hJ4, rfl, hv2, hr2, hu2⟩
  have HEQ : Hid (mres (pw (trn k)) 0 14 = mpol (trn k) J) := mres_mpol (trn k) J (trn_lt k) hJ1 hJ2 hJ3 hJ4
  obtain ⟨a2, c2, rfl, hi2, m2, hb2⟩ := own_ints hv2.1
  have HI2 := Lib.hid hi2
  have HB2 : Hid (∀ g, a2.map Addr.block = some g → ¬ g = w1.heap.size) := fun g hg e => by
    have h1 := (hb2 g hg).1
    rw [World.size_alloc] at h1
    omega
  have HF2 := Lib.hid hr2.fld
  have HU2 : Hid (Upd noBlock w w2) := HU1F.out.step hu2 (fun i hi e => by
    have e' : i = w1.heap.size := e
    omega)
  clear hJ1 hJ2 hJ3 hJ4 hv2 hr2 hu2 hi2 hb2 HM HF1 HU1F
  go_wp2_with fail
  refine (generator_high w1.heap.size t _ HTT.out).mono ?_
  rintro e w3 ⟨rfl, rfl⟩
  have HI2' := HI2
  have HU3 := HU2
  go_wp2_with fail
  refine (rMinimal_any k _).mono ?_
  rintro e w4 ⟨v4, rfl, hv4, hu4⟩
  rw [HEQ.out] at hv4
  obtain ⟨a4, c4, rfl, hi4, m4, _⟩ := own_ints hv4.1
  have HI4 := Lib.hid hi4
  have HI24 := Lib.hid (HI2'.out.next hu4)
  have HU4 := Lib.hid (HU3.out.trans hu4)
  clear hi4 hv4 hu4
  go_wp2_with fail
  refine (same_yes a2 _ c2 _ a4 c4 _ (exps (mpol (trn k) J)) _ HI24.out HI4.out m4).mono ?_
  rintro e w5 ⟨rfl, hu5⟩
  have HU5 := Lib.hid (HU4.out.trans hu5)
  clear hu5
  go_wp2_with fail
  refine (minimal_nil k _).mono ?_
  rintro e w6 ⟨rfl, rfl⟩
  go_wp2_with fail
  refine (generator_nil _ _).mono ?_
  rintro e w7 ⟨rfl, rfl⟩
  go_wp2_with fail
  go_ret
  exact ⟨rfl, upd_ends HU5.out⟩

theorem polyMinimals_walk (k t : Int) (w : World) (_wk : (Lit.int .i64 k).wf = true) (_wt : (Lit.int .i64 t).wf = true) :
    Calls Try.prog 6 #[.int .i64 k, .int .i64 t] w fun e w' => e = .returned (.bool true) ∧ Below w.heap.size w w' := by
  rcases Int.lt_or_le t 1 with h | h
  · exact polyMinimals_low k t h w
  · rcases Int.lt_or_le 8 t with h1 | h1
    · exact polyMinimals_high k t h1 w
    · obtain ⟨T, rfl⟩ := Int.eq_ofNat_of_zero_le (show 0 ≤ t by omega)
      exact polyMinimals_in k T (by omega) (by omega) w
end Go.Proofs.Ytcmcjojjphhffaa
