import Derived.Test.YtnppjfaecnikpaaGreatDoorKGFe
import Derived.Test.YtnppjfaecnikpaaGreatDoorKGCd
import Derived.Test.YtnppjfaecnikpaaGreatDoorKAr
/- PageSizes. Made by tools/gen_pagesizes.py. -/
namespace Go.Proofs.YtnppjfaecnikpaaGreatDoor
open F
open Go.RowKit Pm Cm
set_option linter.unusedVariables false
attribute [local irreducible] openL decUp Lib.onesCount parT sealed

set_option maxRecDepth 100000 in
set_option maxHeartbeats 3200000 in
theorem pageSizes_bad (b p c k t : Int) (w : World) (hT : Tab w) (h : ¬ GoodG b p c k t) :
    Calls Tryz.prog 3 #[geoV b p c k t] w fun e w' => e = .returned (.bool true) ∧ Upd noBlock w w' := by
  have hnot : ∀ (x : Bool) (w : World), (Op.unary .not (.bool x)).run Tryz.prog w = .ok (.bool (!x)) w := fun _ _ => rfl
  have HSP : Hid (∀ W, Upd noBlock w W → Calls Tryz.prog 10 #[] W fun e w' => e = .returned (.bool true) ∧ Upd noBlock W w') := fun W hW => speaks6_any W (hT.upd hW)
  have HGE := Lib.hid (fun W => geometry6 b p c k t W)
  have HRAW := Lib.hid (fun W => raw_bad b p c k t W h)
  have HSZ := Lib.hid (fun W => sizes_bad b p c k t W h)
  have HCH := Lib.hid (fun W => chip_bad b p c k t W h)
  have HNW := Lib.hid (fun W => pnew_bad b p c k t none W h)
  have HGO := Lib.hid (fun W => refGood_bad b p c k t W h)
  clear hT h
  unfold geoV at *
  obtain ⟨wa, hwa⟩ : ∃ wa, wa = w.alloc (.cells #[.int .i64 b, .int .i64 p, .int .i64 c, .int .i64 k, .int .i64 t] 22) := ⟨_, rfl⟩
  have hA : wa.heap[w.heap.size]? = some (.cells #[.int .i64 b, .int .i64 p, .int .i64 c, .int .i64 k, .int .i64 t] 22 (0, 0)) := by rw [hwa]; exact heap_alloc_new w _
  have UA : Hid (Upd noBlock w wa) := by rw [hwa]; exact (Upd.refl _ _).alloc _
  have HA := Lib.hid hA
  obtain ⟨A, hAe⟩ : ∃ A, A = w.heap.size := ⟨_, rfl⟩
  obtain ⟨z0, z1, z2, z3, z4⟩ := geo_cells hA
  rw [← hAe] at HA z0 z1 z2 z3 z4
  clear hA
  go_enter Tryz.func3, Tryz.ntmps3
  go_upto_region 1 with fail
  rw [← hwa, ← hAe]
  clear hwa hAe
  go_upto_region 4 with (first
    | (go_at_call 10; (with_reducible refine (HSP.out _ UA.out).mono ?_); rintro e w1 ⟨rfl, hu1⟩; have U1 : Hid (Upd noBlock wa w1) := hu1; obtain ⟨z0, z1, z2, z3, z4⟩ := geo_cells ((hu1.block A (lt_of_block HA.out) id).trans HA.out); clear hu1)
    | (go_at_call 11; (with_reducible refine (HGE.out _).mono ?_); rintro e w2 ⟨rfl, hu2⟩; have U2 : Hid (Upd noBlock wa w2) := U1.out.trans hu2; clear hu2))
  clear z0 z1 z2 z3 z4
  obtain ⟨wb, hwb⟩ : ∃ wb, wb = (w2.alloc (.cells #[.int .i64 b, .int .i64 p, .int .i64 c, .int .i64 k, .int .i64 t] 25)).alloc (.cells #[.int .i64 b, .int .i64 p, .int .i64 c, .int .i64 k, .int .i64 t] 26) := ⟨_, rfl⟩
  have hB0 : wb.heap[w2.heap.size]? = some (.cells #[.int .i64 b, .int .i64 p, .int .i64 c, .int .i64 k, .int .i64 t] 25 (0, 0)) := by rw [hwb]; exact block_alloc (heap_alloc_new w2 _) _
  have hB1 : wb.heap[w2.heap.size + 1]? = some (.cells #[.int .i64 b, .int .i64 p, .int .i64 c, .int .i64 k, .int .i64 t] 26 (0, 0)) := by
    have h9 := heap_alloc_new (w2.alloc (.cells #[.int .i64 b, .int .i64 p, .int .i64 c, .int .i64 k, .int .i64 t] 25)) (.cells #[.int .i64 b, .int .i64 p, .int .i64 c, .int .i64 k, .int .i64 t] 26)
    rw [World.size_alloc] at h9
    rw [hwb]; exact h9
  have hU : Upd noBlock wa wb := by rw [hwb]; exact (U2.out.alloc _).alloc _
  have hB2 : wb.heap[A]? = some (.cells #[.int .i64 b, .int .i64 p, .int .i64 c, .int .i64 k, .int .i64 t] 22 (0, 0)) := (hU.block A (lt_of_block HA.out) id).trans HA.out
  have UB : Hid (Upd noBlock w wb) := UA.out.trans hU
  rw [← hwb]
  generalize w2.heap.size + 1 = g1 at *
  generalize w2.heap.size = g0 at *
  have HGC : Hid (∀ W, Upd noBlock wb W → (W.cell? ⟨g0, 0, none⟩ = some (.int .i64 b) ∧ W.cell? ⟨g0, 1, none⟩ = some (.int .i64 p) ∧ W.cell? ⟨g0, 2, none⟩ = some (.int .i64 c) ∧ W.cell? ⟨g0, 3, none⟩ = some (.int .i64 k) ∧ W.cell? ⟨g0, 4, none⟩ = some (.int .i64 t)) ∧ (W.cell? ⟨g1, 0, none⟩ = some (.int .i64 b) ∧ W.cell? ⟨g1, 1, none⟩ = some (.int .i64 p) ∧ W.cell? ⟨g1, 2, none⟩ = some (.int .i64 c) ∧ W.cell? ⟨g1, 3, none⟩ = some (.int .i64 k) ∧ W.cell? ⟨g1, 4, none⟩ = some (.int .i64 t)) ∧ W.cell? ⟨A, 0, none⟩ = some (.int .i64 b) ∧ W.cell? ⟨A, 1, none⟩ = some (.int .i64 p)) := fun W hW => by
    have h0 := (hW.block _ (lt_of_block hB0) id).trans hB0
    have h1 := (hW.block _ (lt_of_block hB1) id).trans hB1
    have h2 := (hW.block _ (lt_of_block hB2) id).trans hB2
    exact ⟨geo_cells h0, geo_cells h1, cell_of h2 0, cell_of h2 1⟩
  obtain ⟨⟨z0, z1, z2, z3, z4⟩, ⟨r0, r1, r2, r3, r4⟩, q0, q1⟩ := HGC.out _ (Upd.refl _ _)
  clear hB0 hB1 hB2 hU hwb U1 U2 HA UA HSP HGE
  have VB : Hid (Upd noBlock wb wb) := Upd.refl _ _
  go_wp2_with (first
    | (go_at_call 12; (with_reducible refine (HRAW.out _).mono ?_); rintro e w3 ⟨rfl, hu⟩; have V3 := Lib.hid (VB.out.trans hu); obtain ⟨⟨z0, z1, z2, z3, z4⟩, ⟨r0, r1, r2, r3, r4⟩, q0, q1⟩ := HGC.out _ V3.out; clear hu)
    | (go_at_call 13; (with_reducible refine (HSZ.out _).mono ?_); rintro e w4 ⟨rfl, hu⟩; have V4 := Lib.hid (V3.out.trans hu); obtain ⟨⟨z0, z1, z2, z3, z4⟩, ⟨r0, r1, r2, r3, r4⟩, q0, q1⟩ := HGC.out _ V4.out; clear hu)
    | (go_at_call 14; (with_reducible refine (HCH.out _).mono ?_); rintro e w5 ⟨rfl, hu⟩; have V5 := Lib.hid (V4.out.trans hu); obtain ⟨⟨z0, z1, z2, z3, z4⟩, ⟨r0, r1, r2, r3, r4⟩, q0, q1⟩ := HGC.out _ V5.out; clear hu)
    | (go_at_call 15; have _t := V6; (with_reducible refine (HNW.out _).mono ?_); rintro e w7 ⟨rfl, hu⟩; have V7 := Lib.hid (V6.out.trans hu); obtain ⟨⟨z0, z1, z2, z3, z4⟩, ⟨r0, r1, r2, r3, r4⟩, q0, q1⟩ := HGC.out _ V7.out; clear hu V6)
    | (go_at_call 15; (with_reducible refine (HNW.out _).mono ?_); rintro e w6 ⟨rfl, hu⟩; have V6 := Lib.hid (V5.out.trans hu); obtain ⟨⟨z0, z1, z2, z3, z4⟩, ⟨r0, r1, r2, r3, r4⟩, q0, q1⟩ := HGC.out _ V6.out; clear hu)
    | (go_at_call 16; (with_reducible refine (HGO.out _).mono ?_); rintro e w8 ⟨rfl, hu⟩; have V8 := Lib.hid (V7.out.trans hu); obtain ⟨⟨z0, z1, z2, z3, z4⟩, ⟨r0, r1, r2, r3, r4⟩, q0, q1⟩ := HGC.out _ V8.out; clear hu))
  go_ret
  exact ⟨rfl, UB.out.trans V8.out⟩
theorem new_show (nb np sz i j : Nat) : (((newCh nb np sz).bk i).pg j).show (newCh nb np sz).sz = List.replicate sz 255 := rfl
theorem new_read_pg (nb np sz i i2 j : Nat) : (((newCh nb np sz).readM i).bk i2).pg j = pg0 := by
  unfold Ch.readM Ch.setBk
  dsimp only
  split <;> rfl
theorem new_read (nb np sz i i2 j : Nat) : ((((newCh nb np sz).readM i).bk i2).pg j).show ((newCh nb np sz).readM i).sz = List.replicate sz 255 := by rw [new_read_pg]; rfl
theorem new_read_st (nb np sz i i2 j : Nat) : ((((newCh nb np sz).readM i).bk i2).pg j).st = 0 := by rw [new_read_pg]; rfl
set_option maxRecDepth 100000 in
set_option maxHeartbeats 6400000 in
theorem pageSizes_good (b p : Int) (c k t : Nat) (w : World) (hT : Tab w) (h : GoodG b p c k t) :
    Calls Tryz.prog 3 #[geoV b p (c : Int) (k : Int) (t : Int)] w fun e w' => e = .returned (.bool true) ∧ Upd noBlock w w' := by
  have hnot : ∀ (x : Bool) (w : World), (Op.unary .not (.bool x)).run Tryz.prog w = .ok (.bool (!x)) w := fun _ _ => rfl
  have HSP : Hid (∀ W, Upd noBlock w W → Calls Tryz.prog 10 #[] W fun e w' => e = .returned (.bool true) ∧ Upd noBlock W w') := fun W hW => speaks6_any W (hT.upd hW)
  have HGE := Lib.hid (fun W => geometry6 b p (c : Int) (k : Int) (t : Int) W)
  have hrp := rawN_pos h
  have HRAW := Lib.hid (fun W => raw_good b p c k t W h)
  have HSZ := Lib.hid (fun W => sizes_good b p c k t W h)
  have hrn : c * (k + (13 * t + 7) / 8) = rawN t k c := rfl
  simp only [hrn] at HRAW HSZ
  clear hrn
  have HCH := Lib.hid (fun W => chip_good b p c k t W h)
  have HNW := Lib.hid (fun ch W => pnew_good b p c k t ch W h)
  have HNN := Lib.hid (fun W => pnew_nil b p (c : Int) (k : Int) (t : Int) W h)
  have HGO := Lib.hid (fun W => refGood_good b p (c : Int) (k : Int) (t : Int) W h)
  obtain ⟨b1, b2, p1, p2, p4, c1, c2, k1, k2, t1, t2⟩ := h
  obtain ⟨m, hm⟩ : ∃ m, rawN t k c = m := ⟨_, rfl⟩
  obtain ⟨n7, hn7⟩ : ∃ n7, (c : Int) * (k : Int) - 7 = n7 := ⟨_, rfl⟩
  rw [hm] at HRAW HSZ HCH hrp
  rw [hn7] at HRAW HSZ
  obtain ⟨nb, hnb⟩ : ∃ nb, b.toNat = nb := ⟨_, rfl⟩
  obtain ⟨np, hnp⟩ : ∃ np, p.toNat = np := ⟨_, rfl⟩
  rw [hnb, hnp] at HCH
  have hbn : b = (nb : Int) := by omega
  have hpn : p = (np : Int) := by omega
  have HR1 : Hid (∀ ch bb pb W, ChipIn W ch bb pb (newCh nb np m) → Calls Tryz.prog 17 #[.pointer (some ⟨ch, 0, none⟩), .int .i64 0, .int .i64 0] W fun e w' => e = .returned (.tuple #[.string ⟨(List.replicate m 255).toArray⟩, .int .i64 0]) ∧ ChipIn w' ch bb pb ((newCh nb np m).readM 0) ∧ Upd (Own ch bb pb nb) W w') := fun ch bb pb W hW =>
    read_in ch bb pb (newCh nb np m) 0 0 0 0 0 rfl rfl ⟨(List.replicate m 255).toArray⟩ (by rw [new_show]) W hW (newCh_fit nb np m) (by decide) (by show 0 < nb; omega) (by show 0 < np; omega) (by show 1 ≤ m; omega) rfl (.inl (by show (0 : Int) < 1; decide)) (show 0 ≤ 2 by omega)
  have HR2 : Hid (∀ ch bb pb W, ChipIn W ch bb pb ((newCh nb np m).readM 0) → Calls Tryz.prog 17 #[.pointer (some ⟨ch, 0, none⟩), .int .i64 (b - 1), .int .i64 (p - 1)] W fun e w' => e = .returned (.tuple #[.string ⟨(List.replicate m 255).toArray⟩, .int .i64 0]) ∧ ChipIn w' ch bb pb (((newCh nb np m).readM 0).readM (nb - 1)) ∧ Upd (Own ch bb pb nb) W w') := fun ch bb pb W hW =>
    read_in ch bb pb ((newCh nb np m).readM 0) (b - 1) (p - 1) (nb - 1) (np - 1) 1 (by omega) (by omega) ⟨(List.replicate m 255).toArray⟩ (by rw [new_read]) W hW ((newCh_fit nb np m).read 0) (by decide) (by show nb - 1 < nb; omega) (by show np - 1 < np; omega) (by show 1 ≤ m; omega) rfl (.inl (by show (0 : Int) < 1; decide)) (by rw [new_read_st]; decide)
  have HR3 : Hid (∀ ch bb pb W, ChipIn W ch bb pb (((newCh nb np m).readM 0).readM (nb - 1)) → Calls Tryz.prog 17 #[.pointer (some ⟨ch, 0, none⟩), .int .i64 b, .int .i64 0] W fun e w' => e = .returned (.tuple #[.string ⟨#[]⟩, .int .i64 1]) ∧ W = w') := fun ch bb pb W hW =>
    read_out ch bb pb _ b 0 W hW (.inr (by show (nb : Int) ≤ b; omega))
  have hs : (⟨(List.replicate m (255 : UInt8)).toArray⟩ : ByteArray).size = m := by simp [ByteArray.size]
  have hw1 : IntKind.i64.wrap (b - 1) = b - 1 := by rw [IntKind.wrap_i64]; omega
  have hw2 : IntKind.i64.wrap (p - 1) = p - 1 := by rw [IntKind.wrap_i64]; omega
  generalize (⟨(List.replicate m (255 : UInt8)).toArray⟩ : ByteArray) = sr at *
  clear hm hn7 hnb hnp hbn hpn p4 hT hrp c1 c2 k1 k2 t1 t2
  unfold geoV NewC at *
  obtain ⟨wa, hwa⟩ : ∃ wa, wa = w.alloc (.cells #[.int .i64 b, .int .i64 p, .int .i64 (c : Int), .int .i64 (k : Int), .int .i64 (t : Int)] 22) := ⟨_, rfl⟩
  have hA : wa.heap[w.heap.size]? = some (.cells #[.int .i64 b, .int .i64 p, .int .i64 (c : Int), .int .i64 (k : Int), .int .i64 (t : Int)] 22 (0, 0)) := by rw [hwa]; exact heap_alloc_new w _
  have UA : Hid (Upd noBlock w wa) := by rw [hwa]; exact (Upd.refl _ _).alloc _
  have HA := Lib.hid hA
  obtain ⟨A, hAe⟩ : ∃ A, A = w.heap.size := ⟨_, rfl⟩
  obtain ⟨z0, z1, z2, z3, z4⟩ := geo_cells hA
  rw [← hAe] at HA z0 z1 z2 z3 z4
  clear hA
  go_enter Tryz.func3, Tryz.ntmps3
  go_upto_region 1 with fail
  rw [← hwa, ← hAe]
  clear hwa hAe
  go_upto_region 4 with (first
    | (go_at_call 10; (with_reducible refine (HSP.out _ UA.out).mono ?_); rintro e w1 ⟨rfl, hu1⟩; have U1 : Hid (Upd noBlock wa w1) := hu1; obtain ⟨z0, z1, z2, z3, z4⟩ := geo_cells ((hu1.block A (lt_of_block HA.out) id).trans HA.out); clear hu1)
    | (go_at_call 11; (with_reducible refine (HGE.out _).mono ?_); rintro e w2 ⟨rfl, hu2⟩; have U2 : Hid (Upd noBlock wa w2) := U1.out.trans hu2; clear hu2))
  clear z0 z1 z2 z3 z4
  obtain ⟨wb, hwb⟩ : ∃ wb, wb = (w2.alloc (.cells #[.int .i64 b, .int .i64 p, .int .i64 (c : Int), .int .i64 (k : Int), .int .i64 (t : Int)] 25)).alloc (.cells #[.int .i64 b, .int .i64 p, .int .i64 (c : Int), .int .i64 (k : Int), .int .i64 (t : Int)] 26) := ⟨_, rfl⟩
  have hB0 : wb.heap[w2.heap.size]? = some (.cells #[.int .i64 b, .int .i64 p, .int .i64 (c : Int), .int .i64 (k : Int), .int .i64 (t : Int)] 25 (0, 0)) := by rw [hwb]; exact block_alloc (heap_alloc_new w2 _) _
  have hB1 : wb.heap[w2.heap.size + 1]? = some (.cells #[.int .i64 b, .int .i64 p, .int .i64 (c : Int), .int .i64 (k : Int), .int .i64 (t : Int)] 26 (0, 0)) := by
    have h9 := heap_alloc_new (w2.alloc (.cells #[.int .i64 b, .int .i64 p, .int .i64 (c : Int), .int .i64 (k : Int), .int .i64 (t : Int)] 25)) (.cells #[.int .i64 b, .int .i64 p, .int .i64 (c : Int), .int .i64 (k : Int), .int .i64 (t : Int)] 26)
    rw [World.size_alloc] at h9
    rw [hwb]; exact h9
  have hU : Upd noBlock wa wb := by rw [hwb]; exact (U2.out.alloc _).alloc _
  have hB2 : wb.heap[A]? = some (.cells #[.int .i64 b, .int .i64 p, .int .i64 (c : Int), .int .i64 (k : Int), .int .i64 (t : Int)] 22 (0, 0)) := (hU.block A (lt_of_block HA.out) id).trans HA.out
  have UB : Hid (Upd noBlock w wb) := UA.out.trans hU
  rw [← hwb]
  generalize w2.heap.size + 1 = g1 at *
  generalize w2.heap.size = g0 at *
  have HGC : Hid (∀ W, Upd noBlock wb W → (W.cell? ⟨g0, 0, none⟩ = some (.int .i64 b) ∧ W.cell? ⟨g0, 1, none⟩ = some (.int .i64 p) ∧ W.cell? ⟨g0, 2, none⟩ = some (.int .i64 (c : Int)) ∧ W.cell? ⟨g0, 3, none⟩ = some (.int .i64 (k : Int)) ∧ W.cell? ⟨g0, 4, none⟩ = some (.int .i64 (t : Int))) ∧ (W.cell? ⟨g1, 0, none⟩ = some (.int .i64 b) ∧ W.cell? ⟨g1, 1, none⟩ = some (.int .i64 p) ∧ W.cell? ⟨g1, 2, none⟩ = some (.int .i64 (c : Int)) ∧ W.cell? ⟨g1, 3, none⟩ = some (.int .i64 (k : Int)) ∧ W.cell? ⟨g1, 4, none⟩ = some (.int .i64 (t : Int))) ∧ W.cell? ⟨A, 0, none⟩ = some (.int .i64 b) ∧ W.cell? ⟨A, 1, none⟩ = some (.int .i64 p)) := fun W hW => by
    have h0 := (hW.block _ (lt_of_block hB0) id).trans hB0
    have h1 := (hW.block _ (lt_of_block hB1) id).trans hB1
    have h2 := (hW.block _ (lt_of_block hB2) id).trans hB2
    exact ⟨geo_cells h0, geo_cells h1, cell_of h2 0, cell_of h2 1⟩
  obtain ⟨⟨z0, z1, z2, z3, z4⟩, ⟨r0, r1, r2, r3, r4⟩, q0, q1⟩ := HGC.out _ (Upd.refl _ _)
  clear hB0 hB1 hB2 hU hwb U1 U2 HA UA HSP HGE
  have VB : Hid (Upd noBlock wb wb) := Upd.refl _ _
  go_wp2_with (first
    | (go_at_call 12; (with_reducible refine (HRAW.out _).mono ?_); rintro e w3 ⟨rfl, hu⟩; have V3 := Lib.hid (VB.out.trans hu); obtain ⟨⟨z0, z1, z2, z3, z4⟩, ⟨r0, r1, r2, r3, r4⟩, q0, q1⟩ := HGC.out _ V3.out; clear hu)
    | (go_at_call 13; (with_reducible refine (HSZ.out _).mono ?_); rintro e w4 ⟨rfl, hu⟩; have V4 := Lib.hid (V3.out.trans hu); obtain ⟨⟨z0, z1, z2, z3, z4⟩, ⟨r0, r1, r2, r3, r4⟩, q0, q1⟩ := HGC.out _ V4.out; clear hu)
    | (go_at_call 14; (with_reducible refine (HCH.out _).mono ?_); rintro e w5 ⟨ch, bb, pb, rfl, hc, hu, hl⟩; have C5 := Lib.hid hc; have L5 : Hid (∀ i, Own ch bb pb nb i → wb.heap.size ≤ i) := fun i hi => Nat.le_trans V4.out.size (hl i hi); have V5 := Lib.hid (V4.out.trans hu); obtain ⟨⟨z0, z1, z2, z3, z4⟩, ⟨r0, r1, r2, r3, r4⟩, q0, q1⟩ := HGC.out _ V5.out; clear hc hu hl)
    | (go_at_call 15; (with_reducible refine (HNW.out ch _).mono ?_); rintro e w6 ⟨q, cc, rfl, -, -, -, -, hu⟩; have C6 := Lib.hid (C5.out.grow hu); have V6 := Lib.hid (V5.out.trans hu); obtain ⟨⟨z0, z1, z2, z3, z4⟩, ⟨r0, r1, r2, r3, r4⟩, q0, q1⟩ := HGC.out _ V6.out; clear hu)
    | (go_at_call 15; (with_reducible refine (HNN.out _).mono ?_); rintro e w7 ⟨rfl, hu⟩; have C7 := Lib.hid (C6.out.grow hu); have V7 := Lib.hid (V6.out.trans hu); obtain ⟨⟨z0, z1, z2, z3, z4⟩, ⟨r0, r1, r2, r3, r4⟩, q0, q1⟩ := HGC.out _ V7.out; clear hu)
    | (go_at_call 16; (with_reducible refine (HGO.out _).mono ?_); rintro e w8 ⟨rfl, hu⟩; have C8 := Lib.hid (C7.out.grow hu); have V8 := Lib.hid (V7.out.trans hu); obtain ⟨⟨z0, z1, z2, z3, z4⟩, ⟨r0, r1, r2, r3, r4⟩, q0, q1⟩ := HGC.out _ V8.out; clear hu)
    | (go_at_call 17; (with_reducible refine (HR1.out ch bb pb _ C8.out).mono ?_); rintro e w9 ⟨rfl, hc, hu⟩; have C9 := Lib.hid hc; have V9 : Hid (Upd noBlock wb w9) := V8.out.step hu (fun i hi e => absurd (L5.out i e) (by omega)); obtain ⟨⟨z0, z1, z2, z3, z4⟩, ⟨r0, r1, r2, r3, r4⟩, q0, q1⟩ := HGC.out _ V9.out; clear hc hu)
    | (go_at_call 17; (with_reducible refine (HR2.out ch bb pb _ C9.out).mono ?_); rintro e w10 ⟨rfl, hc, hu⟩; have C10 := Lib.hid hc; have V10 : Hid (Upd noBlock wb w10) := V9.out.step hu (fun i hi e => absurd (L5.out i e) (by omega)); obtain ⟨⟨z0, z1, z2, z3, z4⟩, ⟨r0, r1, r2, r3, r4⟩, q0, q1⟩ := HGC.out _ V10.out; clear hc hu)
    | (go_at_call 17; (with_reducible refine (HR3.out ch bb pb _ C10.out).mono ?_); rintro e w11 ⟨rfl, rfl⟩))
  go_ret
  exact ⟨rfl, UB.out.trans V10.out⟩
theorem pageSizes_walk (b p c k t : Int) (w : World) (_ : (Lit.int .i64 b).wf = true) (_ : (Lit.int .i64 p).wf = true) (_ : (Lit.int .i64 c).wf = true) (_ : (Lit.int .i64 k).wf = true) (_ : (Lit.int .i64 t).wf = true) (hT : Tab w) :
    Calls Tryz.prog 3 #[.agg #[.int .i64 b, .int .i64 p, .int .i64 c, .int .i64 k, .int .i64 t]] w fun e w' => e = .returned (.bool true) ∧ Below w.heap.size w w' := by
  have h : Calls Tryz.prog 3 #[geoV b p c k t] w fun e w' => e = .returned (.bool true) ∧ Upd noBlock w w' := by
    by_cases hG : GoodG b p c k t
    · obtain ⟨c', rfl⟩ : ∃ n : Nat, c = (n : Int) := ⟨c.toNat, by have := hG.c1; omega⟩
      obtain ⟨k', rfl⟩ : ∃ n : Nat, k = (n : Int) := ⟨k.toNat, by have := hG.k1; omega⟩
      obtain ⟨t', rfl⟩ : ∃ n : Nat, t = (n : Int) := ⟨t.toNat, by have := hG.t1; omega⟩
      exact pageSizes_good b p c' k' t' w hT hG
    · exact pageSizes_bad b p c k t w hT hG
  exact h.mono fun _ _ ⟨he, hu⟩ => ⟨he, hu.below (fun _ _ h => h)⟩
theorem pageNil_walk (x y : Int) (s : ByteArray) (w : World) (_ : (Lit.int .i64 x).wf = true) (_ : (Lit.int .i64 y).wf = true) (_ : s.size ≤ 140737488351232) (hT : Tab w) :
    Calls Tryz.prog 7 #[.int .i64 x, .int .i64 y, .string s] w fun e w' => e = .returned (.bool true) ∧ Below w.heap.size w w' :=
  (pageNil_any x y s w hT).mono fun _ _ ⟨he, hu⟩ => ⟨he, hu.below (fun _ _ h => h)⟩
end Go.Proofs.YtnppjfaecnikpaaGreatDoor

/- PageWrites. Made by tools/gen_pagewrites.py. -/
namespace Go.Proofs.YtnppjfaecnikpaaGreatDoor
open F
open Go.RowKit Pm Cm
set_option linter.unusedVariables false
attribute [local irreducible] openL decUp Lib.onesCount parT sealed

theorem m1_not_blank (nb np sz i j : Nat) (l : List UInt8) (hj : j < np) : blankFrom ((m1C nb np sz i j l).bk i) np j = false := by
  unfold blankFrom
  rw [List.all_eq_false]
  refine ⟨j, List.mem_range.2 hj, ?_⟩
  rw [m1_pg]
  simp [Pg.blank]
theorem m1_again (nb np sz i j : Nat) (l : List UInt8) (hj : j < np) : ((m1C nb np sz i j l).readM i).progE i j = 21 := by
  obtain ⟨s1, s2, s3, s4, s5⟩ := m1_shape nb np sz i j l
  have hb := m1_not_blank nb np sz i j l hj
  have hw : ((m1C nb np sz i j l).bk i).worn = false := by
    rw [m1_eq]
    unfold Ch.setBk
    dsimp only
    rw [if_pos rfl]
    rfl
  have hbk : ((m1C nb np sz i j l).readM i).bk i = { (m1C nb np sz i j l).bk i with rd := ((m1C nb np sz i j l).bk i).rd + 1 } := by
    unfold Ch.readM Ch.setBk
    dsimp only
    rw [if_pos rfl]
  have hoff : ((m1C nb np sz i j l).readM i).off = false := s4
  have hnp : ((m1C nb np sz i j l).readM i).np = np := s2
  have hbl : blankFrom (((m1C nb np sz i j l).readM i).bk i) np j = false := by rw [hbk]; exact hb
  have hwo : (((m1C nb np sz i j l).readM i).bk i).worn = false := by rw [hbk]; exact hw
  unfold Ch.progE
  rw [hoff, hwo, hnp, hbl]
  rfl
theorem program_out_pI (c bb : Nat) (pb : Nat → Nat) (M : Ch) (x y : Int) (s : ByteArray) (w : World) (h : ChipIn w c bb pb M) (hx : 0 ≤ x) (hx2 : x < (M.nb : Int)) (hr : y < 0 ∨ (M.np : Int) ≤ y) :
    Calls Tryz.prog 24 #[.pointer (some ⟨c, 0, none⟩), .int .i64 x, .int .i64 y, .string s] w fun e w' => e = .returned (.int .i64 1) ∧ w = w' := by
  obtain ⟨i, rfl⟩ : ∃ i : Nat, x = (i : Int) := ⟨x.toNat, by omega⟩
  exact program_out_p c bb pb M i y s w h (by omega) hr
theorem progM_nb (M : Ch) (i j : Nat) (l : List UInt8) : (M.progM i j l).nb = M.nb := by
  unfold Ch.progM
  split
  · rfl
  · split
    · rfl
    · split
      · split <;> rfl
      · rfl
set_option maxRecDepth 100000 in
set_option maxHeartbeats 3200000 in
theorem pageWrites_bad (b p c k t x y : Int) (s : ByteArray) (w : World) (hT : Tab w) (h : ¬ GoodG b p c k t) :
    Calls Tryz.prog 4 #[geoV b p c k t, .agg #[.int .i64 x, .int .i64 y], .string s] w fun e w' => e = .returned (.bool true) ∧ Upd noBlock w w' := by
  have hnot : ∀ (x : Bool) (w : World), (Op.unary .not (.bool x)).run Tryz.prog w = .ok (.bool (!x)) w := fun _ _ => rfl
  have HSP : Hid (∀ W, Upd noBlock w W → Calls Tryz.prog 10 #[] W fun e w' => e = .returned (.bool true) ∧ Upd noBlock W w') := fun W hW => speaks6_any W (hT.upd hW)
  have HGE := Lib.hid (fun W => geometry6 b p c k t W)
  have HCH := Lib.hid (fun W => chip_bad b p c k t W h)
  clear hT h
  unfold geoV at *
  obtain ⟨wa, hwa⟩ : ∃ wa, wa = (w.alloc (.cells #[.int .i64 b, .int .i64 p, .int .i64 c, .int .i64 k, .int .i64 t] 22)).alloc (.cells #[.int .i64 x, .int .i64 y] 43) := ⟨_, rfl⟩
  have hA : wa.heap[w.heap.size]? = some (.cells #[.int .i64 b, .int .i64 p, .int .i64 c, .int .i64 k, .int .i64 t] 22 (0, 0)) := by rw [hwa]; exact block_alloc (heap_alloc_new w _) _
  have hA2 : wa.heap[w.heap.size + 1]? = some (.cells #[.int .i64 x, .int .i64 y] 43 (0, 0)) := by
    have h9 := heap_alloc_new (w.alloc (.cells #[.int .i64 b, .int .i64 p, .int .i64 c, .int .i64 k, .int .i64 t] 22)) (.cells #[.int .i64 x, .int .i64 y] 43)
    rw [World.size_alloc] at h9
    rw [hwa]; exact h9
  have UA : Hid (Upd noBlock w wa) := by rw [hwa]; exact ((Upd.refl _ _).alloc _).alloc _
  have HA := Lib.hid hA
  have HA2 := Lib.hid hA2
  obtain ⟨A, hAe⟩ : ∃ A, A = w.heap.size := ⟨_, rfl⟩
  obtain ⟨A2, hAe2⟩ : ∃ A2, A2 = w.heap.size + 1 := ⟨_, rfl⟩
  rw [← hAe] at HA
  rw [← hAe2] at HA2
  obtain ⟨z0, z1, z2, z3, z4⟩ := geo_cells HA.out
  clear hA hA2
  go_enter Tryz.func4, Tryz.ntmps4
  go_upto_region 1 with fail
  rw [← hwa, ← hAe2, ← hAe]
  clear hwa hAe hAe2
  go_upto_region 4 with (first
    | (go_at_call 10; (with_reducible refine (HSP.out _ UA.out).mono ?_); rintro e w1 ⟨rfl, hu1⟩; have U1 : Hid (Upd noBlock wa w1) := hu1; obtain ⟨z0, z1, z2, z3, z4⟩ := geo_cells ((hu1.block A (lt_of_block HA.out) id).trans HA.out); clear hu1)
    | (go_at_call 11; (with_reducible refine (HGE.out _).mono ?_); rintro e w2 ⟨rfl, hu2⟩; have U2 : Hid (Upd noBlock wa w2) := U1.out.trans hu2; clear hu2))
  clear z0 z1 z2 z3 z4
  obtain ⟨wb, hwb⟩ : ∃ wb, wb = (w2.alloc (.cells #[.int .i64 b, .int .i64 p, .int .i64 c, .int .i64 k, .int .i64 t] 25)).alloc (.cells #[.int .i64 b, .int .i64 p, .int .i64 c, .int .i64 k, .int .i64 t] 26) := ⟨_, rfl⟩
  have hB0 : wb.heap[w2.heap.size]? = some (.cells #[.int .i64 b, .int .i64 p, .int .i64 c, .int .i64 k, .int .i64 t] 25 (0, 0)) := by rw [hwb]; exact block_alloc (heap_alloc_new w2 _) _
  have hB1 : wb.heap[w2.heap.size + 1]? = some (.cells #[.int .i64 b, .int .i64 p, .int .i64 c, .int .i64 k, .int .i64 t] 26 (0, 0)) := by
    have h9 := heap_alloc_new (w2.alloc (.cells #[.int .i64 b, .int .i64 p, .int .i64 c, .int .i64 k, .int .i64 t] 25)) (.cells #[.int .i64 b, .int .i64 p, .int .i64 c, .int .i64 k, .int .i64 t] 26)
    rw [World.size_alloc] at h9
    rw [hwb]; exact h9
  have hU : Upd noBlock wa wb := by rw [hwb]; exact (U2.out.alloc _).alloc _
  have hB2 : wb.heap[A]? = some (.cells #[.int .i64 b, .int .i64 p, .int .i64 c, .int .i64 k, .int .i64 t] 22 (0, 0)) := (hU.block A (lt_of_block HA.out) id).trans HA.out
  have hB3 : wb.heap[A2]? = some (.cells #[.int .i64 x, .int .i64 y] 43 (0, 0)) := (hU.block A2 (lt_of_block HA2.out) id).trans HA2.out
  have UB : Hid (Upd noBlock w wb) := UA.out.trans hU
  rw [← hwb]
  generalize w2.heap.size + 1 = g1 at *
  generalize w2.heap.size = g0 at *
  have HGC : Hid (∀ W, Upd noBlock wb W → (W.cell? ⟨g0, 0, none⟩ = some (.int .i64 b) ∧ W.cell? ⟨g0, 1, none⟩ = some (.int .i64 p) ∧ W.cell? ⟨g0, 2, none⟩ = some (.int .i64 c) ∧ W.cell? ⟨g0, 3, none⟩ = some (.int .i64 k) ∧ W.cell? ⟨g0, 4, none⟩ = some (.int .i64 t)) ∧ (W.cell? ⟨g1, 0, none⟩ = some (.int .i64 b) ∧ W.cell? ⟨g1, 1, none⟩ = some (.int .i64 p) ∧ W.cell? ⟨g1, 2, none⟩ = some (.int .i64 c) ∧ W.cell? ⟨g1, 3, none⟩ = some (.int .i64 k) ∧ W.cell? ⟨g1, 4, none⟩ = some (.int .i64 t)) ∧ W.cell? ⟨A, 0, none⟩ = some (.int .i64 b) ∧ W.cell? ⟨A, 1, none⟩ = some (.int .i64 p) ∧ W.cell? ⟨A2, 0, none⟩ = some (.int .i64 x) ∧ W.cell? ⟨A2, 1, none⟩ = some (.int .i64 y)) := fun W hW => by
    have h0 := (hW.block _ (lt_of_block hB0) id).trans hB0
    have h1 := (hW.block _ (lt_of_block hB1) id).trans hB1
    have h2 := (hW.block _ (lt_of_block hB2) id).trans hB2
    have h3 := (hW.block _ (lt_of_block hB3) id).trans hB3
    exact ⟨geo_cells h0, geo_cells h1, cell_of h2 0, cell_of h2 1, cell_of h3 0, cell_of h3 1⟩
  obtain ⟨⟨z0, z1, z2, z3, z4⟩, ⟨r0, r1, r2, r3, r4⟩, q0, q1, s0, s1⟩ := HGC.out _ (Upd.refl _ _)
  clear hB0 hB1 hB2 hB3 hU hwb U1 U2 HA HA2 UA HSP HGE
  go_wp2_with (first
    | (go_at_call 14; (with_reducible refine (HCH.out _).mono ?_); rintro e w5 ⟨rfl, hu⟩; have V5 : Hid (Upd noBlock wb w5) := hu; clear hu))
  go_ret
  exact ⟨rfl, UB.out.trans V5.out⟩
set_option maxRecDepth 100000 in
set_option maxHeartbeats 6400000 in
theorem pageWrites_long (b p : Int) (c k t : Nat) (x y : Int) (s : ByteArray) (w : World) (hT : Tab w) (h : GoodG b p c k t) (hs : s.size ≤ 140737488351232) (hl : c * k - 7 < s.size) :
    Calls Tryz.prog 4 #[geoV b p (c : Int) (k : Int) (t : Int), .agg #[.int .i64 x, .int .i64 y], .string s] w fun e w' => e = .returned (.bool true) ∧ Upd noBlock w w' := by
  have hnot : ∀ (x : Bool) (w : World), (Op.unary .not (.bool x)).run Tryz.prog w = .ok (.bool (!x)) w := fun _ _ => rfl
  have HSP : Hid (∀ W, Upd noBlock w W → Calls Tryz.prog 10 #[] W fun e w' => e = .returned (.bool true) ∧ Upd noBlock W w') := fun W hW => speaks6_any W (hT.upd hW)
  have HTW := Lib.hid (fun W (hW : Upd noBlock w W) => hT.upd hW)
  have HGE := Lib.hid (fun W => geometry6 b p (c : Int) (k : Int) (t : Int) W)
  have hrp := rawN_pos h
  have HSZ := Lib.hid (fun W => sizes_good b p c k t W h)
  have HCH := Lib.hid (fun W => chip_good b p c k t W h)
  have HNW := Lib.hid (fun ch W => pnew_good b p c k t ch W h)
  have HG := Lib.hid h
  obtain ⟨m1, m2, hck⟩ : 16 ≤ c * k ∧ c * k ≤ 1024 ∧ (c : Int) * (k : Int) - 7 = ((c * k - 7 : Nat) : Int) := by
    have c1 := h.c1; have c2 := h.c2; have k1 := h.k1; have k2 := h.k2
    have m1 : 16 ≤ c * k := by have := Nat.mul_le_mul (show 1 ≤ c by omega) (show 16 ≤ k by omega); omega
    exact ⟨m1, Nat.mul_le_mul (show c ≤ 4 by omega) (show k ≤ 256 by omega), toInt_mul c k (by omega)⟩
  obtain ⟨b1, b2, p1, p2, p4, _⟩ := h
  obtain ⟨nb, hnb⟩ : ∃ nb, b.toNat = nb := ⟨_, rfl⟩
  obtain ⟨np, hnp⟩ : ∃ np, p.toNat = np := ⟨_, rfl⟩
  rw [hnb, hnp] at HCH
  have hbn : b = (nb : Int) := by omega
  have hpn : p = (np : Int) := by omega
  rw [hck] at HSZ
  have HW1 : Hid (∀ wx q ch bb pb cc W, Upd noBlock w wx → PN wx q b p c k t ch bb pb (newCh nb np (rawN t k c)) cc W → Calls Tryz.prog 18 #[.pointer (some ⟨q, 0, none⟩), .int .i64 x, .int .i64 y, .string s] W fun e w' => e = .returned (.int .i64 2) ∧ PN wx q b p c k t ch bb pb (newCh nb np (rawN t k c)) cc w') := fun wx q ch bb pb cc W hwx hW => 
    (write_long q b p c k t ch cc x y s W HG.out hW.i.pg hl).mono fun e w' ⟨he, hu⟩ => ⟨he, hW.quiet hu⟩
  have d1 : decide (c * k - 7 < s.size) = true := decide_eq_true hl
  have d2 : decide (((c * k - 7 : Nat) : Int) < (s.size : Int)) = true := decide_eq_true (by omega)
  obtain ⟨m, hm⟩ : ∃ m, rawN t k c = m := ⟨_, rfl⟩
  obtain ⟨m', hm'⟩ : ∃ m', c * (k + (13 * t + 7) / 8) = m' := ⟨_, rfl⟩
  simp only [hm] at *
  simp only [hm'] at HSZ
  obtain ⟨n, hn⟩ : ∃ n, c * k - 7 = n := ⟨_, rfl⟩
  simp only [hn] at *
  clear HTW HG
  clear hm hm' hn hck hnb hnp hbn hpn p4 hT hrp m1 m2
  unfold geoV NewC at *
  obtain ⟨wa, hwa⟩ : ∃ wa, wa = (w.alloc (.cells #[.int .i64 b, .int .i64 p, .int .i64 (c : Int), .int .i64 (k : Int), .int .i64 (t : Int)] 22)).alloc (.cells #[.int .i64 x, .int .i64 y] 43) := ⟨_, rfl⟩
  have hA : wa.heap[w.heap.size]? = some (.cells #[.int .i64 b, .int .i64 p, .int .i64 (c : Int), .int .i64 (k : Int), .int .i64 (t : Int)] 22 (0, 0)) := by rw [hwa]; exact block_alloc (heap_alloc_new w _) _
  have hA2 : wa.heap[w.heap.size + 1]? = some (.cells #[.int .i64 x, .int .i64 y] 43 (0, 0)) := by
    have h9 := heap_alloc_new (w.alloc (.cells #[.int .i64 b, .int .i64 p, .int .i64 (c : Int), .int .i64 (k : Int), .int .i64 (t : Int)] 22)) (.cells #[.int .i64 x, .int .i64 y] 43)
    rw [World.size_alloc] at h9
    rw [hwa]; exact h9
  have UA : Hid (Upd noBlock w wa) := by rw [hwa]; exact ((Upd.refl _ _).alloc _).alloc _
  have HA := Lib.hid hA
  have HA2 := Lib.hid hA2
  obtain ⟨A, hAe⟩ : ∃ A, A = w.heap.size := ⟨_, rfl⟩
  obtain ⟨A2, hAe2⟩ : ∃ A2, A2 = w.heap.size + 1 := ⟨_, rfl⟩
  rw [← hAe] at HA
  rw [← hAe2] at HA2
  obtain ⟨z0, z1, z2, z3, z4⟩ := geo_cells HA.out
  clear hA hA2
  go_enter Tryz.func4, Tryz.ntmps4
  go_upto_region 1 with fail
  rw [← hwa, ← hAe2, ← hAe]
  clear hwa hAe hAe2
  go_upto_region 4 with (first
    | (go_at_call 10; (with_reducible refine (HSP.out _ UA.out).mono ?_); rintro e w1 ⟨rfl, hu1⟩; have U1 : Hid (Upd noBlock wa w1) := hu1; obtain ⟨z0, z1, z2, z3, z4⟩ := geo_cells ((hu1.block A (lt_of_block HA.out) id).trans HA.out); clear hu1)
    | (go_at_call 11; (with_reducible refine (HGE.out _).mono ?_); rintro e w2 ⟨rfl, hu2⟩; have U2 : Hid (Upd noBlock wa w2) := U1.out.trans hu2; clear hu2))
  clear z0 z1 z2 z3 z4
  obtain ⟨wb, hwb⟩ : ∃ wb, wb = (w2.alloc (.cells #[.int .i64 b, .int .i64 p, .int .i64 (c : Int), .int .i64 (k : Int), .int .i64 (t : Int)] 25)).alloc (.cells #[.int .i64 b, .int .i64 p, .int .i64 (c : Int), .int .i64 (k : Int), .int .i64 (t : Int)] 26) := ⟨_, rfl⟩
  have hB0 : wb.heap[w2.heap.size]? = some (.cells #[.int .i64 b, .int .i64 p, .int .i64 (c : Int), .int .i64 (k : Int), .int .i64 (t : Int)] 25 (0, 0)) := by rw [hwb]; exact block_alloc (heap_alloc_new w2 _) _
  have hB1 : wb.heap[w2.heap.size + 1]? = some (.cells #[.int .i64 b, .int .i64 p, .int .i64 (c : Int), .int .i64 (k : Int), .int .i64 (t : Int)] 26 (0, 0)) := by
    have h9 := heap_alloc_new (w2.alloc (.cells #[.int .i64 b, .int .i64 p, .int .i64 (c : Int), .int .i64 (k : Int), .int .i64 (t : Int)] 25)) (.cells #[.int .i64 b, .int .i64 p, .int .i64 (c : Int), .int .i64 (k : Int), .int .i64 (t : Int)] 26)
    rw [World.size_alloc] at h9
    rw [hwb]; exact h9
  have hU : Upd noBlock wa wb := by rw [hwb]; exact (U2.out.alloc _).alloc _
  have hB2 : wb.heap[A]? = some (.cells #[.int .i64 b, .int .i64 p, .int .i64 (c : Int), .int .i64 (k : Int), .int .i64 (t : Int)] 22 (0, 0)) := (hU.block A (lt_of_block HA.out) id).trans HA.out
  have hB3 : wb.heap[A2]? = some (.cells #[.int .i64 x, .int .i64 y] 43 (0, 0)) := (hU.block A2 (lt_of_block HA2.out) id).trans HA2.out
  have UB : Hid (Upd noBlock w wb) := UA.out.trans hU
  rw [← hwb]
  generalize w2.heap.size + 1 = g1 at *
  generalize w2.heap.size = g0 at *
  have HGC : Hid (∀ W, Upd noBlock wb W → (W.cell? ⟨g0, 0, none⟩ = some (.int .i64 b) ∧ W.cell? ⟨g0, 1, none⟩ = some (.int .i64 p) ∧ W.cell? ⟨g0, 2, none⟩ = some (.int .i64 (c : Int)) ∧ W.cell? ⟨g0, 3, none⟩ = some (.int .i64 (k : Int)) ∧ W.cell? ⟨g0, 4, none⟩ = some (.int .i64 (t : Int))) ∧ (W.cell? ⟨g1, 0, none⟩ = some (.int .i64 b) ∧ W.cell? ⟨g1, 1, none⟩ = some (.int .i64 p) ∧ W.cell? ⟨g1, 2, none⟩ = some (.int .i64 (c : Int)) ∧ W.cell? ⟨g1, 3, none⟩ = some (.int .i64 (k : Int)) ∧ W.cell? ⟨g1, 4, none⟩ = some (.int .i64 (t : Int))) ∧ W.cell? ⟨A, 0, none⟩ = some (.int .i64 b) ∧ W.cell? ⟨A, 1, none⟩ = some (.int .i64 p) ∧ W.cell? ⟨A2, 0, none⟩ = some (.int .i64 x) ∧ W.cell? ⟨A2, 1, none⟩ = some (.int .i64 y)) := fun W hW => by
    have h0 := (hW.block _ (lt_of_block hB0) id).trans hB0
    have h1 := (hW.block _ (lt_of_block hB1) id).trans hB1
    have h2 := (hW.block _ (lt_of_block hB2) id).trans hB2
    have h3 := (hW.block _ (lt_of_block hB3) id).trans hB3
    exact ⟨geo_cells h0, geo_cells h1, cell_of h2 0, cell_of h2 1, cell_of h3 0, cell_of h3 1⟩
  obtain ⟨⟨z0, z1, z2, z3, z4⟩, ⟨r0, r1, r2, r3, r4⟩, q0, q1, s0, s1⟩ := HGC.out _ (Upd.refl _ _)
  clear hB0 hB1 hB2 hB3 hU hwb U1 U2 HA HA2 UA HSP HGE
  go_wp2_with (first
    | (go_at_call 14; (with_reducible refine (HCH.out _).mono ?_); rintro e w5 ⟨ch, bb, pb, rfl, hc, hu, hl⟩; have C5 := Lib.hid hc; have L5 : Hid (∀ i, Own ch bb pb nb i → wb.heap.size ≤ i) := hl; have V5 : Hid (Upd noBlock wb w5) := hu; obtain ⟨⟨z0, z1, z2, z3, z4⟩, ⟨r0, r1, r2, r3, r4⟩, q0, q1, s0, s1⟩ := HGC.out _ hu; clear hc hu hl)
    | (go_at_call 15; (with_reducible refine (HNW.out ch _).mono ?_); rintro e w6 ⟨q, cc, rfl, hp, hcd, hq, hcc, hu⟩; have N6 : Hid (PN wb q b p c k t ch bb pb (newCh nb np m) cc w6) := ⟨⟨hp, C5.out.grow hu, hcd⟩, V5.out.trans hu, fun i hi => hi.elim (fun h => L5.out i h) (fun h => by rw [h]; exact Nat.le_trans V5.out.size hcc)⟩; obtain ⟨⟨z0, z1, z2, z3, z4⟩, ⟨r0, r1, r2, r3, r4⟩, q0, q1, s0, s1⟩ := HGC.out _ N6.out.u; clear hp hcd hq hcc hu)
    | (go_at_call 13; (with_reducible refine (HSZ.out _).mono ?_); rintro e w7 ⟨rfl, hu⟩; have N7 := Lib.hid (N6.out.quiet hu); obtain ⟨⟨z0, z1, z2, z3, z4⟩, ⟨r0, r1, r2, r3, r4⟩, q0, q1, s0, s1⟩ := HGC.out _ N7.out.u; clear hu)
    | (go_at_call 18; (with_reducible refine (HW1.out _ q ch bb pb cc _ UB.out N7.out).mono ?_); rintro e w8 ⟨rfl, hp⟩; have N8 := Lib.hid hp; obtain ⟨⟨z0, z1, z2, z3, z4⟩, ⟨r0, r1, r2, r3, r4⟩, q0, q1, s0, s1⟩ := HGC.out _ N8.out.u; clear hp))
  go_ret
  exact ⟨rfl, UB.out.trans N8.out.u⟩
set_option maxRecDepth 100000 in
set_option maxHeartbeats 6400000 in
theorem pageWrites_o1 (b p : Int) (c k t : Nat) (x y : Int) (s : ByteArray) (w : World) (hT : Tab w) (h : GoodG b p c k t) (hs : s.size ≤ 140737488351232) (hl : s.size ≤ c * k - 7) (hx : x < 0) :
    Calls Tryz.prog 4 #[geoV b p (c : Int) (k : Int) (t : Int), .agg #[.int .i64 x, .int .i64 y], .string s] w fun e w' => e = .returned (.bool true) ∧ Upd noBlock w w' := by
  have hnot : ∀ (x : Bool) (w : World), (Op.unary .not (.bool x)).run Tryz.prog w = .ok (.bool (!x)) w := fun _ _ => rfl
  have HSP : Hid (∀ W, Upd noBlock w W → Calls Tryz.prog 10 #[] W fun e w' => e = .returned (.bool true) ∧ Upd noBlock W w') := fun W hW => speaks6_any W (hT.upd hW)
  have HTW := Lib.hid (fun W (hW : Upd noBlock w W) => hT.upd hW)
  have HGE := Lib.hid (fun W => geometry6 b p (c : Int) (k : Int) (t : Int) W)
  have hrp := rawN_pos h
  have HSZ := Lib.hid (fun W => sizes_good b p c k t W h)
  have HCH := Lib.hid (fun W => chip_good b p c k t W h)
  have HNW := Lib.hid (fun ch W => pnew_good b p c k t ch W h)
  have HG := Lib.hid h
  obtain ⟨m1, m2, hck⟩ : 16 ≤ c * k ∧ c * k ≤ 1024 ∧ (c : Int) * (k : Int) - 7 = ((c * k - 7 : Nat) : Int) := by
    have c1 := h.c1; have c2 := h.c2; have k1 := h.k1; have k2 := h.k2
    have m1 : 16 ≤ c * k := by have := Nat.mul_le_mul (show 1 ≤ c by omega) (show 16 ≤ k by omega); omega
    exact ⟨m1, Nat.mul_le_mul (show c ≤ 4 by omega) (show k ≤ 256 by omega), toInt_mul c k (by omega)⟩
  obtain ⟨b1, b2, p1, p2, p4, _⟩ := h
  obtain ⟨nb, hnb⟩ : ∃ nb, b.toNat = nb := ⟨_, rfl⟩
  obtain ⟨np, hnp⟩ : ∃ np, p.toNat = np := ⟨_, rfl⟩
  rw [hnb, hnp] at HCH
  have hbn : b = (nb : Int) := by omega
  have hpn : p = (np : Int) := by omega
  rw [hck] at HSZ
  have HW1 : Hid (∀ wx q ch bb pb cc W, Upd noBlock w wx → PN wx q b p c k t ch bb pb (newCh nb np (rawN t k c)) cc W → Calls Tryz.prog 18 #[.pointer (some ⟨q, 0, none⟩), .int .i64 x, .int .i64 y, .string s] W fun e w' => e = .returned (.int .i64 1) ∧ PN wx q b p c k t ch bb pb (newCh nb np (rawN t k c)) cc w') := fun wx q ch bb pb cc W hwx hW => 
    (write_gen q b p c k t ch bb pb (newCh nb np (rawN t k c)) (newCh nb np (rawN t k c)) cc x y 1 s W HG.out hW.i ((HTW.out _ hwx).upd hW.u) hl (fun W' hc => (program_out ch bb pb (newCh nb np (rawN t k c)) x y _ W' hc (.inl hx)).mono fun e w' ⟨he, h1⟩ => ⟨he, by rw [← h1]; exact hc, by rw [← h1]; exact Upd.refl _ _⟩)).mono fun e w' ⟨he, hi, hu⟩ => ⟨he, hW.upd hi hu rfl⟩
  have d1 : decide (c * k - 7 < s.size) = false := decide_eq_false (by omega)
  have d2 : decide (((c * k - 7 : Nat) : Int) < (s.size : Int)) = false := decide_eq_false (by omega)
  obtain ⟨m, hm⟩ : ∃ m, rawN t k c = m := ⟨_, rfl⟩
  obtain ⟨m', hm'⟩ : ∃ m', c * (k + (13 * t + 7) / 8) = m' := ⟨_, rfl⟩
  simp only [hm] at *
  simp only [hm'] at HSZ
  obtain ⟨n, hn⟩ : ∃ n, c * k - 7 = n := ⟨_, rfl⟩
  simp only [hn] at *
  clear HTW HG
  clear hm hm' hn hck hnb hnp hbn hpn p4 hT hrp m1 m2
  unfold geoV NewC at *
  obtain ⟨wa, hwa⟩ : ∃ wa, wa = (w.alloc (.cells #[.int .i64 b, .int .i64 p, .int .i64 (c : Int), .int .i64 (k : Int), .int .i64 (t : Int)] 22)).alloc (.cells #[.int .i64 x, .int .i64 y] 43) := ⟨_, rfl⟩
  have hA : wa.heap[w.heap.size]? = some (.cells #[.int .i64 b, .int .i64 p, .int .i64 (c : Int), .int .i64 (k : Int), .int .i64 (t : Int)] 22 (0, 0)) := by rw [hwa]; exact block_alloc (heap_alloc_new w _) _
  have hA2 : wa.heap[w.heap.size + 1]? = some (.cells #[.int .i64 x, .int .i64 y] 43 (0, 0)) := by
    have h9 := heap_alloc_new (w.alloc (.cells #[.int .i64 b, .int .i64 p, .int .i64 (c : Int), .int .i64 (k : Int), .int .i64 (t : Int)] 22)) (.cells #[.int .i64 x, .int .i64 y] 43)
    rw [World.size_alloc] at h9
    rw [hwa]; exact h9
  have UA : Hid (Upd noBlock w wa) := by rw [hwa]; exact ((Upd.refl _ _).alloc _).alloc _
  have HA := Lib.hid hA
  have HA2 := Lib.hid hA2
  obtain ⟨A, hAe⟩ : ∃ A, A = w.heap.size := ⟨_, rfl⟩
  obtain ⟨A2, hAe2⟩ : ∃ A2, A2 = w.heap.size + 1 := ⟨_, rfl⟩
  rw [← hAe] at HA
  rw [← hAe2] at HA2
  obtain ⟨z0, z1, z2, z3, z4⟩ := geo_cells HA.out
  clear hA hA2
  go_enter Tryz.func4, Tryz.ntmps4
  go_upto_region 1 with fail
  rw [← hwa, ← hAe2, ← hAe]
  clear hwa hAe hAe2
  go_upto_region 4 with (first
    | (go_at_call 10; (with_reducible refine (HSP.out _ UA.out).mono ?_); rintro e w1 ⟨rfl, hu1⟩; have U1 : Hid (Upd noBlock wa w1) := hu1; obtain ⟨z0, z1, z2, z3, z4⟩ := geo_cells ((hu1.block A (lt_of_block HA.out) id).trans HA.out); clear hu1)
    | (go_at_call 11; (with_reducible refine (HGE.out _).mono ?_); rintro e w2 ⟨rfl, hu2⟩; have U2 : Hid (Upd noBlock wa w2) := U1.out.trans hu2; clear hu2))
  clear z0 z1 z2 z3 z4
  obtain ⟨wb, hwb⟩ : ∃ wb, wb = (w2.alloc (.cells #[.int .i64 b, .int .i64 p, .int .i64 (c : Int), .int .i64 (k : Int), .int .i64 (t : Int)] 25)).alloc (.cells #[.int .i64 b, .int .i64 p, .int .i64 (c : Int), .int .i64 (k : Int), .int .i64 (t : Int)] 26) := ⟨_, rfl⟩
  have hB0 : wb.heap[w2.heap.size]? = some (.cells #[.int .i64 b, .int .i64 p, .int .i64 (c : Int), .int .i64 (k : Int), .int .i64 (t : Int)] 25 (0, 0)) := by rw [hwb]; exact block_alloc (heap_alloc_new w2 _) _
  have hB1 : wb.heap[w2.heap.size + 1]? = some (.cells #[.int .i64 b, .int .i64 p, .int .i64 (c : Int), .int .i64 (k : Int), .int .i64 (t : Int)] 26 (0, 0)) := by
    have h9 := heap_alloc_new (w2.alloc (.cells #[.int .i64 b, .int .i64 p, .int .i64 (c : Int), .int .i64 (k : Int), .int .i64 (t : Int)] 25)) (.cells #[.int .i64 b, .int .i64 p, .int .i64 (c : Int), .int .i64 (k : Int), .int .i64 (t : Int)] 26)
    rw [World.size_alloc] at h9
    rw [hwb]; exact h9
  have hU : Upd noBlock wa wb := by rw [hwb]; exact (U2.out.alloc _).alloc _
  have hB2 : wb.heap[A]? = some (.cells #[.int .i64 b, .int .i64 p, .int .i64 (c : Int), .int .i64 (k : Int), .int .i64 (t : Int)] 22 (0, 0)) := (hU.block A (lt_of_block HA.out) id).trans HA.out
  have hB3 : wb.heap[A2]? = some (.cells #[.int .i64 x, .int .i64 y] 43 (0, 0)) := (hU.block A2 (lt_of_block HA2.out) id).trans HA2.out
  have UB : Hid (Upd noBlock w wb) := UA.out.trans hU
  rw [← hwb]
  generalize w2.heap.size + 1 = g1 at *
  generalize w2.heap.size = g0 at *
  have HGC : Hid (∀ W, Upd noBlock wb W → (W.cell? ⟨g0, 0, none⟩ = some (.int .i64 b) ∧ W.cell? ⟨g0, 1, none⟩ = some (.int .i64 p) ∧ W.cell? ⟨g0, 2, none⟩ = some (.int .i64 (c : Int)) ∧ W.cell? ⟨g0, 3, none⟩ = some (.int .i64 (k : Int)) ∧ W.cell? ⟨g0, 4, none⟩ = some (.int .i64 (t : Int))) ∧ (W.cell? ⟨g1, 0, none⟩ = some (.int .i64 b) ∧ W.cell? ⟨g1, 1, none⟩ = some (.int .i64 p) ∧ W.cell? ⟨g1, 2, none⟩ = some (.int .i64 (c : Int)) ∧ W.cell? ⟨g1, 3, none⟩ = some (.int .i64 (k : Int)) ∧ W.cell? ⟨g1, 4, none⟩ = some (.int .i64 (t : Int))) ∧ W.cell? ⟨A, 0, none⟩ = some (.int .i64 b) ∧ W.cell? ⟨A, 1, none⟩ = some (.int .i64 p) ∧ W.cell? ⟨A2, 0, none⟩ = some (.int .i64 x) ∧ W.cell? ⟨A2, 1, none⟩ = some (.int .i64 y)) := fun W hW => by
    have h0 := (hW.block _ (lt_of_block hB0) id).trans hB0
    have h1 := (hW.block _ (lt_of_block hB1) id).trans hB1
    have h2 := (hW.block _ (lt_of_block hB2) id).trans hB2
    have h3 := (hW.block _ (lt_of_block hB3) id).trans hB3
    exact ⟨geo_cells h0, geo_cells h1, cell_of h2 0, cell_of h2 1, cell_of h3 0, cell_of h3 1⟩
  obtain ⟨⟨z0, z1, z2, z3, z4⟩, ⟨r0, r1, r2, r3, r4⟩, q0, q1, s0, s1⟩ := HGC.out _ (Upd.refl _ _)
  clear hB0 hB1 hB2 hB3 hU hwb U1 U2 HA HA2 UA HSP HGE
  go_wp2_with (first
    | (go_at_call 14; (with_reducible refine (HCH.out _).mono ?_); rintro e w5 ⟨ch, bb, pb, rfl, hc, hu, hl⟩; have C5 := Lib.hid hc; have L5 : Hid (∀ i, Own ch bb pb nb i → wb.heap.size ≤ i) := hl; have V5 : Hid (Upd noBlock wb w5) := hu; obtain ⟨⟨z0, z1, z2, z3, z4⟩, ⟨r0, r1, r2, r3, r4⟩, q0, q1, s0, s1⟩ := HGC.out _ hu; clear hc hu hl)
    | (go_at_call 15; (with_reducible refine (HNW.out ch _).mono ?_); rintro e w6 ⟨q, cc, rfl, hp, hcd, hq, hcc, hu⟩; have N6 : Hid (PN wb q b p c k t ch bb pb (newCh nb np m) cc w6) := ⟨⟨hp, C5.out.grow hu, hcd⟩, V5.out.trans hu, fun i hi => hi.elim (fun h => L5.out i h) (fun h => by rw [h]; exact Nat.le_trans V5.out.size hcc)⟩; obtain ⟨⟨z0, z1, z2, z3, z4⟩, ⟨r0, r1, r2, r3, r4⟩, q0, q1, s0, s1⟩ := HGC.out _ N6.out.u; clear hp hcd hq hcc hu)
    | (go_at_call 13; (with_reducible refine (HSZ.out _).mono ?_); rintro e w7 ⟨rfl, hu⟩; have N7 := Lib.hid (N6.out.quiet hu); obtain ⟨⟨z0, z1, z2, z3, z4⟩, ⟨r0, r1, r2, r3, r4⟩, q0, q1, s0, s1⟩ := HGC.out _ N7.out.u; clear hu)
    | (go_at_call 18; (with_reducible refine (HW1.out _ q ch bb pb cc _ UB.out N7.out).mono ?_); rintro e w8 ⟨rfl, hp⟩; have N8 := Lib.hid hp; obtain ⟨⟨z0, z1, z2, z3, z4⟩, ⟨r0, r1, r2, r3, r4⟩, q0, q1, s0, s1⟩ := HGC.out _ N8.out.u; clear hp))
  go_ret
  exact ⟨rfl, UB.out.trans N8.out.u⟩
set_option maxRecDepth 100000 in
set_option maxHeartbeats 6400000 in
theorem pageWrites_o2 (b p : Int) (c k t : Nat) (x y : Int) (s : ByteArray) (w : World) (hT : Tab w) (h : GoodG b p c k t) (hs : s.size ≤ 140737488351232) (hl : s.size ≤ c * k - 7) (hx : 0 ≤ x) (hx2 : b ≤ x) :
    Calls Tryz.prog 4 #[geoV b p (c : Int) (k : Int) (t : Int), .agg #[.int .i64 x, .int .i64 y], .string s] w fun e w' => e = .returned (.bool true) ∧ Upd noBlock w w' := by
  have hnot : ∀ (x : Bool) (w : World), (Op.unary .not (.bool x)).run Tryz.prog w = .ok (.bool (!x)) w := fun _ _ => rfl
  have HSP : Hid (∀ W, Upd noBlock w W → Calls Tryz.prog 10 #[] W fun e w' => e = .returned (.bool true) ∧ Upd noBlock W w') := fun W hW => speaks6_any W (hT.upd hW)
  have HTW := Lib.hid (fun W (hW : Upd noBlock w W) => hT.upd hW)
  have HGE := Lib.hid (fun W => geometry6 b p (c : Int) (k : Int) (t : Int) W)
  have hrp := rawN_pos h
  have HSZ := Lib.hid (fun W => sizes_good b p c k t W h)
  have HCH := Lib.hid (fun W => chip_good b p c k t W h)
  have HNW := Lib.hid (fun ch W => pnew_good b p c k t ch W h)
  have HG := Lib.hid h
  obtain ⟨m1, m2, hck⟩ : 16 ≤ c * k ∧ c * k ≤ 1024 ∧ (c : Int) * (k : Int) - 7 = ((c * k - 7 : Nat) : Int) := by
    have c1 := h.c1; have c2 := h.c2; have k1 := h.k1; have k2 := h.k2
    have m1 : 16 ≤ c * k := by have := Nat.mul_le_mul (show 1 ≤ c by omega) (show 16 ≤ k by omega); omega
    exact ⟨m1, Nat.mul_le_mul (show c ≤ 4 by omega) (show k ≤ 256 by omega), toInt_mul c k (by omega)⟩
  obtain ⟨b1, b2, p1, p2, p4, _⟩ := h
  obtain ⟨nb, hnb⟩ : ∃ nb, b.toNat = nb := ⟨_, rfl⟩
  obtain ⟨np, hnp⟩ : ∃ np, p.toNat = np := ⟨_, rfl⟩
  rw [hnb, hnp] at HCH
  have hbn : b = (nb : Int) := by omega
  have hpn : p = (np : Int) := by omega
  rw [hck] at HSZ
  have HW1 : Hid (∀ wx q ch bb pb cc W, Upd noBlock w wx → PN wx q b p c k t ch bb pb (newCh nb np (rawN t k c)) cc W → Calls Tryz.prog 18 #[.pointer (some ⟨q, 0, none⟩), .int .i64 x, .int .i64 y, .string s] W fun e w' => e = .returned (.int .i64 1) ∧ PN wx q b p c k t ch bb pb (newCh nb np (rawN t k c)) cc w') := fun wx q ch bb pb cc W hwx hW => 
    (write_gen q b p c k t ch bb pb (newCh nb np (rawN t k c)) (newCh nb np (rawN t k c)) cc x y 1 s W HG.out hW.i ((HTW.out _ hwx).upd hW.u) hl (fun W' hc => (program_out ch bb pb (newCh nb np (rawN t k c)) x y _ W' hc (.inr (by show (nb : Int) ≤ x; omega))).mono fun e w' ⟨he, h1⟩ => ⟨he, by rw [← h1]; exact hc, by rw [← h1]; exact Upd.refl _ _⟩)).mono fun e w' ⟨he, hi, hu⟩ => ⟨he, hW.upd hi hu rfl⟩
  have d1 : decide (c * k - 7 < s.size) = false := decide_eq_false (by omega)
  have d2 : decide (((c * k - 7 : Nat) : Int) < (s.size : Int)) = false := decide_eq_false (by omega)
  obtain ⟨m, hm⟩ : ∃ m, rawN t k c = m := ⟨_, rfl⟩
  obtain ⟨m', hm'⟩ : ∃ m', c * (k + (13 * t + 7) / 8) = m' := ⟨_, rfl⟩
  simp only [hm] at *
  simp only [hm'] at HSZ
  obtain ⟨n, hn⟩ : ∃ n, c * k - 7 = n := ⟨_, rfl⟩
  simp only [hn] at *
  clear HTW HG
  clear hm hm' hn hck hnb hnp hbn hpn p4 hT hrp m1 m2
  unfold geoV NewC at *
  obtain ⟨wa, hwa⟩ : ∃ wa, wa = (w.alloc (.cells #[.int .i64 b, .int .i64 p, .int .i64 (c : Int), .int .i64 (k : Int), .int .i64 (t : Int)] 22)).alloc (.cells #[.int .i64 x, .int .i64 y] 43) := ⟨_, rfl⟩
  have hA : wa.heap[w.heap.size]? = some (.cells #[.int .i64 b, .int .i64 p, .int .i64 (c : Int), .int .i64 (k : Int), .int .i64 (t : Int)] 22 (0, 0)) := by rw [hwa]; exact block_alloc (heap_alloc_new w _) _
  have hA2 : wa.heap[w.heap.size + 1]? = some (.cells #[.int .i64 x, .int .i64 y] 43 (0, 0)) := by
    have h9 := heap_alloc_new (w.alloc (.cells #[.int .i64 b, .int .i64 p, .int .i64 (c : Int), .int .i64 (k : Int), .int .i64 (t : Int)] 22)) (.cells #[.int .i64 x, .int .i64 y] 43)
    rw [World.size_alloc] at h9
    rw [hwa]; exact h9
  have UA : Hid (Upd noBlock w wa) := by rw [hwa]; exact ((Upd.refl _ _).alloc _).alloc _
  have HA := Lib.hid hA
  have HA2 := Lib.hid hA2
  obtain ⟨A, hAe⟩ : ∃ A, A = w.heap.size := ⟨_, rfl⟩
  obtain ⟨A2, hAe2⟩ : ∃ A2, A2 = w.heap.size + 1 := ⟨_, rfl⟩
  rw [← hAe] at HA
  rw [← hAe2] at HA2
  obtain ⟨z0, z1, z2, z3, z4⟩ := geo_cells HA.out
  clear hA hA2
  go_enter Tryz.func4, Tryz.ntmps4
  go_upto_region 1 with fail
  rw [← hwa, ← hAe2, ← hAe]
  clear hwa hAe hAe2
  go_upto_region 4 with (first
    | (go_at_call 10; (with_reducible refine (HSP.out _ UA.out).mono ?_); rintro e w1 ⟨rfl, hu1⟩; have U1 : Hid (Upd noBlock wa w1) := hu1; obtain ⟨z0, z1, z2, z3, z4⟩ := geo_cells ((hu1.block A (lt_of_block HA.out) id).trans HA.out); clear hu1)
    | (go_at_call 11; (with_reducible refine (HGE.out _).mono ?_); rintro e w2 ⟨rfl, hu2⟩; have U2 : Hid (Upd noBlock wa w2) := U1.out.trans hu2; clear hu2))
  clear z0 z1 z2 z3 z4
  obtain ⟨wb, hwb⟩ : ∃ wb, wb = (w2.alloc (.cells #[.int .i64 b, .int .i64 p, .int .i64 (c : Int), .int .i64 (k : Int), .int .i64 (t : Int)] 25)).alloc (.cells #[.int .i64 b, .int .i64 p, .int .i64 (c : Int), .int .i64 (k : Int), .int .i64 (t : Int)] 26) := ⟨_, rfl⟩
  have hB0 : wb.heap[w2.heap.size]? = some (.cells #[.int .i64 b, .int .i64 p, .int .i64 (c : Int), .int .i64 (k : Int), .int .i64 (t : Int)] 25 (0, 0)) := by rw [hwb]; exact block_alloc (heap_alloc_new w2 _) _
  have hB1 : wb.heap[w2.heap.size + 1]? = some (.cells #[.int .i64 b, .int .i64 p, .int .i64 (c : Int), .int .i64 (k : Int), .int .i64 (t : Int)] 26 (0, 0)) := by
    have h9 := heap_alloc_new (w2.alloc (.cells #[.int .i64 b, .int .i64 p, .int .i64 (c : Int), .int .i64 (k : Int), .int .i64 (t : Int)] 25)) (.cells #[.int .i64 b, .int .i64 p, .int .i64 (c : Int), .int .i64 (k : Int), .int .i64 (t : Int)] 26)
    rw [World.size_alloc] at h9
    rw [hwb]; exact h9
  have hU : Upd noBlock wa wb := by rw [hwb]; exact (U2.out.alloc _).alloc _
  have hB2 : wb.heap[A]? = some (.cells #[.int .i64 b, .int .i64 p, .int .i64 (c : Int), .int .i64 (k : Int), .int .i64 (t : Int)] 22 (0, 0)) := (hU.block A (lt_of_block HA.out) id).trans HA.out
  have hB3 : wb.heap[A2]? = some (.cells #[.int .i64 x, .int .i64 y] 43 (0, 0)) := (hU.block A2 (lt_of_block HA2.out) id).trans HA2.out
  have UB : Hid (Upd noBlock w wb) := UA.out.trans hU
  rw [← hwb]
  generalize w2.heap.size + 1 = g1 at *
  generalize w2.heap.size = g0 at *
  have HGC : Hid (∀ W, Upd noBlock wb W → (W.cell? ⟨g0, 0, none⟩ = some (.int .i64 b) ∧ W.cell? ⟨g0, 1, none⟩ = some (.int .i64 p) ∧ W.cell? ⟨g0, 2, none⟩ = some (.int .i64 (c : Int)) ∧ W.cell? ⟨g0, 3, none⟩ = some (.int .i64 (k : Int)) ∧ W.cell? ⟨g0, 4, none⟩ = some (.int .i64 (t : Int))) ∧ (W.cell? ⟨g1, 0, none⟩ = some (.int .i64 b) ∧ W.cell? ⟨g1, 1, none⟩ = some (.int .i64 p) ∧ W.cell? ⟨g1, 2, none⟩ = some (.int .i64 (c : Int)) ∧ W.cell? ⟨g1, 3, none⟩ = some (.int .i64 (k : Int)) ∧ W.cell? ⟨g1, 4, none⟩ = some (.int .i64 (t : Int))) ∧ W.cell? ⟨A, 0, none⟩ = some (.int .i64 b) ∧ W.cell? ⟨A, 1, none⟩ = some (.int .i64 p) ∧ W.cell? ⟨A2, 0, none⟩ = some (.int .i64 x) ∧ W.cell? ⟨A2, 1, none⟩ = some (.int .i64 y)) := fun W hW => by
    have h0 := (hW.block _ (lt_of_block hB0) id).trans hB0
    have h1 := (hW.block _ (lt_of_block hB1) id).trans hB1
    have h2 := (hW.block _ (lt_of_block hB2) id).trans hB2
    have h3 := (hW.block _ (lt_of_block hB3) id).trans hB3
    exact ⟨geo_cells h0, geo_cells h1, cell_of h2 0, cell_of h2 1, cell_of h3 0, cell_of h3 1⟩
  obtain ⟨⟨z0, z1, z2, z3, z4⟩, ⟨r0, r1, r2, r3, r4⟩, q0, q1, s0, s1⟩ := HGC.out _ (Upd.refl _ _)
  clear hB0 hB1 hB2 hB3 hU hwb U1 U2 HA HA2 UA HSP HGE
  go_wp2_with (first
    | (go_at_call 14; (with_reducible refine (HCH.out _).mono ?_); rintro e w5 ⟨ch, bb, pb, rfl, hc, hu, hl⟩; have C5 := Lib.hid hc; have L5 : Hid (∀ i, Own ch bb pb nb i → wb.heap.size ≤ i) := hl; have V5 : Hid (Upd noBlock wb w5) := hu; obtain ⟨⟨z0, z1, z2, z3, z4⟩, ⟨r0, r1, r2, r3, r4⟩, q0, q1, s0, s1⟩ := HGC.out _ hu; clear hc hu hl)
    | (go_at_call 15; (with_reducible refine (HNW.out ch _).mono ?_); rintro e w6 ⟨q, cc, rfl, hp, hcd, hq, hcc, hu⟩; have N6 : Hid (PN wb q b p c k t ch bb pb (newCh nb np m) cc w6) := ⟨⟨hp, C5.out.grow hu, hcd⟩, V5.out.trans hu, fun i hi => hi.elim (fun h => L5.out i h) (fun h => by rw [h]; exact Nat.le_trans V5.out.size hcc)⟩; obtain ⟨⟨z0, z1, z2, z3, z4⟩, ⟨r0, r1, r2, r3, r4⟩, q0, q1, s0, s1⟩ := HGC.out _ N6.out.u; clear hp hcd hq hcc hu)
    | (go_at_call 13; (with_reducible refine (HSZ.out _).mono ?_); rintro e w7 ⟨rfl, hu⟩; have N7 := Lib.hid (N6.out.quiet hu); obtain ⟨⟨z0, z1, z2, z3, z4⟩, ⟨r0, r1, r2, r3, r4⟩, q0, q1, s0, s1⟩ := HGC.out _ N7.out.u; clear hu)
    | (go_at_call 18; (with_reducible refine (HW1.out _ q ch bb pb cc _ UB.out N7.out).mono ?_); rintro e w8 ⟨rfl, hp⟩; have N8 := Lib.hid hp; obtain ⟨⟨z0, z1, z2, z3, z4⟩, ⟨r0, r1, r2, r3, r4⟩, q0, q1, s0, s1⟩ := HGC.out _ N8.out.u; clear hp))
  go_ret
  exact ⟨rfl, UB.out.trans N8.out.u⟩
set_option maxRecDepth 100000 in
set_option maxHeartbeats 6400000 in
theorem pageWrites_o3 (b p : Int) (c k t : Nat) (x y : Int) (s : ByteArray) (w : World) (hT : Tab w) (h : GoodG b p c k t) (hs : s.size ≤ 140737488351232) (hl : s.size ≤ c * k - 7) (hx : 0 ≤ x) (hx2 : x < b) (hy : y < 0) :
    Calls Tryz.prog 4 #[geoV b p (c : Int) (k : Int) (t : Int), .agg #[.int .i64 x, .int .i64 y], .string s] w fun e w' => e = .returned (.bool true) ∧ Upd noBlock w w' := by
  have hnot : ∀ (x : Bool) (w : World), (Op.unary .not (.bool x)).run Tryz.prog w = .ok (.bool (!x)) w := fun _ _ => rfl
  have HSP : Hid (∀ W, Upd noBlock w W → Calls Tryz.prog 10 #[] W fun e w' => e = .returned (.bool true) ∧ Upd noBlock W w') := fun W hW => speaks6_any W (hT.upd hW)
  have HTW := Lib.hid (fun W (hW : Upd noBlock w W) => hT.upd hW)
  have HGE := Lib.hid (fun W => geometry6 b p (c : Int) (k : Int) (t : Int) W)
  have hrp := rawN_pos h
  have HSZ := Lib.hid (fun W => sizes_good b p c k t W h)
  have HCH := Lib.hid (fun W => chip_good b p c k t W h)
  have HNW := Lib.hid (fun ch W => pnew_good b p c k t ch W h)
  have HG := Lib.hid h
  obtain ⟨m1, m2, hck⟩ : 16 ≤ c * k ∧ c * k ≤ 1024 ∧ (c : Int) * (k : Int) - 7 = ((c * k - 7 : Nat) : Int) := by
    have c1 := h.c1; have c2 := h.c2; have k1 := h.k1; have k2 := h.k2
    have m1 : 16 ≤ c * k := by have := Nat.mul_le_mul (show 1 ≤ c by omega) (show 16 ≤ k by omega); omega
    exact ⟨m1, Nat.mul_le_mul (show c ≤ 4 by omega) (show k ≤ 256 by omega), toInt_mul c k (by omega)⟩
  obtain ⟨b1, b2, p1, p2, p4, _⟩ := h
  obtain ⟨nb, hnb⟩ : ∃ nb, b.toNat = nb := ⟨_, rfl⟩
  obtain ⟨np, hnp⟩ : ∃ np, p.toNat = np := ⟨_, rfl⟩
  rw [hnb, hnp] at HCH
  have hbn : b = (nb : Int) := by omega
  have hpn : p = (np : Int) := by omega
  rw [hck] at HSZ
  have HW1 : Hid (∀ wx q ch bb pb cc W, Upd noBlock w wx → PN wx q b p c k t ch bb pb (newCh nb np (rawN t k c)) cc W → Calls Tryz.prog 18 #[.pointer (some ⟨q, 0, none⟩), .int .i64 x, .int .i64 y, .string s] W fun e w' => e = .returned (.int .i64 1) ∧ PN wx q b p c k t ch bb pb (newCh nb np (rawN t k c)) cc w') := fun wx q ch bb pb cc W hwx hW => 
    (write_gen q b p c k t ch bb pb (newCh nb np (rawN t k c)) (newCh nb np (rawN t k c)) cc x y 1 s W HG.out hW.i ((HTW.out _ hwx).upd hW.u) hl (fun W' hc => (program_out_pI ch bb pb (newCh nb np (rawN t k c)) x y _ W' hc hx (by show x < (nb : Int); omega) (.inl hy)).mono fun e w' ⟨he, h1⟩ => ⟨he, by rw [← h1]; exact hc, by rw [← h1]; exact Upd.refl _ _⟩)).mono fun e w' ⟨he, hi, hu⟩ => ⟨he, hW.upd hi hu rfl⟩
  have d1 : decide (c * k - 7 < s.size) = false := decide_eq_false (by omega)
  have d2 : decide (((c * k - 7 : Nat) : Int) < (s.size : Int)) = false := decide_eq_false (by omega)
  obtain ⟨m, hm⟩ : ∃ m, rawN t k c = m := ⟨_, rfl⟩
  obtain ⟨m', hm'⟩ : ∃ m', c * (k + (13 * t + 7) / 8) = m' := ⟨_, rfl⟩
  simp only [hm] at *
  simp only [hm'] at HSZ
  obtain ⟨n, hn⟩ : ∃ n, c * k - 7 = n := ⟨_, rfl⟩
  simp only [hn] at *
  clear HTW HG
  clear hm hm' hn hck hnb hnp hbn hpn p4 hT hrp m1 m2
  unfold geoV NewC at *
  obtain ⟨wa, hwa⟩ : ∃ wa, wa = (w.alloc (.cells #[.int .i64 b, .int .i64 p, .int .i64 (c : Int), .int .i64 (k : Int), .int .i64 (t : Int)] 22)).alloc (.cells #[.int .i64 x, .int .i64 y] 43) := ⟨_, rfl⟩
  have hA : wa.heap[w.heap.size]? = some (.cells #[.int .i64 b, .int .i64 p, .int .i64 (c : Int), .int .i64 (k : Int), .int .i64 (t : Int)] 22 (0, 0)) := by rw [hwa]; exact block_alloc (heap_alloc_new w _) _
  have hA2 : wa.heap[w.heap.size + 1]? = some (.cells #[.int .i64 x, .int .i64 y] 43 (0, 0)) := by
    have h9 := heap_alloc_new (w.alloc (.cells #[.int .i64 b, .int .i64 p, .int .i64 (c : Int), .int .i64 (k : Int), .int .i64 (t : Int)] 22)) (.cells #[.int .i64 x, .int .i64 y] 43)
    rw [World.size_alloc] at h9
    rw [hwa]; exact h9
  have UA : Hid (Upd noBlock w wa) := by rw [hwa]; exact ((Upd.refl _ _).alloc _).alloc _
  have HA := Lib.hid hA
  have HA2 := Lib.hid hA2
  obtain ⟨A, hAe⟩ : ∃ A, A = w.heap.size := ⟨_, rfl⟩
  obtain ⟨A2, hAe2⟩ : ∃ A2, A2 = w.heap.size + 1 := ⟨_, rfl⟩
  rw [← hAe] at HA
  rw [← hAe2] at HA2
  obtain ⟨z0, z1, z2, z3, z4⟩ := geo_cells HA.out
  clear hA hA2
  go_enter Tryz.func4, Tryz.ntmps4
  go_upto_region 1 with fail
  rw [← hwa, ← hAe2, ← hAe]
  clear hwa hAe hAe2
  go_upto_region 4 with (first
    | (go_at_call 10; (with_reducible refine (HSP.out _ UA.out).mono ?_); rintro e w1 ⟨rfl, hu1⟩; have U1 : Hid (Upd noBlock wa w1) := hu1; obtain ⟨z0, z1, z2, z3, z4⟩ := geo_cells ((hu1.block A (lt_of_block HA.out) id).trans HA.out); clear hu1)
    | (go_at_call 11; (with_reducible refine (HGE.out _).mono ?_); rintro e w2 ⟨rfl, hu2⟩; have U2 : Hid (Upd noBlock wa w2) := U1.out.trans hu2; clear hu2))
  clear z0 z1 z2 z3 z4
  obtain ⟨wb, hwb⟩ : ∃ wb, wb = (w2.alloc (.cells #[.int .i64 b, .int .i64 p, .int .i64 (c : Int), .int .i64 (k : Int), .int .i64 (t : Int)] 25)).alloc (.cells #[.int .i64 b, .int .i64 p, .int .i64 (c : Int), .int .i64 (k : Int), .int .i64 (t : Int)] 26) := ⟨_, rfl⟩
  have hB0 : wb.heap[w2.heap.size]? = some (.cells #[.int .i64 b, .int .i64 p, .int .i64 (c : Int), .int .i64 (k : Int), .int .i64 (t : Int)] 25 (0, 0)) := by rw [hwb]; exact block_alloc (heap_alloc_new w2 _) _
  have hB1 : wb.heap[w2.heap.size + 1]? = some (.cells #[.int .i64 b, .int .i64 p, .int .i64 (c : Int), .int .i64 (k : Int), .int .i64 (t : Int)] 26 (0, 0)) := by
    have h9 := heap_alloc_new (w2.alloc (.cells #[.int .i64 b, .int .i64 p, .int .i64 (c : Int), .int .i64 (k : Int), .int .i64 (t : Int)] 25)) (.cells #[.int .i64 b, .int .i64 p, .int .i64 (c : Int), .int .i64 (k : Int), .int .i64 (t : Int)] 26)
    rw [World.size_alloc] at h9
    rw [hwb]; exact h9
  have hU : Upd noBlock wa wb := by rw [hwb]; exact (U2.out.alloc _).alloc _
  have hB2 : wb.heap[A]? = some (.cells #[.int .i64 b, .int .i64 p, .int .i64 (c : Int), .int .i64 (k : Int), .int .i64 (t : Int)] 22 (0, 0)) := (hU.block A (lt_of_block HA.out) id).trans HA.out
  have hB3 : wb.heap[A2]? = some (.cells #[.int .i64 x, .int .i64 y] 43 (0, 0)) := (hU.block A2 (lt_of_block HA2.out) id).trans HA2.out
  have UB : Hid (Upd noBlock w wb) := UA.out.trans hU
  rw [← hwb]
  generalize w2.heap.size + 1 = g1 at *
  generalize w2.heap.size = g0 at *
  have HGC : Hid (∀ W, Upd noBlock wb W → (W.cell? ⟨g0, 0, none⟩ = some (.int .i64 b) ∧ W.cell? ⟨g0, 1, none⟩ = some (.int .i64 p) ∧ W.cell? ⟨g0, 2, none⟩ = some (.int .i64 (c : Int)) ∧ W.cell? ⟨g0, 3, none⟩ = some (.int .i64 (k : Int)) ∧ W.cell? ⟨g0, 4, none⟩ = some (.int .i64 (t : Int))) ∧ (W.cell? ⟨g1, 0, none⟩ = some (.int .i64 b) ∧ W.cell? ⟨g1, 1, none⟩ = some (.int .i64 p) ∧ W.cell? ⟨g1, 2, none⟩ = some (.int .i64 (c : Int)) ∧ W.cell? ⟨g1, 3, none⟩ = some (.int .i64 (k : Int)) ∧ W.cell? ⟨g1, 4, none⟩ = some (.int .i64 (t : Int))) ∧ W.cell? ⟨A, 0, none⟩ = some (.int .i64 b) ∧ W.cell? ⟨A, 1, none⟩ = some (.int .i64 p) ∧ W.cell? ⟨A2, 0, none⟩ = some (.int .i64 x) ∧ W.cell? ⟨A2, 1, none⟩ = some (.int .i64 y)) := fun W hW => by
    have h0 := (hW.block _ (lt_of_block hB0) id).trans hB0
    have h1 := (hW.block _ (lt_of_block hB1) id).trans hB1
    have h2 := (hW.block _ (lt_of_block hB2) id).trans hB2
    have h3 := (hW.block _ (lt_of_block hB3) id).trans hB3
    exact ⟨geo_cells h0, geo_cells h1, cell_of h2 0, cell_of h2 1, cell_of h3 0, cell_of h3 1⟩
  obtain ⟨⟨z0, z1, z2, z3, z4⟩, ⟨r0, r1, r2, r3, r4⟩, q0, q1, s0, s1⟩ := HGC.out _ (Upd.refl _ _)
  clear hB0 hB1 hB2 hB3 hU hwb U1 U2 HA HA2 UA HSP HGE
  go_wp2_with (first
    | (go_at_call 14; (with_reducible refine (HCH.out _).mono ?_); rintro e w5 ⟨ch, bb, pb, rfl, hc, hu, hl⟩; have C5 := Lib.hid hc; have L5 : Hid (∀ i, Own ch bb pb nb i → wb.heap.size ≤ i) := hl; have V5 : Hid (Upd noBlock wb w5) := hu; obtain ⟨⟨z0, z1, z2, z3, z4⟩, ⟨r0, r1, r2, r3, r4⟩, q0, q1, s0, s1⟩ := HGC.out _ hu; clear hc hu hl)
    | (go_at_call 15; (with_reducible refine (HNW.out ch _).mono ?_); rintro e w6 ⟨q, cc, rfl, hp, hcd, hq, hcc, hu⟩; have N6 : Hid (PN wb q b p c k t ch bb pb (newCh nb np m) cc w6) := ⟨⟨hp, C5.out.grow hu, hcd⟩, V5.out.trans hu, fun i hi => hi.elim (fun h => L5.out i h) (fun h => by rw [h]; exact Nat.le_trans V5.out.size hcc)⟩; obtain ⟨⟨z0, z1, z2, z3, z4⟩, ⟨r0, r1, r2, r3, r4⟩, q0, q1, s0, s1⟩ := HGC.out _ N6.out.u; clear hp hcd hq hcc hu)
    | (go_at_call 13; (with_reducible refine (HSZ.out _).mono ?_); rintro e w7 ⟨rfl, hu⟩; have N7 := Lib.hid (N6.out.quiet hu); obtain ⟨⟨z0, z1, z2, z3, z4⟩, ⟨r0, r1, r2, r3, r4⟩, q0, q1, s0, s1⟩ := HGC.out _ N7.out.u; clear hu)
    | (go_at_call 18; (with_reducible refine (HW1.out _ q ch bb pb cc _ UB.out N7.out).mono ?_); rintro e w8 ⟨rfl, hp⟩; have N8 := Lib.hid hp; obtain ⟨⟨z0, z1, z2, z3, z4⟩, ⟨r0, r1, r2, r3, r4⟩, q0, q1, s0, s1⟩ := HGC.out _ N8.out.u; clear hp))
  go_ret
  exact ⟨rfl, UB.out.trans N8.out.u⟩
set_option maxRecDepth 100000 in
set_option maxHeartbeats 6400000 in
theorem pageWrites_o4 (b p : Int) (c k t : Nat) (x y : Int) (s : ByteArray) (w : World) (hT : Tab w) (h : GoodG b p c k t) (hs : s.size ≤ 140737488351232) (hl : s.size ≤ c * k - 7) (hx : 0 ≤ x) (hx2 : x < b) (hy : 0 ≤ y) (hy2 : p ≤ y) :
    Calls Tryz.prog 4 #[geoV b p (c : Int) (k : Int) (t : Int), .agg #[.int .i64 x, .int .i64 y], .string s] w fun e w' => e = .returned (.bool true) ∧ Upd noBlock w w' := by
  have hnot : ∀ (x : Bool) (w : World), (Op.unary .not (.bool x)).run Tryz.prog w = .ok (.bool (!x)) w := fun _ _ => rfl
  have HSP : Hid (∀ W, Upd noBlock w W → Calls Tryz.prog 10 #[] W fun e w' => e = .returned (.bool true) ∧ Upd noBlock W w') := fun W hW => speaks6_any W (hT.upd hW)
  have HTW := Lib.hid (fun W (hW : Upd noBlock w W) => hT.upd hW)
  have HGE := Lib.hid (fun W => geometry6 b p (c : Int) (k : Int) (t : Int) W)
  have hrp := rawN_pos h
  have HSZ := Lib.hid (fun W => sizes_good b p c k t W h)
  have HCH := Lib.hid (fun W => chip_good b p c k t W h)
  have HNW := Lib.hid (fun ch W => pnew_good b p c k t ch W h)
  have HG := Lib.hid h
  obtain ⟨m1, m2, hck⟩ : 16 ≤ c * k ∧ c * k ≤ 1024 ∧ (c : Int) * (k : Int) - 7 = ((c * k - 7 : Nat) : Int) := by
    have c1 := h.c1; have c2 := h.c2; have k1 := h.k1; have k2 := h.k2
    have m1 : 16 ≤ c * k := by have := Nat.mul_le_mul (show 1 ≤ c by omega) (show 16 ≤ k by omega); omega
    exact ⟨m1, Nat.mul_le_mul (show c ≤ 4 by omega) (show k ≤ 256 by omega), toInt_mul c k (by omega)⟩
  obtain ⟨b1, b2, p1, p2, p4, _⟩ := h
  obtain ⟨nb, hnb⟩ : ∃ nb, b.toNat = nb := ⟨_, rfl⟩
  obtain ⟨np, hnp⟩ : ∃ np, p.toNat = np := ⟨_, rfl⟩
  rw [hnb, hnp] at HCH
  have hbn : b = (nb : Int) := by omega
  have hpn : p = (np : Int) := by omega
  rw [hck] at HSZ
  have HW1 : Hid (∀ wx q ch bb pb cc W, Upd noBlock w wx → PN wx q b p c k t ch bb pb (newCh nb np (rawN t k c)) cc W → Calls Tryz.prog 18 #[.pointer (some ⟨q, 0, none⟩), .int .i64 x, .int .i64 y, .string s] W fun e w' => e = .returned (.int .i64 1) ∧ PN wx q b p c k t ch bb pb (newCh nb np (rawN t k c)) cc w') := fun wx q ch bb pb cc W hwx hW => 
    (write_gen q b p c k t ch bb pb (newCh nb np (rawN t k c)) (newCh nb np (rawN t k c)) cc x y 1 s W HG.out hW.i ((HTW.out _ hwx).upd hW.u) hl (fun W' hc => (program_out_pI ch bb pb (newCh nb np (rawN t k c)) x y _ W' hc hx (by show x < (nb : Int); omega) (.inr (by show (np : Int) ≤ y; omega))).mono fun e w' ⟨he, h1⟩ => ⟨he, by rw [← h1]; exact hc, by rw [← h1]; exact Upd.refl _ _⟩)).mono fun e w' ⟨he, hi, hu⟩ => ⟨he, hW.upd hi hu rfl⟩
  have d1 : decide (c * k - 7 < s.size) = false := decide_eq_false (by omega)
  have d2 : decide (((c * k - 7 : Nat) : Int) < (s.size : Int)) = false := decide_eq_false (by omega)
  obtain ⟨m, hm⟩ : ∃ m, rawN t k c = m := ⟨_, rfl⟩
  obtain ⟨m', hm'⟩ : ∃ m', c * (k + (13 * t + 7) / 8) = m' := ⟨_, rfl⟩
  simp only [hm] at *
  simp only [hm'] at HSZ
  obtain ⟨n, hn⟩ : ∃ n, c * k - 7 = n := ⟨_, rfl⟩
  simp only [hn] at *
  clear HTW HG
  clear hm hm' hn hck hnb hnp hbn hpn p4 hT hrp m1 m2
  unfold geoV NewC at *
  obtain ⟨wa, hwa⟩ : ∃ wa, wa = (w.alloc (.cells #[.int .i64 b, .int .i64 p, .int .i64 (c : Int), .int .i64 (k : Int), .int .i64 (t : Int)] 22)).alloc (.cells #[.int .i64 x, .int .i64 y] 43) := ⟨_, rfl⟩
  have hA : wa.heap[w.heap.size]? = some (.cells #[.int .i64 b, .int .i64 p, .int .i64 (c : Int), .int .i64 (k : Int), .int .i64 (t : Int)] 22 (0, 0)) := by rw [hwa]; exact block_alloc (heap_alloc_new w _) _
  have hA2 : wa.heap[w.heap.size + 1]? = some (.cells #[.int .i64 x, .int .i64 y] 43 (0, 0)) := by
    have h9 := heap_alloc_new (w.alloc (.cells #[.int .i64 b, .int .i64 p, .int .i64 (c : Int), .int .i64 (k : Int), .int .i64 (t : Int)] 22)) (.cells #[.int .i64 x, .int .i64 y] 43)
    rw [World.size_alloc] at h9
    rw [hwa]; exact h9
  have UA : Hid (Upd noBlock w wa) := by rw [hwa]; exact ((Upd.refl _ _).alloc _).alloc _
  have HA := Lib.hid hA
  have HA2 := Lib.hid hA2
  obtain ⟨A, hAe⟩ : ∃ A, A = w.heap.size := ⟨_, rfl⟩
  obtain ⟨A2, hAe2⟩ : ∃ A2, A2 = w.heap.size + 1 := ⟨_, rfl⟩
  rw [← hAe] at HA
  rw [← hAe2] at HA2
  obtain ⟨z0, z1, z2, z3, z4⟩ := geo_cells HA.out
  clear hA hA2
  go_enter Tryz.func4, Tryz.ntmps4
  go_upto_region 1 with fail
  rw [← hwa, ← hAe2, ← hAe]
  clear hwa hAe hAe2
  go_upto_region 4 with (first
    | (go_at_call 10; (with_reducible refine (HSP.out _ UA.out).mono ?_); rintro e w1 ⟨rfl, hu1⟩; have U1 : Hid (Upd noBlock wa w1) := hu1; obtain ⟨z0, z1, z2, z3, z4⟩ := geo_cells ((hu1.block A (lt_of_block HA.out) id).trans HA.out); clear hu1)
    | (go_at_call 11; (with_reducible refine (HGE.out _).mono ?_); rintro e w2 ⟨rfl, hu2⟩; have U2 : Hid (Upd noBlock wa w2) := U1.out.trans hu2; clear hu2))
  clear z0 z1 z2 z3 z4
  obtain ⟨wb, hwb⟩ : ∃ wb, wb = (w2.alloc (.cells #[.int .i64 b, .int .i64 p, .int .i64 (c : Int), .int .i64 (k : Int), .int .i64 (t : Int)] 25)).alloc (.cells #[.int .i64 b, .int .i64 p, .int .i64 (c : Int), .int .i64 (k : Int), .int .i64 (t : Int)] 26) := ⟨_, rfl⟩
  have hB0 : wb.heap[w2.heap.size]? = some (.cells #[.int .i64 b, .int .i64 p, .int .i64 (c : Int), .int .i64 (k : Int), .int .i64 (t : Int)] 25 (0, 0)) := by rw [hwb]; exact block_alloc (heap_alloc_new w2 _) _
  have hB1 : wb.heap[w2.heap.size + 1]? = some (.cells #[.int .i64 b, .int .i64 p, .int .i64 (c : Int), .int .i64 (k : Int), .int .i64 (t : Int)] 26 (0, 0)) := by
    have h9 := heap_alloc_new (w2.alloc (.cells #[.int .i64 b, .int .i64 p, .int .i64 (c : Int), .int .i64 (k : Int), .int .i64 (t : Int)] 25)) (.cells #[.int .i64 b, .int .i64 p, .int .i64 (c : Int), .int .i64 (k : Int), .int .i64 (t : Int)] 26)
    rw [World.size_alloc] at h9
    rw [hwb]; exact h9
  have hU : Upd noBlock wa wb := by rw [hwb]; exact (U2.out.alloc _).alloc _
  have hB2 : wb.heap[A]? = some (.cells #[.int .i64 b, .int .i64 p, .int .i64 (c : Int), .int .i64 (k : Int), .int .i64 (t : Int)] 22 (0, 0)) := (hU.block A (lt_of_block HA.out) id).trans HA.out
  have hB3 : wb.heap[A2]? = some (.cells #[.int .i64 x, .int .i64 y] 43 (0, 0)) := (hU.block A2 (lt_of_block HA2.out) id).trans HA2.out
  have UB : Hid (Upd noBlock w wb) := UA.out.trans hU
  rw [← hwb]
  generalize w2.heap.size + 1 = g1 at *
  generalize w2.heap.size = g0 at *
  have HGC : Hid (∀ W, Upd noBlock wb W → (W.cell? ⟨g0, 0, none⟩ = some (.int .i64 b) ∧ W.cell? ⟨g0, 1, none⟩ = some (.int .i64 p) ∧ W.cell? ⟨g0, 2, none⟩ = some (.int .i64 (c : Int)) ∧ W.cell? ⟨g0, 3, none⟩ = some (.int .i64 (k : Int)) ∧ W.cell? ⟨g0, 4, none⟩ = some (.int .i64 (t : Int))) ∧ (W.cell? ⟨g1, 0, none⟩ = some (.int .i64 b) ∧ W.cell? ⟨g1, 1, none⟩ = some (.int .i64 p) ∧ W.cell? ⟨g1, 2, none⟩ = some (.int .i64 (c : Int)) ∧ W.cell? ⟨g1, 3, none⟩ = some (.int .i64 (k : Int)) ∧ W.cell? ⟨g1, 4, none⟩ = some (.int .i64 (t : Int))) ∧ W.cell? ⟨A, 0, none⟩ = some (.int .i64 b) ∧ W.cell? ⟨A, 1, none⟩ = some (.int .i64 p) ∧ W.cell? ⟨A2, 0, none⟩ = some (.int .i64 x) ∧ W.cell? ⟨A2, 1, none⟩ = some (.int .i64 y)) := fun W hW => by
    have h0 := (hW.block _ (lt_of_block hB0) id).trans hB0
    have h1 := (hW.block _ (lt_of_block hB1) id).trans hB1
    have h2 := (hW.block _ (lt_of_block hB2) id).trans hB2
    have h3 := (hW.block _ (lt_of_block hB3) id).trans hB3
    exact ⟨geo_cells h0, geo_cells h1, cell_of h2 0, cell_of h2 1, cell_of h3 0, cell_of h3 1⟩
  obtain ⟨⟨z0, z1, z2, z3, z4⟩, ⟨r0, r1, r2, r3, r4⟩, q0, q1, s0, s1⟩ := HGC.out _ (Upd.refl _ _)
  clear hB0 hB1 hB2 hB3 hU hwb U1 U2 HA HA2 UA HSP HGE
  go_wp2_with (first
    | (go_at_call 14; (with_reducible refine (HCH.out _).mono ?_); rintro e w5 ⟨ch, bb, pb, rfl, hc, hu, hl⟩; have C5 := Lib.hid hc; have L5 : Hid (∀ i, Own ch bb pb nb i → wb.heap.size ≤ i) := hl; have V5 : Hid (Upd noBlock wb w5) := hu; obtain ⟨⟨z0, z1, z2, z3, z4⟩, ⟨r0, r1, r2, r3, r4⟩, q0, q1, s0, s1⟩ := HGC.out _ hu; clear hc hu hl)
    | (go_at_call 15; (with_reducible refine (HNW.out ch _).mono ?_); rintro e w6 ⟨q, cc, rfl, hp, hcd, hq, hcc, hu⟩; have N6 : Hid (PN wb q b p c k t ch bb pb (newCh nb np m) cc w6) := ⟨⟨hp, C5.out.grow hu, hcd⟩, V5.out.trans hu, fun i hi => hi.elim (fun h => L5.out i h) (fun h => by rw [h]; exact Nat.le_trans V5.out.size hcc)⟩; obtain ⟨⟨z0, z1, z2, z3, z4⟩, ⟨r0, r1, r2, r3, r4⟩, q0, q1, s0, s1⟩ := HGC.out _ N6.out.u; clear hp hcd hq hcc hu)
    | (go_at_call 13; (with_reducible refine (HSZ.out _).mono ?_); rintro e w7 ⟨rfl, hu⟩; have N7 := Lib.hid (N6.out.quiet hu); obtain ⟨⟨z0, z1, z2, z3, z4⟩, ⟨r0, r1, r2, r3, r4⟩, q0, q1, s0, s1⟩ := HGC.out _ N7.out.u; clear hu)
    | (go_at_call 18; (with_reducible refine (HW1.out _ q ch bb pb cc _ UB.out N7.out).mono ?_); rintro e w8 ⟨rfl, hp⟩; have N8 := Lib.hid hp; obtain ⟨⟨z0, z1, z2, z3, z4⟩, ⟨r0, r1, r2, r3, r4⟩, q0, q1, s0, s1⟩ := HGC.out _ N8.out.u; clear hp))
  go_ret
  exact ⟨rfl, UB.out.trans N8.out.u⟩
set_option maxRecDepth 100000 in
set_option maxHeartbeats 6400000 in
theorem pageWrites_in (b p : Int) (c k t i j : Nat) (x y : Int) (s : ByteArray) (w : World) (hT : Tab w) (h : GoodG b p c k t) (hs : s.size ≤ 140737488351232) (hl : s.size ≤ c * k - 7) (hxi : x = (i : Int)) (hyj : y = (j : Int)) (hx : 0 ≤ x) (hx2 : x < b) (hy : 0 ≤ y) (hy2 : y < p) :
    Calls Tryz.prog 4 #[geoV b p (c : Int) (k : Int) (t : Int), .agg #[.int .i64 x, .int .i64 y], .string s] w fun e w' => e = .returned (.bool true) ∧ Upd noBlock w w' := by
  have hnot : ∀ (x : Bool) (w : World), (Op.unary .not (.bool x)).run Tryz.prog w = .ok (.bool (!x)) w := fun _ _ => rfl
  have HSP : Hid (∀ W, Upd noBlock w W → Calls Tryz.prog 10 #[] W fun e w' => e = .returned (.bool true) ∧ Upd noBlock W w') := fun W hW => speaks6_any W (hT.upd hW)
  have HTW := Lib.hid (fun W (hW : Upd noBlock w W) => hT.upd hW)
  have HGE := Lib.hid (fun W => geometry6 b p (c : Int) (k : Int) (t : Int) W)
  have hrp := rawN_pos h
  have HSZ := Lib.hid (fun W => sizes_good b p c k t W h)
  have HCH := Lib.hid (fun W => chip_good b p c k t W h)
  have HNW := Lib.hid (fun ch W => pnew_good b p c k t ch W h)
  have HG := Lib.hid h
  obtain ⟨m1, m2, hck⟩ : 16 ≤ c * k ∧ c * k ≤ 1024 ∧ (c : Int) * (k : Int) - 7 = ((c * k - 7 : Nat) : Int) := by
    have c1 := h.c1; have c2 := h.c2; have k1 := h.k1; have k2 := h.k2
    have m1 : 16 ≤ c * k := by have := Nat.mul_le_mul (show 1 ≤ c by omega) (show 16 ≤ k by omega); omega
    exact ⟨m1, Nat.mul_le_mul (show c ≤ 4 by omega) (show k ≤ 256 by omega), toInt_mul c k (by omega)⟩
  obtain ⟨b1, b2, p1, p2, p4, _⟩ := h
  obtain ⟨nb, hnb⟩ : ∃ nb, b.toNat = nb := ⟨_, rfl⟩
  obtain ⟨np, hnp⟩ : ∃ np, p.toNat = np := ⟨_, rfl⟩
  rw [hnb, hnp] at HCH
  have hbn : b = (nb : Int) := by omega
  have hpn : p = (np : Int) := by omega
  rw [hck] at HSZ
  have HPGE := Lib.hid (fun W => refPage_any b p c k t s W HG.out hl)
  have hpz := pageL_size HG.out s.data.toList hl
  obtain ⟨pl, hpl⟩ : ∃ pl, pageL t k c s.data.toList = pl := ⟨_, rfl⟩
  obtain ⟨s1, s2, s3, s4, s5⟩ := m1_shape nb np (rawN t k c) i j pl
  have hi : i < nb := by omega
  have hj : j < np := by omega
  have HW1 : Hid (∀ wx q ch bb pb cc W, Upd noBlock w wx → PN wx q b p c k t ch bb pb (newCh nb np (rawN t k c)) cc W → Calls Tryz.prog 18 #[.pointer (some ⟨q, 0, none⟩), .int .i64 x, .int .i64 y, .string s] W fun e w' => e = .returned (.int .i64 0) ∧ PN wx q b p c k t ch bb pb (m1C nb np (rawN t k c) i j pl) cc w') := fun wx q ch bb pb cc W hwx hW => by
    have h9 := write_in q b p c k t ch bb pb (newCh nb np (rawN t k c)) cc x y i j 0 hxi hyj s W HG.out hW.i ((HTW.out _ hwx).upd hW.u) hl (newCh_fit nb np _) (by decide) hi hj rfl
    rw [m1_e, hpl] at h9
    exact h9.mono fun e w' ⟨he, hi, hu⟩ => ⟨he, hW.upd hi hu s1⟩
  have HRD : Hid (∀ wx q ch bb pb cc W, PN wx q b p c k t ch bb pb (m1C nb np (rawN t k c) i j pl) cc W → Calls Tryz.prog 17 #[.pointer (some ⟨ch, 0, none⟩), .int .i64 x, .int .i64 y] W fun e w' => e = .returned (.tuple #[.string ⟨pl.toArray⟩, .int .i64 0]) ∧ PN wx q b p c k t ch bb pb ((m1C nb np (rawN t k c) i j pl).readM i) cc w') := fun wx q ch bb pb cc W hW =>
    (read_in ch bb pb (m1C nb np (rawN t k c) i j pl) x y i j 1 hxi hyj ⟨pl.toArray⟩ (by rw [m1_pg]; rfl) W hW.i.chip (m1_fit nb np _ i j pl) (by decide) (by rw [s1]; exact hi) (by rw [s2]; exact hj) (by rw [s3]; omega) s4 (.inl s5) (by rw [m1_pg]; show 1 ≤ 2; omega)).mono fun e w' ⟨he, hc, hu⟩ => ⟨he, hW.upd (hW.i.chipped hu hc) (POwn.chip hu) rfl⟩
  have HW2 : Hid (∀ wx q ch bb pb cc W, Upd noBlock w wx → PN wx q b p c k t ch bb pb ((m1C nb np (rawN t k c) i j pl).readM i) cc W → Calls Tryz.prog 18 #[.pointer (some ⟨q, 0, none⟩), .int .i64 x, .int .i64 y, .string s] W fun e w' => e = .returned (.int .i64 21) ∧ Upd noBlock wx w') := fun wx q ch bb pb cc W hwx hW => by
    have h9 := write_in q b p c k t ch bb pb ((m1C nb np (rawN t k c) i j pl).readM i) cc x y i j 2 hxi hyj s W HG.out hW.i ((HTW.out _ hwx).upd hW.u) hl ((m1_fit nb np _ i j pl).read i) (by decide) (by show i < (m1C nb np (rawN t k c) i j pl).nb; rw [s1]; exact hi) (by show j < (m1C nb np (rawN t k c) i j pl).np; rw [s2]; exact hj) s3
    rw [m1_again nb np _ i j pl hj] at h9
    exact h9.mono fun e w' ⟨he, hi, hu⟩ => ⟨he, (hW.upd hi hu (progM_nb _ _ _ _)).u⟩
  rw [hpl] at HPGE hpz
  obtain ⟨ps, hps⟩ : ∃ ps : ByteArray, ⟨pl.toArray⟩ = ps := ⟨_, rfl⟩
  rw [hps] at HPGE HRD
  have es : (ps.toList == ps.toList) = true := beq_self_eq_true _
  clear hpl hpz hps hxi hyj
  have d1 : decide (c * k - 7 < s.size) = false := decide_eq_false (by omega)
  have d2 : decide (((c * k - 7 : Nat) : Int) < (s.size : Int)) = false := decide_eq_false (by omega)
  obtain ⟨m, hm⟩ : ∃ m, rawN t k c = m := ⟨_, rfl⟩
  obtain ⟨m', hm'⟩ : ∃ m', c * (k + (13 * t + 7) / 8) = m' := ⟨_, rfl⟩
  simp only [hm] at *
  simp only [hm'] at HSZ
  obtain ⟨n, hn⟩ : ∃ n, c * k - 7 = n := ⟨_, rfl⟩
  simp only [hn] at *
  clear HTW HG
  generalize m1C nb np m i j pl = M1 at *
  clear hm hm' hn hck hnb hnp hbn hpn p4 hT hrp m1 m2
  unfold geoV NewC at *
  obtain ⟨wa, hwa⟩ : ∃ wa, wa = (w.alloc (.cells #[.int .i64 b, .int .i64 p, .int .i64 (c : Int), .int .i64 (k : Int), .int .i64 (t : Int)] 22)).alloc (.cells #[.int .i64 x, .int .i64 y] 43) := ⟨_, rfl⟩
  have hA : wa.heap[w.heap.size]? = some (.cells #[.int .i64 b, .int .i64 p, .int .i64 (c : Int), .int .i64 (k : Int), .int .i64 (t : Int)] 22 (0, 0)) := by rw [hwa]; exact block_alloc (heap_alloc_new w _) _
  have hA2 : wa.heap[w.heap.size + 1]? = some (.cells #[.int .i64 x, .int .i64 y] 43 (0, 0)) := by
    have h9 := heap_alloc_new (w.alloc (.cells #[.int .i64 b, .int .i64 p, .int .i64 (c : Int), .int .i64 (k : Int), .int .i64 (t : Int)] 22)) (.cells #[.int .i64 x, .int .i64 y] 43)
    rw [World.size_alloc] at h9
    rw [hwa]; exact h9
  have UA : Hid (Upd noBlock w wa) := by rw [hwa]; exact ((Upd.refl _ _).alloc _).alloc _
  have HA := Lib.hid hA
  have HA2 := Lib.hid hA2
  obtain ⟨A, hAe⟩ : ∃ A, A = w.heap.size := ⟨_, rfl⟩
  obtain ⟨A2, hAe2⟩ : ∃ A2, A2 = w.heap.size + 1 := ⟨_, rfl⟩
  rw [← hAe] at HA
  rw [← hAe2] at HA2
  obtain ⟨z0, z1, z2, z3, z4⟩ := geo_cells HA.out
  clear hA hA2
  go_enter Tryz.func4, Tryz.ntmps4
  go_upto_region 1 with fail
  rw [← hwa, ← hAe2, ← hAe]
  clear hwa hAe hAe2
  go_upto_region 4 with (first
    | (go_at_call 10; (with_reducible refine (HSP.out _ UA.out).mono ?_); rintro e w1 ⟨rfl, hu1⟩; have U1 : Hid (Upd noBlock wa w1) := hu1; obtain ⟨z0, z1, z2, z3, z4⟩ := geo_cells ((hu1.block A (lt_of_block HA.out) id).trans HA.out); clear hu1)
    | (go_at_call 11; (with_reducible refine (HGE.out _).mono ?_); rintro e w2 ⟨rfl, hu2⟩; have U2 : Hid (Upd noBlock wa w2) := U1.out.trans hu2; clear hu2))
  clear z0 z1 z2 z3 z4
  obtain ⟨wb, hwb⟩ : ∃ wb, wb = (w2.alloc (.cells #[.int .i64 b, .int .i64 p, .int .i64 (c : Int), .int .i64 (k : Int), .int .i64 (t : Int)] 25)).alloc (.cells #[.int .i64 b, .int .i64 p, .int .i64 (c : Int), .int .i64 (k : Int), .int .i64 (t : Int)] 26) := ⟨_, rfl⟩
  have hB0 : wb.heap[w2.heap.size]? = some (.cells #[.int .i64 b, .int .i64 p, .int .i64 (c : Int), .int .i64 (k : Int), .int .i64 (t : Int)] 25 (0, 0)) := by rw [hwb]; exact block_alloc (heap_alloc_new w2 _) _
  have hB1 : wb.heap[w2.heap.size + 1]? = some (.cells #[.int .i64 b, .int .i64 p, .int .i64 (c : Int), .int .i64 (k : Int), .int .i64 (t : Int)] 26 (0, 0)) := by
    have h9 := heap_alloc_new (w2.alloc (.cells #[.int .i64 b, .int .i64 p, .int .i64 (c : Int), .int .i64 (k : Int), .int .i64 (t : Int)] 25)) (.cells #[.int .i64 b, .int .i64 p, .int .i64 (c : Int), .int .i64 (k : Int), .int .i64 (t : Int)] 26)
    rw [World.size_alloc] at h9
    rw [hwb]; exact h9
  have hU : Upd noBlock wa wb := by rw [hwb]; exact (U2.out.alloc _).alloc _
  have hB2 : wb.heap[A]? = some (.cells #[.int .i64 b, .int .i64 p, .int .i64 (c : Int), .int .i64 (k : Int), .int .i64 (t : Int)] 22 (0, 0)) := (hU.block A (lt_of_block HA.out) id).trans HA.out
  have hB3 : wb.heap[A2]? = some (.cells #[.int .i64 x, .int .i64 y] 43 (0, 0)) := (hU.block A2 (lt_of_block HA2.out) id).trans HA2.out
  have UB : Hid (Upd noBlock w wb) := UA.out.trans hU
  rw [← hwb]
  generalize w2.heap.size + 1 = g1 at *
  generalize w2.heap.size = g0 at *
  have HGC : Hid (∀ W, Upd noBlock wb W → (W.cell? ⟨g0, 0, none⟩ = some (.int .i64 b) ∧ W.cell? ⟨g0, 1, none⟩ = some (.int .i64 p) ∧ W.cell? ⟨g0, 2, none⟩ = some (.int .i64 (c : Int)) ∧ W.cell? ⟨g0, 3, none⟩ = some (.int .i64 (k : Int)) ∧ W.cell? ⟨g0, 4, none⟩ = some (.int .i64 (t : Int))) ∧ (W.cell? ⟨g1, 0, none⟩ = some (.int .i64 b) ∧ W.cell? ⟨g1, 1, none⟩ = some (.int .i64 p) ∧ W.cell? ⟨g1, 2, none⟩ = some (.int .i64 (c : Int)) ∧ W.cell? ⟨g1, 3, none⟩ = some (.int .i64 (k : Int)) ∧ W.cell? ⟨g1, 4, none⟩ = some (.int .i64 (t : Int))) ∧ W.cell? ⟨A, 0, none⟩ = some (.int .i64 b) ∧ W.cell? ⟨A, 1, none⟩ = some (.int .i64 p) ∧ W.cell? ⟨A2, 0, none⟩ = some (.int .i64 x) ∧ W.cell? ⟨A2, 1, none⟩ = some (.int .i64 y)) := fun W hW => by
    have h0 := (hW.block _ (lt_of_block hB0) id).trans hB0
    have h1 := (hW.block _ (lt_of_block hB1) id).trans hB1
    have h2 := (hW.block _ (lt_of_block hB2) id).trans hB2
    have h3 := (hW.block _ (lt_of_block hB3) id).trans hB3
    exact ⟨geo_cells h0, geo_cells h1, cell_of h2 0, cell_of h2 1, cell_of h3 0, cell_of h3 1⟩
  obtain ⟨⟨z0, z1, z2, z3, z4⟩, ⟨r0, r1, r2, r3, r4⟩, q0, q1, s0, s1⟩ := HGC.out _ (Upd.refl _ _)
  clear hB0 hB1 hB2 hB3 hU hwb U1 U2 HA HA2 UA HSP HGE
  go_wp2_with (first
    | (go_at_call 14; (with_reducible refine (HCH.out _).mono ?_); rintro e w5 ⟨ch, bb, pb, rfl, hc, hu, hl⟩; have C5 := Lib.hid hc; have L5 : Hid (∀ i, Own ch bb pb nb i → wb.heap.size ≤ i) := hl; have V5 : Hid (Upd noBlock wb w5) := hu; obtain ⟨⟨z0, z1, z2, z3, z4⟩, ⟨r0, r1, r2, r3, r4⟩, q0, q1, s0, s1⟩ := HGC.out _ hu; clear hc hu hl)
    | (go_at_call 15; (with_reducible refine (HNW.out ch _).mono ?_); rintro e w6 ⟨q, cc, rfl, hp, hcd, hq, hcc, hu⟩; have N6 : Hid (PN wb q b p c k t ch bb pb (newCh nb np m) cc w6) := ⟨⟨hp, C5.out.grow hu, hcd⟩, V5.out.trans hu, fun i hi => hi.elim (fun h => L5.out i h) (fun h => by rw [h]; exact Nat.le_trans V5.out.size hcc)⟩; obtain ⟨⟨z0, z1, z2, z3, z4⟩, ⟨r0, r1, r2, r3, r4⟩, q0, q1, s0, s1⟩ := HGC.out _ N6.out.u; clear hp hcd hq hcc hu)
    | (go_at_call 13; (with_reducible refine (HSZ.out _).mono ?_); rintro e w7 ⟨rfl, hu⟩; have N7 := Lib.hid (N6.out.quiet hu); obtain ⟨⟨z0, z1, z2, z3, z4⟩, ⟨r0, r1, r2, r3, r4⟩, q0, q1, s0, s1⟩ := HGC.out _ N7.out.u; clear hu)
    | (go_at_call 18; (with_reducible refine (HW1.out _ q ch bb pb cc _ UB.out N7.out).mono ?_); rintro e w8 ⟨rfl, hp⟩; have N8 := Lib.hid hp; obtain ⟨⟨z0, z1, z2, z3, z4⟩, ⟨r0, r1, r2, r3, r4⟩, q0, q1, s0, s1⟩ := HGC.out _ N8.out.u; clear hp)
    | (go_at_call 17; (with_reducible refine (HRD.out _ q ch bb pb cc _ N8.out).mono ?_); rintro e w9 ⟨rfl, hp⟩; have N9 := Lib.hid hp; obtain ⟨⟨z0, z1, z2, z3, z4⟩, ⟨r0, r1, r2, r3, r4⟩, q0, q1, s0, s1⟩ := HGC.out _ N9.out.u; clear hp)
    | (go_at_call 19; (with_reducible refine (HPGE.out _).mono ?_); rintro e w10 ⟨rfl, hu⟩; have N10 := Lib.hid (N9.out.quiet hu); obtain ⟨⟨z0, z1, z2, z3, z4⟩, ⟨r0, r1, r2, r3, r4⟩, q0, q1, s0, s1⟩ := HGC.out _ N10.out.u; clear hu)
    | (go_at_call 18; (with_reducible refine (HW2.out _ q ch bb pb cc _ UB.out N10.out).mono ?_); rintro e w11 ⟨rfl, hu⟩; have V11 := Lib.hid hu; clear hu))
  go_ret
  exact ⟨rfl, UB.out.trans V11.out⟩
theorem pageWrites_walk (b p c k t x y : Int) (s : ByteArray) (w : World) (_ : (Lit.int .i64 b).wf = true) (_ : (Lit.int .i64 p).wf = true) (_ : (Lit.int .i64 c).wf = true) (_ : (Lit.int .i64 k).wf = true) (_ : (Lit.int .i64 t).wf = true) (_ : (Lit.int .i64 x).wf = true) (_ : (Lit.int .i64 y).wf = true) (hs : s.size ≤ 140737488351232) (hT : Tab w) :
    Calls Tryz.prog 4 #[.agg #[.int .i64 b, .int .i64 p, .int .i64 c, .int .i64 k, .int .i64 t], .agg #[.int .i64 x, .int .i64 y], .string s] w fun e w' => e = .returned (.bool true) ∧ Below w.heap.size w w' := by
  have h : Calls Tryz.prog 4 #[geoV b p c k t, .agg #[.int .i64 x, .int .i64 y], .string s] w fun e w' => e = .returned (.bool true) ∧ Upd noBlock w w' := by
    by_cases hG : GoodG b p c k t
    · obtain ⟨c', rfl⟩ : ∃ n : Nat, c = (n : Int) := ⟨c.toNat, by have := hG.c1; omega⟩
      obtain ⟨k', rfl⟩ : ∃ n : Nat, k = (n : Int) := ⟨k.toNat, by have := hG.k1; omega⟩
      obtain ⟨t', rfl⟩ : ∃ n : Nat, t = (n : Int) := ⟨t.toNat, by have := hG.t1; omega⟩
      by_cases hl : c' * k' - 7 < s.size
      · exact pageWrites_long b p c' k' t' x y s w hT hG hs hl
      · have hl' : s.size ≤ c' * k' - 7 := by omega
        by_cases h1 : x < 0
        · exact pageWrites_o1 b p c' k' t' x y s w hT hG hs hl' h1
        · by_cases h2 : b ≤ x
          · exact pageWrites_o2 b p c' k' t' x y s w hT hG hs hl' (by omega) h2
          · by_cases h3 : y < 0
            · exact pageWrites_o3 b p c' k' t' x y s w hT hG hs hl' (by omega) (by omega) h3
            · by_cases h4 : p ≤ y
              · exact pageWrites_o4 b p c' k' t' x y s w hT hG hs hl' (by omega) (by omega) (by omega) h4
              · exact pageWrites_in b p c' k' t' x.toNat y.toNat x y s w hT hG hs hl' (by omega) (by omega) (by omega) (by omega) (by omega) (by omega)
    · exact pageWrites_bad b p c k t x y s w hT hG
  exact h.mono fun _ _ ⟨he, hu⟩ => ⟨he, hu.below (fun _ _ h => h)⟩
end Go.Proofs.YtnppjfaecnikpaaGreatDoor
