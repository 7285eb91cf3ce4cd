import Derived.Test.YtnppjfaecnikpaaGreatDoorQGFe
import Derived.Test.YtnppjfaecnikpaaGreatDoorQGCd
import Derived.Test.YtnppjfaecnikpaaGreatDoorQAr
import Derived.Test.YtnppjfaecnikpaaGreatDoorQGBy
import Derived.StillTailTactics
/- PageSizes. Made by tools/gen_pagesizes.py. -/
namespace Go.Proofs.YtnppjfaecnikpaaGreatDoor
open F
open Go.RowKit Pm Cm
set_option linter.unusedVariables false
attribute [local irreducible] openL decUp Lib.onesCount parT sealed

end Go.Proofs.YtnppjfaecnikpaaGreatDoor

/- PageWrites. Made by tools/gen_pagewrites.py. -/
namespace Go.Proofs.YtnppjfaecnikpaaGreatDoor
open F
open Go.RowKit Pm Cm
set_option linter.unusedVariables false
attribute [local irreducible] openL decUp Lib.onesCount parT sealed

theorem progM_nb (M : Ch) (i j : Nat) (l : List UInt8) : (M.progM i j l).nb = M.nb := by
  unfold Ch.progM
  split
  · rfl
  · split
    · rfl
    · split
      · split <;> rfl
      · rfl
end Go.Proofs.YtnppjfaecnikpaaGreatDoor

/- PageApart. Made by tools/gen_pageapart.py. -/
namespace Go.Proofs.YtnppjfaecnikpaaGreatDoor
open F
open Go.RowKit Pm Cm
set_option linter.unusedVariables false
attribute [local irreducible] openL decUp Lib.onesCount parT sealed

theorem readM_pg (M : Ch) (i j q : Nat) : ((M.readM i).bk j).pg q = (M.bk j).pg q := by
  unfold Ch.readM Ch.setBk
  dsimp only
  split
  · rename_i e; rw [e]
  · rfl
/-- two blocks written -/
def m2C (nb np sz : Nat) (l l' : List UInt8) : Ch := (m1C nb np sz 0 0 l).progM 1 0 l'
theorem m1_bk1 (nb np sz : Nat) (l : List UInt8) : (m1C nb np sz 0 0 l).bk 1 = newBk := by
  rw [m1_eq]; rfl
theorem m1_left (nb np sz : Nat) (l : List UInt8) : (m1C nb np sz 0 0 l).torn = false := by rw [m1_eq]; rfl
theorem m2_cond (nb np sz : Nat) (l : List UInt8) : (m1C nb np sz 0 0 l).off = false ∧ ((m1C nb np sz 0 0 l).bk 1).worn = false ∧ blankFrom ((m1C nb np sz 0 0 l).bk 1) (m1C nb np sz 0 0 l).np 0 = true ∧ (m1C nb np sz 0 0 l).torn = false :=
  ⟨(m1_shape nb np sz 0 0 l).2.2.2.1, by rw [m1_bk1]; rfl, by rw [m1_bk1]; exact blank_new _ 0, m1_left nb np sz l⟩
theorem m2_e (nb np sz : Nat) (l : List UInt8) : (m1C nb np sz 0 0 l).progE 1 0 = 0 := by
  obtain ⟨a1, a2, a3, a4⟩ := m2_cond nb np sz l
  unfold Ch.progE
  rw [a1, a2, a3, a4]
  rfl
theorem m2_eq (nb np sz : Nat) (l l' : List UInt8) : m2C nb np sz l l' = (m1C nb np sz 0 0 l).changed.setBk 1 (newBk.setPg 0 ⟨1, false, l'⟩) := by
  obtain ⟨a1, a2, a3, a4⟩ := m2_cond nb np sz l
  unfold m2C Ch.progM
  rw [a1, a2, a3, a4, m1_bk1]
  rfl
theorem m2_pg (nb np sz : Nat) (l l' : List UInt8) : ((m2C nb np sz l l').bk 0).pg 0 = ⟨1, false, l⟩ ∧ ((m2C nb np sz l l').bk 1).pg 0 = ⟨1, false, l'⟩ := by
  rw [m2_eq]
  exact ⟨m1_pg nb np sz 0 0 l, rfl⟩
theorem m2_shape (nb np sz : Nat) (l l' : List UInt8) : (m2C nb np sz l l').nb = nb ∧ (m2C nb np sz l l').np = np ∧ (m2C nb np sz l l').sz = sz ∧ (m2C nb np sz l l').off = false ∧ (m2C nb np sz l l').most < 1 := by
  rw [m2_eq, m1_eq]
  exact ⟨rfl, rfl, rfl, rfl, by show (0 : Int) < 1; omega⟩
theorem m2_fit (nb np sz : Nat) (l l' : List UInt8) : (m2C nb np sz l l').Fit 2 := (m1_fit nb np sz 0 0 l).prog 1 0 l'
/-- what stands in a block of Found stays through a pager's calls -/
def KF (W W' : World) : Prop := ∀ (i : Nat) (a : Array Value), W.heap[i]? = some (.cells a 51 (0, 0)) → W'.heap[i]? = some (.cells a 51 (0, 0))
theorem PgrIn.kf {w w' : World} {q : Nat} {b p : Int} {c k t : Nat} {ch bb : Nat} {pb : Nat → Nat} {M : Ch} {cc : Nat} (h : PgrIn w q b p c k t ch bb pb M cc) (hu : Upd (POwn ch bb pb M.nb cc) w w') : KF w w' := fun i a hg => by
  obtain ⟨x, hx⟩ := h.code.block
  refine (hu.block i (lt_of_block hg) (fun e => ?_)).trans hg
  rcases e with (e1 | e1 | ⟨b, hb, e1⟩) | e1
  · exact apart hg h.chip.top (by decide) e1
  · obtain ⟨z, hz⟩ := row_block h.chip.blks
    exact apart hg hz (by decide) e1
  · obtain ⟨z, hz⟩ := (h.chip.pgs b hb).block
    exact apart hg hz (by decide) e1
  · exact apart hg hx (by decide) e1
theorem pop_le8 (x : Nat) : pop x ≤ 8 := by unfold pop; omega
theorem unlike_le (f g : Nat → Nat) (a : Nat) : ∀ n, unlike f g a n ≤ 8 * n
  | 0 => Nat.le_refl _
  | n + 1 => by rw [unlike]; have := unlike_le f g a n; have := pop_le8 (f (a + n) ^^^ g (a + n)); omega
theorem bytes_beq (q q' : ByteArray) : (q.toList == q'.toList) = decide (q.data.toList = q'.data.toList) := by
  rw [Lib.toList_data, Lib.toList_data]
  by_cases h : q.data.toList = q'.data.toList
  · rw [decide_eq_true h]; exact beq_iff_eq.2 h
  · rw [decide_eq_false h]; exact beq_eq_false_iff_ne.2 h
set_option maxRecDepth 100000 in
set_option maxHeartbeats 3200000 in
theorem pageApart_bad (b p c k t : Int) (x y : ByteArray) (w : World) (hT : Tab w) (h : ¬ GoodG b p c k t) :
    Calls Tryz.prog 8 #[geoV b p c k t, .string x, .string y] w fun e w' => e = .returned (.bool true) ∧ Upd noBlock w w' := by
  have hnot : ∀ (x : Bool) (w : World), (Op.unary .not (.bool x)).run Tryz.prog w = .ok (.bool (!x)) w := fun _ _ => rfl
  have HSP : Hid (∀ W, Upd noBlock w W → Calls Tryz.prog 10 #[] W fun e w' => e = .returned (.bool true) ∧ Upd noBlock W w') := fun W hW => speaks6_any W (hT.upd hW)
  have HGE := Lib.hid (fun W => geometry6 b p c k t W)
  have HSZ := Lib.hid (fun W => sizes_bad b p c k t W h)
  clear hT h
  unfold geoV at *
  obtain ⟨wa, hwa⟩ : ∃ wa, wa = w.alloc (.cells #[.int .i64 b, .int .i64 p, .int .i64 c, .int .i64 k, .int .i64 t] 22) := ⟨_, rfl⟩
  have hA : wa.heap[w.heap.size]? = some (.cells #[.int .i64 b, .int .i64 p, .int .i64 c, .int .i64 k, .int .i64 t] 22 (0, 0)) := by rw [hwa]; exact heap_alloc_new w _
  have UA : Hid (Upd noBlock w wa) := by rw [hwa]; exact (Upd.refl _ _).alloc _
  have HA := Lib.hid hA
  obtain ⟨A, hAe⟩ : ∃ A, A = w.heap.size := ⟨_, rfl⟩
  obtain ⟨z0, z1, z2, z3, z4⟩ := geo_cells hA
  rw [← hAe] at HA z0 z1 z2 z3 z4
  clear hA
  go_enter Tryz.func8, Tryz.ntmps8
  go_upto_region 1 with fail
  rw [← hwa, ← hAe]
  clear hwa hAe
  go_upto_region 4 with (first
    | (go_at_call 10; (with_reducible refine (HSP.out _ UA.out).mono ?_); rintro e w1 ⟨rfl, hu1⟩; have U1 : Hid (Upd noBlock wa w1) := hu1; obtain ⟨z0, z1, z2, z3, z4⟩ := geo_cells ((hu1.block A (lt_of_block HA.out) id).trans HA.out); clear hu1)
    | (go_at_call 11; (with_reducible refine (HGE.out _).mono ?_); rintro e w2 ⟨rfl, hu2⟩; have U2 : Hid (Upd noBlock wa w2) := U1.out.trans hu2; clear hu2))
  clear z0 z1 z2 z3 z4
  obtain ⟨wb, hwb⟩ : ∃ wb, wb = (w2.alloc (.cells #[.int .i64 b, .int .i64 p, .int .i64 c, .int .i64 k, .int .i64 t] 25)).alloc (.cells #[.int .i64 b, .int .i64 p, .int .i64 c, .int .i64 k, .int .i64 t] 26) := ⟨_, rfl⟩
  have hB0 : wb.heap[w2.heap.size]? = some (.cells #[.int .i64 b, .int .i64 p, .int .i64 c, .int .i64 k, .int .i64 t] 25 (0, 0)) := by rw [hwb]; exact block_alloc (heap_alloc_new w2 _) _
  have hB1 : wb.heap[w2.heap.size + 1]? = some (.cells #[.int .i64 b, .int .i64 p, .int .i64 c, .int .i64 k, .int .i64 t] 26 (0, 0)) := by
    have h9 := heap_alloc_new (w2.alloc (.cells #[.int .i64 b, .int .i64 p, .int .i64 c, .int .i64 k, .int .i64 t] 25)) (.cells #[.int .i64 b, .int .i64 p, .int .i64 c, .int .i64 k, .int .i64 t] 26)
    rw [World.size_alloc] at h9
    rw [hwb]; exact h9
  have hU : Upd noBlock wa wb := by rw [hwb]; exact (U2.out.alloc _).alloc _
  have hB2 : wb.heap[A]? = some (.cells #[.int .i64 b, .int .i64 p, .int .i64 c, .int .i64 k, .int .i64 t] 22 (0, 0)) := (hU.block A (lt_of_block HA.out) id).trans HA.out
  have UB : Hid (Upd noBlock w wb) := UA.out.trans hU
  rw [← hwb]
  generalize w2.heap.size + 1 = g1 at *
  generalize w2.heap.size = g0 at *
  have HGC : Hid (∀ W, Upd noBlock wb W → (W.cell? ⟨g0, 0, none⟩ = some (.int .i64 b) ∧ W.cell? ⟨g0, 1, none⟩ = some (.int .i64 p) ∧ W.cell? ⟨g0, 2, none⟩ = some (.int .i64 c) ∧ W.cell? ⟨g0, 3, none⟩ = some (.int .i64 k) ∧ W.cell? ⟨g0, 4, none⟩ = some (.int .i64 t)) ∧ (W.cell? ⟨g1, 0, none⟩ = some (.int .i64 b) ∧ W.cell? ⟨g1, 1, none⟩ = some (.int .i64 p) ∧ W.cell? ⟨g1, 2, none⟩ = some (.int .i64 c) ∧ W.cell? ⟨g1, 3, none⟩ = some (.int .i64 k) ∧ W.cell? ⟨g1, 4, none⟩ = some (.int .i64 t)) ∧ W.cell? ⟨A, 0, none⟩ = some (.int .i64 b) ∧ W.cell? ⟨A, 4, none⟩ = some (.int .i64 t)) := fun W hW => by
    have h0 := (hW.block _ (lt_of_block hB0) id).trans hB0
    have h1 := (hW.block _ (lt_of_block hB1) id).trans hB1
    have h2 := (hW.block _ (lt_of_block hB2) id).trans hB2
    exact ⟨geo_cells h0, geo_cells h1, cell_of h2 0, cell_of h2 4⟩
  obtain ⟨⟨z0, z1, z2, z3, z4⟩, ⟨r0, r1, r2, r3, r4⟩, q0, q1⟩ := HGC.out _ (Upd.refl _ _)
  clear hB0 hB1 hB2 hU hwb U1 U2 HA UA HSP HGE
  go_wp2_with (first
    | (go_at_call 13; (with_reducible refine (HSZ.out _).mono ?_); rintro e w3 ⟨rfl, hu⟩; have V3 : Hid (Upd noBlock wb w3) := hu; obtain ⟨⟨z0, z1, z2, z3, z4⟩, ⟨r0, r1, r2, r3, r4⟩, q0, q1⟩ := HGC.out _ hu; clear hu))
  go_ret
  exact ⟨rfl, UB.out.trans V3.out⟩
set_option maxRecDepth 100000 in
set_option maxHeartbeats 3200000 in
theorem pageApart_lx (b p : Int) (c k t : Nat) (x y : ByteArray) (w : World) (hT : Tab w) (h : GoodG b p c k t) (hx : x.size ≤ 140737488351232) (hy : y.size ≤ 140737488351232) (hl : c * k - 7 < x.size) :
    Calls Tryz.prog 8 #[geoV b p (c : Int) (k : Int) (t : Int), .string x, .string y] w fun e w' => e = .returned (.bool true) ∧ Upd noBlock w w' := by
  have hnot : ∀ (x : Bool) (w : World), (Op.unary .not (.bool x)).run Tryz.prog w = .ok (.bool (!x)) w := fun _ _ => rfl
  have HSP : Hid (∀ W, Upd noBlock w W → Calls Tryz.prog 10 #[] W fun e w' => e = .returned (.bool true) ∧ Upd noBlock W w') := fun W hW => speaks6_any W (hT.upd hW)
  have HTW := Lib.hid (fun W (hW : Upd noBlock w W) => hT.upd hW)
  have HGE := Lib.hid (fun W => geometry6 b p (c : Int) (k : Int) (t : Int) W)
  have hrp := rawN_pos h
  have HSZ := Lib.hid (fun W => sizes_good b p c k t W h)
  have hrn : c * (k + (13 * t + 7) / 8) = rawN t k c := rfl
  simp only [hrn] at HSZ
  clear hrn
  have HG := Lib.hid h
  obtain ⟨m1, m2, hck⟩ : 16 ≤ c * k ∧ c * k ≤ 1024 ∧ (c : Int) * (k : Int) - 7 = ((c * k - 7 : Nat) : Int) := by
    have c1 := h.c1; have c2 := h.c2; have k1 := h.k1; have k2 := h.k2
    have m1 : 16 ≤ c * k := by have := Nat.mul_le_mul (show 1 ≤ c by omega) (show 16 ≤ k by omega); omega
    exact ⟨m1, Nat.mul_le_mul (show c ≤ 4 by omega) (show k ≤ 256 by omega), toInt_mul c k (by omega)⟩
  rw [hck] at HSZ
  have lx : decide (c * k - 7 < x.size) = true := decide_eq_true (by omega)
  have lx' : decide (((c * k - 7 : Nat) : Int) < (x.size : Int)) = true := decide_eq_true (by omega)
  obtain ⟨m, hm⟩ : ∃ m, rawN t k c = m := ⟨_, rfl⟩
  simp only [hm] at *
  obtain ⟨n, hn⟩ : ∃ n, c * k - 7 = n := ⟨_, rfl⟩
  simp only [hn] at *
  have d0 : ((m : Int) == 0) = false := beq_eq_false_iff_ne.2 (by omega)
  clear hm hn hck hT hrp m1 m2 HG HTW h
  unfold geoV at *
  obtain ⟨wa, hwa⟩ : ∃ wa, wa = w.alloc (.cells #[.int .i64 b, .int .i64 p, .int .i64 (c : Int), .int .i64 (k : Int), .int .i64 (t : Int)] 22) := ⟨_, rfl⟩
  have hA : wa.heap[w.heap.size]? = some (.cells #[.int .i64 b, .int .i64 p, .int .i64 (c : Int), .int .i64 (k : Int), .int .i64 (t : Int)] 22 (0, 0)) := by rw [hwa]; exact heap_alloc_new w _
  have UA : Hid (Upd noBlock w wa) := by rw [hwa]; exact (Upd.refl _ _).alloc _
  have HA := Lib.hid hA
  obtain ⟨A, hAe⟩ : ∃ A, A = w.heap.size := ⟨_, rfl⟩
  obtain ⟨z0, z1, z2, z3, z4⟩ := geo_cells hA
  rw [← hAe] at HA z0 z1 z2 z3 z4
  clear hA
  go_enter Tryz.func8, Tryz.ntmps8
  go_upto_region 1 with fail
  rw [← hwa, ← hAe]
  clear hwa hAe
  go_upto_region 4 with (first
    | (go_at_call 10; (with_reducible refine (HSP.out _ UA.out).mono ?_); rintro e w1 ⟨rfl, hu1⟩; have U1 : Hid (Upd noBlock wa w1) := hu1; obtain ⟨z0, z1, z2, z3, z4⟩ := geo_cells ((hu1.block A (lt_of_block HA.out) id).trans HA.out); clear hu1)
    | (go_at_call 11; (with_reducible refine (HGE.out _).mono ?_); rintro e w2 ⟨rfl, hu2⟩; have U2 : Hid (Upd noBlock wa w2) := U1.out.trans hu2; clear hu2))
  clear z0 z1 z2 z3 z4
  obtain ⟨wb, hwb⟩ : ∃ wb, wb = (w2.alloc (.cells #[.int .i64 b, .int .i64 p, .int .i64 (c : Int), .int .i64 (k : Int), .int .i64 (t : Int)] 25)).alloc (.cells #[.int .i64 b, .int .i64 p, .int .i64 (c : Int), .int .i64 (k : Int), .int .i64 (t : Int)] 26) := ⟨_, rfl⟩
  have hB0 : wb.heap[w2.heap.size]? = some (.cells #[.int .i64 b, .int .i64 p, .int .i64 (c : Int), .int .i64 (k : Int), .int .i64 (t : Int)] 25 (0, 0)) := by rw [hwb]; exact block_alloc (heap_alloc_new w2 _) _
  have hB1 : wb.heap[w2.heap.size + 1]? = some (.cells #[.int .i64 b, .int .i64 p, .int .i64 (c : Int), .int .i64 (k : Int), .int .i64 (t : Int)] 26 (0, 0)) := by
    have h9 := heap_alloc_new (w2.alloc (.cells #[.int .i64 b, .int .i64 p, .int .i64 (c : Int), .int .i64 (k : Int), .int .i64 (t : Int)] 25)) (.cells #[.int .i64 b, .int .i64 p, .int .i64 (c : Int), .int .i64 (k : Int), .int .i64 (t : Int)] 26)
    rw [World.size_alloc] at h9
    rw [hwb]; exact h9
  have hU : Upd noBlock wa wb := by rw [hwb]; exact (U2.out.alloc _).alloc _
  have hB2 : wb.heap[A]? = some (.cells #[.int .i64 b, .int .i64 p, .int .i64 (c : Int), .int .i64 (k : Int), .int .i64 (t : Int)] 22 (0, 0)) := (hU.block A (lt_of_block HA.out) id).trans HA.out
  have UB : Hid (Upd noBlock w wb) := UA.out.trans hU
  rw [← hwb]
  generalize w2.heap.size + 1 = g1 at *
  generalize w2.heap.size = g0 at *
  have HGC : Hid (∀ W, Upd noBlock wb W → (W.cell? ⟨g0, 0, none⟩ = some (.int .i64 b) ∧ W.cell? ⟨g0, 1, none⟩ = some (.int .i64 p) ∧ W.cell? ⟨g0, 2, none⟩ = some (.int .i64 (c : Int)) ∧ W.cell? ⟨g0, 3, none⟩ = some (.int .i64 (k : Int)) ∧ W.cell? ⟨g0, 4, none⟩ = some (.int .i64 (t : Int))) ∧ (W.cell? ⟨g1, 0, none⟩ = some (.int .i64 b) ∧ W.cell? ⟨g1, 1, none⟩ = some (.int .i64 p) ∧ W.cell? ⟨g1, 2, none⟩ = some (.int .i64 (c : Int)) ∧ W.cell? ⟨g1, 3, none⟩ = some (.int .i64 (k : Int)) ∧ W.cell? ⟨g1, 4, none⟩ = some (.int .i64 (t : Int))) ∧ W.cell? ⟨A, 0, none⟩ = some (.int .i64 b) ∧ W.cell? ⟨A, 4, none⟩ = some (.int .i64 (t : Int))) := fun W hW => by
    have h0 := (hW.block _ (lt_of_block hB0) id).trans hB0
    have h1 := (hW.block _ (lt_of_block hB1) id).trans hB1
    have h2 := (hW.block _ (lt_of_block hB2) id).trans hB2
    exact ⟨geo_cells h0, geo_cells h1, cell_of h2 0, cell_of h2 4⟩
  obtain ⟨⟨z0, z1, z2, z3, z4⟩, ⟨r0, r1, r2, r3, r4⟩, q0, q1⟩ := HGC.out _ (Upd.refl _ _)
  clear hB0 hB1 hB2 hU hwb U1 U2 HA UA HSP HGE
  go_wp2_with (first
    | (go_at_call 13; (with_reducible refine (HSZ.out _).mono ?_); rintro e w3 ⟨rfl, hu⟩; have V3 : Hid (Upd noBlock wb w3) := hu; obtain ⟨⟨z0, z1, z2, z3, z4⟩, ⟨r0, r1, r2, r3, r4⟩, q0, q1⟩ := HGC.out _ hu; clear hu))
  go_ret
  exact ⟨rfl, UB.out.trans V3.out⟩
set_option maxRecDepth 100000 in
set_option maxHeartbeats 3200000 in
theorem pageApart_ly (b p : Int) (c k t : Nat) (x y : ByteArray) (w : World) (hT : Tab w) (h : GoodG b p c k t) (hx : x.size ≤ 140737488351232) (hy : y.size ≤ 140737488351232) (hl : x.size ≤ c * k - 7) (hl2 : c * k - 7 < y.size) :
    Calls Tryz.prog 8 #[geoV b p (c : Int) (k : Int) (t : Int), .string x, .string y] w fun e w' => e = .returned (.bool true) ∧ Upd noBlock w w' := by
  have hnot : ∀ (x : Bool) (w : World), (Op.unary .not (.bool x)).run Tryz.prog w = .ok (.bool (!x)) w := fun _ _ => rfl
  have HSP : Hid (∀ W, Upd noBlock w W → Calls Tryz.prog 10 #[] W fun e w' => e = .returned (.bool true) ∧ Upd noBlock W w') := fun W hW => speaks6_any W (hT.upd hW)
  have HTW := Lib.hid (fun W (hW : Upd noBlock w W) => hT.upd hW)
  have HGE := Lib.hid (fun W => geometry6 b p (c : Int) (k : Int) (t : Int) W)
  have hrp := rawN_pos h
  have HSZ := Lib.hid (fun W => sizes_good b p c k t W h)
  have hrn : c * (k + (13 * t + 7) / 8) = rawN t k c := rfl
  simp only [hrn] at HSZ
  clear hrn
  have HG := Lib.hid h
  obtain ⟨m1, m2, hck⟩ : 16 ≤ c * k ∧ c * k ≤ 1024 ∧ (c : Int) * (k : Int) - 7 = ((c * k - 7 : Nat) : Int) := by
    have c1 := h.c1; have c2 := h.c2; have k1 := h.k1; have k2 := h.k2
    have m1 : 16 ≤ c * k := by have := Nat.mul_le_mul (show 1 ≤ c by omega) (show 16 ≤ k by omega); omega
    exact ⟨m1, Nat.mul_le_mul (show c ≤ 4 by omega) (show k ≤ 256 by omega), toInt_mul c k (by omega)⟩
  rw [hck] at HSZ
  have lx : decide (c * k - 7 < x.size) = false := decide_eq_false (by omega)
  have lx' : decide (((c * k - 7 : Nat) : Int) < (x.size : Int)) = false := decide_eq_false (by omega)
  have ly : decide (c * k - 7 < y.size) = true := decide_eq_true (by omega)
  have ly' : decide (((c * k - 7 : Nat) : Int) < (y.size : Int)) = true := decide_eq_true (by omega)
  obtain ⟨m, hm⟩ : ∃ m, rawN t k c = m := ⟨_, rfl⟩
  simp only [hm] at *
  obtain ⟨n, hn⟩ : ∃ n, c * k - 7 = n := ⟨_, rfl⟩
  simp only [hn] at *
  have d0 : ((m : Int) == 0) = false := beq_eq_false_iff_ne.2 (by omega)
  clear hm hn hck hT hrp m1 m2 HG HTW h
  unfold geoV at *
  obtain ⟨wa, hwa⟩ : ∃ wa, wa = w.alloc (.cells #[.int .i64 b, .int .i64 p, .int .i64 (c : Int), .int .i64 (k : Int), .int .i64 (t : Int)] 22) := ⟨_, rfl⟩
  have hA : wa.heap[w.heap.size]? = some (.cells #[.int .i64 b, .int .i64 p, .int .i64 (c : Int), .int .i64 (k : Int), .int .i64 (t : Int)] 22 (0, 0)) := by rw [hwa]; exact heap_alloc_new w _
  have UA : Hid (Upd noBlock w wa) := by rw [hwa]; exact (Upd.refl _ _).alloc _
  have HA := Lib.hid hA
  obtain ⟨A, hAe⟩ : ∃ A, A = w.heap.size := ⟨_, rfl⟩
  obtain ⟨z0, z1, z2, z3, z4⟩ := geo_cells hA
  rw [← hAe] at HA z0 z1 z2 z3 z4
  clear hA
  go_enter Tryz.func8, Tryz.ntmps8
  go_upto_region 1 with fail
  rw [← hwa, ← hAe]
  clear hwa hAe
  go_upto_region 4 with (first
    | (go_at_call 10; (with_reducible refine (HSP.out _ UA.out).mono ?_); rintro e w1 ⟨rfl, hu1⟩; have U1 : Hid (Upd noBlock wa w1) := hu1; obtain ⟨z0, z1, z2, z3, z4⟩ := geo_cells ((hu1.block A (lt_of_block HA.out) id).trans HA.out); clear hu1)
    | (go_at_call 11; (with_reducible refine (HGE.out _).mono ?_); rintro e w2 ⟨rfl, hu2⟩; have U2 : Hid (Upd noBlock wa w2) := U1.out.trans hu2; clear hu2))
  clear z0 z1 z2 z3 z4
  obtain ⟨wb, hwb⟩ : ∃ wb, wb = (w2.alloc (.cells #[.int .i64 b, .int .i64 p, .int .i64 (c : Int), .int .i64 (k : Int), .int .i64 (t : Int)] 25)).alloc (.cells #[.int .i64 b, .int .i64 p, .int .i64 (c : Int), .int .i64 (k : Int), .int .i64 (t : Int)] 26) := ⟨_, rfl⟩
  have hB0 : wb.heap[w2.heap.size]? = some (.cells #[.int .i64 b, .int .i64 p, .int .i64 (c : Int), .int .i64 (k : Int), .int .i64 (t : Int)] 25 (0, 0)) := by rw [hwb]; exact block_alloc (heap_alloc_new w2 _) _
  have hB1 : wb.heap[w2.heap.size + 1]? = some (.cells #[.int .i64 b, .int .i64 p, .int .i64 (c : Int), .int .i64 (k : Int), .int .i64 (t : Int)] 26 (0, 0)) := by
    have h9 := heap_alloc_new (w2.alloc (.cells #[.int .i64 b, .int .i64 p, .int .i64 (c : Int), .int .i64 (k : Int), .int .i64 (t : Int)] 25)) (.cells #[.int .i64 b, .int .i64 p, .int .i64 (c : Int), .int .i64 (k : Int), .int .i64 (t : Int)] 26)
    rw [World.size_alloc] at h9
    rw [hwb]; exact h9
  have hU : Upd noBlock wa wb := by rw [hwb]; exact (U2.out.alloc _).alloc _
  have hB2 : wb.heap[A]? = some (.cells #[.int .i64 b, .int .i64 p, .int .i64 (c : Int), .int .i64 (k : Int), .int .i64 (t : Int)] 22 (0, 0)) := (hU.block A (lt_of_block HA.out) id).trans HA.out
  have UB : Hid (Upd noBlock w wb) := UA.out.trans hU
  rw [← hwb]
  generalize w2.heap.size + 1 = g1 at *
  generalize w2.heap.size = g0 at *
  have HGC : Hid (∀ W, Upd noBlock wb W → (W.cell? ⟨g0, 0, none⟩ = some (.int .i64 b) ∧ W.cell? ⟨g0, 1, none⟩ = some (.int .i64 p) ∧ W.cell? ⟨g0, 2, none⟩ = some (.int .i64 (c : Int)) ∧ W.cell? ⟨g0, 3, none⟩ = some (.int .i64 (k : Int)) ∧ W.cell? ⟨g0, 4, none⟩ = some (.int .i64 (t : Int))) ∧ (W.cell? ⟨g1, 0, none⟩ = some (.int .i64 b) ∧ W.cell? ⟨g1, 1, none⟩ = some (.int .i64 p) ∧ W.cell? ⟨g1, 2, none⟩ = some (.int .i64 (c : Int)) ∧ W.cell? ⟨g1, 3, none⟩ = some (.int .i64 (k : Int)) ∧ W.cell? ⟨g1, 4, none⟩ = some (.int .i64 (t : Int))) ∧ W.cell? ⟨A, 0, none⟩ = some (.int .i64 b) ∧ W.cell? ⟨A, 4, none⟩ = some (.int .i64 (t : Int))) := fun W hW => by
    have h0 := (hW.block _ (lt_of_block hB0) id).trans hB0
    have h1 := (hW.block _ (lt_of_block hB1) id).trans hB1
    have h2 := (hW.block _ (lt_of_block hB2) id).trans hB2
    exact ⟨geo_cells h0, geo_cells h1, cell_of h2 0, cell_of h2 4⟩
  obtain ⟨⟨z0, z1, z2, z3, z4⟩, ⟨r0, r1, r2, r3, r4⟩, q0, q1⟩ := HGC.out _ (Upd.refl _ _)
  clear hB0 hB1 hB2 hU hwb U1 U2 HA UA HSP HGE
  go_wp2_with (first
    | (go_at_call 13; (with_reducible refine (HSZ.out _).mono ?_); rintro e w3 ⟨rfl, hu⟩; have V3 : Hid (Upd noBlock wb w3) := hu; obtain ⟨⟨z0, z1, z2, z3, z4⟩, ⟨r0, r1, r2, r3, r4⟩, q0, q1⟩ := HGC.out _ hu; clear hu))
  go_ret
  exact ⟨rfl, UB.out.trans V3.out⟩
set_option maxRecDepth 100000 in
set_option maxHeartbeats 3200000 in
theorem pageApart_one (b p : Int) (c k t : Nat) (x y : ByteArray) (w : World) (hT : Tab w) (h : GoodG b p c k t) (hx : x.size ≤ 140737488351232) (hy : y.size ≤ 140737488351232) (hl : x.size ≤ c * k - 7) (hl2 : y.size ≤ c * k - 7) (hb : b < 2) :
    Calls Tryz.prog 8 #[geoV b p (c : Int) (k : Int) (t : Int), .string x, .string y] w fun e w' => e = .returned (.bool true) ∧ Upd noBlock w w' := by
  have hnot : ∀ (x : Bool) (w : World), (Op.unary .not (.bool x)).run Tryz.prog w = .ok (.bool (!x)) w := fun _ _ => rfl
  have HSP : Hid (∀ W, Upd noBlock w W → Calls Tryz.prog 10 #[] W fun e w' => e = .returned (.bool true) ∧ Upd noBlock W w') := fun W hW => speaks6_any W (hT.upd hW)
  have HTW := Lib.hid (fun W (hW : Upd noBlock w W) => hT.upd hW)
  have HGE := Lib.hid (fun W => geometry6 b p (c : Int) (k : Int) (t : Int) W)
  have hrp := rawN_pos h
  have HSZ := Lib.hid (fun W => sizes_good b p c k t W h)
  have hrn : c * (k + (13 * t + 7) / 8) = rawN t k c := rfl
  simp only [hrn] at HSZ
  clear hrn
  have HG := Lib.hid h
  obtain ⟨m1, m2, hck⟩ : 16 ≤ c * k ∧ c * k ≤ 1024 ∧ (c : Int) * (k : Int) - 7 = ((c * k - 7 : Nat) : Int) := by
    have c1 := h.c1; have c2 := h.c2; have k1 := h.k1; have k2 := h.k2
    have m1 : 16 ≤ c * k := by have := Nat.mul_le_mul (show 1 ≤ c by omega) (show 16 ≤ k by omega); omega
    exact ⟨m1, Nat.mul_le_mul (show c ≤ 4 by omega) (show k ≤ 256 by omega), toInt_mul c k (by omega)⟩
  rw [hck] at HSZ
  have lx : decide (c * k - 7 < x.size) = false := decide_eq_false (by omega)
  have lx' : decide (((c * k - 7 : Nat) : Int) < (x.size : Int)) = false := decide_eq_false (by omega)
  have ly : decide (c * k - 7 < y.size) = false := decide_eq_false (by omega)
  have ly' : decide (((c * k - 7 : Nat) : Int) < (y.size : Int)) = false := decide_eq_false (by omega)
  have db : decide (b < 2) = true := decide_eq_true hb
  obtain ⟨m, hm⟩ : ∃ m, rawN t k c = m := ⟨_, rfl⟩
  simp only [hm] at *
  obtain ⟨n, hn⟩ : ∃ n, c * k - 7 = n := ⟨_, rfl⟩
  simp only [hn] at *
  have d0 : ((m : Int) == 0) = false := beq_eq_false_iff_ne.2 (by omega)
  clear hm hn hck hT hrp m1 m2 HG HTW h
  unfold geoV at *
  obtain ⟨wa, hwa⟩ : ∃ wa, wa = w.alloc (.cells #[.int .i64 b, .int .i64 p, .int .i64 (c : Int), .int .i64 (k : Int), .int .i64 (t : Int)] 22) := ⟨_, rfl⟩
  have hA : wa.heap[w.heap.size]? = some (.cells #[.int .i64 b, .int .i64 p, .int .i64 (c : Int), .int .i64 (k : Int), .int .i64 (t : Int)] 22 (0, 0)) := by rw [hwa]; exact heap_alloc_new w _
  have UA : Hid (Upd noBlock w wa) := by rw [hwa]; exact (Upd.refl _ _).alloc _
  have HA := Lib.hid hA
  obtain ⟨A, hAe⟩ : ∃ A, A = w.heap.size := ⟨_, rfl⟩
  obtain ⟨z0, z1, z2, z3, z4⟩ := geo_cells hA
  rw [← hAe] at HA z0 z1 z2 z3 z4
  clear hA
  go_enter Tryz.func8, Tryz.ntmps8
  go_upto_region 1 with fail
  rw [← hwa, ← hAe]
  clear hwa hAe
  go_upto_region 4 with (first
    | (go_at_call 10; (with_reducible refine (HSP.out _ UA.out).mono ?_); rintro e w1 ⟨rfl, hu1⟩; have U1 : Hid (Upd noBlock wa w1) := hu1; obtain ⟨z0, z1, z2, z3, z4⟩ := geo_cells ((hu1.block A (lt_of_block HA.out) id).trans HA.out); clear hu1)
    | (go_at_call 11; (with_reducible refine (HGE.out _).mono ?_); rintro e w2 ⟨rfl, hu2⟩; have U2 : Hid (Upd noBlock wa w2) := U1.out.trans hu2; clear hu2))
  clear z0 z1 z2 z3 z4
  obtain ⟨wb, hwb⟩ : ∃ wb, wb = (w2.alloc (.cells #[.int .i64 b, .int .i64 p, .int .i64 (c : Int), .int .i64 (k : Int), .int .i64 (t : Int)] 25)).alloc (.cells #[.int .i64 b, .int .i64 p, .int .i64 (c : Int), .int .i64 (k : Int), .int .i64 (t : Int)] 26) := ⟨_, rfl⟩
  have hB0 : wb.heap[w2.heap.size]? = some (.cells #[.int .i64 b, .int .i64 p, .int .i64 (c : Int), .int .i64 (k : Int), .int .i64 (t : Int)] 25 (0, 0)) := by rw [hwb]; exact block_alloc (heap_alloc_new w2 _) _
  have hB1 : wb.heap[w2.heap.size + 1]? = some (.cells #[.int .i64 b, .int .i64 p, .int .i64 (c : Int), .int .i64 (k : Int), .int .i64 (t : Int)] 26 (0, 0)) := by
    have h9 := heap_alloc_new (w2.alloc (.cells #[.int .i64 b, .int .i64 p, .int .i64 (c : Int), .int .i64 (k : Int), .int .i64 (t : Int)] 25)) (.cells #[.int .i64 b, .int .i64 p, .int .i64 (c : Int), .int .i64 (k : Int), .int .i64 (t : Int)] 26)
    rw [World.size_alloc] at h9
    rw [hwb]; exact h9
  have hU : Upd noBlock wa wb := by rw [hwb]; exact (U2.out.alloc _).alloc _
  have hB2 : wb.heap[A]? = some (.cells #[.int .i64 b, .int .i64 p, .int .i64 (c : Int), .int .i64 (k : Int), .int .i64 (t : Int)] 22 (0, 0)) := (hU.block A (lt_of_block HA.out) id).trans HA.out
  have UB : Hid (Upd noBlock w wb) := UA.out.trans hU
  rw [← hwb]
  generalize w2.heap.size + 1 = g1 at *
  generalize w2.heap.size = g0 at *
  have HGC : Hid (∀ W, Upd noBlock wb W → (W.cell? ⟨g0, 0, none⟩ = some (.int .i64 b) ∧ W.cell? ⟨g0, 1, none⟩ = some (.int .i64 p) ∧ W.cell? ⟨g0, 2, none⟩ = some (.int .i64 (c : Int)) ∧ W.cell? ⟨g0, 3, none⟩ = some (.int .i64 (k : Int)) ∧ W.cell? ⟨g0, 4, none⟩ = some (.int .i64 (t : Int))) ∧ (W.cell? ⟨g1, 0, none⟩ = some (.int .i64 b) ∧ W.cell? ⟨g1, 1, none⟩ = some (.int .i64 p) ∧ W.cell? ⟨g1, 2, none⟩ = some (.int .i64 (c : Int)) ∧ W.cell? ⟨g1, 3, none⟩ = some (.int .i64 (k : Int)) ∧ W.cell? ⟨g1, 4, none⟩ = some (.int .i64 (t : Int))) ∧ W.cell? ⟨A, 0, none⟩ = some (.int .i64 b) ∧ W.cell? ⟨A, 4, none⟩ = some (.int .i64 (t : Int))) := fun W hW => by
    have h0 := (hW.block _ (lt_of_block hB0) id).trans hB0
    have h1 := (hW.block _ (lt_of_block hB1) id).trans hB1
    have h2 := (hW.block _ (lt_of_block hB2) id).trans hB2
    exact ⟨geo_cells h0, geo_cells h1, cell_of h2 0, cell_of h2 4⟩
  obtain ⟨⟨z0, z1, z2, z3, z4⟩, ⟨r0, r1, r2, r3, r4⟩, q0, q1⟩ := HGC.out _ (Upd.refl _ _)
  clear hB0 hB1 hB2 hU hwb U1 U2 HA UA HSP HGE
  go_wp2_with (first
    | (go_at_call 13; (with_reducible refine (HSZ.out _).mono ?_); rintro e w3 ⟨rfl, hu⟩; have V3 : Hid (Upd noBlock wb w3) := hu; obtain ⟨⟨z0, z1, z2, z3, z4⟩, ⟨r0, r1, r2, r3, r4⟩, q0, q1⟩ := HGC.out _ hu; clear hu))
  go_ret
  exact ⟨rfl, UB.out.trans V3.out⟩
set_option maxRecDepth 100000 in
set_option maxHeartbeats 6400000 in
theorem pageApart_in (b p : Int) (c k t : Nat) (x y : ByteArray) (w : World) (hT : Tab w) (h : GoodG b p c k t) (hx : x.size ≤ 140737488351232) (hy : y.size ≤ 140737488351232) (hl : x.size ≤ c * k - 7) (hl2 : y.size ≤ c * k - 7) (hb : 2 ≤ b) :
    Calls Tryz.prog 8 #[geoV b p (c : Int) (k : Int) (t : Int), .string x, .string y] w fun e w' => e = .returned (.bool true) ∧ Upd noBlock w w' := by
  have hnot : ∀ (x : Bool) (w : World), (Op.unary .not (.bool x)).run Tryz.prog w = .ok (.bool (!x)) w := fun _ _ => rfl
  have HSP : Hid (∀ W, Upd noBlock w W → Calls Tryz.prog 10 #[] W fun e w' => e = .returned (.bool true) ∧ Upd noBlock W w') := fun W hW => speaks6_any W (hT.upd hW)
  have HTW := Lib.hid (fun W (hW : Upd noBlock w W) => hT.upd hW)
  have HGE := Lib.hid (fun W => geometry6 b p (c : Int) (k : Int) (t : Int) W)
  have hrp := rawN_pos h
  have HSZ := Lib.hid (fun W => sizes_good b p c k t W h)
  have hrn : c * (k + (13 * t + 7) / 8) = rawN t k c := rfl
  simp only [hrn] at HSZ
  clear hrn
  have HG := Lib.hid h
  obtain ⟨m1, m2, hck⟩ : 16 ≤ c * k ∧ c * k ≤ 1024 ∧ (c : Int) * (k : Int) - 7 = ((c * k - 7 : Nat) : Int) := by
    have c1 := h.c1; have c2 := h.c2; have k1 := h.k1; have k2 := h.k2
    have m1 : 16 ≤ c * k := by have := Nat.mul_le_mul (show 1 ≤ c by omega) (show 16 ≤ k by omega); omega
    exact ⟨m1, Nat.mul_le_mul (show c ≤ 4 by omega) (show k ≤ 256 by omega), toInt_mul c k (by omega)⟩
  rw [hck] at HSZ
  have lx : decide (c * k - 7 < x.size) = false := decide_eq_false (by omega)
  have lx' : decide (((c * k - 7 : Nat) : Int) < (x.size : Int)) = false := decide_eq_false (by omega)
  have ly : decide (c * k - 7 < y.size) = false := decide_eq_false (by omega)
  have ly' : decide (((c * k - 7 : Nat) : Int) < (y.size : Int)) = false := decide_eq_false (by omega)
  have db : decide (b < 2) = false := decide_eq_false (by omega)
  have HCH := Lib.hid (fun W => chip_good b p c k t W h)
  have HNW := Lib.hid (fun ch W => pnew_good b p c k t ch W h)
  obtain ⟨b1, b2, p1, p2, p4, _, _, _, _, t1, t2⟩ := h
  obtain ⟨nb, hnb⟩ : ∃ nb, b.toNat = nb := ⟨_, rfl⟩
  obtain ⟨np, hnp⟩ : ∃ np, p.toNat = np := ⟨_, rfl⟩
  rw [hnb, hnp] at HCH
  have hnb2 : 2 ≤ nb := by omega
  have hnp1 : 1 ≤ np := by omega
  have hpa := pageL_length (t := t) (k := k) (c := c) (l := x.data.toList) (by omega) hl
  have hpb := pageL_length (t := t) (k := k) (c := c) (l := y.data.toList) (by omega) hl2
  have hpas := pageL_size HG.out x.data.toList hl
  have hpbs := pageL_size HG.out y.data.toList hl2
  have hfa := found_page HG.out x.data.toList hl
  have hfb := found_page HG.out y.data.toList hl2
  have HFAR : Hid (2 * t < unlike (fun j => ((pageL t k c x.data.toList).getD j 0).toNat) (fun j => ((pageL t k c y.data.toList).getD j 0).toNat) 0 (rawN t k c) ∨ padL (c * k - 7) x.data.toList = padL (c * k - 7) y.data.toList) := by
    by_cases h9 : 2 * t < unlike (fun j => ((pageL t k c x.data.toList).getD j 0).toNat) (fun j => ((pageL t k c y.data.toList).getD j 0).toNat) 0 (rawN t k c)
    · exact .inl h9
    · exact .inr (body_pad (pages_far HG.out y.data.toList x.data.toList hl2 hl (by omega)))
  have HSAME : Hid (padL (c * k - 7) x.data.toList = padL (c * k - 7) y.data.toList ↔ pageL t k c x.data.toList = pageL t k c y.data.toList) := ⟨fun h => pad_page h, fun h => body_pad (page_body HG.out hl2 hl h)⟩
  obtain ⟨la, hla⟩ : ∃ la, pageL t k c x.data.toList = la := ⟨_, rfl⟩
  obtain ⟨lb, hlb⟩ : ∃ lb, pageL t k c y.data.toList = lb := ⟨_, rfl⟩
  obtain ⟨pa, hpa'⟩ : ∃ pa, padL (c * k - 7) x.data.toList = pa := ⟨_, rfl⟩
  obtain ⟨pb', hpb'⟩ : ∃ pb', padL (c * k - 7) y.data.toList = pb' := ⟨_, rfl⟩
  have HWA : Hid (∀ wx q ch bb pb cc W, Upd noBlock w wx → PN wx q b p c k t ch bb pb (newCh nb np (rawN t k c)) cc W → Calls Tryz.prog 18 #[.pointer (some ⟨q, 0, none⟩), .int .i64 0, .int .i64 0, .string x] W fun e w' => e = .returned (.int .i64 0) ∧ PN wx q b p c k t ch bb pb (m1C nb np (rawN t k c) 0 0 la) cc w') := fun wx q ch bb pb cc W hwx hW => by
    have h9 := write_in q b p c k t ch bb pb (newCh nb np (rawN t k c)) cc 0 0 0 0 0 rfl rfl x W HG.out hW.i ((HTW.out _ hwx).upd hW.u) hl (newCh_fit nb np _) (by decide) (by show 0 < nb; omega) (by show 0 < np; omega) rfl
    rw [m1_e, hla] at h9
    exact h9.mono fun e w' ⟨he, hi, hu⟩ => ⟨he, hW.upd hi hu (m1_shape nb np _ 0 0 _).1⟩
  have HWB : Hid (∀ wx q ch bb pb cc W, Upd noBlock w wx → PN wx q b p c k t ch bb pb (m1C nb np (rawN t k c) 0 0 la) cc W → Calls Tryz.prog 18 #[.pointer (some ⟨q, 0, none⟩), .int .i64 1, .int .i64 0, .string y] W fun e w' => e = .returned (.int .i64 0) ∧ PN wx q b p c k t ch bb pb (m2C nb np (rawN t k c) la lb) cc w') := fun wx q ch bb pb cc W hwx hW => by
    obtain ⟨s1, s2, s3, s4, s5⟩ := m1_shape nb np (rawN t k c) 0 0 la
    have h9 := write_in q b p c k t ch bb pb (m1C nb np (rawN t k c) 0 0 la) cc 1 0 1 0 1 rfl rfl y W HG.out hW.i ((HTW.out _ hwx).upd hW.u) hl2 (m1_fit nb np _ 0 0 _) (by decide) (by rw [s1]; omega) (by rw [s2]; omega) s3
    rw [m2_e, hlb] at h9
    exact h9.mono fun e w' ⟨he, hi, hu⟩ => ⟨he, hW.upd hi hu (progM_nb _ _ _ _)⟩
  obtain ⟨v1, v2, v3, v4, v5⟩ := m2_shape nb np (rawN t k c) la lb
  have vf := m2_fit nb np (rawN t k c) la lb
  obtain ⟨g1, g2⟩ := m2_pg nb np (rawN t k c) la lb
  generalize m2C nb np (rawN t k c) la lb = M2 at *
  rw [hla] at hpa hpas hfa
  rw [hlb] at hpb hpbs hfb
  rw [hpa'] at hfa
  rw [hpb'] at hfb
  have HR : Hid (∀ (M : Ch) (i : Nat) (l : List UInt8) (n : Nat) wx q ch bb pb cc W, M.Fit n → n < 100 → i < 2 → M.nb = nb → M.np = np → M.sz = rawN t k c → M.off = false → M.most < 1 → (M.bk i).pg 0 = ⟨1, false, l⟩ → PN wx q b p c k t ch bb pb M cc W → Calls Tryz.prog 17 #[.pointer (some ⟨ch, 0, none⟩), .int .i64 (i : Int), .int .i64 0] W fun e w' => e = .returned (.tuple #[.string ⟨l.toArray⟩, .int .i64 0]) ∧ PN wx q b p c k t ch bb pb (M.readM i) cc w') := fun M i l n wx q ch bb pb cc W hF hn hi e1 e2 e3 e4 e5 e6 hW =>
    (read_in ch bb pb M (i : Int) 0 i 0 n rfl rfl ⟨l.toArray⟩ (by rw [e6]; rfl) W hW.i.chip hF (by omega) (by rw [e1]; omega) (by rw [e2]; omega) (by rw [e3]; omega) e4 (.inl e5) (by rw [e6]; show 1 ≤ 2; omega)).mono fun e w' ⟨he, hc, hu⟩ => ⟨he, hW.upd (hW.i.chipped hu hc) (POwn.chip hu) rfl⟩
  have HP : Hid (∀ (M : Ch) (i : Nat) (l pl : List UInt8) (n : Nat) wx q ch bb pb cc W, Upd noBlock w wx → l.length = rawN t k c → foundL t k c (pieceL l (k + (13 * t + 7) / 8)) = ⟨1, pl, 0⟩ → M.Fit n → n < 100 → i < 2 → M.nb = nb → M.np = np → M.sz = rawN t k c → M.off = false → M.most < 1 → (M.bk i).pg 0 = ⟨1, false, l⟩ → PN wx q b p c k t ch bb pb M cc W → Calls Tryz.prog 21 #[.pointer (some ⟨q, 0, none⟩), .int .i64 (i : Int), .int .i64 0] W fun e w' => e = .returned (.tuple #[.agg #[.int .i64 1, .string ⟨pl.toArray⟩, .int .i64 0], .int .i64 0]) ∧ PN wx q b p c k t ch bb pb (M.readM i) cc w' ∧ KF W w') := fun M i l pl n wx q ch bb pb cc W hwx hll hfl hF hn hi e1 e2 e3 e4 e5 e6 hW => by
    have hsh : ((M.bk i).pg 0).show M.sz = l := by rw [e6]; rfl
    have h9 := pread_in q b p c k t ch bb pb M cc (i : Int) 0 i 0 n rfl rfl W HG.out hW.i (hW.tab (HTW.out _ hwx)) hF (by omega) (by rw [e1]; omega) (by rw [e2]; omega) e3 e4 (.inl e5) (by rw [e6]; show 1 ≤ 2; omega) (by rw [hsh, e3, hll])
    rw [hsh, hfl] at h9
    exact h9.mono fun e w' ⟨he, hi, hu⟩ => ⟨he, hW.upd hi hu rfl, hW.i.kf hu⟩
  have HR1 : Hid (∀ wx q ch bb pb cc W, PN wx q b p c k t ch bb pb M2 cc W → Calls Tryz.prog 17 #[.pointer (some ⟨ch, 0, none⟩), .int .i64 0, .int .i64 0] W fun e w' => e = .returned (.tuple #[.string ⟨la.toArray⟩, .int .i64 0]) ∧ PN wx q b p c k t ch bb pb (M2.readM 0) cc w') := fun wx q ch bb pb cc W hW =>
    HR.out M2 0 la 2 wx q ch bb pb cc W vf (by omega) (by omega) v1 v2 v3 v4 v5 g1 hW
  have HR2 : Hid (∀ wx q ch bb pb cc W, PN wx q b p c k t ch bb pb (M2.readM 0) cc W → Calls Tryz.prog 17 #[.pointer (some ⟨ch, 0, none⟩), .int .i64 1, .int .i64 0] W fun e w' => e = .returned (.tuple #[.string ⟨lb.toArray⟩, .int .i64 0]) ∧ PN wx q b p c k t ch bb pb ((M2.readM 0).readM 1) cc w') := fun wx q ch bb pb cc W hW =>
    HR.out (M2.readM 0) 1 lb 3 wx q ch bb pb cc W (vf.read 0) (by omega) (by omega) v1 v2 v3 v4 v5 (by rw [readM_pg]; exact g2) hW
  have HP1 : Hid (∀ wx q ch bb pb cc W, Upd noBlock w wx → PN wx q b p c k t ch bb pb ((M2.readM 0).readM 1) cc W → Calls Tryz.prog 21 #[.pointer (some ⟨q, 0, none⟩), .int .i64 0, .int .i64 0] W fun e w' => e = .returned (.tuple #[.agg #[.int .i64 1, .string ⟨pa.toArray⟩, .int .i64 0], .int .i64 0]) ∧ PN wx q b p c k t ch bb pb (((M2.readM 0).readM 1).readM 0) cc w' ∧ KF W w') := fun wx q ch bb pb cc W hwx hW =>
    HP.out ((M2.readM 0).readM 1) 0 la pa 4 wx q ch bb pb cc W hwx hpa hfa ((vf.read 0).read 1) (by omega) (by omega) v1 v2 v3 v4 v5 (by rw [readM_pg, readM_pg]; exact g1) hW
  have HP2 : Hid (∀ wx q ch bb pb cc W, Upd noBlock w wx → PN wx q b p c k t ch bb pb (((M2.readM 0).readM 1).readM 0) cc W → Calls Tryz.prog 21 #[.pointer (some ⟨q, 0, none⟩), .int .i64 1, .int .i64 0] W fun e w' => e = .returned (.tuple #[.agg #[.int .i64 1, .string ⟨pb'.toArray⟩, .int .i64 0], .int .i64 0]) ∧ PN wx q b p c k t ch bb pb ((((M2.readM 0).readM 1).readM 0).readM 1) cc w' ∧ KF W w') := fun wx q ch bb pb cc W hwx hW =>
    HP.out (((M2.readM 0).readM 1).readM 0) 1 lb pb' 5 wx q ch bb pb cc W hwx hpb hfb (((vf.read 0).read 1).read 0) (by omega) (by omega) v1 v2 v3 v4 v5 (by rw [readM_pg, readM_pg, readM_pg]; exact g2) hW
  generalize M2.readM 0 = M3 at *
  generalize M3.readM 1 = M4 at *
  generalize M4.readM 0 = M5 at *
  generalize M5.readM 1 = M6 at *
  generalize m1C nb np (rawN t k c) 0 0 la = M1 at *
  clear HR HP v1 v2 v3 v4 v5 vf g1 g2 hfa hfb
  simp only [hla, hlb, hpa', hpb'] at HFAR HSAME
  obtain ⟨sa, hsa⟩ : ∃ sa : ByteArray, ⟨la.toArray⟩ = sa := ⟨_, rfl⟩
  obtain ⟨sb, hsb⟩ : ∃ sb : ByteArray, ⟨lb.toArray⟩ = sb := ⟨_, rfl⟩
  obtain ⟨qa, hqa⟩ : ∃ qa : ByteArray, ⟨pa.toArray⟩ = qa := ⟨_, rfl⟩
  obtain ⟨qb, hqb⟩ : ∃ qb : ByteArray, ⟨pb'.toArray⟩ = qb := ⟨_, rfl⟩
  have ha1 : la = sa.data.toList := by rw [← hsa]
  have hb1 : lb = sb.data.toList := by rw [← hsb]
  have ha2 : pa = qa.data.toList := by rw [← hqa]
  have hb2 : pb' = qb.data.toList := by rw [← hqb]
  rw [hsa] at HR1 hpas
  rw [hsb] at HR2 hpbs
  rw [hqa] at HP1
  rw [hqb] at HP2
  rw [ha1, hb1, ha2, hb2] at HFAR HSAME
  have HBX : Hid ((qa.toList == qb.toList) = (sa.toList == sb.toList)) := by show _ = _; rw [bytes_beq, bytes_beq]; exact decide_eq_decide.2 HSAME.out
  have HBF : Hid ((sa.toList == sb.toList) = true ∨ 2 * t < unlike (fun j => (sa.data.toList.getD j 0).toNat) (fun j => (sb.data.toList.getD j 0).toNat) 0 (rawN t k c)) := by
    rcases HFAR.out with h9 | h9
    · exact .inr h9
    · exact .inl (by rw [bytes_beq]; exact decide_eq_true (HSAME.out.1 h9))
  have HGA : Hid (∀ i (h : i < sa.size), sa[i] = sa.data.toList.getD i 0) := fun i h => getD_byteF sa i h
  have HGB : Hid (∀ i (h : i < sb.size), sb[i] = sb.data.toList.getD i 0) := fun i h => getD_byteF sb i h
  have ht8 : t ≤ 8 := by omega
  clear hla hlb hpa' hpb' hsa hsb hqa hqb ha1 hb1 ha2 hb2 HFAR HSAME hpa hpb t1 t2
  obtain ⟨m, hm⟩ : ∃ m, rawN t k c = m := ⟨_, rfl⟩
  simp only [hm] at *
  obtain ⟨n, hn⟩ : ∃ n, c * k - 7 = n := ⟨_, rfl⟩
  simp only [hn] at *
  have d0 : ((m : Int) == 0) = false := beq_eq_false_iff_ne.2 (by omega)
  obtain ⟨fa, hfa⟩ : ∃ fa : Nat → Nat, (fun j => (sa.data.toList.getD j 0).toNat) = fa := ⟨_, rfl⟩
  obtain ⟨fb, hfb⟩ : ∃ fb : Nat → Nat, (fun j => (sb.data.toList.getD j 0).toNat) = fb := ⟨_, rfl⟩
  rw [hfa, hfb] at HBF
  have HFA : Hid (∀ i (h : i < sa.size), sa[i].toNat = fa i) := fun i h => by rw [HGA.out i h, ← hfa]
  have HFB : Hid (∀ i (h : i < sb.size), sb[i].toNat = fb i) := fun i h => by rw [HGB.out i h, ← hfb]
  have HML : Hid (m ≤ 1076) := hrp.2
  have hwt : IntKind.i64.wrap (2 * (t : Int)) = 2 * (t : Int) := by rw [IntKind.wrap_i64]; omega
  clear hm hn hck hT hrp m1 m2 HG HTW p4 hnb hnp hfa hfb HGA HGB b1 b2 p1 p2 hnb2 hnp1 hb
  unfold geoV NewC at *
  obtain ⟨wa, hwa⟩ : ∃ wa, wa = w.alloc (.cells #[.int .i64 b, .int .i64 p, .int .i64 (c : Int), .int .i64 (k : Int), .int .i64 (t : Int)] 22) := ⟨_, rfl⟩
  have hA : wa.heap[w.heap.size]? = some (.cells #[.int .i64 b, .int .i64 p, .int .i64 (c : Int), .int .i64 (k : Int), .int .i64 (t : Int)] 22 (0, 0)) := by rw [hwa]; exact heap_alloc_new w _
  have UA : Hid (Upd noBlock w wa) := by rw [hwa]; exact (Upd.refl _ _).alloc _
  have HA := Lib.hid hA
  obtain ⟨A, hAe⟩ : ∃ A, A = w.heap.size := ⟨_, rfl⟩
  obtain ⟨z0, z1, z2, z3, z4⟩ := geo_cells hA
  rw [← hAe] at HA z0 z1 z2 z3 z4
  clear hA
  go_enter Tryz.func8, Tryz.ntmps8
  go_upto_region 1 with fail
  rw [← hwa, ← hAe]
  clear hwa hAe
  go_upto_region 4 with (first
    | (go_at_call 10; (with_reducible refine (HSP.out _ UA.out).mono ?_); rintro e w1 ⟨rfl, hu1⟩; have U1 : Hid (Upd noBlock wa w1) := hu1; obtain ⟨z0, z1, z2, z3, z4⟩ := geo_cells ((hu1.block A (lt_of_block HA.out) id).trans HA.out); clear hu1)
    | (go_at_call 11; (with_reducible refine (HGE.out _).mono ?_); rintro e w2 ⟨rfl, hu2⟩; have U2 : Hid (Upd noBlock wa w2) := U1.out.trans hu2; clear hu2))
  clear z0 z1 z2 z3 z4
  obtain ⟨wb, hwb⟩ : ∃ wb, wb = (w2.alloc (.cells #[.int .i64 b, .int .i64 p, .int .i64 (c : Int), .int .i64 (k : Int), .int .i64 (t : Int)] 25)).alloc (.cells #[.int .i64 b, .int .i64 p, .int .i64 (c : Int), .int .i64 (k : Int), .int .i64 (t : Int)] 26) := ⟨_, rfl⟩
  have hB0 : wb.heap[w2.heap.size]? = some (.cells #[.int .i64 b, .int .i64 p, .int .i64 (c : Int), .int .i64 (k : Int), .int .i64 (t : Int)] 25 (0, 0)) := by rw [hwb]; exact block_alloc (heap_alloc_new w2 _) _
  have hB1 : wb.heap[w2.heap.size + 1]? = some (.cells #[.int .i64 b, .int .i64 p, .int .i64 (c : Int), .int .i64 (k : Int), .int .i64 (t : Int)] 26 (0, 0)) := by
    have h9 := heap_alloc_new (w2.alloc (.cells #[.int .i64 b, .int .i64 p, .int .i64 (c : Int), .int .i64 (k : Int), .int .i64 (t : Int)] 25)) (.cells #[.int .i64 b, .int .i64 p, .int .i64 (c : Int), .int .i64 (k : Int), .int .i64 (t : Int)] 26)
    rw [World.size_alloc] at h9
    rw [hwb]; exact h9
  have hU : Upd noBlock wa wb := by rw [hwb]; exact (U2.out.alloc _).alloc _
  have hB2 : wb.heap[A]? = some (.cells #[.int .i64 b, .int .i64 p, .int .i64 (c : Int), .int .i64 (k : Int), .int .i64 (t : Int)] 22 (0, 0)) := (hU.block A (lt_of_block HA.out) id).trans HA.out
  have UB : Hid (Upd noBlock w wb) := UA.out.trans hU
  rw [← hwb]
  generalize w2.heap.size + 1 = g1 at *
  generalize w2.heap.size = g0 at *
  have HGC : Hid (∀ W, Upd noBlock wb W → (W.cell? ⟨g0, 0, none⟩ = some (.int .i64 b) ∧ W.cell? ⟨g0, 1, none⟩ = some (.int .i64 p) ∧ W.cell? ⟨g0, 2, none⟩ = some (.int .i64 (c : Int)) ∧ W.cell? ⟨g0, 3, none⟩ = some (.int .i64 (k : Int)) ∧ W.cell? ⟨g0, 4, none⟩ = some (.int .i64 (t : Int))) ∧ (W.cell? ⟨g1, 0, none⟩ = some (.int .i64 b) ∧ W.cell? ⟨g1, 1, none⟩ = some (.int .i64 p) ∧ W.cell? ⟨g1, 2, none⟩ = some (.int .i64 (c : Int)) ∧ W.cell? ⟨g1, 3, none⟩ = some (.int .i64 (k : Int)) ∧ W.cell? ⟨g1, 4, none⟩ = some (.int .i64 (t : Int))) ∧ W.cell? ⟨A, 0, none⟩ = some (.int .i64 b) ∧ W.cell? ⟨A, 4, none⟩ = some (.int .i64 (t : Int))) := fun W hW => by
    have h0 := (hW.block _ (lt_of_block hB0) id).trans hB0
    have h1 := (hW.block _ (lt_of_block hB1) id).trans hB1
    have h2 := (hW.block _ (lt_of_block hB2) id).trans hB2
    exact ⟨geo_cells h0, geo_cells h1, cell_of h2 0, cell_of h2 4⟩
  obtain ⟨⟨z0, z1, z2, z3, z4⟩, ⟨r0, r1, r2, r3, r4⟩, q0, q1⟩ := HGC.out _ (Upd.refl _ _)
  clear hB0 hB1 hB2 hU hwb U1 U2 HA UA HSP HGE
  have k1 : ∀ (W : World) (x y z : Value), (W.alloc (.cells #[x, y, z] 51)).cell? ⟨W.heap.size, 1, none⟩ = some y := fun W x y z => cell_of (heap_alloc_new W _) 1
  go_upto_region 14 with (first
    | (go_at_call 13; (with_reducible refine (HSZ.out _).mono ?_); rintro e w3 ⟨rfl, hu⟩; have V3 : Hid (Upd noBlock wb w3) := hu; obtain ⟨⟨z0, z1, z2, z3, z4⟩, ⟨r0, r1, r2, r3, r4⟩, q0, q1⟩ := HGC.out _ hu; clear hu)
    | (go_at_call 14; (with_reducible refine (HCH.out _).mono ?_); rintro e w5 ⟨ch, bb, pb, rfl, hc, hu, hl⟩; have C5 := Lib.hid hc; have L5 : Hid (∀ i, Own ch bb pb nb i → wb.heap.size ≤ i) := fun i hi => Nat.le_trans V3.out.size (hl i hi); have V5 : Hid (Upd noBlock wb w5) := V3.out.trans hu; obtain ⟨⟨z0, z1, z2, z3, z4⟩, ⟨r0, r1, r2, r3, r4⟩, q0, q1⟩ := HGC.out _ V5.out; clear hc hu hl)
    | (go_at_call 15; (with_reducible refine (HNW.out ch _).mono ?_); rintro e w6 ⟨q, cc, rfl, hp, hcd, hq, hcc, hu⟩; have N6 : Hid (PN wb q b p c k t ch bb pb (newCh nb np m) cc w6) := ⟨⟨hp, C5.out.grow hu, hcd⟩, V5.out.trans hu, fun i hi => hi.elim (fun h => L5.out i h) (fun h => by rw [h]; exact Nat.le_trans V5.out.size hcc)⟩; obtain ⟨⟨z0, z1, z2, z3, z4⟩, ⟨r0, r1, r2, r3, r4⟩, q0, q1⟩ := HGC.out _ N6.out.u; clear hp hcd hq hcc hu)
    | (go_at_call 18; (with_reducible refine (HWA.out _ q ch bb pb cc _ (UB.out) N6.out).mono ?_); rintro e w7 ⟨rfl, hp⟩; have N7 := Lib.hid hp; obtain ⟨⟨z0, z1, z2, z3, z4⟩, ⟨r0, r1, r2, r3, r4⟩, q0, q1⟩ := HGC.out _ N7.out.u; clear hp)
    | (go_at_call 18; (with_reducible refine (HWB.out _ q ch bb pb cc _ UB.out N7.out).mono ?_); rintro e w8 ⟨rfl, hp⟩; have N8 := Lib.hid hp; obtain ⟨⟨z0, z1, z2, z3, z4⟩, ⟨r0, r1, r2, r3, r4⟩, q0, q1⟩ := HGC.out _ N8.out.u; clear hp)
    | (go_at_call 17; (with_reducible refine (HR1.out _ q ch bb pb cc _ N8.out).mono ?_); rintro e w9 ⟨rfl, hp⟩; have N9 := Lib.hid hp; obtain ⟨⟨z0, z1, z2, z3, z4⟩, ⟨r0, r1, r2, r3, r4⟩, q0, q1⟩ := HGC.out _ N9.out.u; clear hp)
    | (go_at_call 17; (with_reducible refine (HR2.out _ q ch bb pb cc _ N9.out).mono ?_); rintro e w10 ⟨rfl, hp⟩; have N10 := Lib.hid hp; obtain ⟨⟨z0, z1, z2, z3, z4⟩, ⟨r0, r1, r2, r3, r4⟩, q0, q1⟩ := HGC.out _ N10.out.u; clear hp)
    | (go_at_call 21; (with_reducible refine (HP1.out _ q ch bb pb cc _ UB.out N10.out).mono ?_); rintro e w11 ⟨rfl, hp, -⟩; have N11 := Lib.hid hp; obtain ⟨⟨z0, z1, z2, z3, z4⟩, ⟨r0, r1, r2, r3, r4⟩, q0, q1⟩ := HGC.out _ N11.out.u; clear hp))
  obtain ⟨wc, hwc⟩ : ∃ wc, wc = w11.alloc (.cells #[.int .i64 1, .string qa, .int .i64 0] 51) := ⟨_, rfl⟩
  have F11 : Hid (wc.heap[w11.heap.size]? = some (.cells #[.int .i64 1, .string qa, .int .i64 0] 51 (0, 0))) := by rw [hwc]; exact heap_alloc_new w11 _
  have NC : Hid (PN wb q b p c k t ch bb pb M5 cc wc) := by rw [hwc]; exact N11.out.quiet ((Upd.refl _ _).alloc _)
  rw [← hwc]
  generalize w11.heap.size = f1 at *
  clear hwc N11 N10 N9 N8 N7 N6 C5 L5 V5 V3 HSZ HCH HNW HWA HWB HR1 HR2 HP1
  go_upto_region 15 with (first
    | (go_at_call 21; (with_reducible refine (HP2.out _ q ch bb pb cc _ UB.out NC.out).mono ?_); rintro e w12 ⟨rfl, hp, hkf⟩; have N12 := Lib.hid hp; have F12 := Lib.hid (hkf _ _ F11.out); clear hp hkf))
  obtain ⟨wd, hwd⟩ : ∃ wd, wd = w12.alloc (.cells #[.int .i64 1, .string qb, .int .i64 0] 51) := ⟨_, rfl⟩
  have G1 : Hid (wd.heap[f1]? = some (.cells #[.int .i64 1, .string qa, .int .i64 0] 51 (0, 0))) := by rw [hwd]; exact block_alloc F12.out _
  have G2 : Hid (wd.heap[w12.heap.size]? = some (.cells #[.int .i64 1, .string qb, .int .i64 0] 51 (0, 0))) := by rw [hwd]; exact heap_alloc_new w12 _
  have VD : Hid (Upd noBlock wb wd) := by rw [hwd]; exact N12.out.u.alloc _
  rw [← hwd]
  generalize w12.heap.size = f2 at *
  have HZ : Hid (∀ W, Upd noBlock wd W → W.cell? ⟨f1, 1, none⟩ = some (.string qa) ∧ W.cell? ⟨f2, 1, none⟩ = some (.string qb) ∧ W.cell? ⟨A, 4, none⟩ = some (.int .i64 (t : Int))) := fun W hW =>
    ⟨cell_of ((hW.block _ (lt_of_block G1.out) id).trans G1.out) 1, cell_of ((hW.block _ (lt_of_block G2.out) id).trans G2.out) 1, (HGC.out W (VD.out.trans hW)).2.2.2⟩
  have UD : Hid (Upd noBlock w wd) := UB.out.trans VD.out
  have HSA := Lib.hid hpas
  have HSB := Lib.hid hpbs
  have WD : Hid (Upd noBlock wd wd) := Upd.refl _ _
  clear hwd N12 F11 F12 NC HP2 G1 G2 VD z0 z1 z2 z3 z4 r0 r1 r2 r3 r4 q0 q1 k1 HGC UB hpas hpbs
  go_wp2
  go_loopw [23, 24] (fun nn i wr => ∃ kk : Nat, kk ≤ sa.size ∧ i = .int .i64 (kk : Int) ∧ nn = .int .i64 ((unlike fa fb 0 kk : Nat) : Int) ∧ Hid (Upd noBlock wd wr)) (fun _ i _ => sa.size - (intOf i).toNat)
  case atStart => exact ⟨0, Nat.zero_le _, rfl, rfl, WD⟩
  case round =>
    clear WD
    obtain ⟨kk, hk, rfl, rfl, HU⟩ := hrel
    by_cases h0 : kk < sa.size
    · have h0b : kk < sb.size := by rw [HSB.out, ← HSA.out]; exact h0
      have hml := HML.out
      have hsz := HSA.out
      have hln := unlike_le fa fb 0 kk
      have hln2 : unlike fa fb 0 kk ≤ 8608 := by omega
      have HUN : Hid (unlike fa fb 0 (kk + 1) = unlike fa fb 0 kk + pop (fa kk ^^^ fb kk)) := by show _ = _; rw [unlike, Nat.zero_add]
      have hfa8 : fa kk < 256 := by rw [← HFA.out kk h0]; exact sa[kk].toNat_lt
      have hfb8 : fb kk < 256 := by rw [← HFB.out kk h0b]; exact sb[kk].toNat_lt
      have hxr := u8_xor_n (fa kk) (fb kk) hfa8 hfb8
      have hx256 : fa kk ^^^ fb kk < 256 := Nat.xor_lt_two_pow (n := 8) hfa8 hfb8
      rw [← HFA.out kk h0, ← HFB.out kk h0b] at hxr
      rw [← HFA.out kk h0, ← HFB.out kk h0b] at hx256 HUN
      obtain ⟨X, hX⟩ : ∃ X, sa[kk].toNat ^^^ sb[kk].toNat = X := ⟨_, rfl⟩
      rw [hX] at hxr hx256 HUN
      obtain ⟨T, hT⟩ : ∃ T, unlike fa fb 0 kk = T := ⟨_, rfl⟩
      rw [hT] at HUN hln2
      rw [hT]
      have bi0 : (0 : Int) ≤ (kk : Int) := by omega
      have bi1 : (kk : Int) < (sa.size : Int) := by omega
      have bi2 : (kk : Int) < (sb.size : Int) := by omega
      clear hln hsz hml hX hT hfa8 hfb8
      go_upto_region 19 with fail
      go_quiet (fail)
      have HU2 : Hid (Upd noBlock wd (wr.drewN _)) := HU.out.drewN (by assumption)
      clear HU
      go_wp2
      go_loopw [23, 25] (fun t y wr => ∃ (t' y' : Nat), t = .int .i64 (t' : Int) ∧ y = .int .u8 (y' : Int) ∧ y' < 256 ∧ t' ≤ 8700 ∧ Hid (t' + pop y' = T + pop X) ∧ Hid (Upd noBlock wd wr)) (fun _ y _ => (intOf y).toNat)
      case atStart => exact ⟨T, X, rfl, rfl, hx256, by omega, Lib.hid rfl, HU2⟩
      case round =>
        clear HU2
        obtain ⟨t', y', rfl, rfl, hy, ht1000, hsum, HU6⟩ := hrel
        by_cases hy0 : y' = 0
        · have hyb : ((y' : Int) != 0) = false := by rw [hy0]; rfl
          have hte : Hid (unlike fa fb 0 (kk + 1) = t') := Lib.hid (by have h1 := hsum.out; rw [hy0] at h1; have h2 : pop 0 = 0 := rfl; have h3 := HUN.out; omega)
          have hkb : kk < 5000 := by have := HML.out; have := HSA.out; omega
          go_wp2
          go_roundw
          case rel => exact ⟨kk + 1, by omega, by go_num, by rw [hte.out], HU6⟩
          case measure => simp [intOf]; omega
        · have hyb : ((y' : Int) != 0) = true := bne_iff_ne.2 (by omega)
          have hand : bits .and .u8 (y' : Int) 1 = ((y' % 2 : Nat) : Int) := by
            have := u8_and_n y' 1 hy (by omega)
            rw [Nat.and_one_is_mod] at this
            exact this
          obtain ⟨z, hz⟩ : ∃ z, z = y' % 2 := ⟨_, rfl⟩
          rw [← hz] at hand
          have hz2 : z ≤ 1 := by omega
          obtain ⟨v, hv⟩ : ∃ v, v = y' / 2 := ⟨_, rfl⟩
          have hve : (y' : Int) / 2 = (v : Int) := by omega
          have hph : Hid (pop y' = z + pop v) := Lib.hid (by rw [pop_half y' hy, ← hz, ← hv])
          have hvlt : v < y' := by omega
          have ht999 : t' ≤ 8620 := by
            have h1 := hsum.out
            have h2 : pop X ≤ 8 := pop_le8 X
            omega
          clear hz hv
          go_wp2
          go_roundw
          case rel => exact ⟨t' + z, v, by go_num, rfl, by omega, by omega, Lib.hid (by have h1 := hsum.out; have h2 := hph.out; omega), HU6⟩
          case measure => simp [intOf]; omega
    · obtain rfl : kk = sa.size := by omega
      obtain ⟨y0, y1, y2⟩ := HZ.out wr HU.out
      have hbx := HBX.out
      have hbf := HBF.out
      have hln := unlike_le fa fb 0 sa.size
      have hml := HML.out
      have hsz := HSA.out
      rw [← hsz] at hbf
      have hln2 : unlike fa fb 0 sa.size ≤ 8608 := by omega
      obtain ⟨T, hT⟩ : ∃ T, unlike fa fb 0 sa.size = T := ⟨_, rfl⟩
      rw [hT] at hbf hln2
      rw [hT]
      have hi : decide ((sa.size : Int) < (sa.size : Int)) = false := decide_eq_false (by omega)
      have hi2 : decide (sa.size < sa.size) = false := decide_eq_false (by omega)
      clear hln hml hT hsz
      rcases Bool.eq_false_or_eq_true (sa.toList == sb.toList) with hx1 | hx1
      · have hx2 := hbx.trans hx1
        go_wp2_with fail
        go_ret
        exact ⟨rfl, UD.out.trans HU.out⟩
      · have hx2 := hbx.trans hx1
        have hgt : 2 * t < T := by
          rcases hbf with h | h
          · rw [hx1] at h; cases h
          · exact h
        have hd1 : decide (2 * (t : Int) < (T : Int)) = true := decide_eq_true (by omega)
        go_wp2_with fail
        go_ret
        exact ⟨rfl, UD.out.trans HU.out⟩
theorem pageApart_walk (b p c k t : Int) (x y : ByteArray) (w : World) (_ : (Lit.int .i64 b).wf = true) (_ : (Lit.int .i64 p).wf = true) (_ : (Lit.int .i64 c).wf = true) (_ : (Lit.int .i64 k).wf = true) (_ : (Lit.int .i64 t).wf = true) (hx : x.size ≤ 140737488351232) (hy : y.size ≤ 140737488351232) (hT : Tab w) :
    Calls Tryz.prog 8 #[.agg #[.int .i64 b, .int .i64 p, .int .i64 c, .int .i64 k, .int .i64 t], .string x, .string y] w fun e w' => e = .returned (.bool true) ∧ Below w.heap.size w w' := by
  have h : Calls Tryz.prog 8 #[geoV b p c k t, .string x, .string y] w fun e w' => e = .returned (.bool true) ∧ Upd noBlock w w' := by
    by_cases hG : GoodG b p c k t
    · obtain ⟨c', rfl⟩ : ∃ n : Nat, c = (n : Int) := ⟨c.toNat, by have := hG.c1; omega⟩
      obtain ⟨k', rfl⟩ : ∃ n : Nat, k = (n : Int) := ⟨k.toNat, by have := hG.k1; omega⟩
      obtain ⟨t', rfl⟩ : ∃ n : Nat, t = (n : Int) := ⟨t.toNat, by have := hG.t1; omega⟩
      by_cases hl : c' * k' - 7 < x.size
      · exact pageApart_lx b p c' k' t' x y w hT hG hx hy hl
      · by_cases hl2 : c' * k' - 7 < y.size
        · exact pageApart_ly b p c' k' t' x y w hT hG hx hy (by omega) hl2
        · by_cases hb : b < 2
          · exact pageApart_one b p c' k' t' x y w hT hG hx hy (by omega) (by omega) hb
          · exact pageApart_in b p c' k' t' x y w hT hG hx hy (by omega) (by omega) (by omega)
    · exact pageApart_bad b p c k t x y w hT hG
  exact h.mono fun _ _ ⟨he, hu⟩ => ⟨he, hu.below (fun _ _ h => h)⟩
end Go.Proofs.YtnppjfaecnikpaaGreatDoor

/- Read where bits turn; the chip of PageReads. -/
namespace Go.Proofs.YtnppjfaecnikpaaGreatDoor
open F
open Go.RowKit Pm Cm
set_option linter.unusedVariables false
attribute [local irreducible] openL decUp Lib.onesCount parT sealed

/-- Read at a place that is there, the power on, bits turning -/
theorem pread_noise (q : Nat) (b p : Int) (c k t : Nat) (ch bb : Nat) (pb : Nat → Nat) (M : Ch) (cc : Nat) (x y : Int) (i j n seed most : Nat) (hx : x = (i : Int)) (hy : y = (j : Int)) (w : World) (hG : GoodG b p c k t) (h : PgrIn w q b p c k t ch bb pb M cc)
    (hT : ∀ W, Upd (POwn ch bb pb M.nb cc) w W → Tab W) (hF : M.Fit n) (hn : n < 2305843009213693952) (hi : i < M.nb) (hj : j < M.np) (hz : M.sz = rawN t k c) (ho : M.off = false)
    (hse : M.seed = (seed : Int)) (hse2 : seed < 18446744073709551616) (hmo : M.most = (most : Int)) (hm1 : 1 ≤ most) (hm2 : most ≤ 64) (hpc : M.piece = ((k + (13 * t + 7) / 8 : Nat) : Int)) (hst : ((M.bk i).pg j).st ≤ 2) (hd : (((M.bk i).pg j).show M.sz).length = M.sz) :
    Calls Tryz.prog 21 #[.pointer (some ⟨q, 0, none⟩), .int .i64 x, .int .i64 y] w fun e w' => e = .returned (.tuple #[(foundL t k c (pieceL (noisy most (k + (13 * t + 7) / 8) (placeN seed ((M.bk i).rd + 1) i j) (((M.bk i).pg j).show M.sz)) (k + (13 * t + 7) / 8))).val, .int .i64 0]) ∧ PgrIn w' q b p c k t ch bb pb (M.readM i) cc ∧ Upd (POwn ch bb pb M.nb cc) w w' := by
  subst hx hy
  have hr := rawN_pos hG
  have k1 := hG.k1
  have k2 := hG.k2
  have t2 := hG.t2
  refine pread_gen q b p c k t ch bb pb M (M.readM i) cc (i : Int) (j : Int) ⟨(noisy most (k + (13 * t + 7) / 8) (placeN seed ((M.bk i).rd + 1) i j) (((M.bk i).pg j).show M.sz)).toArray⟩ w hG h ?_ hT rfl fun W hW => ?_
  · show (noisy most (k + (13 * t + 7) / 8) (placeN seed ((M.bk i).rd + 1) i j) (((M.bk i).pg j).show M.sz)).toArray.size = _
    rw [List.size_toArray, noisy_len, hd, hz]
  · exact read_noise ch bb pb M i j n seed most (k + (13 * t + 7) / 8) (((M.bk i).pg j).show M.sz) W hW hF hn hi hj ho hse hse2 hmo hm1 hm2 hpc (by omega) (by omega) hd (by omega) (fun w1 h1 => shown_any i j _ hj (by omega) hW.sz hst w1 h1)
/-- PageReads' chip -/
structure NR (M : Ch) (nb np sz seed most s : Nat) (x1 : Pg) (n : Nat) : Prop where
  nb : M.nb = nb
  np : M.np = np
  sz : M.sz = sz
  off : M.off = false
  seed : M.seed = (seed : Int)
  most : M.most = (most : Int)
  piece : M.piece = (s : Int)
  fit : M.Fit n
  pg1 : (M.bk 0).pg 1 = x1
  pg2 : ((M.bk 0).pg 2).st = 0
theorem NR.read {M : Ch} {nb np sz seed most s : Nat} {x1 : Pg} {n : Nat} (h : NR M nb np sz seed most s x1 n) : NR (M.readM 0) nb np sz seed most s x1 (n + 1) :=
  ⟨h.nb, h.np, h.sz, h.off, h.seed, h.most, h.piece, h.fit.read 0, by rw [readM_pg]; exact h.pg1, by rw [readM_pg]; exact h.pg2⟩
theorem NR.first (nb np sz seed most s : Nat) (raw : List UInt8) (si mi pi : Int) (h1 : IntKind.u64.wrap si = (seed : Int)) (h2 : mi = (most : Int)) (h3 : most ≤ 64) (h4 : pi = (s : Int)) : NR ((m1C nb np sz 0 1 raw).noiseM si mi pi) nb np sz seed most s ⟨1, false, raw⟩ 1 := by
  have hf := (m1_fit nb np sz 0 1 raw).noise si mi pi
  obtain ⟨a1, a2, a3, a4, a5⟩ := m1_shape nb np sz 0 1 raw
  refine ⟨a1, a2, a3, a4, h1, ?_, h4, hf, m1_pg nb np sz 0 1 raw, ?_⟩
  · show min mi 64 = _
    omega
  · show (((m1C nb np sz 0 1 raw).bk 0).pg 2).st = 0
    rw [m1_eq]; rfl
theorem NR.spoil {M : Ch} {nb np sz seed most s : Nat} {raw : List UInt8} {n : Nat} (h : NR M nb np sz seed most s ⟨1, false, raw⟩ n) : NR (M.spoilM 0 1) nb np sz seed most s ⟨2, false, []⟩ n := by
  refine ⟨h.nb, h.np, h.sz, h.off, h.seed, h.most, h.piece, h.fit.spoil 0 1, ?_, h.pg2⟩
  show ((M.bk 0).pg 1).spoilW = _
  rw [h.pg1]; rfl
/-- bytes of somebody's stay through a pager's calls -/
def KB (W W' : World) : Prop := ∀ (i : Nat) (a : Array Value) (z : Nat × Nat), W.heap[i]? = some (.cells a 5 z) → W'.heap[i]? = some (.cells a 5 z)
theorem PgrIn.kb {w w' : World} {q : Nat} {b p : Int} {c k t : Nat} {ch bb : Nat} {pb : Nat → Nat} {M : Ch} {cc : Nat} (h : PgrIn w q b p c k t ch bb pb M cc) (hu : Upd (POwn ch bb pb M.nb cc) w w') : KB w w' := fun i a z hg => by
  obtain ⟨x, hx⟩ := h.code.block
  refine (hu.block i (lt_of_block hg) (fun e => ?_)).trans hg
  rcases e with (e1 | e1 | ⟨b, hb, e1⟩) | e1
  · exact apart hg h.chip.top (by decide) e1
  · obtain ⟨z, hz⟩ := row_block h.chip.blks
    exact apart hg hz (by decide) e1
  · obtain ⟨z, hz⟩ := (h.chip.pgs b hb).block
    exact apart hg hz (by decide) e1
  · exact apart hg hx (by decide) e1
theorem Bs.kb {w w' : World} {B : Nat} {v : Value} {l : List UInt8} (h : Bs w B 5 v l) (hu : KB w w') : Bs w' B 5 v l := by
  obtain ⟨g, cap, cur, z, rfl, hB, hg, r⟩ := h
  exact ⟨g, cap, cur, z, rfl, hB, hu g cur z hg, r⟩
theorem NR.pgWritten (t k c : Nat) (b p : Int) (hG : GoodG b p c k t) (l : List UInt8) (hl : l.length ≤ c * k - 7) (nb np seed m : Nat) (hnb : 1 ≤ nb) (hnp : 4 ≤ np) (hs : seed < 18446744073709551616) (hm1 : 1 ≤ m) (hmt : m ≤ t) (wx : World) (hTx : Tab wx)
    (M : Ch) (n q ch bb : Nat) (pb : Nat → Nat) (cc : Nat) (W : World) (hn : n < 1000) (hM : NR M nb np (rawN t k c) seed m (k + (13 * t + 7) / 8) ⟨1, false, pageL t k c l⟩ n) (hW : PN wx q b p c k t ch bb pb M cc W) :
    Calls Tryz.prog 21 #[.pointer (some ⟨q, 0, none⟩), .int .i64 0, .int .i64 1] W fun e w' => ∃ N : Nat, N ≤ c * m ∧ e = .returned (.tuple #[.agg #[.int .i64 1, .string ⟨(padL (c * k - 7) l).toArray⟩, .int .i64 (N : Int)], .int .i64 0]) ∧ PN wx q b p c k t ch bb pb (M.readM 0) cc w' ∧ KF W w' ∧ KB W w' := by
  have hsh : ((M.bk 0).pg 1).show M.sz = pageL t k c l := by rw [hM.pg1]; rfl
  have hpl := pageL_size hG l hl
  have hpl2 : (pageL t k c l).length = rawN t k c := by rw [← hpl]; exact List.size_toArray.symm
  have h9 := pread_noise q b p c k t ch bb pb M cc 0 1 0 1 n seed m rfl rfl W hG hW.i (hW.tab hTx) hM.fit (by omega) (by rw [hM.nb]; omega) (by rw [hM.np]; omega) hM.sz hM.off hM.seed hs hM.most hm1 (by have := hG.t2; omega) hM.piece (by rw [hM.pg1]; show 1 ≤ 2; omega) (by rw [hsh, hM.sz, hpl2])
  rw [hsh] at h9
  obtain ⟨N, hN, hf⟩ := found_noisy hG l hl m (placeN seed ((M.bk 0).rd + 1) 0 1) hm1 hmt
  rw [hf] at h9
  exact h9.mono fun e w' ⟨he, hi, hu⟩ => ⟨N, hN, he, hW.upd hi hu rfl, hW.i.kf hu, hW.i.kb hu⟩
theorem NR.pgErased (t k c : Nat) (b p : Int) (hG : GoodG b p c k t) (x1 : Pg) (nb np seed m : Nat) (hnb : 1 ≤ nb) (hnp : 4 ≤ np) (hs : seed < 18446744073709551616) (hm1 : 1 ≤ m) (hmt : m ≤ t) (wx : World) (hTx : Tab wx)
    (M : Ch) (n q ch bb : Nat) (pb : Nat → Nat) (cc : Nat) (W : World) (hn : n < 1000) (hM : NR M nb np (rawN t k c) seed m (k + (13 * t + 7) / 8) x1 n) (hW : PN wx q b p c k t ch bb pb M cc W) :
    Calls Tryz.prog 21 #[.pointer (some ⟨q, 0, none⟩), .int .i64 0, .int .i64 2] W fun e w' => e = .returned (.tuple #[.agg #[.int .i64 0, .string ⟨#[]⟩, .int .i64 0], .int .i64 0]) ∧ PN wx q b p c k t ch bb pb (M.readM 0) cc w' ∧ KF W w' ∧ KB W w' := by
  have hsh : ((M.bk 0).pg 2).show M.sz = ffL (c * (k + (13 * t + 7) / 8)) := by unfold Pg.show; rw [if_pos hM.pg2, hM.sz]; rfl
  have h9 := pread_noise q b p c k t ch bb pb M cc 0 2 0 2 n seed m rfl rfl W hG hW.i (hW.tab hTx) hM.fit (by omega) (by rw [hM.nb]; omega) (by rw [hM.np]; omega) hM.sz hM.off hM.seed hs hM.most hm1 (by have := hG.t2; omega) hM.piece (by rw [hM.pg2]; omega) (by rw [hsh, hM.sz]; exact List.length_replicate ..)
  rw [hsh, found_erased hG m _ hm1 hmt] at h9
  exact h9.mono fun e w' ⟨he, hi, hu⟩ => ⟨he, hW.upd hi hu rfl, hW.i.kf hu, hW.i.kb hu⟩
theorem NR.pgSpoilt (t k c : Nat) (b p : Int) (hG : GoodG b p c k t) (nb np seed m : Nat) (hnb : 1 ≤ nb) (hnp : 4 ≤ np) (hs : seed < 18446744073709551616) (hm1 : 1 ≤ m) (hmt : m ≤ t) (wx : World) (hTx : Tab wx)
    (M : Ch) (n q ch bb : Nat) (pb : Nat → Nat) (cc : Nat) (W : World) (hn : n < 1000) (hM : NR M nb np (rawN t k c) seed m (k + (13 * t + 7) / 8) ⟨2, false, []⟩ n) (hW : PN wx q b p c k t ch bb pb M cc W) :
    Calls Tryz.prog 21 #[.pointer (some ⟨q, 0, none⟩), .int .i64 0, .int .i64 1] W fun e w' => e = .returned (.tuple #[.agg #[.int .i64 2, .string ⟨#[]⟩, .int .i64 0], .int .i64 0]) ∧ Upd noBlock wx w' := by
  have hsh : ((M.bk 0).pg 1).show M.sz = zzL (c * (k + (13 * t + 7) / 8)) := by rw [hM.pg1, hM.sz]; rfl
  have h9 := pread_noise q b p c k t ch bb pb M cc 0 1 0 1 n seed m rfl rfl W hG hW.i (hW.tab hTx) hM.fit (by omega) (by rw [hM.nb]; omega) (by rw [hM.np]; omega) hM.sz hM.off hM.seed hs hM.most hm1 (by have := hG.t2; omega) hM.piece (by rw [hM.pg1]; show 2 ≤ 2; omega) (by rw [hsh, hM.sz]; exact List.length_replicate ..)
  rw [hsh, found_spoilt hG m _ hm1 hmt] at h9
  exact h9.mono fun e w' ⟨he, hi, hu⟩ => ⟨he, upd_all hW.u hu hW.o⟩
end Go.Proofs.YtnppjfaecnikpaaGreatDoor

/- PageReads. Made by tools/gen_pagereads.py. -/
namespace Go.Proofs.YtnppjfaecnikpaaGreatDoor
open F
open Go.RowKit Pm Cm
set_option linter.unusedVariables false
attribute [local irreducible] openL decUp Lib.onesCount parT sealed

set_option maxRecDepth 100000 in
set_option maxHeartbeats 3200000 in
theorem pageReads_bad (b p c k t x y z : Int) (s : ByteArray) (w : World) (hT : Tab w) (h : ¬ GoodG b p c k t) :
    Calls Tryz.prog 5 #[geoV b p c k t, .string s, .agg #[.int .i64 x, .int .i64 y, .int .i64 z]] w fun e w' => e = .returned (.bool true) ∧ Upd noBlock w w' := by
  have hnot : ∀ (x : Bool) (w : World), (Op.unary .not (.bool x)).run Tryz.prog w = .ok (.bool (!x)) w := fun _ _ => rfl
  have HSP : Hid (∀ W, Upd noBlock w W → Calls Tryz.prog 10 #[] W fun e w' => e = .returned (.bool true) ∧ Upd noBlock W w') := fun W hW => speaks6_any W (hT.upd hW)
  have HGE := Lib.hid (fun W => geometry6 b p c k t W)
  have HCH := Lib.hid (fun W => chip_bad b p c k t W h)
  have HSZ := Lib.hid (fun W => sizes_bad b p c k t W h)
  clear hT h
  unfold geoV at *
  obtain ⟨wa, hwa⟩ : ∃ wa, wa = (w.alloc (.cells #[.int .i64 b, .int .i64 p, .int .i64 c, .int .i64 k, .int .i64 t] 22)).alloc (.cells #[.int .i64 x, .int .i64 y, .int .i64 z] 47) := ⟨_, rfl⟩
  have hA : wa.heap[w.heap.size]? = some (.cells #[.int .i64 b, .int .i64 p, .int .i64 c, .int .i64 k, .int .i64 t] 22 (0, 0)) := by rw [hwa]; exact block_alloc (heap_alloc_new w _) _
  have hA2 : wa.heap[w.heap.size + 1]? = some (.cells #[.int .i64 x, .int .i64 y, .int .i64 z] 47 (0, 0)) := by
    have h9 := heap_alloc_new (w.alloc (.cells #[.int .i64 b, .int .i64 p, .int .i64 c, .int .i64 k, .int .i64 t] 22)) (.cells #[.int .i64 x, .int .i64 y, .int .i64 z] 47)
    rw [World.size_alloc] at h9
    rw [hwa]; exact h9
  have UA : Hid (Upd noBlock w wa) := by rw [hwa]; exact ((Upd.refl _ _).alloc _).alloc _
  have HA := Lib.hid hA
  have HA2 := Lib.hid hA2
  obtain ⟨A, hAe⟩ : ∃ A, A = w.heap.size := ⟨_, rfl⟩
  obtain ⟨A2, hAe2⟩ : ∃ A2, A2 = w.heap.size + 1 := ⟨_, rfl⟩
  rw [← hAe] at HA
  rw [← hAe2] at HA2
  obtain ⟨z0, z1, z2, z3, z4⟩ := geo_cells HA.out
  clear hA hA2
  go_enter Tryz.func5, Tryz.ntmps5
  go_upto_region 1 with fail
  rw [← hwa, ← hAe2, ← hAe]
  clear hwa hAe hAe2
  go_upto_region 4 with (first
    | (go_at_call 10; (with_reducible refine (HSP.out _ UA.out).mono ?_); rintro e w1 ⟨rfl, hu1⟩; have U1 : Hid (Upd noBlock wa w1) := hu1; obtain ⟨z0, z1, z2, z3, z4⟩ := geo_cells ((hu1.block A (lt_of_block HA.out) id).trans HA.out); clear hu1)
    | (go_at_call 11; (with_reducible refine (HGE.out _).mono ?_); rintro e w2 ⟨rfl, hu2⟩; have U2 : Hid (Upd noBlock wa w2) := U1.out.trans hu2; clear hu2))
  clear z0 z1 z2 z3 z4
  obtain ⟨wb, hwb⟩ : ∃ wb, wb = (w2.alloc (.cells #[.int .i64 b, .int .i64 p, .int .i64 c, .int .i64 k, .int .i64 t] 25)).alloc (.cells #[.int .i64 b, .int .i64 p, .int .i64 c, .int .i64 k, .int .i64 t] 26) := ⟨_, rfl⟩
  have hB0 : wb.heap[w2.heap.size]? = some (.cells #[.int .i64 b, .int .i64 p, .int .i64 c, .int .i64 k, .int .i64 t] 25 (0, 0)) := by rw [hwb]; exact block_alloc (heap_alloc_new w2 _) _
  have hB1 : wb.heap[w2.heap.size + 1]? = some (.cells #[.int .i64 b, .int .i64 p, .int .i64 c, .int .i64 k, .int .i64 t] 26 (0, 0)) := by
    have h9 := heap_alloc_new (w2.alloc (.cells #[.int .i64 b, .int .i64 p, .int .i64 c, .int .i64 k, .int .i64 t] 25)) (.cells #[.int .i64 b, .int .i64 p, .int .i64 c, .int .i64 k, .int .i64 t] 26)
    rw [World.size_alloc] at h9
    rw [hwb]; exact h9
  have hU : Upd noBlock wa wb := by rw [hwb]; exact (U2.out.alloc _).alloc _
  have hB2 : wb.heap[A]? = some (.cells #[.int .i64 b, .int .i64 p, .int .i64 c, .int .i64 k, .int .i64 t] 22 (0, 0)) := (hU.block A (lt_of_block HA.out) id).trans HA.out
  have hB3 : wb.heap[A2]? = some (.cells #[.int .i64 x, .int .i64 y, .int .i64 z] 47 (0, 0)) := (hU.block A2 (lt_of_block HA2.out) id).trans HA2.out
  have UB : Hid (Upd noBlock w wb) := UA.out.trans hU
  rw [← hwb]
  generalize w2.heap.size + 1 = g1 at *
  generalize w2.heap.size = g0 at *
  have HGC : Hid (∀ W, Upd noBlock wb W → (W.cell? ⟨g0, 0, none⟩ = some (.int .i64 b) ∧ W.cell? ⟨g0, 1, none⟩ = some (.int .i64 p) ∧ W.cell? ⟨g0, 2, none⟩ = some (.int .i64 c) ∧ W.cell? ⟨g0, 3, none⟩ = some (.int .i64 k) ∧ W.cell? ⟨g0, 4, none⟩ = some (.int .i64 t)) ∧ (W.cell? ⟨g1, 0, none⟩ = some (.int .i64 b) ∧ W.cell? ⟨g1, 1, none⟩ = some (.int .i64 p) ∧ W.cell? ⟨g1, 2, none⟩ = some (.int .i64 c) ∧ W.cell? ⟨g1, 3, none⟩ = some (.int .i64 k) ∧ W.cell? ⟨g1, 4, none⟩ = some (.int .i64 t)) ∧ W.cell? ⟨A, 2, none⟩ = some (.int .i64 c) ∧ W.cell? ⟨A, 4, none⟩ = some (.int .i64 t) ∧ W.cell? ⟨A2, 0, none⟩ = some (.int .i64 x) ∧ W.cell? ⟨A2, 1, none⟩ = some (.int .i64 y)) := fun W hW => by
    have h0 := (hW.block _ (lt_of_block hB0) id).trans hB0
    have h1 := (hW.block _ (lt_of_block hB1) id).trans hB1
    have h2 := (hW.block _ (lt_of_block hB2) id).trans hB2
    have h3 := (hW.block _ (lt_of_block hB3) id).trans hB3
    exact ⟨geo_cells h0, geo_cells h1, cell_of h2 2, cell_of h2 4, cell_of h3 0, cell_of h3 1⟩
  obtain ⟨⟨z0, z1, z2, z3, z4⟩, ⟨r0, r1, r2, r3, r4⟩, q0, q1, s0, s1⟩ := HGC.out _ (Upd.refl _ _)
  clear hB0 hB1 hB2 hB3 hU hwb U1 U2 HA HA2 UA HSP HGE
  go_wp2_with (first
    | (go_at_call 14; (with_reducible refine (HCH.out _).mono ?_); rintro e w5 ⟨rfl, hu⟩; have V5 : Hid (Upd noBlock wb w5) := hu; obtain ⟨⟨z0, z1, z2, z3, z4⟩, ⟨r0, r1, r2, r3, r4⟩, q0, q1, s0, s1⟩ := HGC.out _ hu; clear hu)
    | (go_at_call 13; (with_reducible refine (HSZ.out _).mono ?_); rintro e w7 ⟨rfl, hu⟩; have V7 := Lib.hid (V5.out.trans hu); obtain ⟨⟨z0, z1, z2, z3, z4⟩, ⟨r0, r1, r2, r3, r4⟩, q0, q1, s0, s1⟩ := HGC.out _ V7.out; clear hu))
  go_ret
  exact ⟨rfl, UB.out.trans V7.out⟩
set_option maxRecDepth 100000 in
set_option maxHeartbeats 6400000 in
theorem pageReads_long (b p : Int) (c k t : Nat) (x y z : Int) (s : ByteArray) (w : World) (hT : Tab w) (h : GoodG b p c k t) (hs : s.size ≤ 140737488351232) (hl : c * k - 7 < s.size) :
    Calls Tryz.prog 5 #[geoV b p (c : Int) (k : Int) (t : Int), .string s, .agg #[.int .i64 x, .int .i64 y, .int .i64 z]] w fun e w' => e = .returned (.bool true) ∧ Upd noBlock w w' := by
  have hnot : ∀ (x : Bool) (w : World), (Op.unary .not (.bool x)).run Tryz.prog w = .ok (.bool (!x)) w := fun _ _ => rfl
  have HSP : Hid (∀ W, Upd noBlock w W → Calls Tryz.prog 10 #[] W fun e w' => e = .returned (.bool true) ∧ Upd noBlock W w') := fun W hW => speaks6_any W (hT.upd hW)
  have HTW := Lib.hid (fun W (hW : Upd noBlock w W) => hT.upd hW)
  have HGE := Lib.hid (fun W => geometry6 b p (c : Int) (k : Int) (t : Int) W)
  have hrp := rawN_pos h
  have HSZ := Lib.hid (fun W => sizes_good b p c k t W h)
  have HCH := Lib.hid (fun W => chip_good b p c k t W h)
  have HNW := Lib.hid (fun ch W => pnew_good b p c k t ch W h)
  have HG := Lib.hid h
  obtain ⟨m1, m2, hck⟩ : 16 ≤ c * k ∧ c * k ≤ 1024 ∧ (c : Int) * (k : Int) - 7 = ((c * k - 7 : Nat) : Int) := by
    have c1 := h.c1; have c2 := h.c2; have k1 := h.k1; have k2 := h.k2
    have m1 : 16 ≤ c * k := by have := Nat.mul_le_mul (show 1 ≤ c by omega) (show 16 ≤ k by omega); omega
    exact ⟨m1, Nat.mul_le_mul (show c ≤ 4 by omega) (show k ≤ 256 by omega), toInt_mul c k (by omega)⟩
  obtain ⟨b1, b2, p1, p2, p4, _⟩ := h
  obtain ⟨nb, hnb⟩ : ∃ nb, b.toNat = nb := ⟨_, rfl⟩
  obtain ⟨np, hnp⟩ : ∃ np, p.toNat = np := ⟨_, rfl⟩
  rw [hnb, hnp] at HCH
  have hbn : b = (nb : Int) := by omega
  have hpn : p = (np : Int) := by omega
  rw [hck] at HSZ
  have d1 : decide (c * k - 7 < s.size) = true := decide_eq_true hl
  have d2 : decide (((c * k - 7 : Nat) : Int) < (s.size : Int)) = true := decide_eq_true (by omega)
  obtain ⟨m, hm⟩ : ∃ m, rawN t k c = m := ⟨_, rfl⟩
  obtain ⟨m', hm'⟩ : ∃ m', c * (k + (13 * t + 7) / 8) = m' := ⟨_, rfl⟩
  have hmm : m' = m := by rw [← hm, ← hm']; rfl
  simp only [hm] at *
  simp only [hm', hmm] at HSZ
  obtain ⟨n, hn⟩ : ∃ n, c * k - 7 = n := ⟨_, rfl⟩
  simp only [hn] at *
  have hn2 : n ≤ 1017 := by omega
  have d0 : ((m : Int) == 0) = false := beq_eq_false_iff_ne.2 (by omega)
  clear HTW HG HNW
  clear hm hm' hmm hn hck hnb hnp hbn hpn p4 hT hrp m1 m2
  unfold geoV NewC at *
  obtain ⟨wa, hwa⟩ : ∃ wa, wa = (w.alloc (.cells #[.int .i64 b, .int .i64 p, .int .i64 (c : Int), .int .i64 (k : Int), .int .i64 (t : Int)] 22)).alloc (.cells #[.int .i64 x, .int .i64 y, .int .i64 z] 47) := ⟨_, rfl⟩
  have hA : wa.heap[w.heap.size]? = some (.cells #[.int .i64 b, .int .i64 p, .int .i64 (c : Int), .int .i64 (k : Int), .int .i64 (t : Int)] 22 (0, 0)) := by rw [hwa]; exact block_alloc (heap_alloc_new w _) _
  have hA2 : wa.heap[w.heap.size + 1]? = some (.cells #[.int .i64 x, .int .i64 y, .int .i64 z] 47 (0, 0)) := by
    have h9 := heap_alloc_new (w.alloc (.cells #[.int .i64 b, .int .i64 p, .int .i64 (c : Int), .int .i64 (k : Int), .int .i64 (t : Int)] 22)) (.cells #[.int .i64 x, .int .i64 y, .int .i64 z] 47)
    rw [World.size_alloc] at h9
    rw [hwa]; exact h9
  have UA : Hid (Upd noBlock w wa) := by rw [hwa]; exact ((Upd.refl _ _).alloc _).alloc _
  have HA := Lib.hid hA
  have HA2 := Lib.hid hA2
  obtain ⟨A, hAe⟩ : ∃ A, A = w.heap.size := ⟨_, rfl⟩
  obtain ⟨A2, hAe2⟩ : ∃ A2, A2 = w.heap.size + 1 := ⟨_, rfl⟩
  rw [← hAe] at HA
  rw [← hAe2] at HA2
  obtain ⟨z0, z1, z2, z3, z4⟩ := geo_cells HA.out
  clear hA hA2
  go_enter Tryz.func5, Tryz.ntmps5
  go_upto_region 1 with fail
  rw [← hwa, ← hAe2, ← hAe]
  clear hwa hAe hAe2
  go_upto_region 4 with (first
    | (go_at_call 10; (with_reducible refine (HSP.out _ UA.out).mono ?_); rintro e w1 ⟨rfl, hu1⟩; have U1 : Hid (Upd noBlock wa w1) := hu1; obtain ⟨z0, z1, z2, z3, z4⟩ := geo_cells ((hu1.block A (lt_of_block HA.out) id).trans HA.out); clear hu1)
    | (go_at_call 11; (with_reducible refine (HGE.out _).mono ?_); rintro e w2 ⟨rfl, hu2⟩; have U2 : Hid (Upd noBlock wa w2) := U1.out.trans hu2; clear hu2))
  clear z0 z1 z2 z3 z4
  obtain ⟨wb, hwb⟩ : ∃ wb, wb = (w2.alloc (.cells #[.int .i64 b, .int .i64 p, .int .i64 (c : Int), .int .i64 (k : Int), .int .i64 (t : Int)] 25)).alloc (.cells #[.int .i64 b, .int .i64 p, .int .i64 (c : Int), .int .i64 (k : Int), .int .i64 (t : Int)] 26) := ⟨_, rfl⟩
  have hB0 : wb.heap[w2.heap.size]? = some (.cells #[.int .i64 b, .int .i64 p, .int .i64 (c : Int), .int .i64 (k : Int), .int .i64 (t : Int)] 25 (0, 0)) := by rw [hwb]; exact block_alloc (heap_alloc_new w2 _) _
  have hB1 : wb.heap[w2.heap.size + 1]? = some (.cells #[.int .i64 b, .int .i64 p, .int .i64 (c : Int), .int .i64 (k : Int), .int .i64 (t : Int)] 26 (0, 0)) := by
    have h9 := heap_alloc_new (w2.alloc (.cells #[.int .i64 b, .int .i64 p, .int .i64 (c : Int), .int .i64 (k : Int), .int .i64 (t : Int)] 25)) (.cells #[.int .i64 b, .int .i64 p, .int .i64 (c : Int), .int .i64 (k : Int), .int .i64 (t : Int)] 26)
    rw [World.size_alloc] at h9
    rw [hwb]; exact h9
  have hU : Upd noBlock wa wb := by rw [hwb]; exact (U2.out.alloc _).alloc _
  have hB2 : wb.heap[A]? = some (.cells #[.int .i64 b, .int .i64 p, .int .i64 (c : Int), .int .i64 (k : Int), .int .i64 (t : Int)] 22 (0, 0)) := (hU.block A (lt_of_block HA.out) id).trans HA.out
  have hB3 : wb.heap[A2]? = some (.cells #[.int .i64 x, .int .i64 y, .int .i64 z] 47 (0, 0)) := (hU.block A2 (lt_of_block HA2.out) id).trans HA2.out
  have UB : Hid (Upd noBlock w wb) := UA.out.trans hU
  rw [← hwb]
  generalize w2.heap.size + 1 = g1 at *
  generalize w2.heap.size = g0 at *
  have HGC : Hid (∀ W, Upd noBlock wb W → (W.cell? ⟨g0, 0, none⟩ = some (.int .i64 b) ∧ W.cell? ⟨g0, 1, none⟩ = some (.int .i64 p) ∧ W.cell? ⟨g0, 2, none⟩ = some (.int .i64 (c : Int)) ∧ W.cell? ⟨g0, 3, none⟩ = some (.int .i64 (k : Int)) ∧ W.cell? ⟨g0, 4, none⟩ = some (.int .i64 (t : Int))) ∧ (W.cell? ⟨g1, 0, none⟩ = some (.int .i64 b) ∧ W.cell? ⟨g1, 1, none⟩ = some (.int .i64 p) ∧ W.cell? ⟨g1, 2, none⟩ = some (.int .i64 (c : Int)) ∧ W.cell? ⟨g1, 3, none⟩ = some (.int .i64 (k : Int)) ∧ W.cell? ⟨g1, 4, none⟩ = some (.int .i64 (t : Int))) ∧ W.cell? ⟨A, 2, none⟩ = some (.int .i64 (c : Int)) ∧ W.cell? ⟨A, 4, none⟩ = some (.int .i64 (t : Int)) ∧ W.cell? ⟨A2, 0, none⟩ = some (.int .i64 x) ∧ W.cell? ⟨A2, 1, none⟩ = some (.int .i64 y)) := fun W hW => by
    have h0 := (hW.block _ (lt_of_block hB0) id).trans hB0
    have h1 := (hW.block _ (lt_of_block hB1) id).trans hB1
    have h2 := (hW.block _ (lt_of_block hB2) id).trans hB2
    have h3 := (hW.block _ (lt_of_block hB3) id).trans hB3
    exact ⟨geo_cells h0, geo_cells h1, cell_of h2 2, cell_of h2 4, cell_of h3 0, cell_of h3 1⟩
  obtain ⟨⟨z0, z1, z2, z3, z4⟩, ⟨r0, r1, r2, r3, r4⟩, q0, q1, s0, s1⟩ := HGC.out _ (Upd.refl _ _)
  clear hB0 hB1 hB2 hB3 hU hwb U1 U2 HA HA2 UA HSP HGE
  go_wp2_with (first
    | (go_at_call 14; (with_reducible refine (HCH.out _).mono ?_); rintro e w5 ⟨ch, bb, pb, rfl, hc, hu, hl⟩; have C5 := Lib.hid hc; have L5 : Hid (∀ i, Own ch bb pb nb i → wb.heap.size ≤ i) := hl; have V5 : Hid (Upd noBlock wb w5) := hu; obtain ⟨⟨z0, z1, z2, z3, z4⟩, ⟨r0, r1, r2, r3, r4⟩, q0, q1, s0, s1⟩ := HGC.out _ hu; clear hc hu hl)
    | (go_at_call 13; (with_reducible refine (HSZ.out _).mono ?_); rintro e w6 ⟨rfl, hu⟩; have V6 := Lib.hid (V5.out.trans hu); have C6 := Lib.hid (C5.out.grow hu); obtain ⟨⟨z0, z1, z2, z3, z4⟩, ⟨r0, r1, r2, r3, r4⟩, q0, q1, s0, s1⟩ := HGC.out _ V6.out; clear hu))
  go_ret
  exact ⟨rfl, UB.out.trans V6.out⟩
set_option maxRecDepth 100000 in
set_option maxHeartbeats 6400000 in
theorem pageReads_in (b p : Int) (c k t : Nat) (x y z : Int) (s : ByteArray) (w : World) (hT : Tab w) (h : GoodG b p c k t) (hs : s.size ≤ 140737488351232) (hl : s.size ≤ c * k - 7) :
    Calls Tryz.prog 5 #[geoV b p (c : Int) (k : Int) (t : Int), .string s, .agg #[.int .i64 x, .int .i64 y, .int .i64 z]] w fun e w' => e = .returned (.bool true) ∧ Upd noBlock w w' := by
  have hnot : ∀ (x : Bool) (w : World), (Op.unary .not (.bool x)).run Tryz.prog w = .ok (.bool (!x)) w := fun _ _ => rfl
  have HSP : Hid (∀ W, Upd noBlock w W → Calls Tryz.prog 10 #[] W fun e w' => e = .returned (.bool true) ∧ Upd noBlock W w') := fun W hW => speaks6_any W (hT.upd hW)
  have HTW := Lib.hid (fun W (hW : Upd noBlock w W) => hT.upd hW)
  have HGE := Lib.hid (fun W => geometry6 b p (c : Int) (k : Int) (t : Int) W)
  have hrp := rawN_pos h
  have HSZ := Lib.hid (fun W => sizes_good b p c k t W h)
  have HCH := Lib.hid (fun W => chip_good b p c k t W h)
  have HNW := Lib.hid (fun ch W => pnew_good b p c k t ch W h)
  have HG := Lib.hid h
  obtain ⟨m1, m2, hck⟩ : 16 ≤ c * k ∧ c * k ≤ 1024 ∧ (c : Int) * (k : Int) - 7 = ((c * k - 7 : Nat) : Int) := by
    have c1 := h.c1; have c2 := h.c2; have k1 := h.k1; have k2 := h.k2
    have m1 : 16 ≤ c * k := by have := Nat.mul_le_mul (show 1 ≤ c by omega) (show 16 ≤ k by omega); omega
    exact ⟨m1, Nat.mul_le_mul (show c ≤ 4 by omega) (show k ≤ 256 by omega), toInt_mul c k (by omega)⟩
  obtain ⟨b1, b2, p1, p2, p4, _⟩ := h
  obtain ⟨nb, hnb⟩ : ∃ nb, b.toNat = nb := ⟨_, rfl⟩
  obtain ⟨np, hnp⟩ : ∃ np, p.toNat = np := ⟨_, rfl⟩
  rw [hnb, hnp] at HCH
  have hbn : b = (nb : Int) := by omega
  have hpn : p = (np : Int) := by omega
  rw [hck] at HSZ
  have d1 : decide (c * k - 7 < s.size) = false := decide_eq_false (by omega)
  have d2 : decide (((c * k - 7 : Nat) : Int) < (s.size : Int)) = false := decide_eq_false (by omega)
  have HG2 := HG.out
  obtain ⟨seed, hseed, hseed2⟩ : ∃ seed : Nat, IntKind.u64.wrap x = (seed : Int) ∧ seed < 18446744073709551616 := ⟨(IntKind.u64.wrap x).toNat, by rw [IntKind.wrap_u64]; omega, by rw [IntKind.wrap_u64]; omega⟩
  have tpos : (0 : Int) < (t : Int) := by have := HG2.t1; omega
  have t8 : t ≤ 8 := by have := HG2.t2; omega
  have c4 : c ≤ 4 := by have := HG2.c2; omega
  have c1' : 1 ≤ c := by have := HG2.c1; omega
  have rb1 := Int.tmod_lt_of_pos y tpos
  have rb2 := Int.lt_tmod_of_pos y tpos
  obtain ⟨D, hD⟩ : ∃ D, y.tmod (t : Int) = D := ⟨_, rfl⟩
  rw [hD] at rb1 rb2
  obtain ⟨r, hr, hrt⟩ : ∃ r : Nat, (D + (t : Int)).tmod (t : Int) = (r : Int) ∧ r < t := by
    have e := Int.tmod_eq_emod_of_nonneg (a := D + (t : Int)) (b := (t : Int)) (by omega)
    have b1 := Int.emod_nonneg (D + (t : Int)) (show (t : Int) ≠ 0 by omega)
    have b2 := Int.emod_lt_of_pos (D + (t : Int)) tpos
    exact ⟨((D + (t : Int)).tmod (t : Int)).toNat, by omega, by omega⟩
  obtain ⟨sp, hsp⟩ : ∃ sp, k + (13 * t + 7) / 8 = sp := ⟨_, rfl⟩
  obtain ⟨pl, hpl⟩ : ∃ pl, pageL t k c s.data.toList = pl := ⟨_, rfl⟩
  obtain ⟨s1, s2, s3, s4, s5⟩ := m1_shape nb np (rawN t k c) 0 1 pl
  have hnb1 : 1 ≤ nb := by omega
  have hnp4 : 4 ≤ np := by omega
  have HW1 : Hid (∀ wx q ch bb pb cc W, Upd noBlock w wx → PN wx q b p c k t ch bb pb (newCh nb np (rawN t k c)) cc W → Calls Tryz.prog 18 #[.pointer (some ⟨q, 0, none⟩), .int .i64 0, .int .i64 1, .string s] W fun e w' => e = .returned (.int .i64 0) ∧ PN wx q b p c k t ch bb pb (m1C nb np (rawN t k c) 0 1 pl) cc w') := fun wx q ch bb pb cc W hwx hW => by
    have h9 := write_in q b p c k t ch bb pb (newCh nb np (rawN t k c)) cc 0 1 0 1 0 rfl rfl s W HG.out hW.i ((HTW.out _ hwx).upd hW.u) hl (newCh_fit nb np _) (by decide) (by show 0 < nb; omega) (by show 1 < np; omega) rfl
    rw [m1_e, hpl] at h9
    exact h9.mono fun e w' ⟨he, hi, hu⟩ => ⟨he, hW.upd hi hu s1⟩
  have HNO : Hid (∀ wx q ch bb pb cc W mi pi, mi = ((r + 1 : Nat) : Int) → pi = (sp : Int) → PN wx q b p c k t ch bb pb (m1C nb np (rawN t k c) 0 1 pl) cc W → Calls Tryz.prog 20 #[.pointer (some ⟨ch, 0, none⟩), .int .i64 x, .int .i64 mi, .int .i64 pi] W fun e w' => e = .returned (.tuple #[]) ∧ ∃ M, NR M nb np (rawN t k c) seed (r + 1) sp ⟨1, false, pl⟩ 1 ∧ PN wx q b p c k t ch bb pb M cc w') := fun wx q ch bb pb cc W mi pi hmi hpi hW =>
    (noise_any ch bb pb (m1C nb np (rawN t k c) 0 1 pl) x mi pi W hW.i.chip).mono fun e w' ⟨he, hc, hu⟩ => ⟨he, _, NR.first nb np _ seed (r + 1) sp pl x mi pi hseed hmi (by omega) hpi, hW.upd (hW.i.chipped (upd_own_c hu) hc) (POwn.chip (upd_own_c hu)) rfl⟩
  have HR1 : Hid (∀ wx, Upd noBlock w wx → ∀ M n q ch bb pb cc W, n < 1000 → NR M nb np (rawN t k c) seed (r + 1) sp ⟨1, false, pl⟩ n → PN wx q b p c k t ch bb pb M cc W → Calls Tryz.prog 21 #[.pointer (some ⟨q, 0, none⟩), .int .i64 0, .int .i64 1] W fun e w' => ∃ N : Nat, N ≤ c * (r + 1) ∧ e = .returned (.tuple #[.agg #[.int .i64 1, .string ⟨(padL (c * k - 7) s.data.toList).toArray⟩, .int .i64 (N : Int)], .int .i64 0]) ∧ PN wx q b p c k t ch bb pb (M.readM 0) cc w' ∧ KF W w' ∧ KB W w') := fun wx hwx M n q ch bb pb cc W hn hM hW => by
    subst hpl hsp
    exact NR.pgWritten t k c b p HG.out s.data.toList hl nb np seed (r + 1) hnb1 hnp4 hseed2 (by omega) (by omega) wx (HTW.out _ hwx) M n q ch bb pb cc W hn hM hW
  have HR2 : Hid (∀ wx, Upd noBlock w wx → ∀ M n q ch bb pb cc W, n < 1000 → NR M nb np (rawN t k c) seed (r + 1) sp ⟨1, false, pl⟩ n → PN wx q b p c k t ch bb pb M cc W → Calls Tryz.prog 21 #[.pointer (some ⟨q, 0, none⟩), .int .i64 0, .int .i64 2] W fun e w' => e = .returned (.tuple #[.agg #[.int .i64 0, .string ⟨#[]⟩, .int .i64 0], .int .i64 0]) ∧ PN wx q b p c k t ch bb pb (M.readM 0) cc w' ∧ KF W w' ∧ KB W w') := fun wx hwx M n q ch bb pb cc W hn hM hW => by
    subst hsp
    exact NR.pgErased t k c b p HG.out _ nb np seed (r + 1) hnb1 hnp4 hseed2 (by omega) (by omega) wx (HTW.out _ hwx) M n q ch bb pb cc W hn hM hW
  have HSPO : Hid (∀ wx M n q ch bb pb cc W, NR M nb np (rawN t k c) seed (r + 1) sp ⟨1, false, pl⟩ n → PN wx q b p c k t ch bb pb M cc W → Calls Tryz.prog 22 #[.pointer (some ⟨ch, 0, none⟩), .int .i64 0, .int .i64 1] W fun e w' => e = .returned (.int .i64 0) ∧ NR (M.spoilM 0 1) nb np (rawN t k c) seed (r + 1) sp ⟨2, false, []⟩ n ∧ PN wx q b p c k t ch bb pb (M.spoilM 0 1) cc w') := fun wx M n q ch bb pb cc W hM hW =>
    (spoilC_in ch bb pb M 0 1 W hW.i.chip (by rw [hM.nb]; omega) (by rw [hM.np]; omega)).mono fun e w' ⟨he, hc, hu⟩ => ⟨he, hM.spoil, hW.upd (hW.i.chipped hu hc) (POwn.chip hu) rfl⟩
  have HR3 : Hid (∀ wx, Upd noBlock w wx → ∀ M n q ch bb pb cc W, n < 1000 → NR M nb np (rawN t k c) seed (r + 1) sp ⟨2, false, []⟩ n → PN wx q b p c k t ch bb pb M cc W → Calls Tryz.prog 21 #[.pointer (some ⟨q, 0, none⟩), .int .i64 0, .int .i64 1] W fun e w' => e = .returned (.tuple #[.agg #[.int .i64 2, .string ⟨#[]⟩, .int .i64 0], .int .i64 0]) ∧ Upd noBlock wx w') := fun wx hwx M n q ch bb pb cc W hn hM hW => by
    subst hsp
    exact NR.pgSpoilt t k c b p HG.out nb np seed (r + 1) hnb1 hnp4 hseed2 (by omega) (by omega) wx (HTW.out _ hwx) M n q ch bb pb cc W hn hM hW
  have hraw : ((rawN t k c : Nat) : Int).tdiv (c : Int) = (sp : Int) := by
    have e : ((rawN t k c : Nat) : Int) = (c : Int) * (sp : Int) := by rw [← hsp]; unfold rawN; push_cast; rfl
    rw [e]
    exact Int.mul_tdiv_cancel_left _ (by omega)
  have hrawE : ((rawN t k c : Nat) : Int) / (c : Int) = (sp : Int) := by
    have e : ((rawN t k c : Nat) : Int) = (c : Int) * (sp : Int) := by rw [← hsp]; unfold rawN; push_cast; rfl
    rw [e]
    exact Int.mul_ediv_cancel_left _ (by omega)
  have hcr : c * (r + 1) ≤ 32 := Nat.mul_le_mul c4 (show r + 1 ≤ 8 by omega)
  have hmI : (c : Int) * ((r : Int) + 1) = ((c * (r + 1) : Nat) : Int) := by push_cast; rfl
  have hc0 : ((c : Int) == 0) = false := beq_eq_false_iff_ne.2 (by omega)
  have ht0 : ((t : Int) == 0) = false := beq_eq_false_iff_ne.2 (by omega)
  have hspb : sp ≤ 1000 := by rw [← hsp]; have := HG2.k2; omega
  obtain ⟨Z, hZ⟩ : ∃ Z, c * (r + 1) = Z := ⟨_, rfl⟩
  rw [hZ] at hmI hcr
  simp only [hZ] at HR1
  clear hZ
  have hcn : ¬ c = 0 := by omega
  have hwsp : IntKind.i64.wrap (sp : Int) = (sp : Int) := by rw [IntKind.wrap_i64]; omega
  have hwr : IntKind.i64.wrap ((r : Int) + 1) = ((r + 1 : Nat) : Int) := by rw [IntKind.wrap_i64]; omega
  obtain ⟨CW, CC, hconv, hcu, hcb⟩ := conv_row (P := Tryz.prog) 9 49 5 Tryz.underlying9 Tryz.underlying49 Tryz.underlying5 s (by unfold maxLen; omega)
  obtain ⟨i0, hi0, hz0, hz1, hz2⟩ := byteParts
  clear hseed hseed2 s1 s2 s3 s4 s5 HTW
  obtain ⟨m, hm⟩ : ∃ m, rawN t k c = m := ⟨_, rfl⟩
  obtain ⟨m', hm'⟩ : ∃ m', c * (k + (13 * t + 7) / 8) = m' := ⟨_, rfl⟩
  have hmm : m' = m := by rw [← hm, ← hm']; rfl
  simp only [hm] at *
  simp only [hm', hmm] at HSZ
  obtain ⟨n, hn⟩ : ∃ n, c * k - 7 = n := ⟨_, rfl⟩
  simp only [hn] at *
  have hn2 : n ≤ 1017 := by omega
  have d0 : ((m : Int) == 0) = false := beq_eq_false_iff_ne.2 (by omega)
  generalize m1C nb np m 0 1 pl = M1 at *
  clear hpl hsp HG HG2
  clear hm hm' hmm hn hck hnb hnp hbn hpn p4 hT hrp m1 m2
  unfold geoV NewC at *
  obtain ⟨wa, hwa⟩ : ∃ wa, wa = (w.alloc (.cells #[.int .i64 b, .int .i64 p, .int .i64 (c : Int), .int .i64 (k : Int), .int .i64 (t : Int)] 22)).alloc (.cells #[.int .i64 x, .int .i64 y, .int .i64 z] 47) := ⟨_, rfl⟩
  have hA : wa.heap[w.heap.size]? = some (.cells #[.int .i64 b, .int .i64 p, .int .i64 (c : Int), .int .i64 (k : Int), .int .i64 (t : Int)] 22 (0, 0)) := by rw [hwa]; exact block_alloc (heap_alloc_new w _) _
  have hA2 : wa.heap[w.heap.size + 1]? = some (.cells #[.int .i64 x, .int .i64 y, .int .i64 z] 47 (0, 0)) := by
    have h9 := heap_alloc_new (w.alloc (.cells #[.int .i64 b, .int .i64 p, .int .i64 (c : Int), .int .i64 (k : Int), .int .i64 (t : Int)] 22)) (.cells #[.int .i64 x, .int .i64 y, .int .i64 z] 47)
    rw [World.size_alloc] at h9
    rw [hwa]; exact h9
  have UA : Hid (Upd noBlock w wa) := by rw [hwa]; exact ((Upd.refl _ _).alloc _).alloc _
  have HA := Lib.hid hA
  have HA2 := Lib.hid hA2
  obtain ⟨A, hAe⟩ : ∃ A, A = w.heap.size := ⟨_, rfl⟩
  obtain ⟨A2, hAe2⟩ : ∃ A2, A2 = w.heap.size + 1 := ⟨_, rfl⟩
  rw [← hAe] at HA
  rw [← hAe2] at HA2
  obtain ⟨z0, z1, z2, z3, z4⟩ := geo_cells HA.out
  clear hA hA2
  go_enter Tryz.func5, Tryz.ntmps5
  go_upto_region 1 with fail
  rw [← hwa, ← hAe2, ← hAe]
  clear hwa hAe hAe2
  go_upto_region 4 with (first
    | (go_at_call 10; (with_reducible refine (HSP.out _ UA.out).mono ?_); rintro e w1 ⟨rfl, hu1⟩; have U1 : Hid (Upd noBlock wa w1) := hu1; obtain ⟨z0, z1, z2, z3, z4⟩ := geo_cells ((hu1.block A (lt_of_block HA.out) id).trans HA.out); clear hu1)
    | (go_at_call 11; (with_reducible refine (HGE.out _).mono ?_); rintro e w2 ⟨rfl, hu2⟩; have U2 : Hid (Upd noBlock wa w2) := U1.out.trans hu2; clear hu2))
  clear z0 z1 z2 z3 z4
  obtain ⟨wb, hwb⟩ : ∃ wb, wb = (w2.alloc (.cells #[.int .i64 b, .int .i64 p, .int .i64 (c : Int), .int .i64 (k : Int), .int .i64 (t : Int)] 25)).alloc (.cells #[.int .i64 b, .int .i64 p, .int .i64 (c : Int), .int .i64 (k : Int), .int .i64 (t : Int)] 26) := ⟨_, rfl⟩
  have hB0 : wb.heap[w2.heap.size]? = some (.cells #[.int .i64 b, .int .i64 p, .int .i64 (c : Int), .int .i64 (k : Int), .int .i64 (t : Int)] 25 (0, 0)) := by rw [hwb]; exact block_alloc (heap_alloc_new w2 _) _
  have hB1 : wb.heap[w2.heap.size + 1]? = some (.cells #[.int .i64 b, .int .i64 p, .int .i64 (c : Int), .int .i64 (k : Int), .int .i64 (t : Int)] 26 (0, 0)) := by
    have h9 := heap_alloc_new (w2.alloc (.cells #[.int .i64 b, .int .i64 p, .int .i64 (c : Int), .int .i64 (k : Int), .int .i64 (t : Int)] 25)) (.cells #[.int .i64 b, .int .i64 p, .int .i64 (c : Int), .int .i64 (k : Int), .int .i64 (t : Int)] 26)
    rw [World.size_alloc] at h9
    rw [hwb]; exact h9
  have hU : Upd noBlock wa wb := by rw [hwb]; exact (U2.out.alloc _).alloc _
  have hB2 : wb.heap[A]? = some (.cells #[.int .i64 b, .int .i64 p, .int .i64 (c : Int), .int .i64 (k : Int), .int .i64 (t : Int)] 22 (0, 0)) := (hU.block A (lt_of_block HA.out) id).trans HA.out
  have hB3 : wb.heap[A2]? = some (.cells #[.int .i64 x, .int .i64 y, .int .i64 z] 47 (0, 0)) := (hU.block A2 (lt_of_block HA2.out) id).trans HA2.out
  have UB : Hid (Upd noBlock w wb) := UA.out.trans hU
  rw [← hwb]
  generalize w2.heap.size + 1 = g1 at *
  generalize w2.heap.size = g0 at *
  have HGC : Hid (∀ W, Upd noBlock wb W → (W.cell? ⟨g0, 0, none⟩ = some (.int .i64 b) ∧ W.cell? ⟨g0, 1, none⟩ = some (.int .i64 p) ∧ W.cell? ⟨g0, 2, none⟩ = some (.int .i64 (c : Int)) ∧ W.cell? ⟨g0, 3, none⟩ = some (.int .i64 (k : Int)) ∧ W.cell? ⟨g0, 4, none⟩ = some (.int .i64 (t : Int))) ∧ (W.cell? ⟨g1, 0, none⟩ = some (.int .i64 b) ∧ W.cell? ⟨g1, 1, none⟩ = some (.int .i64 p) ∧ W.cell? ⟨g1, 2, none⟩ = some (.int .i64 (c : Int)) ∧ W.cell? ⟨g1, 3, none⟩ = some (.int .i64 (k : Int)) ∧ W.cell? ⟨g1, 4, none⟩ = some (.int .i64 (t : Int))) ∧ W.cell? ⟨A, 2, none⟩ = some (.int .i64 (c : Int)) ∧ W.cell? ⟨A, 4, none⟩ = some (.int .i64 (t : Int)) ∧ W.cell? ⟨A2, 0, none⟩ = some (.int .i64 x) ∧ W.cell? ⟨A2, 1, none⟩ = some (.int .i64 y)) := fun W hW => by
    have h0 := (hW.block _ (lt_of_block hB0) id).trans hB0
    have h1 := (hW.block _ (lt_of_block hB1) id).trans hB1
    have h2 := (hW.block _ (lt_of_block hB2) id).trans hB2
    have h3 := (hW.block _ (lt_of_block hB3) id).trans hB3
    exact ⟨geo_cells h0, geo_cells h1, cell_of h2 2, cell_of h2 4, cell_of h3 0, cell_of h3 1⟩
  obtain ⟨⟨z0, z1, z2, z3, z4⟩, ⟨r0, r1, r2, r3, r4⟩, q0, q1, s0, s1⟩ := HGC.out _ (Upd.refl _ _)
  clear hB0 hB1 hB2 hB3 hU hwb U1 U2 HA HA2 UA HSP HGE
  go_upto_region 11 with (first
    | (go_at_call 14; (with_reducible refine (HCH.out _).mono ?_); rintro e w5 ⟨ch, bb, pb, rfl, hc, hu, hl⟩; have C5 := Lib.hid hc; have L5 : Hid (∀ i, Own ch bb pb nb i → wb.heap.size ≤ i) := hl; have V5 : Hid (Upd noBlock wb w5) := hu; obtain ⟨⟨z0, z1, z2, z3, z4⟩, ⟨r0, r1, r2, r3, r4⟩, q0, q1, s0, s1⟩ := HGC.out _ hu; clear hc hu hl)
    | (go_at_call 13; (with_reducible refine (HSZ.out _).mono ?_); rintro e w6 ⟨rfl, hu⟩; have V6 := Lib.hid (V5.out.trans hu); have C6 := Lib.hid (C5.out.grow hu); obtain ⟨⟨z0, z1, z2, z3, z4⟩, ⟨r0, r1, r2, r3, r4⟩, q0, q1, s0, s1⟩ := HGC.out _ V6.out; clear hu)
    | (go_at_call 15; (with_reducible refine (HNW.out ch _).mono ?_); rintro e w7 ⟨q, cc, rfl, hp, hcd, hq, hcc, hu⟩; have N7 : Hid (PN wb q b p c k t ch bb pb (newCh nb np m) cc w7) := ⟨⟨hp, C6.out.grow hu, hcd⟩, V6.out.trans hu, fun i hi => hi.elim (fun h => L5.out i h) (fun h => by rw [h]; exact Nat.le_trans V6.out.size hcc)⟩; obtain ⟨⟨z0, z1, z2, z3, z4⟩, ⟨r0, r1, r2, r3, r4⟩, q0, q1, s0, s1⟩ := HGC.out _ N7.out.u; clear hp hcd hq hcc hu)
    | (go_at_call 18; (with_reducible refine (HW1.out _ q ch bb pb cc _ UB.out N7.out).mono ?_); rintro e w8 ⟨rfl, hp⟩; have N8 := Lib.hid hp; obtain ⟨⟨z0, z1, z2, z3, z4⟩, ⟨r0, r1, r2, r3, r4⟩, q0, q1, s0, s1⟩ := HGC.out _ N8.out.u; clear hp))
  clear HSZ HCH HNW HW1 N7 V6 V5 C5 C6 L5
  go_quiet (fail)
  have N9 : Hid (PN wb q b p c k t ch bb pb M1 cc (w8.drewN nq)) := N8.out.quiet ((Upd.refl _ _).drewN nq)
  generalize w8.drewN nq = w9 at *
  obtain ⟨⟨z0, z1, z2, z3, z4⟩, ⟨r0, r1, r2, r3, r4⟩, q0, q1, s0, s1⟩ := HGC.out _ N9.out.u
  clear N8
  go_wp2
  go_still_tail 9, (by kernel_rfl)
  change wpList _ _ _ _ _ w9.drew
  have N10 : Hid (PN wb q b p c k t ch bb pb M1 cc w9.drew) := N9.out.quiet (Upd.refl _ _).drew
  generalize w9.drew = w10 at *
  go_upto_region 13 with (go_at_call 20; (with_reducible refine (HNO.out _ q ch bb pb cc _ _ _ (by first | rfl | (push_cast; rfl)) rfl N10.out).mono ?_); rintro e w11 ⟨rfl, M2, hM, hp⟩; have HM := Lib.hid hM; have N11 := Lib.hid hp; clear hM hp)
  clear N9 N10 HNO q0 q1 s0 s1 z0 z1 z2 z3 z4 r0 r1 r2 r3 r4 hraw hrawE hwsp hc0 ht0 hcn d0 M1
  have WC : Hid (Upd noBlock w11 (CW w11)) := hcu.out w11
  have B0 : Hid (Bs (CW w11) w11.heap.size 5 (.slice (some ⟨w11.heap.size, 0, none⟩) s.size (CC w11)) s.data.toList) := hcb.out w11
  obtain ⟨B, hB⟩ : ∃ B, B = w11.heap.size := ⟨_, rfl⟩
  have HB0 := Lib.hid hB
  go_wp2
  go_loopw [16] (fun v wr => ∃ j : Nat, j ≤ n - s.size ∧ Hid (Bs wr B 5 v (s.data.toList ++ List.replicate j 0)) ∧ Hid (Upd noBlock w11 wr)) (fun v _ => n - lenOf v)
  case atStart => exact ⟨0, Nat.zero_le _, by rw [List.replicate_zero, List.append_nil, HB0.out]; exact B0, WC⟩
  case round =>
    clear B0 WC hconv hcb hcu hB
    obtain ⟨j, hj, HB, HU⟩ := hrel
    have HS0 : Hid (s.data.toList.length = s.size) := rfl
    have hln : (s.data.toList ++ List.replicate j (0 : UInt8)).length = s.size + j := by rw [List.length_append, List.length_replicate, HS0.out]
    have HSN : Hid (s.data.toList ++ List.replicate (j + 1) (0 : UInt8) = (s.data.toList ++ List.replicate j 0) ++ [0]) := by show _ = _; rw [List.replicate_succ', ← List.append_assoc]
    by_cases h0 : j < n - s.size
    · obtain ⟨l, hl⟩ : ∃ l, s.data.toList ++ List.replicate j (0 : UInt8) = l := ⟨_, rfl⟩
      rw [hl] at HB HSN hln
      obtain ⟨gv, cv, rfl, hgv, _⟩ := HB.out.cell
      have d1 : decide (l.length < n) = true := decide_eq_true (by omega)
      have d2 : decide ((l.length : Int) < (n : Int)) = true := decide_eq_true (by omega)
      have HX : Hid ((wr.alloc (.cells #[.int .u8 0] 5)).cell? ⟨wr.heap.size, 0, none⟩ = some (.int .u8 ((0 : UInt8).toNat : Int))) := by show _ = _; rw [cell_of (heap_alloc_new wr _)]; rfl
      have HB2 := Lib.hid (HB.out.grow ((Upd.refl noBlock wr).alloc (.cells #[.int .u8 0] 5)))
      have HU2 := Lib.hid (HU.out.alloc (.cells #[.int .u8 0] 5))
      have hsz : B ≤ wr.heap.size := by rw [HB0.out]; exact HU.out.size
      have HLN : Hid (l.length + 1 ≤ 140737488355328) := by show l.length + 1 ≤ _; omega
      have HLL := Lib.hid hln
      clear HB HU hl hln
      go_wp2_with (at_builtin; refine wpList_append_byte rfl (.tmp 94) (.tmp 95) _ rfl B 5 _ _ rfl HB2.out i0 Tryz.underlying49 hi0 hz0 hz1 hz2 wr.heap.size 0 rfl HX.out HLN.out (by simp; omega) ?_; intro v' w' hb' hu'; have HB3 := Lib.hid hb'; have HU3 := Lib.hid (hu' w11 (Nat.le_of_eq HB0.out.symm) HU2.out); clear hb' hu')
      go_roundw
      case rel => exact ⟨j + 1, by omega, by rw [HSN.out]; exact HB3, HU3⟩
      case measure =>
        obtain ⟨gv', cv', rfl, _, _⟩ := HB3.out.cell
        show n - (l ++ [0]).length < n - l.length
        rw [List.length_append, HLL.out]
        simp
        omega
    · obtain rfl : j = n - s.size := by omega
      have hpd : s.data.toList ++ List.replicate (n - s.size) (0 : UInt8) = padL n s.data.toList := by unfold padL; rw [HS0.out]
      rw [hpd] at HB hln
      obtain ⟨l, hl⟩ : ∃ l, padL n s.data.toList = l := ⟨_, rfl⟩
      rw [hl] at HB hln HR1
      obtain ⟨gv, cv, rfl, hgv, _⟩ := HB.out.cell
      have d1 : decide (l.length < n) = false := decide_eq_false (by omega)
      have d2 : decide ((l.length : Int) < (n : Int)) = false := decide_eq_false (by omega)
      obtain ⟨ls, hls⟩ : ∃ ls : ByteArray, ⟨l.toArray⟩ = ls := ⟨_, rfl⟩
      have HTX : Hid (∀ W, Bs W B 5 (.slice (some ⟨gv, 0, none⟩) l.length cv) l → (convert 49 9 (.slice (some ⟨gv, 0, none⟩) l.length cv)).run Tryz.prog W = .ok (.string ls) W) := fun W hW => by
        rw [← hls]
        exact hW.text (P := Tryz.prog) 49 9 Tryz.underlying49 Tryz.underlying5 Tryz.underlying9
      rw [hls] at HR1
      have NC := Lib.hid (N11.out.quiet HU.out)
      have e1 : (ls.toList == ls.toList) = true := beq_self_eq_true _
      have e2 : (ls.toList != ls.toList) = false := bne_self_eq_false _
      have k0 : ∀ (W : World) (x y z : Value), (W.alloc (.cells #[x, y, z] 51)).cell? ⟨W.heap.size, 0, none⟩ = some x := fun W x y z => cell_of (heap_alloc_new W _) 0
      have k1 : ∀ (W : World) (x y z : Value), (W.alloc (.cells #[x, y, z] 51)).cell? ⟨W.heap.size, 1, none⟩ = some y := fun W x y z => cell_of (heap_alloc_new W _) 1
      have k2 : ∀ (W : World) (x y z : Value), (W.alloc (.cells #[x, y, z] 51)).cell? ⟨W.heap.size, 2, none⟩ = some z := fun W x y z => cell_of (heap_alloc_new W _) 2
      have HCR := Lib.hid hcr
      clear hl hln hls hpd HSN HU N11 h0 hj rb1 rb2 hD hr hrt
      go_upto_region 16 with fail
      go_wp2
      go_loopw [17] (fun i wq => ∃ (kk : Nat) (M : Ch), kk ≤ 4 ∧ i = .int .i64 (kk : Int) ∧ Hid (NR M nb np m seed (r + 1) sp ⟨1, false, pl⟩ (2 * kk + 1)) ∧ Hid (PN wb q b p c k t ch bb pb M cc wq) ∧ Hid (Bs wq B 5 (.slice (some ⟨gv, 0, none⟩) l.length cv) l)) (fun i _ => 4 - (intOf i).toNat)
      case atStart => exact ⟨0, M2, by omega, rfl, HM, NC, HB⟩
      case round =>
        clear HM NC HB M2
        obtain ⟨kk, M, hk, rfl, HM, HN, HB⟩ := hrel
        by_cases h4 : kk < 4
        · have dk : decide ((kk : Int) < 4) = true := decide_eq_true (by omega)
          have dk2 : decide (kk < 4) = true := decide_eq_true (by omega)
          go_upto_region 20 with (go_at_call 21; (with_reducible refine (HR1.out _ UB.out M _ q ch bb pb cc _ (by omega) HM.out HN.out).mono ?_); rintro e w12 ⟨N, hN, rfl, hp, hkf, hkb⟩; have N12 := Lib.hid hp; have B12 := Lib.hid (HB.out.kb hkb); clear hp hkf hkb)
          obtain ⟨wc, hwc⟩ : ∃ wc, wc = w12.alloc (.cells #[.int .i64 1, .string ls, .int .i64 (N : Int)] 51) := ⟨_, rfl⟩
          have F12 : Hid (wc.heap[w12.heap.size]? = some (.cells #[.int .i64 1, .string ls, .int .i64 (N : Int)] 51 (0, 0))) := by rw [hwc]; exact heap_alloc_new w12 _
          have NC : Hid (PN wb q b p c k t ch bb pb (M.readM 0) cc wc) := by rw [hwc]; exact N12.out.quiet ((Upd.refl _ _).alloc _)
          have BC : Hid (Bs wc B 5 (.slice (some ⟨gv, 0, none⟩) l.length cv) l) := by rw [hwc]; exact B12.out.grow ((Upd.refl _ _).alloc _)
          rw [← hwc]
          generalize w12.heap.size = f1 at *
          clear hwc N12 B12 HB HN
          go_upto_region 21 with (go_at_call 21; (with_reducible refine (HR2.out _ UB.out (M.readM 0) _ q ch bb pb cc _ (by omega) HM.out.read NC.out).mono ?_); rintro e w13 ⟨rfl, hp, hkf, hkb⟩; have N13 := Lib.hid hp; have B13 := Lib.hid (BC.out.kb hkb); have F13 := Lib.hid (hkf _ _ F12.out); clear hp hkf hkb)
          obtain ⟨wd, hwd⟩ : ∃ wd, wd = w13.alloc (.cells #[.int .i64 0, .string ⟨#[]⟩, .int .i64 0] 51) := ⟨_, rfl⟩
          have G1 : wd.heap[f1]? = some (.cells #[.int .i64 1, .string ls, .int .i64 (N : Int)] 51 (0, 0)) := by rw [hwd]; exact block_alloc F13.out _
          have G2 : wd.heap[w13.heap.size]? = some (.cells #[.int .i64 0, .string ⟨#[]⟩, .int .i64 0] 51 (0, 0)) := by rw [hwd]; exact heap_alloc_new w13 _
          have ND : Hid (PN wb q b p c k t ch bb pb ((M.readM 0).readM 0) cc wd) := by rw [hwd]; exact N13.out.quiet ((Upd.refl _ _).alloc _)
          have BD : Hid (Bs wd B 5 (.slice (some ⟨gv, 0, none⟩) l.length cv) l) := by rw [hwd]; exact B13.out.grow ((Upd.refl _ _).alloc _)
          rw [← hwd]
          generalize w13.heap.size = f2 at *
          have x0 : wd.cell? ⟨f1, 0, none⟩ = some (.int .i64 1) := cell_of G1 0
          have x1 : wd.cell? ⟨f1, 1, none⟩ = some (.string ls) := cell_of G1 1
          have x2 : wd.cell? ⟨f1, 2, none⟩ = some (.int .i64 (N : Int)) := cell_of G1 2
          have y0 : wd.cell? ⟨f2, 0, none⟩ = some (.int .i64 0) := cell_of G2 0
          have y1 : wd.cell? ⟨f2, 1, none⟩ = some (.string ⟨#[]⟩) := cell_of G2 1
          have y2 : wd.cell? ⟨f2, 2, none⟩ = some (.int .i64 0) := cell_of G2 2
          have q0 : wd.cell? ⟨A, 2, none⟩ = some (.int .i64 (c : Int)) := (HGC.out _ ND.out.u).2.2.1
          have hcv := HTX.out wd BD.out
          have dN : decide ((N : Int) < 0) = false := decide_eq_false (by omega)
          have dN2 : decide (Z < N) = false := decide_eq_false (by omega)
          have dN3 : decide ((Z : Int) < (N : Int)) = false := decide_eq_false (by omega)
          clear hwd N13 B13 F13 F12 BC NC G1 G2
          go_wp2
          go_roundw
          case rel => exact ⟨kk + 1, _, by omega, by go_num, HM.out.read.read, ND, BD⟩
          case measure => simp [intOf]; omega
        · obtain rfl : kk = 4 := by omega
          go_wp2_with (first
            | (go_at_call 22; (with_reducible refine (HSPO.out _ M _ q ch bb pb cc _ HM.out HN.out).mono ?_); rintro e w14 ⟨rfl, hm, hp⟩; have HM14 := Lib.hid hm; have N14 := Lib.hid hp; clear hm hp)
            | (go_at_call 21; (with_reducible refine (HR3.out _ UB.out _ _ q ch bb pb cc _ (by omega) HM14.out N14.out).mono ?_); rintro e w15 ⟨rfl, hu⟩; have U15 := Lib.hid hu; clear hu))
          go_ret
          exact ⟨rfl, (UB.out.trans U15.out).alloc _⟩
theorem pageReads_walk (b p c k t : Int) (s : ByteArray) (x y z : Int) (w : World) (_ : (Lit.int .i64 b).wf = true) (_ : (Lit.int .i64 p).wf = true) (_ : (Lit.int .i64 c).wf = true) (_ : (Lit.int .i64 k).wf = true) (_ : (Lit.int .i64 t).wf = true) (hs : s.size ≤ 140737488351232) (_ : (Lit.int .i64 x).wf = true) (_ : (Lit.int .i64 y).wf = true) (_ : (Lit.int .i64 z).wf = true) (hT : Tab w) :
    Calls Tryz.prog 5 #[.agg #[.int .i64 b, .int .i64 p, .int .i64 c, .int .i64 k, .int .i64 t], .string s, .agg #[.int .i64 x, .int .i64 y, .int .i64 z]] w fun e w' => e = .returned (.bool true) ∧ Below w.heap.size w w' := by
  have h : Calls Tryz.prog 5 #[geoV b p c k t, .string s, .agg #[.int .i64 x, .int .i64 y, .int .i64 z]] w fun e w' => e = .returned (.bool true) ∧ Upd noBlock w w' := by
    by_cases hG : GoodG b p c k t
    · obtain ⟨c', rfl⟩ : ∃ n : Nat, c = (n : Int) := ⟨c.toNat, by have := hG.c1; omega⟩
      obtain ⟨k', rfl⟩ : ∃ n : Nat, k = (n : Int) := ⟨k.toNat, by have := hG.k1; omega⟩
      obtain ⟨t', rfl⟩ : ∃ n : Nat, t = (n : Int) := ⟨t.toNat, by have := hG.t1; omega⟩
      by_cases hl : c' * k' - 7 < s.size
      · exact pageReads_long b p c' k' t' x y z s w hT hG hs hl
      · exact pageReads_in b p c' k' t' x y z s w hT hG hs (by omega)
    · exact pageReads_bad b p c k t x y z s w hT hG
  exact h.mono fun _ _ ⟨he, hu⟩ => ⟨he, hu.below (fun _ _ h => h)⟩
end Go.Proofs.YtnppjfaecnikpaaGreatDoor
