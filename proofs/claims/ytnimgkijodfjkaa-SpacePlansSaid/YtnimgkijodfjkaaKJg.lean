/- The law SpacePlans, walked. -/
import Derived.Test.YtnimgkijodfjkaaKJf
import Derived.Test.YtnimgkijodfjkaaKAr
namespace Go.Proofs.Ytnimgkijodfjkaa
open Go.RowKit Pm
set_option linter.unusedVariables false

set_option maxRecDepth 100000 in
set_option maxHeartbeats 1600000 in
theorem spacePlans_upd (b p c k t : Int) (w : World) :
    Calls Try.prog 3 #[.agg #[.int .i64 b, .int .i64 p, .int .i64 c, .int .i64 k, .int .i64 t]] w fun e w' => e = .returned (.bool true) ∧ Upd noBlock w w' := by
  obtain ⟨j, y, s, h, r, N, ok, h1, h2, h3, h4⟩ := plans_any b p c k t
  have HSP := Lib.hid speaks17_any
  generalize (h : Int) = h at *
  generalize (r : Int) = r at *
  unfold CallsOf CallsCap geoV planV at *
  have H1 := Lib.hid h1
  have H2 := Lib.hid h2
  have H3 := Lib.hid h3
  have H4 := Lib.hid h4
  clear h1 h2 h3 h4
  obtain ⟨wa, hwa⟩ : ∃ wa, wa = w.alloc (.cells #[.int .i64 b, .int .i64 p, .int .i64 c, .int .i64 k, .int .i64 t] 22) := ⟨_, rfl⟩
  have HG : Hid (wa.heap[w.heap.size]? = some (.cells #[.int .i64 b, .int .i64 p, .int .i64 c, .int .i64 k, .int .i64 t] 22 (0, 0))) := by rw [hwa]; exact heap_alloc_new w _
  have UA : Hid (Upd noBlock w wa) := by rw [hwa]; exact (Upd.refl _ _).alloc _
  have HF : Hid (∀ W, Upd noBlock wa W → W.heap[w.heap.size]? = some (.cells #[.int .i64 b, .int .i64 p, .int .i64 c, .int .i64 k, .int .i64 t] 22 (0, 0))) := fun W hW => (hW.block _ (lt_of_block HG.out) id).trans HG.out
  go_enter Try.func3, Try.ntmps3
  go_upto_region 1 with fail
  rw [← hwa]
  clear hwa
  go_upto_region 3 with (go_at_call 5; (with_reducible refine (HSP.out _).mono ?_); rintro e w1 ⟨rfl, hu⟩; have U1 := Lib.hid hu; have g1 := HF.out _ hu; have hb1 := fun i => cell_of g1 i; clear hu g1)
  go_upto_region 4 with (go_at_call 6; (with_reducible refine (H1.out _).mono ?_); rintro e w2 ⟨rfl, hu⟩; have U2 := Lib.hid (U1.out.trans hu); clear hu hb1)
  obtain ⟨wb, hwb⟩ : ∃ wb, wb = w2.alloc (.cells #[.int .i64 j, .int .i64 h, .int .i64 r, .int .i64 y, .int .i64 s] 25) := ⟨_, rfl⟩
  have HB : Hid (wb.heap[w2.heap.size]? = some (.cells #[.int .i64 j, .int .i64 h, .int .i64 r, .int .i64 y, .int .i64 s] 25 (0, 0))) := by rw [hwb]; exact heap_alloc_new w2 _
  have UB : Hid (Upd noBlock wa wb) := by rw [hwb]; exact U2.out.alloc _
  rw [← hwb]
  clear hwb
  have gb := HF.out _ UB.out
  have hb2 := fun i => cell_of gb i
  clear gb
  go_upto_region 5 with (go_at_call 7; (with_reducible refine (H2.out _).mono ?_); rintro e w3 ⟨rfl, hu⟩; have U3 := Lib.hid (UB.out.trans hu); have B3 : Hid (w3.heap[w2.heap.size]? = some (.cells #[.int .i64 j, .int .i64 h, .int .i64 r, .int .i64 y, .int .i64 s] 25 (0, 0))) := (hu.block _ (lt_of_block HB.out) id).trans HB.out; clear hu hb2)
  obtain ⟨wc, hwc⟩ : ∃ wc, wc = w3.alloc (.cells #[.int .i64 j, .int .i64 h, .int .i64 r, .int .i64 y, .int .i64 s] 30) := ⟨_, rfl⟩
  have HC : Hid (wc.heap[w3.heap.size]? = some (.cells #[.int .i64 j, .int .i64 h, .int .i64 r, .int .i64 y, .int .i64 s] 30 (0, 0))) := by rw [hwc]; exact heap_alloc_new w3 _
  have BC : Hid (wc.heap[w2.heap.size]? = some (.cells #[.int .i64 j, .int .i64 h, .int .i64 r, .int .i64 y, .int .i64 s] 25 (0, 0))) := by rw [hwc]; exact block_alloc B3.out _
  have UC : Hid (Upd noBlock w wc) := by rw [hwc]; exact (UA.out.trans U3.out).alloc _
  rw [← hwc]
  clear hwc
  have HK : Hid (∀ W, Upd noBlock wc W → W.cell? ⟨w2.heap.size, 0, none⟩ = some (.int .i64 j) ∧ W.cell? ⟨w2.heap.size, 1, none⟩ = some (.int .i64 h) ∧ W.cell? ⟨w2.heap.size, 2, none⟩ = some (.int .i64 r) ∧ W.cell? ⟨w2.heap.size, 3, none⟩ = some (.int .i64 y) ∧ W.cell? ⟨w2.heap.size, 4, none⟩ = some (.int .i64 s) ∧ W.cell? ⟨w3.heap.size, 0, none⟩ = some (.int .i64 j) ∧ W.cell? ⟨w3.heap.size, 1, none⟩ = some (.int .i64 h) ∧ W.cell? ⟨w3.heap.size, 2, none⟩ = some (.int .i64 r) ∧ W.cell? ⟨w3.heap.size, 3, none⟩ = some (.int .i64 y) ∧ W.cell? ⟨w3.heap.size, 4, none⟩ = some (.int .i64 s) ∧ Hid (Upd noBlock wc W)) := fun W hW => by
    have e1 := (hW.block _ (lt_of_block BC.out) id).trans BC.out
    have e2 := (hW.block _ (lt_of_block HC.out) id).trans HC.out
    exact ⟨cell_of e1 0, cell_of e1 1, cell_of e1 2, cell_of e1 3, cell_of e1 4, cell_of e2 0, cell_of e2 1, cell_of e2 2, cell_of e2 3, cell_of e2 4, hW⟩
  have U0 : Hid (Upd noBlock wc wc) := Upd.refl _ _
  clear HSP H1 H2 HG UA HF U1 U2 HB UB U3 B3 HC BC
  go_region_held3 (fun W => W.cell? ⟨w2.heap.size, 0, none⟩ = some (.int .i64 j) ∧ W.cell? ⟨w2.heap.size, 1, none⟩ = some (.int .i64 h) ∧ W.cell? ⟨w2.heap.size, 2, none⟩ = some (.int .i64 r) ∧ W.cell? ⟨w2.heap.size, 3, none⟩ = some (.int .i64 y) ∧ W.cell? ⟨w2.heap.size, 4, none⟩ = some (.int .i64 s) ∧ W.cell? ⟨w3.heap.size, 0, none⟩ = some (.int .i64 j) ∧ W.cell? ⟨w3.heap.size, 1, none⟩ = some (.int .i64 h) ∧ W.cell? ⟨w3.heap.size, 2, none⟩ = some (.int .i64 r) ∧ W.cell? ⟨w3.heap.size, 3, none⟩ = some (.int .i64 y) ∧ W.cell? ⟨w3.heap.size, 4, none⟩ = some (.int .i64 s) ∧ Hid (Upd noBlock wc W))
    (first | exact HK.out _ U0.out | exact HK.out _ U0.out.drew | exact HK.out _ SB.out | exact HK.out _ SA.out)
    (first
      | (go_at_call 8; (with_reducible refine (H3.out _).mono ?_); rintro e w5 ⟨rfl, hu5⟩; (first | (have SB : Hid (Upd noBlock wc w5) := SA.out.trans hu5) | (have SA : Hid (Upd noBlock wc w5) := U0.out.drew.trans hu5)); clear hu5)
      | (go_at_call 9; (with_reducible refine (H4.out _).mono ?_); rintro e w5 ⟨rfl, hu5⟩; (first | (have SB : Hid (Upd noBlock wc w5) := SA.out.trans hu5) | (have SA : Hid (Upd noBlock wc w5) := U0.out.drew.trans hu5)); clear hu5))
  all_goals
    go_wp2_with fail
    go_ret
    exact ⟨rfl, UC.out.trans SB.out⟩
theorem spacePlans_walk (b p c k t : Int) (w : World) (_ : (Lit.int IntKind.i64 b).wf = true) (_ : (Lit.int IntKind.i64 p).wf = true) (_ : (Lit.int IntKind.i64 c).wf = true) (_ : (Lit.int IntKind.i64 k).wf = true) (_ : (Lit.int IntKind.i64 t).wf = true) :
    Calls Try.prog 3 #[.agg #[.int .i64 b, .int .i64 p, .int .i64 c, .int .i64 k, .int .i64 t]] w fun e w' => e = .returned (.bool true) ∧ Below w.heap.size w w' :=
  (spacePlans_upd b p c k t w).mono fun _ _ ⟨h, hu⟩ => ⟨h, hu.below (fun _ _ h => h)⟩
end Go.Proofs.Ytnimgkijodfjkaa
