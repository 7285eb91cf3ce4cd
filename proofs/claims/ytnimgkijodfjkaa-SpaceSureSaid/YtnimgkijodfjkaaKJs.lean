/- The law's plan. -/
import Derived.Test.YtnimgkijodfjkaaKJr
namespace Go.Proofs.Ytnimgkijodfjkaa
open Go.RowKit Pm
set_option linter.unusedVariables false

theorem fin_two {a : Act} {W : World} {g g' : Nat} {k0 k1 k2 k3 k4 l0 l1 l2 l3 l4 : Value} {R : Ending → World → Prop} (hp : a.tmps.getD 2 undef = .pointer (some ⟨g, 0, none⟩)) (hq : a.tmps.getD 3 undef = .pointer (some ⟨g', 0, none⟩)) (hd : a.defers = [])
    (hg : W.heap[g]? = some (.cells #[k0, k1, k2, k3, k4] 25 (0, 0))) (hg' : W.heap[g']? = some (.cells #[l0, l1, l2, l3, l4] 30 (0, 0))) (hR : R (.returned (.tuple #[.agg #[k0, k1, k2, k3, k4], .agg #[l0, l1, l2, l3, l4]])) W) :
    bodyPost Try.prog Try.f10 R .ret a W := by
  have hr : (results Try.f10 a.tmps).run Try.prog W = .ok (.tuple #[.agg #[k0, k1, k2, k3, k4], .agg #[l0, l1, l2, l3, l4]]) W := by
    rw [results_cell_cell rfl, hp, hq]
    simp [asAddr, Result.andThen, run_loadVar_row W g _ 25 #[k0, k1, k2, k3, k4] (0, 0) _ hg Try.underlying25 rfl plan1Info, run_loadVar_row W g' _ 30 #[l0, l1, l2, l3, l4] (0, 0) _ hg' Try.underlying30 rfl plan2Info]
  exact bodyPost_ret_by hr hd hR
theorem set5_far {W : World} {g g' : Nat} {O : Obj} (h : W.heap[g']? = some O) (hne : ¬ g' = g) (a b c d e : Value) :
    (((((W.setCell ⟨g, 0, none⟩ a).setCell ⟨g, 1, none⟩ b).setCell ⟨g, 2, none⟩ c).setCell ⟨g, 3, none⟩ d).setCell ⟨g, 4, none⟩ e).heap[g']? = some O := by
  rw [Below.heap_setCell _ _ _ _ hne, Below.heap_setCell _ _ _ _ hne, Below.heap_setCell _ _ _ _ hne, Below.heap_setCell _ _ _ _ hne, Below.heap_setCell _ _ _ _ hne]
  exact h
theorem drew_at {W : World} {g : Nat} {O : Obj} (h : W.heap[g]? = some O) : W.drew.heap[g]? = some O := h
set_option maxRecDepth 100000 in
set_option maxHeartbeats 1600000 in
theorem plan_any (b p c k t j h r y s : Int) (ok : Bool) (w : World) (H1 : Hid (∀ W, Calls Try.prog 6 #[.agg #[.int .i64 b, .int .i64 p, .int .i64 c, .int .i64 k, .int .i64 t]] W fun e w' => e = .returned (.tuple #[.agg #[.int .i64 j, .int .i64 h, .int .i64 r, .int .i64 y, .int .i64 s], .bool ok]) ∧ Upd noBlock W w')) :
    Calls Try.prog 10 #[.agg #[.int .i64 b, .int .i64 p, .int .i64 c, .int .i64 k, .int .i64 t]] w fun e w' => e = .returned (.tuple #[.agg #[.int .i64 j, .int .i64 h, .int .i64 r, .int .i64 y, .int .i64 s], .agg #[.int .i64 j, .int .i64 h, .int .i64 r, .int .i64 y, .int .i64 s]]) ∧ Upd noBlock w w' := by
  obtain ⟨wa, hwa⟩ : ∃ wa, wa = ((w.alloc (.cells #[.int .i64 b, .int .i64 p, .int .i64 c, .int .i64 k, .int .i64 t] 22)).alloc (.cells #[.int .i64 0, .int .i64 0, .int .i64 0, .int .i64 0, .int .i64 0] 25)).alloc (.cells #[.int .i64 0, .int .i64 0, .int .i64 0, .int .i64 0, .int .i64 0] 30) := ⟨_, rfl⟩
  have HA : Hid (wa.heap[w.heap.size]? = some (.cells #[.int .i64 b, .int .i64 p, .int .i64 c, .int .i64 k, .int .i64 t] 22 (0, 0)) ∧ wa.heap[w.heap.size + 1]? = some (.cells #[.int .i64 0, .int .i64 0, .int .i64 0, .int .i64 0, .int .i64 0] 25 (0, 0)) ∧ wa.heap[w.heap.size + 1 + 1]? = some (.cells #[.int .i64 0, .int .i64 0, .int .i64 0, .int .i64 0, .int .i64 0] 30 (0, 0))) := by
    have a1 := heap_alloc_new w (.cells #[.int .i64 b, .int .i64 p, .int .i64 c, .int .i64 k, .int .i64 t] 22)
    have a2 := heap_alloc_new (w.alloc (.cells #[.int .i64 b, .int .i64 p, .int .i64 c, .int .i64 k, .int .i64 t] 22)) (.cells #[.int .i64 0, .int .i64 0, .int .i64 0, .int .i64 0, .int .i64 0] 25)
    have a3 := heap_alloc_new ((w.alloc (.cells #[.int .i64 b, .int .i64 p, .int .i64 c, .int .i64 k, .int .i64 t] 22)).alloc (.cells #[.int .i64 0, .int .i64 0, .int .i64 0, .int .i64 0, .int .i64 0] 25)) (.cells #[.int .i64 0, .int .i64 0, .int .i64 0, .int .i64 0, .int .i64 0] 30)
    simp only [World.size_alloc] at a2 a3
    rw [hwa]
    exact ⟨block_alloc (block_alloc a1 _) _, block_alloc a2 _, a3⟩
  have UA : Hid (Upd noBlock w wa) := by rw [hwa]; exact (((Upd.refl _ _).alloc _).alloc _).alloc _
  have hb0 := fun i => cell_of HA.out.1 i
  go_enter Try.func10, Try.ntmps10
  go_upto_region 1 with fail
  rw [← hwa]
  clear hwa
  go_upto_region 2 with (go_at_call 6; (with_reducible refine (H1.out _).mono ?_); rintro e w2 ⟨rfl, hu⟩; have U2 := Lib.hid hu; clear hu hb0)
  obtain ⟨wb, hwb⟩ : ∃ wb, wb = w2.alloc (.cells #[.int .i64 j, .int .i64 h, .int .i64 r, .int .i64 y, .int .i64 s] 25) := ⟨_, rfl⟩
  have UB : Hid (Upd noBlock wa wb) := by rw [hwb]; exact U2.out.alloc _
  have HP : Hid (wb.heap[w2.heap.size]? = some (.cells #[.int .i64 j, .int .i64 h, .int .i64 r, .int .i64 y, .int .i64 s] 25 (0, 0))) := by rw [hwb]; exact heap_alloc_new w2 _
  rw [← hwb]
  have lsz : Hid (w.heap.size + 1 + 1 < w2.heap.size) := Nat.lt_of_lt_of_le (lt_of_block HA.out.2.2) U2.out.size
  clear hwb
  have Z1 : Hid (wb.heap[w.heap.size + 1]? = some (.cells #[.int .i64 0, .int .i64 0, .int .i64 0, .int .i64 0, .int .i64 0] 25 (0, 0))) := (UB.out.block _ (lt_of_block HA.out.2.1) id).trans HA.out.2.1
  have Z2 : Hid (wb.heap[w.heap.size + 1 + 1]? = some (.cells #[.int .i64 0, .int .i64 0, .int .i64 0, .int .i64 0, .int .i64 0] 30 (0, 0))) := (UB.out.block _ (lt_of_block HA.out.2.2) id).trans HA.out.2.2
  have UW : Hid (Upd noBlock w wb) := UA.out.trans UB.out
  have HK : Hid (∀ W, Upd (fun k => k = w.heap.size + 1 ∨ k = w.heap.size + 1 + 1) wb W → W.cell? ⟨w2.heap.size, 0, none⟩ = some (.int .i64 j) ∧ W.cell? ⟨w2.heap.size, 1, none⟩ = some (.int .i64 h) ∧ W.cell? ⟨w2.heap.size, 2, none⟩ = some (.int .i64 r) ∧ W.cell? ⟨w2.heap.size, 3, none⟩ = some (.int .i64 y) ∧ W.cell? ⟨w2.heap.size, 4, none⟩ = some (.int .i64 s)) := fun W hW => by
    have g := (hW.block _ (lt_of_block HP.out) (fun e => by have := lsz.out; omega)).trans HP.out
    exact ⟨cell_of g 0, cell_of g 1, cell_of g 2, cell_of g 3, cell_of g 4⟩
  have U0 : Hid (Upd (fun k => k = w.heap.size + 1 ∨ k = w.heap.size + 1 + 1) wb wb.drew) := (Upd.refl _ _).drew
  have hc1 := fun i => cell_of Z1.out i
  have hf1 := fun i => free_of Z1.out i
  have hc2 := fun i => cell_of Z2.out i
  have hf2 := fun i => free_of Z2.out i
  have HU1 : Hid (∀ v0 v1 v2 v3 v4 : Value, Upd (fun k => k = w.heap.size + 1 ∨ k = w.heap.size + 1 + 1) wb (((((wb.setCell ⟨w.heap.size + 1, 0, none⟩ v0).setCell ⟨w.heap.size + 1, 1, none⟩ v1).setCell ⟨w.heap.size + 1, 2, none⟩ v2).setCell ⟨w.heap.size + 1, 3, none⟩ v3).setCell ⟨w.heap.size + 1, 4, none⟩ v4).drew) := fun v0 v1 v2 v3 v4 => (upd5 (Upd.refl _ wb) (.inl (.inl rfl)) v0 v1 v2 v3 v4).drew
  have HU2 : Hid (∀ v0 v1 v2 v3 v4 u0 u1 u2 u3 u4 : Value, Upd (fun k => k = w.heap.size + 1 ∨ k = w.heap.size + 1 + 1) wb ((((((((((wb.setCell ⟨w.heap.size + 1, 0, none⟩ v0).setCell ⟨w.heap.size + 1, 1, none⟩ v1).setCell ⟨w.heap.size + 1, 2, none⟩ v2).setCell ⟨w.heap.size + 1, 3, none⟩ v3).setCell ⟨w.heap.size + 1, 4, none⟩ v4).setCell ⟨w.heap.size + 1 + 1, 0, none⟩ u0).setCell ⟨w.heap.size + 1 + 1, 1, none⟩ u1).setCell ⟨w.heap.size + 1 + 1, 2, none⟩ u2).setCell ⟨w.heap.size + 1 + 1, 3, none⟩ u3).setCell ⟨w.heap.size + 1 + 1, 4, none⟩ u4).drew) := fun v0 v1 v2 v3 v4 u0 u1 u2 u3 u4 => (upd5 (upd5 (Upd.refl _ wb) (.inl (.inl rfl)) v0 v1 v2 v3 v4) (.inl (.inr rfl)) u0 u1 u2 u3 u4).drew
  have HE1 : Hid (((((((((((wb.setCell ⟨w.heap.size + 1, 0, none⟩ (.int .i64 j)).setCell ⟨w.heap.size + 1, 1, none⟩ (.int .i64 h)).setCell ⟨w.heap.size + 1, 2, none⟩ (.int .i64 r)).setCell ⟨w.heap.size + 1, 3, none⟩ (.int .i64 y)).setCell ⟨w.heap.size + 1, 4, none⟩ (.int .i64 s)).setCell ⟨w.heap.size + 1 + 1, 0, none⟩ (.int .i64 j)).setCell ⟨w.heap.size + 1 + 1, 1, none⟩ (.int .i64 h)).setCell ⟨w.heap.size + 1 + 1, 2, none⟩ (.int .i64 r)).setCell ⟨w.heap.size + 1 + 1, 3, none⟩ (.int .i64 y)).setCell ⟨w.heap.size + 1 + 1, 4, none⟩ (.int .i64 s)).drew.heap[w.heap.size + 1]? = some (.cells #[.int .i64 j, .int .i64 h, .int .i64 r, .int .i64 y, .int .i64 s] 25 (0, 0))) := by
    have e := set5_far (set5 Z1.out rfl (.int .i64 j) (.int .i64 h) (.int .i64 r) (.int .i64 y) (.int .i64 s)) (show ¬ w.heap.size + 1 = w.heap.size + 1 + 1 by omega) (.int .i64 j) (.int .i64 h) (.int .i64 r) (.int .i64 y) (.int .i64 s)
    exact drew_at e
  have HE2 : Hid (((((((((((wb.setCell ⟨w.heap.size + 1, 0, none⟩ (.int .i64 j)).setCell ⟨w.heap.size + 1, 1, none⟩ (.int .i64 h)).setCell ⟨w.heap.size + 1, 2, none⟩ (.int .i64 r)).setCell ⟨w.heap.size + 1, 3, none⟩ (.int .i64 y)).setCell ⟨w.heap.size + 1, 4, none⟩ (.int .i64 s)).setCell ⟨w.heap.size + 1 + 1, 0, none⟩ (.int .i64 j)).setCell ⟨w.heap.size + 1 + 1, 1, none⟩ (.int .i64 h)).setCell ⟨w.heap.size + 1 + 1, 2, none⟩ (.int .i64 r)).setCell ⟨w.heap.size + 1 + 1, 3, none⟩ (.int .i64 y)).setCell ⟨w.heap.size + 1 + 1, 4, none⟩ (.int .i64 s)).drew.heap[w.heap.size + 1 + 1]? = some (.cells #[.int .i64 j, .int .i64 h, .int .i64 r, .int .i64 y, .int .i64 s] 30 (0, 0))) := by
    have e := set5 (set5_far Z2.out (show ¬ w.heap.size + 1 + 1 = w.heap.size + 1 by omega) (.int .i64 j) (.int .i64 h) (.int .i64 r) (.int .i64 y) (.int .i64 s)) rfl (.int .i64 j) (.int .i64 h) (.int .i64 r) (.int .i64 y) (.int .i64 s)
    exact drew_at e
  have HE3 : Hid (Upd noBlock w ((((((((((wb.setCell ⟨w.heap.size + 1, 0, none⟩ (.int .i64 j)).setCell ⟨w.heap.size + 1, 1, none⟩ (.int .i64 h)).setCell ⟨w.heap.size + 1, 2, none⟩ (.int .i64 r)).setCell ⟨w.heap.size + 1, 3, none⟩ (.int .i64 y)).setCell ⟨w.heap.size + 1, 4, none⟩ (.int .i64 s)).setCell ⟨w.heap.size + 1 + 1, 0, none⟩ (.int .i64 j)).setCell ⟨w.heap.size + 1 + 1, 1, none⟩ (.int .i64 h)).setCell ⟨w.heap.size + 1 + 1, 2, none⟩ (.int .i64 r)).setCell ⟨w.heap.size + 1 + 1, 3, none⟩ (.int .i64 y)).setCell ⟨w.heap.size + 1 + 1, 4, none⟩ (.int .i64 s)).drew) := (upd5 (upd5 UW.out (.inr (by omega)) (.int .i64 j) (.int .i64 h) (.int .i64 r) (.int .i64 y) (.int .i64 s)) (.inr (by omega)) (.int .i64 j) (.int .i64 h) (.int .i64 r) (.int .i64 y) (.int .i64 s)).drew
  clear H1 HA UA U2 UB HP
  go_region_held3 (fun W => W.cell? ⟨w2.heap.size, 0, none⟩ = some (.int .i64 j) ∧ W.cell? ⟨w2.heap.size, 1, none⟩ = some (.int .i64 h) ∧ W.cell? ⟨w2.heap.size, 2, none⟩ = some (.int .i64 r) ∧ W.cell? ⟨w2.heap.size, 3, none⟩ = some (.int .i64 y) ∧ W.cell? ⟨w2.heap.size, 4, none⟩ = some (.int .i64 s))
    (first | (with_reducible exact HK.out _ U0.out) | (with_reducible exact HK.out _ (HU1.out _ _ _ _ _)) | (with_reducible exact HK.out _ (HU2.out _ _ _ _ _ _ _ _ _ _)))
    (fail)
  all_goals
    go_wp2_with fail
    have h1 := HE1.out
    have h2 := HE2.out
    have h3 := HE3.out
    clear HE1 HE2 HE3
    generalize World.drew _ = Wf at *
    exact fin_two rfl rfl rfl h1 h2 ⟨rfl, h3⟩
end Go.Proofs.Ytnimgkijodfjkaa
