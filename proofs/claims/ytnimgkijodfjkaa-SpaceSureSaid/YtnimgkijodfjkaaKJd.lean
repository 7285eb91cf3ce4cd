/- Plans that are there; the document's plan. -/
import Derived.Test.YtnimgkijodfjkaaKJc
namespace Go.Proofs.Ytnimgkijodfjkaa
open Go.RowKit Pm
set_option linter.unusedVariables false
set_option maxRecDepth 100000 in
set_option maxHeartbeats 1600000 in
theorem spaceOf_yes (b p c k t x y j h r s : Int) (w : World) (HRAW : Hid (∀ W, Calls Try.prog 12 #[geoV b p c k t] W fun e w' => e = .returned (.tuple #[.int .i64 x, .int .i64 y]) ∧ Upd noBlock W w'))
    (b1 : 12 ≤ b) (b2 : b ≤ 64) (p1 : 16 ≤ p) (y1 : 249 ≤ y) (hj : ((b / 8 < 2) ∧ j = 2) ∨ (¬ (b / 8 < 2) ∧ j = b / 8)) (hh : h = (b - j - 4) / 2) (hr : r = ((Pr.DL p false).length : Int) - 2) (hs : s = ((Pr.DL p true).length : Int) - 2) :
    Calls Try.prog 6 #[geoV b p c k t] w fun e w' => e = .returned (.tuple #[planV j h r y s, .bool true]) ∧ Upd noBlock w w' := by
  have HROOM1 : Hid (∀ W, Calls Try.prog 13 #[.int .i64 p, .bool false] W fun e w' => e = .returned (.int .i64 r) ∧ Upd noBlock W w') := fun W => by rw [hr]; exact room_any p false W
  have HROOM2 : Hid (∀ W, Calls Try.prog 13 #[.int .i64 p, .bool true] W fun e w' => e = .returned (.int .i64 s) ∧ Upd noBlock W w') := fun W => by rw [hs]; exact room_any p true W
  have j1 : 2 ≤ j ∧ j ≤ 8 := by omega
  have hm : max (b / 8) 2 = j := by omega
  have hif : (if b / 8 < 2 then 2 else b / 8) = j := by split <;> omega
  clear hr hs
  have HW : Hid (IntKind.i64.wrap ((IntKind.i64.wrap (IntKind.i64.wrap (b - j) - 4)).tdiv 2) = h) := by
    have e1 : IntKind.i64.wrap (b - j) = b - j := by rw [IntKind.wrap_i64]; omega
    have e2 : IntKind.i64.wrap (b - j - 4) = b - j - 4 := by rw [IntKind.wrap_i64]; omega
    show _ = _
    rw [e1, e2, Int.tdiv_eq_ediv_of_nonneg (by omega), ← hh, IntKind.wrap_i64]; omega
  have HH := Lib.hid hh
  have HM := Lib.hid hm
  have HIF := Lib.hid hif
  clear hj hh hm hif
  unfold geoV planV at *
  obtain ⟨wa, hwa⟩ : ∃ wa, wa = (w.alloc (.cells #[.int .i64 b, .int .i64 p, .int .i64 c, .int .i64 k, .int .i64 t] 29)).alloc (.cells #[.int .i64 0, .int .i64 0, .int .i64 0, .int .i64 0, .int .i64 0] 25) := ⟨_, rfl⟩
  have HG : Hid (wa.heap[w.heap.size]? = some (.cells #[.int .i64 b, .int .i64 p, .int .i64 c, .int .i64 k, .int .i64 t] 29 (0, 0))) := by rw [hwa]; exact block_alloc (heap_alloc_new w _) _
  have HZ : Hid (wa.heap[w.heap.size + 1]? = some (.cells #[.int .i64 0, .int .i64 0, .int .i64 0, .int .i64 0, .int .i64 0] 25 (0, 0))) := by
    rw [hwa]; have := heap_alloc_new (w.alloc (.cells #[.int .i64 b, .int .i64 p, .int .i64 c, .int .i64 k, .int .i64 t] 29)) (.cells #[.int .i64 0, .int .i64 0, .int .i64 0, .int .i64 0, .int .i64 0] 25)
    rw [show (w.alloc (.cells #[.int .i64 b, .int .i64 p, .int .i64 c, .int .i64 k, .int .i64 t] 29)).heap.size = w.heap.size + 1 from Array.size_push ..] at this; exact this
  have UA : Hid (Upd noBlock w wa) := by rw [hwa]; exact ((Upd.refl _ _).alloc _).alloc _
  have HF : Hid (∀ W, Upd noBlock wa W → W.heap[w.heap.size]? = some (.cells #[.int .i64 b, .int .i64 p, .int .i64 c, .int .i64 k, .int .i64 t] 29 (0, 0)) ∧ W.heap[w.heap.size + 1]? = some (.cells #[.int .i64 0, .int .i64 0, .int .i64 0, .int .i64 0, .int .i64 0] 25 (0, 0))) := fun W hW =>
    ⟨(hW.block _ (lt_of_block HG.out) id).trans HG.out, (hW.block _ (lt_of_block HZ.out) id).trans HZ.out⟩
  have hb0 := fun i => cell_of HG.out i
  go_enter Try.func6, Try.ntmps6
  go_upto_region 1 with fail
  rw [← hwa]
  clear hwa
  go_upto_region 2 with (go_at_call 12; (with_reducible refine (HRAW.out _).mono ?_); rintro e w2 ⟨rfl, hu2⟩; obtain ⟨g2, z2⟩ := HF.out _ hu2; have U2 := Lib.hid hu2; clear hu2)
  clear hb0
  have hb2 := fun i => cell_of g2 i
  clear g2 z2 HRAW
  go_upto_region 4 with fail
  go_cut [6] from 27 to 29 (fun v wx => v = .int .i64 j ∧ w2 = wx)
  case first =>
    have hif := HIF.out
    have hm := HM.out
    clear j1
    go_wp2_with fail
    go_meet
    first
      | exact ⟨rfl, rfl⟩
      | exact ⟨congrArg (Value.int .i64) hif, rfl⟩
      | exact ⟨congrArg (Value.int .i64) hm, rfl⟩
  case rest =>
    obtain ⟨rfl, rfl⟩ := hcut
    have hh := HH.out.symm
    have HB : Hid (∀ W, Hid (Upd (oneBlock (w.heap.size + 1)) wa W) → W.cell? ⟨w.heap.size, 0, none⟩ = some (.int .i64 b) ∧ W.cell? ⟨w.heap.size, 1, none⟩ = some (.int .i64 p) ∧ Hid (Upd (oneBlock (w.heap.size + 1)) wa W)) := fun W hW => by
      have hg := (hW.out.block w.heap.size (lt_of_block HG.out) (fun e => absurd e (by show ¬ w.heap.size = w.heap.size + 1; omega))).trans HG.out
      exact ⟨cell_of hg 0, cell_of hg 1, hW⟩
    clear hb2
    go_upto_region 5 with fail
    go_region_held3 (fun W => W.cell? ⟨w.heap.size, 0, none⟩ = some (.int .i64 b) ∧ W.cell? ⟨w.heap.size, 1, none⟩ = some (.int .i64 p) ∧ Hid (Upd (oneBlock (w.heap.size + 1)) wa W))
      (first | exact HB.out _ U2.out.one | exact HB.out _ U2.out.drew.one | exact HB.out _ (upd5 SB.out.one (.inl rfl) _ _ _ _ _) | exact HB.out _ SB.out.one | exact HB.out _ SA.out.one)
      (first
        | (go_at_call 13; (first | (with_reducible refine (HROOM1.out _).mono ?_) | (with_reducible refine (HROOM2.out _).mono ?_)); rintro e w5 ⟨rfl, hu5⟩;
            (first
              | (have SB : Hid (Upd noBlock wa w5) := SA.out.trans hu5; have z5 := (HF.out _ SB.out).2; have Z5 := Lib.hid z5; have hc5 := fun i => cell_of z5 i; have hf5 := fun i => free_of z5 i; clear z5)
              | (have SA : Hid (Upd noBlock wa w5) := U2.out.drew.trans hu5)); clear hu5))
    all_goals
      go_wp2_with fail
      exact fin_plan1 rfl rfl rfl rfl (set5 Z5.out rfl _ _ _ _ _) ⟨by rw [HW.out]; try rfl, upd5 (UA.out.trans SB.out) (.inr (Nat.le_succ _)) _ _ _ _ _⟩
set_option maxRecDepth 100000 in
set_option maxHeartbeats 1600000 in
theorem refOf_no (b p c k t x y : Int) (w : World) (HRAW : Hid (∀ W, Calls Try.prog 14 #[geoV b p c k t] W fun e w' => e = .returned (.tuple #[.int .i64 x, .int .i64 y]) ∧ Upd noBlock W w'))
    (h : y < 249 ∨ (249 ≤ y ∧ b < 12) ∨ (249 ≤ y ∧ 12 ≤ b ∧ p < 16)) :
    Calls Try.prog 7 #[geoV b p c k t] w fun e w' => e = .returned (.tuple #[planV 0 0 0 0 0, .bool false]) ∧ Upd noBlock w w' := by
  unfold geoV planV at *
  obtain ⟨wa, hwa⟩ : ∃ wa, wa = (w.alloc (.cells #[.int .i64 b, .int .i64 p, .int .i64 c, .int .i64 k, .int .i64 t] 33)).alloc (.cells #[.int .i64 0, .int .i64 0, .int .i64 0, .int .i64 0, .int .i64 0] 30) := ⟨_, rfl⟩
  have HG : Hid (wa.heap[w.heap.size]? = some (.cells #[.int .i64 b, .int .i64 p, .int .i64 c, .int .i64 k, .int .i64 t] 33 (0, 0))) := by rw [hwa]; exact block_alloc (heap_alloc_new w _) _
  have HZ : Hid (wa.heap[w.heap.size + 1]? = some (.cells #[.int .i64 0, .int .i64 0, .int .i64 0, .int .i64 0, .int .i64 0] 30 (0, 0))) := by
    rw [hwa]; have := heap_alloc_new (w.alloc (.cells #[.int .i64 b, .int .i64 p, .int .i64 c, .int .i64 k, .int .i64 t] 33)) (.cells #[.int .i64 0, .int .i64 0, .int .i64 0, .int .i64 0, .int .i64 0] 30)
    rw [show (w.alloc (.cells #[.int .i64 b, .int .i64 p, .int .i64 c, .int .i64 k, .int .i64 t] 33)).heap.size = w.heap.size + 1 from Array.size_push ..] at this; exact this
  have UA : Hid (Upd noBlock w wa) := by rw [hwa]; exact ((Upd.refl _ _).alloc _).alloc _
  have HF : Hid (∀ W, Upd noBlock wa W → W.heap[w.heap.size]? = some (.cells #[.int .i64 b, .int .i64 p, .int .i64 c, .int .i64 k, .int .i64 t] 33 (0, 0)) ∧ W.heap[w.heap.size + 1]? = some (.cells #[.int .i64 0, .int .i64 0, .int .i64 0, .int .i64 0, .int .i64 0] 30 (0, 0))) := fun W hW =>
    ⟨(hW.block _ (lt_of_block HG.out) id).trans HG.out, (hW.block _ (lt_of_block HZ.out) id).trans HZ.out⟩
  have hb0 := fun i => cell_of HG.out i
  go_enter Try.func7, Try.ntmps7
  go_upto_region 1 with fail
  rw [← hwa]
  clear hwa
  go_upto_region 2 with (go_at_call 14; (with_reducible refine (HRAW.out _).mono ?_); rintro e w2 ⟨rfl, hu2⟩; obtain ⟨g2, z2⟩ := HF.out _ hu2; have U2 := Lib.hid (UA.out.trans hu2); clear hu2)
  clear hb0
  have hb2 := fun i => cell_of g2 i
  have hc2 := fun i => cell_of z2 i
  have hf2 := fun i => free_of z2 i
  have Z2 := Lib.hid z2
  clear g2 z2 HG HZ UA HF HRAW
  rcases h with h | ⟨h, h'⟩ | ⟨h, h', h''⟩
  all_goals
    go_wp2_with fail
    exact fin_plan2 rfl rfl rfl rfl (set5 Z2.out rfl _ _ _ _ _) ⟨rfl, upd5 U2.out (.inr (Nat.le_succ _)) _ _ _ _ _⟩
set_option maxRecDepth 100000 in
set_option maxHeartbeats 1600000 in
theorem refOf_yes (b p c k t x y j h r s : Int) (w : World) (HRAW : Hid (∀ W, Calls Try.prog 14 #[geoV b p c k t] W fun e w' => e = .returned (.tuple #[.int .i64 x, .int .i64 y]) ∧ Upd noBlock W w'))
    (b1 : 12 ≤ b) (b2 : b ≤ 64) (p1 : 16 ≤ p) (y1 : 249 ≤ y) (hj : ((b / 8 < 2) ∧ j = 2) ∨ (¬ (b / 8 < 2) ∧ j = b / 8)) (hh : h = (b - j - 4) / 2) (hr : r = ((Pr.DL p false).length : Int) - 2) (hs : s = ((Pr.DL p true).length : Int) - 2)
    (r1 : (Pr.DL p false).length ≤ 61) (s1 : (Pr.DL p true).length ≤ 61) :
    Calls Try.prog 7 #[geoV b p c k t] w fun e w' => e = .returned (.tuple #[planV j h r y s, .bool true]) ∧ Upd noBlock w w' := by
  have HR1 := Lib.hid (fun W => Pr.ref_any p false W)
  have HR2 := Lib.hid (fun W => Pr.ref_any p true W)
  obtain ⟨n1, hn1⟩ : ∃ n, (Pr.DL p false).length = n := ⟨_, rfl⟩
  obtain ⟨n2, hn2⟩ : ∃ n, (Pr.DL p true).length = n := ⟨_, rfl⟩
  rw [hn1] at hr r1
  rw [hn2] at hs s1
  have HN1 := Lib.hid hn1
  have HN2 := Lib.hid hn2
  clear hn1 hn2
  generalize Pr.DL p false = D1 at *
  generalize Pr.DL p true = D2 at *
  generalize Pr.PL p false = E1 at *
  generalize Pr.PL p true = E2 at *
  subst hr hs
  have HH := Lib.hid hh
  clear hh
  unfold geoV planV at *
  obtain ⟨wa, hwa⟩ : ∃ wa, wa = (w.alloc (.cells #[.int .i64 b, .int .i64 p, .int .i64 c, .int .i64 k, .int .i64 t] 33)).alloc (.cells #[.int .i64 0, .int .i64 0, .int .i64 0, .int .i64 0, .int .i64 0] 30) := ⟨_, rfl⟩
  have HG : Hid (wa.heap[w.heap.size]? = some (.cells #[.int .i64 b, .int .i64 p, .int .i64 c, .int .i64 k, .int .i64 t] 33 (0, 0))) := by rw [hwa]; exact block_alloc (heap_alloc_new w _) _
  have HZ : Hid (wa.heap[w.heap.size + 1]? = some (.cells #[.int .i64 0, .int .i64 0, .int .i64 0, .int .i64 0, .int .i64 0] 30 (0, 0))) := by
    rw [hwa]; have := heap_alloc_new (w.alloc (.cells #[.int .i64 b, .int .i64 p, .int .i64 c, .int .i64 k, .int .i64 t] 33)) (.cells #[.int .i64 0, .int .i64 0, .int .i64 0, .int .i64 0, .int .i64 0] 30)
    rw [show (w.alloc (.cells #[.int .i64 b, .int .i64 p, .int .i64 c, .int .i64 k, .int .i64 t] 33)).heap.size = w.heap.size + 1 from Array.size_push ..] at this; exact this
  have UA : Hid (Upd noBlock w wa) := by rw [hwa]; exact ((Upd.refl _ _).alloc _).alloc _
  have HF : Hid (∀ W, Upd noBlock wa W → W.heap[w.heap.size]? = some (.cells #[.int .i64 b, .int .i64 p, .int .i64 c, .int .i64 k, .int .i64 t] 33 (0, 0)) ∧ W.heap[w.heap.size + 1]? = some (.cells #[.int .i64 0, .int .i64 0, .int .i64 0, .int .i64 0, .int .i64 0] 30 (0, 0))) := fun W hW =>
    ⟨(hW.block _ (lt_of_block HG.out) id).trans HG.out, (hW.block _ (lt_of_block HZ.out) id).trans HZ.out⟩
  have hb0 := fun i => cell_of HG.out i
  rcases hj with ⟨hj, rfl⟩ | ⟨hj, rfl⟩
  all_goals
    have hh := HH.out.symm
    go_enter Try.func7, Try.ntmps7
    go_upto_region 1 with fail
    rw [← hwa]
    clear hwa
    go_wp2_with (first
      | (go_at_call 14; (with_reducible refine (HRAW.out _).mono ?_); rintro e w2 ⟨rfl, hu2⟩; obtain ⟨g2, z2⟩ := HF.out _ hu2; have U2 := Lib.hid hu2; clear hb0; have hb2 := fun i => cell_of g2 i; clear hu2 g2 z2)
      | (go_at_call 15; (with_reducible refine (HR1.out _).mono ?_); rintro e w3 ⟨v1, v2, rfl, ho, ho2, hu⟩; obtain ⟨a1, c1, rfl, -, -, -⟩ := ho.sl; obtain ⟨a2, c2, rfl, -, -, -⟩ := ho2.sl; clear ho ho2; have hn1 := HN1.out; rw [hn1]; clear hn1; have U3 := Lib.hid (U2.out.trans hu); obtain ⟨g3, z3⟩ := HF.out _ U3.out; clear hb2; have hb3 := fun i => cell_of g3 i; clear hu g3 z3)
      | (go_at_call 15; (with_reducible refine (HR2.out _).mono ?_); rintro e w4 ⟨v3, v4, rfl, ho, ho2, hu⟩; obtain ⟨a3, c3, rfl, -, -, -⟩ := ho.sl; obtain ⟨a4, c4, rfl, -, -, -⟩ := ho2.sl; clear ho ho2; have hn2 := HN2.out; rw [hn2]; clear hn2; have U4 := Lib.hid (U3.out.trans hu); obtain ⟨g4, z4⟩ := HF.out _ U4.out; clear hb3; have hb4 := fun i => cell_of g4 i; have hc4 := fun i => cell_of z4 i; have hf4 := fun i => free_of z4 i; have Z4 := Lib.hid z4; clear hu g4 z4))
    exact fin_plan2 rfl rfl rfl rfl (set5 Z4.out rfl _ _ _ _ _) ⟨rfl, upd5 (UA.out.trans U4.out) (.inr (Nat.le_succ _)) _ _ _ _ _⟩
end Go.Proofs.Ytnimgkijodfjkaa
