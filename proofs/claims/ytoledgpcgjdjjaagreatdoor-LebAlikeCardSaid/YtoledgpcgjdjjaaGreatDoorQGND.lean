import Derived.Test.YtoledgpcgjdjjaaGreatDoorQGNC
import Derived.Laws.CopyRow
import Derived.Laws.MakeOwn
/- mended. -/
namespace Go.Proofs.YtoledgpcgjdjjaaGreatDoor
open Go.RowKit Pm F
set_option linter.unusedVariables false

theorem intMade : (Tryz.prog.info? 3).map (fun i => (i.zero, i.size, i.bytes)) = some (some (.int .i64 0), 1, 8) := by kernel_rfl
theorem made_il (w : World) (B n : Nat) (hB : B ≤ w.heap.size) (hn : n ≤ maxLen) : OwnI (w.alloc (.cells (madeCells #[.int .i64 0] n) 3)) B (.slice (some ⟨w.heap.size, 0, none⟩) n n) (il n fun _ => 0) := by
  unfold OwnI
  rw [il_length]
  refine ⟨by simp [vals, il_length], .inr ⟨w.heap.size, n, _, rfl, hB, heap_alloc_new w _, Nat.le_refl _, hn, by rw [size_madeCells, Nat.mul_one], ?_⟩⟩
  apply List.ext_getElem
  · simp [size_madeCells, vals, il_length]
  · intro i h1 h2
    simp [madeCells, vals, il]
    rw [show i % 1 = 0 by omega]
    rfl
theorem copy_il {W : World} {B B' R N g cap g' cap' : Nat} {g0 C : Nat → F} (ty : TypeId) (h : OwnI W B (.slice (some ⟨g, 0, none⟩) R cap) (il R g0)) (h' : OwnI W B' (.slice (some ⟨g', 0, none⟩) N cap') (il N C)) (hN : N ≤ R) (h0 : 0 < N) :
    ∃ W2, (Builtin.copy_ #[57, 57] ty #[.slice (some ⟨g, 0, none⟩) R cap, .slice (some ⟨g', 0, none⟩) N cap']).run Tryz.prog W = .ok (.int .i64 (N : Int)) W2 ∧ OwnI W2 B (.slice (some ⟨g, 0, none⟩) R cap) (il R fun i => if i < N then C i else g0 i) ∧ Upd (oneBlock g) W W2 := by
  obtain ⟨_, _, e', _, _, hc', _, _⟩ := h'.cells (by rw [il_length]; exact h0)
  rw [il_length] at e' hc'
  cases e'
  unfold OwnI at h
  rw [il_length] at h
  obtain ⟨hl, hh⟩ := h
  rcases hh with ⟨_, h2⟩ | ⟨_, _, cur, e, hb, hg, hnc, hcm, hsz, htake⟩
  · omega
  · cases e
    have hrun := run_copy_row (P := Tryz.prog) W 57 57 ty 3 g 0 R cap ⟨g', 0, none⟩ N cap' cur 3 (vals (il N C)) Tryz.underlying57 (by kernel_rfl) hg (by rw [vals, List.length_map, il_length]; exact (Nat.min_eq_left hN).symm)
      (fun j v hj => by
        have hjN : j < N := by have := (List.getElem?_eq_some_iff.1 hj).1; simpa [vals, il_length] using this
        rw [add_zero_addr, hc' j hjN, ← hj, vals_get _ _ (by rw [il_length]; exact hjN)])
      (by rw [vals, List.length_map, il_length]; omega) (vals_one _)
    rw [show (vals (il N C)).length = N by rw [vals, List.length_map, il_length]] at hrun
    refine ⟨_, hrun, ?_, Upd.setRow (R := oneBlock g) (Upd.refl _ _) (.inl rfl) _⟩
    unfold OwnI
    rw [il_length]
    refine ⟨by simp [vals, il_length], .inr ⟨g, cap, _, rfl, hb, setRow_heap W g cur _ 3 (0, 0) hg, hnc, hcm, ?_, ?_⟩⟩
    · simp [vals, il_length]; omega
    · have hX : ∀ i, i < R → cur.toList[i]? = some (.int .i64 ((g0 i).1 : Int)) := fun i hi => by
        have : (cur.toList.take (R * 1))[i]? = (vals (il R g0))[i]? := by rw [htake]
        rw [List.getElem?_take, if_pos (by omega), vals_get _ _ (by rw [il_length]; exact hi), il_getD _ _ _ hi] at this
        exact this
      have hvl : ∀ M (f : Nat → F), (vals (il M f)).length = M := fun M f => by rw [vals, List.length_map, il_length]
      simp only [Nat.mul_one, List.take_zero, List.nil_append, Nat.zero_add]
      apply List.ext_getElem?
      intro i
      by_cases hi : i < R
      · rw [List.getElem?_take, if_pos hi, vals_get _ _ (by rw [il_length]; exact hi), il_getD _ _ _ hi]
        by_cases hN' : i < N
        · rw [List.getElem?_append_left (by rw [hvl]; exact hN'), vals_get _ _ (by rw [il_length]; exact hN'), il_getD _ _ _ hN', if_pos hN']
        · rw [List.getElem?_append_right (by rw [hvl]; omega), hvl, List.getElem?_drop, show N + (i - N) = i by omega, hX i hi, if_neg hN']
      · rw [List.getElem?_take, if_neg hi, List.getElem?_eq_none (by rw [hvl]; omega)]
set_option maxRecDepth 100000 in
set_option maxHeartbeats 3200000 in
theorem mended_any (c t : Nat) (k : Int) (C D : Nat → F) (f : F) (N M m B : Nat) (v v' : Value) (w : World) (h : MadeB B w c t k) (hBw : B ≤ w.heap.size) (hr : OwnI w B v (il N C)) (hs : OwnI w B v' (il M D)) (hN0 : 0 < N) (hN : N ≤ 1000) (hM0 : 0 < M) (hM : M ≤ 1000) (hm : m ≤ 1000)
    (hC : ∀ i, N ≤ i → C i = 0) (hD : ∀ i, M ≤ i → D i = 0) :
    Calls Tryz.prog 232 #[.pointer (some ⟨c, 0, none⟩), v, v', .int .i64 (f.1 : Int), .int .i64 (m : Int)] w fun e w' => ∃ u, e = .returned u ∧ OwnI w' B u (il (max N (M + m)) (mend C D f m)) ∧ MadeB B w' c t k ∧ Upd (oneBlock c) w w' := by
  obtain ⟨R, hR⟩ : ∃ R, max N (M + m) = R := ⟨_, rfl⟩
  rw [hR]
  have hNR : N ≤ R := by omega
  have hMR : M + m ≤ R := by omega
  have hR2 : R ≤ 2000 := by omega
  have hmk : ∀ w : World, (Instr.makeSlice 57 (.int .i64 (R : Int)) (.int .i64 (R : Int))).run Tryz.prog w = .ok (.slice (some ⟨w.heap.size, 0, none⟩) R R) (w.alloc (.cells (madeCells #[.int .i64 0] R) 3)) :=
    run_make_row' (P := Tryz.prog) 57 3 (.int .i64 0) 8 Tryz.underlying57 intMade rfl .i64 .i64 R (by omega) (by omega)
  obtain ⟨O, HOE⟩ : ∃ O : Obj, Hid (O = .cells (madeCells #[.int .i64 0] R) 3) := ⟨_, rfl⟩
  rw [← HOE.out] at hmk
  obtain ⟨wa, hwa⟩ : ∃ wa, wa = w.alloc O := ⟨_, rfl⟩
  have ua : Upd noBlock w wa := by rw [hwa]; exact (Upd.refl _ _).alloc _
  have oa : OwnI wa w.heap.size (.slice (some ⟨w.heap.size, 0, none⟩) R R) (il R fun _ => 0) := by rw [hwa, HOE.out]; exact made_il w w.heap.size R (Nat.le_refl _) (by unfold maxLen; omega)
  obtain ⟨g, cap, rfl, hg, hgl, _, _, _⟩ := hr.cells (by rw [il_length]; exact hN0)
  obtain ⟨g', cap', rfl, hg', hgl', _, _, _⟩ := hs.cells (by rw [il_length]; exact hM0)
  rw [il_length] at hr
  rw [il_length] at hs
  rw [il_length, il_length]
  obtain ⟨W2, hcp, oc, uc⟩ := copy_il 3 oa (hr.grow ua) hNR hN0
  have hgoal : il R (fun i => if i < N then C i else (fun _ => (0 : F)) i) = il R (mendQ C D f m 0) := il_congr fun i _ => by
    rw [mendQ_zero]
    split
    · rfl
    · rename_i hi; exact (hC i (by omega)).symm
  rw [hgoal] at oc
  have u2 : Upd noBlock w W2 := ua.step uc fun i hi e => absurd hi (by rw [e]; exact Nat.lt_irrefl _)
  have HQ := Lib.hid (mendQ_all C D f m M hD)
  have HQS := Lib.hid (mendQ_succ C D f m)
  have HMUL := Lib.hid (fun x y W hW => mul_F B c t k x y W hW)
  have HS := Lib.hid (hs.grow u2)
  have HOC := Lib.hid oc
  have HM2 := Lib.hid (h.grow u2)
  have HU2 := Lib.hid u2
  have hmax : max (N : Int) ((M : Int) + (m : Int)) = (R : Int) := by omega
  have hcB := h.lt
  have hw0 : IntKind.i64.wrap ((M : Int) + (m : Int)) = (M : Int) + (m : Int) := by rw [IntKind.wrap_i64]; omega
  have hs0 := hs
  clear h hr hs ua oa uc hgoal hR u2 oc
  go_enter Tryz.func232, Tryz.ntmps232
  rw [hwa] at hcp
  go_wp2
  clear hcp hmk hwa
  have HS0 := Lib.hid hs0
  clear hs0
  go_loopw [27] (fun i wr => ∃ j : Nat, j ≤ M ∧ i = .int .i64 (j : Int) ∧ Hid (OwnI wr w.heap.size (.slice (some ⟨w.heap.size, 0, none⟩) R R) (il R (mendQ C D f m j))) ∧ Hid (MadeB B wr c t k) ∧ Hid (Upd (oneBlock c) w wr)) (fun i _ => M - (intOf i).toNat)
  case atStart => exact ⟨0, Nat.zero_le _, rfl, HOC, HM2, HU2.out.one⟩
  case round =>
    clear HM2 HOC HU2 HS
    obtain ⟨j, hj, rfl, HO, HM, HU⟩ := hrel
    by_cases h0 : j < M
    · obtain ⟨_, _, e2, _, _, q2, _, _⟩ := (HS0.out.far hcB HU.out).cells (by rw [il_length]; exact hM0)
      rw [il_length] at e2 q2
      cases e2
      have p2 := q2 j h0
      rw [il_getD M D j h0] at p2
      clear q2
      have hmu : ∀ W, MadeB B W c t k → _ := fun W hW => mul_F B c t k f (D j) W hW
      have HMU := Lib.hid hmu
      obtain ⟨x, hx⟩ : ∃ x, mendQ C D f m j (j + m) = x := ⟨_, rfl⟩
      have HX := xor_F x (f * D j)
      have hjm : j + m < R := by omega
      have HNX : Hid (il R (mendQ C D f m (j + 1)) = (il R (mendQ C D f m j)).set (j + m) ((x + f * D j).1 : Int)) := by
        show _ = _
        rw [il_set, HQS.out j, hx]
      have HLD : Hid (∀ W, Upd (oneBlock c) wr W → W.cell? ⟨w.heap.size, j + m, none⟩ = some (.int .i64 (x.1 : Int)) ∧ W.frozen? ⟨w.heap.size, j + m, none⟩ = false ∧ OwnI (W.setCell ⟨w.heap.size, j + m, none⟩ (.int .i64 ((x + f * D j).1 : Int))) w.heap.size (.slice (some ⟨w.heap.size, 0, none⟩) R R) (il R (mendQ C D f m (j + 1))) ∧ Upd (oneBlock c) w (W.setCell ⟨w.heap.size, j + m, none⟩ (.int .i64 ((x + f * D j).1 : Int)))) := fun W hW => by
        obtain ⟨_, _, e3, _, _, q3, f3, s3⟩ := (HO.out.far (Nat.lt_of_lt_of_le hcB hBw) hW).cells (by rw [il_length]; omega)
        rw [il_length] at e3 q3
        cases e3
        have p3 := q3 (j + m) hjm
        rw [il_getD R _ _ hjm, hx] at p3
        exact ⟨p3, f3 _, by rw [HNX.out]; exact s3 W _ _ rfl, (HU.out.trans hW).setCell (p := ⟨w.heap.size, j + m, none⟩) (.inr (Nat.le_refl _)) _⟩
      have HKP : Hid (∀ W v, MadeB B W c t k → MadeB B (W.setCell ⟨w.heap.size, j + m, none⟩ v) c t k) := fun W v hW => hW.keep (Upd.setCell (R := oneBlock w.heap.size) (Upd.refl _ W) (p := ⟨w.heap.size, j + m, none⟩) (.inl rfl) _) fun i hi e => by have e' : i = w.heap.size := e; omega
      obtain ⟨k1, k2, _, _⟩ := HLD.out wr.drew (Upd.refl (oneBlock c) wr).drew
      have hM1 : Hid (MadeB B wr.drew c t k) := HM.out.grow ((Upd.refl noBlock wr).drew)
      have hw1 : IntKind.i64.wrap ((j : Int) + (m : Int)) = ((j + m : Nat) : Int) := by rw [IntKind.wrap_i64]; omega
      clear hx
      generalize j + m = ix at *
      go_wp2_with fail
      go_region_with (go_at_call 233; (with_reducible refine (HMU.out _ hM1.out).mono ?_); rintro e w2 ⟨rfl, hm2, hu2⟩; have M2 := Lib.hid hm2; have hu3 := (Upd.refl (oneBlock c) wr).drew.trans hu2; have L2 := Lib.hid (HLD.out w2 hu3); have k5 := L2.out.1; have k6 := L2.out.2.1; clear hm2 hu2)
      all_goals
        go_wp2
        go_roundw
        case rel => exact ⟨j + 1, by omega, by go_num, L2.out.2.2.1, HKP.out _ _ M2.out, L2.out.2.2.2⟩
        case measure => simp [intOf]; omega
    · obtain rfl : j = M := by omega
      go_wp2
      go_ret
      exact ⟨_, rfl, by rw [← HQ.out]; exact HO.out.more hBw, HM.out, HU.out⟩
end Go.Proofs.YtoledgpcgjdjjaaGreatDoor

/- logs. -/
namespace Go.Proofs.YtoledgpcgjdjjaaGreatDoor
open Go.RowKit Pm F
set_option linter.unusedVariables false

def lq (C : Nat → F) (j i : Nat) : Int := if i < j then lgI (C i) else 0
theorem lq_set (C : Nat → F) (n j : Nat) : (irow n (lq C j)).set j (lgI (C j)) = irow n (lq C (j + 1)) := by
  rw [irow_set]
  refine irow_congr fun i _ => ?_
  unfold lq
  by_cases h : i = j
  · rw [if_pos h, if_pos (by omega), h]
  · rw [if_neg h]
    by_cases h2 : i < j
    · rw [if_pos h2, if_pos (by omega)]
    · rw [if_neg h2, if_neg (by omega)]
theorem lq_set2 (C : Nat → F) (n j : Nat) (x : Int) : ((irow n (lq C j)).set j x).set j (lgI (C j)) = irow n (lq C (j + 1)) := by
  rw [List.set_set, lq_set]
theorem il_zero_irow (n : Nat) : il n (fun _ => 0) = irow n (fun _ => 0) := rfl
set_option maxRecDepth 100000 in
set_option maxHeartbeats 3200000 in
theorem logs_any (B c t : Nat) (k : Int) (C : Nat → F) (n : Nat) (v : Value) (w : World) (h : MadeB B w c t k) (hBw : B ≤ w.heap.size) (hr : OwnI w B v (il n C)) (hn0 : 0 < n) (hn : n ≤ 1000) :
    Calls Tryz.prog 236 #[.pointer (some ⟨c, 0, none⟩), v] w fun e w' => ∃ u, e = .returned u ∧ OwnI w' B u (irow n fun i => lgI (C i)) ∧ Upd noBlock w w' := by
  have hcB := h.lt
  have hmk : ∀ w : World, (Instr.makeSlice 57 (.int .i64 (n : Int)) (.int .i64 (n : Int))).run Tryz.prog w = .ok (.slice (some ⟨w.heap.size, 0, none⟩) n n) (w.alloc (.cells (madeCells #[.int .i64 0] n) 3)) :=
    run_make_row' (P := Tryz.prog) 57 3 (.int .i64 0) 8 Tryz.underlying57 intMade rfl .i64 .i64 n (by omega) (by omega)
  obtain ⟨O, HOE⟩ : ∃ O : Obj, Hid (O = .cells (madeCells #[.int .i64 0] n) 3) := ⟨_, rfl⟩
  rw [← HOE.out] at hmk
  obtain ⟨wa, hwa⟩ : ∃ wa, wa = w.alloc O := ⟨_, rfl⟩
  have HU0 : Hid (Upd noBlock w wa) := by rw [hwa]; exact (Upd.refl _ _).alloc _
  have HO0 : Hid (OwnI wa w.heap.size (.slice (some ⟨w.heap.size, 0, none⟩) n n) (irow n (lq C 0))) := by
    rw [hwa, HOE.out]
    have := made_il w w.heap.size n (Nat.le_refl _) (by unfold maxLen; omega)
    rw [il_zero_irow, irow_congr (g := lq C 0) fun i _ => (if_neg (Nat.not_lt_zero i)).symm] at this
    exact this
  obtain ⟨g, cap, rfl, _, hgl, _, _, _⟩ := hr.cells (by rw [il_length]; exact hn0)
  rw [il_length] at hr
  rw [il_length]
  have HR := Lib.hid hr
  have HM := Lib.hid h
  clear h hr
  go_enter Tryz.func236, Tryz.ntmps236
  go_wp2
  rw [← hwa]
  clear hmk hwa HOE
  go_loopw [15] (fun i wr => ∃ j : Nat, j ≤ n ∧ i = .int .i64 (j : Int) ∧ Hid (OwnI wr w.heap.size (.slice (some ⟨w.heap.size, 0, none⟩) n n) (irow n (lq C j))) ∧ Hid (Upd noBlock w wr)) (fun i _ => n - (intOf i).toNat)
  case atStart => exact ⟨0, Nat.zero_le _, rfl, HO0, HU0⟩
  case round =>
    clear HO0 HU0
    obtain ⟨j, hj, rfl, HO, HU⟩ := hrel
    by_cases h0 : j < n
    · obtain ⟨_, _, e2, _, _, q2, _, _⟩ := (HR.out.grow HU.out).cells (by rw [il_length]; exact hn0)
      rw [il_length] at e2 q2
      cases e2
      have p2 := q2 j h0
      rw [il_getD n C j h0] at p2
      clear q2
      obtain ⟨_, _, e3, _, _, q3, f3, s3⟩ := HO.out.cells (by rw [irow_length]; omega)
      rw [irow_length] at e3 q3
      cases e3
      have p3 := q3 j h0
      have p4 := f3 j
      have HW1 : Hid (OwnI (wr.setCell ⟨w.heap.size, j, none⟩ (.int .i64 (-1))) w.heap.size (.slice (some ⟨w.heap.size, 0, none⟩) n n) ((irow n (lq C j)).set j (-1))) := s3 wr j (-1) rfl
      have U1 : Hid (Upd noBlock w (wr.setCell ⟨w.heap.size, j, none⟩ (.int .i64 (-1)))) := HU.out.setCell (p := ⟨w.heap.size, j, none⟩) (.inr (Nat.le_refl _)) _
      clear q3 f3 s3
      by_cases hz : C j = 0
      · have HNX := Lib.hid (lq_set C n j)
        rw [hz, lgI_zero] at HNX
        have p5 : wr.cell? ⟨g, j, none⟩ = some (.int .i64 0) := by rw [p2, hz]; rfl
        have HLG := Lib.hid (fun W => log_F0 c W)
        clear p2 hz
        go_wp2_with (go_at_call 224; (with_reducible refine (HLG.out _).mono ?_); rintro e w2 ⟨rfl, rfl⟩)
        go_roundw
        case rel => exact ⟨j + 1, by omega, by go_num, by rw [← HNX.out]; exact HW1, U1⟩
        case measure => simp [intOf]; omega
      · have HNX := Lib.hid (lq_set2 C n j (-1))
        rw [lgI_ne hz] at HNX
        have HLG := Lib.hid (fun W hW => log_F B c t k (C j) W hW hz)
        have M1 : Hid (MadeB B (wr.setCell ⟨w.heap.size, j, none⟩ (.int .i64 (-1))) c t k) := HM.out.grow U1.out
        have HS2 : Hid (∀ W, Upd noBlock (wr.setCell ⟨w.heap.size, j, none⟩ (.int .i64 (-1))) W → (∃ u, W.cell? ⟨w.heap.size, j, none⟩ = some u) ∧ W.frozen? ⟨w.heap.size, j, none⟩ = false ∧ OwnI (W.setCell ⟨w.heap.size, j, none⟩ (.int .i64 (Gfm.lg (C j).1 : Int))) w.heap.size (.slice (some ⟨w.heap.size, 0, none⟩) n n) (irow n (lq C (j + 1))) ∧ Upd noBlock w (W.setCell ⟨w.heap.size, j, none⟩ (.int .i64 (Gfm.lg (C j).1 : Int)))) := fun W hW => by
          obtain ⟨_, _, e3, _, _, q3, f3, s3⟩ := (HW1.out.grow hW).cells (by rw [List.length_set, irow_length]; omega)
          rw [List.length_set, irow_length] at e3 q3
          cases e3
          exact ⟨⟨_, q3 j h0⟩, f3 j, by rw [← HNX.out]; exact s3 W _ _ rfl, (U1.out.trans hW).setCell (p := ⟨w.heap.size, j, none⟩) (.inr (Nat.le_refl _)) _⟩
        generalize C j = x at *
        go_wp2_with (go_at_call 224; (with_reducible refine (HLG.out _ M1.out).mono ?_); rintro e w2 ⟨rfl, hu2⟩; have L2 := Lib.hid (HS2.out w2 hu2); obtain ⟨u5, k5⟩ := L2.out.1; have k6 := L2.out.2.1; clear hu2)
        go_roundw
        case rel => exact ⟨j + 1, by omega, by go_num, L2.out.2.2.1, L2.out.2.2.2⟩
        case measure => simp [intOf]; omega
    · obtain rfl : j = n := by omega
      go_wp2
      go_ret
      exact ⟨_, rfl, by rw [irow_congr (g := lq C j) fun i hi => (if_pos hi).symm]; exact HO.out.more hBw, HU.out⟩
end Go.Proofs.YtoledgpcgjdjjaaGreatDoor

/- roots: the places of a locator. -/
namespace Go.Proofs.YtoledgpcgjdjjaaGreatDoor
open Go.RowKit Pm F
set_option linter.unusedVariables false

def nts (l : List Nat) : List Int := l.map fun p : Nat => (p : Int)
theorem nts_length (l : List Nat) : (nts l).length = l.length := List.length_map _
theorem nts_append (a b : List Nat) : nts (a ++ b) = nts a ++ nts b := List.map_append
theorem nts_getD (l : List Nat) (i : Nat) (h : i < l.length) : (nts l).getD i 0 = ((l[i] : Nat) : Int) := by
  simp [nts, List.getD_eq_getElem?_getD, h]
def Ans (B : Nat) (a : Option (List Nat)) (e : Ending) (w' : World) : Prop := match a with
  | none => e = .returned (.tuple #[.slice none 0 0, .bool false])
  | some ps => ∃ u, e = .returned (.tuple #[u, .bool true]) ∧ OwnI w' B u (nts ps)
theorem asc_last {rs : List Nat} (h : rs.Pairwise (· < ·)) (h0 : 0 < rs.length) (q : Nat) : (∀ p ∈ rs, p < q) ↔ rs[rs.length - 1] < q := by
  constructor
  · intro h1; exact h1 _ (List.getElem_mem _)
  · intro h1 p hp
    obtain ⟨i, hi, rfl⟩ := List.mem_iff_getElem.1 hp
    by_cases e : i = rs.length - 1
    · subst e; exact h1
    · have := List.pairwise_iff_getElem.1 h i (rs.length - 1) hi (by omega) (by omega)
      omega
theorem last_sum (x : F) (rs : List Nat) (p : Nat) : x + lsum ((rs ++ [p]).map al) (fun X => X) = (x + lsum (rs.map al) (fun X => X)) + alI (p : Int) := by
  rw [List.map_append, lsum_append, alI_nat]
  show x + (_ + (al p + 0)) = _
  rw [add_zero, add_assoc]
set_option maxRecDepth 100000 in
set_option maxHeartbeats 6400000 in
theorem roots_any (B c t k : Nat) (r : Rm) (C : Nat → F) (L : Nat) (v : Value) (w : World) (h : MadeB B w c t (k : Int)) (hBw : B ≤ w.heap.size) (hk : k ≤ 256) (ht1 : 1 ≤ t) (ht8 : t ≤ 8) (hr : OwnI w B v (il (L + 1) C)) (hR : Rule t r C L) (hL : 1 ≤ L) (hLt : L ≤ t) (hCL : C L ≠ 0) :
    Calls Tryz.prog 211 #[.pointer (some ⟨c, 0, none⟩), v] w fun e w' => ∃ a, (∀ ps, Good t (8 * k + 13 * t) r ps ↔ a = some ps) ∧ Ans B a e w' ∧ Upd noBlock w w' := by
  obtain ⟨i0, hi0, hz0, hz1, hz2⟩ := intPartsI
  obtain ⟨N, hN⟩ : ∃ N, 8 * k + 13 * t = N := ⟨_, rfl⟩
  have HBITS := Lib.hid (fun W (hW : Upd noBlock w W) => bits_any B c t k W (h.grow hW) hk ht8)
  rw [hN] at HBITS ⊢
  have hN8 : N ≤ 2152 := by omega
  have hnot : ∀ (x : Bool) (w : World), (Op.unary .not (.bool x)).run Tryz.prog w = .ok (.bool (!x)) w := fun _ _ => rfl
  have HLOGS := Lib.hid (logs_any B c t (k : Int) C (L + 1) v w h hBw hr (by omega) (by omega))
  have HROOT := Lib.hid (fun (p : Nat) (u : Value) W (hW : Upd noBlock w W) (hu : OwnI W B u (irow (L + 1) fun i => lgI (C i))) (hp : p ≤ 100000) => isRoot_any B c t (k : Int) C (L + 1) p u W (h.grow hW) hu (by omega) (by omega) hp)
  have HEXP := Lib.hid (fun (p : Nat) W (hW : Upd noBlock w W) => exp_F B c t (k : Int) (p : Int) W (h.grow hW))
  have HLOG := Lib.hid (fun (x : F) W (hW : Upd noBlock w W) (hx : x ≠ 0) => log_F B c t (k : Int) x W (h.grow hW) hx)
  have HFEW : Hid ((rts C L N).length < L - 1 → ∀ ps, ¬ Good t N r ps) := fun hf ps => good_few (by omega) hR hf ps
  have HLAST : Hid (∀ place, place ≤ N → (rts C L place).length = L - 1 → _) := fun place hp hl => good_last (N := N) ht1 (by omega) hp hR hL hLt hCL hl
  have HASC := Lib.hid (rts_asc C L)
  have HSUC : Hid (∀ place, rts C L (place + 1) = if rtq C place (L + 1) = 0 then rts C L place ++ [place] else rts C L place) := fun place => by
    rw [rts_succ]
    by_cases e : cv C (pow (al place)) L = 0
    · rw [if_pos e, if_pos ((rtq_zero C place L).2 e)]
    · rw [if_neg e, if_neg (fun h => e ((rtq_zero C place L).1 h))]
  have HSN : Hid (rts C L 0 = []) := rfl
  obtain ⟨g, cap, rfl, _, hgl, q1, _, _⟩ := hr.cells (by rw [il_length]; omega)
  rw [il_length] at q1
  have p1 := q1 1 (by omega)
  rw [il_getD _ C 1 (by omega)] at p1
  have HC1 : Hid (∀ W, Upd noBlock w W → W.cell? ⟨g, 1, none⟩ = some (.int .i64 ((C 1).1 : Int))) := fun W hW => upd_cell hW p1
  rw [il_length] at HLOGS ⊢
  obtain ⟨n, hn⟩ : ∃ n, L + 1 = n := ⟨_, rfl⟩
  have hn2 : 1 < n := by omega
  have hn9 : n ≤ 9 := by omega
  obtain ⟨m, hm⟩ : ∃ m, L - 1 = m := ⟨_, rfl⟩
  have hw2 : IntKind.i64.wrap ((n : Int) - 2) = (m : Int) := by rw [IntKind.wrap_i64]; omega
  rw [hn] at HLOGS HROOT HSUC ⊢
  rw [hm] at HFEW HLAST
  have hm9 : m ≤ 8 := by omega
  clear h hr hR q1 p1 hn hm hCL hL hLt ht1 ht8 hk
  go_enter Tryz.func211, Tryz.ntmps211
  go_wp2_with (go_at_call 236; (with_reducible refine HLOGS.out.mono ?_); rintro e w1 ⟨u6, rfl, ho6, hu6⟩; have O6 := Lib.hid ho6; have U6 := Lib.hid hu6; have k1 := HC1.out w1 hu6; clear ho6 hu6)
  go_loopw [7, 8, 9] (fun s l i wr => ∃ place : Nat, place ≤ N ∧ i = .int .i64 (place : Int) ∧ s = .int .i64 ((C 1 + lsum ((rts C L place).map al) (fun X => X)).1 : Int) ∧ Hid ((rts C L place).length ≤ m) ∧ Hid (OwnI wr w1.heap.size l (nts (rts C L place))) ∧ Hid (Upd noBlock w1 wr)) (fun _ _ i _ => N - (intOf i).toNat)
  case atStart => exact ⟨0, Nat.zero_le _, rfl, by rw [HSN.out]; show _ = Value.int .i64 ((C 1 + 0).1 : Int); rw [add_zero], by rw [HSN.out]; exact Nat.zero_le _, by rw [HSN.out]; exact Lib.hid (OwnI.nil _ _), Upd.refl _ _⟩
  case round =>
    obtain ⟨place, hpl, rfl, rfl, HLEN, HO, HU⟩ := hrel
    have HB1 := Lib.hid (HBITS.out wr (U6.out.trans HU.out))
    have HSU1 := Lib.hid (HSUC.out place)
    obtain ⟨sa, sc, hsl, hints, _, _⟩ := HO.out.sl
    rw [nts_length] at hsl
    subst hsl
    have hlm := HLEN.out
    obtain ⟨ln, hln⟩ : ∃ ln, (rts C L place).length = ln := ⟨_, rfl⟩
    rw [hln] at hlm HO ⊢
    have V6 : Hid (∀ W, Upd noBlock w1 W → Upd noBlock w W) := fun W hW => U6.out.trans hW
    have hp5 : place ≤ 100000 := by omega
    clear hints
    by_cases hlt : ln < m
    · by_cases hpN : place < N
      · cases hb : decide (rtq C place n = 0)
        · have HRT : Hid (∀ W, Upd noBlock w W → OwnI W B u6 (irow n fun i => lgI (C i)) → Calls Tryz.prog 237 #[.pointer (some ⟨c, 0, none⟩), u6, .int .i64 (place : Int)] W fun e w' => e = .returned (.bool false) ∧ Upd noBlock W w') := fun W h1 h2 => hb ▸ HROOT.out place u6 W h1 h2 hp5
          have HS1 := HSU1.out
          rw [if_neg (of_decide_eq_false hb)] at HS1
          have HS2 := Lib.hid HS1
          clear hb HS1
          go_wp2_with (first
            | (go_at_call 172; (with_reducible refine HB1.out.mono ?_); rintro e w2 ⟨rfl, hu2⟩; have D2 := Lib.hid hu2; have V2 := Lib.hid (HU.out.trans hu2); clear hu2)
            | (go_at_call 237; (with_reducible refine (HRT.out _ (V6.out _ V2.out) (O6.out.grow V2.out)).mono ?_); rintro e w3 ⟨rfl, hu3⟩; have D3 := Lib.hid (D2.out.trans hu3); have V3 := Lib.hid (V2.out.trans hu3); clear hu3))
          go_roundw
          case rel => exact ⟨place + 1, by omega, by go_num, by rw [HS2.out], by rw [HS2.out]; exact HLEN, by rw [HS2.out]; exact Lib.hid (HO.out.grow D3.out), V3⟩
          case measure => simp [intOf]; omega
        · have HRT : Hid (∀ W, Upd noBlock w W → OwnI W B u6 (irow n fun i => lgI (C i)) → Calls Tryz.prog 237 #[.pointer (some ⟨c, 0, none⟩), u6, .int .i64 (place : Int)] W fun e w' => e = .returned (.bool true) ∧ Upd noBlock W w') := fun W h1 h2 => hb ▸ HROOT.out place u6 W h1 h2 hp5
          have HS1 := HSU1.out
          rw [if_pos (of_decide_eq_true hb)] at HS1
          have HS2 := Lib.hid HS1
          have HSM := Lib.hid (last_sum (C 1) (rts C L place) place)
          have HX := xor_F (C 1 + lsum ((rts C L place).map al) (fun X => X)) (alI (place : Int))
          clear hb HS1 HSU1
          obtain ⟨rs, hrs⟩ : ∃ rs, rts C L place = rs := ⟨_, rfl⟩
          rw [hrs] at HS2 HSM HX HO hln
          rw [hrs]
          generalize C 1 + lsum (rs.map al) (fun X => X) = Y at *
          have HAP : Hid (∀ W, Upd noBlock wr W → (W.alloc (.cells #[.int .i64 (place : Int)] 3)).ownsRow w1.heap.size 3 1 (.slice sa ln sc) ln (vals (nts rs)) ∧ Ints (W.alloc (.cells #[.int .i64 (place : Int)] 3)) (W.heap.size + 1) (some ⟨W.heap.size, 0, none⟩) 1 [(place : Int)] ∧ w1.heap.size ≤ (W.alloc (.cells #[.int .i64 (place : Int)] 3)).heap.size) := fun W hW => by
            have ho := (HO.out.grow hW).grow ((Upd.refl noBlock W).alloc (.cells #[.int .i64 (place : Int)] 3))
            unfold OwnI at ho
            rw [nts_length, hln] at ho
            exact ⟨ho, ints_one W _, by rw [World.size_alloc]; have h2 := HU.out.size; have h3 := hW.size; omega⟩
          have HAG : Hid (∀ W, Upd noBlock wr W → ∀ v9 w9 own, w9.ownsRow w1.heap.size 3 1 v9 (ln + 1) (vals (nts rs) ++ vals [(place : Int)]) → (W.alloc (.cells #[.int .i64 (place : Int)] 3)).grownBy w9 own → OwnI w9 w1.heap.size v9 (nts (rs ++ [place])) ∧ ((∀ i, own = some i → w1.heap.size ≤ i) → Upd noBlock w1 w9)) := fun W hW v9 w9 own ho hg => by
            refine ⟨by rw [nts_append]; exact OwnI.snoc (by rw [nts_length, hln]) ho, fun hl => ?_⟩
            exact upd_of_grown ((HU.out.trans hW).alloc _) hg (fun i hi => .inr (hl i hi))
          have HOB : Hid (∀ i, (Value.slice sa ln sc).ownBlock = some i → w1.heap.size ≤ i) := HO.out.lt
          have HEX := Lib.hid (fun W hW => HEXP.out place W hW)
          go_wp2_with (first
            | (go_at_call 172; (with_reducible refine HB1.out.mono ?_); rintro e w2 ⟨rfl, hu2⟩; have D2 := Lib.hid hu2; have V2 := Lib.hid (HU.out.trans hu2); clear hu2)
            | (go_at_call 237; (with_reducible refine (HRT.out _ (V6.out _ V2.out) (O6.out.grow V2.out)).mono ?_); rintro e w3 ⟨rfl, hu3⟩; have D3 := Lib.hid (D2.out.trans hu3); have V3 := Lib.hid (V2.out.trans hu3); clear hu3)
            | (at_builtin; refine wpList_append_ints _ rfl (.tmp 36) (.tmp 38) _ rfl w1.heap.size 3 i0 _ Tryz.underlying57 hi0 hz0 hz1 hz2 rfl _ ln (vals (nts rs)) rfl (HAP.out _ D3.out).1 (w3.heap.size + 1) (some ⟨w3.heap.size, 0, none⟩) 1 1 [(place : Int)] rfl (HAP.out _ D3.out).2.1 (by simp only [maxLen]; omega) (by omega) (HAP.out _ D3.out).2.2 ?_; intro v9 w9 hown9 hg9 _; have F9 := Lib.hid (HAG.out _ D3.out _ _ _ hown9 hg9); clear hown9 hg9)
            | (go_at_call 195; refine (HEX.out _ (V6.out _ (F9.out.2 HOB.out))).mono ?_; rintro e w5 ⟨rfl, hu5⟩; have G5 := Lib.hid (F9.out.1.grow hu5); have V5 := Lib.hid ((F9.out.2 HOB.out).trans hu5); clear hu5))
          go_roundw
          case rel => exact ⟨place + 1, by omega, by go_num, by rw [HS2.out]; exact congrArg (fun z : F => Value.int .i64 (z.1 : Int)) HSM.out.symm, by rw [HS2.out]; exact Lib.hid (by rw [List.length_append]; show rs.length + 1 ≤ _; omega), by rw [HS2.out]; exact G5, V5⟩
          case measure => simp [intOf]; omega
      · obtain rfl : place = N := by omega
        have HNO := HFEW.out (by omega)
        have HN2 := Lib.hid HNO
        clear HNO
        go_wp2_with (first
          | (go_at_call 172; (with_reducible refine HB1.out.mono ?_); rintro e w2 ⟨rfl, hu2⟩; have D2 := Lib.hid hu2; have V2 := Lib.hid (HU.out.trans hu2); clear hu2))
        go_ret2
        exact ⟨none, fun ps => ⟨fun h => absurd h (HN2.out ps), fun h => by cases h⟩, rfl, V6.out _ V2.out⟩
    · obtain rfl : ln = m := by omega
      by_cases hpN : place < N
      · obtain ⟨hY0, hG0⟩ := HLAST.out place hpl (by omega)
        have hG := hG0 _ rfl
        clear hG0
        obtain ⟨q, hq⟩ : ∃ q, Gfm.lg (C 1 + lsum ((rts C L place).map al) (fun X => X)).1 = q := ⟨_, rfl⟩
        have HLG := Lib.hid (fun W hW => HLOG.out (C 1 + lsum ((rts C L place).map al) (fun X => X)) W hW hY0)
        rw [hq] at hG HLG
        have HG := Lib.hid hG
        have HAS := Lib.hid (fun h0 => asc_last (HASC.out place) h0 q)
        generalize C 1 + lsum ((rts C L place).map al) (fun X => X) = Y at *
        generalize rts C L place = rs at *
        clear hG hq hY0
        by_cases hqN : q < N
        · by_cases hl0 : ¬ 0 < ln
          · have HRS : Hid (rs = []) := List.eq_nil_of_length_eq_zero (by omega)
            have HAP : Hid (∀ W, Upd noBlock wr W → (W.alloc (.cells #[.int .i64 (q : Int)] 3)).ownsRow w1.heap.size 3 1 (.slice sa ln sc) ln (vals (nts rs)) ∧ Ints (W.alloc (.cells #[.int .i64 (q : Int)] 3)) (W.heap.size + 1) (some ⟨W.heap.size, 0, none⟩) 1 [(q : Int)] ∧ w1.heap.size ≤ (W.alloc (.cells #[.int .i64 (q : Int)] 3)).heap.size) := fun W hW => by
              have ho := (HO.out.grow hW).grow ((Upd.refl noBlock W).alloc (.cells #[.int .i64 (q : Int)] 3))
              unfold OwnI at ho
              rw [nts_length, hln] at ho
              exact ⟨ho, ints_one W _, by rw [World.size_alloc]; have h2 := HU.out.size; have h3 := hW.size; omega⟩
            have HAG : Hid (∀ W, Upd noBlock wr W → ∀ v9 w9 own, w9.ownsRow w1.heap.size 3 1 v9 (ln + 1) (vals (nts rs) ++ vals [(q : Int)]) → (W.alloc (.cells #[.int .i64 (q : Int)] 3)).grownBy w9 own → OwnI w9 w1.heap.size v9 (nts (rs ++ [q])) ∧ ((∀ i, own = some i → w1.heap.size ≤ i) → Upd noBlock w1 w9)) := fun W hW v9 w9 own ho hg => by
              refine ⟨by rw [nts_append]; exact OwnI.snoc (by rw [nts_length, hln]) ho, fun hl => ?_⟩
              exact upd_of_grown ((HU.out.trans hW).alloc _) hg (fun i hi => .inr (hl i hi))
            have HOB : Hid (∀ i, (Value.slice sa ln sc).ownBlock = some i → w1.heap.size ≤ i) := HO.out.lt
            go_wp2_with (first
              | (go_at_call 172; (with_reducible refine HB1.out.mono ?_); rintro e w2 ⟨rfl, hu2⟩; have D2 := Lib.hid hu2; have V2 := Lib.hid (HU.out.trans hu2); clear hu2)
              | (go_at_call 224; (with_reducible refine (HLG.out _ (V6.out _ V2.out)).mono ?_); rintro e w3 ⟨rfl, hu3⟩; have D3 := Lib.hid (D2.out.trans hu3); have V3 := Lib.hid (V2.out.trans hu3); clear hu3)
              | (go_at_call 172; (with_reducible refine (HBITS.out _ (V6.out _ V3.out)).mono ?_); rintro e w4 ⟨rfl, hu4⟩; have D4 := Lib.hid (D3.out.trans hu4); have V4 := Lib.hid (V3.out.trans hu4); clear hu4)
              | (at_builtin; refine wpList_append_ints _ rfl (.tmp 84) (.tmp 86) _ rfl w1.heap.size 3 i0 _ Tryz.underlying57 hi0 hz0 hz1 hz2 rfl _ ln (vals (nts rs)) rfl (HAP.out _ D4.out).1 (w4.heap.size + 1) (some ⟨w4.heap.size, 0, none⟩) 1 1 [(q : Int)] rfl (HAP.out _ D4.out).2.1 (by simp only [maxLen]; omega) (by omega) (HAP.out _ D4.out).2.2 ?_; intro v9 w9 hown9 hg9 _; have F9 := Lib.hid (HAG.out _ D4.out _ _ _ hown9 hg9); clear hown9 hg9))
            go_ret2
            exact ⟨some (rs ++ [q]), fun ps => ⟨fun h => by rw [((HG.out ps).1 h).2], fun h => (HG.out ps).2 ⟨⟨hqN, fun p hp => by rw [HRS.out] at hp; cases hp⟩, (Option.some.inj h).symm⟩⟩, ⟨_, rfl, F9.out.1.more (Nat.le_trans hBw U6.out.size)⟩, V6.out _ (F9.out.2 HOB.out)⟩
          · have hl0' : 0 < rs.length := by omega
            have HA := Lib.hid (HAS.out hl0')
            obtain ⟨lm, hlm1⟩ : ∃ lm, ln - 1 = lm := ⟨_, rfl⟩
            have HAP : Hid (∀ W, Upd noBlock wr W → (W.alloc (.cells #[.int .i64 (q : Int)] 3)).ownsRow w1.heap.size 3 1 (.slice sa ln sc) ln (vals (nts rs)) ∧ Ints (W.alloc (.cells #[.int .i64 (q : Int)] 3)) (W.heap.size + 1) (some ⟨W.heap.size, 0, none⟩) 1 [(q : Int)] ∧ w1.heap.size ≤ (W.alloc (.cells #[.int .i64 (q : Int)] 3)).heap.size) := fun W hW => by
              have ho := (HO.out.grow hW).grow ((Upd.refl noBlock W).alloc (.cells #[.int .i64 (q : Int)] 3))
              unfold OwnI at ho
              rw [nts_length, hln] at ho
              exact ⟨ho, ints_one W _, by rw [World.size_alloc]; have h2 := HU.out.size; have h3 := hW.size; omega⟩
            have HAG : Hid (∀ W, Upd noBlock wr W → ∀ v9 w9 own, w9.ownsRow w1.heap.size 3 1 v9 (ln + 1) (vals (nts rs) ++ vals [(q : Int)]) → (W.alloc (.cells #[.int .i64 (q : Int)] 3)).grownBy w9 own → OwnI w9 w1.heap.size v9 (nts (rs ++ [q])) ∧ ((∀ i, own = some i → w1.heap.size ≤ i) → Upd noBlock w1 w9)) := fun W hW v9 w9 own ho hg => by
              refine ⟨by rw [nts_append]; exact OwnI.snoc (by rw [nts_length, hln]) ho, fun hl => ?_⟩
              exact upd_of_grown ((HU.out.trans hW).alloc _) hg (fun i hi => .inr (hl i hi))
            have HOB : Hid (∀ i, (Value.slice sa ln sc).ownBlock = some i → w1.heap.size ≤ i) := HO.out.lt
            have hw7 : IntKind.i64.wrap ((ln : Int) - 1) = (lm : Int) := by rw [IntKind.wrap_i64]; omega
            have hlml : lm < ln := by omega
            have hln0 : 0 < ln := by omega
            obtain ⟨g8, cap8, e8, _, _, q8, _, _⟩ := HO.out.cells (by rw [nts_length]; omega)
            rw [nts_length, hln] at e8
            cases e8
            have c8 := q8 lm (by rw [nts_length]; omega)
            obtain ⟨z, hz⟩ : ∃ z, rs[lm]'(by omega) = z := ⟨_, rfl⟩
            rw [nts_getD rs lm (by omega), hz] at c8
            have HC8 : Hid (∀ W, Upd noBlock wr W → W.cell? ⟨g8, lm, none⟩ = some (.int .i64 ((z : Nat) : Int))) := fun W hW => upd_cell hW c8
            have hzz : rs[rs.length - 1]'(by omega) = z := by rw [← hz]; congr 1; omega
            rw [hzz] at HA
            clear q8 hz hzz hlm1
            by_cases hqz : z < q
            · have hqz1 : ¬ q ≤ z := by omega
              go_wp2_with (first
                | (go_at_call 172; (with_reducible refine HB1.out.mono ?_); rintro e w2 ⟨rfl, hu2⟩; have D2 := Lib.hid hu2; have V2 := Lib.hid (HU.out.trans hu2); clear hu2)
                | (go_at_call 224; (with_reducible refine (HLG.out _ (V6.out _ V2.out)).mono ?_); rintro e w3 ⟨rfl, hu3⟩; have D3 := Lib.hid (D2.out.trans hu3); have V3 := Lib.hid (V2.out.trans hu3); clear hu3)
                | (go_at_call 172; (with_reducible refine (HBITS.out _ (V6.out _ V3.out)).mono ?_); rintro e w4 ⟨rfl, hu4⟩; have D4 := Lib.hid (D3.out.trans hu4); have V4 := Lib.hid (V3.out.trans hu4); have k8 := HC8.out w4 D4.out; clear hu4)
                | (at_builtin; refine wpList_append_ints _ rfl (.tmp 84) (.tmp 86) _ rfl w1.heap.size 3 i0 _ Tryz.underlying57 hi0 hz0 hz1 hz2 rfl _ ln (vals (nts rs)) rfl (HAP.out _ D4.out).1 (w4.heap.size + 1) (some ⟨w4.heap.size, 0, none⟩) 1 1 [(q : Int)] rfl (HAP.out _ D4.out).2.1 (by simp only [maxLen]; omega) (by omega) (HAP.out _ D4.out).2.2 ?_; intro v9 w9 hown9 hg9 _; have F9 := Lib.hid (HAG.out _ D4.out _ _ _ hown9 hg9); clear hown9 hg9))
              go_ret2
              exact ⟨some (rs ++ [q]), fun ps => ⟨fun h => by rw [((HG.out ps).1 h).2], fun h => (HG.out ps).2 ⟨⟨hqN, HA.out.2 hqz⟩, (Option.some.inj h).symm⟩⟩, ⟨_, rfl, F9.out.1.more (Nat.le_trans hBw U6.out.size)⟩, V6.out _ (F9.out.2 HOB.out)⟩
            · have hqz1 : q ≤ z := by omega
              go_wp2_with (first
                | (go_at_call 172; (with_reducible refine HB1.out.mono ?_); rintro e w2 ⟨rfl, hu2⟩; have D2 := Lib.hid hu2; have V2 := Lib.hid (HU.out.trans hu2); clear hu2)
                | (go_at_call 224; (with_reducible refine (HLG.out _ (V6.out _ V2.out)).mono ?_); rintro e w3 ⟨rfl, hu3⟩; have D3 := Lib.hid (D2.out.trans hu3); have V3 := Lib.hid (V2.out.trans hu3); clear hu3)
                | (go_at_call 172; (with_reducible refine (HBITS.out _ (V6.out _ V3.out)).mono ?_); rintro e w4 ⟨rfl, hu4⟩; have D4 := Lib.hid (D3.out.trans hu4); have V4 := Lib.hid (V3.out.trans hu4); have k8 := HC8.out w4 D4.out; clear hu4))
              go_ret2
              exact ⟨none, fun ps => ⟨fun h => absurd (HA.out.1 ((HG.out ps).1 h).1.2) hqz, fun h => by cases h⟩, rfl, V6.out _ V4.out⟩
        · have hqN2 : N ≤ q := by omega
          go_wp2_with (first
            | (go_at_call 172; (with_reducible refine HB1.out.mono ?_); rintro e w2 ⟨rfl, hu2⟩; have D2 := Lib.hid hu2; have V2 := Lib.hid (HU.out.trans hu2); clear hu2)
            | (go_at_call 224; (with_reducible refine (HLG.out _ (V6.out _ V2.out)).mono ?_); rintro e w3 ⟨rfl, hu3⟩; have D3 := Lib.hid (D2.out.trans hu3); have V3 := Lib.hid (V2.out.trans hu3); clear hu3)
            | (go_at_call 172; (with_reducible refine (HBITS.out _ (V6.out _ V3.out)).mono ?_); rintro e w4 ⟨rfl, hu4⟩; have D4 := Lib.hid (D3.out.trans hu4); have V4 := Lib.hid (V3.out.trans hu4); clear hu4))
          go_ret2
          exact ⟨none, fun ps => ⟨fun h => absurd ((HG.out ps).1 h).1.1 hqN, fun h => by cases h⟩, rfl, V6.out _ V4.out⟩
      · obtain ⟨hY0, hG0⟩ := HLAST.out place hpl (by omega)
        have hG := hG0 _ rfl
        clear hG0
        obtain ⟨q, hq⟩ : ∃ q, Gfm.lg (C 1 + lsum ((rts C L place).map al) (fun X => X)).1 = q := ⟨_, rfl⟩
        have HLG := Lib.hid (fun W hW => HLOG.out (C 1 + lsum ((rts C L place).map al) (fun X => X)) W hW hY0)
        rw [hq] at hG HLG
        have HG := Lib.hid hG
        have HAS := Lib.hid (fun h0 => asc_last (HASC.out place) h0 q)
        generalize C 1 + lsum ((rts C L place).map al) (fun X => X) = Y at *
        generalize rts C L place = rs at *
        clear hG hq hY0
        by_cases hqN : q < N
        · by_cases hl0 : ¬ 0 < ln
          · have HRS : Hid (rs = []) := List.eq_nil_of_length_eq_zero (by omega)
            have HAP : Hid (∀ W, Upd noBlock wr W → (W.alloc (.cells #[.int .i64 (q : Int)] 3)).ownsRow w1.heap.size 3 1 (.slice sa ln sc) ln (vals (nts rs)) ∧ Ints (W.alloc (.cells #[.int .i64 (q : Int)] 3)) (W.heap.size + 1) (some ⟨W.heap.size, 0, none⟩) 1 [(q : Int)] ∧ w1.heap.size ≤ (W.alloc (.cells #[.int .i64 (q : Int)] 3)).heap.size) := fun W hW => by
              have ho := (HO.out.grow hW).grow ((Upd.refl noBlock W).alloc (.cells #[.int .i64 (q : Int)] 3))
              unfold OwnI at ho
              rw [nts_length, hln] at ho
              exact ⟨ho, ints_one W _, by rw [World.size_alloc]; have h2 := HU.out.size; have h3 := hW.size; omega⟩
            have HAG : Hid (∀ W, Upd noBlock wr W → ∀ v9 w9 own, w9.ownsRow w1.heap.size 3 1 v9 (ln + 1) (vals (nts rs) ++ vals [(q : Int)]) → (W.alloc (.cells #[.int .i64 (q : Int)] 3)).grownBy w9 own → OwnI w9 w1.heap.size v9 (nts (rs ++ [q])) ∧ ((∀ i, own = some i → w1.heap.size ≤ i) → Upd noBlock w1 w9)) := fun W hW v9 w9 own ho hg => by
              refine ⟨by rw [nts_append]; exact OwnI.snoc (by rw [nts_length, hln]) ho, fun hl => ?_⟩
              exact upd_of_grown ((HU.out.trans hW).alloc _) hg (fun i hi => .inr (hl i hi))
            have HOB : Hid (∀ i, (Value.slice sa ln sc).ownBlock = some i → w1.heap.size ≤ i) := HO.out.lt
            go_wp2_with (first
              | (go_at_call 172; (with_reducible refine HB1.out.mono ?_); rintro e w2 ⟨rfl, hu2⟩; have D2 := Lib.hid hu2; have V2 := Lib.hid (HU.out.trans hu2); clear hu2)
              | (go_at_call 224; (with_reducible refine (HLG.out _ (V6.out _ V2.out)).mono ?_); rintro e w3 ⟨rfl, hu3⟩; have D3 := Lib.hid (D2.out.trans hu3); have V3 := Lib.hid (V2.out.trans hu3); clear hu3)
              | (go_at_call 172; (with_reducible refine (HBITS.out _ (V6.out _ V3.out)).mono ?_); rintro e w4 ⟨rfl, hu4⟩; have D4 := Lib.hid (D3.out.trans hu4); have V4 := Lib.hid (V3.out.trans hu4); clear hu4)
              | (at_builtin; refine wpList_append_ints _ rfl (.tmp 84) (.tmp 86) _ rfl w1.heap.size 3 i0 _ Tryz.underlying57 hi0 hz0 hz1 hz2 rfl _ ln (vals (nts rs)) rfl (HAP.out _ D4.out).1 (w4.heap.size + 1) (some ⟨w4.heap.size, 0, none⟩) 1 1 [(q : Int)] rfl (HAP.out _ D4.out).2.1 (by simp only [maxLen]; omega) (by omega) (HAP.out _ D4.out).2.2 ?_; intro v9 w9 hown9 hg9 _; have F9 := Lib.hid (HAG.out _ D4.out _ _ _ hown9 hg9); clear hown9 hg9))
            go_ret2
            exact ⟨some (rs ++ [q]), fun ps => ⟨fun h => by rw [((HG.out ps).1 h).2], fun h => (HG.out ps).2 ⟨⟨hqN, fun p hp => by rw [HRS.out] at hp; cases hp⟩, (Option.some.inj h).symm⟩⟩, ⟨_, rfl, F9.out.1.more (Nat.le_trans hBw U6.out.size)⟩, V6.out _ (F9.out.2 HOB.out)⟩
          · have hl0' : 0 < rs.length := by omega
            have HA := Lib.hid (HAS.out hl0')
            obtain ⟨lm, hlm1⟩ : ∃ lm, ln - 1 = lm := ⟨_, rfl⟩
            have HAP : Hid (∀ W, Upd noBlock wr W → (W.alloc (.cells #[.int .i64 (q : Int)] 3)).ownsRow w1.heap.size 3 1 (.slice sa ln sc) ln (vals (nts rs)) ∧ Ints (W.alloc (.cells #[.int .i64 (q : Int)] 3)) (W.heap.size + 1) (some ⟨W.heap.size, 0, none⟩) 1 [(q : Int)] ∧ w1.heap.size ≤ (W.alloc (.cells #[.int .i64 (q : Int)] 3)).heap.size) := fun W hW => by
              have ho := (HO.out.grow hW).grow ((Upd.refl noBlock W).alloc (.cells #[.int .i64 (q : Int)] 3))
              unfold OwnI at ho
              rw [nts_length, hln] at ho
              exact ⟨ho, ints_one W _, by rw [World.size_alloc]; have h2 := HU.out.size; have h3 := hW.size; omega⟩
            have HAG : Hid (∀ W, Upd noBlock wr W → ∀ v9 w9 own, w9.ownsRow w1.heap.size 3 1 v9 (ln + 1) (vals (nts rs) ++ vals [(q : Int)]) → (W.alloc (.cells #[.int .i64 (q : Int)] 3)).grownBy w9 own → OwnI w9 w1.heap.size v9 (nts (rs ++ [q])) ∧ ((∀ i, own = some i → w1.heap.size ≤ i) → Upd noBlock w1 w9)) := fun W hW v9 w9 own ho hg => by
              refine ⟨by rw [nts_append]; exact OwnI.snoc (by rw [nts_length, hln]) ho, fun hl => ?_⟩
              exact upd_of_grown ((HU.out.trans hW).alloc _) hg (fun i hi => .inr (hl i hi))
            have HOB : Hid (∀ i, (Value.slice sa ln sc).ownBlock = some i → w1.heap.size ≤ i) := HO.out.lt
            have hw7 : IntKind.i64.wrap ((ln : Int) - 1) = (lm : Int) := by rw [IntKind.wrap_i64]; omega
            have hlml : lm < ln := by omega
            have hln0 : 0 < ln := by omega
            obtain ⟨g8, cap8, e8, _, _, q8, _, _⟩ := HO.out.cells (by rw [nts_length]; omega)
            rw [nts_length, hln] at e8
            cases e8
            have c8 := q8 lm (by rw [nts_length]; omega)
            obtain ⟨z, hz⟩ : ∃ z, rs[lm]'(by omega) = z := ⟨_, rfl⟩
            rw [nts_getD rs lm (by omega), hz] at c8
            have HC8 : Hid (∀ W, Upd noBlock wr W → W.cell? ⟨g8, lm, none⟩ = some (.int .i64 ((z : Nat) : Int))) := fun W hW => upd_cell hW c8
            have hzz : rs[rs.length - 1]'(by omega) = z := by rw [← hz]; congr 1; omega
            rw [hzz] at HA
            clear q8 hz hzz hlm1
            by_cases hqz : z < q
            · have hqz1 : ¬ q ≤ z := by omega
              go_wp2_with (first
                | (go_at_call 172; (with_reducible refine HB1.out.mono ?_); rintro e w2 ⟨rfl, hu2⟩; have D2 := Lib.hid hu2; have V2 := Lib.hid (HU.out.trans hu2); clear hu2)
                | (go_at_call 224; (with_reducible refine (HLG.out _ (V6.out _ V2.out)).mono ?_); rintro e w3 ⟨rfl, hu3⟩; have D3 := Lib.hid (D2.out.trans hu3); have V3 := Lib.hid (V2.out.trans hu3); clear hu3)
                | (go_at_call 172; (with_reducible refine (HBITS.out _ (V6.out _ V3.out)).mono ?_); rintro e w4 ⟨rfl, hu4⟩; have D4 := Lib.hid (D3.out.trans hu4); have V4 := Lib.hid (V3.out.trans hu4); have k8 := HC8.out w4 D4.out; clear hu4)
                | (at_builtin; refine wpList_append_ints _ rfl (.tmp 84) (.tmp 86) _ rfl w1.heap.size 3 i0 _ Tryz.underlying57 hi0 hz0 hz1 hz2 rfl _ ln (vals (nts rs)) rfl (HAP.out _ D4.out).1 (w4.heap.size + 1) (some ⟨w4.heap.size, 0, none⟩) 1 1 [(q : Int)] rfl (HAP.out _ D4.out).2.1 (by simp only [maxLen]; omega) (by omega) (HAP.out _ D4.out).2.2 ?_; intro v9 w9 hown9 hg9 _; have F9 := Lib.hid (HAG.out _ D4.out _ _ _ hown9 hg9); clear hown9 hg9))
              go_ret2
              exact ⟨some (rs ++ [q]), fun ps => ⟨fun h => by rw [((HG.out ps).1 h).2], fun h => (HG.out ps).2 ⟨⟨hqN, HA.out.2 hqz⟩, (Option.some.inj h).symm⟩⟩, ⟨_, rfl, F9.out.1.more (Nat.le_trans hBw U6.out.size)⟩, V6.out _ (F9.out.2 HOB.out)⟩
            · have hqz1 : q ≤ z := by omega
              go_wp2_with (first
                | (go_at_call 172; (with_reducible refine HB1.out.mono ?_); rintro e w2 ⟨rfl, hu2⟩; have D2 := Lib.hid hu2; have V2 := Lib.hid (HU.out.trans hu2); clear hu2)
                | (go_at_call 224; (with_reducible refine (HLG.out _ (V6.out _ V2.out)).mono ?_); rintro e w3 ⟨rfl, hu3⟩; have D3 := Lib.hid (D2.out.trans hu3); have V3 := Lib.hid (V2.out.trans hu3); clear hu3)
                | (go_at_call 172; (with_reducible refine (HBITS.out _ (V6.out _ V3.out)).mono ?_); rintro e w4 ⟨rfl, hu4⟩; have D4 := Lib.hid (D3.out.trans hu4); have V4 := Lib.hid (V3.out.trans hu4); have k8 := HC8.out w4 D4.out; clear hu4))
              go_ret2
              exact ⟨none, fun ps => ⟨fun h => absurd (HA.out.1 ((HG.out ps).1 h).1.2) hqz, fun h => by cases h⟩, rfl, V6.out _ V4.out⟩
        · have hqN2 : N ≤ q := by omega
          go_wp2_with (first
            | (go_at_call 172; (with_reducible refine HB1.out.mono ?_); rintro e w2 ⟨rfl, hu2⟩; have D2 := Lib.hid hu2; have V2 := Lib.hid (HU.out.trans hu2); clear hu2)
            | (go_at_call 224; (with_reducible refine (HLG.out _ (V6.out _ V2.out)).mono ?_); rintro e w3 ⟨rfl, hu3⟩; have D3 := Lib.hid (D2.out.trans hu3); have V3 := Lib.hid (V2.out.trans hu3); clear hu3)
            | (go_at_call 172; (with_reducible refine (HBITS.out _ (V6.out _ V3.out)).mono ?_); rintro e w4 ⟨rfl, hu4⟩; have D4 := Lib.hid (D3.out.trans hu4); have V4 := Lib.hid (V3.out.trans hu4); clear hu4))
          go_ret2
          exact ⟨none, fun ps => ⟨fun h => absurd ((HG.out ps).1 h).1.1 hqN, fun h => by cases h⟩, rfl, V6.out _ V4.out⟩
end Go.Proofs.YtoledgpcgjdjjaaGreatDoor

/- syndromes. -/
namespace Go.Proofs.YtoledgpcgjdjjaaGreatDoor
open Go.RowKit Pm F
set_option linter.unusedVariables false

def esF (K : Nat) : List Int → F | [] => 0 | e :: l => alI ((K : Int) * e) + esF K l
theorem esF_append (K : Nat) (a b : List Int) : esF K (a ++ b) = esF K a + esF K b := by
  induction a with
  | nil => exact (zero_add _).symm
  | cons e a ih => show _ + esF K (a ++ b) = (_ + esF K a) + _; rw [ih, add_assoc]
theorem esF_take (K : Nat) (l : List Int) (q : Nat) (h : q < l.length) : esF K (l.take (q + 1)) = esF K (l.take q) + alI ((K : Int) * l.getD q 0) := by
  rw [List.take_succ_eq_append_getElem h, esF_append, List.getD_eq_getElem?_getD, List.getElem?_eq_getElem h]
  show _ + (_ + 0) = _
  rw [add_zero]; rfl
theorem exq_sum (r : Rm) (d K : Nat) : ∀ q, sm (fun j => fx (rb r j) (al (K * (d - 1 - j)))) q = esF K (exq r d q) := by
  intro q
  induction q with
  | zero => rfl
  | succ q ih =>
    show sm _ q + fx (rb r q) _ = esF K (if rb r q then _ else _)
    rw [ih]
    cases rb r q
    · exact add_zero _
    · rw [if_pos rfl, esF_append]
      congr 1
      show al _ = alI _ + 0
      rw [add_zero, ← Int.natCast_mul, alI_nat]
theorem evR_exq (r : Rm) (d K : Nat) : evR d K r = esF K (exq r d d) := exq_sum r d K d
theorem exq_small (r : Rm) (d q : Nat) : ∀ i, i < (exq r d q).length → ∃ e : Nat, (exq r d q).getD i 0 = (e : Int) ∧ e ≤ d := by
  induction q with
  | zero => intro i hi; exact absurd hi (by simp [exq])
  | succ q ih =>
    unfold exq
    split
    · intro i hi
      by_cases h : i < (exq r d q).length
      · obtain ⟨e, h1, h2⟩ := ih i h
        exact ⟨e, by rw [← h1, List.getD_eq_getElem?_getD, List.getElem?_append_left h, ← List.getD_eq_getElem?_getD], h2⟩
      · rw [List.length_append] at hi
        have : i = (exq r d q).length := by simp at hi; omega
        exact ⟨d - 1 - q, by rw [this, List.getD_eq_getElem?_getD, List.getElem?_append_right (Nat.le_refl _), Nat.sub_self]; rfl, by omega⟩
    · exact ih
def sq (S : Nat → F) (j i : Nat) : F := if i < j then S i else 0
theorem sq_set (S : Nat → F) (n j : Nat) : (il n (sq S j)).set j ((S j).1 : Int) = il n (sq S (j + 1)) := by
  rw [il_set]
  refine il_congr fun i _ => ?_
  unfold sq
  by_cases h : i = j
  · rw [if_pos h, if_pos (by omega), h]
  · rw [if_neg h]
    by_cases h2 : i < j
    · rw [if_pos h2, if_pos (by omega)]
    · rw [if_neg h2, if_neg (by omega)]
theorem sq_self (S : Nat → F) (n j : Nat) (h : j < n) : (il n (sq S j)).set j ((0 : F).1 : Int) = il n (sq S j) := by
  rw [il_set]
  refine il_congr fun i _ => ?_
  split
  · rename_i e; unfold sq; rw [if_neg (by omega)]
  · rfl
set_option maxRecDepth 100000 in
set_option maxHeartbeats 6400000 in
theorem syndromes_any (B c t : Nat) (k : Int) (r : Rm) (w : World) (h : MadeB B w c t k) (hBw : B ≤ w.heap.size) (hr : r.Ok) (ht1 : 1 ≤ t) (ht8 : t ≤ 8) (hz : ∀ j, 13 * t ≤ j → rb r j = false) :
    Calls Tryz.prog 210 #[.pointer (some ⟨c, 0, none⟩), r.agg] w fun e w' => ∃ u, e = .returned u ∧ OwnI w' B u (il (2 * t) fun j => evR (13 * t) (j + 1) r) ∧ MadeB B w' c t k ∧ Upd (oneBlock c) w w' := by
  have hcB := h.lt
  obtain ⟨d, hd⟩ : ∃ d, 13 * t = d := ⟨_, rfl⟩
  have hd104 : d ≤ 104 := by omega
  have HEXPS := Lib.hid (fun W => exponents_any r d W hr (by omega) (fun j hj => hz j (by omega)))
  have HSM := Lib.hid (exq_small r d d)
  have HLL := Lib.hid (exq_length r d d)
  have HEV : Hid (∀ j, evR d (j + 1) r = esF (j + 1) (exq r d d)) := fun j => evR_exq r d (j + 1)
  have HTW : Hid (∀ m, evR d (2 * m) r = evR d m r * evR d m r) := fun m => evR_two d m r
  have HD : Hid (∀ W, Upd noBlock w W → W.cell? ⟨c, 11, none⟩ = some (.int .i64 (d : Int))) := fun W hW => by rw [← hd]; exact (h.grow hW).made.deg
  have HT : Hid (∀ W, Upd noBlock w W → W.cell? ⟨c, 0, none⟩ = some (.int .i64 (t : Int))) := fun W hW => (h.grow hW).made.t
  have HM := Lib.hid h
  rw [hd]
  obtain ⟨n, hn⟩ : ∃ n, 2 * t = n := ⟨_, rfl⟩
  have hn16 : n ≤ 16 := by omega
  have hmk : ∀ w : World, (Instr.makeSlice 57 (.int .i64 (n : Int)) (.int .i64 (n : Int))).run Tryz.prog w = .ok (.slice (some ⟨w.heap.size, 0, none⟩) n n) (w.alloc (.cells (madeCells #[.int .i64 0] n) 3)) :=
    run_make_row' (P := Tryz.prog) 57 3 (.int .i64 0) 8 Tryz.underlying57 intMade rfl .i64 .i64 n (by omega) (by omega)
  have hw0 : IntKind.i64.wrap (2 * (t : Int)) = (n : Int) := by rw [IntKind.wrap_i64]; omega
  rw [hn]
  have HN : Hid (2 * t = n) := hn
  obtain ⟨S, hS⟩ : ∃ S : Nat → F, S = fun j => evR d (j + 1) r := ⟨_, rfl⟩
  have HSJ : Hid (∀ j, S j = evR d (j + 1) r) := fun j => by rw [hS]
  rw [← hS]
  clear hS
  clear hd hn hz h
  unfold Rm.agg at HEXPS ⊢
  go_enter Tryz.func210, Tryz.ntmps210
  go_wp2_with fail
  obtain ⟨wa, hwa⟩ : ∃ wa, wa = w.alloc (.cells #[.int .u64 (r.h : Int), .int .u64 (r.l : Int)] 174) := ⟨_, rfl⟩
  have HUA : Hid (Upd noBlock w wa) := by rw [hwa]; exact (Upd.refl _ _).alloc _
  have hba : RB wa w.heap.size r := by rw [hwa]; exact heap_alloc_new w _
  have HBA := Lib.hid hba
  rw [← hwa]
  have a1 : wa.drew.cell? ⟨w.heap.size, 0, none⟩ = some (.int .u64 (r.h : Int)) := hba.h
  have a2 : wa.drew.cell? ⟨w.heap.size, 1, none⟩ = some (.int .u64 (r.l : Int)) := hba.l
  have a3 : wa.drew.cell? ⟨c, 11, none⟩ = some (.int .i64 (d : Int)) := HD.out wa HUA.out
  clear hwa hba
  go_region_with (go_at_call 235; refine (HEXPS.out _).mono ?_; rintro e w1 ⟨u5, rfl, ho5, hu5⟩; have O5 := Lib.hid ho5; have U5 : Hid (Upd noBlock w w1) := HUA.out.trans (((Upd.refl noBlock wa).drew).trans hu5); have k0 := HT.out w1 U5.out; clear ho5 hu5)
  all_goals
    have O5B := Lib.hid (O5.out.more (B' := B) (Nat.le_trans hBw (by have h1 := HUA.out.size; first | exact h1 | exact Nat.le_refl _)))
    have M1 := Lib.hid (HM.out.grow U5.out)
    obtain ⟨O, HOE⟩ : ∃ O : Obj, Hid (O = .cells (madeCells #[.int .i64 0] n) 3) := ⟨_, rfl⟩
    rw [← HOE.out] at hmk
    have UM : Hid (Upd noBlock w1 (w1.alloc O)) := (Upd.refl _ _).alloc _
    have HS0 : Hid (∀ S : Nat → F, OwnI (w1.alloc O) w1.heap.size (.slice (some ⟨w1.heap.size, 0, none⟩) n n) (il n (sq S 0))) := fun S => by
      have e0 : il n (sq S 0) = il n (fun _ => 0) := il_congr fun i _ => if_neg (Nat.not_lt_zero i)
      rw [HOE.out, e0]
      exact made_il w1 w1.heap.size n (Nat.le_refl _) (by unfold maxLen; omega)
    have hB1 : B ≤ w1.heap.size := Nat.le_trans hBw U5.out.size
    obtain ⟨sa, sc, hsl, _, _, _⟩ := O5.out.sl
    obtain ⟨ln, hln⟩ : ∃ ln, (exq r d d).length = ln := ⟨_, rfl⟩
    rw [hln] at hsl
    subst hsl
    have HLN : Hid ((exq r d d).length = ln) := hln
    have hlnd : ln ≤ 104 := by have := HLL.out; omega
    clear a1 a2 a3 O5 hln
    go_wp2
    obtain ⟨wb, hwb⟩ : ∃ wb, wb = w1.alloc O := ⟨_, rfl⟩
    rw [← hwb] at UM HS0
    rw [← hwb]
    clear hmk hwb HOE
    go_loopw [26] (fun i wr => ∃ j : Nat, j ≤ n ∧ i = .int .i64 (j : Int) ∧ Hid (OwnI wr w1.heap.size (.slice (some ⟨w1.heap.size, 0, none⟩) n n) (il n (sq S j))) ∧ Hid (MadeB B wr c t k) ∧ Hid (Upd (oneBlock c) w1 wr)) (fun i _ => n - (intOf i).toNat)
    case atStart => exact ⟨0, Nat.zero_le _, rfl, HS0.out _, M1.out.grow UM.out, UM.out.one⟩
    case round =>
      clear HS0 UM
      obtain ⟨j, hj, rfl, HO, HMR, HU⟩ := hrel
      by_cases h0 : j < n
      · have HSET := Lib.hid (sq_set S n j)
        have hw1 : IntKind.i64.wrap ((j : Int) + 1) = ((j + 1 : Nat) : Int) := by rw [IntKind.wrap_i64]; omega
        obtain ⟨K, hK⟩ : ∃ K, j + 1 = K := ⟨_, rfl⟩
        have HK : Hid (j + 1 = K) := hK
        rw [hK] at hw1
        have hK16 : K ≤ 16 := by omega
        by_cases hev : K % 2 = 0
        · have hr2 : ((K : Int) % 2 == 0) = true := beq_iff_eq.2 (by omega)
          obtain ⟨m, hm⟩ : ∃ m, K / 2 = m + 1 := ⟨K / 2 - 1, by omega⟩
          have hq2 : (K : Int) / 2 = ((m + 1 : Nat) : Int) := by omega
          have hw2 : IntKind.i64.wrap (((m + 1 : Nat) : Int) - 1) = (m : Int) := by rw [IntKind.wrap_i64]; omega
          have hmj : m < j := by omega
          have hmn : m < n := by omega
          have HSQ : Hid (S j = S m * S m) := by
            show _ = _
            rw [HSJ.out j, HSJ.out m, ← HTW.out (m + 1)]
            congr 1
            omega
          obtain ⟨_, _, e2, _, _, q2, _, _⟩ := HO.out.cells (by rw [il_length]; omega)
          rw [il_length] at e2 q2
          cases e2
          have p2 := q2 m hmn
          rw [il_getD n _ m hmn, show sq S j m = S m from if_pos hmj] at p2
          have HMU := Lib.hid (fun W hW => mul_F B c t k (S m) (S m) W hW)
          have HLD : Hid (∀ W, Upd (oneBlock c) wr W → (∃ u, W.cell? ⟨w1.heap.size, j, none⟩ = some u) ∧ W.frozen? ⟨w1.heap.size, j, none⟩ = false ∧ OwnI (W.setCell ⟨w1.heap.size, j, none⟩ (.int .i64 ((S m * S m).1 : Int))) w1.heap.size (.slice (some ⟨w1.heap.size, 0, none⟩) n n) (il n (sq S (j + 1))) ∧ Upd (oneBlock c) w1 (W.setCell ⟨w1.heap.size, j, none⟩ (.int .i64 ((S m * S m).1 : Int)))) := fun W hW => by
            obtain ⟨_, _, e3, _, _, q3, f3, s3⟩ := (HO.out.far (Nat.lt_of_lt_of_le hcB hB1) hW).cells (by rw [il_length]; omega)
            rw [il_length] at e3 q3
            cases e3
            refine ⟨⟨_, q3 j h0⟩, f3 _, ?_, (HU.out.trans hW).setCell (p := ⟨w1.heap.size, j, none⟩) (.inr (Nat.le_refl _)) _⟩
            rw [← HSET.out, HSQ.out]
            exact s3 W _ _ rfl
          have HKP : Hid (∀ W v, MadeB B W c t k → MadeB B (W.setCell ⟨w1.heap.size, j, none⟩ v) c t k) := fun W v hW => hW.keep (Upd.setCell (R := oneBlock w1.heap.size) (Upd.refl _ W) (p := ⟨w1.heap.size, j, none⟩) (.inl rfl) _) fun i hi e => by have e' : i = w1.heap.size := e; omega
          clear q2 hev hm hK
          go_wp2_with (go_at_call 233; refine (HMU.out _ HMR.out).mono ?_; rintro e w2 ⟨rfl, hm2, hu2⟩; have M2 := Lib.hid hm2; have L2 := Lib.hid (HLD.out w2 hu2); obtain ⟨u9, k5⟩ := L2.out.1; have k6 := L2.out.2.1; clear hm2 hu2)
          go_roundw
          case rel => exact ⟨j + 1, by omega, by rw [HK.out], L2.out.2.2.1, HKP.out _ _ M2.out, L2.out.2.2.2⟩
          case measure => have := HK.out; simp [intOf]; omega
        · have hr2 : ((K : Int) % 2 == 0) = false := beq_eq_false_iff_ne.2 (by omega)
          have HSK : Hid (S j = esF K (exq r d d)) := by show _ = _; rw [HSJ.out j, HEV.out j, HK.out]
          have HTK := Lib.hid (fun q (hq : q < ln) => esF_take K (exq r d d) q (by rw [HLN.out]; exact hq))
          clear hev hK
          go_wp2
          obtain ⟨wo, rfl⟩ : ∃ wo : World, wo = wr := ⟨_, rfl⟩
          go_loopw [51] (fun i wr => ∃ q : Nat, q ≤ ln ∧ i = .int .i64 (q : Int) ∧ Hid (OwnI wr w1.heap.size (.slice (some ⟨w1.heap.size, 0, none⟩) n n) ((il n (sq S j)).set j ((esF K ((exq r d d).take q)).1 : Int))) ∧ Hid (MadeB B wr c t k) ∧ Hid (Upd (oneBlock c) w1 wr)) (fun i _ => ln - (intOf i).toNat)
          case atStart => exact ⟨0, Nat.zero_le _, rfl, by show OwnI _ _ _ _; rw [List.take_zero]; show OwnI _ _ _ ((il n (sq S j)).set j ((0 : F).1 : Int)); rw [sq_self S n j h0]; exact HO.out, HMR, HU⟩
          case round =>
            clear HO HMR HU
            obtain ⟨q, hq, rfl, HO, HMR, HU⟩ := hrel
            by_cases q0 : q < ln
            · obtain ⟨e, he, hed⟩ := HSM.out q (by rw [HLN.out]; exact q0)
              have HT1 := Lib.hid (HTK.out q q0)
              rw [he] at HT1
              obtain ⟨ge, ce, e5, _, _, q5, _, _⟩ := (O5B.out.far hcB HU.out).cells (by rw [HLN.out]; omega)
              rw [HLN.out] at e5
              cases e5
              have p5 := q5 q (by rw [HLN.out]; exact q0)
              rw [he] at p5
              have HX := xor_F (esF K ((exq r d d).take q)) (alI ((K : Int) * (e : Int)))
              have HEX := Lib.hid (fun W hW => exp_F B c t k ((K : Int) * (e : Int)) W hW)
              have hwm : IntKind.i64.wrap ((K : Int) * (e : Int)) = (K : Int) * (e : Int) := by
                have h2 : K * e ≤ 16 * 104 := Nat.mul_le_mul hK16 (by omega)
                have h3 : (K : Int) * (e : Int) = ((K * e : Nat) : Int) := by rw [Int.natCast_mul]
                rw [IntKind.wrap_i64]; omega
              have hwm2 : wrap64 ((K : Int) * (e : Int)) = (K : Int) * (e : Int) := by
                have h2 : K * e ≤ 16 * 104 := Nat.mul_le_mul hK16 (by omega)
                have h3 : (K : Int) * (e : Int) = ((K * e : Nat) : Int) := by rw [Int.natCast_mul]
                unfold wrap64; omega
              have hT2 : esF K ((exq r d d).take (q + 1)) = esF K ((exq r d d).take q) + alI ((K : Int) * (e : Int)) := HT1.out
              have HLD : Hid (∀ W, Upd noBlock wr W → W.cell? ⟨w1.heap.size, j, none⟩ = some (.int .i64 ((esF K ((exq r d d).take q)).1 : Int)) ∧ W.frozen? ⟨w1.heap.size, j, none⟩ = false ∧ OwnI (W.setCell ⟨w1.heap.size, j, none⟩ (.int .i64 ((esF K ((exq r d d).take q) + alI ((K : Int) * (e : Int))).1 : Int))) w1.heap.size (.slice (some ⟨w1.heap.size, 0, none⟩) n n) ((il n (sq S j)).set j ((esF K ((exq r d d).take (q + 1))).1 : Int)) ∧ MadeB B (W.setCell ⟨w1.heap.size, j, none⟩ (.int .i64 ((esF K ((exq r d d).take q) + alI ((K : Int) * (e : Int))).1 : Int))) c t k ∧ Upd (oneBlock c) w1 (W.setCell ⟨w1.heap.size, j, none⟩ (.int .i64 ((esF K ((exq r d d).take q) + alI ((K : Int) * (e : Int))).1 : Int)))) := fun W hW => by
                obtain ⟨_, _, e3, _, _, q3, f3, s3⟩ := (HO.out.grow hW).cells (by rw [List.length_set, il_length]; omega)
                rw [List.length_set, il_length] at e3 q3
                cases e3
                have p3 := q3 j h0
                rw [List.getD_eq_getElem?_getD, List.getElem?_set_self (by rw [il_length]; exact h0)] at p3
                refine ⟨p3, f3 _, ?_, (HMR.out.grow hW).keep (Upd.setCell (R := oneBlock w1.heap.size) (Upd.refl _ W) (p := ⟨w1.heap.size, j, none⟩) (.inl rfl) _) (fun i hi e => by have e' : i = w1.heap.size := e; omega), (HU.out.trans hW.one).setCell (p := ⟨w1.heap.size, j, none⟩) (.inr (Nat.le_refl _)) _⟩
                rw [hT2]
                have := s3 W j ((esF K ((exq r d d).take q) + alI ((K : Int) * (e : Int))).1 : Int) rfl
                rw [List.set_set] at this
                exact this
              have p3 := (HLD.out wr (Upd.refl _ _)).1
              have p4 : wr.drew.cell? ⟨w1.heap.size, j, none⟩ = _ := (HLD.out wr (Upd.refl _ _)).1
              have p6 : wr.drew.frozen? ⟨w1.heap.size, j, none⟩ = false := (HLD.out wr (Upd.refl _ _)).2.1
              have M3 : Hid (MadeB B wr.drew c t k) := HMR.out.grow (Upd.refl noBlock wr).drew
              clear q5 hT2
              generalize esF K ((exq r d d).take q) = s0 at *
              go_wp2_with fail
              go_region_with (go_at_call 195; refine (HEX.out _ M3.out).mono ?_; rintro e w3 ⟨rfl, hu3⟩; have L3 := Lib.hid (HLD.out w3 (((Upd.refl noBlock wr).drew).trans hu3)); have k5 := L3.out.1; have k6 := L3.out.2.1; clear hu3)
              all_goals
                go_wp2
                go_roundw
                case rel => exact ⟨q + 1, by omega, by go_num, L3.out.2.2.1, L3.out.2.2.2.1, L3.out.2.2.2.2⟩
                case measure => simp [intOf]; omega
            · obtain rfl : q = ln := by omega
              have HFN : Hid ((il n (sq S j)).set j ((esF K ((exq r d d).take q)).1 : Int) = il n (sq S (j + 1))) := by
                show _ = _
                rw [List.take_of_length_le (by rw [HLN.out]; exact Nat.le_refl _), ← HSK.out, HSET.out]
              go_wp2
              go_roundw
              case rel => exact ⟨j + 1, by omega, by rw [HK.out], by rw [← HFN.out]; exact HO, HMR, HU⟩
              case measure => have := HK.out; simp [intOf]; omega
      · obtain rfl : j = n := by omega
        go_wp2
        go_ret
        exact ⟨_, rfl, by rw [il_congr (g := sq S j) fun i hi => (if_pos hi).symm]; exact HO.out.more hB1, HMR.out, U5.out.one.trans HU.out⟩
end Go.Proofs.YtoledgpcgjdjjaaGreatDoor
