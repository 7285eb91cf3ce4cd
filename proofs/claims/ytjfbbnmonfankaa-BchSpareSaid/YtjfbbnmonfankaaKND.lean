/- mended. -/
import Derived.Test.YtjfbbnmonfankaaKGNA
import Derived.Laws.CopyRow
import Derived.Laws.MakeOwn
namespace Go.Proofs.Ytjfbbnmonfankaa
open Go.RowKit Pm F
set_option linter.unusedVariables false

theorem intMade : (Try.prog.info? 3).map (fun i => (i.zero, i.size, i.bytes)) = some (some (.int .i64 0), 1, 8) := by kernel_rfl
theorem made_il (w : World) (B n : Nat) (hB : B ≤ w.heap.size) (hn : n ≤ maxLen) : OwnI (w.alloc (.cells (madeCells #[.int .i64 0] n) 3)) B (.slice (some ⟨w.heap.size, 0, none⟩) n n) (il n fun _ => 0) := by
  unfold OwnI
  rw [il_length]
  refine ⟨by simp [vals, il_length], .inr ⟨w.heap.size, n, _, rfl, hB, heap_alloc_new w _, Nat.le_refl _, hn, by rw [size_madeCells, Nat.mul_one], ?_⟩⟩
  apply List.ext_getElem
  · simp [size_madeCells, vals, il_length]
  · intro i h1 h2
    simp [madeCells, vals, il]
    rw [show i % 1 = 0 by omega]
    rfl
theorem copy_il {W : World} {B B' R N g cap g' cap' : Nat} {g0 C : Nat → F} (ty : TypeId) (h : OwnI W B (.slice (some ⟨g, 0, none⟩) R cap) (il R g0)) (h' : OwnI W B' (.slice (some ⟨g', 0, none⟩) N cap') (il N C)) (hN : N ≤ R) (h0 : 0 < N) :
    ∃ W2, (Builtin.copy_ #[34, 34] ty #[.slice (some ⟨g, 0, none⟩) R cap, .slice (some ⟨g', 0, none⟩) N cap']).run Try.prog W = .ok (.int .i64 (N : Int)) W2 ∧ OwnI W2 B (.slice (some ⟨g, 0, none⟩) R cap) (il R fun i => if i < N then C i else g0 i) ∧ Upd (oneBlock g) W W2 := by
  obtain ⟨_, _, e', _, _, hc', _, _⟩ := h'.cells (by rw [il_length]; exact h0)
  rw [il_length] at e' hc'
  cases e'
  unfold OwnI at h
  rw [il_length] at h
  obtain ⟨hl, hh⟩ := h
  rcases hh with ⟨_, h2⟩ | ⟨_, _, cur, e, hb, hg, hnc, hcm, hsz, htake⟩
  · omega
  · cases e
    have hrun := run_copy_row (P := Try.prog) W 34 34 ty 3 g 0 R cap ⟨g', 0, none⟩ N cap' cur 3 (vals (il N C)) Try.underlying34 (by kernel_rfl) hg (by rw [vals, List.length_map, il_length]; exact (Nat.min_eq_left hN).symm)
      (fun j v hj => by
        have hjN : j < N := by have := (List.getElem?_eq_some_iff.1 hj).1; simpa [vals, il_length] using this
        rw [add_zero_addr, hc' j hjN, ← hj, vals_get _ _ (by rw [il_length]; exact hjN)])
      (by rw [vals, List.length_map, il_length]; omega) (vals_one _)
    rw [show (vals (il N C)).length = N by rw [vals, List.length_map, il_length]] at hrun
    refine ⟨_, hrun, ?_, Upd.setRow (R := oneBlock g) (Upd.refl _ _) (.inl rfl) _⟩
    unfold OwnI
    rw [il_length]
    refine ⟨by simp [vals, il_length], .inr ⟨g, cap, _, rfl, hb, setRow_heap W g cur _ 3 (0, 0) hg, hnc, hcm, ?_, ?_⟩⟩
    · simp [vals, il_length]; omega
    · have hX : ∀ i, i < R → cur.toList[i]? = some (.int .i64 ((g0 i).1 : Int)) := fun i hi => by
        have : (cur.toList.take (R * 1))[i]? = (vals (il R g0))[i]? := by rw [htake]
        rw [List.getElem?_take, if_pos (by omega), vals_get _ _ (by rw [il_length]; exact hi), il_getD _ _ _ hi] at this
        exact this
      have hvl : ∀ M (f : Nat → F), (vals (il M f)).length = M := fun M f => by rw [vals, List.length_map, il_length]
      simp only [Nat.mul_one, List.take_zero, List.nil_append, Nat.zero_add]
      apply List.ext_getElem?
      intro i
      by_cases hi : i < R
      · rw [List.getElem?_take, if_pos hi, vals_get _ _ (by rw [il_length]; exact hi), il_getD _ _ _ hi]
        by_cases hN' : i < N
        · rw [List.getElem?_append_left (by rw [hvl]; exact hN'), vals_get _ _ (by rw [il_length]; exact hN'), il_getD _ _ _ hN', if_pos hN']
        · rw [List.getElem?_append_right (by rw [hvl]; omega), hvl, List.getElem?_drop, show N + (i - N) = i by omega, hX i hi, if_neg hN']
      · rw [List.getElem?_take, if_neg hi, List.getElem?_eq_none (by rw [hvl]; omega)]
set_option maxRecDepth 100000 in
set_option maxHeartbeats 3200000 in
theorem mended_any (c t : Nat) (k : Int) (C D : Nat → F) (f : F) (N M m B : Nat) (v v' : Value) (w : World) (h : MadeB B w c t k) (hBw : B ≤ w.heap.size) (hr : OwnI w B v (il N C)) (hs : OwnI w B v' (il M D)) (hN0 : 0 < N) (hN : N ≤ 1000) (hM0 : 0 < M) (hM : M ≤ 1000) (hm : m ≤ 1000)
    (hC : ∀ i, N ≤ i → C i = 0) (hD : ∀ i, M ≤ i → D i = 0) :
    Calls Try.prog 54 #[.pointer (some ⟨c, 0, none⟩), v, v', .int .i64 (f.1 : Int), .int .i64 (m : Int)] w fun e w' => ∃ u, e = .returned u ∧ OwnI w' B u (il (max N (M + m)) (mend C D f m)) ∧ MadeB B w' c t k ∧ Upd (oneBlock c) w w' := by
  obtain ⟨R, hR⟩ : ∃ R, max N (M + m) = R := ⟨_, rfl⟩
  rw [hR]
  have hNR : N ≤ R := by omega
  have hMR : M + m ≤ R := by omega
  have hR2 : R ≤ 2000 := by omega
  have hmk : ∀ w : World, (Instr.makeSlice 34 (.int .i64 (R : Int)) (.int .i64 (R : Int))).run Try.prog w = .ok (.slice (some ⟨w.heap.size, 0, none⟩) R R) (w.alloc (.cells (madeCells #[.int .i64 0] R) 3)) :=
    run_make_row' (P := Try.prog) 34 3 (.int .i64 0) 8 Try.underlying34 intMade rfl .i64 .i64 R (by omega) (by omega)
  obtain ⟨O, HOE⟩ : ∃ O : Obj, Hid (O = .cells (madeCells #[.int .i64 0] R) 3) := ⟨_, rfl⟩
  rw [← HOE.out] at hmk
  obtain ⟨wa, hwa⟩ : ∃ wa, wa = w.alloc O := ⟨_, rfl⟩
  have ua : Upd noBlock w wa := by rw [hwa]; exact (Upd.refl _ _).alloc _
  have oa : OwnI wa w.heap.size (.slice (some ⟨w.heap.size, 0, none⟩) R R) (il R fun _ => 0) := by rw [hwa, HOE.out]; exact made_il w w.heap.size R (Nat.le_refl _) (by unfold maxLen; omega)
  obtain ⟨g, cap, rfl, hg, hgl, _, _, _⟩ := hr.cells (by rw [il_length]; exact hN0)
  obtain ⟨g', cap', rfl, hg', hgl', _, _, _⟩ := hs.cells (by rw [il_length]; exact hM0)
  rw [il_length] at hr
  rw [il_length] at hs
  rw [il_length, il_length]
  obtain ⟨W2, hcp, oc, uc⟩ := copy_il 3 oa (hr.grow ua) hNR hN0
  have hgoal : il R (fun i => if i < N then C i else (fun _ => (0 : F)) i) = il R (mendQ C D f m 0) := il_congr fun i _ => by
    rw [mendQ_zero]
    split
    · rfl
    · rename_i hi; exact (hC i (by omega)).symm
  rw [hgoal] at oc
  have u2 : Upd noBlock w W2 := ua.step uc fun i hi e => absurd hi (by rw [e]; exact Nat.lt_irrefl _)
  have HQ := Lib.hid (mendQ_all C D f m M hD)
  have HQS := Lib.hid (mendQ_succ C D f m)
  have HMUL := Lib.hid (fun x y W hW => mul_F B c t k x y W hW)
  have HS := Lib.hid (hs.grow u2)
  have HOC := Lib.hid oc
  have HM2 := Lib.hid (h.grow u2)
  have HU2 := Lib.hid u2
  have hmax : max (N : Int) ((M : Int) + (m : Int)) = (R : Int) := by omega
  have hcB := h.lt
  have hw0 : IntKind.i64.wrap ((M : Int) + (m : Int)) = (M : Int) + (m : Int) := by rw [IntKind.wrap_i64]; omega
  have hs0 := hs
  clear h hr hs ua oa uc hgoal hR u2 oc
  go_enter Try.func54, Try.ntmps54
  rw [hwa] at hcp
  go_wp2
  clear hcp hmk hwa
  have HS0 := Lib.hid hs0
  clear hs0
  go_loopw [27] (fun i wr => ∃ j : Nat, j ≤ M ∧ i = .int .i64 (j : Int) ∧ Hid (OwnI wr w.heap.size (.slice (some ⟨w.heap.size, 0, none⟩) R R) (il R (mendQ C D f m j))) ∧ Hid (MadeB B wr c t k) ∧ Hid (Upd (oneBlock c) w wr)) (fun i _ => M - (intOf i).toNat)
  case atStart => exact ⟨0, Nat.zero_le _, rfl, HOC, HM2, HU2.out.one⟩
  case round =>
    clear HM2 HOC HU2 HS
    obtain ⟨j, hj, rfl, HO, HM, HU⟩ := hrel
    by_cases h0 : j < M
    · obtain ⟨_, _, e2, _, _, q2, _, _⟩ := (HS0.out.far hcB HU.out).cells (by rw [il_length]; exact hM0)
      rw [il_length] at e2 q2
      cases e2
      have p2 := q2 j h0
      rw [il_getD M D j h0] at p2
      clear q2
      have hmu : ∀ W, MadeB B W c t k → _ := fun W hW => mul_F B c t k f (D j) W hW
      have HMU := Lib.hid hmu
      obtain ⟨x, hx⟩ : ∃ x, mendQ C D f m j (j + m) = x := ⟨_, rfl⟩
      have HX := xor_F x (f * D j)
      have hjm : j + m < R := by omega
      have HNX : Hid (il R (mendQ C D f m (j + 1)) = (il R (mendQ C D f m j)).set (j + m) ((x + f * D j).1 : Int)) := by
        show _ = _
        rw [il_set, HQS.out j, hx]
      have HLD : Hid (∀ W, Upd (oneBlock c) wr W → W.cell? ⟨w.heap.size, j + m, none⟩ = some (.int .i64 (x.1 : Int)) ∧ W.frozen? ⟨w.heap.size, j + m, none⟩ = false ∧ OwnI (W.setCell ⟨w.heap.size, j + m, none⟩ (.int .i64 ((x + f * D j).1 : Int))) w.heap.size (.slice (some ⟨w.heap.size, 0, none⟩) R R) (il R (mendQ C D f m (j + 1))) ∧ Upd (oneBlock c) w (W.setCell ⟨w.heap.size, j + m, none⟩ (.int .i64 ((x + f * D j).1 : Int)))) := fun W hW => by
        obtain ⟨_, _, e3, _, _, q3, f3, s3⟩ := (HO.out.far (Nat.lt_of_lt_of_le hcB hBw) hW).cells (by rw [il_length]; omega)
        rw [il_length] at e3 q3
        cases e3
        have p3 := q3 (j + m) hjm
        rw [il_getD R _ _ hjm, hx] at p3
        exact ⟨p3, f3 _, by rw [HNX.out]; exact s3 W _ _ rfl, (HU.out.trans hW).setCell (p := ⟨w.heap.size, j + m, none⟩) (.inr (Nat.le_refl _)) _⟩
      have HKP : Hid (∀ W v, MadeB B W c t k → MadeB B (W.setCell ⟨w.heap.size, j + m, none⟩ v) c t k) := fun W v hW => hW.keep (Upd.setCell (R := oneBlock w.heap.size) (Upd.refl _ W) (p := ⟨w.heap.size, j + m, none⟩) (.inl rfl) _) fun i hi e => by have e' : i = w.heap.size := e; omega
      obtain ⟨k1, k2, _, _⟩ := HLD.out wr.drew (Upd.refl (oneBlock c) wr).drew
      have hM1 : Hid (MadeB B wr.drew c t k) := HM.out.grow ((Upd.refl noBlock wr).drew)
      have hw1 : IntKind.i64.wrap ((j : Int) + (m : Int)) = ((j + m : Nat) : Int) := by rw [IntKind.wrap_i64]; omega
      clear hx
      generalize j + m = ix at *
      go_wp2_with fail
      go_region_with (go_at_call 55; (with_reducible refine (HMU.out _ hM1.out).mono ?_); rintro e w2 ⟨rfl, hm2, hu2⟩; have M2 := Lib.hid hm2; have hu3 := (Upd.refl (oneBlock c) wr).drew.trans hu2; have L2 := Lib.hid (HLD.out w2 hu3); have k5 := L2.out.1; have k6 := L2.out.2.1; clear hm2 hu2)
      all_goals
        go_wp2
        go_roundw
        case rel => exact ⟨j + 1, by omega, by go_num, L2.out.2.2.1, HKP.out _ _ M2.out, L2.out.2.2.2⟩
        case measure => simp [intOf]; omega
    · obtain rfl : j = M := by omega
      go_wp2
      go_ret
      exact ⟨_, rfl, by rw [← HQ.out]; exact HO.out.more hBw, HM.out, HU.out⟩
end Go.Proofs.Ytjfbbnmonfankaa
