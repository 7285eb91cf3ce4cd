/- KeyRanges. -/
import Derived.Test.YtbnnkpnhfjkdpaaKj
import Derived.Test.YtbnnkpnhfjkdpaaKm
import Derived.Test.YtbnnkpnhfjkdpaaAr
import Derived.ChangeKeysEq
import Derived.Laws.Cover1
namespace Go.Proofs.Ytbnnkpnhfjkdpaa
open Go.RowKit
attribute [local irreducible] beZ valN

theorem eq_two (a0 a1 c0 c1 : Int) (w : World) :
    (Op.equalIn 10000 44 (.agg #[.int .i64 a0, .int .i64 a1]) (.agg #[.int .i64 c0, .int .i64 c1])).run Try.prog w = .ok (a0 == c0 && a1 == c1) w := by
  obtain ⟨i, hi⟩ : ∃ i, Try.prog.info? 3 = some i := Option.isSome_iff_exists.1 (by kernel_rfl)
  have hp : Try.prog.plainKey 3 = true := by kernel_rfl
  have hc : Try.prog.cellsOf 3 = 1 := by kernel_rfl
  have hpart : ∀ (xs : Array Value) (j : Nat) (v : Value) (w : World), xs[j]? = some v → (part 3 xs j).run Try.prog w = .ok v w := fun xs j v w h => run_part_plain w hp h
  have heq : ∀ (a b : Int) (w : World), (Op.equalIn 9999 3 (.int .i64 a) (.int .i64 b)).run Try.prog w = .ok (a == b) w := fun a b w => run_equalIn_int w 9998 _ .i64 .i64 a b Try.underlying3
  rw [run_equalIn_array w 9999 _ _ Try.underlying44 hi, hc, show List.range 2 = [0, 1] from rfl]
  simp only [Op.eqItems, Sem.run_bind, Nat.mul_one]
  rw [hpart _ 0 (.int .i64 a0) w rfl]
  simp only [Result.andThen_ok]
  rw [hpart _ 0 (.int .i64 c0) w rfl]
  simp only [Result.andThen_ok, heq]
  cases h0 : (a0 == c0)
  · simp
  simp only [Bool.not_true, Bool.false_eq_true, if_false, Sem.run_bind]
  rw [hpart _ 1 (.int .i64 a1) w rfl]
  simp only [Result.andThen_ok]
  rw [hpart _ 1 (.int .i64 c1) w rfl]
  simp only [Result.andThen_ok, heq]
  cases h1 : (a1 == c1) <;> simp
theorem kindOk_iff (k : Int) : kindOk k = true ↔ 1 ≤ k ∧ k ≤ 3 := by simp [kindOk]
theorem box_facts (w W : World) (A B : Array Value) (t t' : TypeId) (h : Upd noBlock ((w.alloc (.cells A t)).alloc (.cells B t')) W) :
    (∀ i, W.cell? ⟨w.heap.size, i, none⟩ = A[i]?) ∧ (∀ i, W.cell? ⟨w.heap.size + 1, i, none⟩ = B[i]?) :=
  ⟨fun i => cell_of (h.cells (block_alloc (heap_alloc_new w _) _) (fun h => h)) i, fun i => cell_of (h.cells (heap_alloc2_new w _ _) (fun h => h)) i⟩
set_option maxRecDepth 20000 in
set_option maxHeartbeats 3200000 in
theorem keyRanges_upd (a0 a1 b0 b1 : Int) (w : World) :
    Calls Try.prog 7 #[.agg #[.int .i64 a0, .int .i64 a1], .agg #[.int .i64 b0, .int .i64 b1]] w fun e w' => e = .returned (.bool true) ∧ Upd noBlock w w' := by
  have HS := Lib.hid speaks_any
  have HA := Range_any a0 a1
  have HB := Range_any b0 b1
  have HF := Lib.hid (fun W => box_facts w W #[.int .i64 a0, .int .i64 a1] #[.int .i64 b0, .int .i64 b1] 44 44)
  have HU : Hid (Upd noBlock w ((w.alloc (.cells #[.int .i64 a0, .int .i64 a1] 44)).alloc (.cells #[.int .i64 b0, .int .i64 b1] 44))) := ((Upd.refl _ _).alloc _).alloc _
  have heq := eq_two a0 a1 b0 b1
  by_cases ha : (okN a0 && kindOk a1) = true
  · by_cases hb : (okN b0 && kindOk b1) = true
    · rw [ha, if_pos rfl, if_pos rfl] at HA
      rw [hb, if_pos rfl, if_pos rfl] at HB
      rw [Bool.and_eq_true, okN_iff, kindOk_iff] at ha hb
      obtain ⟨⟨p0, p1⟩, p2, p3⟩ := ha
      obtain ⟨⟨q0, q1⟩, q2, q3⟩ := hb
      have l1 := (head_less (k := a1) (k' := a1 + 1) p0 p1 (by omega) (by omega) p0 p1 (by omega) (by omega)).1
      have l2 := (head_less (k := b1) (k' := b1 + 1) q0 q1 (by omega) (by omega) q0 q1 (by omega) (by omega)).1
      obtain ⟨l3, e3⟩ := head_less (k := a1 + 1) (k' := b1) p0 p1 (by omega) (by omega) q0 q1 (by omega) (by omega)
      obtain ⟨l4, e4⟩ := head_less (k := b1 + 1) (k' := a1) q0 q1 (by omega) (by omega) p0 p1 (by omega) (by omega)
      rw [decide_eq_true (by omega)] at l1 l2
      have t1 := toL (beZ 8 a0 ++ beZ 1 a1)
      have t2 := toL (beZ 8 a0 ++ beZ 1 (a1 + 1))
      have t3 := toL (beZ 8 b0 ++ beZ 1 b1)
      have t4 := toL (beZ 8 b0 ++ beZ 1 (b1 + 1))
      by_cases hab : a0 = b0 ∧ a1 = b1
      · obtain ⟨rfl, rfl⟩ := hab
        obtain ⟨x, hx⟩ : ∃ q : ByteArray, ⟨(beZ 8 a0 ++ beZ 1 a1).toArray⟩ = q := ⟨_, rfl⟩
        obtain ⟨y, hy⟩ : ∃ q : ByteArray, ⟨(beZ 8 a0 ++ beZ 1 (a1 + 1)).toArray⟩ = q := ⟨_, rfl⟩
        rw [hx, hy] at HA
        rw [← t1, ← t2, hx, hy] at l1
        replace HA := Lib.hid HA
        simp only [beq_self_eq_true, Bool.and_true] at heq
        clear l2 l3 l4 e3 e4 t1 t2 t3 t4 hx hy HB
        go_enter Try.func7, Try.ntmps7
        go_wp2_with (first
          | (go_at_call 8; with_reducible refine (HS.out _).mono ?_; rintro e w1 ⟨rfl, h⟩; obtain ⟨c1, c2⟩ := HF.out _ h; have H1 := Lib.hid h; clear h)
          | (go_at_call 15; have _t := H2; with_reducible refine (HA.out _).mono ?_; rintro e w3 ⟨rfl, h⟩; obtain ⟨f1, f2⟩ := HF.out _ (H2.out.trans h); have H3 := Lib.hid (H2.out.trans h); clear h H2)
          | (go_at_call 15; with_reducible refine (HA.out _).mono ?_; rintro e w2 ⟨rfl, h⟩; obtain ⟨d1, d2⟩ := HF.out _ (H1.out.trans h); have H2 := Lib.hid (H1.out.trans h); clear h))
        go_ret
        exact ⟨rfl, HU.out.trans H3.out⟩
      · have hne : (a0 == b0 && a1 == b1) = false := by
          cases h : (a0 == b0 && a1 == b1) with
          | false => rfl
          | true => simp at h; exact absurd h hab
        simp only [hne] at heq
        obtain ⟨x, hx⟩ : ∃ q : ByteArray, ⟨(beZ 8 a0 ++ beZ 1 a1).toArray⟩ = q := ⟨_, rfl⟩
        obtain ⟨y, hy⟩ : ∃ q : ByteArray, ⟨(beZ 8 a0 ++ beZ 1 (a1 + 1)).toArray⟩ = q := ⟨_, rfl⟩
        obtain ⟨u, hu⟩ : ∃ q : ByteArray, ⟨(beZ 8 b0 ++ beZ 1 b1).toArray⟩ = q := ⟨_, rfl⟩
        obtain ⟨v, hv⟩ : ∃ q : ByteArray, ⟨(beZ 8 b0 ++ beZ 1 (b1 + 1)).toArray⟩ = q := ⟨_, rfl⟩
        rw [hx, hy] at HA
        rw [hu, hv] at HB
        rw [hx] at t1
        rw [hy] at t2
        rw [hu] at t3
        rw [hv] at t4
        rw [← t1, ← t2] at l1
        rw [← t3, ← t4] at l2
        rw [← t2, ← t3] at l3 e3
        rw [← t4, ← t1] at l4 e4
        replace HA := Lib.hid HA
        replace HB := Lib.hid HB
        have HYU : Hid (a0 = b0 ∧ a1 + 1 = b1 → y = u) := fun h => by rw [← hy, ← hu, h.1, h.2]
        clear t1 t2 t3 t4 hx hy hu hv
        by_cases g1 : 256 * a0 + (a1 + 1) < 256 * b0 + b1
        · rw [decide_eq_true g1] at l3
          clear e3 l4 e4
          go_enter Try.func7, Try.ntmps7
          go_wp2_with (first
            | (go_at_call 8; with_reducible refine (HS.out _).mono ?_; rintro e w1 ⟨rfl, h⟩; obtain ⟨c1, c2⟩ := HF.out _ h; have H1 := Lib.hid h; clear h)
            | (go_at_call 15; have _t := H2; with_reducible refine (HB.out _).mono ?_; rintro e w3 ⟨rfl, h⟩; obtain ⟨f1, f2⟩ := HF.out _ (H2.out.trans h); have H3 := Lib.hid (H2.out.trans h); clear h H2)
            | (go_at_call 15; with_reducible refine (HA.out _).mono ?_; rintro e w2 ⟨rfl, h⟩; obtain ⟨d1, d2⟩ := HF.out _ (H1.out.trans h); have H2 := Lib.hid (H1.out.trans h); clear h))
          go_ret
          exact ⟨rfl, HU.out.trans H3.out⟩
        · rw [decide_eq_false g1] at l3
          by_cases g2 : a0 = b0 ∧ a1 + 1 = b1
          · obtain rfl := HYU.out g2
            clear l4 e4 e3 g2 HYU
            go_enter Try.func7, Try.ntmps7
            go_wp2_with (first
              | (go_at_call 8; with_reducible refine (HS.out _).mono ?_; rintro e w1 ⟨rfl, h⟩; obtain ⟨c1, c2⟩ := HF.out _ h; have H1 := Lib.hid h; clear h)
              | (go_at_call 15; have _t := H2; with_reducible refine (HB.out _).mono ?_; rintro e w3 ⟨rfl, h⟩; obtain ⟨f1, f2⟩ := HF.out _ (H2.out.trans h); have H3 := Lib.hid (H2.out.trans h); clear h H2)
              | (go_at_call 15; with_reducible refine (HA.out _).mono ?_; rintro e w2 ⟨rfl, h⟩; obtain ⟨d1, d2⟩ := HF.out _ (H1.out.trans h); have H2 := Lib.hid (H1.out.trans h); clear h))
            go_ret
            exact ⟨rfl, HU.out.trans H3.out⟩
          · rw [decide_eq_false g2] at e3
            by_cases g3 : 256 * b0 + (b1 + 1) < 256 * a0 + a1
            · rw [decide_eq_true g3] at l4
              clear e4
              go_enter Try.func7, Try.ntmps7
              go_wp2_with (first
                | (go_at_call 8; with_reducible refine (HS.out _).mono ?_; rintro e w1 ⟨rfl, h⟩; obtain ⟨c1, c2⟩ := HF.out _ h; have H1 := Lib.hid h; clear h)
                | (go_at_call 15; have _t := H2; with_reducible refine (HB.out _).mono ?_; rintro e w3 ⟨rfl, h⟩; obtain ⟨f1, f2⟩ := HF.out _ (H2.out.trans h); have H3 := Lib.hid (H2.out.trans h); clear h H2)
                | (go_at_call 15; with_reducible refine (HA.out _).mono ?_; rintro e w2 ⟨rfl, h⟩; obtain ⟨d1, d2⟩ := HF.out _ (H1.out.trans h); have H2 := Lib.hid (H1.out.trans h); clear h))
              go_ret
              exact ⟨rfl, HU.out.trans H3.out⟩
            · rw [decide_eq_false g3] at l4
              rw [decide_eq_true (p := b0 = a0 ∧ b1 + 1 = a1) (by omega)] at e4
              go_enter Try.func7, Try.ntmps7
              go_wp2_with (first
                | (go_at_call 8; with_reducible refine (HS.out _).mono ?_; rintro e w1 ⟨rfl, h⟩; obtain ⟨c1, c2⟩ := HF.out _ h; have H1 := Lib.hid h; clear h)
                | (go_at_call 15; have _t := H2; with_reducible refine (HB.out _).mono ?_; rintro e w3 ⟨rfl, h⟩; obtain ⟨f1, f2⟩ := HF.out _ (H2.out.trans h); have H3 := Lib.hid (H2.out.trans h); clear h H2)
                | (go_at_call 15; with_reducible refine (HA.out _).mono ?_; rintro e w2 ⟨rfl, h⟩; obtain ⟨d1, d2⟩ := HF.out _ (H1.out.trans h); have H2 := Lib.hid (H1.out.trans h); clear h))
              go_ret
              exact ⟨rfl, HU.out.trans H3.out⟩
    · have hb' : (okN b0 && kindOk b1) = false := by simpa using hb
      rw [hb', if_neg (by decide), if_neg (by decide)] at HB
      rw [ha, if_pos rfl, if_pos rfl] at HA
      obtain ⟨x, hx⟩ : ∃ q : ByteArray, ⟨(beZ 8 a0 ++ beZ 1 a1).toArray⟩ = q := ⟨_, rfl⟩
      obtain ⟨y, hy⟩ : ∃ q : ByteArray, ⟨(beZ 8 a0 ++ beZ 1 (a1 + 1)).toArray⟩ = q := ⟨_, rfl⟩
      rw [hx, hy] at HA
      replace HA := Lib.hid HA
      replace HB := Lib.hid HB
      clear hx hy ha hb hb' heq
      go_enter Try.func7, Try.ntmps7
      go_wp2_with (first
        | (go_at_call 8; with_reducible refine (HS.out _).mono ?_; rintro e w1 ⟨rfl, h⟩; obtain ⟨c1, c2⟩ := HF.out _ h; have H1 := Lib.hid h; clear h)
        | (go_at_call 15; have _t := H2; with_reducible refine (HB.out _).mono ?_; rintro e w3 ⟨rfl, h⟩; obtain ⟨f1, f2⟩ := HF.out _ (H2.out.trans h); have H3 := Lib.hid (H2.out.trans h); clear h H2)
        | (go_at_call 15; with_reducible refine (HA.out _).mono ?_; rintro e w2 ⟨rfl, h⟩; obtain ⟨d1, d2⟩ := HF.out _ (H1.out.trans h); have H2 := Lib.hid (H1.out.trans h); clear h))
      go_ret
      exact ⟨rfl, HU.out.trans H3.out⟩
  · have ha' : (okN a0 && kindOk a1) = false := by simpa using ha
    rw [ha', if_neg (by decide), if_neg (by decide)] at HA
    obtain ⟨u, hu⟩ : ∃ q : ByteArray, ⟨(if (okN b0 && kindOk b1) = true then beZ 8 b0 ++ beZ 1 b1 else []).toArray⟩ = q := ⟨_, rfl⟩
    obtain ⟨v, hv⟩ : ∃ q : ByteArray, ⟨(if (okN b0 && kindOk b1) = true then beZ 8 b0 ++ beZ 1 (b1 + 1) else []).toArray⟩ = q := ⟨_, rfl⟩
    rw [hu, hv] at HB
    generalize (okN b0 && kindOk b1) = g at *
    replace HA := Lib.hid HA
    replace HB := Lib.hid HB
    clear hu hv ha ha' heq
    go_enter Try.func7, Try.ntmps7
    go_wp2_with (first
      | (go_at_call 8; with_reducible refine (HS.out _).mono ?_; rintro e w1 ⟨rfl, h⟩; obtain ⟨c1, c2⟩ := HF.out _ h; have H1 := Lib.hid h; clear h)
      | (go_at_call 15; have _t := H2; with_reducible refine (HB.out _).mono ?_; rintro e w3 ⟨rfl, h⟩; obtain ⟨f1, f2⟩ := HF.out _ (H2.out.trans h); have H3 := Lib.hid (H2.out.trans h); clear h H2)
      | (go_at_call 15; with_reducible refine (HA.out _).mono ?_; rintro e w2 ⟨rfl, h⟩; obtain ⟨d1, d2⟩ := HF.out _ (H1.out.trans h); have H2 := Lib.hid (H1.out.trans h); clear h))
    go_ret
    exact ⟨rfl, HU.out.trans H3.out⟩
theorem keyRanges_walk (a0 a1 b0 b1 : Int) (w : World) (_ : (Lit.int IntKind.i64 a0).wf = true) (_ : (Lit.int IntKind.i64 a1).wf = true) (_ : (Lit.int IntKind.i64 b0).wf = true) (_ : (Lit.int IntKind.i64 b1).wf = true) :
    Calls Try.prog 7 #[.agg #[.int .i64 a0, .int .i64 a1], .agg #[.int .i64 b0, .int .i64 b1]] w fun e w' => e = .returned (.bool true) ∧ Below w.heap.size w w' :=
  (keyRanges_upd a0 a1 b0 b1 w).mono fun _ _ ⟨h, hu⟩ => ⟨h, hu.below (fun _ _ h => h)⟩
end Go.Proofs.Ytbnnkpnhfjkdpaa
