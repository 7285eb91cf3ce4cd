import Derived.Test.YtjfbbnmonfankaaKGNA
import Derived.Test.YtjfbbnmonfankaaKDc
import Derived.Test.YtjfbbnmonfankaaKND
/- trimmed, bits, isRoot. -/
namespace Go.Proofs.Ytjfbbnmonfankaa
open Go.RowKit Pm F
set_option linter.unusedVariables false

set_option maxRecDepth 100000 in
set_option maxHeartbeats 1600000 in
theorem trimmed_any (C : Nat → F) (N B : Nat) (v : Value) (w : World) (hr : OwnI w B v (il N C)) (hN0 : 0 < N) (hN : N ≤ 2000) (hC0 : C 0 ≠ 0) :
    Calls Try.prog 56 #[v] w fun e w' => ∃ m u, e = .returned u ∧ 1 ≤ m ∧ m ≤ N ∧ C (m - 1) ≠ 0 ∧ (∀ i, m ≤ i → i < N → C i = 0) ∧ OwnI w' B u (il m C) ∧ Upd noBlock w w' := by
  obtain ⟨i0, hi0, hz0, hz1, hz2⟩ := intPartsI
  have HR := Lib.hid hr
  have HC0 := Lib.hid hC0
  obtain ⟨g, cap, rfl, hg, _, _, _, _⟩ := hr.cells (by rw [il_length]; exact hN0)
  have hcap := own_cap hr
  rw [il_length] at HR hcap
  rw [il_length]
  have HHEAD : Hid (∀ W k, Upd noBlock w W → 0 < k → k ≤ N → OwnI W B (.slice (some ⟨g, 0, none⟩) k cap) (il k C)) := fun W k hW h0 hk => by
    obtain ⟨_, _, e, _, _, ho⟩ := (HR.out.grow hW).head (by rw [il_length]; exact hN0) k (by rw [il_length]; exact hk)
    rw [il_length] at e
    cases e
    rw [il_take N k C hk] at ho
    exact ho
  have HSL : Hid (∀ (n k : Nat) (w : World), k ≤ n → n ≤ cap → 0 < n → (Instr.sliceAt 34 (.slice (some ⟨g, 0, none⟩) n cap) none (some (.int .i64 (k : Int))) none).run Try.prog w = .ok (.slice (some ⟨g, 0, none⟩) k cap) w) := fun n k w hk hn h0 => by
    have := Doc.run_slice_lo w 34 3 i0 Try.underlying34 hi0 (some ⟨g, 0, none⟩) n cap k hk hn
    rw [if_neg (by omega)] at this
    exact this
  clear hr hC0
  go_enter Try.func56, Try.ntmps56
  go_wp2
  go_loopw [0] (fun v wr => ∃ m : Nat, 1 ≤ m ∧ m ≤ N ∧ v = .slice (some ⟨g, 0, none⟩) m cap ∧ Hid (∀ i, m ≤ i → i < N → C i = 0) ∧ Hid (Upd noBlock w wr)) (fun v _ => slen v)
  case atStart => exact ⟨N, hN0, Nat.le_refl _, rfl, fun i h1 h2 => absurd h2 (by omega), Upd.refl _ _⟩
  case round =>
    obtain ⟨m, hm1, hm2, rfl, HZ, HU⟩ := hrel
    obtain ⟨_, _, e1, _, _, q1, _, _⟩ := (HHEAD.out wr m HU.out hm1 hm2).cells (by rw [il_length]; exact hm1)
    rw [il_length] at e1 q1
    cases e1
    obtain ⟨q, rfl⟩ : ∃ q, m = q + 1 := ⟨m - 1, by omega⟩
    have p1 := q1 q (by omega)
    rw [il_getD _ C q (by omega)] at p1
    obtain ⟨n1, hn1⟩ : ∃ n1, q + 1 = n1 := ⟨_, rfl⟩
    have hw1 : IntKind.i64.wrap ((n1 : Int) - 1) = (q : Int) := by rw [IntKind.wrap_i64]; omega
    have hn0 : 0 < n1 := by omega
    have hq1 : q < n1 := by omega
    have hn2 : n1 ≤ 2000 := by omega
    clear q1
    by_cases hz : C q = 0
    · have hq0 : 0 < q := by
        rcases Nat.eq_zero_or_pos q with h | h
        · exact absurd (h ▸ hz) HC0.out
        · exact h
      have p2 : wr.cell? ⟨g, q, none⟩ = some (.int .i64 0) := by rw [p1, hz]; rfl
      have hsl := HSL.out n1 q
      have hsl2 := fun w => hsl w (by omega) (by omega) hn0
      clear p1 hsl
      rw [hn1]
      go_wp2
      go_roundw
      case rel => exact ⟨q, hq0, by omega, rfl, fun i h1 h2 => by
        by_cases e : i = q
        · rw [e, hz]
        · exact HZ.out i (by omega) h2, HU⟩
      case measure => show q < n1; omega
    · have hx : ¬ (C q).1 = 0 := fun e => hz (F.ext e)
      have HFIN := Lib.hid (HHEAD.out wr (q + 1) HU.out hm1 hm2)
      have HZ1 := Lib.hid hz
      obtain ⟨x, hxe⟩ : ∃ x, (C q).1 = x := ⟨_, rfl⟩
      rw [hxe] at p1 hx
      have hx0 : ((x : Int) == 0) = false := beq_eq_false_iff_ne.2 (by omega)
      rw [hn1] at HFIN ⊢
      clear hxe hz
      go_wp2
      go_ret
      exact ⟨n1, _, rfl, by omega, by omega, by rw [← hn1, Nat.add_sub_cancel]; exact HZ1.out, by rw [← hn1]; exact HZ.out, HFIN.out, HU.out⟩
set_option maxRecDepth 100000 in
set_option maxHeartbeats 1600000 in
theorem bits_any (B c t k : Nat) (w : World) (h : MadeB B w c t (k : Int)) (hk : k ≤ 256) (ht8 : t ≤ 8) :
    Calls Try.prog 27 #[.pointer (some ⟨c, 0, none⟩)] w fun e w' => e = .returned (.int .i64 ((8 * k + 13 * t : Nat) : Int)) ∧ Upd noBlock w w' := by
  have HM := Lib.hid h
  obtain ⟨d, hd⟩ : ∃ d, 13 * t = d := ⟨_, rfl⟩
  have k1 : w.drew.cell? ⟨c, 1, none⟩ = some (.int .i64 (k : Int)) := h.made.k
  have k2 : w.drew.cell? ⟨c, 11, none⟩ = some (.int .i64 (d : Int)) := by rw [← hd]; exact h.made.deg
  have k3 : w.cell? ⟨c, 1, none⟩ = some (.int .i64 (k : Int)) := h.made.k
  have k4 : w.cell? ⟨c, 11, none⟩ = some (.int .i64 (d : Int)) := by rw [← hd]; exact h.made.deg
  have hw1 : IntKind.i64.wrap (8 * (k : Int)) = 8 * (k : Int) := by rw [IntKind.wrap_i64]; omega
  have hw2 : IntKind.i64.wrap (8 * (k : Int) + (d : Int)) = ((8 * k + d : Nat) : Int) := by rw [IntKind.wrap_i64]; omega
  rw [hd]
  generalize 8 * k + d = z at *
  clear h hd
  go_enter Try.func27, Try.ntmps27
  go_wp2
  go_quiet (fail)
  go_wp2
  go_ret
  exact ⟨rfl, (Upd.refl noBlock w).drewN _⟩
/-- a row of numbers -/
def irow (N : Nat) (g : Nat → Int) : List Int := (List.range N).map g
theorem irow_length (N : Nat) (g : Nat → Int) : (irow N g).length = N := by simp [irow]
theorem irow_getD (N : Nat) (g : Nat → Int) (i : Nat) (h : i < N) : (irow N g).getD i 0 = g i := by simp [irow, List.getD_eq_getElem?_getD, h]
theorem irow_congr {N : Nat} {f g : Nat → Int} (h : ∀ p, p < N → f p = g p) : irow N f = irow N g := List.map_congr_left fun p hp => h p (List.mem_range.1 hp)
theorem irow_set (N : Nat) (g : Nat → Int) (q : Nat) (x : Int) : (irow N g).set q x = irow N fun i => if i = q then x else g i := by
  apply List.ext_getElem
  · rw [List.length_set, irow_length, irow_length]
  · intro p h1 h2
    rw [List.getElem_set]
    simp only [irow, List.getElem_map, List.getElem_range]
    split
    · rename_i e; rw [if_pos e.symm]
    · rename_i e; rw [if_neg (fun h => e h.symm)]
theorem lgI_zero : lgI 0 = -1 := if_pos rfl
theorem lgI_ne {x : F} (h : x ≠ 0) : lgI x = (Gfm.lg x.1 : Int) := if_neg h
theorem rtq_step (C : Nat → F) (p j : Nat) (h : C j ≠ 0) : rtq C p (j + 1) = rtq C p j + alI (lgI (C j) - (j : Int) * (p : Int)) := by
  show rtq C p j + C j * alI (-((j : Int) * (p : Int))) = _
  have e : alI (lgI (C j)) = C j := by rw [lgI_ne h, alI_nat]; exact lg_al h
  rw [Int.sub_eq_add_neg, alI_add, e]
theorem rtq_skip (C : Nat → F) (p j : Nat) (h : C j = 0) : rtq C p (j + 1) = rtq C p j := by
  show rtq C p j + C j * alI (-((j : Int) * (p : Int))) = _
  rw [h, zero_mul, add_zero]
set_option maxRecDepth 100000 in
set_option maxHeartbeats 1600000 in
theorem isRoot_any (B c t : Nat) (k : Int) (C : Nat → F) (m p : Nat) (v : Value) (w : World) (h : MadeB B w c t k) (hr : OwnI w B v (irow m fun i => lgI (C i))) (hm0 : 0 < m) (hm : m ≤ 100) (hp : p ≤ 100000) :
    Calls Try.prog 60 #[.pointer (some ⟨c, 0, none⟩), v, .int .i64 (p : Int)] w fun e w' => e = .returned (.bool (decide (rtq C p m = 0))) ∧ Upd noBlock w w' := by
  have HM0 := Lib.hid h
  have HR := Lib.hid hr
  obtain ⟨g, cap, rfl, _, _, _, _, _⟩ := hr.cells (by rw [irow_length]; exact hm0)
  rw [irow_length] at HR
  rw [irow_length]
  clear h hr
  go_enter Try.func60, Try.ntmps60
  go_wp2
  go_loopw [7, 12] (fun s i wr => ∃ j : Nat, j ≤ m ∧ i = .int .i64 (j : Int) ∧ s = .int .i64 ((rtq C p j).1 : Int) ∧ Hid (Upd noBlock w wr)) (fun _ i _ => m - (intOf i).toNat)
  case atStart => exact ⟨0, Nat.zero_le _, rfl, rfl, Upd.refl _ _⟩
  case round =>
    obtain ⟨j, hj, rfl, rfl, HU⟩ := hrel
    by_cases h0 : j < m
    · obtain ⟨_, _, e1, _, _, q1, _, _⟩ := (HR.out.grow HU.out).cells (by rw [irow_length]; exact hm0)
      rw [irow_length] at e1 q1
      cases e1
      have p1 := q1 j h0
      rw [irow_getD _ _ _ h0] at p1
      clear q1
      by_cases hz : C j = 0
      · have HNX := Lib.hid (rtq_skip C p j hz)
        have p2 : wr.cell? ⟨g, j, none⟩ = some (.int .i64 (-1)) := by rw [p1, hz, lgI_zero]
        clear p1 hz
        generalize rtq C p j = s0 at *
        go_wp2
        go_roundw
        case rel => exact ⟨j + 1, by omega, by go_num, congrArg (fun z : F => Value.int .i64 (z.1 : Int)) HNX.out.symm, HU⟩
        case measure => simp [intOf]; omega
      · have HNX := Lib.hid (rtq_step C p j hz)
        have hlg := Gfm.lg_lt (C j).1
        have p2 : wr.cell? ⟨g, j, none⟩ = some (.int .i64 (Gfm.lg (C j).1 : Int)) := by rw [p1, lgI_ne hz]
        rw [lgI_ne hz] at HNX
        obtain ⟨x, hx⟩ : ∃ x : Nat, Gfm.lg (C j).1 = x := ⟨_, rfl⟩
        rw [hx] at HNX p2 hlg
        have hw1 : IntKind.i64.wrap ((j : Int) * (p : Int)) = (j : Int) * (p : Int) := by
          have h1 : (0 : Int) ≤ (j : Int) * (p : Int) := Int.mul_nonneg (by omega) (by omega)
          have h2 : j * p ≤ 100 * 100000 := Nat.mul_le_mul (by omega) hp
          have h3 : (j : Int) * (p : Int) = ((j * p : Nat) : Int) := by rw [Int.natCast_mul]
          rw [IntKind.wrap_i64]; omega
        have hw2 : IntKind.i64.wrap ((x : Int) - (j : Int) * (p : Int)) = (x : Int) - (j : Int) * (p : Int) := by
          have h1 : (0 : Int) ≤ (j : Int) * (p : Int) := Int.mul_nonneg (by omega) (by omega)
          have h2 : j * p ≤ 100 * 100000 := Nat.mul_le_mul (by omega) hp
          have h3 : (j : Int) * (p : Int) = ((j * p : Nat) : Int) := by rw [Int.natCast_mul]
          rw [IntKind.wrap_i64]; omega
        have HX := xor_F (rtq C p j) (alI ((x : Int) - (j : Int) * (p : Int)))
        have HEX := Lib.hid (fun W (hW : Upd noBlock w W) => exp_F B c t k ((x : Int) - (j : Int) * (p : Int)) W (HM0.out.grow hW))
        have hw3 : wrap64 ((x : Int) - (j : Int) * (p : Int)) = (x : Int) - (j : Int) * (p : Int) := by
          rw [← hw2, IntKind.wrap_i64]; unfold wrap64; rw [IntKind.wrap_i64] at hw2; omega
        have hxge : decide ((x : Int) ≥ 0) = true := decide_eq_true (by omega)
        clear p1 hz hx
        generalize rtq C p j = s0 at *
        go_wp2_with (go_at_call 58; (with_reducible refine (HEX.out _ HU.out).mono ?_); rintro e w2 ⟨rfl, hu2⟩; have U2 := Lib.hid (HU.out.trans hu2); clear hu2)
        go_roundw
        case rel => exact ⟨j + 1, by omega, by go_num, congrArg (fun z : F => Value.int .i64 (z.1 : Int)) HNX.out.symm, U2⟩
        case measure => simp [intOf]; omega
    · obtain rfl : j = m := by omega
      have hfin : (((rtq C p j).1 : Int) == 0) = decide (rtq C p j = 0) := by
        by_cases e : rtq C p j = 0
        · rw [decide_eq_true e, e]; rfl
        · rw [decide_eq_false e]
          exact beq_eq_false_iff_ne.2 fun h => e (F.ext (by show (rtq C p j).1 = 0; omega))
      have HF := Lib.hid hfin
      clear hfin
      go_wp2
      go_ret
      exact ⟨congrArg (fun b => Ending.returned (Value.bool b)) HF.out, HU.out⟩
end Go.Proofs.Ytjfbbnmonfankaa

/- logs. -/
namespace Go.Proofs.Ytjfbbnmonfankaa
open Go.RowKit Pm F
set_option linter.unusedVariables false

/-- the logarithms of the first j -/
def lq (C : Nat → F) (j i : Nat) : Int := if i < j then lgI (C i) else 0
theorem lq_set (C : Nat → F) (n j : Nat) : (irow n (lq C j)).set j (lgI (C j)) = irow n (lq C (j + 1)) := by
  rw [irow_set]
  refine irow_congr fun i _ => ?_
  unfold lq
  by_cases h : i = j
  · rw [if_pos h, if_pos (by omega), h]
  · rw [if_neg h]
    by_cases h2 : i < j
    · rw [if_pos h2, if_pos (by omega)]
    · rw [if_neg h2, if_neg (by omega)]
theorem lq_set2 (C : Nat → F) (n j : Nat) (x : Int) : ((irow n (lq C j)).set j x).set j (lgI (C j)) = irow n (lq C (j + 1)) := by
  rw [List.set_set, lq_set]
theorem il_zero_irow (n : Nat) : il n (fun _ => 0) = irow n (fun _ => 0) := rfl
set_option maxRecDepth 100000 in
set_option maxHeartbeats 3200000 in
theorem logs_any (B c t : Nat) (k : Int) (C : Nat → F) (n : Nat) (v : Value) (w : World) (h : MadeB B w c t k) (hBw : B ≤ w.heap.size) (hr : OwnI w B v (il n C)) (hn0 : 0 < n) (hn : n ≤ 1000) :
    Calls Try.prog 59 #[.pointer (some ⟨c, 0, none⟩), v] w fun e w' => ∃ u, e = .returned u ∧ OwnI w' B u (irow n fun i => lgI (C i)) ∧ Upd noBlock w w' := by
  have hcB := h.lt
  have hmk : ∀ w : World, (Instr.makeSlice 34 (.int .i64 (n : Int)) (.int .i64 (n : Int))).run Try.prog w = .ok (.slice (some ⟨w.heap.size, 0, none⟩) n n) (w.alloc (.cells (madeCells #[.int .i64 0] n) 3)) :=
    run_make_row' (P := Try.prog) 34 3 (.int .i64 0) 8 Try.underlying34 intMade rfl .i64 .i64 n (by omega) (by omega)
  obtain ⟨O, HOE⟩ : ∃ O : Obj, Hid (O = .cells (madeCells #[.int .i64 0] n) 3) := ⟨_, rfl⟩
  rw [← HOE.out] at hmk
  obtain ⟨wa, hwa⟩ : ∃ wa, wa = w.alloc O := ⟨_, rfl⟩
  have HU0 : Hid (Upd noBlock w wa) := by rw [hwa]; exact (Upd.refl _ _).alloc _
  have HO0 : Hid (OwnI wa w.heap.size (.slice (some ⟨w.heap.size, 0, none⟩) n n) (irow n (lq C 0))) := by
    rw [hwa, HOE.out]
    have := made_il w w.heap.size n (Nat.le_refl _) (by unfold maxLen; omega)
    rw [il_zero_irow, irow_congr (g := lq C 0) fun i _ => (if_neg (Nat.not_lt_zero i)).symm] at this
    exact this
  obtain ⟨g, cap, rfl, _, hgl, _, _, _⟩ := hr.cells (by rw [il_length]; exact hn0)
  rw [il_length] at hr
  rw [il_length]
  have HR := Lib.hid hr
  have HM := Lib.hid h
  clear h hr
  go_enter Try.func59, Try.ntmps59
  go_wp2
  rw [← hwa]
  clear hmk hwa HOE
  go_loopw [15] (fun i wr => ∃ j : Nat, j ≤ n ∧ i = .int .i64 (j : Int) ∧ Hid (OwnI wr w.heap.size (.slice (some ⟨w.heap.size, 0, none⟩) n n) (irow n (lq C j))) ∧ Hid (Upd noBlock w wr)) (fun i _ => n - (intOf i).toNat)
  case atStart => exact ⟨0, Nat.zero_le _, rfl, HO0, HU0⟩
  case round =>
    clear HO0 HU0
    obtain ⟨j, hj, rfl, HO, HU⟩ := hrel
    by_cases h0 : j < n
    · obtain ⟨_, _, e2, _, _, q2, _, _⟩ := (HR.out.grow HU.out).cells (by rw [il_length]; exact hn0)
      rw [il_length] at e2 q2
      cases e2
      have p2 := q2 j h0
      rw [il_getD n C j h0] at p2
      clear q2
      obtain ⟨_, _, e3, _, _, q3, f3, s3⟩ := HO.out.cells (by rw [irow_length]; omega)
      rw [irow_length] at e3 q3
      cases e3
      have p3 := q3 j h0
      have p4 := f3 j
      have HW1 : Hid (OwnI (wr.setCell ⟨w.heap.size, j, none⟩ (.int .i64 (-1))) w.heap.size (.slice (some ⟨w.heap.size, 0, none⟩) n n) ((irow n (lq C j)).set j (-1))) := s3 wr j (-1) rfl
      have U1 : Hid (Upd noBlock w (wr.setCell ⟨w.heap.size, j, none⟩ (.int .i64 (-1)))) := HU.out.setCell (p := ⟨w.heap.size, j, none⟩) (.inr (Nat.le_refl _)) _
      clear q3 f3 s3
      by_cases hz : C j = 0
      · have HNX := Lib.hid (lq_set C n j)
        rw [hz, lgI_zero] at HNX
        have p5 : wr.cell? ⟨g, j, none⟩ = some (.int .i64 0) := by rw [p2, hz]; rfl
        have HLG := Lib.hid (fun W => log_F0 c W)
        clear p2 hz
        go_wp2_with (go_at_call 61; (with_reducible refine (HLG.out _).mono ?_); rintro e w2 ⟨rfl, rfl⟩)
        go_roundw
        case rel => exact ⟨j + 1, by omega, by go_num, by rw [← HNX.out]; exact HW1, U1⟩
        case measure => simp [intOf]; omega
      · have HNX := Lib.hid (lq_set2 C n j (-1))
        rw [lgI_ne hz] at HNX
        have HLG := Lib.hid (fun W hW => log_F B c t k (C j) W hW hz)
        have M1 : Hid (MadeB B (wr.setCell ⟨w.heap.size, j, none⟩ (.int .i64 (-1))) c t k) := HM.out.grow U1.out
        have HS2 : Hid (∀ W, Upd noBlock (wr.setCell ⟨w.heap.size, j, none⟩ (.int .i64 (-1))) W → (∃ u, W.cell? ⟨w.heap.size, j, none⟩ = some u) ∧ W.frozen? ⟨w.heap.size, j, none⟩ = false ∧ OwnI (W.setCell ⟨w.heap.size, j, none⟩ (.int .i64 (Gfm.lg (C j).1 : Int))) w.heap.size (.slice (some ⟨w.heap.size, 0, none⟩) n n) (irow n (lq C (j + 1))) ∧ Upd noBlock w (W.setCell ⟨w.heap.size, j, none⟩ (.int .i64 (Gfm.lg (C j).1 : Int)))) := fun W hW => by
          obtain ⟨_, _, e3, _, _, q3, f3, s3⟩ := (HW1.out.grow hW).cells (by rw [List.length_set, irow_length]; omega)
          rw [List.length_set, irow_length] at e3 q3
          cases e3
          exact ⟨⟨_, q3 j h0⟩, f3 j, by rw [← HNX.out]; exact s3 W _ _ rfl, (U1.out.trans hW).setCell (p := ⟨w.heap.size, j, none⟩) (.inr (Nat.le_refl _)) _⟩
        generalize C j = x at *
        go_wp2_with (go_at_call 61; (with_reducible refine (HLG.out _ M1.out).mono ?_); rintro e w2 ⟨rfl, hu2⟩; have L2 := Lib.hid (HS2.out w2 hu2); obtain ⟨u5, k5⟩ := L2.out.1; have k6 := L2.out.2.1; clear hu2)
        go_roundw
        case rel => exact ⟨j + 1, by omega, by go_num, L2.out.2.2.1, L2.out.2.2.2⟩
        case measure => simp [intOf]; omega
    · obtain rfl : j = n := by omega
      go_wp2
      go_ret
      exact ⟨_, rfl, by rw [irow_congr (g := lq C j) fun i hi => (if_pos hi).symm]; exact HO.out.more hBw, HU.out⟩
end Go.Proofs.Ytjfbbnmonfankaa
