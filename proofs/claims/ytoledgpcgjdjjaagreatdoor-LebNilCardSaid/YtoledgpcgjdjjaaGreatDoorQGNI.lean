import Derived.Test.YtoledgpcgjdjjaaGreatDoorQGNC
import Derived.Test.YtoledgpcgjdjjaaGreatDoorQGND
import Derived.Deep.CutRange
/- locator: the way of Berlekamp and Massey. -/
namespace Go.Proofs.YtoledgpcgjdjjaaGreatDoor
open Go.RowKit Pm F
set_option linter.unusedVariables false

def un (i : Nat) : F := if i = 0 then 1 else 0
theorem one_il (w : World) (B : Nat) (hB : B ≤ w.heap.size) : OwnI (w.alloc (.cells #[.int .i64 1] 3)) B (.slice (some ⟨w.heap.size, 0, none⟩) 1 1) (il 1 un) := by
  unfold OwnI
  rw [il_length]
  exact ⟨by simp [vals, il_length], .inr ⟨w.heap.size, 1, _, rfl, hB, heap_alloc_new w _, Nat.le_refl _, by unfold maxLen; omega, rfl, rfl⟩⟩
theorem Bm.since {S : Nat → F} {n : Nat} {C : Nat → F} {L : Nat} {B : Nat → F} {b : F} {m : Nat} (h : Bm S n C L B b m) : m ≤ n + 1 := by
  rcases h.old with h | h
  · omega
  · omega
set_option maxRecDepth 100000 in
set_option maxHeartbeats 6400000 in
theorem locator_any (B c t : Nat) (k : Int) (S : Nat → F) (v : Value) (w : World) (h : MadeB B w c t k) (hBw : B ≤ w.heap.size) (ht1 : 1 ≤ t) (ht8 : t ≤ 8) (hs : OwnI w B v (il (2 * t) S)) :
    Calls Tryz.prog 209 #[.pointer (some ⟨c, 0, none⟩), v] w fun e w' => ∃ C L u m, e = .returned (.tuple #[u, .bool (decide (L ≤ t) && decide (m = L + 1))]) ∧ OwnI w' B u (il m C) ∧ Gen C L S (2 * t) ∧ (∀ C' L', Gen C' L' S (2 * t) → L ≤ L') ∧
      1 ≤ m ∧ C (m - 1) ≠ 0 ∧ (∀ i, m ≤ i → C i = 0) ∧ MadeB B w' c t k ∧ Upd (oneBlock c) w w' := by
  obtain ⟨i0, hi0, hz0, hz1, hz2⟩ := intPartsI
  have hcB := h.lt
  obtain ⟨z, hz⟩ : ∃ z, 2 * t = z := ⟨_, rfl⟩
  rw [hz] at hs ⊢
  have hz0' : 0 < z := by omega
  have hz16 : z ≤ 16 := by omega
  obtain ⟨g, cap, rfl, hg, _, _, _, _⟩ := hs.cells (by rw [il_length]; exact hz0')
  have hcap := own_cap hs
  rw [il_length] at hs hcap
  rw [il_length]
  have HS0 := Lib.hid hs
  have HSL : Hid (∀ (k : Nat) (w : World), k ≤ z → (Instr.sliceAt 57 (.slice (some ⟨g, 0, none⟩) z cap) none (some (.int .i64 (k : Int))) none).run Tryz.prog w = .ok (.slice (some ⟨g, 0, none⟩) k cap) w) := fun k w hk => by
    have := Doc.run_slice_lo w 57 3 i0 Tryz.underlying57 hi0 (some ⟨g, 0, none⟩) z cap k hk hcap
    rw [if_neg (by omega)] at this
    exact this
  have HHEAD : Hid (∀ W n, Upd (oneBlock c) w W → n < z → OwnI W B (.slice (some ⟨g, 0, none⟩) (n + 1) cap) (il (n + 1) S)) := fun W n hW hn => by
    obtain ⟨_, _, e, _, _, ho⟩ := (HS0.out.far hcB hW).head (by rw [il_length]; exact hz0') (n + 1) (by rw [il_length]; omega)
    rw [il_length] at e
    cases e
    rw [il_take z (n + 1) S (by omega)] at ho
    exact ho
  have HTC : Hid (∀ W, MadeB B W c t k → W.cell? ⟨c, 0, none⟩ = some (.int .i64 (t : Int))) := fun W hW => hW.made.t
  obtain ⟨wa, hwa⟩ : ∃ wa, wa = (w.alloc (.cells #[.int .i64 1] 3)).alloc (.cells #[.int .i64 1] 3) := ⟨_, rfl⟩
  have UA : Hid (Upd noBlock w wa) := by rw [hwa]; exact ((Upd.refl _ _).alloc _).alloc _
  have R0 : Hid (OwnI wa B (.slice (some ⟨w.heap.size, 0, none⟩) 1 1) (il 1 un)) := by rw [hwa]; exact (one_il w B hBw).grow ((Upd.refl noBlock _).alloc _)
  have R1 : Hid (OwnI wa B (.slice (some ⟨w.heap.size + 1, 0, none⟩) 1 1) (il 1 un)) := by
    rw [hwa]
    have := one_il (w.alloc (.cells #[.int .i64 1] 3)) B (by rw [World.size_alloc]; omega)
    rw [World.size_alloc] at this
    exact this
  have M0 : Hid (MadeB B wa c t k) := h.grow UA.out
  have hBa : B ≤ wa.heap.size := Nat.le_trans hBw UA.out.size
  have HBM0 := Lib.hid (bm_start S)
  clear h hs
  go_enter Tryz.func209, Tryz.ntmps209
  go_wp2_with fail
  rw [← hwa]
  clear hwa
  go_loopw [6, 7, 8, 9, 10, 20] (fun v6 v7 v8 v9 v10 i wr => ∃ (n : Nat) (C : Nat → F) (L : Nat) (D : Nat → F) (b : F) (m N M : Nat), n ≤ z ∧ i = .int .i64 (n : Int) ∧ Hid (Bm S n C L D b m) ∧ Hid (0 < N ∧ 0 < M ∧ N ≤ 1 + 20 * n ∧ M ≤ 1 + 20 * n ∧ (∀ i, N ≤ i → C i = 0) ∧ (∀ i, M ≤ i → D i = 0)) ∧ v8 = .int .i64 (L : Int) ∧ v9 = .int .i64 (b.1 : Int) ∧ v10 = .int .i64 (m : Int) ∧ Hid (OwnI wr B v6 (il N C)) ∧ Hid (OwnI wr B v7 (il M D)) ∧ Hid (MadeB B wr c t k) ∧ Hid (Upd (oneBlock c) w wr)) (fun _ _ _ _ _ i _ => z - (intOf i).toNat)
  case atStart => exact ⟨0, un, 0, un, 1, 1, 1, 1, Nat.zero_le _, rfl, HBM0, ⟨by omega, by omega, by omega, by omega, fun i hi => if_neg (by omega), fun i hi => if_neg (by omega)⟩, rfl, rfl, rfl, R0, R1, M0, UA.out.one⟩
  case round =>
    clear R0 R1 M0 HBM0 UA
    obtain ⟨n, C, L, D, b, m, N, M, hn, rfl, HBM, HB, rfl, rfl, rfl, HR, HO, HM, HU⟩ := hrel
    have hBr : B ≤ wr.heap.size := Nat.le_trans hBw HU.out.size
    obtain ⟨hN0, hM0, hN1, hM1, hC, hD⟩ := HB.out
    have hmn := HBM.out.since
    have hLn := HBM.out.le
    by_cases h0 : n < z
    · have hsl := fun w => HSL.out (n + 1) w (by omega)
      have HPRE := Lib.hid (HHEAD.out wr n HU.out h0)
      have hw1 : IntKind.i64.wrap ((n : Int) + 1) = ((n + 1 : Nat) : Int) := by rw [IntKind.wrap_i64]; omega
      have HGAP := Lib.hid (gap_any c t k C S N n B _ _ wr HM.out HR.out HPRE.out hN0 (by omega) (by omega) hC)
      obtain ⟨d, hd⟩ : ∃ d, cv C S n = d := ⟨_, rfl⟩
      rw [hd] at HGAP
      have hwm : IntKind.i64.wrap ((m : Int) + 1) = ((m + 1 : Nat) : Int) := by rw [IntKind.wrap_i64]; omega
      obtain ⟨n1, hn1⟩ : ∃ n1, n + 1 = n1 := ⟨_, rfl⟩
      have HN1 : Hid (n + 1 = n1) := hn1
      by_cases hd0 : d = 0
      · have HB2 := Lib.hid (bm_same HBM.out (hd.trans hd0))
        have HGAP0 : Hid (Calls Tryz.prog 230 #[.pointer (some ⟨c, 0, none⟩), _, .slice (some ⟨g, 0, none⟩) (n + 1) cap] wr fun e w' => e = .returned (.int .i64 0) ∧ MadeB B w' c t k ∧ Upd (oneBlock c) wr w') := HGAP.out.mono fun e w' ⟨h1, h2, h3⟩ => ⟨by rw [h1, hd0]; rfl, h2, h3⟩
        clear hd0 hd HGAP
        rw [hn1] at hsl hw1 HGAP0
        clear hn1
        go_wp2_with (go_at_call 230; refine HGAP0.out.mono ?_; rintro e w2 ⟨rfl, hm2, hu2⟩; have M2 := Lib.hid hm2; have D2 := Lib.hid hu2; clear hm2 hu2)
        go_roundw
        case rel => exact ⟨n + 1, C, L, D, b, m + 1, N, M, by omega, by rw [HN1.out], HB2, ⟨hN0, hM0, by omega, by omega, hC, hD⟩, rfl, rfl, rfl, HR.out.far hcB D2.out, HO.out.far hcB D2.out, M2, HU.out.trans D2.out⟩
        case measure => have := HN1.out; simp [intOf]; omega
      · have HINV := Lib.hid (fun W hW => inv_F B c t k b W hW HBM.out.nz)
        have HMUL := Lib.hid (fun y W hW => mul_F B c t k d y W hW)
        have HMEND := Lib.hid (fun (f : F) (W : World) (hW : MadeB B W c t k) (hu : Upd (oneBlock c) wr W) => mended_any c t k C D f N M m B _ _ W hW (Nat.le_trans hBr hu.size) (HR.out.far hcB hu) (HO.out.far hcB hu) hN0 (by omega) hM0 (by omega) (by omega) hC hD)
        have hdx : ¬ d.1 = 0 := fun e => hd0 (F.ext e)
        have hd1 : ((d.1 : Int) == 0) = false := beq_eq_false_iff_ne.2 (by omega)
        have HBL : Hid (∀ y, b * y = 1 → 2 * L ≤ n → Bm S (n + 1) (mend C D (d * y) m) (n + 1 - L) C d 1) := fun y hy hl => bm_long HBM.out hd hd0 (by rw [mul_assoc, mul_comm y, hy, mul_one]) hl
        have HBS : Hid (∀ y, b * y = 1 → ¬ 2 * L ≤ n → Bm S (n + 1) (mend C D (d * y) m) L D b (m + 1)) := fun y hy hl => bm_short HBM.out hd hd0 (by rw [mul_assoc, mul_comm y, hy, mul_one]) hl
        have HFAR := Lib.hid (fun f => mend_far C D f m N M hC hD)
        have hw2 : IntKind.i64.wrap (2 * (L : Int)) = ((2 * L : Nat) : Int) := by rw [IntKind.wrap_i64]; omega
        have hw3 : IntKind.i64.wrap (((n + 1 : Nat) : Int) - (L : Int)) = ((n + 1 - L : Nat) : Int) := by rw [IntKind.wrap_i64]; omega
        obtain ⟨L2, hL2⟩ : ∃ L2, 2 * L = L2 := ⟨_, rfl⟩
        obtain ⟨nl, hnl⟩ : ∃ nl, n + 1 - L = nl := ⟨_, rfl⟩
        have HNL : Hid (n + 1 - L = nl) := hnl
        have HL2 : Hid (2 * L = L2) := hL2
        rw [hL2] at hw2
        rw [hnl] at hw3
        rw [hn1] at hsl hw1 hw3 HGAP
        clear hn1 hd hd0 hL2 hnl hdx
        by_cases hl : L2 ≤ n
        · go_wp2_with (first
            | (go_at_call 230; refine HGAP.out.mono ?_; rintro e w2 ⟨rfl, hm2, hu2⟩; have M2 := Lib.hid hm2; have D2 := Lib.hid hu2; clear hm2 hu2)
            | (go_at_call 231; refine (HINV.out _ M2.out).mono ?_; rintro e w3 ⟨y, hy, rfl, hu3⟩; have HY := Lib.hid hy; have M3 := Lib.hid (M2.out.grow hu3); have D3 := Lib.hid (D2.out.trans hu3.one); clear hy hu3)
            | (go_at_call 233; refine (HMUL.out y _ M3.out).mono ?_; rintro e w4 ⟨rfl, hm4, hu4⟩; have M4 := Lib.hid hm4; have D4 := Lib.hid (D3.out.trans hu4); clear hm4 hu4)
            | (go_at_call 232; refine (HMEND.out (d * y) _ M4.out D4.out).mono ?_; rintro e w5 ⟨u5, rfl, ho5, hm5, hu5⟩; have O5 := Lib.hid ho5; have M5 := Lib.hid hm5; have D5 := Lib.hid (D4.out.trans hu5); clear ho5 hm5 hu5))
          go_roundw
          case rel => exact ⟨n + 1, mend C D (d * y) m, nl, C, d, 1, max N (M + m), N, by omega, by rw [HN1.out], by rw [← HNL.out]; exact HBL.out y HY.out (by have := HL2.out; omega), ⟨by omega, hN0, by omega, by omega, HFAR.out _, hC⟩, rfl, rfl, rfl, O5, HR.out.far hcB D5.out, M5, HU.out.trans D5.out⟩
          case measure => have := HN1.out; simp [intOf]; omega
        · go_wp2_with (first
            | (go_at_call 230; refine HGAP.out.mono ?_; rintro e w2 ⟨rfl, hm2, hu2⟩; have M2 := Lib.hid hm2; have D2 := Lib.hid hu2; clear hm2 hu2)
            | (go_at_call 231; refine (HINV.out _ M2.out).mono ?_; rintro e w3 ⟨y, hy, rfl, hu3⟩; have HY := Lib.hid hy; have M3 := Lib.hid (M2.out.grow hu3); have D3 := Lib.hid (D2.out.trans hu3.one); clear hy hu3)
            | (go_at_call 233; refine (HMUL.out y _ M3.out).mono ?_; rintro e w4 ⟨rfl, hm4, hu4⟩; have M4 := Lib.hid hm4; have D4 := Lib.hid (D3.out.trans hu4); clear hm4 hu4)
            | (go_at_call 232; refine (HMEND.out (d * y) _ M4.out D4.out).mono ?_; rintro e w5 ⟨u5, rfl, ho5, hm5, hu5⟩; have O5 := Lib.hid ho5; have M5 := Lib.hid hm5; have D5 := Lib.hid (D4.out.trans hu5); clear ho5 hm5 hu5))
          go_roundw
          case rel => exact ⟨n + 1, mend C D (d * y) m, L, D, b, m + 1, max N (M + m), M, by omega, by rw [HN1.out], HBS.out y HY.out (by have := HL2.out; omega), ⟨by omega, hM0, by omega, by omega, HFAR.out _, hD⟩, rfl, rfl, rfl, O5, HO.out.far hcB D5.out, M5, HU.out.trans D5.out⟩
          case measure => have := HN1.out; simp [intOf]; omega
    · obtain rfl : n = z := by omega
      have hC0 : C 0 ≠ 0 := by rw [HBM.out.gen.1]; exact one_ne_zero
      have HTR := Lib.hid (trimmed_any C N B _ wr HR.out hN0 (by omega) hC0)
      have hwL : IntKind.i64.wrap ((L : Int) + 1) = ((L + 1 : Nat) : Int) := by rw [IntKind.wrap_i64]; omega
      obtain ⟨L1, hL1⟩ : ∃ L1, L + 1 = L1 := ⟨_, rfl⟩
      rw [hL1] at hwL
      have HL1 : Hid (L + 1 = L1) := hL1
      clear hL1
      by_cases hlt : L ≤ t
      · go_wp2_with (go_at_call 234; refine HTR.out.mono ?_; rintro e w2 ⟨q, u, rfl, hq1, hq2, hq3, hq4, ho2, hu2⟩; have Q3 := Lib.hid (⟨hq1, hq2, hq3, hq4⟩ : 1 ≤ q ∧ q ≤ N ∧ C (q - 1) ≠ 0 ∧ ∀ i, q ≤ i → i < N → C i = 0); have O2 := Lib.hid ho2; have M2 := Lib.hid (HM.out.grow hu2); have D2 := Lib.hid (HU.out.trans hu2.one); have kt := HTC.out w2 M2.out; obtain ⟨sa, sc, hsl, _, _, _⟩ := ho2.sl; rw [il_length] at hsl; subst hsl; clear hq1 hq2 hq3 hq4 ho2 hu2)
        have hbool : (((q : Nat) : Int) == ((L1 : Nat) : Int)) = (decide (L ≤ t) && decide (q = L + 1)) := by
          rw [decide_eq_true hlt, Bool.true_and, HL1.out]
          by_cases e : q = L1
          · rw [decide_eq_true e, e]; simp
          · rw [decide_eq_false e]; exact beq_eq_false_iff_ne.2 (by omega)
        rw [hbool]
        go_ret2
        exact ⟨C, L, _, q, rfl, O2.out, HBM.out.gen, HBM.out.least, Q3.out.1, Q3.out.2.2.1, fun i hi => if h : i < N then Q3.out.2.2.2 i hi h else hC i (by omega), M2.out, D2.out⟩
      · go_wp2_with (go_at_call 234; refine HTR.out.mono ?_; rintro e w2 ⟨q, u, rfl, hq1, hq2, hq3, hq4, ho2, hu2⟩; have Q3 := Lib.hid (⟨hq1, hq2, hq3, hq4⟩ : 1 ≤ q ∧ q ≤ N ∧ C (q - 1) ≠ 0 ∧ ∀ i, q ≤ i → i < N → C i = 0); have O2 := Lib.hid ho2; have M2 := Lib.hid (HM.out.grow hu2); have D2 := Lib.hid (HU.out.trans hu2.one); have kt := HTC.out w2 M2.out; obtain ⟨sa, sc, hsl, _, _, _⟩ := ho2.sl; rw [il_length] at hsl; subst hsl; clear hq1 hq2 hq3 hq4 ho2 hu2)
        go_ret2
        exact ⟨C, L, _, q, by rw [decide_eq_false hlt]; rfl, O2.out, HBM.out.gen, HBM.out.least, Q3.out.1, Q3.out.2.2.1, fun i hi => if h : i < N then Q3.out.2.2.2 i hi h else hC i (by omega), M2.out, D2.out⟩
end Go.Proofs.YtoledgpcgjdjjaaGreatDoor

/- places: whatever rest there is. -/
namespace Go.Proofs.YtoledgpcgjdjjaaGreatDoor
open Go.RowKit Pm F
set_option linter.unusedVariables false

def AnsV (B : Nat) (a : Option (List Nat)) (u : Value) (ok : Bool) (w' : World) : Prop := match a with
  | none => u = .slice none 0 0 ∧ ok = false
  | some ps => ok = true ∧ OwnI w' B u (nts ps)
theorem Ans.apart {B : Nat} {a : Option (List Nat)} {e : Ending} {w' : World} (h : Ans B a e w') : ∃ u ok, e = .returned (.tuple #[u, .bool ok]) ∧ AnsV B a u ok w' := by
  cases a with
  | none => exact ⟨_, _, h, rfl, rfl⟩
  | some ps => obtain ⟨u, h1, h2⟩ := h; exact ⟨u, _, h1, rfl, h2⟩
theorem AnsV.join {B : Nat} {a : Option (List Nat)} {u : Value} {ok : Bool} {w' : World} (h : AnsV B a u ok w') : Ans B a (.returned (.tuple #[u, .bool ok])) w' := by
  cases a with
  | none => obtain ⟨rfl, rfl⟩ := h; rfl
  | some ps => obtain ⟨rfl, h2⟩ := h; exact ⟨u, rfl, h2⟩
set_option maxRecDepth 100000 in
set_option maxHeartbeats 3200000 in
theorem places_any (B c t k : Nat) (r : Rm) (w : World) (h : MadeB B w c t (k : Int)) (hBw : B ≤ w.heap.size) (hk : k ≤ 256) (ht1 : 1 ≤ t) (ht8 : t ≤ 8) (hr : r.Ok) (hz : ∀ j, 13 * t ≤ j → rb r j = false) :
    Calls Tryz.prog 170 #[.pointer (some ⟨c, 0, none⟩), r.agg] w fun e w' => ∃ a, (∀ ps, Good t (8 * k + 13 * t) r ps ↔ a = some ps) ∧ Ans B a e w' ∧ MadeB B w' c t (k : Int) ∧ Upd (oneBlock c) w w' := by
  have hnot : ∀ (x : Bool) (w : World), (Op.unary .not (.bool x)).run Tryz.prog w = .ok (.bool (!x)) w := fun _ _ => rfl
  have HM := Lib.hid h
  obtain ⟨wa, hwa⟩ : ∃ wa, wa = w.alloc (.cells #[.int .u64 (r.h : Int), .int .u64 (r.l : Int)] 174) := ⟨_, rfl⟩
  have UA : Hid (Upd noBlock w wa) := by rw [hwa]; exact (Upd.refl _ _).alloc _
  have hba : RB wa w.heap.size r := by rw [hwa]; exact heap_alloc_new w _
  have a1 := hba.h
  have a2 := hba.l
  have MA : Hid (MadeB B wa c t (k : Int)) := h.grow UA.out
  have hBa : B ≤ wa.heap.size := Nat.le_trans hBw UA.out.size
  have HSYN := Lib.hid (syndromes_any B c t (k : Int) r wa MA.out hBa hr ht1 ht8 hz)
  by_cases h0 : r.h = 0 ∧ r.l = 0
  · have hr0 : r = Rm.zero := Rm.ext' h0.1 h0.2
    rw [h0.1] at a1
    rw [h0.2] at a2
    have HG := Lib.hid (good_zero t (8 * k + 13 * t) ht1 (by omega))
    subst hr0
    clear h hba HSYN h0 hr hz
    unfold Rm.agg
    go_enter Tryz.func170, Tryz.ntmps170
    have hw0 : wa = w.alloc (.cells #[.int .u64 0, .int .u64 0] 174) := hwa
    go_wp2_with fail
    rw [← hw0]
    go_ret2
    exact ⟨some [], fun ps => (HG.out ps).trans ⟨fun h => by rw [h], fun h => (Option.some.inj h).symm⟩, ⟨_, rfl, OwnI.nil _ _⟩, MA.out, UA.out.one⟩
  · have hrz : r ≠ Rm.zero := fun e => h0 (by rw [e]; exact ⟨rfl, rfl⟩)
    have HRUL : Hid (∀ C L, Gen C L (fun j => evR (13 * t) (j + 1) r) (2 * t) → (∀ C' L', Gen C' L' (fun j => evR (13 * t) (j + 1) r) (2 * t) → L ≤ L') → Rule t r C L ∧ 1 ≤ L) := fun C L h1 h2 => ⟨⟨h1, h2⟩, rule_pos ht1 ht8 hr hz ⟨h1, h2⟩ hrz⟩
    have HNONE : Hid (∀ C L, Rule t r C L → t < L ∨ C L = 0 → ∀ ps, ¬ Good t (8 * k + 13 * t) r ps) := fun C L h1 h2 => good_none (by omega) h1 h2
    have HLOC : Hid (∀ (u : Value) (W : World), MadeB B W c t (k : Int) → B ≤ W.heap.size → OwnI W B u (il (2 * t) fun j => evR (13 * t) (j + 1) r) → Calls Tryz.prog 209 #[.pointer (some ⟨c, 0, none⟩), u] W fun e w' => ∃ (C : Nat → F) (L : Nat) (u3 : Value) (m : Nat) (ok : Bool), e = .returned (.tuple #[u3, .bool ok]) ∧
        ((ok = true ∧ OwnI w' B u3 (il (L + 1) C) ∧ L ≤ t ∧ C L ≠ 0) ∨ (ok = false ∧ (t < L ∨ C L = 0))) ∧ Rule t r C L ∧ 1 ≤ L ∧ MadeB B w' c t (k : Int) ∧ Upd (oneBlock c) W w') := fun u W hW hB hu => (locator_any B c t (k : Int) (fun j => evR (13 * t) (j + 1) r) u W hW hB ht1 ht8 hu).mono fun e w' ⟨C, L, u3, m, h1, h2, h3, h4, h5, h6, h7, h8, h9⟩ => by
      obtain ⟨hR, hL⟩ := HRUL.out C L h3 h4
      refine ⟨C, L, u3, m, _, h1, ?_, hR, hL, h8, h9⟩
      by_cases hlt : L ≤ t
      · by_cases hm : m = L + 1
        · subst hm
          exact .inl ⟨by rw [decide_eq_true hlt, decide_eq_true rfl]; rfl, h2, hlt, h6⟩
        · refine .inr ⟨by rw [decide_eq_true hlt, decide_eq_false hm]; rfl, .inr ?_⟩
          have hmL : m - 1 ≤ L := by
            by_cases h : m - 1 ≤ L
            · exact h
            · exact absurd (h3.2.1 (m - 1) (by omega)) h6
          exact h7 L (by omega)
      · exact .inr ⟨by rw [decide_eq_false hlt]; rfl, .inl (by omega)⟩
    have HROOTS := Lib.hid (fun (C : Nat → F) (L : Nat) (u : Value) (W : World) hW hB hu hR hL hLt hCL => roots_any B c t k r C L u W hW hB hk ht1 ht8 hu hR hL hLt hCL)
    have hcase : ((r.h : Int) == 0) = false ∨ (r.h = 0 ∧ ((r.l : Int) == 0) = false) := by
      by_cases e1 : r.h = 0
      · exact .inr ⟨e1, beq_eq_false_iff_ne.2 fun e => h0 ⟨e1, by omega⟩⟩
      · exact .inl (beq_eq_false_iff_ne.2 fun e => e1 (by omega))
    clear h hba h0 hr hz hrz
    unfold Rm.agg at HSYN ⊢
    go_enter Tryz.func170, Tryz.ntmps170
    go_upto_region 1 with fail
    rw [← hwa]
    clear hwa
    rcases hcase with hc1 | ⟨hc0, hc1⟩
    · go_upto_region 4 with (first
        | (go_at_call 210; refine HSYN.out.mono ?_; rintro e w2 ⟨u2, rfl, ho2, hm2, hu2⟩; have O2 := Lib.hid ho2; have M2 := Lib.hid hm2; have D2 := Lib.hid hu2; clear ho2 hm2 hu2)
        | (go_at_call 209; refine (HLOC.out _ _ M2.out (Nat.le_trans hBa D2.out.size) O2.out).mono ?_; rintro e w3 ⟨C, L, u3, m, ok, rfl, hok, hR, hL, hmade, hu3⟩; have HOK := Lib.hid hok; have HR := Lib.hid hR; have HL := Lib.hid hL; have M3 := Lib.hid hmade; have D3 := Lib.hid (D2.out.trans hu3); clear hok hR hL hmade hu3))
      rcases HOK.out with ⟨rfl, ho3, hLt, hCL⟩ | ⟨rfl, hbad⟩
      · have HRT := Lib.hid ((HROOTS.out C L u3 w3 M3.out (Nat.le_trans hBa D3.out.size) ho3 HR.out HL.out hLt hCL).mono fun e w' ⟨a, h1, h2, h3⟩ => (⟨a, h1, h2.apart, h3⟩ : ∃ a, (∀ ps, Good t (8 * k + 13 * t) r ps ↔ a = some ps) ∧ (∃ u ok, e = Ending.returned (.tuple #[u, .bool ok]) ∧ AnsV B a u ok w') ∧ Upd noBlock w3 w'))
        clear HOK ho3
        go_wp2_with (go_at_call 211; refine HRT.out.mono ?_; rintro e w4 ⟨a, hg4, ⟨u4, ok4, rfl, ha4⟩, hu4⟩; have HA4 := Lib.hid ha4; have G4 := Lib.hid hg4; have M4 := Lib.hid (M3.out.grow hu4); have D4 := Lib.hid ((UA.out.one.trans D3.out).trans hu4.one); clear hg4 hu4 ha4)
        go_ret2
        exact ⟨a, G4.out, HA4.out.join, M4.out, D4.out⟩
      · have HNG := Lib.hid (HNONE.out C L HR.out hbad)
        clear HOK hbad
        go_wp2
        go_ret2
        exact ⟨none, fun ps => ⟨fun h => absurd h (HNG.out ps), fun h => by cases h⟩, rfl, M3.out, UA.out.one.trans D3.out⟩
    · have hc2 : ((r.h : Int) == 0) = true := beq_iff_eq.2 (by omega)
      clear hc0
      go_upto_region 4 with (first
        | (go_at_call 210; refine HSYN.out.mono ?_; rintro e w2 ⟨u2, rfl, ho2, hm2, hu2⟩; have O2 := Lib.hid ho2; have M2 := Lib.hid hm2; have D2 := Lib.hid hu2; clear ho2 hm2 hu2)
        | (go_at_call 209; refine (HLOC.out _ _ M2.out (Nat.le_trans hBa D2.out.size) O2.out).mono ?_; rintro e w3 ⟨C, L, u3, m, ok, rfl, hok, hR, hL, hmade, hu3⟩; have HOK := Lib.hid hok; have HR := Lib.hid hR; have HL := Lib.hid hL; have M3 := Lib.hid hmade; have D3 := Lib.hid (D2.out.trans hu3); clear hok hR hL hmade hu3))
      rcases HOK.out with ⟨rfl, ho3, hLt, hCL⟩ | ⟨rfl, hbad⟩
      · have HRT := Lib.hid ((HROOTS.out C L u3 w3 M3.out (Nat.le_trans hBa D3.out.size) ho3 HR.out HL.out hLt hCL).mono fun e w' ⟨a, h1, h2, h3⟩ => (⟨a, h1, h2.apart, h3⟩ : ∃ a, (∀ ps, Good t (8 * k + 13 * t) r ps ↔ a = some ps) ∧ (∃ u ok, e = Ending.returned (.tuple #[u, .bool ok]) ∧ AnsV B a u ok w') ∧ Upd noBlock w3 w'))
        clear HOK ho3
        go_wp2_with (go_at_call 211; refine HRT.out.mono ?_; rintro e w4 ⟨a, hg4, ⟨u4, ok4, rfl, ha4⟩, hu4⟩; have HA4 := Lib.hid ha4; have G4 := Lib.hid hg4; have M4 := Lib.hid (M3.out.grow hu4); have D4 := Lib.hid ((UA.out.one.trans D3.out).trans hu4.one); clear hg4 hu4 ha4)
        go_ret2
        exact ⟨a, G4.out, HA4.out.join, M4.out, D4.out⟩
      · have HNG := Lib.hid (HNONE.out C L HR.out hbad)
        clear HOK hbad
        go_wp2
        go_ret2
        exact ⟨none, fun ps => ⟨fun h => absurd h (HNG.out ps), fun h => by cases h⟩, rfl, M3.out, UA.out.one.trans D3.out⟩
end Go.Proofs.YtoledgpcgjdjjaaGreatDoor
