/- Walk over the document's own least polynomial. -/
import Derived.Test.YtcmcjojjphhffaaPD
namespace Go.Proofs.Ytcmcjojjphhffaa
open Go.RowKit Pm Gfm
attribute [local irreducible] Pm.exps

set_option maxRecDepth 20000 in
set_option maxHeartbeats 3200000 in
theorem rMinimal_any (n : Int) (w : World) :
    Calls Try.prog 21 #[.int .i64 n] w fun e w' => ∃ v, e = .returned v ∧ PolyV w w' v (mres (pw (trn n)) 0 14) ∧ Upd noBlock w w' := by
  obtain ⟨i0, hi0, hz0, hz1, hz2⟩ := intParts2
  obtain ⟨r, HRE⟩ : ∃ r, Hid (pw (trn n) = r) := ⟨_, rfl⟩
  have HR : Hid (r < 8192) := by rw [← HRE.out]; exact pw_lt (trn n)
  rw [HRE.out]
  go_enter Try.func21, Try.ntmps21
  go_wp2_with fail
  refine (rExp_any n _).mono ?_
  rintro e w1 ⟨rfl, rfl⟩
  rw [HRE.out]
  go_wp2_with fail
  go_loopw [4, 5, 6, 7] (fun vr vm p d wr => ∃ k : Nat, k ≤ 14 ∧ d = .int .i64 (k : Int) ∧ p = .int .i64 (((el r k).2.2 : Nat) : Int) ∧ Hid (wr.ownsRow w.heap.size 3 1 vr k (vals (nats (el r k).1))) ∧ Hid (wr.ownsRow w.heap.size 3 1 vm k (vals (nats (el r k).2.1))) ∧ Hid (mres r k (14 - k) = mres r 0 14) ∧ Hid (Upd noBlock w wr)) (fun _ _ _ d _ => 14 - (intOf d).toNat)
  case atStart => exact ⟨0, by omega, rfl, rfl, World.ownsRow_nil _ _ _ _, World.ownsRow_nil _ _ _ _, rfl, Upd.refl _ _⟩
  case round =>
    obtain ⟨k, hk, rfl, rfl, HO, HM, HE, HU⟩ := hrel
    by_cases h14 : k < 14
    · obtain ⟨a, c, rfl, hi, hc⟩ := own_slice HO.out
      obtain ⟨a', c', rfl, hi', hc'⟩ := own_slice HM.out
      have HI := Lib.hid hi
      have HI' := Lib.hid hi'
      have HC := Lib.hid hc
      have HC' := Lib.hid hc'
      have hx := i64_pow k (by omega)
      have hp2 : (el r k).2.2 < 8192 := (el_tiny r k (by omega)).2.2
      have HP2 := Lib.hid hp2
      have HEZ : Hid ((ez r k).1 = (rd (el r k).1 (el r k).2.1 (el r k).2.2 (2 ^ k) k).1 ∧ (ez r k).2 = (rd (el r k).1 (el r k).2.1 (el r k).2.2 (2 ^ k) k).2) := ⟨rfl, rfl⟩
      clear hi hi' hc hc' hp2
      go_wp2_with fail
      go_region
      go_wp2_with fail
      go_loop [8, 9, 10] (fun v m i => ∃ q : Nat, q ≤ k ∧ i = .int .i64 (q : Int) ∧ v = .int .i64 (((rd (el r k).1 (el r k).2.1 (el r k).2.2 (2 ^ k) q).1 : Nat) : Int) ∧ m = .int .i64 (((rd (el r k).1 (el r k).2.1 (el r k).2.2 (2 ^ k) q).2 : Nat) : Int)) (fun _ _ i => k - (intOf i).toNat)
      case atStart => exact ⟨0, by omega, rfl, rfl, by first | rfl | skip⟩
      case round =>
        obtain ⟨q, hq, rfl, rfl, rfl⟩ := hrel
        by_cases hqk : q < k
        · obtain ⟨g, o, rfl, _, hcl⟩ := HI.out.cell (by omega)
          obtain ⟨g', o', rfl, _, hcl'⟩ := HI'.out.cell (by omega)
          have c1 := hcl q hqk
          have c2 := hcl' q hqk
          rw [nats_getD] at c1 c2
          have hst : rd (el r k).1 (el r k).2.1 (el r k).2.2 (2 ^ k) (q + 1) = if (rd (el r k).1 (el r k).2.1 (el r k).2.2 (2 ^ k) q).1 ^^^ (el r k).1.getD q 0 < (rd (el r k).1 (el r k).2.1 (el r k).2.2 (2 ^ k) q).1 then ((rd (el r k).1 (el r k).2.1 (el r k).2.2 (2 ^ k) q).1 ^^^ (el r k).1.getD q 0, (rd (el r k).1 (el r k).2.1 (el r k).2.2 (2 ^ k) q).2 ^^^ (el r k).2.1.getD q 0) else rd (el r k).1 (el r k).2.1 (el r k).2.2 (2 ^ k) q := rfl
          have htn := el_tiny r k (by omega)
          have hlt := rd_lt _ _ _ (2 ^ k) q htn.1 htn.2.1 htn.2.2 (Nat.lt_of_lt_of_le (Nat.pow_lt_pow_right (by omega) h14) (by decide))
          have hb1 := htn.1.getD (by omega) q
          have hb2 := htn.2.1.getD (by omega) q
          have HST := Lib.hid hst
          clear hst hcl hcl' htn HEZ
          generalize hV : (rd (el r k).1 (el r k).2.1 (el r k).2.2 (2 ^ k) q).1 = V at *
          generalize hN : (rd (el r k).1 (el r k).2.1 (el r k).2.2 (2 ^ k) q).2 = N at *
          have HV := Lib.hid hV
          have HN := Lib.hid hN
          clear hV hN
          generalize (el r k).1.getD q 0 = x at *
          generalize (el r k).2.1.getD q 0 = y at *
          have hX1 : bits .xor .i64 (V : Int) (x : Int) = ((V ^^^ x : Nat) : Int) := i64_xor_nat _ _ (by omega) (by omega)
          have hX2 : bits .xor .i64 (N : Int) (y : Int) = ((N ^^^ y : Nat) : Int) := i64_xor_nat _ _ (by omega) (by omega)
          by_cases hlt2 : V ^^^ x < V
          · have t1 : decide (V ^^^ x < V) = true := decide_eq_true hlt2
            have HS2 := HST.out
            rw [if_pos hlt2] at HS2
            have HST2 := Lib.hid HS2
            clear HS2 HST
            go_wp2
            go_round
            case rel => exact ⟨q + 1, by omega, by go_num, by rw [HST2.out], by rw [HST2.out]⟩
            case measure => simp [intOf]; omega
          · have t1 : decide (V ^^^ x < V) = false := decide_eq_false hlt2
            have HS2 := HST.out
            rw [if_neg hlt2] at HS2
            have HE1 := Lib.hid ((congrArg Prod.fst HS2).trans HV.out)
            have HE2 := Lib.hid ((congrArg Prod.snd HS2).trans HN.out)
            clear HS2 HST
            go_wp2
            go_round
            case rel => exact ⟨q + 1, by omega, by go_num, by rw [HE1.out], by rw [HE2.out]⟩
            case measure => simp [intOf]; omega
        · have hqe : q = k := by omega
          rw [hqe]
          clear hqe hqk hq q
          rw [← HEZ.out.1, ← HEZ.out.2]
          by_cases hz : (ez r k).1 = 0
          · have hmr : mres r k (14 - k) = (ez r k).2 := by
              obtain ⟨f, hf⟩ : ∃ f, 14 - k = f + 1 := ⟨13 - k, by omega⟩
              rw [hf]
              show (if (ez r k).1 = 0 then (ez r k).2 else mres r (k + 1) f) = _
              rw [if_pos hz]
            have HMR := Lib.hid (hmr.symm.trans HE.out)
            have HML := Lib.hid (ez_lt r k (by omega)).2
            rw [hz]
            clear hmr hz HEZ
            generalize (ez r k).2 = M at *
            go_wp2_with fail
            go_loopw [11, 12] (fun v i wr => ∃ (e : Nat) (out : List Int), e ≤ 14 ∧ i = .int .i64 ((e : Int) - 1) ∧ Hid (wr.ownsRow w.heap.size 3 1 v out.length (vals out)) ∧ Hid (out ++ exps (M % 2 ^ e) = exps M) ∧ Hid (Upd noBlock w wr)) (fun _ i _ => (intOf i + 1).toNat)
            case atStart =>
              exact ⟨14, [], by omega, rfl, World.ownsRow_nil _ _ _ _, (by
                show [] ++ exps (M % 2 ^ 14) = exps M
                rw [Nat.mod_eq_of_lt HML.out]; rfl), HU.out.drew⟩
            case round =>
              clear HO HM HI HI' HC HC' HE HU
              obtain ⟨e, out, he, rfl, HO, HX, HU⟩ := hrel
              by_cases h0 : 0 < e
              · obtain ⟨i, rfl⟩ : ∃ i, e = i + 1 := ⟨e - 1, by omega⟩
                have e1 : ((i + 1 : Nat) : Int) - 1 = (i : Int) := by omega
                rw [e1]
                have hlow := exps_low M i (by unfold top; omega)
                have hi5 : i < 14 := by omega
                have hl0 : out.length + 1 ≤ 99999 := by
                  have h1 := congrArg List.length HX.out
                  rw [List.length_append] at h1
                  have h2 := exps_length M
                  omega
                have mB : bits .and .i64 ((M : Int) / 2 ^ i) 1 = ((M / 2 ^ i % 2 : Nat) : Int) := by
                  have e : (M : Int) / 2 ^ i = ((M / 2 ^ i : Nat) : Int) := by rw [Int.natCast_ediv]; norm_cast
                  rw [e]
                  have := i64_mask ((M / 2 ^ i : Nat) : Int) 1 (by omega)
                  rw [show ((2 ^ 1 - 1 : Nat) : Int) = 1 from rfl] at this
                  rw [this]; omega
                have htb : M.testBit i = decide (M / 2 ^ i % 2 = 1) := Nat.testBit_eq_decide_div_mod_eq
                clear e1 he
                by_cases hbit : M / 2 ^ i % 2 = 1
                · have HX2 : Hid ((out ++ [(i : Int)]) ++ exps (M % 2 ^ i) = exps M) := by
                    have h := HX.out
                    rw [hlow, if_pos (by rw [htb]; exact decide_eq_true hbit)] at h
                    show (out ++ [(i : Int)]) ++ exps (M % 2 ^ i) = exps M
                    rw [List.append_assoc]; exact h
                  have t1 : (bits .and .i64 ((M : Int) / 2 ^ i) 1 == 1) = true := by rw [mB, hbit]; rfl
                  have HIn : Hid (Ints (wr.alloc (.cells #[.int .i64 (i : Int)] 3)) (wr.heap.size + 1) (some ⟨wr.heap.size, 0, none⟩) 1 [(i : Int)]) := ints1 wr (i : Int)
                  have HO2 := Lib.hid (HO.out.alloc (.cells #[.int .i64 (i : Int)] 3))
                  have HU2 := Lib.hid (HU.out.alloc (.cells #[.int .i64 (i : Int)] 3))
                  have HL := Lib.hid hl0
                  have hsz := HU.out.size
                  clear HU HO HX hbit hlow hl0 mB htb
                  go_wp2_with (at_builtin; refine wpList_append_ints _ rfl (.tmp 62) (.tmp 64) _ rfl w.heap.size 3 i0 _ Try.underlying22 hi0 hz0 hz1 hz2 rfl _ out.length (vals out) rfl HO2.out (wr.heap.size + 1) (some ⟨wr.heap.size, 0, none⟩) 1 1 [(i : Int)] rfl HIn.out (by have := HL.out; simp only [maxLen]; omega) (by have := HL.out; omega) (by simp; omega) ?_; intro v3 w3 hown3 hg3 _)
                  go_roundw
                  case rel =>
                    refine ⟨i, out ++ [(i : Int)], by omega, rfl, ?_, HX2, ?_⟩
                    · have e : (out ++ [(i : Int)]).length = out.length + 1 := by simp
                      have e2 : vals (out ++ [(i : Int)]) = vals out ++ vals [(i : Int)] := by simp [vals]
                      rw [e, e2]
                      exact hown3
                    · exact HU2.out.grownOwn hg3 (fun k hk => (HO2.out.lt k hk).1)
                  case measure => simp [intOf]
                · have HX2 : Hid (out ++ exps (M % 2 ^ i) = exps M) := by
                    have h := HX.out
                    rw [hlow, if_neg (by rw [htb]; simpa using hbit)] at h
                    exact h
                  have t1 : (bits .and .i64 ((M : Int) / 2 ^ i) 1 == 1) = false := by rw [mB]; exact beq_eq_false_iff_ne.2 (fun e => hbit (by exact_mod_cast e))
                  clear HX hbit hlow hl0 mB htb
                  go_wp2
                  go_roundw
                  case rel => exact ⟨i, out, by omega, rfl, HO, HX2, HU⟩
                  case measure => simp [intOf]
              · obtain rfl : e = 0 := by omega
                have e1 : ((0 : Nat) : Int) - 1 = -1 := by omega
                rw [e1]
                have hout : out = exps M := by
                  have := HX.out
                  rw [Nat.pow_zero, Nat.mod_one, exps_zero, List.append_nil] at this
                  exact this
                subst hout
                have HT : Hid (M < 2 ^ top) := Nat.lt_of_lt_of_le (show M < 2 ^ 14 from HML.out) (Nat.pow_le_pow_right (by omega) (by unfold top; omega))
                go_wp2
                go_ret
                rw [← HMR.out]
                exact ⟨_, rfl, ⟨HO.out, HT.out⟩, HU.out⟩
          · have hZ := ez_lt r k (by omega)
            have hmr : mres r (k + 1) (14 - (k + 1)) = mres r k (14 - k) := by
              obtain ⟨f, hf⟩ : ∃ f, 14 - k = f + 1 := ⟨13 - k, by omega⟩
              rw [hf, show 14 - (k + 1) = f by omega]
              show _ = (if (ez r k).1 = 0 then (ez r k).2 else mres r (k + 1) f)
              rw [if_neg hz]
            have HMR := Lib.hid (hmr.trans HE.out)
            have HEL := Lib.hid (el_succ r k)
            have HLN := Lib.hid (el_length r k)
            generalize (ez r k).1 = Z at *
            generalize (ez r k).2 = M at *
            have tz : ((Z : Int) == 0) = false := beq_eq_false_iff_ne.2 (by omega)
            have hU0 : Hid (Upd noBlock w wr.drew) := HU.out.drew
            have hI0 : Hid (Ints wr.drew wr.drew.heap.size a k (nats (el r k).1)) := HI
            have hI1 : Hid (Ints wr.drew wr.drew.heap.size a' k (nats (el r k).2.1)) := HI'
            clear hmr HE HEZ HO HM HI HI' HU
            generalize wr.drew = wo at *
            go_wp2_with fail
            go_loop [13] (fun i => ∃ q : Nat, q ≤ k ∧ i = .int .i64 (q : Int) ∧ Hid (∀ j, j < q → Z < (el r k).1.getD j 0)) (fun i => k - (intOf i).toNat)
            case atStart => exact ⟨0, Nat.zero_le _, rfl, fun j hj => absurd hj (by omega)⟩
            case round =>
              obtain ⟨q, hq, rfl, HG⟩ := hrel
              by_cases hgo : q < k ∧ Z < (el r k).1.getD q 0
              · obtain ⟨hqk, hg⟩ := hgo
                obtain ⟨g, o, rfl, _, hcl⟩ := hI0.out.cell (by omega)
                have c1 := hcl q hqk
                rw [nats_getD] at c1
                have HG2 : Hid (∀ j, j < q + 1 → Z < (el r k).1.getD j 0) := fun j hj => by
                  rcases Nat.lt_or_ge j q with h | h
                  · exact HG.out j h
                  · rw [show j = q by omega]; exact hg
                clear hcl HG
                generalize (el r k).1.getD q 0 = x at *
                have t1 : decide (Z < x) = true := decide_eq_true hg
                go_wp2
                go_round
                case rel => exact ⟨q + 1, by omega, by go_num, HG2⟩
                case measure => simp [intOf]; omega
              · have hpos : posn (el r k).1 Z = q := posn_spec Z _ q (by have := HLN.out.1; omega) HG.out (by
                  by_cases h : q < k
                  · exact .inr fun h2 => hgo ⟨h, h2⟩
                  · exact .inl (by have := HLN.out.1; omega))
                rw [hpos] at HEL
                have HQ := Lib.hid hq
                have HK := Lib.hid h14
                clear HG hpos HLN
                by_cases hqk : q < k
                case' pos =>
                  obtain ⟨g, o, rfl, _, hcl⟩ := hI0.out.cell (by omega)
                  have cc1 := hcl q hqk
                  rw [nats_getD] at cc1
                  have hng : ¬ Z < (el r k).1.getD q 0 := fun h => hgo ⟨hqk, h⟩
                  clear hcl hgo
                  generalize (el r k).1.getD q 0 = x at *
                  have t1 : decide (Z < x) = false := decide_eq_false hng
                case' neg =>
                  clear hgo
                all_goals go_wp2_with (first
                  | (refine wpList_slice_lo _ rfl (.tmp 82) (.tmp 83) _ rfl 3 i0 Try.underlying22 hi0 _ _ k _ q (nats (el r k).1) rfl rfl hI0.out HQ.out HC.out ?_; intro A1 c1 hA; have HA1 := Lib.hid hA; clear hA)
                  | (at_builtin; refine wpList_append_ints _ rfl (.tmp 81) (.tmp 84) _ rfl wo.heap.size 3 i0 _ Try.underlying22 hi0 hz0 hz1 hz2 rfl _ 0 _ rfl (World.ownsRow_nil _ _ _ _) _ _ q _ _ rfl HA1.out (by unfold maxLen; have := HQ.out; have := HK.out; omega) (by have := HQ.out; have := HK.out; omega) (Nat.le_refl _) ?_; intro v1 w1 own g _; have HO1 := Lib.hid own; have HU1 := Lib.hid ((Upd.refl noBlock wo).grownOwn g (fun _ h => nomatch h)); clear own g)
                  | (at_builtin; refine wpList_append_ints _ rfl (.tmp 86) (.tmp 88) _ rfl wo.heap.size 3 i0 _ Try.underlying22 hi0 hz0 hz1 hz2 rfl _ (0 + q) _ rfl (HO1.out.alloc _) (w1.heap.size + 1) (some ⟨w1.heap.size, 0, none⟩) 1 1 [_] rfl (ints1 w1 _) (by unfold maxLen; have := HQ.out; have := HK.out; omega) (by have := HQ.out; have := HK.out; omega) (by have := HU1.out.size; simp; omega) ?_; intro v2 w2 own g _; have HO2 := Lib.hid own; have HU2 := Lib.hid ((HU1.out.alloc _).grownOwn g (fun k hk => (HO1.out.lt k hk).1)); clear own g)
                  | (refine wpList_slice_hi _ rfl (.tmp 91) (.tmp 92) _ rfl 3 i0 Try.underlying22 hi0 hz1 _ _ k _ q (nats (el r k).1) rfl rfl (hI0.out.grow HU2.out (Nat.le_refl _)) HQ.out HC.out ?_; intro A3 c3 hA; have HA3 := Lib.hid hA; clear hA)
                  | (at_builtin; refine wpList_append_ints _ rfl (.tmp 90) (.tmp 93) _ rfl wo.heap.size 3 i0 _ Try.underlying22 hi0 hz0 hz1 hz2 rfl _ (0 + q + 1) _ rfl HO2.out _ _ (k - q) _ _ rfl HA3.out (by unfold maxLen; have := HQ.out; have := HK.out; omega) (by have := HQ.out; have := HK.out; omega) HU2.out.size ?_; intro v3 w3 own g _; have HO3 := Lib.hid own; have HU3 := Lib.hid (HU2.out.grownOwn g (fun k hk => (HO2.out.lt k hk).1)); clear own g; have HJ := Lib.hid ((hI1.out.grow HU3.out (Nat.le_refl _)).more HU3.out.size))
                  | (refine wpList_slice_lo _ rfl (.tmp 96) (.tmp 97) _ rfl 3 i0 Try.underlying22 hi0 _ _ k _ q (nats (el r k).2.1) rfl rfl HJ.out HQ.out HC'.out ?_; intro A4 c4 hA; have HA4 := Lib.hid hA; clear hA)
                  | (at_builtin; refine wpList_append_ints _ rfl (.tmp 95) (.tmp 98) _ rfl w3.heap.size 3 i0 _ Try.underlying22 hi0 hz0 hz1 hz2 rfl _ 0 _ rfl (World.ownsRow_nil _ _ _ _) _ _ q _ _ rfl HA4.out (by unfold maxLen; have := HQ.out; have := HK.out; omega) (by have := HQ.out; have := HK.out; omega) (Nat.le_refl _) ?_; intro v4 w4 own g _; have HO4 := Lib.hid own; have HU4 := Lib.hid ((Upd.refl noBlock w3).grownOwn g (fun _ h => nomatch h)); clear own g)
                  | (at_builtin; refine wpList_append_ints _ rfl (.tmp 100) (.tmp 102) _ rfl w3.heap.size 3 i0 _ Try.underlying22 hi0 hz0 hz1 hz2 rfl _ (0 + q) _ rfl (HO4.out.alloc _) (w4.heap.size + 1) (some ⟨w4.heap.size, 0, none⟩) 1 1 [_] rfl (ints1 w4 _) (by unfold maxLen; have := HQ.out; have := HK.out; omega) (by have := HQ.out; have := HK.out; omega) (by have := HU4.out.size; simp; omega) ?_; intro v5 w5 own g _; have HO5 := Lib.hid own; have HU5 := Lib.hid ((HU4.out.alloc _).grownOwn g (fun k hk => (HO4.out.lt k hk).1)); clear own g)
                  | (refine wpList_slice_hi _ rfl (.tmp 105) (.tmp 106) _ rfl 3 i0 Try.underlying22 hi0 hz1 _ _ k _ q (nats (el r k).2.1) rfl rfl (HJ.out.grow HU5.out (Nat.le_refl _)) HQ.out HC'.out ?_; intro A6 c6 hA; have HA6 := Lib.hid hA; clear hA)
                  | (at_builtin; refine wpList_append_ints _ rfl (.tmp 104) (.tmp 107) _ rfl w3.heap.size 3 i0 _ Try.underlying22 hi0 hz0 hz1 hz2 rfl _ (0 + q + 1) _ rfl HO5.out _ _ (k - q) _ _ rfl HA6.out (by unfold maxLen; have := HQ.out; have := HK.out; omega) (by have := HQ.out; have := HK.out; omega) HU5.out.size ?_; intro v6 w6 own g _; have HO6 := Lib.hid own; have HU6 := Lib.hid (HU5.out.grownOwn g (fun k hk => (HO5.out.lt k hk).1)); clear own g))
                all_goals refine (rMul_any _ _ _).mono ?_
                all_goals rintro e w7 ⟨rfl, rfl⟩
                all_goals have HT := Lib.hid (hU0.out.trans (HU3.out.trans HU6.out))
                all_goals have HR3 := Lib.hid (own_more (own_ins (own_upd HO3.out HU6.out) HQ.out) hU0.out.size)
                all_goals have HR6 := Lib.hid (own_more (own_ins HO6.out HQ.out) (hU0.out.trans HU3.out).size)
                all_goals rw [lowR_nat _ HP2.out, lowR_nat _ HR.out]
                all_goals go_wp2_with fail
                all_goals
                  go_roundw
                  case rel => exact ⟨k + 1, by omega, by go_num, by rw [HEL.out], by rw [HEL.out]; exact HR3, by rw [HEL.out]; exact HR6, HMR, HT⟩
                  case measure => simp [intOf]; omega
    · have hke : k = 14 := by omega
      have HE0 : Hid (mres r 0 14 = 0) := by have := HE.out; rw [hke] at this; exact this.symm
      rw [hke]
      clear HE hke h14 hk
      go_wp2
      go_ret
      rw [HE0.out]
      exact ⟨_, rfl, ⟨by rw [exps_zero]; exact World.ownsRow_nil _ _ _ _, Nat.two_pow_pos _⟩, HU.out⟩
end Go.Proofs.Ytcmcjojjphhffaa
