/- The law PolySquares, walked. -/
import Derived.Test.YtcmcjojjphhffaaPk
import Derived.LoopN
namespace Go.Proofs.Ytcmcjojjphhffaa
open Go.RowKit Pm
attribute [local irreducible] Pm.exps rm pmod pmul

theorem dbls_length (l : List Int) : (dbls l).length = l.length := by simp [dbls]
theorem dbls_getD (l : List Int) (k : Nat) (h : k < l.length) : (dbls l).getD k 0 = 2 * l.getD k 0 := by
  simp [dbls, List.getD_eq_getElem?_getD, List.getElem?_eq_getElem h]
theorem exps_getD (A s k : Nat) (h2 : A < 2 ^ (s + 1)) (hs : s ≤ 16384) (hk : k < (exps A).length) : 0 ≤ (exps A).getD k 0 ∧ (exps A).getD k 0 ≤ s := by
  have e : (exps A).getD k 0 = (exps A)[k] := by rw [List.getD_eq_getElem?_getD, List.getElem?_eq_getElem hk]; rfl
  rw [e]
  exact exps_mem _ A s (List.getElem_mem hk) h2 hs

set_option maxRecDepth 20000 in
set_option maxHeartbeats 3200000 in
theorem polySquares_walk (a0 : Option Addr) (len0 cap0 : Nat) (z0 : List Int) (a1 : Option Addr) (len1 cap1 : Nat) (z1 : List Int) (w : World)
    (w0 : IsRow .i64 w a0 len0 cap0 z0) (s0 : cap0 * 8 ≤ 140737488351232) (w1 : IsRow .i64 w a1 len1 cap1 z1) (s1 : cap1 * 8 ≤ 140737488351232) :
    Calls Try.prog 5 #[.slice a0 len0 cap0, .slice a1 len1 cap1] w fun e w' => e = .returned (.bool true) ∧ Below w.heap.size w w' := by
  have hnot : ∀ (x : Bool) (w : World), (Op.unary .not (.bool x)).run Try.prog w = .ok (.bool (!x)) w := fun _ _ => rfl
  have l0 := row_len w0
  have l1 := row_len w1
  have LA0 := Lib.hid w0.ints.1
  have LB0 := Lib.hid w1.ints.1
  have HU0 : Hid (Upd noBlock w w) := Upd.refl _ _
  generalize z0.take len0 = x0 at LA0
  generalize z1.take len1 = x1 at LB0
  clear w0 w1
  have hA : gat x0 < 2 ^ top := gat_lt x0
  have hB : gat x1 < 2 ^ top := gat_lt x1
  obtain ⟨ny, HNY⟩ : ∃ ny, Hid ((exps (gat x1)).length = ny) := ⟨_, rfl⟩
  obtain ⟨nx, HNX⟩ : ∃ nx, Hid ((exps (gat x0)).length = nx) := ⟨_, rfl⟩
  have HGA : Hid (gat (exps (gat x0)) = gat x0) := gat_exps _ hA
  have HGB : Hid (gat (exps (gat x1)) = gat x1) := gat_exps _ hB
  have HLA := Lib.hid hA
  have HLB := Lib.hid hB
  clear hA hB
  by_cases hx : gat x0 = 0
  · have HNX0 : Hid ((exps (gat x0)).length = 0) := by rw [hx, exps_zero]; exact rfl
    have HA0 : ∀ (w' : World) (p : Option Addr), Ints w' w'.heap.size p 0 (exps (gat x0)) → Ints w' w'.heap.size p 0 [] := fun w' p h => by
      rw [hx, exps_zero] at h; exact h
    have hqy : Hid (ny ≤ 16385) := by show ny ≤ _; rw [← HNY.out]; exact exps_length _
    clear hx
    go_enter Try.func5, Try.ntmps5
    go_wp2_with fail
    refine (speaks2_any _).mono ?_
    rintro e v1 ⟨rfl, hu⟩
    have LA1 := Lib.hid (LA0.out.next hu)
    have LB1 := Lib.hid (LB0.out.next hu)
    have HU1 := Lib.hid (HU0.out.trans hu)
    clear hu HU0 LA0 LB0
    go_wp2_with fail
    refine (copied_any a0 len0 cap0 _ x0 _ LA1.out (Nat.le_refl _) (by omega)).mono ?_
    rintro e v2 ⟨r2, rfl, ho, hu⟩
    obtain ⟨p2, c2, rfl, hi, m2, _⟩ := own_ints ho
    have CA2 := Lib.hid hi
    clear ho hi
    have LA2 := Lib.hid (LA1.out.next hu)
    have LB2 := Lib.hid (LB1.out.next hu)
    have HU2 := Lib.hid (HU1.out.trans hu)
    clear hu HU1 LA1 LB1
    go_wp2_with fail
    refine (of_any p2 len0 c2 _ x0 _ CA2.out (Nat.le_refl _) m2).mono ?_
    rintro e v3 ⟨r3, rfl, hv, hu⟩
    have hv1 := hv.1
    obtain ⟨p3, c3, rfl, hi, m3, _⟩ := own_ints hv1
    rw [HNX0.out] at hi m3
    rw [HNX0.out]
    have X3 := Lib.hid hi
    clear hv hv1 hi
    have LA3 := Lib.hid (LA2.out.next hu)
    have LB3 := Lib.hid (LB2.out.next hu)
    have CA3 := Lib.hid (CA2.out.next hu)
    have HU3 := Lib.hid (HU2.out.trans hu)
    clear hu HU2 LA2 LB2 CA2
    go_wp2_with fail
    refine (copied_any a1 len1 cap1 _ x1 _ LB3.out (Nat.le_refl _) (by omega)).mono ?_
    rintro e v4 ⟨r4, rfl, ho, hu⟩
    obtain ⟨p4, c4, rfl, hi, m4, _⟩ := own_ints ho
    have CB4 := Lib.hid hi
    clear ho hi
    have LA4 := Lib.hid (LA3.out.next hu)
    have LB4 := Lib.hid (LB3.out.next hu)
    have CA4 := Lib.hid (CA3.out.next hu)
    have X4 := Lib.hid (X3.out.next hu)
    have HU4 := Lib.hid (HU3.out.trans hu)
    clear hu HU3 LA3 LB3 CA3 X3
    go_wp2_with fail
    refine (of_any p4 len1 c4 _ x1 _ CB4.out (Nat.le_refl _) m4).mono ?_
    rintro e v5 ⟨r5, rfl, hv, hu⟩
    have hv1 := hv.1
    obtain ⟨p5, c5, rfl, hi, m5, _⟩ := own_ints hv1
    rw [HNY.out] at hi m5
    rw [HNY.out]
    have Y5 := Lib.hid hi
    clear hv hv1 hi
    have LA5 := Lib.hid (LA4.out.next hu)
    have LB5 := Lib.hid (LB4.out.next hu)
    have CA5 := Lib.hid (CA4.out.next hu)
    have X5 := Lib.hid (X4.out.next hu)
    have CB5 := Lib.hid (CB4.out.next hu)
    have HU5 := Lib.hid (HU4.out.trans hu)
    clear hu HU4 LA4 LB4 CA4 X4 CB4
    go_wp2_with fail
    refine (pmul_zero p3 0 c3 _ [] p3 0 c3 _ [] _ (HA0 _ _ X5.out) (Nat.le_refl _) (Nat.zero_le _) (HA0 _ _ X5.out) (Nat.le_refl _) (Nat.zero_le _) (.inl rfl)).mono ?_
    rintro e v6 ⟨rfl, hu⟩
    have LA6 := Lib.hid (LA5.out.next hu)
    have LB6 := Lib.hid (LB5.out.next hu)
    have CA6 := Lib.hid (CA5.out.next hu)
    have X6 := Lib.hid (X5.out.next hu)
    have CB6 := Lib.hid (CB5.out.next hu)
    have Y6 := Lib.hid (Y5.out.next hu)
    have HU6 := Lib.hid (HU5.out.trans hu)
    clear hu HU5 LA5 LB5 CA5 X5 CB5 Y5
    go_wp2_with fail
    refine wp_loop_rounds 1 ?_
    rw [rounds_succ]
    go_wp2_with fail
    refine (pmul_zero p3 0 c3 _ [] p5 ny c5 _ (exps (gat x1)) _ (HA0 _ _ X6.out) (Nat.le_refl _) (Nat.zero_le _) Y6.out (Nat.le_refl _) m5 (.inl rfl)).mono ?_
    rintro e v7 ⟨rfl, hu⟩
    have LA7 := Lib.hid (LA6.out.next hu)
    have LB7 := Lib.hid (LB6.out.next hu)
    have CA7 := Lib.hid (CA6.out.next hu)
    have X7 := Lib.hid (X6.out.next hu)
    have CB7 := Lib.hid (CB6.out.next hu)
    have Y7 := Lib.hid (Y6.out.next hu)
    have HU7 := Lib.hid (HU6.out.trans hu)
    clear hu HU6 LA6 LB6 CA6 X6 CB6 Y6
    go_wp2_with fail
    go_quiet (fail)
    go_wp2_with fail
    go_ret
    exact ⟨rfl, upd_ends (HU7.out.drewN _)⟩
  · obtain ⟨s, hs, hx1, hx2, hxe⟩ := exps_head _ hx HLA.out
    have HX1 : Hid (2 ^ s ≤ gat (exps (gat x0))) := by rw [HGA.out]; exact hx1
    have HX2 : Hid (gat (exps (gat x0)) < 2 ^ (s + 1)) := by rw [HGA.out]; exact hx2
    have HXE := Lib.hid hxe
    have hxl : Hid (0 < nx) := by show 0 < nx; rw [← HNX.out, hxe]; simp
    have HS := Lib.hid hs
    have HXG : Hid (∀ k, k < nx → 0 ≤ (exps (gat x0)).getD k 0 ∧ (exps (gat x0)).getD k 0 ≤ s) := fun k hk => exps_getD _ s k hx2 hs (by rw [HNX.out]; exact hk)
    have t1 : ((nx : Int) == 0) = false := beq_eq_false_iff_ne.2 (by have := hxl.out; omega)
    by_cases h8 : s ≤ 8192
    · have HSQ : Hid (exps (pmul (gat x0) (gat x0)) = dbls (exps (gat x0))) := exps_square _ s hx2 h8 HLA.out
      have HDL : Hid ((dbls (exps (gat x0))).length = nx) := by show _ = _; rw [dbls_length]; exact HNX.out
      have HDG : Hid (∀ k, k < nx → (dbls (exps (gat x0))).getD k 0 = 2 * (exps (gat x0)).getD k 0) := fun k hk => dbls_getD _ k (by rw [HNX.out]; exact hk)
      have H88 := Lib.hid h8
      have t2 : decide ((s : Int) ≤ 8192) = true := decide_eq_true (by omega)
      have HSS : Hid (s + s ≤ 16384) := by show s + s ≤ _; omega
      clear hx hs hx1 hx2 hxe h8
      by_cases hy : gat x1 = 0
      · have HNY0 : Hid ((exps (gat x1)).length = 0) := by rw [hy, exps_zero]; exact rfl
        have HB0 : ∀ (w' : World) (p : Option Addr), Ints w' w'.heap.size p 0 (exps (gat x1)) → Ints w' w'.heap.size p 0 [] := fun w' p h => by
          rw [hy, exps_zero] at h; exact h
        clear hy
        go_enter Try.func5, Try.ntmps5
        go_wp2_with fail
        refine (speaks2_any _).mono ?_
        rintro e v1 ⟨rfl, hu⟩
        have LA1 := Lib.hid (LA0.out.next hu)
        have LB1 := Lib.hid (LB0.out.next hu)
        have HU1 := Lib.hid (HU0.out.trans hu)
        clear hu HU0 LA0 LB0
        go_wp2_with fail
        refine (copied_any a0 len0 cap0 _ x0 _ LA1.out (Nat.le_refl _) (by omega)).mono ?_
        rintro e v2 ⟨r2, rfl, ho, hu⟩
        obtain ⟨p2, c2, rfl, hi, m2, _⟩ := own_ints ho
        have CA2 := Lib.hid hi
        clear ho hi
        have LA2 := Lib.hid (LA1.out.next hu)
        have LB2 := Lib.hid (LB1.out.next hu)
        have HU2 := Lib.hid (HU1.out.trans hu)
        clear hu HU1 LA1 LB1
        go_wp2_with fail
        refine (of_any p2 len0 c2 _ x0 _ CA2.out (Nat.le_refl _) m2).mono ?_
        rintro e v3 ⟨r3, rfl, hv, hu⟩
        have hv1 := hv.1
        obtain ⟨p3, c3, rfl, hi, m3, _⟩ := own_ints hv1
        rw [HNX.out] at hi m3
        rw [HNX.out]
        have X3 := Lib.hid hi
        clear hv hv1 hi
        have LA3 := Lib.hid (LA2.out.next hu)
        have LB3 := Lib.hid (LB2.out.next hu)
        have CA3 := Lib.hid (CA2.out.next hu)
        have HU3 := Lib.hid (HU2.out.trans hu)
        clear hu HU2 LA2 LB2 CA2
        go_wp2_with fail
        refine (copied_any a1 len1 cap1 _ x1 _ LB3.out (Nat.le_refl _) (by omega)).mono ?_
        rintro e v4 ⟨r4, rfl, ho, hu⟩
        obtain ⟨p4, c4, rfl, hi, m4, _⟩ := own_ints ho
        have CB4 := Lib.hid hi
        clear ho hi
        have LA4 := Lib.hid (LA3.out.next hu)
        have LB4 := Lib.hid (LB3.out.next hu)
        have CA4 := Lib.hid (CA3.out.next hu)
        have X4 := Lib.hid (X3.out.next hu)
        have HU4 := Lib.hid (HU3.out.trans hu)
        clear hu HU3 LA3 LB3 CA3 X3
        go_wp2_with fail
        refine (of_any p4 len1 c4 _ x1 _ CB4.out (Nat.le_refl _) m4).mono ?_
        rintro e v5 ⟨r5, rfl, hv, hu⟩
        have hv1 := hv.1
        obtain ⟨p5, c5, rfl, hi, m5, _⟩ := own_ints hv1
        rw [HNY0.out] at hi m5
        rw [HNY0.out]
        have Y5 := Lib.hid hi
        clear hv hv1 hi
        have LA5 := Lib.hid (LA4.out.next hu)
        have LB5 := Lib.hid (LB4.out.next hu)
        have CA5 := Lib.hid (CA4.out.next hu)
        have X5 := Lib.hid (X4.out.next hu)
        have CB5 := Lib.hid (CB4.out.next hu)
        have HU5 := Lib.hid (HU4.out.trans hu)
        clear hu HU4 LA4 LB4 CA4 X4 CB4
        go_wp2_with fail
        refine (pmul_ok p3 nx c3 _ (exps (gat x0)) p3 nx c3 _ (exps (gat x0)) _ X5.out (Nat.le_refl _) m3 X5.out (Nat.le_refl _) m3 s s HX1.out HX2.out HX1.out HX2.out HSS.out).mono ?_
        rintro e v6 ⟨r6, rfl, hv, hu⟩
        rw [HGA.out] at hv
        have hv1 := hv.1
        rw [HSQ.out] at hv1
        obtain ⟨p6, c6, rfl, hi, m6, _⟩ := own_ints hv1
        rw [HDL.out] at hi m6
        rw [HDL.out]
        have S6 := Lib.hid hi
        clear hv hv1 hi
        have LA6 := Lib.hid (LA5.out.next hu)
        have LB6 := Lib.hid (LB5.out.next hu)
        have CA6 := Lib.hid (CA5.out.next hu)
        have X6 := Lib.hid (X5.out.next hu)
        have CB6 := Lib.hid (CB5.out.next hu)
        have Y6 := Lib.hid (Y5.out.next hu)
        have HU6 := Lib.hid (HU5.out.trans hu)
        clear hu HU5 LA5 LB5 CA5 X5 CB5 Y5
        obtain ⟨gx, ox, rfl, _, hx⟩ := X6.out.cell hxl.out
        have cx : v6.cell? ⟨gx, ox, none⟩ = some (.int .i64 (s : Int)) := by have := hx 0 hxl.out; rw [HXE.out] at this; exact this
        clear hx
        have hxp := hxl.out
        go_wp2_with fail
        clear cx hxp
        have hcap : nx ≤ 9223372036854775807 := by unfold maxLen at m3; omega
        go_loopw [9] (fun i wr => ∃ k : Nat, k ≤ nx ∧ i = .int .i64 (k : Int) ∧ Hid (Ints wr wr.heap.size (some ⟨gx, ox, none⟩) nx (exps (gat x0))) ∧ Hid (Ints wr wr.heap.size p5 0 (exps (gat x1))) ∧ Hid (Ints wr wr.heap.size p6 nx (dbls (exps (gat x0)))) ∧ Hid (Upd noBlock w wr)) (fun i _ => nx - (intOf i).toNat)
        case atStart => exact ⟨0, Nat.zero_le _, rfl, X6, Y6, S6, HU6⟩
        case round =>
          clear LA6 LB6 CA6 X6 CB6 Y6 S6 HU6
          obtain ⟨k, hk, rfl, X50, Y50, S50, HU50⟩ := hrel
          by_cases h0 : k < nx
          · obtain ⟨gx', ox', hgx, _, hc1⟩ := X50.out.cell (by omega)
            obtain ⟨rfl, rfl⟩ : gx = gx' ∧ ox = ox' := by simpa using hgx
            obtain ⟨gs, os, rfl, _, hc2⟩ := S50.out.cell (by omega)
            have c1 := hc1 k h0
            have c2 := hc2 k h0
            rw [HDG.out k h0] at c2
            have hz := HXG.out k h0
            generalize (exps (gat x0)).getD k 0 = z at *
            have hz1 : 0 ≤ z := hz.1
            have hz2 : z ≤ 16384 := by have := HS.out; omega
            have t9 : decide (nx ≤ k) = false := decide_eq_false (by omega)
            have t8 : decide ((nx : Int) ≤ (k : Int)) = false := decide_eq_false (by omega)
            have HZ2 := Lib.hid hz2
            have tw : IntKind.i64.wrap (2 * z) = 2 * z := IntWalk.i64_in _ (by omega)
            clear hc1 hc2 hz hgx hz2
            go_wp2_with fail
            go_quiet (fail)
            go_wp2_with fail
            go_roundw
            case rel => exact ⟨k + 1, by omega, by go_num, (X50.out.next ((Upd.refl _ _).drewN _)), (Y50.out.next ((Upd.refl _ _).drewN _)), (S50.out.next ((Upd.refl _ _).drewN _)), HU50.out.drewN _⟩
            case measure => simp [intOf]; omega
          · obtain rfl : k = nx := by omega
            clear hk h0
            go_wp2_with fail
            refine (pmul_zero (some ⟨gx, ox, none⟩) k c3 _ (exps (gat x0)) p5 0 c5 _ [] _ X50.out (Nat.le_refl _) m3 (HB0 _ _ Y50.out) (Nat.le_refl _) (Nat.zero_le _) (.inr rfl)).mono ?_
            rintro e v61 ⟨rfl, hu⟩
            have X51 := Lib.hid (X50.out.next hu)
            have Y51 := Lib.hid (Y50.out.next hu)
            have S51 := Lib.hid (S50.out.next hu)
            have HU51 := Lib.hid (HU50.out.trans hu)
            clear hu HU50 X50 Y50 S50
            go_wp2_with fail
            go_quiet (fail)
            go_wp2_with fail
            go_ret
            exact ⟨rfl, upd_ends (HU51.out.drewN _)⟩
      · obtain ⟨t, ht, hy1, hy2, hye⟩ := exps_head _ hy HLB.out
        have HY1 : Hid (2 ^ t ≤ gat (exps (gat x1))) := by rw [HGB.out]; exact hy1
        have HY2 : Hid (gat (exps (gat x1)) < 2 ^ (t + 1)) := by rw [HGB.out]; exact hy2
        have HYE := Lib.hid hye
        have hyl : Hid (0 < ny) := by show 0 < ny; rw [← HNY.out, hye]; simp
        have HT := Lib.hid ht
        have t5 : ((ny : Int) == 0) = false := beq_eq_false_iff_ne.2 (by have := hyl.out; omega)
        by_cases hst : s + t ≤ 16384
        · have HST := Lib.hid hst
          have hdeg := pmul_deg (gat x0) (gat x1) s t (by rw [← HGA.out]; exact HX1.out) (by rw [← HGA.out]; exact HX2.out) hy1 hy2 hst
          have HPE := Lib.hid (exps_top _ (s + t) hdeg.1 hdeg.2 (by omega))
          obtain ⟨np, HNP⟩ : ∃ np, Hid ((exps (pmul (gat x0) (gat x1))).length = np) := ⟨_, rfl⟩
          have hpl : Hid (0 < np) := by show 0 < np; rw [← HNP.out, HPE.out]; simp
          clear hy ht hy1 hy2 hye hst hdeg
          go_enter Try.func5, Try.ntmps5
          go_wp2_with fail
          refine (speaks2_any _).mono ?_
          rintro e v1 ⟨rfl, hu⟩
          have LA1 := Lib.hid (LA0.out.next hu)
          have LB1 := Lib.hid (LB0.out.next hu)
          have HU1 := Lib.hid (HU0.out.trans hu)
          clear hu HU0 LA0 LB0
          go_wp2_with fail
          refine (copied_any a0 len0 cap0 _ x0 _ LA1.out (Nat.le_refl _) (by omega)).mono ?_
          rintro e v2 ⟨r2, rfl, ho, hu⟩
          obtain ⟨p2, c2, rfl, hi, m2, _⟩ := own_ints ho
          have CA2 := Lib.hid hi
          clear ho hi
          have LA2 := Lib.hid (LA1.out.next hu)
          have LB2 := Lib.hid (LB1.out.next hu)
          have HU2 := Lib.hid (HU1.out.trans hu)
          clear hu HU1 LA1 LB1
          go_wp2_with fail
          refine (of_any p2 len0 c2 _ x0 _ CA2.out (Nat.le_refl _) m2).mono ?_
          rintro e v3 ⟨r3, rfl, hv, hu⟩
          have hv1 := hv.1
          obtain ⟨p3, c3, rfl, hi, m3, _⟩ := own_ints hv1
          rw [HNX.out] at hi m3
          rw [HNX.out]
          have X3 := Lib.hid hi
          clear hv hv1 hi
          have LA3 := Lib.hid (LA2.out.next hu)
          have LB3 := Lib.hid (LB2.out.next hu)
          have CA3 := Lib.hid (CA2.out.next hu)
          have HU3 := Lib.hid (HU2.out.trans hu)
          clear hu HU2 LA2 LB2 CA2
          go_wp2_with fail
          refine (copied_any a1 len1 cap1 _ x1 _ LB3.out (Nat.le_refl _) (by omega)).mono ?_
          rintro e v4 ⟨r4, rfl, ho, hu⟩
          obtain ⟨p4, c4, rfl, hi, m4, _⟩ := own_ints ho
          have CB4 := Lib.hid hi
          clear ho hi
          have LA4 := Lib.hid (LA3.out.next hu)
          have LB4 := Lib.hid (LB3.out.next hu)
          have CA4 := Lib.hid (CA3.out.next hu)
          have X4 := Lib.hid (X3.out.next hu)
          have HU4 := Lib.hid (HU3.out.trans hu)
          clear hu HU3 LA3 LB3 CA3 X3
          go_wp2_with fail
          refine (of_any p4 len1 c4 _ x1 _ CB4.out (Nat.le_refl _) m4).mono ?_
          rintro e v5 ⟨r5, rfl, hv, hu⟩
          have hv1 := hv.1
          obtain ⟨p5, c5, rfl, hi, m5, _⟩ := own_ints hv1
          rw [HNY.out] at hi m5
          rw [HNY.out]
          have Y5 := Lib.hid hi
          clear hv hv1 hi
          have LA5 := Lib.hid (LA4.out.next hu)
          have LB5 := Lib.hid (LB4.out.next hu)
          have CA5 := Lib.hid (CA4.out.next hu)
          have X5 := Lib.hid (X4.out.next hu)
          have CB5 := Lib.hid (CB4.out.next hu)
          have HU5 := Lib.hid (HU4.out.trans hu)
          clear hu HU4 LA4 LB4 CA4 X4 CB4
          go_wp2_with fail
          refine (pmul_ok p3 nx c3 _ (exps (gat x0)) p3 nx c3 _ (exps (gat x0)) _ X5.out (Nat.le_refl _) m3 X5.out (Nat.le_refl _) m3 s s HX1.out HX2.out HX1.out HX2.out HSS.out).mono ?_
          rintro e v6 ⟨r6, rfl, hv, hu⟩
          rw [HGA.out] at hv
          have hv1 := hv.1
          rw [HSQ.out] at hv1
          obtain ⟨p6, c6, rfl, hi, m6, _⟩ := own_ints hv1
          rw [HDL.out] at hi m6
          rw [HDL.out]
          have S6 := Lib.hid hi
          clear hv hv1 hi
          have LA6 := Lib.hid (LA5.out.next hu)
          have LB6 := Lib.hid (LB5.out.next hu)
          have CA6 := Lib.hid (CA5.out.next hu)
          have X6 := Lib.hid (X5.out.next hu)
          have CB6 := Lib.hid (CB5.out.next hu)
          have Y6 := Lib.hid (Y5.out.next hu)
          have HU6 := Lib.hid (HU5.out.trans hu)
          clear hu HU5 LA5 LB5 CA5 X5 CB5 Y5
          obtain ⟨gx, ox, rfl, _, hx⟩ := X6.out.cell hxl.out
          have cx : v6.cell? ⟨gx, ox, none⟩ = some (.int .i64 (s : Int)) := by have := hx 0 hxl.out; rw [HXE.out] at this; exact this
          clear hx
          have hxp := hxl.out
          go_wp2_with fail
          clear cx hxp
          have hcap : nx ≤ 9223372036854775807 := by unfold maxLen at m3; omega
          go_loopw [9] (fun i wr => ∃ k : Nat, k ≤ nx ∧ i = .int .i64 (k : Int) ∧ Hid (Ints wr wr.heap.size (some ⟨gx, ox, none⟩) nx (exps (gat x0))) ∧ Hid (Ints wr wr.heap.size p5 ny (exps (gat x1))) ∧ Hid (Ints wr wr.heap.size p6 nx (dbls (exps (gat x0)))) ∧ Hid (Upd noBlock w wr)) (fun i _ => nx - (intOf i).toNat)
          case atStart => exact ⟨0, Nat.zero_le _, rfl, X6, Y6, S6, HU6⟩
          case round =>
            clear LA6 LB6 CA6 X6 CB6 Y6 S6 HU6
            obtain ⟨k, hk, rfl, X50, Y50, S50, HU50⟩ := hrel
            by_cases h0 : k < nx
            · obtain ⟨gx', ox', hgx, _, hc1⟩ := X50.out.cell (by omega)
              obtain ⟨rfl, rfl⟩ : gx = gx' ∧ ox = ox' := by simpa using hgx
              obtain ⟨gs, os, rfl, _, hc2⟩ := S50.out.cell (by omega)
              have c1 := hc1 k h0
              have c2 := hc2 k h0
              rw [HDG.out k h0] at c2
              have hz := HXG.out k h0
              generalize (exps (gat x0)).getD k 0 = z at *
              have hz1 : 0 ≤ z := hz.1
              have hz2 : z ≤ 16384 := by have := HS.out; omega
              have t9 : decide (nx ≤ k) = false := decide_eq_false (by omega)
              have t8 : decide ((nx : Int) ≤ (k : Int)) = false := decide_eq_false (by omega)
              have HZ2 := Lib.hid hz2
              have tw : IntKind.i64.wrap (2 * z) = 2 * z := IntWalk.i64_in _ (by omega)
              clear hc1 hc2 hz hgx hz2
              go_wp2_with fail
              go_quiet (fail)
              go_wp2_with fail
              go_roundw
              case rel => exact ⟨k + 1, by omega, by go_num, (X50.out.next ((Upd.refl _ _).drewN _)), (Y50.out.next ((Upd.refl _ _).drewN _)), (S50.out.next ((Upd.refl _ _).drewN _)), HU50.out.drewN _⟩
              case measure => simp [intOf]; omega
            · obtain rfl : k = nx := by omega
              clear hk h0
              go_wp2_with fail
              refine (pmul_ok (some ⟨gx, ox, none⟩) k c3 _ (exps (gat x0)) p5 ny c5 _ (exps (gat x1)) _ X50.out (Nat.le_refl _) m3 Y50.out (Nat.le_refl _) m5 s t HX1.out HX2.out HY1.out HY2.out HST.out).mono ?_
              rintro e v61 ⟨r61, rfl, hv, hu⟩
              rw [HGA.out, HGB.out] at hv
              have hv1 := hv.1
              obtain ⟨p61, c61, rfl, hi, m61, _⟩ := own_ints hv1
              rw [HNP.out] at hi m61
              rw [HNP.out]
              have P51 := Lib.hid hi
              clear hv hv1 hi
              have X51 := Lib.hid (X50.out.next hu)
              have Y51 := Lib.hid (Y50.out.next hu)
              have S51 := Lib.hid (S50.out.next hu)
              have HU51 := Lib.hid (HU50.out.trans hu)
              clear hu HU50 X50 Y50 S50
              obtain ⟨gx', ox', hgx, _, hc1⟩ := X51.out.cell hxl.out
              obtain ⟨rfl, rfl⟩ : gx = gx' ∧ ox = ox' := by simpa using hgx
              clear hgx
              have cx : v61.cell? ⟨gx, ox, none⟩ = some (.int .i64 (s : Int)) := by have := hc1 0 hxl.out; rw [HXE.out] at this; exact this
              clear hc1
              obtain ⟨gy, oy, rfl, _, hy⟩ := Y51.out.cell hyl.out
              have cy : v61.cell? ⟨gy, oy, none⟩ = some (.int .i64 (t : Int)) := by have := hy 0 hyl.out; rw [HYE.out] at this; exact this
              clear hy
              obtain ⟨gp, op, rfl, _, hp⟩ := P51.out.cell hpl.out
              have cp : v61.cell? ⟨gp, op, none⟩ = some (.int .i64 (((s + t : Nat) : Int) : Int)) := by have := hp 0 hpl.out; rw [HPE.out] at this; exact this
              clear hp
              have hxp := hxl.out
              have hyp := hyl.out
              have hpp := hpl.out
              have tw : IntKind.i64.wrap ((s : Int) + (t : Int)) = (s : Int) + (t : Int) := IntWalk.i64_in _ (by have := HST.out; omega)
              have te : (((s + t : Nat) : Int) == (s : Int) + (t : Int)) = true := beq_iff_eq.2 (by omega)
              go_wp2_with fail
              go_quiet (fail)
              go_wp2_with fail
              go_ret
              exact ⟨rfl, upd_ends (HU51.out.drewN _)⟩
        · have hst2 : 16384 < s + t := by omega
          have HST := Lib.hid hst2
          clear hy ht hy1 hy2 hye hst hst2
          go_enter Try.func5, Try.ntmps5
          go_wp2_with fail
          refine (speaks2_any _).mono ?_
          rintro e v1 ⟨rfl, hu⟩
          have LA1 := Lib.hid (LA0.out.next hu)
          have LB1 := Lib.hid (LB0.out.next hu)
          have HU1 := Lib.hid (HU0.out.trans hu)
          clear hu HU0 LA0 LB0
          go_wp2_with fail
          refine (copied_any a0 len0 cap0 _ x0 _ LA1.out (Nat.le_refl _) (by omega)).mono ?_
          rintro e v2 ⟨r2, rfl, ho, hu⟩
          obtain ⟨p2, c2, rfl, hi, m2, _⟩ := own_ints ho
          have CA2 := Lib.hid hi
          clear ho hi
          have LA2 := Lib.hid (LA1.out.next hu)
          have LB2 := Lib.hid (LB1.out.next hu)
          have HU2 := Lib.hid (HU1.out.trans hu)
          clear hu HU1 LA1 LB1
          go_wp2_with fail
          refine (of_any p2 len0 c2 _ x0 _ CA2.out (Nat.le_refl _) m2).mono ?_
          rintro e v3 ⟨r3, rfl, hv, hu⟩
          have hv1 := hv.1
          obtain ⟨p3, c3, rfl, hi, m3, _⟩ := own_ints hv1
          rw [HNX.out] at hi m3
          rw [HNX.out]
          have X3 := Lib.hid hi
          clear hv hv1 hi
          have LA3 := Lib.hid (LA2.out.next hu)
          have LB3 := Lib.hid (LB2.out.next hu)
          have CA3 := Lib.hid (CA2.out.next hu)
          have HU3 := Lib.hid (HU2.out.trans hu)
          clear hu HU2 LA2 LB2 CA2
          go_wp2_with fail
          refine (copied_any a1 len1 cap1 _ x1 _ LB3.out (Nat.le_refl _) (by omega)).mono ?_
          rintro e v4 ⟨r4, rfl, ho, hu⟩
          obtain ⟨p4, c4, rfl, hi, m4, _⟩ := own_ints ho
          have CB4 := Lib.hid hi
          clear ho hi
          have LA4 := Lib.hid (LA3.out.next hu)
          have LB4 := Lib.hid (LB3.out.next hu)
          have CA4 := Lib.hid (CA3.out.next hu)
          have X4 := Lib.hid (X3.out.next hu)
          have HU4 := Lib.hid (HU3.out.trans hu)
          clear hu HU3 LA3 LB3 CA3 X3
          go_wp2_with fail
          refine (of_any p4 len1 c4 _ x1 _ CB4.out (Nat.le_refl _) m4).mono ?_
          rintro e v5 ⟨r5, rfl, hv, hu⟩
          have hv1 := hv.1
          obtain ⟨p5, c5, rfl, hi, m5, _⟩ := own_ints hv1
          rw [HNY.out] at hi m5
          rw [HNY.out]
          have Y5 := Lib.hid hi
          clear hv hv1 hi
          have LA5 := Lib.hid (LA4.out.next hu)
          have LB5 := Lib.hid (LB4.out.next hu)
          have CA5 := Lib.hid (CA4.out.next hu)
          have X5 := Lib.hid (X4.out.next hu)
          have CB5 := Lib.hid (CB4.out.next hu)
          have HU5 := Lib.hid (HU4.out.trans hu)
          clear hu HU4 LA4 LB4 CA4 X4 CB4
          go_wp2_with fail
          refine (pmul_ok p3 nx c3 _ (exps (gat x0)) p3 nx c3 _ (exps (gat x0)) _ X5.out (Nat.le_refl _) m3 X5.out (Nat.le_refl _) m3 s s HX1.out HX2.out HX1.out HX2.out HSS.out).mono ?_
          rintro e v6 ⟨r6, rfl, hv, hu⟩
          rw [HGA.out] at hv
          have hv1 := hv.1
          rw [HSQ.out] at hv1
          obtain ⟨p6, c6, rfl, hi, m6, _⟩ := own_ints hv1
          rw [HDL.out] at hi m6
          rw [HDL.out]
          have S6 := Lib.hid hi
          clear hv hv1 hi
          have LA6 := Lib.hid (LA5.out.next hu)
          have LB6 := Lib.hid (LB5.out.next hu)
          have CA6 := Lib.hid (CA5.out.next hu)
          have X6 := Lib.hid (X5.out.next hu)
          have CB6 := Lib.hid (CB5.out.next hu)
          have Y6 := Lib.hid (Y5.out.next hu)
          have HU6 := Lib.hid (HU5.out.trans hu)
          clear hu HU5 LA5 LB5 CA5 X5 CB5 Y5
          obtain ⟨gx, ox, rfl, _, hx⟩ := X6.out.cell hxl.out
          have cx : v6.cell? ⟨gx, ox, none⟩ = some (.int .i64 (s : Int)) := by have := hx 0 hxl.out; rw [HXE.out] at this; exact this
          clear hx
          have hxp := hxl.out
          go_wp2_with fail
          clear cx hxp
          have hcap : nx ≤ 9223372036854775807 := by unfold maxLen at m3; omega
          go_loopw [9] (fun i wr => ∃ k : Nat, k ≤ nx ∧ i = .int .i64 (k : Int) ∧ Hid (Ints wr wr.heap.size (some ⟨gx, ox, none⟩) nx (exps (gat x0))) ∧ Hid (Ints wr wr.heap.size p5 ny (exps (gat x1))) ∧ Hid (Ints wr wr.heap.size p6 nx (dbls (exps (gat x0)))) ∧ Hid (Upd noBlock w wr)) (fun i _ => nx - (intOf i).toNat)
          case atStart => exact ⟨0, Nat.zero_le _, rfl, X6, Y6, S6, HU6⟩
          case round =>
            clear LA6 LB6 CA6 X6 CB6 Y6 S6 HU6
            obtain ⟨k, hk, rfl, X50, Y50, S50, HU50⟩ := hrel
            by_cases h0 : k < nx
            · obtain ⟨gx', ox', hgx, _, hc1⟩ := X50.out.cell (by omega)
              obtain ⟨rfl, rfl⟩ : gx = gx' ∧ ox = ox' := by simpa using hgx
              obtain ⟨gs, os, rfl, _, hc2⟩ := S50.out.cell (by omega)
              have c1 := hc1 k h0
              have c2 := hc2 k h0
              rw [HDG.out k h0] at c2
              have hz := HXG.out k h0
              generalize (exps (gat x0)).getD k 0 = z at *
              have hz1 : 0 ≤ z := hz.1
              have hz2 : z ≤ 16384 := by have := HS.out; omega
              have t9 : decide (nx ≤ k) = false := decide_eq_false (by omega)
              have t8 : decide ((nx : Int) ≤ (k : Int)) = false := decide_eq_false (by omega)
              have HZ2 := Lib.hid hz2
              have tw : IntKind.i64.wrap (2 * z) = 2 * z := IntWalk.i64_in _ (by omega)
              clear hc1 hc2 hz hgx hz2
              go_wp2_with fail
              go_quiet (fail)
              go_wp2_with fail
              go_roundw
              case rel => exact ⟨k + 1, by omega, by go_num, (X50.out.next ((Upd.refl _ _).drewN _)), (Y50.out.next ((Upd.refl _ _).drewN _)), (S50.out.next ((Upd.refl _ _).drewN _)), HU50.out.drewN _⟩
              case measure => simp [intOf]; omega
            · obtain rfl : k = nx := by omega
              clear hk h0
              go_wp2_with fail
              refine (pmul_big (some ⟨gx, ox, none⟩) k c3 _ (exps (gat x0)) p5 ny c5 _ (exps (gat x1)) _ X50.out (Nat.le_refl _) m3 Y50.out (Nat.le_refl _) m5 s t HX1.out HX2.out HY1.out HY2.out HS.out HT.out HST.out).mono ?_
              rintro e v61 ⟨rfl, hu⟩
              have X51 := Lib.hid (X50.out.next hu)
              have Y51 := Lib.hid (Y50.out.next hu)
              have S51 := Lib.hid (S50.out.next hu)
              have HU51 := Lib.hid (HU50.out.trans hu)
              clear hu HU50 X50 Y50 S50
              go_wp2_with fail
              go_quiet (fail)
              go_wp2_with fail
              go_ret
              exact ⟨rfl, upd_ends (HU51.out.drewN _)⟩
    · have t2 : decide ((s : Int) ≤ 8192) = false := decide_eq_false (by omega)
      have HBIG : Hid (16384 < s + s) := by show 16384 < s + s; omega
      clear hx hs hx1 hx2 hxe h8
      by_cases hy : gat x1 = 0
      · have HNY0 : Hid ((exps (gat x1)).length = 0) := by rw [hy, exps_zero]; exact rfl
        have HB0 : ∀ (w' : World) (p : Option Addr), Ints w' w'.heap.size p 0 (exps (gat x1)) → Ints w' w'.heap.size p 0 [] := fun w' p h => by
          rw [hy, exps_zero] at h; exact h
        clear hy
        go_enter Try.func5, Try.ntmps5
        go_wp2_with fail
        refine (speaks2_any _).mono ?_
        rintro e v1 ⟨rfl, hu⟩
        have LA1 := Lib.hid (LA0.out.next hu)
        have LB1 := Lib.hid (LB0.out.next hu)
        have HU1 := Lib.hid (HU0.out.trans hu)
        clear hu HU0 LA0 LB0
        go_wp2_with fail
        refine (copied_any a0 len0 cap0 _ x0 _ LA1.out (Nat.le_refl _) (by omega)).mono ?_
        rintro e v2 ⟨r2, rfl, ho, hu⟩
        obtain ⟨p2, c2, rfl, hi, m2, _⟩ := own_ints ho
        have CA2 := Lib.hid hi
        clear ho hi
        have LA2 := Lib.hid (LA1.out.next hu)
        have LB2 := Lib.hid (LB1.out.next hu)
        have HU2 := Lib.hid (HU1.out.trans hu)
        clear hu HU1 LA1 LB1
        go_wp2_with fail
        refine (of_any p2 len0 c2 _ x0 _ CA2.out (Nat.le_refl _) m2).mono ?_
        rintro e v3 ⟨r3, rfl, hv, hu⟩
        have hv1 := hv.1
        obtain ⟨p3, c3, rfl, hi, m3, _⟩ := own_ints hv1
        rw [HNX.out] at hi m3
        rw [HNX.out]
        have X3 := Lib.hid hi
        clear hv hv1 hi
        have LA3 := Lib.hid (LA2.out.next hu)
        have LB3 := Lib.hid (LB2.out.next hu)
        have CA3 := Lib.hid (CA2.out.next hu)
        have HU3 := Lib.hid (HU2.out.trans hu)
        clear hu HU2 LA2 LB2 CA2
        go_wp2_with fail
        refine (copied_any a1 len1 cap1 _ x1 _ LB3.out (Nat.le_refl _) (by omega)).mono ?_
        rintro e v4 ⟨r4, rfl, ho, hu⟩
        obtain ⟨p4, c4, rfl, hi, m4, _⟩ := own_ints ho
        have CB4 := Lib.hid hi
        clear ho hi
        have LA4 := Lib.hid (LA3.out.next hu)
        have LB4 := Lib.hid (LB3.out.next hu)
        have CA4 := Lib.hid (CA3.out.next hu)
        have X4 := Lib.hid (X3.out.next hu)
        have HU4 := Lib.hid (HU3.out.trans hu)
        clear hu HU3 LA3 LB3 CA3 X3
        go_wp2_with fail
        refine (of_any p4 len1 c4 _ x1 _ CB4.out (Nat.le_refl _) m4).mono ?_
        rintro e v5 ⟨r5, rfl, hv, hu⟩
        have hv1 := hv.1
        obtain ⟨p5, c5, rfl, hi, m5, _⟩ := own_ints hv1
        rw [HNY0.out] at hi m5
        rw [HNY0.out]
        have Y5 := Lib.hid hi
        clear hv hv1 hi
        have LA5 := Lib.hid (LA4.out.next hu)
        have LB5 := Lib.hid (LB4.out.next hu)
        have CA5 := Lib.hid (CA4.out.next hu)
        have X5 := Lib.hid (X4.out.next hu)
        have CB5 := Lib.hid (CB4.out.next hu)
        have HU5 := Lib.hid (HU4.out.trans hu)
        clear hu HU4 LA4 LB4 CA4 X4 CB4
        go_wp2_with fail
        refine (pmul_big p3 nx c3 _ (exps (gat x0)) p3 nx c3 _ (exps (gat x0)) _ X5.out (Nat.le_refl _) m3 X5.out (Nat.le_refl _) m3 s s HX1.out HX2.out HX1.out HX2.out HS.out HS.out HBIG.out).mono ?_
        rintro e v6 ⟨rfl, hu⟩
        have LA6 := Lib.hid (LA5.out.next hu)
        have LB6 := Lib.hid (LB5.out.next hu)
        have CA6 := Lib.hid (CA5.out.next hu)
        have X6 := Lib.hid (X5.out.next hu)
        have CB6 := Lib.hid (CB5.out.next hu)
        have Y6 := Lib.hid (Y5.out.next hu)
        have HU6 := Lib.hid (HU5.out.trans hu)
        clear hu HU5 LA5 LB5 CA5 X5 CB5 Y5
        obtain ⟨gx, ox, rfl, _, hx⟩ := X6.out.cell hxl.out
        have cx : v6.cell? ⟨gx, ox, none⟩ = some (.int .i64 (s : Int)) := by have := hx 0 hxl.out; rw [HXE.out] at this; exact this
        clear hx
        have hxp := hxl.out
        go_wp2_with fail
        clear cx hxp
        refine wp_loop_rounds 1 ?_
        rw [rounds_succ]
        go_wp2_with fail
        refine (pmul_zero (some ⟨gx, ox, none⟩) nx c3 _ (exps (gat x0)) p5 0 c5 _ [] _ X6.out (Nat.le_refl _) m3 (HB0 _ _ Y6.out) (Nat.le_refl _) (Nat.zero_le _) (.inr rfl)).mono ?_
        rintro e v7 ⟨rfl, hu⟩
        have LA7 := Lib.hid (LA6.out.next hu)
        have LB7 := Lib.hid (LB6.out.next hu)
        have CA7 := Lib.hid (CA6.out.next hu)
        have X7 := Lib.hid (X6.out.next hu)
        have CB7 := Lib.hid (CB6.out.next hu)
        have Y7 := Lib.hid (Y6.out.next hu)
        have HU7 := Lib.hid (HU6.out.trans hu)
        clear hu HU6 LA6 LB6 CA6 X6 CB6 Y6
        go_wp2_with fail
        go_quiet (fail)
        go_wp2_with fail
        go_ret
        exact ⟨rfl, upd_ends (HU7.out.drewN _)⟩
      · obtain ⟨t, ht, hy1, hy2, hye⟩ := exps_head _ hy HLB.out
        have HY1 : Hid (2 ^ t ≤ gat (exps (gat x1))) := by rw [HGB.out]; exact hy1
        have HY2 : Hid (gat (exps (gat x1)) < 2 ^ (t + 1)) := by rw [HGB.out]; exact hy2
        have HYE := Lib.hid hye
        have hyl : Hid (0 < ny) := by show 0 < ny; rw [← HNY.out, hye]; simp
        have HT := Lib.hid ht
        have t5 : ((ny : Int) == 0) = false := beq_eq_false_iff_ne.2 (by have := hyl.out; omega)
        by_cases hst : s + t ≤ 16384
        · have HST := Lib.hid hst
          have hdeg := pmul_deg (gat x0) (gat x1) s t (by rw [← HGA.out]; exact HX1.out) (by rw [← HGA.out]; exact HX2.out) hy1 hy2 hst
          have HPE := Lib.hid (exps_top _ (s + t) hdeg.1 hdeg.2 (by omega))
          obtain ⟨np, HNP⟩ : ∃ np, Hid ((exps (pmul (gat x0) (gat x1))).length = np) := ⟨_, rfl⟩
          have hpl : Hid (0 < np) := by show 0 < np; rw [← HNP.out, HPE.out]; simp
          clear hy ht hy1 hy2 hye hst hdeg
          go_enter Try.func5, Try.ntmps5
          go_wp2_with fail
          refine (speaks2_any _).mono ?_
          rintro e v1 ⟨rfl, hu⟩
          have LA1 := Lib.hid (LA0.out.next hu)
          have LB1 := Lib.hid (LB0.out.next hu)
          have HU1 := Lib.hid (HU0.out.trans hu)
          clear hu HU0 LA0 LB0
          go_wp2_with fail
          refine (copied_any a0 len0 cap0 _ x0 _ LA1.out (Nat.le_refl _) (by omega)).mono ?_
          rintro e v2 ⟨r2, rfl, ho, hu⟩
          obtain ⟨p2, c2, rfl, hi, m2, _⟩ := own_ints ho
          have CA2 := Lib.hid hi
          clear ho hi
          have LA2 := Lib.hid (LA1.out.next hu)
          have LB2 := Lib.hid (LB1.out.next hu)
          have HU2 := Lib.hid (HU1.out.trans hu)
          clear hu HU1 LA1 LB1
          go_wp2_with fail
          refine (of_any p2 len0 c2 _ x0 _ CA2.out (Nat.le_refl _) m2).mono ?_
          rintro e v3 ⟨r3, rfl, hv, hu⟩
          have hv1 := hv.1
          obtain ⟨p3, c3, rfl, hi, m3, _⟩ := own_ints hv1
          rw [HNX.out] at hi m3
          rw [HNX.out]
          have X3 := Lib.hid hi
          clear hv hv1 hi
          have LA3 := Lib.hid (LA2.out.next hu)
          have LB3 := Lib.hid (LB2.out.next hu)
          have CA3 := Lib.hid (CA2.out.next hu)
          have HU3 := Lib.hid (HU2.out.trans hu)
          clear hu HU2 LA2 LB2 CA2
          go_wp2_with fail
          refine (copied_any a1 len1 cap1 _ x1 _ LB3.out (Nat.le_refl _) (by omega)).mono ?_
          rintro e v4 ⟨r4, rfl, ho, hu⟩
          obtain ⟨p4, c4, rfl, hi, m4, _⟩ := own_ints ho
          have CB4 := Lib.hid hi
          clear ho hi
          have LA4 := Lib.hid (LA3.out.next hu)
          have LB4 := Lib.hid (LB3.out.next hu)
          have CA4 := Lib.hid (CA3.out.next hu)
          have X4 := Lib.hid (X3.out.next hu)
          have HU4 := Lib.hid (HU3.out.trans hu)
          clear hu HU3 LA3 LB3 CA3 X3
          go_wp2_with fail
          refine (of_any p4 len1 c4 _ x1 _ CB4.out (Nat.le_refl _) m4).mono ?_
          rintro e v5 ⟨r5, rfl, hv, hu⟩
          have hv1 := hv.1
          obtain ⟨p5, c5, rfl, hi, m5, _⟩ := own_ints hv1
          rw [HNY.out] at hi m5
          rw [HNY.out]
          have Y5 := Lib.hid hi
          clear hv hv1 hi
          have LA5 := Lib.hid (LA4.out.next hu)
          have LB5 := Lib.hid (LB4.out.next hu)
          have CA5 := Lib.hid (CA4.out.next hu)
          have X5 := Lib.hid (X4.out.next hu)
          have CB5 := Lib.hid (CB4.out.next hu)
          have HU5 := Lib.hid (HU4.out.trans hu)
          clear hu HU4 LA4 LB4 CA4 X4 CB4
          go_wp2_with fail
          refine (pmul_big p3 nx c3 _ (exps (gat x0)) p3 nx c3 _ (exps (gat x0)) _ X5.out (Nat.le_refl _) m3 X5.out (Nat.le_refl _) m3 s s HX1.out HX2.out HX1.out HX2.out HS.out HS.out HBIG.out).mono ?_
          rintro e v6 ⟨rfl, hu⟩
          have LA6 := Lib.hid (LA5.out.next hu)
          have LB6 := Lib.hid (LB5.out.next hu)
          have CA6 := Lib.hid (CA5.out.next hu)
          have X6 := Lib.hid (X5.out.next hu)
          have CB6 := Lib.hid (CB5.out.next hu)
          have Y6 := Lib.hid (Y5.out.next hu)
          have HU6 := Lib.hid (HU5.out.trans hu)
          clear hu HU5 LA5 LB5 CA5 X5 CB5 Y5
          obtain ⟨gx, ox, rfl, _, hx⟩ := X6.out.cell hxl.out
          have cx : v6.cell? ⟨gx, ox, none⟩ = some (.int .i64 (s : Int)) := by have := hx 0 hxl.out; rw [HXE.out] at this; exact this
          clear hx
          have hxp := hxl.out
          go_wp2_with fail
          clear cx hxp
          refine wp_loop_rounds 1 ?_
          rw [rounds_succ]
          go_wp2_with fail
          refine (pmul_ok (some ⟨gx, ox, none⟩) nx c3 _ (exps (gat x0)) p5 ny c5 _ (exps (gat x1)) _ X6.out (Nat.le_refl _) m3 Y6.out (Nat.le_refl _) m5 s t HX1.out HX2.out HY1.out HY2.out HST.out).mono ?_
          rintro e v7 ⟨r7, rfl, hv, hu⟩
          rw [HGA.out, HGB.out] at hv
          have hv1 := hv.1
          obtain ⟨p7, c7, rfl, hi, m7, _⟩ := own_ints hv1
          rw [HNP.out] at hi m7
          rw [HNP.out]
          have P7 := Lib.hid hi
          clear hv hv1 hi
          have LA7 := Lib.hid (LA6.out.next hu)
          have LB7 := Lib.hid (LB6.out.next hu)
          have CA7 := Lib.hid (CA6.out.next hu)
          have X7 := Lib.hid (X6.out.next hu)
          have CB7 := Lib.hid (CB6.out.next hu)
          have Y7 := Lib.hid (Y6.out.next hu)
          have HU7 := Lib.hid (HU6.out.trans hu)
          clear hu HU6 LA6 LB6 CA6 X6 CB6 Y6
          obtain ⟨gx', ox', hgx, _, hc1⟩ := X7.out.cell hxl.out
          obtain ⟨rfl, rfl⟩ : gx = gx' ∧ ox = ox' := by simpa using hgx
          clear hgx
          have cx : v7.cell? ⟨gx, ox, none⟩ = some (.int .i64 (s : Int)) := by have := hc1 0 hxl.out; rw [HXE.out] at this; exact this
          clear hc1
          obtain ⟨gy, oy, rfl, _, hy⟩ := Y7.out.cell hyl.out
          have cy : v7.cell? ⟨gy, oy, none⟩ = some (.int .i64 (t : Int)) := by have := hy 0 hyl.out; rw [HYE.out] at this; exact this
          clear hy
          obtain ⟨gp, op, rfl, _, hp⟩ := P7.out.cell hpl.out
          have cp : v7.cell? ⟨gp, op, none⟩ = some (.int .i64 (((s + t : Nat) : Int) : Int)) := by have := hp 0 hpl.out; rw [HPE.out] at this; exact this
          clear hp
          have hxp := hxl.out
          have hyp := hyl.out
          have hpp := hpl.out
          have tw : IntKind.i64.wrap ((s : Int) + (t : Int)) = (s : Int) + (t : Int) := IntWalk.i64_in _ (by have := HST.out; omega)
          have te : (((s + t : Nat) : Int) == (s : Int) + (t : Int)) = true := beq_iff_eq.2 (by omega)
          go_wp2_with fail
          go_quiet (fail)
          go_wp2_with fail
          go_ret
          exact ⟨rfl, upd_ends (HU7.out.drewN _)⟩
        · have hst2 : 16384 < s + t := by omega
          have HST := Lib.hid hst2
          clear hy ht hy1 hy2 hye hst hst2
          go_enter Try.func5, Try.ntmps5
          go_wp2_with fail
          refine (speaks2_any _).mono ?_
          rintro e v1 ⟨rfl, hu⟩
          have LA1 := Lib.hid (LA0.out.next hu)
          have LB1 := Lib.hid (LB0.out.next hu)
          have HU1 := Lib.hid (HU0.out.trans hu)
          clear hu HU0 LA0 LB0
          go_wp2_with fail
          refine (copied_any a0 len0 cap0 _ x0 _ LA1.out (Nat.le_refl _) (by omega)).mono ?_
          rintro e v2 ⟨r2, rfl, ho, hu⟩
          obtain ⟨p2, c2, rfl, hi, m2, _⟩ := own_ints ho
          have CA2 := Lib.hid hi
          clear ho hi
          have LA2 := Lib.hid (LA1.out.next hu)
          have LB2 := Lib.hid (LB1.out.next hu)
          have HU2 := Lib.hid (HU1.out.trans hu)
          clear hu HU1 LA1 LB1
          go_wp2_with fail
          refine (of_any p2 len0 c2 _ x0 _ CA2.out (Nat.le_refl _) m2).mono ?_
          rintro e v3 ⟨r3, rfl, hv, hu⟩
          have hv1 := hv.1
          obtain ⟨p3, c3, rfl, hi, m3, _⟩ := own_ints hv1
          rw [HNX.out] at hi m3
          rw [HNX.out]
          have X3 := Lib.hid hi
          clear hv hv1 hi
          have LA3 := Lib.hid (LA2.out.next hu)
          have LB3 := Lib.hid (LB2.out.next hu)
          have CA3 := Lib.hid (CA2.out.next hu)
          have HU3 := Lib.hid (HU2.out.trans hu)
          clear hu HU2 LA2 LB2 CA2
          go_wp2_with fail
          refine (copied_any a1 len1 cap1 _ x1 _ LB3.out (Nat.le_refl _) (by omega)).mono ?_
          rintro e v4 ⟨r4, rfl, ho, hu⟩
          obtain ⟨p4, c4, rfl, hi, m4, _⟩ := own_ints ho
          have CB4 := Lib.hid hi
          clear ho hi
          have LA4 := Lib.hid (LA3.out.next hu)
          have LB4 := Lib.hid (LB3.out.next hu)
          have CA4 := Lib.hid (CA3.out.next hu)
          have X4 := Lib.hid (X3.out.next hu)
          have HU4 := Lib.hid (HU3.out.trans hu)
          clear hu HU3 LA3 LB3 CA3 X3
          go_wp2_with fail
          refine (of_any p4 len1 c4 _ x1 _ CB4.out (Nat.le_refl _) m4).mono ?_
          rintro e v5 ⟨r5, rfl, hv, hu⟩
          have hv1 := hv.1
          obtain ⟨p5, c5, rfl, hi, m5, _⟩ := own_ints hv1
          rw [HNY.out] at hi m5
          rw [HNY.out]
          have Y5 := Lib.hid hi
          clear hv hv1 hi
          have LA5 := Lib.hid (LA4.out.next hu)
          have LB5 := Lib.hid (LB4.out.next hu)
          have CA5 := Lib.hid (CA4.out.next hu)
          have X5 := Lib.hid (X4.out.next hu)
          have CB5 := Lib.hid (CB4.out.next hu)
          have HU5 := Lib.hid (HU4.out.trans hu)
          clear hu HU4 LA4 LB4 CA4 X4 CB4
          go_wp2_with fail
          refine (pmul_big p3 nx c3 _ (exps (gat x0)) p3 nx c3 _ (exps (gat x0)) _ X5.out (Nat.le_refl _) m3 X5.out (Nat.le_refl _) m3 s s HX1.out HX2.out HX1.out HX2.out HS.out HS.out HBIG.out).mono ?_
          rintro e v6 ⟨rfl, hu⟩
          have LA6 := Lib.hid (LA5.out.next hu)
          have LB6 := Lib.hid (LB5.out.next hu)
          have CA6 := Lib.hid (CA5.out.next hu)
          have X6 := Lib.hid (X5.out.next hu)
          have CB6 := Lib.hid (CB5.out.next hu)
          have Y6 := Lib.hid (Y5.out.next hu)
          have HU6 := Lib.hid (HU5.out.trans hu)
          clear hu HU5 LA5 LB5 CA5 X5 CB5 Y5
          obtain ⟨gx, ox, rfl, _, hx⟩ := X6.out.cell hxl.out
          have cx : v6.cell? ⟨gx, ox, none⟩ = some (.int .i64 (s : Int)) := by have := hx 0 hxl.out; rw [HXE.out] at this; exact this
          clear hx
          have hxp := hxl.out
          go_wp2_with fail
          clear cx hxp
          refine wp_loop_rounds 1 ?_
          rw [rounds_succ]
          go_wp2_with fail
          refine (pmul_big (some ⟨gx, ox, none⟩) nx c3 _ (exps (gat x0)) p5 ny c5 _ (exps (gat x1)) _ X6.out (Nat.le_refl _) m3 Y6.out (Nat.le_refl _) m5 s t HX1.out HX2.out HY1.out HY2.out HS.out HT.out HST.out).mono ?_
          rintro e v7 ⟨rfl, hu⟩
          have LA7 := Lib.hid (LA6.out.next hu)
          have LB7 := Lib.hid (LB6.out.next hu)
          have CA7 := Lib.hid (CA6.out.next hu)
          have X7 := Lib.hid (X6.out.next hu)
          have CB7 := Lib.hid (CB6.out.next hu)
          have Y7 := Lib.hid (Y6.out.next hu)
          have HU7 := Lib.hid (HU6.out.trans hu)
          clear hu HU6 LA6 LB6 CA6 X6 CB6 Y6
          go_wp2_with fail
          go_quiet (fail)
          go_wp2_with fail
          go_ret
          exact ⟨rfl, upd_ends (HU7.out.drewN _)⟩
end Go.Proofs.Ytcmcjojjphhffaa
