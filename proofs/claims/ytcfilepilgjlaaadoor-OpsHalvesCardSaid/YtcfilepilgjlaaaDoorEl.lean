/- OpsWrites. -/
import Derived.Test.YtcfilepilgjlaaaDoorEk
namespace Go.Proofs.YtcfilepilgjlaaaDoor
open Go.RowKit

/-- the walks here ask nothing of what is laid -/
theorem of_laid {P : Program} {l : List (String × DataW Unit)} {W : World} (_ : laidMetH P l W) : True := trivial
theorem strParts8 : ∃ i0, Tryd.prog.info? 9 = some i0 ∧ i0.zero = some (.string ⟨#[]⟩) ∧ i0.size = 1 ∧ i0.bytes = 16 := by
  obtain ⟨i0, h1, h2, h3, h4⟩ := info_parts strInfo8
  exact ⟨i0, h1, h2, h3, h4⟩
theorem goodK_piece (nm p : Int) (h1 : 0 ≤ nm) (h2 : nm ≤ 1099511627776) (h3 : 0 ≤ p) (h4 : p ≤ 4294967295) : goodK nm 3 [] p = true := by
  unfold goodK restOk okN
  simp [h1, h2, h3, h4]
theorem difL_bounds (F : Int) (f1 f2 : Nat → UInt8) (M k : Nat) (h : k < (difL F f1 f2 M).length) : F ≤ (difL F f1 f2 M)[k].1 ∧ (difL F f1 f2 M)[k].1 ≤ F + (M : Int) ∧ (difL F f1 f2 M)[k].2.length ≤ 64 := by
  have hm := List.getElem_mem h
  obtain ⟨p, hp, e⟩ := List.mem_map.1 (show (difL F f1 f2 M)[k] ∈ List.map _ _ from hm)
  have hp2 := List.mem_range.1 (List.mem_filter.1 hp).1
  rw [← e]
  exact ⟨by show F ≤ F + (p : Int); omega, by show F + (p : Int) ≤ _; omega, tx_len _ _⟩
theorem wrL_good (nm o : Int) (d : List UInt8) (Ss : List ByteArray) (h1 : 0 ≤ nm) (h2 : nm ≤ 1099511627776) : GoodL nm (wrL o d Ss) ∧ (wrL o d Ss).length ≤ 512 := by
  unfold wrL
  split
  · rename_i h
    obtain ⟨⟨a1, a2, a3⟩, _⟩ := h
    have hp := pcs_eq (o + (d.length : Int))
    refine ⟨fun k hk => ?_, Nat.le_trans (difL_len _ _ _ _) (by omega)⟩
    obtain ⟨b1, b2, b3⟩ := difL_bounds _ _ _ _ k hk
    exact ⟨goodK_piece _ _ h1 h2 (by omega) (by omega), b3⟩
  · exact ⟨fun k hk => absurd hk (Nat.not_lt_zero k), by simp⟩
theorem own_row8 {w : World} {base e n : Nat} {v : Value} {vs : List Value} (h : w.ownsRow base e 1 v n vs) :
    ∃ a c, v = .slice a n c ∧ n ≤ c ∧ Row1 w w.heap.size a n vs := by
  obtain ⟨a, c, rfl, hr, _, _⟩ := own_row1 h
  refine ⟨a, c, rfl, ?_, hr⟩
  rcases h.2 with ⟨h1, h2⟩ | ⟨g, cap, cur, h1, _, _, hnc, _⟩
  · omega
  · cases h1; exact hnc
set_option maxRecDepth 100000 in
set_option maxHeartbeats 3200000 in
theorem opsWrites_upd (a0 a1 a2 : Int) (s : ByteArray) (a : Option Addr) (n0 c : Nat) (Ss : List ByteArray) (w : World) (wf2 : (Lit.int .i64 a2).wf = true) (hs : s.size ≤ 140737488351232) (hr : Strs w w.heap.size a n0 Ss) (hn : n0 ≤ 8796093021952) :
    Calls Tryd.prog 3 #[.agg #[.int .i64 a0, .int .i64 a1, .int .i64 a2], .string s, .slice a n0 c] w fun e w' => e = .returned (.bool true) ∧ Upd noBlock w w' := by
  obtain ⟨i0, hi0, hz0, hz1, hz2⟩ := strParts8
  have HSTR := Lib.hid hr
  have HN := Lib.hid hn
  have hb2 : -9223372036854775808 ≤ a2 ∧ a2 ≤ 9223372036854775807 := by
    obtain ⟨s1, s2⟩ := (Lit.wf_int_iff .i64 a2).1 wf2
    exact ⟨s1, s2⟩
  obtain ⟨d, hsd⟩ : ∃ d : List UInt8, (⟨d.toArray⟩ : ByteArray) = s := ⟨s.data.toList, rfl⟩
  have hdl : d.length = s.size := by rw [← hsd]; rfl
  obtain ⟨wa, hwa⟩ : ∃ W : World, W = w.alloc (.cells #[.int .i64 a0, .int .i64 a1, .int .i64 a2] 22) := ⟨_, rfl⟩
  have ha : wa.heap[w.heap.size]? = some (.cells #[.int .i64 a0, .int .i64 a1, .int .i64 a2] 22 (0, 0)) := by rw [hwa]; exact heap_alloc_new w _
  have ua : Upd noBlock w wa := by rw [hwa]; exact (Upd.refl _ _).alloc _
  have HBK : Hid (∀ W, Upd noBlock wa W → W.heap[w.heap.size]? = some (.cells #[.int .i64 a0, .int .i64 a1, .int .i64 a2] 22 (0, 0)) ∧ Upd noBlock w W) := fun W hu =>
    ⟨(hu.block _ (lt_of_block ha) (fun h => h)).trans ha, ua.trans hu⟩
  have HWA := Lib.hid hwa
  have hcase : (0 ≤ a0 ∧ a0 ≤ 1099511627776) ∨ a0 < 0 ∨ (0 ≤ a0 ∧ 1099511627776 < a0) := by omega
  have hspan : (0 ≤ a2 ∧ 1 ≤ (s.size : Int) ∧ a2 ≤ 8192 ∧ (s.size : Int) ≤ 8192) ∨ a2 < 0 ∨ (0 ≤ a2 ∧ (s.size : Int) < 1) ∨ (0 ≤ a2 ∧ 1 ≤ (s.size : Int) ∧ 8192 < a2) ∨ (0 ≤ a2 ∧ 1 ≤ (s.size : Int) ∧ a2 ≤ 8192 ∧ 8192 < (s.size : Int)) := by omega
  have HSPAN := Lib.hid hspan
  obtain ⟨S1, hS1⟩ : ∃ x, (spanA a2 (s.size : Int)).1 = x := ⟨_, rfl⟩
  obtain ⟨S2, hS2⟩ : ∃ x, (spanA a2 (s.size : Int)).2 = x := ⟨_, rfl⟩
  have HS1 := Lib.hid hS1
  have HS2 := Lib.hid hS2
  have HSD := Lib.hid hsd
  have HDL := Lib.hid hdl
  clear hr ha ua hwa hspan hsd wf2 hn hdl hS1 hS2
  rcases hcase with ⟨b1, b2⟩ | b1 | ⟨b1, b2⟩
  · go_enter Tryd.func3, Tryd.ntmps3
    go_upto_region 5 with (go_at_call 7; refine (speaksE_any _).mono ?_; rintro e w1 ⟨rfl, u1⟩; rw [← HWA.out] at u1; (obtain ⟨xb, xu⟩ := HBK.out w1 u1); have x0 := cell_of xb 0; have x1 := cell_of xb 1; have xf := free_of xb; have HW1 := Lib.hid xu; have HXB := Lib.hid xb; clear u1 xu xb)
    have hx : Upd noBlock w w1 ∧ w1.heap[w.heap.size]? = some (.cells #[.int .i64 a0, .int .i64 a1, .int .i64 a2] 22 (0, 0)) := ⟨HW1.out, HXB.out⟩
    obtain ⟨wx, hwx⟩ : ∃ wx, wx = w1 := ⟨_, rfl⟩
    rw [← hwx] at hx ⊢
    clear hwx
    have HX : Hid (∀ W, Upd noBlock wx W → W.cell? ⟨w.heap.size, 0, none⟩ = some (.int .i64 a0) ∧ W.cell? ⟨w.heap.size, 1, none⟩ = some (.int .i64 a1) ∧ W.cell? ⟨w.heap.size, 2, none⟩ = some (.int .i64 a2) ∧ Upd noBlock w W) := fun W hu =>
      have hb := (hu.block _ (lt_of_block hx.2) (fun h => h)).trans hx.2
      ⟨cell_of hb 0, cell_of hb 1, cell_of hb 2, hx.1.trans hu⟩
    have O1 := Lib.hid (OwnS.empty wx 9)
    have R1 := Lib.hid (HSTR.out.row.grow (hx.1.trans ((Upd.refl noBlock wx).alloc (.cells #[] 9))) (Nat.le_refl _))
    have HQQ : Hid (0 ≤ (a0 : Int) ∧ (a0 : Int) ≤ 1099511627776) := by show _ ∧ _; omega
    clear hx
    go_upto_region 9 with (first
      | (at_builtin; go_loud (refine wpList_append_vals _ rfl (.tmp 28) (.tmp 29) _ rfl wx.heap.size 9 i0 _ 16 Tryd.underlying23 hi0 hz0 hz1 hz2 rfl _ 0 [] rfl O1.out w.heap.size a n0 c (Ss.map Value.string) rfl R1.out (strs_one Ss) (by have := HN.out; simp only [maxLen]; omega) (by have := HN.out; omega) (by simp) ?_; intro v3 w3 hown3 hg3 h33; clear h33; simp only [Nat.zero_add, List.nil_append] at hown3; have u3 := upd_of_grown ((Upd.refl noBlock wx).alloc (.cells #[] 9)) hg3 (fun k hk => .inr (own_base8 O1.out k hk).1); obtain ⟨a3, c3, rfl, hc3, r3⟩ := own_row8 hown3; have S3 := Lib.hid (Strs.mk r3 HSTR.out.fit); have HWc := Write_any a0 a1 a2 d a3 n0 c3 _ Ss w3 S3.out (Nat.le_refl _) hc3 (by have := HDL.out; omega); rw [HSD.out] at HWc; have HWC := Lib.hid HWc; (obtain ⟨y0, y1, y2, yu⟩ := HX.out w3 u3); have U3 := Lib.hid u3; clear u3 hown3 hg3 r3 HWc yu))
      | (go_at_call 8; (with_reducible refine HWC.out.mono ?_); rintro e w4 ⟨v4, rfl, k4⟩; have K4 := Lib.hid k4; (obtain ⟨z0, z1, z2, zu⟩ := HX.out w4 (U3.out.trans k4.up)); have HRc := refWrite_any a0 a1 a2 d a n0 c w.heap.size Ss w4 (HSTR.out.grow zu (Nat.le_refl _)) zu.size (by have := HDL.out; omega) hb2.2 hb2.1; rw [HSD.out] at HRc; have HRC := Lib.hid HRc; clear HRc zu k4)
      | (go_at_call 9; (with_reducible refine HRC.out.mono ?_); rintro e w5 ⟨v5, rfl, k5⟩; have K5 := Lib.hid k5; (obtain ⟨q0, q1, q2, qu⟩ := HX.out w5 ((U3.out.trans K4.out.up).trans k5.up)); have U5 := Lib.hid qu; have HSp := Span_any a2 (s.size : Int) w5; rw [HS1.out, HS2.out] at HSp; have HSP := Lib.hid HSp; clear qu k5 HSp)
      | (go_at_call 10; (with_reducible refine HSP.out.mono ?_); rintro e w6 ⟨rfl, h6⟩; obtain rfl := h6))
    have UA := Lib.hid (U3.out.trans (K4.out.up.trans K5.out.up))
    have SA := Lib.hid (S3.out.grow (K4.out.up.trans K5.out.up) (Nat.le_refl _))
    have SB := Lib.hid (HSTR.out.grow U5.out (Nat.le_refl _))
    have hfacts : (0 ≤ a2 ∧ 1 ≤ (s.size : Int) ∧ a2 ≤ 8192 ∧ (s.size : Int) ≤ 8192 ∧ S1 = a2 / 64 ∧ S2 = (a2 + (s.size : Int) + 63) / 64) ∨ ((a2 < 0 ∨ (0 ≤ a2 ∧ (s.size : Int) < 1) ∨ (0 ≤ a2 ∧ 1 ≤ (s.size : Int) ∧ 8192 < a2) ∨ (0 ≤ a2 ∧ 1 ≤ (s.size : Int) ∧ a2 ≤ 8192 ∧ 8192 < (s.size : Int))) ∧ S1 = 0 ∧ S2 = 0) := by
      have h1 := HS1.out
      have h2 := HS2.out
      unfold spanA at h1 h2
      rcases HSPAN.out with h | h
      · have h' : spanOk a2 (s.size : Int) := h
        rw [if_pos h'] at h1 h2
        refine .inl ⟨h.1, h.2.1, h.2.2.1, h.2.2.2, ?_, ?_⟩
        · exact h1.symm
        · rw [← pcs_eq]; exact h2.symm
      · rw [if_neg (by unfold spanOk; omega)] at h1 h2
        exact .inr ⟨h, h1.symm, h2.symm⟩
    clear HS1 HS2 HSPAN HSP y0 y1 y2 z0 z1 z2 HX
    rcases hfacts with ⟨p1, p2, p3, p4, rfl, rfl⟩ | ⟨p1 | ⟨p1, p2⟩ | ⟨p1, p2, p3⟩ | ⟨p1, p2, p3, p4⟩, rfl, rfl⟩
    all_goals
      clear HWA HBK HSD HDL U3 HWC HRC
      go_wp2
      go_loopw [16] (fun i wr => ∃ k : Nat, k ≤ n0 ∧ i = .int .i64 (k : Int) ∧ Hid (Upd noBlock w6 wr)) (fun i _ => n0 - (intOf i).toNat)
      case atStart => exact ⟨0, Nat.zero_le _, rfl, Upd.refl _ _⟩
      case round =>
        obtain ⟨k, hk, rfl, HU⟩ := hrel
        by_cases h0 : k < n0
        · obtain ⟨b, off, hab, hb, hc⟩ := SA.out.cell (by omega)
          obtain ⟨b', off', hab', hb', hc'⟩ := SB.out.cell (by omega)
          subst hab hab'
          obtain ⟨st, hst⟩ : ∃ st, Ss.getD k ⟨#[]⟩ = st := ⟨_, rfl⟩
          have cc := upd_cell HU.out (hc k h0)
          have cc' := upd_cell HU.out (hc' k h0)
          rw [hst] at cc cc'
          have hn2 := HN.out
          clear hc hc' hst
          go_wp2
          go_quiet (fail)
          go_wp2
          go_roundw
          case rel => exact ⟨k + 1, by omega, by go_num, HU.out.drewN _⟩
          case measure => simp [intOf] <;> omega
        · obtain rfl : k = n0 := by omega
          have HG := wrL_good a0 a2 d Ss HQQ.out.1 HQQ.out.2
          have HSM := Lib.hid (same_any a0 _ v4 v5 _ _ wr ((K4.out.grow K5.out.up).grow HU.out) (K5.out.grow HU.out) HG.1 (by have := HG.2; omega))
          clear HG
          go_wp2_with (go_at_call 11; (with_reducible refine HSM.out.mono ?_); rintro e w7 ⟨rfl, u7⟩; have U7 := Lib.hid (U5.out.trans (HU.out.trans u7)); clear u7)
          go_ret
          exact ⟨rfl, U7.out⟩
  · go_enter Tryd.func3, Tryd.ntmps3
    go_upto_region 5 with (go_at_call 7; refine (speaksE_any _).mono ?_; rintro e w1 ⟨rfl, u1⟩; rw [← HWA.out] at u1; (obtain ⟨xb, xu⟩ := HBK.out w1 u1); have x0 := cell_of xb 0; have x1 := cell_of xb 1; have xf := free_of xb; have HW1 := Lib.hid xu; have HXB := Lib.hid xb; clear u1 xu xb)
    have hx : Upd noBlock w (w1.setCell ⟨w.heap.size, 0, none⟩ (.int .i64 3)) ∧ (w1.setCell ⟨w.heap.size, 0, none⟩ (.int .i64 3)).heap[w.heap.size]? = some (.cells #[.int .i64 3, .int .i64 a1, .int .i64 a2] 22 (0, 0)) := ⟨HW1.out.setCell (.inr (Nat.le_refl _)) _, block_set HXB.out _⟩
    generalize w1.setCell ⟨w.heap.size, 0, none⟩ (.int .i64 3) = wx at *
    have HX : Hid (∀ W, Upd noBlock wx W → W.cell? ⟨w.heap.size, 0, none⟩ = some (.int .i64 3) ∧ W.cell? ⟨w.heap.size, 1, none⟩ = some (.int .i64 a1) ∧ W.cell? ⟨w.heap.size, 2, none⟩ = some (.int .i64 a2) ∧ Upd noBlock w W) := fun W hu =>
      have hb := (hu.block _ (lt_of_block hx.2) (fun h => h)).trans hx.2
      ⟨cell_of hb 0, cell_of hb 1, cell_of hb 2, hx.1.trans hu⟩
    have O1 := Lib.hid (OwnS.empty wx 9)
    have R1 := Lib.hid (HSTR.out.row.grow (hx.1.trans ((Upd.refl noBlock wx).alloc (.cells #[] 9))) (Nat.le_refl _))
    have HQQ : Hid (0 ≤ (3 : Int) ∧ (3 : Int) ≤ 1099511627776) := by show _ ∧ _; omega
    clear hx
    go_upto_region 9 with (first
      | (at_builtin; go_loud (refine wpList_append_vals _ rfl (.tmp 28) (.tmp 29) _ rfl wx.heap.size 9 i0 _ 16 Tryd.underlying23 hi0 hz0 hz1 hz2 rfl _ 0 [] rfl O1.out w.heap.size a n0 c (Ss.map Value.string) rfl R1.out (strs_one Ss) (by have := HN.out; simp only [maxLen]; omega) (by have := HN.out; omega) (by simp) ?_; intro v3 w3 hown3 hg3 h33; clear h33; simp only [Nat.zero_add, List.nil_append] at hown3; have u3 := upd_of_grown ((Upd.refl noBlock wx).alloc (.cells #[] 9)) hg3 (fun k hk => .inr (own_base8 O1.out k hk).1); obtain ⟨a3, c3, rfl, hc3, r3⟩ := own_row8 hown3; have S3 := Lib.hid (Strs.mk r3 HSTR.out.fit); have HWc := Write_any 3 a1 a2 d a3 n0 c3 _ Ss w3 S3.out (Nat.le_refl _) hc3 (by have := HDL.out; omega); rw [HSD.out] at HWc; have HWC := Lib.hid HWc; (obtain ⟨y0, y1, y2, yu⟩ := HX.out w3 u3); have U3 := Lib.hid u3; clear u3 hown3 hg3 r3 HWc yu))
      | (go_at_call 8; (with_reducible refine HWC.out.mono ?_); rintro e w4 ⟨v4, rfl, k4⟩; have K4 := Lib.hid k4; (obtain ⟨z0, z1, z2, zu⟩ := HX.out w4 (U3.out.trans k4.up)); have HRc := refWrite_any 3 a1 a2 d a n0 c w.heap.size Ss w4 (HSTR.out.grow zu (Nat.le_refl _)) zu.size (by have := HDL.out; omega) hb2.2 hb2.1; rw [HSD.out] at HRc; have HRC := Lib.hid HRc; clear HRc zu k4)
      | (go_at_call 9; (with_reducible refine HRC.out.mono ?_); rintro e w5 ⟨v5, rfl, k5⟩; have K5 := Lib.hid k5; (obtain ⟨q0, q1, q2, qu⟩ := HX.out w5 ((U3.out.trans K4.out.up).trans k5.up)); have U5 := Lib.hid qu; have HSp := Span_any a2 (s.size : Int) w5; rw [HS1.out, HS2.out] at HSp; have HSP := Lib.hid HSp; clear qu k5 HSp)
      | (go_at_call 10; (with_reducible refine HSP.out.mono ?_); rintro e w6 ⟨rfl, h6⟩; obtain rfl := h6))
    have UA := Lib.hid (U3.out.trans (K4.out.up.trans K5.out.up))
    have SA := Lib.hid (S3.out.grow (K4.out.up.trans K5.out.up) (Nat.le_refl _))
    have SB := Lib.hid (HSTR.out.grow U5.out (Nat.le_refl _))
    have hfacts : (0 ≤ a2 ∧ 1 ≤ (s.size : Int) ∧ a2 ≤ 8192 ∧ (s.size : Int) ≤ 8192 ∧ S1 = a2 / 64 ∧ S2 = (a2 + (s.size : Int) + 63) / 64) ∨ ((a2 < 0 ∨ (0 ≤ a2 ∧ (s.size : Int) < 1) ∨ (0 ≤ a2 ∧ 1 ≤ (s.size : Int) ∧ 8192 < a2) ∨ (0 ≤ a2 ∧ 1 ≤ (s.size : Int) ∧ a2 ≤ 8192 ∧ 8192 < (s.size : Int))) ∧ S1 = 0 ∧ S2 = 0) := by
      have h1 := HS1.out
      have h2 := HS2.out
      unfold spanA at h1 h2
      rcases HSPAN.out with h | h
      · have h' : spanOk a2 (s.size : Int) := h
        rw [if_pos h'] at h1 h2
        refine .inl ⟨h.1, h.2.1, h.2.2.1, h.2.2.2, ?_, ?_⟩
        · exact h1.symm
        · rw [← pcs_eq]; exact h2.symm
      · rw [if_neg (by unfold spanOk; omega)] at h1 h2
        exact .inr ⟨h, h1.symm, h2.symm⟩
    clear HS1 HS2 HSPAN HSP y0 y1 y2 z0 z1 z2 HX
    rcases hfacts with ⟨p1, p2, p3, p4, rfl, rfl⟩ | ⟨p1 | ⟨p1, p2⟩ | ⟨p1, p2, p3⟩ | ⟨p1, p2, p3, p4⟩, rfl, rfl⟩
    all_goals
      clear HWA HBK HSD HDL U3 HWC HRC
      go_wp2
      go_loopw [16] (fun i wr => ∃ k : Nat, k ≤ n0 ∧ i = .int .i64 (k : Int) ∧ Hid (Upd noBlock w6 wr)) (fun i _ => n0 - (intOf i).toNat)
      case atStart => exact ⟨0, Nat.zero_le _, rfl, Upd.refl _ _⟩
      case round =>
        obtain ⟨k, hk, rfl, HU⟩ := hrel
        by_cases h0 : k < n0
        · obtain ⟨b, off, hab, hb, hc⟩ := SA.out.cell (by omega)
          obtain ⟨b', off', hab', hb', hc'⟩ := SB.out.cell (by omega)
          subst hab hab'
          obtain ⟨st, hst⟩ : ∃ st, Ss.getD k ⟨#[]⟩ = st := ⟨_, rfl⟩
          have cc := upd_cell HU.out (hc k h0)
          have cc' := upd_cell HU.out (hc' k h0)
          rw [hst] at cc cc'
          have hn2 := HN.out
          clear hc hc' hst
          go_wp2
          go_quiet (fail)
          go_wp2
          go_roundw
          case rel => exact ⟨k + 1, by omega, by go_num, HU.out.drewN _⟩
          case measure => simp [intOf] <;> omega
        · obtain rfl : k = n0 := by omega
          have HG := wrL_good 3 a2 d Ss HQQ.out.1 HQQ.out.2
          have HSM := Lib.hid (same_any 3 _ v4 v5 _ _ wr ((K4.out.grow K5.out.up).grow HU.out) (K5.out.grow HU.out) HG.1 (by have := HG.2; omega))
          clear HG
          go_wp2_with (go_at_call 11; (with_reducible refine HSM.out.mono ?_); rintro e w7 ⟨rfl, u7⟩; have U7 := Lib.hid (U5.out.trans (HU.out.trans u7)); clear u7)
          go_ret
          exact ⟨rfl, U7.out⟩
  · go_enter Tryd.func3, Tryd.ntmps3
    go_upto_region 5 with (go_at_call 7; refine (speaksE_any _).mono ?_; rintro e w1 ⟨rfl, u1⟩; rw [← HWA.out] at u1; (obtain ⟨xb, xu⟩ := HBK.out w1 u1); have x0 := cell_of xb 0; have x1 := cell_of xb 1; have xf := free_of xb; have HW1 := Lib.hid xu; have HXB := Lib.hid xb; clear u1 xu xb)
    have hx : Upd noBlock w (w1.setCell ⟨w.heap.size, 0, none⟩ (.int .i64 3)) ∧ (w1.setCell ⟨w.heap.size, 0, none⟩ (.int .i64 3)).heap[w.heap.size]? = some (.cells #[.int .i64 3, .int .i64 a1, .int .i64 a2] 22 (0, 0)) := ⟨HW1.out.setCell (.inr (Nat.le_refl _)) _, block_set HXB.out _⟩
    generalize w1.setCell ⟨w.heap.size, 0, none⟩ (.int .i64 3) = wx at *
    have HX : Hid (∀ W, Upd noBlock wx W → W.cell? ⟨w.heap.size, 0, none⟩ = some (.int .i64 3) ∧ W.cell? ⟨w.heap.size, 1, none⟩ = some (.int .i64 a1) ∧ W.cell? ⟨w.heap.size, 2, none⟩ = some (.int .i64 a2) ∧ Upd noBlock w W) := fun W hu =>
      have hb := (hu.block _ (lt_of_block hx.2) (fun h => h)).trans hx.2
      ⟨cell_of hb 0, cell_of hb 1, cell_of hb 2, hx.1.trans hu⟩
    have O1 := Lib.hid (OwnS.empty wx 9)
    have R1 := Lib.hid (HSTR.out.row.grow (hx.1.trans ((Upd.refl noBlock wx).alloc (.cells #[] 9))) (Nat.le_refl _))
    have HQQ : Hid (0 ≤ (3 : Int) ∧ (3 : Int) ≤ 1099511627776) := by show _ ∧ _; omega
    clear hx
    go_upto_region 9 with (first
      | (at_builtin; go_loud (refine wpList_append_vals _ rfl (.tmp 28) (.tmp 29) _ rfl wx.heap.size 9 i0 _ 16 Tryd.underlying23 hi0 hz0 hz1 hz2 rfl _ 0 [] rfl O1.out w.heap.size a n0 c (Ss.map Value.string) rfl R1.out (strs_one Ss) (by have := HN.out; simp only [maxLen]; omega) (by have := HN.out; omega) (by simp) ?_; intro v3 w3 hown3 hg3 h33; clear h33; simp only [Nat.zero_add, List.nil_append] at hown3; have u3 := upd_of_grown ((Upd.refl noBlock wx).alloc (.cells #[] 9)) hg3 (fun k hk => .inr (own_base8 O1.out k hk).1); obtain ⟨a3, c3, rfl, hc3, r3⟩ := own_row8 hown3; have S3 := Lib.hid (Strs.mk r3 HSTR.out.fit); have HWc := Write_any 3 a1 a2 d a3 n0 c3 _ Ss w3 S3.out (Nat.le_refl _) hc3 (by have := HDL.out; omega); rw [HSD.out] at HWc; have HWC := Lib.hid HWc; (obtain ⟨y0, y1, y2, yu⟩ := HX.out w3 u3); have U3 := Lib.hid u3; clear u3 hown3 hg3 r3 HWc yu))
      | (go_at_call 8; (with_reducible refine HWC.out.mono ?_); rintro e w4 ⟨v4, rfl, k4⟩; have K4 := Lib.hid k4; (obtain ⟨z0, z1, z2, zu⟩ := HX.out w4 (U3.out.trans k4.up)); have HRc := refWrite_any 3 a1 a2 d a n0 c w.heap.size Ss w4 (HSTR.out.grow zu (Nat.le_refl _)) zu.size (by have := HDL.out; omega) hb2.2 hb2.1; rw [HSD.out] at HRc; have HRC := Lib.hid HRc; clear HRc zu k4)
      | (go_at_call 9; (with_reducible refine HRC.out.mono ?_); rintro e w5 ⟨v5, rfl, k5⟩; have K5 := Lib.hid k5; (obtain ⟨q0, q1, q2, qu⟩ := HX.out w5 ((U3.out.trans K4.out.up).trans k5.up)); have U5 := Lib.hid qu; have HSp := Span_any a2 (s.size : Int) w5; rw [HS1.out, HS2.out] at HSp; have HSP := Lib.hid HSp; clear qu k5 HSp)
      | (go_at_call 10; (with_reducible refine HSP.out.mono ?_); rintro e w6 ⟨rfl, h6⟩; obtain rfl := h6))
    have UA := Lib.hid (U3.out.trans (K4.out.up.trans K5.out.up))
    have SA := Lib.hid (S3.out.grow (K4.out.up.trans K5.out.up) (Nat.le_refl _))
    have SB := Lib.hid (HSTR.out.grow U5.out (Nat.le_refl _))
    have hfacts : (0 ≤ a2 ∧ 1 ≤ (s.size : Int) ∧ a2 ≤ 8192 ∧ (s.size : Int) ≤ 8192 ∧ S1 = a2 / 64 ∧ S2 = (a2 + (s.size : Int) + 63) / 64) ∨ ((a2 < 0 ∨ (0 ≤ a2 ∧ (s.size : Int) < 1) ∨ (0 ≤ a2 ∧ 1 ≤ (s.size : Int) ∧ 8192 < a2) ∨ (0 ≤ a2 ∧ 1 ≤ (s.size : Int) ∧ a2 ≤ 8192 ∧ 8192 < (s.size : Int))) ∧ S1 = 0 ∧ S2 = 0) := by
      have h1 := HS1.out
      have h2 := HS2.out
      unfold spanA at h1 h2
      rcases HSPAN.out with h | h
      · have h' : spanOk a2 (s.size : Int) := h
        rw [if_pos h'] at h1 h2
        refine .inl ⟨h.1, h.2.1, h.2.2.1, h.2.2.2, ?_, ?_⟩
        · exact h1.symm
        · rw [← pcs_eq]; exact h2.symm
      · rw [if_neg (by unfold spanOk; omega)] at h1 h2
        exact .inr ⟨h, h1.symm, h2.symm⟩
    clear HS1 HS2 HSPAN HSP y0 y1 y2 z0 z1 z2 HX
    rcases hfacts with ⟨p1, p2, p3, p4, rfl, rfl⟩ | ⟨p1 | ⟨p1, p2⟩ | ⟨p1, p2, p3⟩ | ⟨p1, p2, p3, p4⟩, rfl, rfl⟩
    all_goals
      clear HWA HBK HSD HDL U3 HWC HRC
      go_wp2
      go_loopw [16] (fun i wr => ∃ k : Nat, k ≤ n0 ∧ i = .int .i64 (k : Int) ∧ Hid (Upd noBlock w6 wr)) (fun i _ => n0 - (intOf i).toNat)
      case atStart => exact ⟨0, Nat.zero_le _, rfl, Upd.refl _ _⟩
      case round =>
        obtain ⟨k, hk, rfl, HU⟩ := hrel
        by_cases h0 : k < n0
        · obtain ⟨b, off, hab, hb, hc⟩ := SA.out.cell (by omega)
          obtain ⟨b', off', hab', hb', hc'⟩ := SB.out.cell (by omega)
          subst hab hab'
          obtain ⟨st, hst⟩ : ∃ st, Ss.getD k ⟨#[]⟩ = st := ⟨_, rfl⟩
          have cc := upd_cell HU.out (hc k h0)
          have cc' := upd_cell HU.out (hc' k h0)
          rw [hst] at cc cc'
          have hn2 := HN.out
          clear hc hc' hst
          go_wp2
          go_quiet (fail)
          go_wp2
          go_roundw
          case rel => exact ⟨k + 1, by omega, by go_num, HU.out.drewN _⟩
          case measure => simp [intOf] <;> omega
        · obtain rfl : k = n0 := by omega
          have HG := wrL_good 3 a2 d Ss HQQ.out.1 HQQ.out.2
          have HSM := Lib.hid (same_any 3 _ v4 v5 _ _ wr ((K4.out.grow K5.out.up).grow HU.out) (K5.out.grow HU.out) HG.1 (by have := HG.2; omega))
          clear HG
          go_wp2_with (go_at_call 11; (with_reducible refine HSM.out.mono ?_); rintro e w7 ⟨rfl, u7⟩; have U7 := Lib.hid (U5.out.trans (HU.out.trans u7)); clear u7)
          go_ret
          exact ⟨rfl, U7.out⟩
theorem opsWrites_walk (a0 a1 a2 : Int) (s : ByteArray) (a : Option Addr) (n0 c : Nat) (Ss : List ByteArray) (w : World) (_ : (Lit.int IntKind.i64 a0).wf = true) (_ : (Lit.int IntKind.i64 a1).wf = true) (h2 : (Lit.int IntKind.i64 a2).wf = true) (hs : s.size ≤ 140737488351232) (hr : Strs w w.heap.size a n0 Ss) (hn : n0 ≤ 8796093021952) (_ : True) :
    Calls Tryd.prog 3 #[.agg #[.int .i64 a0, .int .i64 a1, .int .i64 a2], .string s, .slice a n0 c] w fun e w' => e = .returned (.bool true) ∧ Below w.heap.size w w' :=
  (opsWrites_upd a0 a1 a2 s a n0 c Ss w h2 hs hr hn).mono fun _ _ ⟨h, hu⟩ => ⟨h, hu.below (fun _ _ h => h)⟩
end Go.Proofs.YtcfilepilgjlaaaDoor
