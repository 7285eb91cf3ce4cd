import Derived.Test.YtjcmfaadoealgaaGreatDoorQGFn
import Derived.StillTailTactics
import Derived.Test.YtjcmfaadoealgaaGreatDoorQGBy
import Derived.Deep.RegionHeld3
import Derived.Deep.RegionHeldLaw
import Derived.Below
/- TopPairBack walked. -/
namespace Go.Proofs.YtjcmfaadoealgaaGreatDoor
open F
open Go.RowKit Pm Cm Pr
set_option linter.unusedVariables false
attribute [local irreducible] openL decUp empUp Lib.onesCount parT sealed

set_option maxRecDepth 100000 in
set_option maxHeartbeats 6400000 in
theorem pairBack_any (n : Int) (a : Option Addr) (L c0 : Nat) (Ss : List ByteArray) (lo : Int) (w : World) (hS : Strs w w.heap.size a L Ss) (hL : L ≤ 8796093021952) (hT : Tab w) :
    Calls Tryz.prog 4 #[.int .i64 n, .slice a L c0, .int .i64 lo] w fun e w' => e = .returned (.bool true) ∧ Upd noBlock w w' := by
  have hnot : ∀ (x : Bool) (w : World), (Op.unary .not (.bool x)).run Tryz.prog w = .ok (.bool (!x)) w := fun _ _ => rfl
  obtain ⟨k, t, k1, k2, t1, t2, hsm⟩ := small_any n
  have HSM := Lib.hid hsm
  have hG : GoodG 2 8 (1 : Nat) k t := ⟨by decide, by decide, by decide, by decide, by decide, by decide, by decide, by omega, by omega, by omega, by omega⟩
  have HG := Lib.hid hG
  have HTW := Lib.hid (fun W (hW : Upd noBlock w W) => hT.upd hW)
  obtain ⟨m, hm⟩ : ∃ m, rawN t k 1 = m := ⟨_, rfl⟩
  have hm1 : m = k + (13 * t + 7) / 8 := by rw [← hm]; exact Nat.one_mul _
  obtain ⟨room, hroom⟩ : ∃ room, 1 * k - 7 = room := ⟨_, rfl⟩
  have hroom2 : room = k - 7 := by omega
  have hrb : room ≤ 25 := by omega
  have HCH : Hid (∀ W, Calls Tryz.prog 10 #[.agg #[.int .i64 2, .int .i64 8, .int .i64 1, .int .i64 (k : Int), .int .i64 (t : Int)]] W fun e w' => NewC 2 8 m W w' e) := fun W => by
    have h9 := chip_good 2 8 1 k t W hG
    rw [hm] at h9
    exact h9
  have HNW : Hid (∀ ch W, Calls Tryz.prog 11 #[.pointer (some ⟨ch, 0, none⟩), .agg #[.int .i64 2, .int .i64 8, .int .i64 1, .int .i64 (k : Int), .int .i64 (t : Int)]] W fun e w' => ∃ q cc, e = .returned (.tuple #[.pointer (some ⟨q, 0, none⟩), .int .i64 0]) ∧ PgrB w' q 2 8 1 k t ch cc ∧ CodeP w' cc t (k : Int) ∧ W.heap.size ≤ q ∧ W.heap.size ≤ cc ∧ Upd noBlock W w') := fun ch W => pnew_good 2 8 1 k t ch W hG
  have HRW : Hid (∀ W, Calls Tryz.prog 12 #[.agg #[.int .i64 2, .int .i64 8, .int .i64 1, .int .i64 (k : Int), .int .i64 (t : Int)]] W fun e w' => e = .returned (.tuple #[.int .i64 (m : Int), .int .i64 (room : Int)]) ∧ Upd noBlock W w') := fun W => by
    have h9 := raw_good 2 8 1 k t W hG
    have e1 : ((1 * (k + (13 * t + 7) / 8) : Nat) : Int) = (m : Int) := by omega
    have e2 : ((1 : Nat) : Int) * (k : Int) - 7 = (room : Int) := by omega
    rw [e1, e2] at h9
    exact h9
  obtain ⟨P, T, hPT⟩ := plan_of room L Ss (by omega)
  obtain ⟨raws, hraws⟩ : ∃ raws : Nat → List UInt8, (fun p => pageL t k 1 (T p).data.toList) = raws := ⟨_, rfl⟩
  have HPT := Lib.hid hPT
  have HRAW := Lib.hid hraws
  have HS := Lib.hid hS
  have HM1 := Lib.hid hm1
  have HM := Lib.hid hm
  have HRO := Lib.hid hroom
  have HRO2 := Lib.hid hroom2
  clear hS hm1 hm hroom hroom2 hT hG hsm hPT hraws
  unfold geoV NewC at *
  go_enter Tryz.func4, Tryz.ntmps4
  go_upto_region 2 with (go_at_call 9; (with_reducible refine (HSM.out _).mono ?_); rintro e w1 ⟨rfl, hu⟩; have U1 := Lib.hid hu; clear hu)
  obtain ⟨wb, hwb⟩ : ∃ wb, wb = w1.alloc (.cells #[.int .i64 2, .int .i64 8, .int .i64 1, .int .i64 (k : Int), .int .i64 (t : Int)] 25) := ⟨_, rfl⟩
  have B1 : Hid (wb.heap[w1.heap.size]? = some (.cells #[.int .i64 2, .int .i64 8, .int .i64 1, .int .i64 (k : Int), .int .i64 (t : Int)] 25 (0, 0))) := by rw [hwb]; exact heap_alloc_new w1 _
  have UB : Hid (Upd noBlock w wb) := by rw [hwb]; exact U1.out.alloc _
  rw [← hwb]
  generalize w1.heap.size = g at *
  have HGC : Hid (∀ W, Upd noBlock wb W → W.cell? ⟨g, 0, none⟩ = some (.int .i64 2) ∧ W.cell? ⟨g, 1, none⟩ = some (.int .i64 8) ∧ W.cell? ⟨g, 2, none⟩ = some (.int .i64 1) ∧ W.cell? ⟨g, 3, none⟩ = some (.int .i64 (k : Int)) ∧ W.cell? ⟨g, 4, none⟩ = some (.int .i64 (t : Int))) := fun W hW => geo_cells ((hW.block _ (lt_of_block B1.out) id).trans B1.out)
  obtain ⟨z0, z1, z2, z3, z4⟩ := HGC.out wb (Upd.refl _ _)
  clear hwb U1 HSM
  go_upto_region 6 with (first
    | (go_at_call 10; (with_reducible refine (HCH.out _).mono ?_); rintro e w5 ⟨ch, bb, pb, rfl, hc, hu, hl⟩; have C5 := Lib.hid hc; have L5 : Hid (∀ i, Own ch bb pb 2 i → wb.heap.size ≤ i) := hl; have V5 : Hid (Upd noBlock wb w5) := hu; obtain ⟨z0, z1, z2, z3, z4⟩ := HGC.out _ hu; clear hc hu hl)
    | (go_at_call 11; (with_reducible refine (HNW.out ch _).mono ?_); rintro e w6 ⟨q, cc, rfl, hp, hcd, hq, hcc, hu⟩; have N6 : Hid (PN wb q 2 8 1 k t ch bb pb (newCh 2 8 m) cc w6) := ⟨⟨hp, C5.out.grow hu, hcd⟩, V5.out.trans hu, fun i hi => hi.elim (fun h => L5.out i h) (fun h => by rw [h]; exact Nat.le_trans V5.out.size hcc)⟩; obtain ⟨z0, z1, z2, z3, z4⟩ := HGC.out _ N6.out.u; clear hp hcd hq hcc hu)
    | (go_at_call 12; (with_reducible refine (HRW.out _).mono ?_); rintro e w7 ⟨rfl, hu⟩; have N7 := Lib.hid (N6.out.quiet hu); obtain ⟨z0, z1, z2, z3, z4⟩ := HGC.out _ N7.out.u; clear hu)
    | (go_at_call 19; (with_reducible refine (of8 _).mono ?_); rintro e w8 ⟨g1, g2, cs1, cs2, c1, c2, rfl, hb1, hb2, he1, he2, hu⟩; have N8 := Lib.hid (N7.out.quiet hu); have D1 := Lib.hid hb1; have D2 := Lib.hid hb2; have E1 := Lib.hid he1; have E2 := Lib.hid he2; clear hb1 hb2 he1 he2 hu))
  obtain ⟨wp, hwp⟩ : ∃ wp, wp = w8.alloc (.cells #[.slice (some ⟨g1, 0, none⟩) 5 c1, .slice (some ⟨g2, 0, none⟩) 2 c2] 49) := ⟨_, rfl⟩
  have UP : Hid (Upd noBlock w8 wp) := by rw [hwp]; exact (Upd.refl _ _).alloc _
  have BP : Hid (wp.heap[w8.heap.size]? = some (.cells #[.slice (some ⟨g1, 0, none⟩) 5 c1, .slice (some ⟨g2, 0, none⟩) 2 c2] 49 (0, 0))) := by rw [hwp]; exact heap_alloc_new w8 _
  have NP := Lib.hid (N8.out.quiet UP.out)
  have D1p : Hid (wp.heap[g1]? = some (.cells cs1 3 (0, 0))) := (UP.out.block _ (lt_of_block D1.out) id).trans D1.out
  have D2p : Hid (wp.heap[g2]? = some (.cells cs2 3 (0, 0))) := (UP.out.block _ (lt_of_block D2.out) id).trans D2.out
  obtain ⟨z0, z1, z2, z3, z4⟩ := HGC.out _ NP.out.u
  rw [← hwp]
  generalize w8.heap.size = pl at *
  clear hwp N8 D1 D2 UP C5 L5 V5 N6 N7
  have hmk := makeT 8 8 rfl (by decide)
  go_upto_region 9 with fail
  obtain ⟨wf, hwf⟩ : ∃ wf, wf = wp.alloc (.cells (madeCells #[.string ⟨#[]⟩] 8) 9) := ⟨_, rfl⟩
  have hmt := TR.made wp 8
  rw [← hwf] at hmt
  have UF : Hid (Upd noBlock wp wf) := by rw [hwf]; exact (Upd.refl _ _).alloc _
  rw [← hwf]
  obtain ⟨f, hf⟩ : ∃ f, f = wp.heap.size := ⟨_, rfl⟩
  rw [← hf] at hmt ⊢
  have TF : Hid (TA w q k t ch bb pb (newCh 2 8 m) cc g pl g1 g2 f cs1 cs2 c1 c2 (fun _ => ⟨#[]⟩) wf) :=
    ⟨(NP.out.quiet UF.out).base UB.out, ⟨(UF.out.block _ (lt_of_block ((NP.out.u.block _ (lt_of_block B1.out) id).trans B1.out)) id).trans ((NP.out.u.block _ (lt_of_block B1.out) id).trans B1.out), (UF.out.block _ (lt_of_block BP.out) id).trans BP.out, (UF.out.block _ (lt_of_block D1p.out) id).trans D1p.out, (UF.out.block _ (lt_of_block D2p.out) id).trans D2p.out, E1.out, E2.out, hmt⟩, by rw [hf]; exact Nat.le_trans UB.out.size NP.out.u.size⟩
  clear hwf hf hmt UF hmk NP D1p D2p BP E1 E2 B1 HGC z0 z1 z2 z3 z4 HCH HNW HRW UB
  have hmk := makeP room (by omega)
  obtain ⟨zs, hzs⟩ : ∃ zs : ByteArray, ⟨(List.replicate room 0).toArray⟩ = zs := ⟨_, rfl⟩
  have hcz : ∀ W : World, (convert 43 9 (.slice (some ⟨W.heap.size, 0, none⟩) room room)).run Tryz.prog (W.alloc (.cells (madeCells #[.int .u8 0] room) 5)) = .ok (.string zs) (W.alloc (.cells (madeCells #[.int .u8 0] room) 5)) := fun W => by
    rw [← hzs]
    exact (madeP W room).text (List.replicate room 0) (List.length_replicate ..) (fun j h => by rw [List.getElem_replicate]; rfl) room _ _ Tryz.underlying43 Tryz.underlying5 Tryz.underlying9
  clear hzs
  go_wp2
  go_loopw [17] (fun i wr => ∃ (ii : Nat) (F : Nat → ByteArray), ii ≤ 8 ∧ i = .int .i64 (ii : Int) ∧ Hid (TA w q k t ch bb pb (newCh 2 8 m) cc g pl g1 g2 f cs1 cs2 c1 c2 F wr)) (fun i _ => 8 - (intOf i).toNat)
  case atStart => exact ⟨0, _, by omega, rfl, TF⟩
  case round =>
    clear TF
    obtain ⟨ii, F, hi, rfl, HA⟩ := hrel
    obtain ⟨z0, z1, z2, z3, z4⟩ := HA.out.tk.geos
    by_cases h0 : ii < 8
    · have di : decide ((ii : Int) < 8) = true := decide_eq_true (by omega)
      have hA2 := HA.out.quiet ((Upd.refl noBlock wr).alloc (.cells (madeCells #[.int .u8 0] room) 5))
      have cf := hA2.tk.full.cell ii h0
      have ff := hA2.tk.full.free ii
      have HA2 := Lib.hid hA2
      clear hA2
      go_wp2
      go_roundw
      case rel => exact ⟨ii + 1, _, by omega, by go_num, HA2.out.set ii zs⟩
      case measure => simp [intOf]; omega
    · obtain rfl : ii = 8 := by omega
      clear hmk hcz
      go_upto_region 13 with fail
      clear z0 z1 z2 z3 z4
      have HWR : Hid (∀ (W : World) (M : Ch) (G : Nat → Pg) (n p : Nat) (F : Nat → ByteArray), BT M m G n → (∀ r, p ≤ r → G r = pg0) → n < 1000 → p < 8 → TA w q k t ch bb pb M cc g pl g1 g2 f cs1 cs2 c1 c2 F W → Calls Tryz.prog 13 #[.pointer (some ⟨q, 0, none⟩), .int .i64 0, .int .i64 (p : Int), .string (T p)] W fun e w' => e = .returned (.int .i64 0) ∧ TA w q k t ch bb pb (M.progM 0 p (raws p)) cc g pl g1 g2 f cs1 cs2 c1 c2 F w' ∧ BT (M.progM 0 p (raws p)) m (fun q => if q = p then ⟨1, false, raws p⟩ else G q) (n + 1)) := fun W M G n p F hB hG' hn hp hA => by
        have h9 := write_in q 2 8 1 k t ch bb pb M cc 0 (p : Int) 0 p n rfl rfl (T p) W HG.out hA.pn.i (HTW.out _ hA.pn.u) (by rw [HRO.out]; exact HPT.out.fits p) hB.fit (by omega) (by rw [hB.nb]; omega) (by rw [hB.np]; omega) (by rw [hB.sz, HM.out])
        have e : pageL t k 1 (T p).data.toList = raws p := by rw [← HRAW.out]
        rw [e, (hB.prog p (raws p) hG').1] at h9
        exact h9.mono fun e w' ⟨he, hi, hu⟩ => ⟨he, hA.upd hi hu (progM_nb _ _ _ _), (hB.prog p (raws p) hG').2⟩
      have HROW : Hid (∀ W, Upd noBlock w W → 0 < L → ∃ gs off, a = some ⟨gs, off, none⟩ ∧ ∀ i, i < L → W.cell? ⟨gs, off + i, none⟩ = some (.string (Ss.getD i ⟨#[]⟩))) := fun W hW h0 => by
        obtain ⟨gs, off, ha, _, hc⟩ := (HS.out.grow hW (Nat.le_refl _)).cell h0
        exact ⟨gs, off, ha, hc⟩
      go_wp2
      go_loopw [18, 19] (fun i s19 wr => ∃ (ii : Nat) (F : Nat → ByteArray) (M : Ch) (v19 : Value), ii ≤ 5 ∧ i = .int .i64 (ii : Int) ∧ s19 = v19 ∧ Hid (TA w q k t ch bb pb M cc g pl g1 g2 f cs1 cs2 c1 c2 F wr) ∧ Hid (BT M m (gI raws ii) ii) ∧ Hid (∀ j, j < ii → F j = P j)) (fun i _ _ => 5 - (intOf i).toNat)
      case atStart => exact ⟨0, F, newCh 2 8 m, _, by omega, rfl, rfl, HA, (BT.new m).congr fun p => by unfold gI; rw [if_neg (by omega)], fun j hj => absurd hj (Nat.not_lt_zero j)⟩
      case round =>
        clear HA
        obtain ⟨ii, F, M, v19, hi, rfl, rfl, HA, HB, HF⟩ := hrel
        obtain ⟨y0, y1⟩ := HA.out.tk.plans
        by_cases h0 : ii < 5
        · skip
          -- [[
          have di : decide ((ii : Int) < 5) = true := decide_eq_true (by omega)
          obtain ⟨s, hs⟩ : ∃ s, T ii = s := ⟨_, rfl⟩
          have hsrc : srcS room L Ss ii = s := by rw [← HPT.out.src ii h0, hs]
          have HSRC := Lib.hid hsrc
          have HSS := Lib.hid hs
          clear hs hsrc
          go_upto_if 92 with fail
          go_cut [19] from 93 to 104 (fun s19 wx => s19 = .string s ∧ Hid (Upd noBlock wr wx))
          case first =>
            by_cases h1 : ii < L
            · have d1 : decide ((ii : Int) < (L : Int)) = true := decide_eq_true (by omega)
              have d2 : decide (ii < L) = true := decide_eq_true (by omega)
              obtain ⟨gs, off, ha, hc⟩ := HROW.out wr HA.out.pn.u (by omega)
              subst ha
              have ck := hc ii h1
              obtain ⟨x, hx⟩ : ∃ x, Ss.getD ii ⟨#[]⟩ = x := ⟨_, rfl⟩
              rw [hx] at ck
              obtain ⟨mm, hmm⟩ : ∃ mm, min x.size room = mm := ⟨_, rfl⟩
              have hmm2 : min (x.size : Int) (room : Int) = (mm : Int) := by omega
              have hmm3 : mm ≤ x.size := by omega
              have hmm4 : (mm : Int) ≤ (x.size : Int) := by omega
              have hmm5 : (0 : Int) ≤ (mm : Int) := by omega
              have hfin : x.extract 0 mm = s := by
                have h9 := HSRC.out
                unfold srcS at h9
                rw [if_pos h1, hx, hmm] at h9
                exact h9
              have i1 : (0 : Int) ≤ (ii : Int) := by omega
              have i2 : (ii : Int) < (L : Int) := by omega
              have hsl : ∀ W : World, (Instr.sliceAt 9 (.string x) none (some (.int .i64 (mm : Int))) none).run Tryz.prog W = .ok (.string s) W := fun W => by
                have h1 : (mm : Int) ≤ (x.size : Int) := by omega
                rw [← hfin]
                rw [run_sliceAt_string W 9 _ _ _ _ Tryz.underlying9, run_slice_string_to_if W 9 _ _ _ Tryz.underlying9, if_pos ⟨by omega, h1⟩]
                rfl
              clear hc hx hmm hfin
              go_wp2
              go_quiet (fail)
              go_wp2
              go_meet
              exact ⟨rfl, (Upd.refl _ _).drewN nq⟩
            · have d1 : decide ((ii : Int) < (L : Int)) = false := decide_eq_false (by omega)
              have d2 : decide (ii < L) = false := decide_eq_false (by omega)
              have hfin : (⟨#[]⟩ : ByteArray) = s := by
                have h9 := HSRC.out
                unfold srcS at h9
                rw [if_neg h1] at h9
                exact h9
              subst hfin
              go_wp2
              go_meet
              exact ⟨rfl, Upd.refl _ _⟩
          case rest =>
            obtain ⟨rfl, hu⟩ := hcut
            have HA1 := Lib.hid (HA.out.quiet hu.out)
            clear y0 y1 hu HA
            obtain ⟨wx, rfl⟩ : ∃ wx : World, wx = wc := ⟨_, rfl⟩
            obtain ⟨zc, hzc⟩ : ∃ zc, room - s.size = zc := ⟨_, rfl⟩
            have hsr : s.size ≤ room := by rw [← HSS.out]; exact HPT.out.fits ii
            obtain ⟨zt, hzt⟩ : ∃ zt : ByteArray, ⟨(List.replicate zc 0).toArray⟩ = zt := ⟨_, rfl⟩
            have hpd : s ++ zt = P ii := by
              rw [← pad_text s zt room zc hzc hzt, ← HSS.out]
              exact HPT.out.pads ii
            have HPD := Lib.hid hpd
            have HKA : Hid (∀ W, Hid (Upd (oneBlock f) wx W) → W.cell? ⟨pl, 0, none⟩ = some (.slice (some ⟨g1, 0, none⟩) 5 c1) ∧ W.cell? ⟨g1, ii, none⟩ = some (.int .i64 (ii : Int)) ∧ Hid (Upd (oneBlock f) wx W)) := fun W hW => by
              obtain ⟨x9, hx9⟩ := HA1.out.tk.full.block
              exact ⟨(World.cell?_of_block (hW.out.block pl (lt_of_block HA1.out.tk.plan) (apart HA1.out.tk.plan hx9 (by decide)))).trans HA1.out.tk.plans.1, (World.cell?_of_block (hW.out.block g1 (lt_of_block HA1.out.tk.b1) (apart HA1.out.tk.b1 hx9 (by decide)))).trans (HA1.out.tk.data ii h0), hW⟩
            have h9 := HA1.out.quiet ((Upd.refl noBlock wx).alloc (.cells (madeCells #[.int .u8 0] zc) 5))
            have cf := h9.tk.full.cell ii (by omega)
            have ff := h9.tk.full.free ii
            clear h9
            have V0 : Hid (Upd (oneBlock f) wx wx) := Upd.refl _ _
            have V1 : Hid (Upd (oneBlock f) wx wx.drew) := (Upd.refl _ _).drew
            have HAL : Hid (∀ (W : World) O, Hid (Upd (oneBlock f) wx W) → Hid (Upd (oneBlock f) wx (W.alloc O))) := fun W O h => h.out.alloc O
            have HDR : Hid (∀ (W : World), Hid (Upd (oneBlock f) wx W) → Hid (Upd (oneBlock f) wx W.drew)) := fun W h => h.out.drew
            have HSE : Hid (∀ (W : World) j v, Hid (Upd (oneBlock f) wx W) → Hid (Upd (oneBlock f) wx (W.setCell ⟨f, j, none⟩ v))) := fun W j v h => h.out.setCell (p := ⟨f, j, none⟩) (.inl rfl) v
            have hmk2 := makeP zc (by omega)
            have hczz : ∀ W : World, (convert 43 9 (.slice (some ⟨W.heap.size, 0, none⟩) zc zc)).run Tryz.prog (W.alloc (.cells (madeCells #[.int .u8 0] zc) 5)) = .ok (.string zt) (W.alloc (.cells (madeCells #[.int .u8 0] zc) 5)) := fun W => by
              rw [← hzt]
              exact (madeP W zc).text (List.replicate zc 0) (List.length_replicate ..) (fun j h => by rw [List.getElem_replicate]; rfl) zc _ _ Tryz.underlying43 Tryz.underlying5 Tryz.underlying9
            have hcz1 : (convert 43 9 (.slice (some ⟨wx.heap.size, 0, none⟩) zc zc)).run Tryz.prog (wx.drew.alloc (.cells (madeCells #[.int .u8 0] zc) 5)) = .ok (.string zt) (wx.drew.alloc (.cells (madeCells #[.int .u8 0] zc) 5)) := hczz wx.drew
            have hcz2 : (convert 43 9 (.slice (some ⟨wx.heap.size, 0, none⟩) zc zc)).run Tryz.prog (wx.alloc (.cells (madeCells #[.int .u8 0] zc) 5)).drew = .ok (.string zt) (wx.alloc (.cells (madeCells #[.int .u8 0] zc) 5)).drew := by
              rw [← hzt]
              exact ((madeP wx zc).grow (Upd.refl _ _).drew).text (List.replicate zc 0) (List.length_replicate ..) (fun j h => by rw [List.getElem_replicate]; rfl) zc _ _ Tryz.underlying43 Tryz.underlying5 Tryz.underlying9
            have hadd : s.size + zt.size ≤ 9223372036854775807 := by
              have h9 : zt.size = zc := by rw [← hzt]; show (List.replicate zc (0 : UInt8)).toArray.size = zc; rw [List.size_toArray, List.length_replicate]
              omega
            have wz : IntKind.i64.wrap ((room : Int) - (s.size : Int)) = (zc : Int) := by rw [show (room : Int) - (s.size : Int) = (zc : Int) by omega, IntKind.wrap_i64]; omega
            have i1 : (0 : Int) ≤ (ii : Int) := by omega
            have i2 : (ii : Int) < 5 := by omega
            have i3 : (ii : Int) < 8 := by omega
            clear hzc hpd hzt hsr hczz
            go_upto_region 19 with fail
            go_region_held (fun W => W.cell? ⟨pl, 0, none⟩ = some (.slice (some ⟨g1, 0, none⟩) 5 c1) ∧ W.cell? ⟨g1, ii, none⟩ = some (.int .i64 (ii : Int)) ∧ Hid (Upd (oneBlock f) wx W))
              (first | with_reducible exact HKA.out _ V0 | with_reducible exact HKA.out _ V1 | with_reducible exact HKA.out _ (HAL.out _ _ V1) | with_reducible exact HKA.out _ (HDR.out _ (HAL.out _ _ V1)) | with_reducible exact HKA.out _ (HAL.out _ _ V0) | with_reducible exact HKA.out _ (HDR.out _ (HAL.out _ _ V0)) | with_reducible exact HKA.out _ (HSE.out _ _ _ (HAL.out _ _ V0)) | with_reducible exact HKA.out _ (HDR.out _ (HSE.out _ _ _ (HAL.out _ _ V0))) | with_reducible exact HKA.out _ (HSE.out _ _ _ (HDR.out _ (HAL.out _ _ V0))) | with_reducible exact HKA.out _ (HSE.out _ _ _ (HAL.out _ _ V1)))
              (fail)
            have H9 : Hid (TA w q k t ch bb pb M cc g pl g1 g2 f cs1 cs2 c1 c2 (fun j => if j = ii then s ++ zt else F j) (((wx.alloc (.cells (madeCells #[.int .u8 0] zc) 5)).setCell ⟨f, ii, none⟩ (.string (s ++ zt))).drew)) := ((HA1.out.quiet ((Upd.refl _ _).alloc _)).set ii (s ++ zt)).quiet (Upd.refl _ _).drew
            generalize (((wx.alloc (.cells (madeCells #[.int .u8 0] zc) 5)).setCell ⟨f, ii, none⟩ (.string (s ++ zt))).drew) = w3 at *
            have y0 := H9.out.tk.plans.1
            have y1 := H9.out.tk.data ii h0
            clear hcz1 hcz2 hmk2 HKA V0 V1 HAL HDR HSE HA1 hadd wz cf ff
            have HW1 := Lib.hid (HWR.out w3 M _ ii ii _ HB.out (fun r hr => by unfold gI; rw [if_neg (by omega)]) (by omega) (by omega) H9.out)
            rw [HSS.out] at HW1
            go_wp2_with (go_at_call 13; (with_reducible refine HW1.out.mono ?_); rintro e w4 ⟨rfl, ha4, hb4⟩; have A4 := Lib.hid ha4; have B4 := Lib.hid hb4; clear ha4 hb4)
            go_roundw
            case rel =>
             (repeat apply Exists.intro)
             refine ⟨?_, rfl⟩
             exact ⟨ii + 1, _, _, _, by omega, by go_num, rfl, A4, B4.out.congr (gI_next raws ii), fun j hj => by
              by_cases e : j = ii
              · subst e; simp only [if_true]; exact HPD.out
              · simp only [if_neg e]; exact HF.out j (by omega)⟩
            case measure => simp [intOf]; omega
          -- ]]
        · obtain rfl : ii = 5 := by omega
          have HB0 : Hid (BT M m (gPg raws 0) 5) := HB.out.congr (gI_gPg raws)
          clear HB HROW
          go_upto_region 22 with fail
          clear y0 y1
          have HF0 : Hid (∀ j, (j < 5 ∨ (1 ≤ 0 ∧ j = 5) ∨ (2 ≤ 0 ∧ j = 7)) → F j = P j) := fun j hj => HF.out j (by omega)
          clear HF
          go_wp2
          go_loopw [20, 21, 22, 23] (fun s20 s21 s22 s23 wr => ∃ (kk : Nat) (F : Nat → ByteArray) (M : Ch) (v21 v22 v23 : Value), kk ≤ 2 ∧ s20 = .int .i64 (kk : Int) ∧ s21 = v21 ∧ s22 = v22 ∧ s23 = v23 ∧ Hid (TA w q k t ch bb pb M cc g pl g1 g2 f cs1 cs2 c1 c2 F wr) ∧ Hid (BT M m (gPg raws kk) (5 + kk)) ∧ Hid (∀ j, (j < 5 ∨ (1 ≤ kk ∧ j = 5) ∨ (2 ≤ kk ∧ j = 7)) → F j = P j)) (fun i _ _ _ _ => 2 - (intOf i).toNat)
          case atStart => exact ⟨0, F, M, _, _, _, by omega, rfl, rfl, rfl, rfl, HA, HB0, HF0⟩
          case round =>
            clear HA HB0 HF0 M F
            obtain ⟨kk, F, M, v21, v22, v23, hk, rfl, rfl, rfl, rfl, HA, HB, HF⟩ := hrel
            obtain ⟨y0, y1⟩ := HA.out.tk.plans
            by_cases h0 : kk < 2
            · skip
              -- [[
              have di : decide ((kk : Int) < 2) = true := decide_eq_true (by omega)
              have HMB := Lib.hid (members8 HA.out.tk kk h0)
              go_upto_region 26 with (go_at_call 20; (with_reducible refine HMB.out.mono ?_); rintro e w5 ⟨v, rfl, ho, hu⟩; obtain ⟨am, cm, rfl, hi5, hb5⟩ := ho.sl; have I5 := Lib.hid hi5; have U5 := Lib.hid hu; clear ho hi5 hb5 hu)
              have HA5 := Lib.hid (HA.out.quiet U5.out)
              obtain ⟨dn, hdn⟩ : ∃ dn, (mdL kk).length = dn := ⟨_, rfl⟩
              have hdn3 : dn ≤ 3 := by rw [← hdn]; exact mdL_len kk
              have HDN := Lib.hid hdn
              rw [hdn] at I5 ⊢
              obtain ⟨i0, hi0, hz0, hz1, hz2⟩ := info_parts strInfoT
              clear hdn HMB y0 y1 HA U5
              go_wp2
              go_loopw [22, 23] (fun s22 s23 wr4 => ∃ ii : Nat, ii ≤ dn ∧ s23 = .int .i64 (ii : Int) ∧ Hid (OwnS wr4 w5.heap.size 9 s22 (((mdL kk).take ii).map fun x => P x.toNat)) ∧ Hid (Upd noBlock w5 wr4)) (fun _ i _ => dn - (intOf i).toNat)
              case atStart => exact ⟨0, by omega, rfl, OwnS.nil _ _ _, Upd.refl _ _⟩
              case round =>
                obtain ⟨ii, hii, rfl, HO, HU⟩ := hrel
                have HA6 := Lib.hid (HA5.out.quiet HU.out)
                have HLE : Hid (w5.heap.size ≤ wr.heap.size) := HU.out.size
                by_cases h1 : ii < dn
                · have di4 : decide ((ii : Int) < (dn : Int)) = true := decide_eq_true (by omega)
                  have di5 : decide (ii < dn) = true := decide_eq_true h1
                  obtain ⟨p, hp, hp5⟩ := md_page ⟨kk, h0⟩ ⟨ii, by omega⟩ (by show ii < (mdL kk).length; rw [HDN.out]; exact h1)
                  simp only at hp
                  have cp := HA6.out.tk.full.cell p (by omega)
                  rw [HF.out p (.inl hp5)] at cp
                  obtain ⟨gm, om, ham, -, hcm⟩ := (I5.out.grow HU.out (Nat.le_refl _)).2 (by omega)
                  subst ham
                  have cm1 := hcm ii h1
                  rw [hp] at cm1
                  have hpp : P ((mdL kk).getD ii 0).toNat = P p := by rw [hp, Int.toNat_natCast]
                  have HQL : Hid ((((mdL kk).take ii).map fun x => P x.toNat).length = ii) := by show _ = _; rw [List.length_map, List.length_take, HDN.out]; omega
                  have HPP := Lib.hid hpp
                  have HPS := Lib.hid (HPT.out.sizes p)
                  obtain ⟨pp, hpq⟩ : ∃ pp, P p = pp := ⟨_, rfl⟩
                  rw [hpq] at cp HPP HPS
                  have HTM : Hid ((((mdL kk).take (ii + 1)).map fun x => P x.toNat) = (((mdL kk).take ii).map fun x => P x.toNat) ++ [pp]) := by
                    show _ = _
                    rw [take_at (mdL kk) 0 ii (by rw [HDN.out]; exact h1), List.map_append]
                    show _ ++ [P ((mdL kk).getD ii 0).toNat] = _
                    rw [HPP.out]
                  generalize (((mdL kk).take ii).map fun x => P x.toNat) = Q at *
                  have HO2 := Lib.hid (HO.out.grow ((Upd.refl noBlock wr).alloc (.cells #[.string pp] 9)))
                  have HU2 := Lib.hid (HU.out.alloc (.cells #[.string pp] 9))
                  have HI := Lib.hid (Row1.one wr 9 (.string pp))
                  have i1 : (0 : Int) ≤ (ii : Int) := by omega
                  have i2 : (ii : Int) < (dn : Int) := by omega
                  have i3 : (0 : Int) ≤ (p : Int) := by omega
                  have i4 : (p : Int) < 8 := by omega
                  clear hcm hp hpp hpq
                  go_wp2_with (first
                    | (at_builtin; refine wpList_append_vals _ rfl (.tmp 142) (.tmp 150) _ rfl w5.heap.size 9 i0 _ 16 Tryz.underlying22 hi0 hz0 hz1 hz2 rfl _ Q.length (Q.map Value.string) rfl HO2.out (wr.heap.size + 1) (some ⟨wr.heap.size, 0, none⟩) 1 1 [.string pp] rfl HI.out (by intro u hu; simp at hu; subst hu; rfl) (by have := HQL.out; simp only [maxLen]; omega) (by have := HQL.out; omega) (by have := HLE.out; simp; omega) ?_; intro v3 w3 hown3 hg3 _))
                  go_roundw
                  case rel =>
                    refine ⟨ii + 1, by omega, by go_num, ?_, HU2.out.grownOwn hg3 (fun i hi => (HO2.out.lt i hi).1)⟩
                    rw [HTM.out]
                    exact OwnS.snoc hown3
                  case measure => simp [intOf]; omega
                · obtain rfl : ii = dn := by omega
                  have htk : (mdL kk).take ii = mdL kk := List.take_of_length_le (Nat.le_of_eq HDN.out)
                  have HO9 := HO.out
                  rw [htk] at HO9
                  have HXP := Lib.hid (par_xor HPT.out kk h0)
                  have hfit : ∀ s ∈ (mdL kk).map (fun x => P x.toNat), s.size ≤ maxLen := fun s hs => by
                    obtain ⟨x, _, rfl⟩ := List.mem_map.1 hs
                    have := HPT.out.sizes x.toNat
                    simp only [maxLen]; omega
                  have hqn : ((mdL kk).map fun x => P x.toNat).length = ii := by rw [List.length_map]; exact HDN.out
                  obtain ⟨a7, c7, hv, r7, hb7⟩ := HO9.sl hfit
                  rw [hqn] at hv r7
                  subst hv
                  have hfw : f < w5.heap.size := HA5.out.tk.full.lt
                  obtain ⟨wx, rfl⟩ : ∃ wx : World, wx = wr := ⟨_, rfl⟩
                  obtain ⟨px, hpx⟩ : ∃ px, parP kk = px := ⟨_, rfl⟩
                  have hpx8 : px < 8 := by rw [← hpx]; unfold parP; split <;> omega
                  obtain ⟨y0, y1⟩ := HA6.out.tk.plans
                  have y2 := HA6.out.tk.par kk h0
                  rw [hpx] at HXP y2
                  obtain ⟨pq, hpq⟩ : ∃ pq, P px = pq := ⟨_, rfl⟩
                  rw [hpq] at HXP
                  have R7 := Lib.hid r7
                  have B7 : Hid (∀ g, a7.map Addr.block = some g → ¬ oneBlock f g) := fun g hg e => by
                    have e2 : g = f := e
                    have := (hb7 g hg).1
                    omega
                  have HXR : Hid (∀ W, Hid (Upd (oneBlock f) wx W) → Calls Tryz.prog 21 #[.int .i64 (room : Int), .slice a7 ii c7] W fun e w' => e = .returned (.string pq) ∧ Upd noBlock W w') := fun W hW => by
                    have h9 := xor_any (room : Int) a7 ii c7 wx.heap.size _ W (R7.out.upd hW.out (Nat.le_refl _) (fun g hg _ => B7.out g hg)) hW.out.size (by omega)
                    rw [HXP.out] at h9
                    exact h9
                  have HKA : Hid (∀ W, Hid (Upd (oneBlock f) wx W) → W.cell? ⟨pl, 1, none⟩ = some (.slice (some ⟨g2, 0, none⟩) 2 c2) ∧ W.cell? ⟨g2, kk, none⟩ = some (.int .i64 (px : Int)) ∧ Hid (Upd (oneBlock f) wx W)) := fun W hW => by
                    obtain ⟨x9, hx9⟩ := HA6.out.tk.full.block
                    exact ⟨(World.cell?_of_block (hW.out.block pl (lt_of_block HA6.out.tk.plan) (apart HA6.out.tk.plan hx9 (by decide)))).trans y1, (World.cell?_of_block (hW.out.block g2 (lt_of_block HA6.out.tk.b2) (apart HA6.out.tk.b2 hx9 (by decide)))).trans y2, hW⟩
                  have HFC : Hid (∀ W, Upd noBlock wx W → W.cell? ⟨f, px, none⟩ = some (.string (F px)) ∧ W.frozen? ⟨f, px, none⟩ = false) := fun W hW => ⟨(HA6.out.quiet hW).tk.full.cell px hpx8, (HA6.out.quiet hW).tk.full.free px⟩
                  have V0 : Hid (Upd (oneBlock f) wx wx) := Upd.refl _ _
                  have V1 : Hid (Upd (oneBlock f) wx wx.drew) := (Upd.refl _ _).drew
                  have HQU : Hid (∀ (W W' : World), Hid (Upd (oneBlock f) wx W) → Upd noBlock W W' → Hid (Upd (oneBlock f) wx W')) := fun W W' h hu => h.out.step hu fun _ _ h => h.elim
                  have HDR : Hid (∀ (W : World), Hid (Upd (oneBlock f) wx W) → Hid (Upd (oneBlock f) wx W.drew)) := fun W h => h.out.drew
                  have HSE : Hid (∀ (W : World) j v, Hid (Upd (oneBlock f) wx W) → Hid (Upd (oneBlock f) wx (W.setCell ⟨f, j, none⟩ v))) := fun W j v h => h.out.setCell (p := ⟨f, j, none⟩) (.inl rfl) v
                  have i1 : (0 : Int) ≤ (kk : Int) := by omega
                  have i2 : (kk : Int) < 2 := by omega
                  have i3 : (0 : Int) ≤ (px : Int) := by omega
                  have i4 : (px : Int) < 8 := by omega
                  have HPX := Lib.hid hpx
                  have HPQ := Lib.hid hpq
                  clear y0 y1 y2 hb7 hfw hpx hpq htk HO9 hqn hfit r7 HO
                  go_upto_region 31 with fail
                  go_region_held3 (fun W => W.cell? ⟨pl, 1, none⟩ = some (.slice (some ⟨g2, 0, none⟩) 2 c2) ∧ W.cell? ⟨g2, kk, none⟩ = some (.int .i64 (px : Int)) ∧ Hid (Upd (oneBlock f) wx W))
                    (first | with_reducible exact HKA.out _ V0 | with_reducible exact HKA.out _ V1 | with_reducible exact HKA.out _ V9 | with_reducible exact HKA.out _ (HDR.out _ V9) | with_reducible exact HKA.out _ (HSE.out _ _ _ V9) | with_reducible exact HKA.out _ (HDR.out _ (HSE.out _ _ _ V9)) | with_reducible exact HKA.out _ (HSE.out _ _ _ (HDR.out _ V9)))
                    (first
                      | (go_at_call 21; (with_reducible refine (HXR.out _ V1).mono ?_); rintro e w9 ⟨rfl, hu9⟩; have V9 := HQU.out _ _ V1 hu9; have N9 : Hid (Upd noBlock wx w9) := (Upd.refl _ _).drew.trans hu9; obtain ⟨cf, ff⟩ := HFC.out _ N9.out; clear hu9)
                      | (go_at_call 21; (with_reducible refine (HXR.out _ V0).mono ?_); rintro e w9 ⟨rfl, hu9⟩; have V9 := HQU.out _ _ V0 hu9; have N9 : Hid (Upd noBlock wx w9) := hu9; obtain ⟨cf, ff⟩ := HFC.out _ hu9; clear hu9))
                  have H9 : Hid (TA w q k t ch bb pb M cc g pl g1 g2 f cs1 cs2 c1 c2 (fun j => if j = px then pq else F j) (w9.setCell ⟨f, px, none⟩ (.string pq))) := (HA6.out.quiet N9.out).set px pq
                  generalize w9.setCell ⟨f, px, none⟩ (.string pq) = wy at *
                  obtain ⟨y0, y1⟩ := H9.out.tk.plans
                  have y2 := H9.out.tk.par kk h0
                  rw [HPX.out] at y2
                  have y3 := H9.out.tk.full.cell px hpx8
                  simp only [if_true] at y3
                  have htp : T px = pq := by
                    rw [← HPQ.out, ← HPX.out]
                    have hk2 : kk = 0 ∨ kk = 1 := by omega
                    rcases hk2 with rfl | rfl
                    · exact HPT.out.t5
                    · exact HPT.out.t7
                  have HW1 : Hid (∀ W, Upd noBlock wy W → Calls Tryz.prog 13 #[.pointer (some ⟨q, 0, none⟩), .int .i64 0, .int .i64 (px : Int), .string pq] W fun e w' => e = .returned (.int .i64 0) ∧ TA w q k t ch bb pb (M.progM 0 px (raws px)) cc g pl g1 g2 f cs1 cs2 c1 c2 (fun j => if j = px then pq else F j) w' ∧ BT (M.progM 0 px (raws px)) m (gPg raws (kk + 1)) (5 + (kk + 1))) := fun W hW => by
                    have h9 := HWR.out W M _ (5 + kk) px _ HB.out (fun r hr => gPg_blank raws kk r h0 (by rw [HPX.out]; exact hr)) (by omega) hpx8 (H9.out.quiet hW)
                    rw [htp] at h9
                    exact h9.mono fun e w' ⟨he, ha, hb⟩ => ⟨he, ha, hb.congr fun p => by
                      have h7 := gPg_next raws kk p h0
                      rw [HPX.out] at h7
                      exact h7⟩
                  clear htp V0 V1 V9 N9 cf ff HKA HFC HQU HDR HSE HXR HA6 HA5 B7 R7 HXP
                  go_upto_region 32 with fail
                  have HKB : Hid (∀ (M' : Ch) W, TA w q k t ch bb pb M' cc g pl g1 g2 f cs1 cs2 c1 c2 (fun j => if j = px then pq else F j) W → W.cell? ⟨pl, 1, none⟩ = some (.slice (some ⟨g2, 0, none⟩) 2 c2) ∧ W.cell? ⟨g2, kk, none⟩ = some (.int .i64 (px : Int)) ∧ W.cell? ⟨f, px, none⟩ = some (.string pq)) := fun M' W hW => by
                    have x2 := hW.tk.par kk h0
                    rw [HPX.out] at x2
                    have x3 := hW.tk.full.cell px hpx8
                    simp only [if_true] at x3
                    exact ⟨hW.tk.plans.2, x2, x3⟩
                  have H9d := Lib.hid (H9.out.quiet (Upd.refl _ _).drew)
                  have HTD : Hid (∀ (M' : Ch) W, Hid (TA w q k t ch bb pb M' cc g pl g1 g2 f cs1 cs2 c1 c2 (fun j => if j = px then pq else F j) W) → Hid (TA w q k t ch bb pb M' cc g pl g1 g2 f cs1 cs2 c1 c2 (fun j => if j = px then pq else F j) W.drew)) := fun M' W h => h.out.quiet (Upd.refl _ _).drew
                  go_region_held3 (fun W => W.cell? ⟨pl, 1, none⟩ = some (.slice (some ⟨g2, 0, none⟩) 2 c2) ∧ W.cell? ⟨g2, kk, none⟩ = some (.int .i64 (px : Int)) ∧ W.cell? ⟨f, px, none⟩ = some (.string pq))
                    (first | with_reducible exact HKB.out _ _ H9.out | with_reducible exact HKB.out _ _ H9d.out | with_reducible exact HKB.out _ _ A12.out | with_reducible exact HKB.out _ _ (HTD.out _ _ A12).out)
                    (first
                      | (go_at_call 13; (with_reducible refine (HW1.out _ (Upd.refl _ _).drew).mono ?_); rintro e w12 ⟨rfl, ha, hb⟩; have A12 := Lib.hid ha; have B12 := Lib.hid hb; clear ha hb)
                      | (go_at_call 13; (with_reducible refine (HW1.out _ (Upd.refl _ _)).mono ?_); rintro e w12 ⟨rfl, ha, hb⟩; have A12 := Lib.hid ha; have B12 := Lib.hid hb; clear ha hb))
                  go_wp2
                  go_roundw
                  case rel =>
                    (repeat apply Exists.intro)
                    refine ⟨?_, rfl⟩
                    exact ⟨kk + 1, _, _, _, _, _, by omega, by go_num, rfl, rfl, rfl, A12, B12, fun j hj => by
                      by_cases e : j = px
                      · subst e; simp only [if_true]; exact HPQ.out.symm
                      · simp only [if_neg e]
                        refine HF.out j ?_
                        have h5 := HPX.out
                        unfold parP at h5
                        split at h5 <;> omega⟩
                  case measure => simp [intOf]; omega
              -- ]]
            · obtain rfl : kk = 2 := by omega
              obtain ⟨r, r1, r2, r3, r4⟩ := round_mod lo 8 (by decide)
              have hr8 : r < 8 := by omega
              obtain ⟨D, hD⟩ : ∃ D, lo.tmod 8 = D := ⟨_, rfl⟩
              rw [hD] at r2 r3 r4
              obtain ⟨z0, z1, z2, z3, z4⟩ := HA.out.tk.geos
              obtain ⟨ub, HPB⟩ : ∃ ub : Bool, ∀ W, Calls Tryz.prog 18 #[.int .i64 (r : Int)] W fun e w' => e = .returned (.tuple #[.int .i64 (prP r : Int), .bool ub]) ∧ W = w' := by
                by_cases h4 : r % 4 < 2
                · refine ⟨false, fun W => ?_⟩
                  have h9 := Pr.pair_low r W (show r ≤ 9223372036854775807 by omega) h4
                  rw [show r + 2 = prP r by unfold prP; rw [if_pos h4]] at h9
                  exact h9
                · refine ⟨true, fun W => ?_⟩
                  have h9 := Pr.pair_up r W (show r ≤ 9223372036854775807 by omega) h4
                  rw [show r - 2 = prP r by unfold prP; rw [if_neg h4]] at h9
                  exact h9
              have HPC := Lib.hid HPB
              have HSP : Hid (∀ (W : World) (M : Ch) (G : Nat → Pg) (n p : Nat) (F : Nat → ByteArray), BT M m G n → p < 8 → TA w q k t ch bb pb M cc g pl g1 g2 f cs1 cs2 c1 c2 F W → Calls Tryz.prog 22 #[.pointer (some ⟨ch, 0, none⟩), .int .i64 0, .int .i64 (p : Int)] W fun e w' => e = .returned (.int .i64 0) ∧ TA w q k t ch bb pb (M.spoilM 0 p) cc g pl g1 g2 f cs1 cs2 c1 c2 F w' ∧ BT (M.spoilM 0 p) m (fun q => if q = p then (G p).spoilW else G q) n) := fun W M G n p F hB hp hA => by
                have h9 := spoilC_in ch bb pb M 0 p W hA.pn.i.chip (by rw [hB.nb]; omega) (by rw [hB.np]; omega)
                have e0 : ((0 : Nat) : Int) = 0 := rfl
                rw [e0] at h9
                exact h9.mono fun e w' ⟨he, hc, hu⟩ => ⟨he, hA.upd (hA.pn.i.chipped hu hc) (POwn.chip hu) rfl, hB.spoil p⟩
              have HFP : Hid (∀ j, (j < 5 ∨ j = 5 ∨ j = 7) → F j = P j) := fun j hj => HF.out j (by omega)
              clear HPB HWR HF
              go_upto_region 34 with fail
              clear y0 y1
              go_quiet (fail)
              have HA1 := Lib.hid (HA.out.quiet ((Upd.refl _ _).drewN nq))
              generalize wr.drewN nq = w0 at *
              clear z0 z1 z2 z3 z4 HA
              have hpr := prP_lt r hr8
              go_upto_region 38 with (first
                | (go_at_call 18; (with_reducible refine (HPC.out _).mono ?_); rintro e w1 ⟨rfl, rfl⟩)
                | (go_at_call 22; (with_reducible refine (HSP.out _ _ _ _ _ _ HB.out hr8 HA1.out).mono ?_); rintro e w2 ⟨rfl, ha, hb⟩; have A2 := Lib.hid ha; have B2 := Lib.hid hb; clear ha hb)
                | (go_at_call 22; (with_reducible refine (HSP.out _ _ _ _ _ _ B2.out hpr A2.out).mono ?_); rintro e w3 ⟨rfl, ha, hb⟩; have A3 := Lib.hid ha; have B3 := Lib.hid (hb.congr (lost_eq raws r)); clear ha hb))
              generalize (M.spoilM 0 r).spoilM 0 (prP r) = M3 at *
              clear A2 B2 HA1 HB HSP HPC hpr r1 r2 r3 r4
              have HMB : Hid (∀ (W : World) (kk : Nat) (M : Ch), kk < 2 → TA w q k t ch bb pb M cc g pl g1 g2 f cs1 cs2 c1 c2 F W → Calls Tryz.prog 20 #[.agg #[.slice (some ⟨g1, 0, none⟩) 5 c1, .slice (some ⟨g2, 0, none⟩) 2 c2], .int .i64 (kk : Int)] W fun e w' => ∃ v, e = .returned v ∧ Pr.OwnV w' W.heap.size v (mdL kk) ∧ Upd noBlock W w') := fun W kk M hk hA => members8 hA.tk kk hk
              have HRG : Hid (∀ (W : World) (M : Ch) (n p : Nat), BT M m (lostPg raws r) n → n < 1000 → p < 8 → p ≠ 6 → sp r p = false → TA w q k t ch bb pb M cc g pl g1 g2 f cs1 cs2 c1 c2 F W → Calls Tryz.prog 17 #[.pointer (some ⟨q, 0, none⟩), .int .i64 0, .int .i64 (p : Int)] W fun e w' => e = .returned (.tuple #[.agg #[.int .i64 1, .string (P p), .int .i64 0], .int .i64 0]) ∧ TA w q k t ch bb pb (M.readM 0) cc g pl g1 g2 f cs1 cs2 c1 c2 F w' ∧ BT (M.readM 0) m (lostPg raws r) (n + 1) ∧ KT 3 W w' ∧ KT 9 W w' ∧ W.heap.size ≤ w'.heap.size) := fun W M n p hB hn hp h6 hs hA => by
                have hpg : (M.bk 0).pg p = ⟨1, false, raws p⟩ := by rw [hB.pgs, lost_good raws r p hp h6 hs]
                have hsh : ((M.bk 0).pg p).show M.sz = raws p := by rw [hpg]; rfl
                have hrs : raws p = pageL t k 1 (T p).data.toList := by rw [← HRAW.out]
                have hln : (raws p).length = m := by
                  have h7 := pageL_size HG.out (T p).data.toList (by rw [HRO.out]; exact HPT.out.fits p)
                  rw [size_mk, HM.out] at h7
                  rw [hrs]; exact h7
                have h9 := pread_in q 2 8 1 k t ch bb pb M cc 0 (p : Int) 0 p n rfl rfl W HG.out hA.pn.i (hA.pn.tab (HTW.out _ (Upd.refl _ _))) hB.fit (by omega) (by rw [hB.nb]; omega) (by rw [hB.np]; omega) (by rw [hB.sz, HM.out]) hB.off (.inl hB.most) (by rw [hpg]; show 1 ≤ 2; omega) (by rw [hsh, hB.sz, hln])
                rw [hsh, hrs, found_page HG.out (T p).data.toList (by rw [HRO.out]; exact HPT.out.fits p), HRO.out] at h9
                refine h9.mono fun e w' ⟨he, hi, hu⟩ => ⟨?_, hA.upd hi hu rfl, hB.read, hA.pn.i.kt _ (by decide) hu, hA.pn.i.kt _ (by decide) hu, hu.size⟩
                rw [he]
                show Ending.returned (.tuple #[.agg #[.int .i64 1, .string ⟨(padL room (T p).data.toList).toArray⟩, .int .i64 0], .int .i64 0]) = _
                rw [HPT.out.pads p]
              have HRB : Hid (∀ (W : World) (M : Ch) (n p : Nat), BT M m (lostPg raws r) n → n < 1000 → p < 8 → p ≠ 6 → sp r p = true → TA w q k t ch bb pb M cc g pl g1 g2 f cs1 cs2 c1 c2 F W → Calls Tryz.prog 17 #[.pointer (some ⟨q, 0, none⟩), .int .i64 0, .int .i64 (p : Int)] W fun e w' => e = .returned (.tuple #[.agg #[.int .i64 2, .string ⟨#[]⟩, .int .i64 0], .int .i64 0]) ∧ TA w q k t ch bb pb (M.readM 0) cc g pl g1 g2 f cs1 cs2 c1 c2 F w' ∧ BT (M.readM 0) m (lostPg raws r) (n + 1) ∧ KT 3 W w' ∧ KT 9 W w' ∧ W.heap.size ≤ w'.heap.size) := fun W M n p hB hn hp h6 hs hA => by
                have hst : ((M.bk 0).pg p).st = 2 := by rw [hB.pgs, lost_bad raws r p hp h6 hs]
                have hsh : ((M.bk 0).pg p).show M.sz = zzL (1 * (k + (13 * t + 7) / 8)) := by
                  unfold Pg.show
                  rw [if_neg (by omega), if_neg (by omega), hB.sz, ← HM.out]; rfl
                have h9 := pread_in q 2 8 1 k t ch bb pb M cc 0 (p : Int) 0 p n rfl rfl W HG.out hA.pn.i (hA.pn.tab (HTW.out _ (Upd.refl _ _))) hB.fit (by omega) (by rw [hB.nb]; omega) (by rw [hB.np]; omega) (by rw [hB.sz, HM.out]) hB.off (.inl hB.most) (by rw [hst]; decide) (by rw [hsh, hB.sz, ← HM.out]; exact List.length_replicate ..)
                rw [hsh, found_zz HG.out] at h9
                exact h9.mono fun e w' ⟨he, hi, hu⟩ => ⟨he, hA.upd hi hu rfl, hB.read, hA.pn.i.kt _ (by decide) hu, hA.pn.i.kt _ (by decide) hu, hu.size⟩
              go_wp2
              go_loopw [26, 27, 28, 29, 30, 31, 32] (fun s26 s27 s28 s29 s30 s31 s32 wr => ∃ (kk : Nat) (M : Ch) (v27 v28 v29 v30 v31 v32 : Value), kk ≤ 2 ∧ s26 = .int .i64 (kk : Int) ∧ s27 = v27 ∧ s28 = v28 ∧ s29 = v29 ∧ s30 = v30 ∧ s31 = v31 ∧ s32 = v32 ∧ Hid (TA w q k t ch bb pb M cc g pl g1 g2 f cs1 cs2 c1 c2 F wr) ∧ Hid (∃ n, n ≤ 20 + 20 * kk ∧ BT M m (lostPg raws r) n)) (fun i _ _ _ _ _ _ _ => 2 - (intOf i).toNat)
              case atStart => exact ⟨0, M3, _, _, _, _, _, _, by omega, rfl, rfl, rfl, rfl, rfl, rfl, rfl, A3, ⟨_, by omega, B3.out⟩⟩
              case round =>
                clear A3 B3 M3 M
                obtain ⟨kk, M, v27, v28, v29, v30, v31, v32, hk, rfl, rfl, rfl, rfl, rfl, rfl, rfl, HA, HB⟩ := hrel
                by_cases h0 : kk < 2
                · have di : decide ((kk : Int) < 2) = true := decide_eq_true (by omega)
                  obtain ⟨wx, rfl⟩ : ∃ wx : World, wx = wr := ⟨_, rfl⟩
                  obtain ⟨px, hpx⟩ : ∃ px, parP kk = px := ⟨_, rfl⟩
                  have HPX := Lib.hid hpx
                  obtain ⟨D, hD⟩ : ∃ D, mdL kk = D := ⟨_, rfl⟩
                  have HDD := Lib.hid hD
                  have hDn : D.length ≤ 3 := by rw [← hD]; exact mdL_len kk
                  have HDN := Lib.hid hDn
                  obtain ⟨i0, hi0, hz0, hz1, hz2⟩ := intParts7
                  have HKA : Hid (∀ W, Hid (Upd noBlock wx W) → W.cell? ⟨pl, 0, none⟩ = some (.slice (some ⟨g1, 0, none⟩) 5 c1) ∧ W.cell? ⟨pl, 1, none⟩ = some (.slice (some ⟨g2, 0, none⟩) 2 c2) ∧ W.cell? ⟨g2, kk, none⟩ = some (.int .i64 (px : Int)) ∧ Hid (Upd noBlock wx W)) := fun W hW => by
                    have h9 := HA.out.quiet hW.out
                    have x2 := h9.tk.par kk h0
                    rw [HPX.out] at x2
                    exact ⟨h9.tk.plans.1, h9.tk.plans.2, x2, hW⟩
                  have HMC : Hid (∀ W, Hid (Upd noBlock wx W) → Calls Tryz.prog 20 #[.agg #[.slice (some ⟨g1, 0, none⟩) 5 c1, .slice (some ⟨g2, 0, none⟩) 2 c2], .int .i64 (kk : Int)] W fun e w' => ∃ v, e = .returned v ∧ Pr.OwnV w' wx.heap.size v D ∧ Upd noBlock W w') := fun W hW => by
                    have h9 := HMB.out W kk M h0 (HA.out.quiet hW.out)
                    rw [HDD.out] at h9
                    exact h9.mono fun e w' ⟨v, he, ho, hu⟩ => ⟨v, he, ho.more hW.out.size, hu⟩
                  have V0 : Hid (Upd noBlock wx wx) := Upd.refl _ _
                  have V1 : Hid (Upd noBlock wx wx.drew) := (Upd.refl _ _).drew
                  have HAL : Hid (∀ (W : World) O, Hid (Upd noBlock wx W) → Hid (Upd noBlock wx (W.alloc O))) := fun W O h => h.out.alloc O
                  have HDR : Hid (∀ (W : World), Hid (Upd noBlock wx W) → Hid (Upd noBlock wx W.drew)) := fun W h => h.out.drew
                  have i1 : (0 : Int) ≤ (kk : Int) := by omega
                  have i2 : (kk : Int) < 2 := by omega
                  obtain ⟨wa, hwa⟩ : ∃ wa, wa = (wx.alloc (.cells #[.int .i64 (px : Int)] 3)).drew := ⟨_, rfl⟩
                  have VA : Hid (Upd noBlock wx (wx.alloc (.cells #[.int .i64 (px : Int)] 3)).drew) := ((Upd.refl _ _).alloc _).drew
                  have RA : Hid (∀ W, Upd noBlock (wx.alloc (.cells #[.int .i64 (px : Int)] 3)).drew W → Row1 W (wx.heap.size + 1) (some ⟨wx.heap.size, 0, none⟩) 1 [.int .i64 (px : Int)]) := fun W hW => (Row1.one wx 3 (.int .i64 (px : Int))).grow ((Upd.refl _ _).drew.trans hW) (by rw [World.size_alloc]; exact Nat.le_refl _)
                  clear hpx hD hDn hwa
                  go_upto_region 41 with fail
                  go_cut [27] from 203 to 212 (fun s27 wz => Hid (Pr.OwnV wz wx.heap.size s27 (D ++ [(px : Int)])) ∧ Hid (Upd noBlock wx wz))
                  case first =>
                    -- [[
                    go_region_held_law (fun W => W.cell? ⟨pl, 0, none⟩ = some (.slice (some ⟨g1, 0, none⟩) 5 c1) ∧ W.cell? ⟨pl, 1, none⟩ = some (.slice (some ⟨g2, 0, none⟩) 2 c2) ∧ W.cell? ⟨g2, kk, none⟩ = some (.int .i64 (px : Int)) ∧ Hid (Upd noBlock wx W))
                      (first | with_reducible exact HKA.out _ V0 | with_reducible exact HKA.out _ VA | with_reducible exact HKA.out _ (HAL.out _ _ V0) | with_reducible exact HKA.out _ V1 | with_reducible exact HKA.out _ V5 | with_reducible exact HKA.out _ (HAL.out _ _ V5) | with_reducible exact HKA.out _ V6 | with_reducible exact HKA.out _ (HAL.out _ _ V1) | with_reducible exact HKA.out _ (HDR.out _ V5) | with_reducible exact HKA.out _ (HDR.out _ V6))
                      (first
                        | (go_simp; go_at_call 20; (with_reducible refine (HMC.out _ VA).mono ?_); rintro e w5 ⟨v5, rfl, ho5, hu5⟩; have O5 := Lib.hid ho5; have V5 := Lib.hid (VA.out.trans hu5); have R5 := Lib.hid (RA.out _ hu5); clear ho5 hu5)
                        | (go_simp; go_at_call 20; (with_reducible refine (HMC.out _ V1).mono ?_); rintro e w5 ⟨v5, rfl, ho5, hu5⟩; have O5 := Lib.hid ho5; have V5 := Lib.hid (V1.out.trans hu5); have R5b := Lib.hid (Row1.one w5 3 (.int .i64 (px : Int))); clear ho5 hu5)
                        | (refine step_append_at 212 rfl rfl (.tmp 205) (.tmp 211) 47 rfl wx.heap.size 3 i0 _ 8 Tryz.underlying47 hi0 hz0 hz1 hz2 rfl _ D.length (vals D) rfl O5.out (wx.heap.size + 1) (some ⟨wx.heap.size, 0, none⟩) 1 1 [.int .i64 (px : Int)] rfl R5.out (by intro u hu; simp at hu; subst hu; rfl) (by have := HDN.out; simp only [maxLen]; omega) (by have := HDN.out; omega) V5.out.size ?_; intro v6 w6 hO6 hg6; simp only [List.setIfInBounds_toArray, List.set_cons_zero, List.set_cons_succ]; have O6 : Hid (Pr.OwnV w6 wx.heap.size v6 (D ++ [(px : Int)])) := Pr.OwnV.snoc hO6; have V6 : Hid (Upd noBlock wx w6) := V5.out.grownOwn hg6 (fun i hi => (O5.out.lt i hi).1); clear hO6 hg6)
                        | (refine step_append_at 212 rfl rfl (.tmp 205) (.tmp 211) 47 rfl wx.heap.size 3 i0 _ 8 Tryz.underlying47 hi0 hz0 hz1 hz2 rfl _ D.length (vals D) rfl (O5.out.grow ((Upd.refl noBlock w5).alloc (.cells #[.int .i64 (px : Int)] 3))) (w5.heap.size + 1) (some ⟨w5.heap.size, 0, none⟩) 1 1 [.int .i64 (px : Int)] rfl R5b.out (by intro u hu; simp at hu; subst hu; rfl) (by have := HDN.out; simp only [maxLen]; omega) (by have := HDN.out; omega) (by have := V5.out.size; simp; omega) ?_; intro v6 w6 hO6 hg6; simp only [List.setIfInBounds_toArray, List.set_cons_zero, List.set_cons_succ]; have O6 : Hid (Pr.OwnV w6 wx.heap.size v6 (D ++ [(px : Int)])) := Pr.OwnV.snoc hO6; have V6 : Hid (Upd noBlock wx w6) := (V5.out.alloc _).grownOwn hg6 (fun i hi => ((O5.out.grow ((Upd.refl noBlock w5).alloc (.cells #[.int .i64 (px : Int)] 3))).lt i hi).1); clear hO6 hg6))
                    all_goals
                      go_wp2
                      go_meet
                      exact ⟨O6, V6⟩
                    -- ]]
                  case rest =>
                    obtain ⟨HO6, HV6⟩ := hcut
                    obtain ⟨wl, rfl⟩ : ∃ wl : World, wl = wc := ⟨_, rfl⟩
                    have hmm : D ++ [(px : Int)] = mmL kk := by rw [← HDD.out, ← HPX.out]; exact md_mm ⟨kk, h0⟩
                    have ho6 := HO6.out
                    rw [hmm] at ho6
                    obtain ⟨ml, hml⟩ : ∃ ml, (mmL kk).length = ml := ⟨_, rfl⟩
                    have hml4 : ml ≤ 4 := by rw [← hml]; unfold mmL; split <;> decide
                    have hml0 : 0 < ml := by rw [← hml]; unfold mmL; split <;> decide
                    obtain ⟨gm, csm, cm, rfl, hbm, hcm⟩ := own_head ho6 (by rw [hml]; exact hml0)
                    rw [hml] at hcm ⊢
                    have HML := Lib.hid hml
                    have HCM := Lib.hid hcm
                    have BM := Lib.hid hbm
                    have HAL6 := Lib.hid (HA.out.quiet HV6.out)
                    have HLF : Hid (f < wl.heap.size) := HAL6.out.tk.full.lt
                    have HWL : Hid (w.heap.size ≤ wl.heap.size) := HAL6.out.pn.u.size
                    clear hml hcm hbm ho6 hmm HO6 HA HV6 HKA HMC V0 V1 VA RA HAL HDR HDD HDN
                    obtain ⟨i0, hi0, hz0, hz1, hz2⟩ := info_parts strInfoT
                    obtain ⟨n0, hn0, hB0⟩ := HB.out
                    have HB0 := Lib.hid hB0
                    clear hB0 HB
                    have k0 : ∀ (W : World) (x y z : Value), (W.alloc (.cells #[x, y, z] 40)).cell? ⟨W.heap.size, 0, none⟩ = some x := fun W x y z => cell_of (heap_alloc_new W _) 0
                    have k1 : ∀ (W : World) (x y z : Value), (W.alloc (.cells #[x, y, z] 40)).cell? ⟨W.heap.size, 1, none⟩ = some y := fun W x y z => cell_of (heap_alloc_new W _) 1
                    go_wp2
                    go_loopw [28, 29, 30, 31, 32] (fun s28 s29 s30 s31 s32 wr => ∃ (ii : Nat) (M : Ch) (v31 v32 : Value), ii ≤ ml ∧ s30 = .int .i64 (ii : Int) ∧ s28 = .int .i64 (goneOf r ((mmL kk).take ii)) ∧ s31 = v31 ∧ s32 = v32 ∧ Hid (OwnS wr wl.heap.size 9 s29 (alive r P ((mmL kk).take ii))) ∧ Hid (TA w q k t ch bb pb M cc g pl g1 g2 f cs1 cs2 c1 c2 F wr) ∧ Hid (BT M m (lostPg raws r) (n0 + ii)) ∧ Hid (wr.heap[gm]? = some (.cells csm 3 (0, 0))) ∧ Hid (wl.heap.size ≤ wr.heap.size)) (fun _ _ i _ _ _ => ml - (intOf i).toNat)
                    case atStart => exact ⟨0, M, _, _, by omega, rfl, rfl, rfl, rfl, OwnS.nil _ _ _, HAL6, HB0, BM, Nat.le_refl _⟩
                    case round =>
                      clear HAL6 HB0 BM M
                      obtain ⟨ii, M, v31, v32, hii, rfl, rfl, rfl, rfl, HO, HA, HB, BM, HLE⟩ := hrel
                      by_cases h1 : ii < ml
                      · have di6 : decide ((ii : Int) < (ml : Int)) = true := decide_eq_true (by omega)
                        have di7 : decide (ii < ml) = true := decide_eq_true h1
                        have hil : ii < (mmL kk).length := by rw [HML.out]; exact h1
                        obtain ⟨p, hp, hp8, hp6⟩ := mm_page ⟨kk, h0⟩ ⟨ii, by omega⟩ hil
                        simp only at hp
                        have cm1 : wr.cell? ⟨gm, ii, none⟩ = some (.int .i64 (p : Int)) := by
                          rw [cell_of BM.out, HCM.out ii h1]
                          unfold vals
                          rw [List.getElem?_map, List.getElem?_eq_getElem hil]
                          rw [List.getD_eq_getElem?_getD, List.getElem?_eq_getElem hil] at hp
                          have hp' : (mmL kk)[ii] = (p : Int) := hp
                          rw [hp']; rfl
                        have hgs := goneOf_succ r (mmL kk) ii hil
                        have has := alive_succ r P (mmL kk) ii hil
                        have hpt : ((mmL kk).getD ii 0).toNat = p := by rw [hp, Int.toNat_natCast]
                        rw [hpt, hp] at hgs
                        rw [hpt] at has
                        have hon := once ⟨kk, h0⟩ ⟨r, hr8⟩ ⟨ii, by omega⟩ hil
                        simp only [hpt] at hon
                        have i1 : (0 : Int) ≤ (ii : Int) := by omega
                        have i2 : (ii : Int) < (ml : Int) := by omega
                        have HPS := Lib.hid (HPT.out.sizes p)
                        obtain ⟨pp, hpq⟩ : ∃ pp, P p = pp := ⟨_, rfl⟩
                        rw [hpq] at has HPS
                        have hql : (alive r P ((mmL kk).take ii)).length ≤ 4 := by
                          have h7 := alive_len r P ((mmL kk).take ii)
                          rw [List.length_take] at h7
                          omega
                        cases hsp : sp r p with
                        | false =>
                          -- [[
                          rw [hsp, if_neg (by decide)] at hgs has
                          have HAS := Lib.hid has
                          have HGS := Lib.hid hgs
                          have HQL := Lib.hid hql
                          have HRD := Lib.hid (HRG.out wr M (n0 + ii) p HB.out (by omega) hp8 hp6 hsp HA.out)
                          rw [hpq] at HRD
                          generalize goneOf r ((mmL kk).take ii) = gz at *
                          generalize alive r P ((mmL kk).take ii) = Q at *
                          clear hgs has hon hpt hp hpq hql hsp
                          go_upto_region 51 with (go_at_call 17; (with_reducible refine HRD.out.mono ?_); rintro e w7 ⟨rfl, ha, hb, kt1, kt2, hsz⟩; have A7 := Lib.hid ha; have B7 := Lib.hid hb; have M7 : Hid (w7.heap[gm]? = some (.cells csm 3 (0, 0))) := kt1 _ _ BM.out; have O7 := Lib.hid (HO.out.kt kt2); have L7 : Hid (wl.heap.size ≤ w7.heap.size) := Nat.le_trans HLE.out hsz; clear ha hb kt1 kt2 hsz)
                          obtain ⟨wf, hwf⟩ : ∃ wf, wf = w7.alloc (.cells #[.int .i64 1, .string pp, .int .i64 0] 40) := ⟨_, rfl⟩
                          have UF : Hid (Upd noBlock w7 wf) := by rw [hwf]; exact (Upd.refl _ _).alloc _
                          have x0 : wf.cell? ⟨w7.heap.size, 0, none⟩ = some (.int .i64 1) := by rw [hwf]; exact k0 _ _ _ _
                          have x1 : wf.cell? ⟨w7.heap.size, 1, none⟩ = some (.string pp) := by rw [hwf]; exact k1 _ _ _ _
                          rw [← hwf]
                          have UG : Hid (Upd noBlock w7 (wf.alloc (.cells #[.string pp] 9))) := UF.out.alloc _
                          have O9 := Lib.hid (O7.out.grow UG.out)
                          have A9 := Lib.hid (A7.out.quiet UG.out)
                          have M9 : Hid ((wf.alloc (.cells #[.string pp] 9)).heap[gm]? = some (.cells csm 3 (0, 0))) := (UG.out.block gm (lt_of_block M7.out) id).trans M7.out
                          have L9 : Hid (wl.heap.size ≤ wf.heap.size) := Nat.le_trans L7.out UF.out.size
                          have HI := Lib.hid (Row1.one wf 9 (.string pp))
                          clear hwf HRD BM HO HA HB HLE A7 M7 O7
                          go_wp2_with (first
                            | (at_builtin; refine wpList_append_vals _ rfl (.tmp 233) (.tmp 236) _ rfl wl.heap.size 9 i0 _ 16 Tryz.underlying22 hi0 hz0 hz1 hz2 rfl _ Q.length (Q.map Value.string) rfl O9.out (wf.heap.size + 1) (some ⟨wf.heap.size, 0, none⟩) 1 1 [.string pp] rfl HI.out (by intro u hu; simp at hu; subst hu; rfl) (by have := HQL.out; simp only [maxLen]; omega) (by have := HQL.out; omega) (by have := L9.out; simp; omega) ?_; intro v9 w9 hown9 hg9 _))
                          have hA9 := Lib.hid (A9.out.grown O9.out HLF.out HWL.out hg9)
                          have hM9 := Lib.hid (int_grown M9.out O9.out hg9)
                          have hsz9 : wf.heap.size ≤ (wf.alloc (.cells #[.string pp] 9)).heap.size := by rw [World.size_alloc]; exact Nat.le_succ _
                          have hL9 : Hid (wl.heap.size ≤ w9.heap.size) := Nat.le_trans (Nat.le_trans L9.out hsz9) hg9.size
                          have hO9 := Lib.hid (OwnS.snoc hown9)
                          clear hown9 hg9 hsz9 A9 O9 M9 L9 UG UF x0 x1 HI
                          go_roundw
                          case rel => exact ⟨ii + 1, _, _, _, by omega, by go_num, by rw [HGS.out], rfl, rfl, by rw [HAS.out]; exact hO9, hA9, B7, hM9, hL9⟩
                          case measure => simp [intOf]; omega
                          -- ]]
                        | true =>
                          -- [[
                          rw [hsp, if_pos rfl] at hgs has
                          have hg1 := hon hsp
                          have HAS := Lib.hid has
                          have HGS := Lib.hid hgs
                          have HRD := Lib.hid (HRB.out wr M (n0 + ii) p HB.out (by omega) hp8 hp6 hsp HA.out)
                          rw [hg1]
                          generalize alive r P ((mmL kk).take ii) = Q at *
                          clear hgs has hon hpt hp hpq hql hsp hg1
                          have hng : decide ((0 : Int) ≤ -1) = false := by decide
                          go_upto_region 50 with (go_at_call 17; (with_reducible refine HRD.out.mono ?_); rintro e w7 ⟨rfl, ha, hb, kt1, kt2, hsz⟩; have A7 := Lib.hid ha; have B7 := Lib.hid hb; have M7 : Hid (w7.heap[gm]? = some (.cells csm 3 (0, 0))) := kt1 _ _ BM.out; have O7 := Lib.hid (HO.out.kt kt2); have L7 : Hid (wl.heap.size ≤ w7.heap.size) := Nat.le_trans HLE.out hsz; clear ha hb kt1 kt2 hsz)
                          obtain ⟨wf, hwf⟩ : ∃ wf, wf = w7.alloc (.cells #[.int .i64 2, .string ⟨#[]⟩, .int .i64 0] 40) := ⟨_, rfl⟩
                          have UF : Hid (Upd noBlock w7 wf) := by rw [hwf]; exact (Upd.refl _ _).alloc _
                          have x0 : wf.cell? ⟨w7.heap.size, 0, none⟩ = some (.int .i64 2) := by rw [hwf]; exact k0 _ _ _ _
                          rw [← hwf]
                          have O9 := Lib.hid (O7.out.grow UF.out)
                          have A9 := Lib.hid (A7.out.quiet UF.out)
                          have hb9 : wf.heap[gm]? = some (.cells csm 3 (0, 0)) := (UF.out.block gm (lt_of_block M7.out) id).trans M7.out
                          have M9 := Lib.hid hb9
                          have cm9 : wf.cell? ⟨gm, ii, none⟩ = some (.int .i64 (p : Int)) := by
                            rw [cell_of hb9, ← cell_of BM.out]; exact cm1
                          have L9 : Hid (wl.heap.size ≤ wf.heap.size) := Nat.le_trans L7.out UF.out.size
                          clear hwf HRD cm1 BM HO HA HB HLE A7 M7 O7 hb9
                          go_wp2
                          go_roundw
                          case rel => exact ⟨ii + 1, _, _, _, by omega, by go_num, by rw [HGS.out], rfl, rfl, by rw [HAS.out]; exact O9, A9, B7, M9, L9⟩
                          case measure => simp [intOf]; omega
                          -- ]]
                      · obtain rfl : ii = ml := by omega
                        have htk : (mmL kk).take ii = mmL kk := List.take_of_length_le (Nat.le_of_eq HML.out)
                        rw [htk] at HO ⊢
                        have hfit : ∀ s ∈ alive r P (mmL kk), s.size ≤ maxLen := fun s hs => by
                          have h7 := alive_mem (n := room) (fun p => Nat.le_of_eq (HPT.out.sizes p)) s hs
                          simp only [maxLen]; omega
                        rcases group_back r hr8 kk h0 (room : Int) P (fun p => by rw [xsz_room room (by omega)]; exact HPT.out.sizes p) HPT.out.p5 HPT.out.p7 with hg | ⟨pz, ⟨hz8, hz6⟩, hgz, hxz⟩
                        · rw [hg]
                          have hng : decide ((0 : Int) ≤ -1) = false := by decide
                          clear hfit htk HO
                          go_upto_region 55 with fail
                          go_quiet (fail)
                          go_wp2
                          go_roundw
                          case rel => exact ⟨kk + 1, M, _, _, _, _, _, _, by omega, by go_num, rfl, rfl, rfl, rfl, rfl, rfl, HA.out.quiet ((Upd.refl _ _).drewN nq), ⟨_, by omega, HB.out⟩⟩
                          case measure => simp [intOf]; omega
                        · rw [hgz]
                          have hng : decide ((0 : Int) ≤ (pz : Int)) = true := decide_eq_true (by omega)
                          have hfz : F pz = P pz := HFP.out pz (by omega)
                          obtain ⟨pq, hpq⟩ : ∃ pq, P pz = pq := ⟨_, rfl⟩
                          rw [hpq] at hxz hfz
                          obtain ⟨a7, c7, hv, r7, hb7⟩ := HO.out.sl hfit
                          subst hv
                          have hn7 : (alive r P (mmL kk)).length ≤ 4 := Nat.le_trans (alive_len r P (mmL kk)) (by rw [HML.out]; omega)
                          have R7 := Lib.hid r7
                          have HXZ := Lib.hid hxz
                          generalize alive r P (mmL kk) = Q at *
                          obtain ⟨n7, hn⟩ : ∃ n7, Q.length = n7 := ⟨_, rfl⟩
                          rw [hn] at R7 hn7 ⊢
                          obtain ⟨wx, rfl⟩ : ∃ wx : World, wx = wr := ⟨_, rfl⟩
                          have HXR : Hid (∀ W, Hid (Upd noBlock wx W) → Calls Tryz.prog 21 #[.int .i64 (room : Int), .slice a7 n7 c7] W fun e w' => e = .returned (.string pq) ∧ Hid (Upd noBlock wx w')) := fun W hW => by
                            have h9 := xor_any (room : Int) a7 n7 c7 wx.heap.size Q W (R7.out.grow hW.out (Nat.le_refl _)) hW.out.size (by omega)
                            rw [HXZ.out] at h9
                            exact h9.mono fun e w' ⟨he, hu⟩ => ⟨he, hW.out.trans hu⟩
                          have HKA : Hid (∀ W, Hid (Upd noBlock wx W) → W.cell? ⟨f, pz, none⟩ = some (.string pq) ∧ Hid (Upd noBlock wx W)) := fun W hW => by
                            have h9 := (HA.out.quiet hW.out).tk.full.cell pz hz8
                            rw [hfz] at h9
                            exact ⟨h9, hW⟩
                          have V0 : Hid (Upd noBlock wx wx) := Upd.refl _ _
                          have V1 : Hid (Upd noBlock wx wx.drew) := (Upd.refl _ _).drew
                          have HDR : Hid (∀ (W : World), Hid (Upd noBlock wx W) → Hid (Upd noBlock wx W.drew)) := fun W h => h.out.drew
                          have es : (pq.toList == pq.toList) = true := beq_self_eq_true _
                          have i1 : (0 : Int) ≤ (pz : Int) := by omega
                          have i2 : (pz : Int) < 8 := by omega
                          clear hfz hpq hxz r7 hb7 hn hfit htk hgz HO
                          go_upto_region 55 with fail
                          go_region_held3 (fun W => W.cell? ⟨f, pz, none⟩ = some (.string pq) ∧ Hid (Upd noBlock wx W))
                            (first | with_reducible exact HKA.out _ V0 | with_reducible exact HKA.out _ V1 | with_reducible exact HKA.out _ V9 | with_reducible exact HKA.out _ (HDR.out _ V9))
                            (first
                              | (go_at_call 21; (with_reducible refine (HXR.out _ V1).mono ?_); rintro e w9 ⟨rfl, V9⟩)
                              | (go_at_call 21; (with_reducible refine (HXR.out _ V0).mono ?_); rintro e w9 ⟨rfl, V9⟩))
                          go_wp2
                          go_roundw
                          case rel => exact ⟨kk + 1, M, _, _, _, _, _, _, by omega, by go_num, rfl, rfl, rfl, rfl, rfl, rfl, HA.out.quiet V9.out, ⟨_, by omega, HB.out⟩⟩
                          case measure => simp [intOf]; omega
                · obtain rfl : kk = 2 := by omega
                  go_wp2
                  go_ret
                  exact ⟨rfl, HA.out.pn.u⟩
end Go.Proofs.YtjcmfaadoealgaaGreatDoor

/- TopPairBack: the walk as the law's text wants it. -/
namespace Go.Proofs.YtjcmfaadoealgaaGreatDoor
open Go.RowKit
set_option linter.unusedVariables false

theorem topPairBack_walk (n : Int) (a : Option Addr) (L c : Nat) (Ss : List ByteArray) (lo : Int) (w : World) (_ : (Lit.int .i64 n).wf = true) (hS : Strs w w.heap.size a L Ss) (hL : L ≤ 8796093021952) (_ : (Lit.int .i64 lo).wf = true) (hT : Tab w) :
    Calls Tryz.prog 4 #[.int .i64 n, .slice a L c, .int .i64 lo] w fun e w' => e = .returned (.bool true) ∧ Below w.heap.size w w' :=
  (pairBack_any n a L c Ss lo w hS hL hT).mono fun _ _ ⟨he, hu⟩ => ⟨he, hu.below (fun _ _ h => h)⟩
end Go.Proofs.YtjcmfaadoealgaaGreatDoor
