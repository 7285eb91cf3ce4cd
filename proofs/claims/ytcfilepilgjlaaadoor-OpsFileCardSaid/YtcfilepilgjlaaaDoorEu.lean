/- OpsFile. -/
import Derived.Test.YtcfilepilgjlaaaDoorEv
import Derived.Test.YtcfilepilgjlaaaDoorEo
import Derived.BigQuiet
namespace Go.Proofs.YtcfilepilgjlaaaDoor
open Go.RowKit

set_option maxRecDepth 100000 in
set_option maxHeartbeats 3200000 in
theorem opsFile_upd (a : Option Addr) (n0 c0 : Nat) (xs : List Int) (b : Option Addr) (n1 c1 : Nat) (Ss : List ByteArray) (w : World) (hI : Ints w w.heap.size a n0 xs) (hn0 : n0 ≤ maxLen) (hS : Strs w w.heap.size b n1 Ss) (hn1 : n1 ≤ 8796093021952) :
    Calls Tryd.prog 4 #[.slice a n0 c0, .slice b n1 c1] w fun e w' => e = .returned (.bool true) ∧ Upd noBlock w w' := by
  have HI := Lib.hid hI
  have HS := Lib.hid hS
  have hm0 : n0 ≤ 9223372036854775807 := by unfold maxLen at hn0; omega
  have hm1 : n1 ≤ 9223372036854775807 := by omega
  have hmk := makeS 200 200 rfl (by decide)
  clear hI hS
  go_enter Tryd.func4, Tryd.ntmps4
  go_upto_region 4 with (go_at_call 7; refine (speaksE_any _).mono ?_; rintro e w1 ⟨rfl, u1⟩; have U1 := Lib.hid u1; clear u1)
  obtain ⟨gP, hgP⟩ : ∃ g, w1.heap.size = g := ⟨_, rfl⟩
  have P0 : Hid (RS (w1.alloc (.cells (madeCells #[.string ⟨#[]⟩] 200) 9)) gP 200 (fun _ => ⟨#[]⟩)) := by rw [← hgP]; exact RS.made w1 200
  have V0 := Lib.hid (U1.out.alloc (.cells (madeCells #[.string ⟨#[]⟩] 200) 9))
  have HGP : Hid (w.heap.size ≤ gP) := by show _ ≤ _; rw [← hgP]; exact U1.out.size
  have HGE := Lib.hid hgP
  clear hgP
  go_wp2
  rw [HGE.out]
  go_loopw [5, 7, 8] (fun s5 s7 s8 wr => ∃ (v : Value) (φ : Nat → UInt8) (n : Nat) (f : Nat → ByteArray) (k : Nat), v = s5 ∧ s7 = .int .i64 (n : Int) ∧ s8 = .int .i64 (k : Int) ∧ k ≤ 100 ∧ Hid (FInv φ n f) ∧ Hid (OwnB wr w.heap.size v (bytesAt φ 0 n)) ∧ Hid (RS wr gP 200 f) ∧ Hid (Upd noBlock w wr)) (fun _ _ s8 _ => 100 - (intOf s8).toNat)
  case atStart => exact ⟨_, fun _ => 0, 0, fun _ => ⟨#[]⟩, 0, rfl, rfl, rfl, by decide, ⟨fun _ _ => rfl, by decide, fun _ _ => rfl, fun _ => by decide⟩, OwnB.nil _ _, P0, V0⟩
  case round =>
    clear P0 V0 hmk U1 HGE
    obtain ⟨v, φ, n, f, k, rfl, rfl, rfl, hk, HF, HO, HR, HU⟩ := hrel
    obtain ⟨wo, rfl⟩ : ∃ wo : World, wo = wr := ⟨_, rfl⟩
    by_cases h0 : k < n0 ∧ k < n1 ∧ k < 100
    · obtain ⟨h1, h2, h3⟩ := h0
      have h3i : decide ((k : Int) < 100) = true := decide_eq_true (by omega)
      obtain ⟨ga, oa, hab, hla, hca⟩ := HI.out.cell (by omega)
      obtain ⟨gb, ob, hbb, hlb, hcb⟩ := HS.out.cell (by omega)
      subst hab hbb
      obtain ⟨x, hx⟩ : ∃ x, xs.getD k 0 = x := ⟨_, rfl⟩
      obtain ⟨st, hst⟩ : ∃ st, Ss.getD k ⟨#[]⟩ = st := ⟨_, rfl⟩
      have HST : Hid (st.size ≤ maxLen) := by have := HS.out.at h2; rw [hst] at this; exact this
      have HCT : Hid (∀ W, Upd noBlock w W → W.cell? ⟨gb, ob + k, none⟩ = some (.string st)) := fun W hu => by
        have := upd_cell hu (hcb k h2); rwa [hst] at this
      have ca := upd_cell HU.out (hca k h1)
      rw [hx] at ca
      have cb := HCT.out wo HU.out
      have hn := HF.out.le
      clear hca hcb hx hst HI HS
      obtain ⟨bad, hbad⟩ : ∃ t : Bool, (decide (x < 0) || decide (2000 < x)) = t := ⟨_, rfl⟩
      have HBAD := Lib.hid hbad
      clear hbad
      go_upto_region 10 with fail
      go_cut [51] from 46 to 211 (fun t wx => t = .bool bad ∧ wo = wx)
      case first =>
        by_cases e1 : x < 0
        · go_wp2_with fail
          go_meet
          exact ⟨by rw [← HBAD.out]; simp [e1], rfl⟩
        · by_cases e2 : 2000 < x
          · go_wp2_with fail
            go_meet
            exact ⟨by rw [← HBAD.out, decide_eq_true e2, Bool.or_true], rfl⟩
          · go_wp2_with fail
            go_meet
            exact ⟨by rw [← HBAD.out]; simp [e1, e2], rfl⟩
      case rest =>
      obtain ⟨rfl, hwx⟩ := hcut
      subst hwx
      go_upto_if 51 with fail
      go_cut [9] from 42 to 211 (fun v9 wx => ∃ o : Nat, o ≤ 2000 ∧ v9 = .int .i64 (o : Int) ∧ wo = wx)
      case first =>
        cases hbb : bad
        · rw [hbb] at HBAD
          have hb := HBAD.out
          simp at hb
          obtain ⟨o, rfl⟩ : ∃ o : Nat, x = (o : Int) := ⟨x.toNat, by omega⟩
          go_wp2_with fail
          go_meet
          exact ⟨o, by omega, rfl, rfl⟩
        · go_wp2_with fail
          go_meet
          exact ⟨100, by decide, rfl, rfl⟩
      case rest =>
      obtain ⟨o, ho, rfl, hwx⟩ := hcut
      subst hwx
      clear ca HBAD
      obtain ⟨eb, heb⟩ : ∃ t, st.toList.isEmpty = t := ⟨_, rfl⟩
      go_upto_if 56 with fail
      go_cut [5, 7, 10] from 57 to 211 (fun v5 v7 v10 wx => ∃ (v' y : Value) (ψ : Nat → UInt8) (m : Nat) (L : List (Int × List UInt8)), v' = v5 ∧ v7 = .int .i64 (m : Int) ∧ y = v10 ∧ L.length ≤ 1000 ∧ Hid (FInv ψ m (putAL f L)) ∧ Hid (OwnB wx w.heap.size v' (bytesAt ψ 0 m)) ∧ Hid (RS wx gP 200 f) ∧ Hid (wx.ownsRow w.heap.size 42 6 y L.length (chL 1 L)) ∧ Hid (∀ c ∈ L, 0 ≤ c.1 ∧ c.1 < 200 ∧ c.2.length ≤ 64) ∧ Hid (Upd noBlock w wx))
      case first =>
        cases eb
        rotate_left
        · as_aux_lemma =>
            by_cases hon : o < n
            · obtain ⟨q, hq⟩ : ∃ q, f (o / 64) = q := ⟨_, rfl⟩
              have cq := HR.out.cell (o / 64) (by omega)
              rw [hq] at cq
              have e1 : ((o : Int)).tdiv 64 = ((o / 64 : Nat) : Int) := by rw [Int.tdiv_eq_ediv_of_nonneg (by omega)]; omega
              have hp1 := pcs_eq (o : Int)
              have hp2 := pcs_eq (n : Int)
              have HCU := Lib.hid (Cut_any 1 (n : Int) (o : Int) q wo (by omega) (by omega) (by omega) (by rw [← hq]; have := HF.out.fit (o / 64); unfold maxLen; omega))
              have HFI : Hid (FInv (fun x => if x < o then φ x else 0) o (putAL f (ctA (o : Int) q ++ ctB (o : Int) (pcs (n : Int) - pcs (o : Int)).toNat))) := by rw [← hq]; exact inv_cut HF.out o hon
              have HLM : Hid (∀ c ∈ ctA (o : Int) q ++ ctB (o : Int) (pcs (n : Int) - pcs (o : Int)).toNat, 0 ≤ c.1 ∧ c.1 < 200 ∧ c.2.length ≤ 64) := fun c hc => by
                obtain ⟨z1, z2, z3⟩ := ct_mem (o : Int) q _ (by omega) (by omega) (by omega) c hc
                refine ⟨z1, ?_, z3⟩
                rcases List.mem_append.1 hc with h | h
                · unfold ctA at h
                  split at h
                  · have := (difL_mem _ _ _ _ c h).2.1; omega
                  · cases h
                · obtain ⟨i, hi, rfl⟩ := List.mem_map.1 h
                  have := List.mem_range.1 hi
                  show pcs (o : Int) + (i : Int) < 200
                  omega
              have hLL : (ctA (o : Int) q ++ ctB (o : Int) (pcs (n : Int) - pcs (o : Int)).toNat).length ≤ 1000 := by
                rw [List.length_append]
                have := ctA_len (o : Int) q
                have : (ctB (o : Int) (pcs (n : Int) - pcs (o : Int)).toNat).length = (pcs (n : Int) - pcs (o : Int)).toNat := by unfold ctB; simp
                omega
              generalize ctA (o : Int) q ++ ctB (o : Int) (pcs (n : Int) - pcs (o : Int)).toNat = L at *
              have hO := HO.out
              obtain ⟨gv, cv, rfl, hcv, _⟩ := hO.form8 (by rw [bytesAt_length]; omega) (bytesAt_length φ 0 n)
              have hO2 := hO.head8 o (by rw [bytesAt_length]; omega)
              rw [bytesAt_take φ n o (by omega)] at hO2
              have HO2 : Hid (∀ W, Upd noBlock wo W → OwnB W w.heap.size (.slice (some ⟨gv, 0, none⟩) o cv) (bytesAt (fun x => if x < o then φ x else 0) 0 o)) := fun W hu => hO2.grow hu
              obtain ⟨i0, hi0, _, hz1, _⟩ := info_parts byteInfoB
              have hsl : ∀ w' : World, (Instr.sliceAt 37 (.slice (some ⟨gv, 0, none⟩) n cv) none (some (.int .i64 (o : Int))) none).run Tryd.prog w' = .ok (.slice (some ⟨gv, 0, none⟩) o cv) w' := fun w' => by
                have h := run_slice_lo1 w' 37 5 i0 Tryd.underlying37 hi0 (some ⟨gv, 0, none⟩) n cv o (by omega) hcv
                rw [h, if_neg (by omega)]
                simp [Addr.add]
              clear hO hO2 hq hp1 hp2 hi0 hz1
              go_wp2_with (first | (go_at_call 12; (with_reducible refine HCU.out.mono ?_); rintro e w2 ⟨y, rfl, k2⟩; have K2 := Lib.hid (k2.back HU.out); have R2 := Lib.hid (HR.out.grow k2.up); have O2 := Lib.hid (HO2.out _ k2.up); clear k2))
              go_meet
              exact ⟨_, y, _, o, L, rfl, rfl, rfl, hLL, HFI, O2, R2, K2.out.own, HLM, K2.out.up⟩
            · go_wp2
              go_meet
              exact ⟨v, _, φ, n, [], rfl, rfl, rfl, by simp, HF, HO, HR, World.ownsRow_nil _ _ _ _, (fun c hc => by cases hc), HU⟩
        · as_aux_lemma =>
            have hz : st.size = st.data.toList.length := rfl
            obtain ⟨l, hl⟩ : ∃ l, st.data.toList = l := ⟨_, rfl⟩
            have hle : (⟨l.toArray⟩ : ByteArray) = st := by rw [← hl]
            have hl0 : ¬ l = [] := fun e => by rw [Lib.toList_data, hl, e] at heb; exact absurd heb (by decide)
            rw [hl] at hz
            have hsl0 : ∀ w : World, (Instr.sliceAt 9 (.string st) none (some (.int .i64 (min ((st.size : Nat) : Int) 256))) none).run Tryd.prog w = .ok (.string ⟨(l.take (min l.length 256)).toArray⟩) w := fun w => by
              have h := sl_hi_str l (min l.length 256) (by omega) w
              rw [hle, show ((min l.length 256 : Nat) : Int) = min ((st.size : Nat) : Int) 256 by omega] at h
              exact h
            have hd : (l.take (min l.length 256)).length ≤ 256 := by rw [List.length_take]; omega
            have hd0 : 0 < (l.take (min l.length 256)).length := by have := List.length_pos_iff.2 hl0; rw [List.length_take]; omega
            obtain ⟨d, hdd⟩ : ∃ d, l.take (min l.length 256) = d := ⟨_, rfl⟩
            obtain ⟨q, hq⟩ : ∃ q : ByteArray, ⟨d.toArray⟩ = q := ⟨_, rfl⟩
            rw [hdd] at hsl0 hd hd0
            rw [hq] at hsl0
            have hqz : q.size = d.length := by rw [← hq]; rfl
            have hqg : ∀ kk (h : kk < q.size) (h2 : kk < d.length), q[kk]'h = d[kk]'h2 := fun kk h _ => by subst hq; rfl
            have hst2 : st.size ≤ 9223372036854775807 := HST.out
            obtain ⟨F, Pn, r, M, hF, hP, hM, hr, hPM, hM1, hM2, hF0, hF1, hsp, hP0, hP1, hrN⟩ := span_facts (o : Int) d.length (by omega) (by omega) hd0 hd
            obtain ⟨G, rfl⟩ : ∃ G : Nat, F = (G : Int) := ⟨F.toNat, by omega⟩
            have hPn : Pn = (G : Int) + (M : Int) := by omega
            have hok : wrOk (o : Int) d := ⟨by omega, hd, by omega⟩
            have hdn : ¬ d = [] := fun e => by rw [e] at hd0; exact absurd hd0 (by decide)
            have e2 : wrE (o : Int) d = 0 := by unfold wrE; rw [if_neg (by omega), if_neg (by omega)]
            have e1 : wrS (n : Int) (o : Int) d = ((max n (o + d.length) : Nat) : Int) := by unfold wrS; rw [if_pos hok, if_neg hdn]; omega
            have e3 : ∀ Ss, wrL (o : Int) d Ss = difL (G : Int) (spF Ss) (laid (spF Ss) r d d.length) M := fun Ss => by unfold wrL wrF; rw [if_pos ⟨hok, hdn⟩, hF, hP, hM, hr]
            have HFI : Hid (FInv (laid φ o d d.length) (max n (o + d.length)) (putAL f (difL (G : Int) (spF (strsAt f G M)) (laid (spF (strsAt f G M)) r d d.length) M))) := inv_write HF.out o G r M d ho hd (by omega) (by omega) hrN hM2
            have hmem := difL_mem (G : Int) (spF (strsAt f G M)) (laid (spF (strsAt f G M)) r d d.length) M
            have hlen := difL_len (G : Int) (spF (strsAt f G M)) (laid (spF (strsAt f G M)) r d d.length) M
            obtain ⟨L, hL⟩ : ∃ L, difL (G : Int) (spF (strsAt f G M)) (laid (spF (strsAt f G M)) r d d.length) M = L := ⟨_, rfl⟩
            rw [hL] at HFI hmem hlen
            have HLM : Hid (∀ c ∈ L, 0 ≤ c.1 ∧ c.1 < 200 ∧ c.2.length ≤ 64) := fun c hc => by obtain ⟨z1, z2, z3⟩ := hmem c hc; exact ⟨by omega, by omega, z3⟩
            obtain ⟨Z, hZ⟩ : ∃ Z, max n (o + d.length) = Z := ⟨_, rfl⟩
            rw [hZ] at HFI e1
            have HWR : Hid (∀ v8 c8 W, Strs W W.heap.size v8 M (strsAt f G M) → M ≤ c8 → Calls Tryd.prog 8 #[.int .i64 1, .int .i64 (n : Int), .int .i64 (o : Int), .string q, .slice v8 M c8] W fun e w' => ∃ y, e = .returned (.tuple #[y, .int .i64 (Z : Int), .int .i64 0]) ∧ Chs W w' 1 y L) := fun v8 c8 W hs hc => by
              have h := Write_any 1 (n : Int) (o : Int) d v8 M c8 W.heap.size _ W hs (Nat.le_refl _) hc (by omega)
              rw [e1, e2, e3, hL, hq] at h
              exact h
            have HSP : Hid (∀ w, Calls Tryd.prog 10 #[.int .i64 (o : Int), .int .i64 (q.size : Int)] w fun e w' => e = .returned (.tuple #[.int .i64 (G : Int), .int .i64 ((G : Int) + (M : Int))]) ∧ w = w') := fun w => by
              have h := Span_any (o : Int) (q.size : Int) w
              rw [hqz, hsp, hPn] at h
              rw [hqz]
              exact h.mono fun e w' h => ⟨h.1, h.2.symm⟩
            have hslP : ∀ w' : World, (Instr.sliceAt 23 (.slice (some ⟨gP, 0, none⟩) 200 200) (some (.int .i64 (G : Int))) (some (.int .i64 ((G : Int) + (M : Int)))) none).run Tryd.prog w' = .ok (.slice (some ⟨gP, G, none⟩) M (200 - G)) w' := fun w' => by
              have := slice_S w' gP 200 G (G + M) (G : Int) ((G : Int) + (M : Int)) rfl (by omega) (by omega) (by omega) (by omega)
              rwa [Nat.add_sub_cancel_left] at this
            have hGM : G + M ≤ 200 := by omega
            have HFT : Hid (∀ j, (f j).size ≤ maxLen) := fun j => by have := HF.out.fit j; unfold maxLen; omega
            have hZn : n ≤ Z := by omega
            have hZo : o + q.size ≤ Z := by omega
            have hZx : ∀ mm, mm ≤ Z → n ≤ mm → ¬ mm < o + q.size → mm = Z := fun mm a1 a2 a3 => by omega
            have HZX := Lib.hid hZx
            have HQG := Lib.hid hqg
            have hqd : q.size ≤ 256 := by omega
            have hq0 : 0 < q.size := by omega
            have HQZ := Lib.hid hqz
            have HL0 : Hid (FSt w wo gP f (.slice none 0 0) [] v n φ) := ⟨HO.out, HR.out, World.ownsRow_nil _ _ _ _, HU.out⟩
            have HZZ : Hid (∀ x, n ≤ x → φ x = 0) := HF.out.zero
            have hZ3 : Z ≤ 2256 := by omega
            have hlen2 : L.length ≤ 1000 := by omega
            obtain ⟨i0, hi0, hz0, hz1, hz2⟩ := strParts8
            obtain ⟨j0, hj0, hy0, hy1, hy2⟩ := info_parts byteInfoB
            clear hz hl hle hl0 hdd hq hF hP hM hr hsp hrN hok hdn e1 e2 e3 hmem hlen hL hZ hPn hPM hP0 hP1 hF0 hF1 hqz hqg hZx hd hd0 HL0 HST
            obtain ⟨av, cv, hv⟩ := HO.out.slice
            rw [bytesAt_length] at hv
            subst hv
            go_wp2
            go_quiet (fail)
            go_upto_region 22 with (first | (go_at_call 10; (with_reducible refine (HSP.out _).mono ?_); rintro e w8 ⟨rfl, rfl⟩))
            obtain ⟨w7, hw7⟩ : ∃ W : World, W = wo.drewN nq := ⟨_, rfl⟩
            rw [← hw7]
            have u7 : Upd noBlock wo w7 := by rw [hw7]; exact (Upd.refl _ _).drewN _
            have R7 := Lib.hid (HR.out.grow u7)
            have O7 := Lib.hid (HO.out.grow u7)
            have U7 := Lib.hid (HU.out.trans u7)
            clear hw7 u7 hsl0 cb
            go_upto_region 25 with (first
              | (go_at_call 8; (with_reducible refine (HWR.out _ _ _ S8.out hc8).mono ?_); rintro e w9 ⟨y, rfl, k9⟩; have HT := Lib.hid (FSt.mk (w := w) (O7.out.grow (U8.out.trans k9.up)) (R7.out.grow (U8.out.trans k9.up)) ((k9.back (U7.out.trans U8.out)).own) (U7.out.trans (U8.out.trans k9.up))); clear k9)
              | (at_builtin; refine wpList_append_vals _ rfl (.tmp 94) (.tmp 98) _ rfl w7.heap.size 9 i0 _ 16 Tryd.underlying23 hi0 hz0 hz1 hz2 rfl _ 0 [] rfl (OwnS.empty w7 9) (gP + 1) (some ⟨gP, G, none⟩) M (200 - G) ((strsAt f G M).map Value.string) rfl ((R7.out.grow ((Upd.refl noBlock w7).alloc _)).strs G M hGM (fun j _ => HFT.out j)).row (strs_one _) (by unfold maxLen; omega) (by omega) (by simp) ?_; intro v8 w8 hO hg h33; clear h33; simp only [Nat.zero_add, List.nil_append] at hO; have u8 := upd_of_grown ((Upd.refl noBlock w7).alloc (.cells #[] 9)) hg (fun k hk => .inr (own_base8 (OwnS.empty w7 9) k hk).1); (obtain ⟨a8, c8, rfl, hc8, r8⟩ := own_row8 hO); have S8 := Lib.hid (Strs.mk r8 (fun s hs => by obtain ⟨j, _, rfl⟩ := List.mem_map.1 hs; exact HFT.out _)); have U8 := Lib.hid u8; clear hO hg u8 r8))
            clear S8 U8 R7 O7 U7 HWR HSP hslP
            go_loopw [5] (fun s5 wr => ∃ (v' : Value) (m : Nat), v' = s5 ∧ n ≤ m ∧ m ≤ Z ∧ Hid (FSt w wr gP f y L v' m φ)) (fun s5 _ => Z - slLen s5)
            case atStart => exact ⟨_, n, rfl, Nat.le_refl _, hZn, HT⟩
            case round =>
              clear HT
              obtain ⟨v', m, rfl, hm1, hm2, HT⟩ := hrel
              obtain ⟨a2, c2, hv⟩ := HT.out.own.slice
              rw [bytesAt_length] at hv
              subst hv
              by_cases hc : m < o + q.size
              · have hB1 : m + 1 ≤ maxLen ∧ (m + 1) * 1 ≤ 140737488355328 := by unfold maxLen; omega
                have HB1 := Lib.hid hB1
                have HNW : Hid (∀ W : World, ∀ j u, [Value.int .u8 0][j]? = some u → (W.alloc (.cells #[.int .u8 0] 5)).cell? ((⟨W.heap.size, 0, none⟩ : Addr).add j) = some u) := fun W j u hu => by
                  rw [add_zero_addr, cell_of (heap_alloc_new W _)]
                  simpa using hu
                have HON : Hid (∀ u ∈ [Value.int .u8 0], u.oneCell' = true) := fun u hu => by
                  simp only [List.mem_cons, List.not_mem_nil, or_false] at hu
                  subst hu; rfl
                have HTA := Lib.hid (HT.out.grow ((Upd.refl noBlock wr).alloc (.cells #[.int .u8 0] 5)))
                have hbz := (HT.out.up.alloc (.cells #[.int .u8 0] 5)).size
                have hown : (wr.alloc (.cells #[.int .u8 0] 5)).ownsRow w.heap.size 5 1 (.slice a2 m c2) m (bc (bytesAt φ 0 m)) := by
                  have h := HTA.out.own
                  unfold OwnB at h
                  rwa [bytesAt_length] at h
                have HOW := Lib.hid hown
                have HPH : Hid (φ m = 0) := HZZ.out m hm1
                clear hown hB1
                go_wp2_with (at_builtin; refine wpList_append_own _ rfl (.tmp 113) (.tmp 114) 37 rfl w.heap.size 5 j0 (.int .u8 0) 1 1 Tryd.underlying37 hj0 hy0 hy1 hy2 rfl (by decide) _ m _ rfl HOW.out ⟨wr.heap.size, 0, none⟩ 1 1 [.int .u8 0] rfl rfl (HNW.out wr) HON.out HB1.out.1 HB1.out.2 hbz ?_; intro v5 w5 hO hg h33; clear h33; have HT5 := Lib.hid (FSt.app HTA.out HPH.out hg hO); clear hO hg)
                obtain ⟨a5, c5, hv5⟩ := HT5.out.own.slice
                rw [bytesAt_length] at hv5
                subst hv5
                go_roundw
                case rel => exact ⟨_, m + 1, rfl, by omega, by omega, HT5⟩
                case measure => simp [slLen] <;> omega
              · obtain rfl : m = Z := HZX.out m hm2 hm1 hc
                obtain ⟨g2, c3, hv, hc3, hg2⟩ := HT.out.own.form8 (by rw [bytesAt_length]; omega) (bytesAt_length φ 0 m)
                cases hv
                have T0 : Hid (FSt w wr gP f y L (.slice (some ⟨g2, 0, none⟩) m c2) m (laid φ o d 0)) := by
                  have : laid φ o d 0 = φ := by funext j; unfold laid; rw [if_neg (by omega)]
                  rw [this]; exact HT.out
                clear HT
                go_wp2
                go_loopw [16] (fun i wr => ∃ kk : Nat, kk ≤ q.size ∧ i = .int .i64 (kk : Int) ∧ Hid (FSt w wr gP f y L (.slice (some ⟨g2, 0, none⟩) m c2) m (laid φ o d kk))) (fun i _ => q.size - (intOf i).toNat)
                case atStart => exact ⟨0, Nat.zero_le _, rfl, T0⟩
                case round =>
                  clear T0
                  obtain ⟨kk, hkk, rfl, HT⟩ := hrel
                  by_cases hc2 : kk < q.size
                  · have hkd : kk < d.length := by have := HQZ.out; omega
                    have hqk := HQG.out kk hc2 hkd
                    have HT2 : Hid (FSt w (wr.setCell ⟨g2, o + kk, none⟩ (.int .u8 (((q[kk]).toNat : Nat) : Int))) gP f y L (.slice (some ⟨g2, 0, none⟩) m c2) m (laid φ o d (kk + 1))) := by
                      have h := HT.out.set (o + kk) (by omega) (q[kk])
                      have e : (fun j => if j = o + kk then q[kk] else laid φ o d kk j) = laid φ o d (kk + 1) := by funext j; rw [hqk]; exact laid_snoc φ o kk d hkd j
                      rwa [e] at h
                    obtain ⟨g4, c4, hf4, _, _, hcell⟩ := HT.out.own.cell (by rw [bytesAt_length]; omega)
                    have hg4 : g2 = g4 := by have h := (Value.slice.inj hf4).1; simpa using h
                    subst hg4
                    have cc := hcell (o + kk) (by rw [bytesAt_length]; omega)
                    obtain ⟨_, C, hC⟩ := own_base8 HT.out.own g2 rfl
                    have ff := free_of hC (o + kk)
                    clear hcell hC hf4 hqk HT
                    go_wp2
                    go_roundw
                    case rel => exact ⟨kk + 1, by omega, by go_num, HT2⟩
                    case measure => simp [intOf] <;> omega
                  · obtain rfl : kk = q.size := by omega
                    have HT2 : Hid (FSt w wr gP f y L (.slice (some ⟨g2, 0, none⟩) m c2) m (laid φ o d d.length)) := by rw [← HQZ.out]; exact HT
                    go_wp2
                    go_meet
                    exact ⟨_, y, laid φ o d d.length, m, L, rfl, rfl, rfl, hlen2, HFI, HT2.out.own, HT2.out.pcs, HT2.out.chg, HLM, HT2.out.up⟩
      case rest =>
      obtain ⟨v', y, ψ, m, L, rfl, rfl, rfl, hLL, HFI, HO2, HR2, HY, HLM, HU2⟩ := hcut
      obtain ⟨wd, rfl⟩ : ∃ W : World, W = wc := ⟨_, rfl⟩
      as_aux_lemma =>
        have CH : Chs w wd 1 y L := ⟨HY.out, HU2.out⟩
        obtain ⟨ay, cy, rfl, hcy, hyx⟩ := CH.slice
        have HYX := Lib.hid hyx
        obtain ⟨ln, hln⟩ : ∃ ln, L.length = ln := ⟨_, rfl⟩
        have HLN := Lib.hid hln
        rw [hln] at hLL hcy HYX ⊢
        obtain ⟨av, cv, hv⟩ := HO2.out.slice
        rw [bytesAt_length] at hv
        subst hv
        have hm := HFI.out.le
        have hap : ∀ kk, (Value.slice ay ln cy).ownBlock = some kk → kk ≠ gP := fun kk hk e => by
          obtain ⟨_, D, hD⟩ := own_base8 HY.out kk (by rw [hln]; exact hk)
          obtain ⟨cur, hc, _⟩ := HR2.out
          rw [e, hc] at hD
          cases hD
        have HAP := Lib.hid hap
        have hav : ∀ kk, (Value.slice av m cv).ownBlock = some kk → kk ≠ gP := fun kk hk e => by
          obtain ⟨_, D, hD⟩ := own_base8 HO2.out kk hk
          obtain ⟨cur, hc, _⟩ := HR2.out
          rw [e, hc] at hD
          cases hD
        have HAV := Lib.hid hav
        have R00 : Hid (RS wd gP 200 (putAL f (L.take 0))) := HR2
        clear CH hyx hln hap hav HR2 HY HF HO HR HU heb cb h3i
        go_wp2
        go_loopw [17] (fun i wr => ∃ j : Nat, j ≤ ln ∧ i = .int .i64 (j : Int) ∧ Hid (RS wr gP 200 (putAL f (L.take j))) ∧ Hid (Upd (oneBlock gP) wd wr)) (fun i _ => ln - (intOf i).toNat)
        case atStart => exact ⟨0, Nat.zero_le _, rfl, R00, Upd.refl _ _⟩
        case round =>
          clear R00
          obtain ⟨j, hj, rfl, HR, HU⟩ := hrel
          by_cases j0 : j < ln
          · as_aux_lemma =>
              obtain ⟨g, rfl, _, hcell⟩ := HYX.out (by omega)
              have hjl : j < L.length := by rw [HLN.out]; exact j0
              obtain ⟨hp0, hp1, ht64⟩ := HLM.out _ (List.getElem_mem hjl)
              have hrw := fun i (hi : i < 6) => rows_get 6 (fun c : Int × List UInt8 => (chC 1 c.1 c.2).toList) (fun _ => rfl) L j i hjl hi
              have htk := take_snoc8 L j hjl
              obtain ⟨p, t, hpt⟩ : ∃ p t, L[j] = (p, t) := ⟨_, _, rfl⟩
              rw [hpt] at htk
              simp only [hpt] at hrw hp0 hp1 ht64
              obtain ⟨P, rfl⟩ : ∃ P : Nat, p = (P : Int) := ⟨p.toNat, by omega⟩
              have hP200 : P < 200 := by omega
              have HT : Hid (putAL f (L.take (j + 1)) = putA (putAL f (L.take j)) ((P : Int), t)) := by show _ = _; rw [htk, putAL_snoc]
              have hgP : g ≠ gP := HAP.out g rfl
              have HCF : Hid (∀ W, Upd (oneBlock gP) wd W → W.cell? ⟨g, j * 6, none⟩ = some (.int .i64 1) ∧ W.cell? ⟨g, j * 6 + 3, none⟩ = some (.int .i64 (P : Int)) ∧ W.cell? ⟨g, j * 6 + 4, none⟩ = some (.string ⟨(if t = [] then [] else packL t).toArray⟩) ∧ W.cell? ⟨g, j * 6 + 5, none⟩ = some (.bool t.isEmpty)) := fun W hu => by
                have hk : ∀ i v, wd.cell? ⟨g, i, none⟩ = some v → W.cell? ⟨g, i, none⟩ = some v := fun i v h => (World.cell?_of_block (hu.block g (World.block_lt_of_cell? _ _ h) (fun e => hgP e))).trans h
                exact ⟨hk _ _ (hcell _ _ (hrw 0 (by decide))), hk _ _ (hcell _ _ (hrw 3 (by decide))), hk _ _ (hcell _ _ (hrw 4 (by decide))), hk _ _ (hcell _ _ (hrw 5 (by decide)))⟩
              have HPL := Lib.hid (fun W => Plain_ch t W ht64)
              obtain ⟨k0, k3, k4, k5⟩ := HCF.out wr HU.out
              obtain ⟨qt, hqt⟩ : ∃ q : ByteArray, ⟨t.toArray⟩ = q := ⟨_, rfl⟩
              have HT2 : Hid (∀ x, (if x = P then qt else putAL f (L.take j) x) = putAL f (L.take (j + 1)) x) := fun x => by
                rw [HT.out]
                unfold putA
                by_cases e : x = P
                · rw [if_pos e, if_pos (by show (x : Int) = (P : Int); omega), hqt]
                · rw [if_neg e, if_neg (by show ¬ (x : Int) = (P : Int); omega)]
              have HRR : Hid (∀ W, Upd noBlock wr W → RS (W.setCell ⟨gP, P, none⟩ (.string qt)) gP 200 (putAL f (L.take (j + 1))) ∧ Upd (oneBlock gP) wd (W.setCell ⟨gP, P, none⟩ (.string qt)) ∧ W.cell? ⟨gP, P, none⟩ = some (.string (putAL f (L.take j) P)) ∧ W.frozen? ⟨gP, P, none⟩ = false) := fun W hu =>
                ⟨((HR.out.grow hu).set P qt).congr (fun x _ => HT2.out x), (HU.out.step hu (fun _ _ h => h.elim)).setCell (p := ⟨gP, P, none⟩) (.inl rfl) _, (HR.out.grow hu).cell P hP200, (HR.out.grow hu).free P⟩
              generalize putAL f (L.take j) P = oldq at HRR
              clear hrw hpt hcell hjl htk HT hp0 hp1
              by_cases ht : t = []
              · have e1 : t.isEmpty = true := by rw [ht]; rfl
                have hq0 : qt = ⟨#[]⟩ := by rw [← hqt, ht]
                subst hq0
                rw [e1] at k5
                obtain ⟨r1, r2, r3, r4⟩ := HRR.out wr (Upd.refl _ _)
                have RR := Lib.hid r1
                have UU := Lib.hid r2
                generalize (⟨(if t = [] then [] else packL t).toArray⟩ : ByteArray) = Q at *
                clear hqt ht e1 ht64 HCF HPL HT2 r1 r2 HRR
                go_wp2
                go_roundw
                case rel => exact ⟨j + 1, by omega, by go_num, RR, UU⟩
                case measure => simp [intOf] <;> omega
              · have e1 : t.isEmpty = false := by cases t with | nil => exact absurd rfl ht | cons => rfl
                rw [e1] at k5 HCF HPL
                rw [hqt] at HPL
                generalize (⟨(if t = [] then [] else packL t).toArray⟩ : ByteArray) = Q at *
                clear hqt ht e1 ht64 HT2
                go_wp2_with (first | (go_at_call 13; (with_reducible refine (HPL.out _).mono ?_); rintro e w4 ⟨rfl, u4⟩; (obtain ⟨m0, m3, m4, m5⟩ := HCF.out w4 (HU.out.step u4 (fun _ _ h => h.elim))); (obtain ⟨r1, r2, r3, r4⟩ := HRR.out w4 u4); have RR := Lib.hid r1; have UU := Lib.hid r2; clear r1 r2 u4))
                go_roundw
                case rel => exact ⟨j + 1, by omega, by go_num, RR, UU⟩
                case measure => simp [intOf] <;> omega
          · as_aux_lemma =>
              obtain rfl : j = ln := by omega
              have RF : Hid (RS wr gP 200 (putAL f L)) := by
                have h := HR.out
                rwa [List.take_of_length_le (by rw [HLN.out]; exact Nat.le_refl _)] at h
              obtain ⟨fn, hfn⟩ : ∃ fn, putAL f L = fn := ⟨_, rfl⟩
              rw [hfn] at RF HFI
              have OV : Hid (OwnB wr w.heap.size (.slice av m cv) (bytesAt ψ 0 m)) := HO2.out.upd HU.out (fun g hg => HAV.out g hg)
              have UF : Hid (Upd noBlock w wr) := HU2.out.step HU.out (fun i hi e => by have := HGP.out; unfold oneBlock at e; omega)
              have hrd := inv_read HFI.out o ho
              have hp := pcs_eq ((o : Int) + 90)
              obtain ⟨M, hM⟩ : ∃ M, (pcs ((o : Int) + 90) - ((o / 64 : Nat) : Int)).toNat = M := ⟨_, rfl⟩
              obtain ⟨G, hG⟩ : ∃ G, o / 64 = G := ⟨_, rfl⟩
              rw [hM, hG] at hrd
              have HSP : Hid (∀ w, Calls Tryd.prog 10 #[.int .i64 (o : Int), .int .i64 90] w fun e w' => e = .returned (.tuple #[.int .i64 (G : Int), .int .i64 ((G : Int) + (M : Int))]) ∧ w = w') := fun w => by
                have h := Span_any (o : Int) 90 w
                rw [show spanA (o : Int) 90 = ((G : Int), (G : Int) + (M : Int)) by
                  unfold spanA
                  rw [if_pos ⟨by omega, by decide, by omega, by decide⟩]
                  congr 1 <;> omega] at h
                exact h.mono fun e w' h => ⟨h.1, h.2.symm⟩
              have hGM : G + M ≤ 200 := by omega
              have hG2 : G < 200 := by omega
              have HFT : Hid (∀ j, (fn j).size ≤ maxLen) := fun j => by have := HFI.out.fit j; unfold maxLen; omega
              have hslP : ∀ w' : World, (Instr.sliceAt 23 (.slice (some ⟨gP, 0, none⟩) 200 200) (some (.int .i64 (G : Int))) (some (.int .i64 ((G : Int) + (M : Int)))) none).run Tryd.prog w' = .ok (.slice (some ⟨gP, G, none⟩) M (200 - G)) w' := fun w' => by
                have := slice_S w' gP 200 G (G + M) (G : Int) ((G : Int) + (M : Int)) rfl (by omega) (by omega) (by omega) (by omega)
                rwa [Nat.add_sub_cancel_left] at this
              have HRD : Hid (∀ v8 c8 W, Strs W W.heap.size v8 M (strsAt fn G M) → M ≤ c8 → Calls Tryd.prog 14 #[.int .i64 (m : Int), .int .i64 (o : Int), .int .i64 90, .slice v8 M c8] W fun e w' => e = .returned (.string ⟨(if o < m then bytesAt ψ o (min m (o + 90) - o) else []).toArray⟩) ∧ Upd noBlock W w') := fun v8 c8 W hs hc => by
                have h := Read_any (m : Int) (o : Int) 90 v8 M c8 W.heap.size _ W hs (Nat.le_refl _) hc (by omega) (by decide) (by omega) (by omega)
                rwa [hrd] at h
              obtain ⟨i0, hi0, hz0, hz1, hz2⟩ := strParts8
              clear hfn hrd hp hM hG HR HU HO2 HU2 HAV HAP HYX HLM HLN
              by_cases hom : o < m
              · rw [if_pos hom] at HRD
                obtain ⟨gv, cv2, hv2, hcv, _⟩ := OV.out.form8 (by rw [bytesAt_length]; omega) (bytesAt_length ψ 0 m)
                have hcv' := (Value.slice.inj hv2)
                obtain ⟨ha1, _, hc1⟩ := hcv'
                subst ha1 hc1
                have RV : R8 wr gv m ψ := by
                  have ho := OV.out
                  unfold OwnB at ho
                  rw [bytesAt_length] at ho
                  obtain ⟨g9, c9, h9, _, _, _, r9⟩ := r8_own ho (by omega) (fun j hj => bytes_get ψ m j hj)
                  have h10 := (Value.slice.inj h9).1
                  have h11 : gv = g9 := by simpa using h10
                  subst h11
                  exact r9
                have hmn : min (m : Int) ((o : Int) + 90) = ((min m (o + 90) : Nat) : Int) := by omega
                have hslF : ∀ w' : World, (Instr.sliceAt 37 (.slice (some ⟨gv, 0, none⟩) m cv) (some (.int .i64 (o : Int))) (some (.int .i64 (min (m : Int) ((o : Int) + 90)))) none).run Tryd.prog w' = .ok (.slice (some ⟨gv, o, none⟩) (min m (o + 90) - o) (cv - o)) w' := fun w' => by
                  have := slice8 w' gv 0 m cv o (min m (o + 90)) (o : Int) (min (m : Int) ((o : Int) + 90)) rfl hmn (by omega) (by omega) (by omega)
                  rwa [Nat.zero_add] at this
                have hcv9 := RV.text o (min m (o + 90) - o) (cv - o) (by omega) 37 9 Tryd.underlying37 Tryd.underlying5 Tryd.underlying9
                obtain ⟨qq, hqq⟩ : ∃ q : ByteArray, ⟨(bytesAt ψ o (min m (o + 90) - o)).toArray⟩ = q := ⟨_, rfl⟩
                rw [hqq] at HRD hcv9
                clear hv2 RV hqq hmn
                go_wp2_with (first
                  | (go_at_call 10; (with_reducible refine (HSP.out _).mono ?_); rintro e w8 ⟨rfl, rfl⟩)
                  | (go_at_call 14; (with_reducible refine (HRD.out _ _ _ S8.out hc8).mono ?_); rintro e w9 ⟨rfl, u9⟩; have OE := Lib.hid (OV.out.grow (U8.out.trans u9)); have RE := Lib.hid (RF.out.grow (U8.out.trans u9)); have UE := Lib.hid (UF.out.trans (U8.out.trans u9)); clear u9)
                  | (at_builtin; refine wpList_append_vals _ rfl (.tmp 203) (.tmp 207) _ rfl wr.heap.size 9 i0 _ 16 Tryd.underlying23 hi0 hz0 hz1 hz2 rfl _ 0 [] rfl (OwnS.empty wr 9) (gP + 1) (some ⟨gP, G, none⟩) M (200 - G) ((strsAt fn G M).map Value.string) rfl ((RF.out.grow ((Upd.refl noBlock wr).alloc _)).strs G M hGM (fun j _ => HFT.out j)).row (strs_one _) (by unfold maxLen; omega) (by omega) (by simp) ?_; intro v8 w8 hO hg h33; clear h33; simp only [Nat.zero_add, List.nil_append] at hO; have u8 := upd_of_grown ((Upd.refl noBlock wr).alloc (.cells #[] 9)) hg (fun k hk => .inr (own_base8 (OwnS.empty wr 9) k hk).1); (obtain ⟨a8, c8, rfl, hc8, r8⟩ := own_row8 hO); have S8 := Lib.hid (Strs.mk r8 (fun s hs => by obtain ⟨j, _, rfl⟩ := List.mem_map.1 hs; exact HFT.out _)); have U8 := Lib.hid u8; clear hO hg u8 r8))
                go_roundw
                case rel => exact ⟨_, ψ, m, fn, k + 1, rfl, rfl, by go_num, by omega, HFI, OE, RE, UE⟩
                case measure => simp [intOf] <;> omega
              · rw [if_neg hom] at HRD
                have HRD2 : Hid (∀ v8 c8 W, Strs W W.heap.size v8 M (strsAt fn G M) → M ≤ c8 → Calls Tryd.prog 14 #[.int .i64 (m : Int), .int .i64 (o : Int), .int .i64 90, .slice v8 M c8] W fun e w' => e = .returned (.string ⟨#[]⟩) ∧ Upd noBlock W w') := HRD
                clear HRD
                have HRD := HRD2
                clear HRD2
                go_wp2_with (first
                  | (go_at_call 10; (with_reducible refine (HSP.out _).mono ?_); rintro e w8 ⟨rfl, rfl⟩)
                  | (go_at_call 14; (with_reducible refine (HRD.out _ _ _ S8.out hc8).mono ?_); rintro e w9 ⟨rfl, u9⟩; have OE := Lib.hid (OV.out.grow (U8.out.trans u9)); have RE := Lib.hid (RF.out.grow (U8.out.trans u9)); have UE := Lib.hid (UF.out.trans (U8.out.trans u9)); clear u9)
                  | (at_builtin; refine wpList_append_vals _ rfl (.tmp 203) (.tmp 207) _ rfl wr.heap.size 9 i0 _ 16 Tryd.underlying23 hi0 hz0 hz1 hz2 rfl _ 0 [] rfl (OwnS.empty wr 9) (gP + 1) (some ⟨gP, G, none⟩) M (200 - G) ((strsAt fn G M).map Value.string) rfl ((RF.out.grow ((Upd.refl noBlock wr).alloc _)).strs G M hGM (fun j _ => HFT.out j)).row (strs_one _) (by unfold maxLen; omega) (by omega) (by simp) ?_; intro v8 w8 hO hg h33; clear h33; simp only [Nat.zero_add, List.nil_append] at hO; have u8 := upd_of_grown ((Upd.refl noBlock wr).alloc (.cells #[] 9)) hg (fun k hk => .inr (own_base8 (OwnS.empty wr 9) k hk).1); (obtain ⟨a8, c8, rfl, hc8, r8⟩ := own_row8 hO); have S8 := Lib.hid (Strs.mk r8 (fun s hs => by obtain ⟨j, _, rfl⟩ := List.mem_map.1 hs; exact HFT.out _)); have U8 := Lib.hid u8; clear hO hg u8 r8))
                go_roundw
                case rel => exact ⟨_, ψ, m, fn, k + 1, rfl, rfl, by go_num, by omega, HFI, OE, RE, UE⟩
                case measure => simp [intOf] <;> omega
    · have hcase : ¬ k < n0 ∨ (k < n0 ∧ ¬ k < n1) ∨ (k < n0 ∧ k < n1 ∧ ¬ k < 100) := by omega
      clear h0
      rcases hcase with e1 | ⟨e1, e2⟩ | ⟨e1, e2, e3⟩
      all_goals
        go_wp2
        go_ret
        exact ⟨rfl, HU.out⟩
theorem opsFile_walk (a : Option Addr) (n0 c0 : Nat) (xs : List Int) (b : Option Addr) (n1 c1 : Nat) (Ss : List ByteArray) (w : World) (hr : IsRow .i64 w a n0 c0 xs) (_ : c0 * 8 ≤ 140737488351232) (hS : Strs w w.heap.size b n1 Ss) (hn : n1 ≤ 8796093021952) (_ : True) :
    Calls Tryd.prog 4 #[.slice a n0 c0, .slice b n1 c1] w fun e w' => e = .returned (.bool true) ∧ Below w.heap.size w w' :=
  (opsFile_upd a n0 c0 (xs.take n0) b n1 c1 Ss w hr.ints.1 hr.ints.2 hS hn).mono fun _ _ ⟨h, hu⟩ => ⟨h, hu.below (fun _ _ h => h)⟩
end Go.Proofs.YtcfilepilgjlaaaDoor
