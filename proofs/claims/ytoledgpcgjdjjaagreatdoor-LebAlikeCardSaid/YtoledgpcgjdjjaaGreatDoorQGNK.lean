import Derived.Deep.RegionHeld
import Derived.Handy
import Derived.Test.YtoledgpcgjdjjaaGreatDoorQGNI
import Derived.Test.YtoledgpcgjdjjaaGreatDoorQGIi
import Derived.Test.YtoledgpcgjdjjaaGreatDoorQGNC
import Derived.Test.YtoledgpcgjdjjaaGreatDoorQGBy
import Derived.Test.YtoledgpcgjdjjaaGreatDoorQGIh
/- Decode. -/
namespace Go.Proofs.YtoledgpcgjdjjaaGreatDoor
open Go.RowKit Pm F
set_option linter.unusedVariables false

theorem flip_row {w : World} {g m q : Nat} {l : List UInt8} (h : ByteRow w g m 5 (fun j => (l.getD j 0).toNat)) (hl : l.length = m) (hq : q / 8 < m) :
    ByteRow (w.setCell ⟨g, q / 8, none⟩ (.int .u8 (((l.getD (q / 8) 0).toNat ^^^ 2 ^ (7 - q % 8) : Nat) : Int))) g m 5 (fun j => ((flipB l q).getD j 0).toNat) := by
  refine (h.set (q / 8) _).congr fun j hj => ?_
  unfold flipB
  by_cases e : j = q / 8
  · rw [if_pos e, e, List.getD_eq_getElem?_getD (l := l.set _ _), List.getElem?_set_self (by omega), Option.getD_some, UInt8.toNat_xor, UInt8.toNat_ofNat', Nat.mod_eq_of_lt (show 2 ^ (7 - q % 8) < 2 ^ 8 from Nat.pow_lt_pow_right (by omega) (by omega))]
  · rw [if_neg e, List.getD_eq_getElem?_getD (l := l.set _ _), List.getElem?_set_ne (fun h => e h.symm), ← List.getD_eq_getElem?_getD]
theorem upd_cell1 {R : Nat → Prop} {a b : World} (hu : Upd R a b) {g j : Nat} {v : Value} (h : a.cell? ⟨g, j, none⟩ = some v) (hR : ¬ R g) : b.cell? ⟨g, j, none⟩ = some v :=
  (World.cell?_of_block (hu.block g (World.block_lt_of_cell? a _ h) hR)).trans h
theorem bs_row {w : World} {B g n cap : Nat} {e : TypeId} {l : List UInt8} (h : Bs w B e (.slice (some ⟨g, 0, none⟩) n cap) l) : ByteRow w g l.length e (fun j => (l.getD j 0).toNat) := by
  obtain ⟨g', cap', e1, _, hb⟩ := h.row
  simp only [Value.slice.injEq, Option.some.injEq, Addr.mk.injEq] at e1
  rw [e1.1.1]
  exact hb
theorem bs_cap {w : World} {B g n cap : Nat} {e : TypeId} {l : List UInt8} (h : Bs w B e (.slice (some ⟨g, 0, none⟩) n cap) l) : n ≤ cap := by
  obtain ⟨g', cap', cur, z, e1, hB, hg, hf, hlc, hcm, hcs, hc⟩ := h
  simp only [Value.slice.injEq, Option.some.injEq, Addr.mk.injEq] at e1
  omega
theorem data_mk2 (s : ByteArray) (l : List UInt8) : (s ++ (⟨l.toArray⟩ : ByteArray)).data.toList = s.data.toList ++ l := by simp [ByteArray.data_append]
theorem nts_getD0 (ps : List Nat) (i : Nat) (h : i < ps.length) : (nts ps).getD i 0 = ((ps.getD i 0 : Nat) : Int) := by
  unfold nts
  simp [List.getD_eq_getElem?_getD, h]
theorem take_succ_getD (ps : List Nat) (i : Nat) (h : i < ps.length) : ps.take (i + 1) = ps.take i ++ [ps.getD i 0] := by
  rw [List.take_add_one, List.getD_eq_getElem?_getD, List.getElem?_eq_getElem h]; rfl
theorem getD_mem' (ps : List Nat) (i : Nat) (h : i < ps.length) : ps.getD i 0 ∈ ps := by
  rw [List.getD_eq_getElem?_getD, List.getElem?_eq_getElem h]; exact List.getElem_mem h
theorem byte_xor (o m : Nat) (ho : o < 256) (hm : m < 8) : bits .xor .u8 ((o : Nat) : Int) ((2 ^ (7 - m) : Nat) : Int) = ((o ^^^ 2 ^ (7 - m) : Nat) : Int) := by
  have hy : 2 ^ (7 - m) < 2 ^ 8 := Nat.pow_lt_pow_right (by omega) (by omega)
  exact xor_256 ⟨o, ho⟩ ⟨_, hy⟩
theorem row_text {w : World} {g n : Nat} {F : List UInt8} (h : ByteRow w g n 5 (fun j => (F.getD j 0).toNat)) (o k cap : Nat) (hF : F.length = n) (hk : o + k ≤ n) :
    (convert 105 9 (.slice (some ⟨g, o, none⟩) k cap)).run Tryz.prog w = .ok (.string ⟨((F.drop o).take k).toArray⟩) w := by
  have hl : ((F.drop o).take k).length = k := by rw [List.length_take, List.length_drop]; omega
  have h9 := run_convert_bytes_back (P := Tryz.prog) w 105 9 5 ⟨g, o, none⟩ cap ((F.drop o).take k) Tryz.underlying105 Tryz.underlying5 Tryz.underlying9 (fun j hj => by
    have e : (⟨g, o, none⟩ : Addr).add j = ⟨g, o + j, none⟩ := by
      by_cases h0 : j = 0
      · subst h0; rfl
      · simp [Addr.add, h0]
    rw [e, h.cell (o + j) (by omega)]
    congr 3
    rw [List.getElem_take, List.getElem_drop, List.getD_eq_getElem?_getD, List.getElem?_eq_getElem (by omega)]
    rfl)
  rw [hl] at h9
  exact h9
theorem w64 (x : Int) (h1 : 0 ≤ x) (h2 : x ≤ 2152) : wrap64 x = x := by unfold wrap64; omega
theorem wi64 (x : Int) (h1 : 0 ≤ x) (h2 : x ≤ 2152) : IntKind.i64.wrap x = x := by rw [IntKind.wrap_i64]; omega
def restOf (t : Nat) (data par : ByteArray) : Rm := (remOf (stepS t) data.data.toList).plus (fromT par (13 * t))
def wordOf (t : Nat) (data par : ByteArray) : List UInt8 := data.data.toList ++ textL (fromT par (13 * t)) par.size
def decAns (t k : Nat) (data par : ByteArray) (a : Option (List Nat)) : Ending := match a with
  | none => .returned (.tuple #[.string ⟨#[]⟩, .string ⟨#[]⟩, .int .i64 0, .bool false])
  | some ps => .returned (.tuple #[.string ⟨((turns (8 * k + 13 * t) (wordOf t data par) ps).take k).toArray⟩, .string ⟨((turns (8 * k + 13 * t) (wordOf t data par) ps).drop k).toArray⟩, .int .i64 (ps.length : Int), .bool true])
set_option maxRecDepth 100000 in
set_option maxHeartbeats 6400000 in
theorem decode_any (c t k : Nat) (data par : ByteArray) (w : World) (h : CodeP w c t (k : Int)) (ht1 : 1 ≤ t) (ht8 : t ≤ 8) (hk1 : 1 ≤ k) (hk : k ≤ 256) (hd : data.size = k) (hp : par.size = (13 * t + 7) / 8) :
    Calls Tryz.prog 123 #[.pointer (some ⟨c, 0, none⟩), .string data, .string par] w fun e w' => ∃ a, (∀ ps, Good t (8 * k + 13 * t) (restOf t data par) ps ↔ a = some ps) ∧ e = decAns t k data par a ∧ Made w' c t (k : Int) ∧ Upd (oneBlock c) w w' := by
  have hnot : ∀ (x : Bool) (w : World), (Op.unary .not (.bool x)).run Tryz.prog w = .ok (.bool (!x)) w := fun _ _ => rfl
  have HRDY := Lib.hid (ready_any c t (k : Int) w h ht1 ht8)
  have HPAR := Lib.hid (fun W (hW : Made W c t (k : Int)) => parity_any c t (k : Int) W hW.code ht1 ht8)
  rw [← hp] at HPAR
  have HFROM := Lib.hid (fun W => from_any par (13 * t) W (by omega) (by omega))
  have hfok := from_ok par (13 * t)
  have HFZ : Hid (∀ j, 13 * t ≤ j → rb (fromT par (13 * t)) j = false) := fun j hj => by rw [rb_from par (13 * t) (by omega), decide_eq_false (by omega), Bool.false_and]
  have HREM := Lib.hid (fun W (hW : Made W c t (k : Int)) => remainderOf_any c t (k : Int) data W hW ht1 ht8 (by unfold maxLen; omega))
  have hrok := remOf_ok t data.data.toList ht1 ht8
  have HPL := Lib.hid (fun W => plus_any (remOf (stepS t) data.data.toList) (fromT par (13 * t)) W hrok hfok)
  have hrest : restOf t data par = (remOf (stepS t) data.data.toList).plus (fromT par (13 * t)) := rfl
  have HRZ : Hid (∀ j, 13 * t ≤ j → rb (restOf t data par) j = false) := fun j hj => by
    obtain ⟨_, _, htl⟩ := gen_list t ht1 ht8
    have hT := tailR_ok (13 * t) (tl t) (by omega)
    have e : remOf (stepS t) data.data.toList = regs (tailR (13 * t) (tl t)) data.data.toList (8 * data.data.toList.length) := by
      have := fold_regs hT data.data.toList data.data.toList.length (Nat.le_refl _)
      rw [List.take_length] at this
      exact this
    rw [hrest, rb_plus, e, regs_high (13 * t) (by omega) (tl t) htl hT _ _ j hj, HFZ.out j hj]
    rfl
  have hok : (restOf t data par).Ok := hrok.plus hfok
  have HPLACES := Lib.hid (fun (B : Nat) (W : World) (hW : MadeB B W c t (k : Int)) (hB : B ≤ W.heap.size) => places_any B c t k (restOf t data par) W hW hB hk ht1 ht8 hok HRZ.out)
  have HTEXT := Lib.hid (fun W => text_any (fromT par (13 * t)) par.size W hfok (by omega))
  have HDEG : Hid (∀ W, Made W c t (k : Int) → W.cell? ⟨c, 11, none⟩ = some (.int .i64 ((13 * t : Nat) : Int))) := fun W hW => hW.deg
  have HWL : Hid (wordOf t data par = data.data.toList ++ textL (fromT par (13 * t)) par.size) := rfl
  have HLEN : Hid ((wordOf t data par).length = k + par.size) := by show (data.data.toList ++ textL (fromT par (13 * t)) par.size).length = _; rw [List.length_append, textL_length]; show data.size + _ = _; omega
  have hsd : data.size ≤ 9223372036854775807 := by omega
  have hsp : par.size ≤ 9223372036854775807 := by omega
  have HKD : Hid (data.size = k) := hd
  rw [← hrest] at HPL
  unfold decAns
  obtain ⟨d, hdd⟩ : ∃ d, 13 * t = d := ⟨_, rfl⟩
  obtain ⟨n, hnn⟩ : ∃ n, par.size = n := ⟨_, rfl⟩
  have HN : Hid (8 * k + 13 * t ≤ 8 * (k + n) ∧ n ≤ 13 ∧ d ≤ 104) := by show _ ∧ _ ∧ _; omega
  have HN2 : Hid (2 ≤ n) := by show 2 ≤ n; omega
  have HBITS := Lib.hid (fun (B : Nat) (W : World) (hW : MadeB B W c t (k : Int)) => bits_any B c t k W hW hk ht8)
  obtain ⟨N, hNN⟩ : ∃ N, 8 * k + 13 * t = N := ⟨_, rfl⟩
  have HNU : Hid (N ≤ 2152 ∧ 1 ≤ N) := by show _ ∧ _; omega
  rw [hNN] at HPLACES HN HBITS ⊢
  clear hNN
  rw [hdd] at HFROM HPL HTEXT HDEG HWL
  rw [hnn] at HPAR HTEXT HWL HLEN
  generalize fromT par d = G at *
  generalize remOf (stepS t) data.data.toList = R0 at *
  generalize restOf t data par = R1 at *
  generalize wordOf t data par = Wl at *
  have HNN : Hid (par.size = n) := hnn
  clear h hrest hfok HFZ hrok HRZ hok hp hdd
  unfold Rm.agg at HFROM HREM HPL HPLACES HTEXT
  go_enter Tryz.func123, Tryz.ntmps123
  go_upto_region 4 with (first
    | (go_at_call 84; refine HRDY.out.mono ?_; rintro e w1 ⟨rfl, hm1, hu1, _⟩; have M1 := Lib.hid hm1; have D1 := Lib.hid hu1; have k1 := hm1.k; clear hm1 hu1)
    | (go_at_call 58; refine (HPAR.out _ M1.out).mono ?_; rintro e w2 ⟨rfl, hm2, _, hu2⟩; have M2 := Lib.hid hm2; have D2 := Lib.hid (D1.out.trans (hu2 M1.out).one); have k2 := HDEG.out w2 hm2; clear hm2 hu2)
    | (go_at_call 168; refine (HFROM.out _).mono ?_; rintro e w3 ⟨rfl, hu3⟩; have M3 := Lib.hid (M2.out.keep hu3); have D3 := Lib.hid (D2.out.trans hu3.one); clear hu3))
  obtain ⟨wg, hwg⟩ : ∃ wg, wg = w3.alloc (.cells #[.int .u64 (G.h : Int), .int .u64 (G.l : Int)] 174) := ⟨_, rfl⟩
  have UG : Hid (Upd noBlock w3 wg) := by rw [hwg]; exact (Upd.refl _ _).alloc _
  have BG : Hid (RB wg w3.heap.size G) := by rw [hwg]; exact heap_alloc_new w3 _
  rw [← hwg]
  clear hwg
  have HRB := Lib.hid (fun W (hW : Upd noBlock wg W) => BG.out.grow hW)
  have HMG : Hid (∀ W, Upd noBlock wg W → Made W c t (k : Int)) := fun W h => M3.out.keep (UG.out.trans h)
  have HKP : Hid (∀ W, Upd noBlock wg W → W.cell? ⟨w3.heap.size, 0, none⟩ = some (.int .u64 (G.h : Int)) ∧ W.cell? ⟨w3.heap.size, 1, none⟩ = some (.int .u64 (G.l : Int)) ∧ Hid (Upd noBlock wg W)) := fun W h => ⟨(HRB.out W h).h, (HRB.out W h).l, h⟩
  have HZB : Hid (∀ W : World, RB (W.alloc (.cells #[.int .u64 0, .int .u64 0] 174)) W.heap.size Rm.zero) := fun W => heap_alloc_new W _
  have U0 : Hid (Upd noBlock wg wg) := Upd.refl _ _
  go_cut [11] from 43 to 48 (fun x wx => ∃ g, x = .pointer (some ⟨g, 0, none⟩) ∧ Hid (RB wx g R1) ∧ Hid (Upd noBlock wg wx))
  case first =>
    go_region_held (fun w' => w'.cell? ⟨w3.heap.size, 0, none⟩ = some (.int .u64 (G.h : Int)) ∧ w'.cell? ⟨w3.heap.size, 1, none⟩ = some (.int .u64 (G.l : Int)) ∧ Hid (Upd noBlock wg w'))
      (first | exact HKP.out _ U0.out | exact HKP.out _ U0.out.drew | exact HKP.out _ (U0.out.alloc _) | exact HKP.out _ (U0.out.drew.alloc _) | exact HKP.out _ HW9.out | exact HKP.out _ (HW9.out.alloc _) | exact HKP.out _ ((HW9.out.setCell (.inr HS9.out) _).setCell (.inr HS9.out) _) | exact HKP.out _ ((HW9.out.setCell (.inr (Nat.le_refl _)) _).setCell (.inr (Nat.le_refl _)) _) | exact HKP.out _ (((HW9.out.alloc _).setCell (.inr HS6.out) _).setCell (.inr HS6.out) _) | assumption | go_keep)
      (first
        | (go_at_call 169; go_split_ands; (with_reducible refine (HREM.out _ (HMG.out _ (Hid.out (by assumption)))).mono ?_); rintro e w5 ⟨rfl, h⟩; have HW9 : Hid (Upd noBlock wg w5) := Upd.trans (Hid.out (by assumption)) h; have HS9 : Hid (wg.heap.size ≤ w5.heap.size) := HW9.out.size; (first | (have ZB : Hid (RB w5 wg.heap.size Rm.zero) := (HZB.out wg.drew).grow h) | (have ZB : Hid (RB w5 wg.heap.size Rm.zero) := (HZB.out wg).grow h) | skip); clear h)
        | (go_at_call 148; go_split_ands; (with_reducible refine (HPL.out _).mono ?_); rintro e w6 ⟨rfl, h⟩; have HW9 : Hid (Upd noBlock wg w6) := Upd.trans (Hid.out (by assumption)) h; have HS6 : Hid (wg.heap.size ≤ w6.heap.size) := HW9.out.size; (first | (have ZC := Lib.hid (RB.grow (Hid.out ZB) h); have z1 := ZC.out.h; have z2 := ZC.out.l; have z3 := ZC.out.f 0; have z4 := ZC.out.f 1) | (have ZC : Hid (RB w6 w5.heap.size Rm.zero) := (HZB.out w5).grow h; have z1 := ZC.out.h; have z2 := ZC.out.l; have z3 := ZC.out.f 0; have z4 := ZC.out.f 1) | skip); clear h))
    all_goals
      go_wp2_with fail
      go_meet
      first
        | exact ⟨_, rfl, ZC.out.set R1, (HW9.out.setCell (.inr HS9.out) _).setCell (.inr HS9.out) _⟩
        | exact ⟨_, rfl, ZC.out.set R1, (HW9.out.setCell (.inr (Nat.le_refl _)) _).setCell (.inr (Nat.le_refl _)) _⟩
        | exact ⟨_, rfl, (HZB.out _).set R1, ((HW9.out.alloc _).setCell (.inr HS6.out) _).setCell (.inr HS6.out) _⟩
        | exact ⟨_, rfl, heap_alloc_new _ _, HW9.out.alloc _⟩
  case rest =>
    obtain ⟨g11, rfl, Z11, V11⟩ := hcut
    have M5 := Lib.hid (HMG.out _ V11.out)
    have DG := Lib.hid (D3.out.trans (UG.out.trans V11.out).one)
    have y1 := Z11.out.h
    have y2 := Z11.out.l
    have hc3 : Hid (w3.heap.size ≠ c) := fun e => by have := (M3.out.bound _ (Nat.le_refl _)).lt; omega
    have ZG := Lib.hid (HRB.out _ V11.out)
    go_upto_region 6 with (go_at_call 170; refine (HPLACES.out _ _ (M5.out.bound _ (Nat.le_refl _)) (Nat.le_refl _)).mono ?_; rintro e w8 ⟨a, ha, hans, hm8, hu8⟩; obtain ⟨u, ok, rfl, hav⟩ := hans.apart; have HA := Lib.hid ha; have AV := Lib.hid hav; have M8 := Lib.hid hm8; have U8 := Lib.hid hu8; have Z8 : Hid (RB w8 w3.heap.size G) := ZG.out.upd hu8 hc3.out; clear ha hans hav hm8 hu8)
    have DG8 := Lib.hid (DG.out.trans U8.out)
    cases a with
    | none =>
      obtain ⟨h1, h2⟩ : u = .slice none 0 0 ∧ ok = false := AV.out
      subst h1
      subst h2
      clear AV
      go_wp2
      go_returns
      exact ⟨none, HA.out, rfl, M8.out.made, DG8.out⟩
    | some ps =>
      obtain ⟨h1, h2⟩ : ok = true ∧ OwnI w8 _ u (nts ps) := AV.out
      subst h1
      have h3 := h2.sl
      rw [nts_length] at h3
      obtain ⟨au, cu, rfl, hI, hpl, _⟩ := h3
      have HI := Lib.hid hI
      clear AV h2 hI
      have hgood := (HA.out ps).2 rfl
      have HP := Lib.hid hgood.2.1
      have hmt := hgood.2.2.1
      clear hgood
      obtain ⟨m, hm⟩ : ∃ m, ps.length = m := ⟨_, rfl⟩
      rw [hm] at HI hmt
      have HM : Hid (ps.length = m) := hm
      have x1 := Z8.out.h
      have x2 := Z8.out.l
      obtain ⟨qt, hqt⟩ : ∃ qt : ByteArray, ⟨(textL G n).toArray⟩ = qt := ⟨_, rfl⟩
      have HQ : Hid ((data ++ qt).data.toList = Wl) := by rw [← hqt]; show _ = _; rw [data_mk2]; exact HWL.out.symm
      have HQS : (data ++ qt).size = k + n := by
        have h1 := congrArg List.length HQ.out
        rw [HLEN.out] at h1
        exact h1
      rw [hqt] at HTEXT
      clear hqt
      obtain ⟨CW, CC, hconv, hcu, hcb⟩ := conv_row (P := Tryz.prog) 9 105 5 Tryz.underlying9 Tryz.underlying105 Tryz.underlying5 (data ++ qt) (by rw [HQS]; unfold maxLen; have := HN.out; omega)
      rw [HQS] at hconv hcb
      have hsq : data.size + qt.size ≤ 9223372036854775807 := by have := HN.out; rw [ByteArray.size_append] at HQS; omega
      clear HQS
      go_upto_region 9 with (go_at_call 171; refine (HTEXT.out _).mono ?_; rintro e w9 ⟨rfl, hu9⟩; have U9 := Lib.hid hu9; clear hu9)
      obtain ⟨wb, hwb⟩ : ∃ wb, wb = CW w9 := ⟨_, rfl⟩
      obtain ⟨gb, hgb⟩ : ∃ gb, gb = w9.heap.size := ⟨_, rfl⟩
      obtain ⟨cc, hcc⟩ : ∃ cc, cc = CC w9 := ⟨_, rfl⟩
      have UB : Hid (Upd noBlock w8 wb) := by rw [hwb]; exact U9.out.trans (hcu.out _)
      have hB1 := hcb.out w9
      rw [← hwb, ← hgb, ← hcc] at hB1
      have hkc : k + n ≤ cc := bs_cap hB1
      have BB := Lib.hid (bs_row hB1)
      rw [HQ.out, HLEN.out] at BB
      have hg8 : w8.heap.size ≤ gb := by rw [hgb]; exact U9.out.size
      rw [← hwb, ← hgb, ← hcc]
      clear hwb hgb hcc hconv hcu hcb hB1 HQ
      have HPT : Hid (∀ i, i < m → ps.getD i 0 < N) := fun i hi => HP.out _ (getD_mem' ps i (by rw [HM.out]; exact hi))
      have HTL : Hid (∀ i, (turns N Wl (ps.take i)).length = k + n) := fun i => by rw [turns_length]; exact HLEN.out
      have HSTEP : Hid (∀ i, i < m → turns N Wl (ps.take (i + 1)) = flipB (turns N Wl (ps.take i)) (N - 1 - ps.getD i 0)) := fun i hi => by rw [take_succ_getD ps i (by rw [HM.out]; exact hi), turns_snoc]
      have MB := Lib.hid (M8.out.grow UB.out)
      have hcB : Hid (c < gb) := Nat.lt_of_lt_of_le M8.out.lt (Nat.le_trans U8.out.size hg8)
      have HMW : Hid (∀ W, Upd (oneBlock gb) wb W → MadeB wc.heap.size W c t (k : Int)) := fun W hW => MB.out.keep hW (fun i hi e => by have h1 := U8.out.size; have h2 : i = gb := e; omega)
      have HIN : Hid (∀ i W, i < m → Upd (oneBlock gb) wb W → ∃ g off, au = some ⟨g, off, none⟩ ∧ W.cell? ⟨g, off + i, none⟩ = some (.int .i64 ((ps.getD i 0 : Nat) : Int))) := fun i W hi hW => by
        obtain ⟨g, off, rfl, hg, hc⟩ := HI.out.cell (by omega)
        have c0 := hc i hi
        rw [nts_getD0 ps i (by rw [HM.out]; exact hi)] at c0
        exact ⟨g, off, rfl, upd_cell1 hW (upd_cell UB.out c0) (fun e => by have h2 : g = gb := e; omega)⟩
      clear HI HP
      go_wp2
      go_loopw [65] (fun v wr => ∃ i : Nat, i ≤ m ∧ v = .int .i64 (i : Int) ∧ Hid (ByteRow wr gb (k + n) 5 (fun j => ((turns N Wl (ps.take i)).getD j 0).toNat)) ∧ Hid (Upd (oneBlock gb) wb wr)) (fun v _ => m - (intOf v).toNat)
      case atStart => exact ⟨0, Nat.zero_le _, rfl, BB.out, Upd.refl _ _⟩
      case round =>
        obtain ⟨i, hi, rfl, HB, HU⟩ := hrel
        by_cases h0 : i < m
        · obtain ⟨g, off, rfl, c1⟩ := HIN.out i wr h0 HU.out
          have hp0 := HPT.out i h0
          have HS1 := HSTEP.out i h0
          have HT1 := Lib.hid (HTL.out i)
          rw [show turns N Wl (ps.take i) = turns N Wl (ps.take i) from rfl] at HS1
          obtain ⟨T, hT⟩ : ∃ T, turns N Wl (ps.take i) = T := ⟨_, rfl⟩
          rw [hT] at HS1 HT1 HB
          obtain ⟨p, hp⟩ : ∃ p, ps.getD i 0 = p := ⟨_, rfl⟩
          rw [hp] at hp0 HS1 c1
          replace HS1 := Lib.hid HS1
          clear hp hT
          obtain ⟨q, hq⟩ : ∃ q, N - 1 - p = q := ⟨_, rfl⟩
          rw [hq] at HS1
          obtain ⟨a8, ha8⟩ : ∃ a8, q / 8 = a8 := ⟨_, rfl⟩
          obtain ⟨b8, hb8⟩ : ∃ b8, q % 8 = b8 := ⟨_, rfl⟩
          obtain ⟨N1, hN1⟩ : ∃ N1, N - 1 = N1 := ⟨_, rfl⟩
          have hNU := HNU.out
          have hNN := HN.out.1
          have e1 : (N : Int) - 1 = (N1 : Int) := by omega
          have e2 : (N1 : Int) - (p : Int) = (q : Int) := by omega
          have l1 : N1 ≤ 2152 := by omega
          have hq2 : q ≤ 2152 := by omega
          have hw1 : IntKind.i64.wrap ((N : Int) - 1) = (N1 : Int) := by rw [e1]; exact wi64 _ (Int.natCast_nonneg _) (Int.ofNat_le.2 l1)
          have hw2 : IntKind.i64.wrap ((N1 : Int) - (p : Int)) = (q : Int) := by rw [e2]; exact wi64 _ (Int.natCast_nonneg _) (Int.ofNat_le.2 hq2)
          have hv1 : wrap64 ((N : Int) - 1) = (N1 : Int) := by rw [e1]; exact w64 _ (Int.natCast_nonneg _) (Int.ofNat_le.2 l1)
          have hv2 : wrap64 ((N1 : Int) - (p : Int)) = (q : Int) := by rw [e2]; exact w64 _ (Int.natCast_nonneg _) (Int.ofNat_le.2 hq2)
          clear e1 e2
          have hq8 : (q : Int) / 8 = (a8 : Int) := by omega
          have hr8 : (q : Int) % 8 = (b8 : Int) := by omega
          have hb88 : b8 < 8 := by omega
          have ha84 : a8 ≤ 2152 := by rw [← ha8]; exact Nat.le_trans (Nat.div_le_self _ _) hq2
          have ha88 : a8 < k + n := by omega
          obtain ⟨o, ho⟩ : ∃ o, (T.getD a8 0).toNat = o := ⟨_, rfl⟩
          have ho8 : o < 256 := by rw [← ho]; exact (T.getD a8 0).toNat_lt
          have hsh : (128 : Int) / 2 ^ b8 = ((2 ^ (7 - b8) : Nat) : Int) := shr_128 ⟨b8, hb88⟩
          have hxr := byte_xor o b8 ho8 hb88
          have HFIN : Hid (∀ W, ByteRow W gb (k + n) 5 (fun j => (T.getD j 0).toNat) → ByteRow (W.setCell ⟨gb, a8, none⟩ (.int .u8 ((o ^^^ 2 ^ (7 - b8) : Nat) : Int))) gb (k + n) 5 (fun j => ((turns N Wl (ps.take (i + 1))).getD j 0).toNat)) := fun W hW => by
            have h9 := flip_row (q := q) hW HT1.out (by omega)
            rw [ha8, hb8, ho, ← HS1.out] at h9
            exact h9
          have HO1 : Hid (∀ W, ByteRow W gb (k + n) 5 (fun j => (T.getD j 0).toNat) → W.cell? ⟨gb, a8, none⟩ = some (.int .u8 ((o : Nat) : Int)) ∧ W.frozen? ⟨gb, a8, none⟩ = false) := fun W hW => by
            refine ⟨?_, hW.free a8 ha88⟩
            rw [← ho]
            exact hW.cell a8 ha88
          have MW := Lib.hid (HMW.out wr HU.out)
          have hy8 : 2 ^ (7 - b8) < 256 := by have h9 : 2 ^ (7 - b8) < 2 ^ 8 := Nat.pow_lt_pow_right (by omega) (by omega); exact h9
          clear ho hq ha8 hb8 hN1 HS1
          generalize o ^^^ 2 ^ (7 - b8) = z at *
          generalize 2 ^ (7 - b8) = y at *
          go_upto_region 13 with (go_at_call 172; refine (HBITS.out _ _ MW.out).mono ?_; rintro e w12 ⟨rfl, hu⟩; have U12 := Lib.hid hu; clear hu)
          clear hv1 hv2 hw1 hw2
          have R12 := Lib.hid (HB.out.grow U12.out)
          obtain ⟨d1, d2⟩ := HO1.out w12.drew R12.out
          have F1 := HFIN.out w12 R12.out
          have F2 : Upd (oneBlock gb) wb (w12.setCell ⟨gb, a8, none⟩ (.int .u8 ((z : Nat) : Int))) := (HU.out.trans (U12.out.mono (fun _ _ h => h.elim))).setCell (p := ⟨gb, a8, none⟩) (.inl rfl) _
          replace F1 : Hid (ByteRow (w12.setCell ⟨gb, a8, none⟩ (.int .u8 ((z : Nat) : Int))).drew gb (k + n) 5 (fun j => ((turns N Wl (ps.take (i + 1))).getD j 0).toNat)) := F1
          replace F2 := Lib.hid F2.drew
          go_region
          go_wp2_with fail
          go_roundw
          case rel => exact ⟨i + 1, by omega, by go_num, F1, F2⟩
          case measure => simp [intOf]; omega
        · have him : i = m := by omega
          have hWF : turns N Wl (ps.take i) = turns N Wl ps := by rw [List.take_of_length_le (by rw [HM.out]; omega)]
          rw [hWF] at HB
          have hFL : (turns N Wl ps).length = k + n := by rw [← hWF]; exact HTL.out i
          subst him
          clear hWF
          obtain ⟨F, hF⟩ : ∃ F, turns N Wl ps = F := ⟨_, rfl⟩
          have HF := Lib.hid hF
          rw [hF] at HB hFL
          clear hF
          have hn2 := HN2.out
          have k1w : wr.drew.cell? ⟨c, 1, none⟩ = some (.int .i64 (k : Int)) := (HMW.out wr HU.out).made.k
          have hcv1 := row_text (w := wr.drew) HB.out 0 k cc hFL (by omega)
          have hcv2 := row_text (w := wr.drew) HB.out k n (cc - k) hFL (by omega)
          rw [List.drop_zero] at hcv1
          rw [List.take_of_length_le (by rw [List.length_drop]; omega)] at hcv2
          obtain ⟨i0, hi0, hz0, hz1, hz2⟩ := bytePartsI
          have hsl1 : ∀ w : World, (Instr.sliceAt 105 (.slice (some ⟨gb, 0, none⟩) (k + n) cc) none (some (.int .i64 (k : Int))) none).run Tryz.prog w = .ok (.slice (some ⟨gb, 0, none⟩) k cc) w := fun w => by
            have h9 := Doc.run_slice_lo w 105 5 i0 Tryz.underlying105 hi0 (some ⟨gb, 0, none⟩) (k + n) cc k (by omega) hkc
            rw [if_neg (by omega)] at h9
            exact h9
          have hsl2 : ∀ w : World, (Instr.sliceAt 105 (.slice (some ⟨gb, 0, none⟩) (k + n) cc) (some (.int .i64 (k : Int))) none none).run Tryz.prog w = .ok (.slice (some ⟨gb, k, none⟩) n (cc - k)) w := fun w => by
            have h9 := Doc.run_slice_hi w 105 5 i0 Tryz.underlying105 hi0 hz1 (some ⟨gb, 0, none⟩) (k + n) cc k (by omega)
            rw [if_neg (by omega), Nat.add_sub_cancel_left, Option.map_some, add_zero_addr] at h9
            exact h9
          have HFIN : Hid (MadeB wc.heap.size wr c t (k : Int)) := HMW.out wr HU.out
          have HUF : Hid (Upd (oneBlock c) w wr) := (DG8.out.trans UB.out.one).step HU.out (fun i hi e => by have h1 := U8.out.size; have h2 : i = gb := e; have h3 := DG.out.size; omega)
          clear hi0 hz0 hz1 hz2
          go_wp2
          go_region
          all_goals
            go_wp2_with fail
            go_returns
            exact ⟨some ps, HA.out, by show _ = Ending.returned _; rw [HF.out, HM.out], HFIN.out.made, HUF.out.drew⟩
end Go.Proofs.YtoledgpcgjdjjaaGreatDoor

/- Plain: what Decode's answer is of a word with few bits turned; whatever it answers is a code word. -/
namespace Go.Proofs.YtoledgpcgjdjjaaGreatDoor
open F
open Go.RowKit Pm
set_option linter.unusedVariables false

def flips (W : List UInt8) (qs : List Nat) : List UInt8 := qs.foldl flipB W
theorem flips_length (qs : List Nat) : ∀ W, (flips W qs).length = W.length := by
  induction qs with
  | nil => intro W; rfl
  | cons q qs ih => intro W; exact (ih _).trans (flipB_length _ _)
theorem dbit_flips (qs : List Nat) : ∀ (W : List UInt8) (p : Nat), qs.Nodup → (∀ q ∈ qs, q < 8 * W.length) → dbit (flips W qs) p = (dbit W p != decide (p ∈ qs)) := by
  induction qs with
  | nil => intro W p _ _; show dbit W p = (dbit W p != decide (p ∈ [])); simp
  | cons q qs ih =>
    intro W p hn hq
    obtain ⟨h1, h2⟩ := List.nodup_cons.1 hn
    show dbit (flips (flipB W q) qs) p = _
    rw [ih _ _ h2 (fun x hx => by rw [flipB_length]; exact hq x (List.mem_cons_of_mem _ hx)), dbit_flip _ _ _ (hq q List.mem_cons_self)]
    by_cases e : p = q
    · subst e
      rw [decide_eq_true rfl, decide_eq_false h1, decide_eq_true (List.mem_cons_self)]
      cases dbit W p <;> rfl
    · rw [decide_eq_false e]
      have : (p ∈ q :: qs) ↔ p ∈ qs := by simp [e]
      rw [decide_eq_decide.2 this]
      cases dbit W p <;> cases decide (p ∈ qs) <;> rfl
theorem turns_flips (N : Nat) (ps : List Nat) : ∀ W, turns N W ps = flips W (ps.map fun p => N - 1 - p) := by
  unfold turns flips
  intro W
  rw [List.foldl_map]
theorem wv_flips (K N : Nat) (qs : List Nat) : ∀ W : List UInt8, N ≤ 8 * W.length → (∀ q ∈ qs, q < N) → wv K (flips W qs) N = wv K W N + lsum (qs.map fun q => al (N - 1 - q)) (fun X => pow X K) := by
  induction qs with
  | nil => intro W _ _; exact (add_zero _).symm
  | cons q qs ih =>
    intro W hW hq
    have hq' := hq q List.mem_cons_self
    show wv K (flips (flipB W q) qs) N = wv K W N + (pow (al (N - 1 - q)) K + lsum (qs.map _) _)
    rw [ih _ (by rw [flipB_length]; exact hW) (fun x hx => hq x (List.mem_cons_of_mem _ hx)), wv_flip K W N _ hq' hW, pow_al, Nat.mul_comm K, add_assoc]
def expo (N : Nat) (qs : List Nat) : List Nat := (List.range N).filter fun p => decide (N - 1 - p ∈ qs)
theorem expo_asc (N : Nat) (qs : List Nat) : (expo N qs).Pairwise (· < ·) := List.Pairwise.filter _ List.pairwise_lt_range
theorem expo_mem {N : Nat} {qs : List Nat} {p : Nat} : p ∈ expo N qs ↔ p < N ∧ N - 1 - p ∈ qs := by
  unfold expo
  rw [List.mem_filter, List.mem_range, decide_eq_true_eq]
theorem lsum_perm {l l' : List F} (h : l.Perm l') (g : F → F) : lsum l g = lsum l' g := by
  induction h with
  | nil => rfl
  | cons x _ ih => show g x + _ = g x + _; rw [ih]
  | swap x y l => show g y + (g x + lsum l g) = g x + (g y + lsum l g); rw [add_left_comm]
  | trans _ _ h1 h2 => exact h1.trans h2
theorem expo_perm {N : Nat} {qs : List Nat} (hn : qs.Nodup) (hq : ∀ q ∈ qs, q < N) : (expo N qs).Perm (qs.map fun q => N - 1 - q) := by
  refine (List.perm_ext_iff_of_nodup ?_ ?_).2 fun p => ?_
  · exact List.nodup_iff_pairwise_ne.2 ((expo_asc N qs).imp fun h => Nat.ne_of_lt h)
  · refine List.nodup_iff_pairwise_ne.2 (List.pairwise_map.2 (List.Pairwise.imp_of_mem (R := fun a b => a ≠ b) (fun {a b} ha hb hab e => ?_) (List.nodup_iff_pairwise_ne.1 hn)))
    have := hq a ha; have := hq b hb; omega
  · rw [expo_mem, List.mem_map]
    constructor
    · intro ⟨h1, h2⟩
      exact ⟨N - 1 - p, h2, by omega⟩
    · intro ⟨q, h1, h2⟩
      have := hq q h1
      refine ⟨by omega, ?_⟩
      rw [show N - 1 - p = q by omega]; exact h1
theorem expo_length {N : Nat} {qs : List Nat} (hn : qs.Nodup) (hq : ∀ q ∈ qs, q < N) : (expo N qs).length = qs.length := by
  rw [(expo_perm hn hq).length_eq, List.length_map]
theorem nodup_expo (N : Nat) (qs : List Nat) : (expo N qs).Nodup := List.nodup_iff_pairwise_ne.2 ((expo_asc N qs).imp fun h => Nat.ne_of_lt h)
theorem turns_back {N : Nat} {W : List UInt8} {qs : List Nat} (hN : N ≤ 8 * W.length) (hn : qs.Nodup) (hq : ∀ q ∈ qs, q < N) : turns N (flips W qs) (expo N qs) = W := by
  rw [turns_flips]
  refine bytes_ext (by rw [flips_length, flips_length]) fun p _ => ?_
  have hm : ∀ p, p ∈ ((expo N qs).map fun p => N - 1 - p) ↔ p ∈ qs := fun p => by
    rw [List.mem_map]
    constructor
    · intro ⟨a, h1, h2⟩
      obtain ⟨h3, h4⟩ := expo_mem.1 h1
      rw [← h2]; exact h4
    · intro h
      have := hq p h
      exact ⟨N - 1 - p, expo_mem.2 ⟨by omega, by rw [show N - 1 - (N - 1 - p) = p by omega]; exact h⟩, by omega⟩
  have hnd : ((expo N qs).map fun p => N - 1 - p).Nodup := by
    refine List.nodup_iff_pairwise_ne.2 (List.pairwise_map.2 (List.Pairwise.imp_of_mem (R := fun a b => a ≠ b) (fun {a b} ha hb hab e => ?_) (List.nodup_iff_pairwise_ne.1 (nodup_expo N qs))))
    have := (expo_mem.1 ha).1; have := (expo_mem.1 hb).1; omega
  rw [dbit_flips _ _ _ hnd (fun q hq' => by rw [flips_length]; have := hq q ((hm q).1 hq'); omega), dbit_flips _ _ _ hn (fun q h => by have := hq q h; omega), decide_eq_decide.2 (hm p)]
  cases dbit W p <;> cases decide (p ∈ qs) <;> rfl

theorem codeP (t : Nat) (h1 : 1 ≤ t) (h8 : t ≤ 8) : (∀ k, k < (tl t).length → ∃ e : Nat, (tl t).getD k 0 = (e : Int) ∧ e < 13 * t) ∧ (tailR (13 * t) (tl t)).Ok ∧ ∀ K, 1 ≤ K → K ≤ 2 * t → Root (13 * t) K (tailR (13 * t) (tl t)) := by
  obtain ⟨he, _, htl⟩ := gen_list t h1 h8
  refine ⟨htl, tailR_ok (13 * t) (tl t) (by omega), fun K k1 k2 => root_of (13 * t) K (by omega) (tl t) (fun e hm => ?_) ?_⟩
  · obtain ⟨i, hi, rfl⟩ := List.getElem_of_mem hm
    obtain ⟨n, h, hl⟩ := htl i hi
    rw [List.getD_eq_getElem?_getD, List.getElem?_eq_getElem hi] at h
    exact ⟨n, h, hl⟩
  · rw [← he]; exact roots_zero t K h1 h8 k1 k2
theorem remOf_regs (t : Nat) (h1 : 1 ≤ t) (h8 : t ≤ 8) (l : List UInt8) : remOf (stepS t) l = regs (tailR (13 * t) (tl t)) l (8 * l.length) := by
  have h := fold_regs (codeP t h1 h8).2.1 l l.length (Nat.le_refl _)
  rw [List.take_length] at h
  exact h
theorem dbit_textFrom (par : ByteArray) (t : Nat) (h8 : t ≤ 8) (hp : par.size = (13 * t + 7) / 8) (j : Nat) : dbit (textL (fromT par (13 * t)) par.size) j = (decide (j < 13 * t) && dbit par.data.toList j) := by
  have hz : ∀ j, 13 * t ≤ j → rb (fromT par (13 * t)) j = false := fun j hj => by rw [rb_from par (13 * t) (by omega), decide_eq_false (by omega), Bool.false_and]
  rw [hp, textL_txt (from_ok par (13 * t)) (13 * t) hz, dbit_txt _ _ _ hz, rb_from par (13 * t) (by omega)]
theorem wordOf_length (t : Nat) (data par : ByteArray) : (wordOf t data par).length = data.size + par.size := by
  unfold wordOf
  rw [List.length_append, textL_length]; rfl
theorem rest_wv (t : Nat) (h1 : 1 ≤ t) (h8 : t ≤ 8) (data par : ByteArray) (hp : par.size = (13 * t + 7) / 8) (K : Nat) (k1 : 1 ≤ K) (k2 : K ≤ 2 * t) : evR (13 * t) K (restOf t data par) = wv K (wordOf t data par) (8 * data.size + 13 * t) := by
  obtain ⟨a, b, c⟩ := codeP t h1 h8
  have h := wv_rest (d := 13 * t) (by omega) (by omega) a b (c K k1 k2) data.data.toList (textL (fromT par (13 * t)) par.size) (fromT par (13 * t)) (fun j hj => by
    rw [dbit_textFrom par t h8 hp, rb_from par (13 * t) (by omega)])
  unfold restOf
  rw [remOf_regs t h1 h8]
  exact h
theorem word_zero (t : Nat) (h1 : 1 ≤ t) (h8 : t ≤ 8) (l : List UInt8) (K : Nat) (k1 : 1 ≤ K) (k2 : K ≤ 2 * t) : wv K (l ++ parT t l) (8 * l.length + 13 * t) = 0 := by
  obtain ⟨a, b, c⟩ := codeP t h1 h8
  unfold parT
  rw [remOf_regs t h1 h8]
  exact wv_code t h8 h1 (tl t) a b (c K k1 k2) l
theorem parT_spare (t : Nat) (h1 : 1 ≤ t) (h8 : t ≤ 8) (l : List UInt8) (j : Nat) (hj : 13 * t ≤ j) : dbit (parT t l) j = false := by
  obtain ⟨a, b, c⟩ := codeP t h1 h8
  have hreg := regs_ok b l (8 * l.length)
  have hhigh := fun j hj => regs_high (13 * t) (by omega) (tl t) a b l (8 * l.length) j hj
  unfold parT
  rw [remOf_regs t h1 h8, textL_txt hreg (13 * t) hhigh, dbit_txt _ _ _ hhigh, hhigh j hj]
theorem good_flips (t : Nat) (h1 : 1 ≤ t) (h8 : t ≤ 8) (l : List UInt8) (hl : l.length ≤ 256) (qs : List Nat) (hn : qs.Nodup) (hq : ∀ q ∈ qs, q < 8 * l.length + 13 * t) (data par : ByteArray) (hd : data.size = l.length) (hp : par.size = (13 * t + 7) / 8)
    (hw : wordOf t data par = flips (l ++ parT t l) qs) (hqt : qs.length ≤ t) : Good t (8 * l.length + 13 * t) (restOf t data par) (expo (8 * l.length + 13 * t) qs) ∧ turns (8 * l.length + 13 * t) (wordOf t data par) (expo (8 * l.length + 13 * t) qs) = l ++ parT t l := by
  have hN : 8 * l.length + 13 * t ≤ 8 * (l ++ parT t l).length := by rw [List.length_append, parT_length]; omega
  refine ⟨⟨expo_asc _ _, fun p hp => (expo_mem.1 hp).1, by rw [expo_length hn hq]; exact hqt, fun K k1 k2 => ?_⟩, ?_⟩
  · rw [rest_wv t h1 h8 data par hp K k1 k2, hd, hw, wv_flips K _ qs _ hN hq, word_zero t h1 h8 l K k1 k2, zero_add]
    refine (lsum_perm ?_ _)
    have h9 := (expo_perm hn hq).map al
    rw [List.map_map] at h9
    exact h9.symm
  · rw [hw]; exact turns_back hN hn hq
end Go.Proofs.YtoledgpcgjdjjaaGreatDoor
