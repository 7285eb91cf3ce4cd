/- node.parse, walked. -/
import Derived.Test.YthlheamnfjjamaaDoorOd
import Derived.Laws.ResultCell
namespace Go.Proofs.YthlheamnfjjamaaDoor
open Go.RowKit Cm
attribute [local irreducible] beZ valN
attribute [local go_sem ↓] Go.wp_at_zero Go.wp_at_succ

theorem lt_alloc {w W : World} {O : Obj} (h : Upd noBlock (w.alloc O) W) : w.heap.size < W.heap.size := by
  have := h.size
  rw [World.size_alloc] at this
  omega
set_option maxRecDepth 20000 in
set_option maxHeartbeats 3200000 in
theorem parse_any (l : List UInt8) (w : World) (h13 : 13 + klenL l ≤ l.length) (hl : l.length ≤ 281474976710656) :
    Calls Tryd.prog 45 #[.string ⟨l.toArray⟩] w fun e w' => e = .returned (.tuple #[parseV l, .bool (parseOk l)]) ∧ Upd noBlock w w' := by
  have HL := fun W => lengths_any l W (by omega) hl
  have HOF := fun W => Of_any ((l.drop 2).take 8) W (by rw [List.length_take]; unfold maxLen; omega)
  have HK := fun W => clone_any ⟨(keyL l).toArray⟩ W (by show (keyL l).length ≤ _; unfold keyL; rw [List.length_take, List.length_drop]; omega)
  have HVL := fun W => clone_any ⟨(valL l).toArray⟩ W (by show (valL l).length ≤ _; unfold valL; rw [List.length_drop]; omega)
  have HV := fun W => validN_any (seqL l) (goneL l) (lastL l) (keyL l) (valL l) W (by unfold keyL maxLen; rw [List.length_take, List.length_drop]; omega) (by unfold valL maxLen; rw [List.length_drop]; omega)
  have hseq : wrap64 ((valN ((l.drop 2).take 8) : Nat) : Int) = seqL l := rfl
  rw [hseq] at HOF
  have hpo : parseOk l = (decide (flagL l < 4) && goodN (seqL l) (goneL l) (keyL l) (valL l)) := rfl
  have k1 := klen_lt l
  have hf8 : flagL l < 256 := UInt8.toNat_lt _
  have hc : ∃ c : UInt8, l[1]? = some c ∧ flagL l = c.toNat := ⟨l[1], by rw [List.getElem?_eq_getElem (by omega)], by unfold flagL; rw [List.getD_eq_getElem?_getD, List.getElem?_eq_getElem (by omega)]; rfl⟩
  obtain ⟨c, hc, hfc⟩ := hc
  have hat : ∀ h : 1 < (ByteArray.mk l.toArray).size, ((ByteArray.mk l.toArray)[1]'h).toNat = flagL l := fun h => by
    obtain ⟨_, e⟩ := List.getElem?_eq_some_iff.1 hc
    rw [hfc, ← e]; rfl
  have xs := ext_str l 2 10
  have xk := ext_str l 13 (13 + klenL l)
  have xv : (ByteArray.mk l.toArray).extract (13 + klenL l) l.length = ⟨(valL l).toArray⟩ := by
    rw [ext_str]
    unfold valL
    rw [List.take_of_length_le (by rw [List.length_drop]; omega)]
  have b1 := and1_8 (flagL l) hf8
  have b2 := and2_8 (flagL l) hf8
  have g1 : (((flagL l % 2 : Nat) : Int) != 0) = goneL l := by
    unfold goneL
    have : flagL l % 2 = 0 ∨ flagL l % 2 = 1 := by omega
    rcases this with h | h <;> rw [h] <;> rfl
  have g2 : (((2 * (flagL l / 2 % 2) : Nat) : Int) != 0) = lastL l := by
    unfold lastL
    have : flagL l / 2 % 2 = 0 ∨ flagL l / 2 % 2 = 1 := by omega
    rcases this with h | h <;> rw [h] <;> rfl
  unfold parseV nodeV zeroV nodeV
  rw [hpo]
  obtain ⟨q, hq⟩ : ∃ q : ByteArray, ⟨l.toArray⟩ = q := ⟨_, rfl⟩
  obtain ⟨qs, hqs⟩ : ∃ q : ByteArray, ⟨((l.drop 2).take 8).toArray⟩ = q := ⟨_, rfl⟩
  obtain ⟨qk, hqk⟩ : ∃ q : ByteArray, ⟨(keyL l).toArray⟩ = q := ⟨_, rfl⟩
  obtain ⟨qv, hqv⟩ : ∃ q : ByteArray, ⟨(valL l).toArray⟩ = q := ⟨_, rfl⟩
  have hsz : q.size = l.length := by rw [← hq]; rfl
  rw [show 10 - 2 = 8 from rfl, hq, hqs] at xs
  have e13 : 13 + klenL l - 13 = klenL l := by omega
  rw [e13] at xk
  have hkk : (⟨((l.drop 13).take (klenL l)).toArray⟩ : ByteArray) = qk := hqk
  rw [hq, hkk] at xk
  rw [hq, hqv] at xv
  rw [hqs] at HOF
  rw [hqk] at HK
  rw [hqv] at HVL
  rw [hqk, hqv] at HV ⊢
  rw [hq] at hat HL ⊢
  have s1 : IntKind.i64.wrap (13 + (klenL l : Int)) = 13 + (klenL l : Int) := by rw [IntKind.wrap_i64]; omega
  have s2 : (0 : Int) ≤ 13 + (klenL l : Int) := by omega
  have s3 : (13 : Int) ≤ 13 + (klenL l : Int) := by omega
  have s4 : 13 + (klenL l : Int) ≤ (l.length : Int) := by omega
  have s5 : (13 + (klenL l : Int)).toNat = 13 + klenL l := by omega
  have s6 : 1 < q.size := by omega
  clear hq hqs hqk hqv hkk hpo hseq hc hfc e13 k1
  generalize goodN (seqL l) (goneL l) (keyL l) (valL l) = gd at *
  generalize seqL l = n at *
  generalize goneL l = go at *
  generalize lastL l = la at *
  generalize klenL l = kl at *
  generalize vlenL l = vl at *
  generalize flagL l = m at *
  generalize l.length = len at *
  have hn : len ≤ 9223372036854775807 := by omega
  replace HL := Lib.hid HL
  replace HOF := Lib.hid HOF
  replace HK := Lib.hid HK
  replace HVL := Lib.hid HVL
  replace HV := Lib.hid HV
  obtain ⟨ok, hok⟩ : ∃ b, (decide (m < 4) && gd) = b := ⟨_, rfl⟩
  rw [hok]
  have HOK := Lib.hid hok
  clear hok
  go_enter Tryd.func45, Tryd.ntmps45
  go_upto_region 3 with (go_at_call 63; with_reducible refine (HL.out _).mono ?_; rintro e w1 ⟨rfl, h⟩; have HW := Lib.hid h; have HL1 := Lib.hid (lt_alloc h); clear h)
  generalize m % 2 = m1 at *
  generalize 2 * (m / 2 % 2) = m2 at *
  go_cut [7] from 15 to 34 (fun x wx => ∃ g, x = .pointer (some ⟨g, 0, none⟩) ∧ Hid (wx.heap[g]? = some (.cells #[.int .i64 n, .bool go, .bool la, .string qk, .string qv] 26 (0, 0))) ∧ Hid (w.heap.size < g) ∧ Hid (Upd noBlock (w.alloc (.cells #[.int .i64 0, .bool false, .bool false, .string ⟨#[]⟩, .string ⟨#[]⟩] 26)) wx))
  case first =>
    go_region_with (first
      | (go_at_call 48; with_reducible refine (HOF.out _).mono ?_; rintro e w2 ⟨rfl, rfl⟩)
      | (go_at_call 58; with_reducible refine (HK.out _).mono ?_; rintro e w3 ⟨rfl, h⟩; (first | replace h := Upd.undrew h | skip); (first | have HW := Lib.hid (HW.out.trans h) | have HW := Lib.hid ((HW.out.alloc _).trans h)); (first | have zh := Lib.hid (h.cells (heap_alloc_new _ _) (fun h => h)) | have zh := Lib.hid (h.cells zh.out (fun h => h)) | skip); (first | (have zc := fun i => cell_of zh.out i; have zf := fun i => free_of zh.out i) | skip); have HL3 := Lib.hid (lt_alloc HW.out); clear h)
      | (go_at_call 58; with_reducible refine (HVL.out _).mono ?_; rintro e w4 ⟨rfl, h⟩; (first | replace h := Upd.undrew h | skip); (first | have HW := Lib.hid (HW.out.trans h) | have HW := Lib.hid ((HW.out.alloc _).trans h)); (first | have zh := Lib.hid (h.cells (heap_alloc_new _ _) (fun h => h)) | have zh := Lib.hid (h.cells zh.out (fun h => h)) | skip); (first | (have zc := fun i => cell_of zh.out i; have zf := fun i => free_of zh.out i) | skip); have HL4 := Lib.hid (lt_alloc HW.out); clear h))
    all_goals
      go_wp2_with fail
      go_meet
      refine ⟨_, rfl, ?_, ?_, ?_⟩
      · show _ = _
        first | with_reducible exact heap_alloc_new _ _ | exact set5 zh.out rfl _ _ _ _ _
      · first | exact HL1 | exact HL3 | exact HL4
      · show Upd _ _ _
        first | with_reducible exact HW.out.alloc _ | with_reducible exact (HW.out.alloc _).drew | exact upd5 HW.out (by rw [World.size_alloc]; first | exact HL1.out | exact HL3.out | exact HL4.out) _ _ _ _ _
  case rest =>
    obtain ⟨g, rfl, zk, HG, HW⟩ := hcut
    have k7 := fun i => cell_of zk.out i
    have rz := HW.out.cells (heap_alloc_new w _) (fun h => h)
    have rc := fun i => cell_of rz i
    have rf := fun i => free_of rz i
    have HV2 := Lib.hid (HV.out wc)
    have HZ := Lib.hid rz
    have HKK := Lib.hid zk.out
    clear rz zk
    by_cases h4 : m < 4
    · have h4' : ¬ (4 : Int) ≤ (m : Int) := by omega
      rcases gd with _ | _
      · have hok' : ok = false := by rw [← HOK.out, Bool.and_false]
        go_wp2_with (go_at_call 37; with_reducible refine HV2.out.mono ?_; rintro e w5 ⟨rfl, h⟩; have HX := Lib.hid (HW.out.trans h); have hz5 := h.cells HZ.out (fun h => h); have rc5 := fun i => cell_of hz5 i; have rf5 := fun i => free_of hz5 i; have hk5 := h.cells HKK.out (fun h => h); have k75 := fun i => cell_of hk5 i; have HZ5 := Lib.hid hz5; clear h hz5 hk5)
        all_goals exact fin_node rfl rfl rfl rfl (set5 HZ5.out rfl _ _ _ _ _) ⟨by first | rfl | (rw [hok']; rfl), upd5 (((Upd.refl _ w).alloc _).trans HX.out) (Nat.le_refl _) _ _ _ _ _⟩
      · have hok' : ok = true := by rw [← HOK.out, decide_eq_true h4]; rfl
        go_wp2_with (go_at_call 37; with_reducible refine HV2.out.mono ?_; rintro e w5 ⟨rfl, h⟩; have HX := Lib.hid (HW.out.trans h); have hz5 := h.cells HZ.out (fun h => h); have rc5 := fun i => cell_of hz5 i; have rf5 := fun i => free_of hz5 i; have hk5 := h.cells HKK.out (fun h => h); have k75 := fun i => cell_of hk5 i; have HZ5 := Lib.hid hz5; clear h hz5 hk5)
        all_goals exact fin_node rfl rfl rfl rfl (set5 HZ5.out rfl _ _ _ _ _) ⟨by first | rfl | (rw [hok']; rfl), upd5 (((Upd.refl _ w).alloc _).trans HX.out) (Nat.le_refl _) _ _ _ _ _⟩
    · have h4' : (4 : Int) ≤ (m : Int) := by omega
      have hok' : ok = false := by rw [← HOK.out, decide_eq_false h4]; rfl
      go_wp2_with fail
      all_goals exact fin_node rfl rfl rfl rfl (set5 HZ.out rfl _ _ _ _ _) ⟨by first | rfl | (rw [hok']; rfl), upd5 (((Upd.refl _ w).alloc _).trans HW.out) (Nat.le_refl _) _ _ _ _ _⟩
end Go.Proofs.YthlheamnfjjamaaDoor
