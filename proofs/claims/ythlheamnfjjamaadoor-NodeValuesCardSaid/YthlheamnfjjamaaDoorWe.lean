/- NodeValues. -/
import Derived.Test.YthlheamnfjjamaaDoorAr
import Derived.Test.YthlheamnfjjamaaDoorWea
import Derived.Test.YthlheamnfjjamaaDoorWeb
import Derived.Test.YthlheamnfjjamaaDoorWec
import Derived.Test.YthlheamnfjjamaaDoorWed
namespace Go.Proofs.YthlheamnfjjamaaDoor
open Go.RowKit Cm
attribute [local irreducible] beZ valN Cm.shs Cm.nxt Cm.reg Cm.ext
set_option linter.unusedVariables false

theorem nv_a (w : World) (a b : Int) (l : List UInt8) (wa : (Lit.int .i64 a).wf = true) (wb : (Lit.int .i64 b).wf = true) (ha : okN a = true) (hb : okN b = true) (hl : l.length ≤ 140737488351232) (hT : Tab w) :
    Calls Tryd.prog 5 #[.bool true, .agg #[.int .i64 a, .int .i64 b], .string ⟨l.toArray⟩] w fun e w' => e = .returned (.bool true) ∧ Upd noBlock w w' := by
  have HT : Hid (∀ W, Upd noBlock w W → Tab W) := fun W h => hT.upd h
  have hm : l.length ≤ maxLen := by unfold maxLen; omega
  have hz : (⟨l.toArray⟩ : ByteArray).size = l.length := rfl
  obtain ⟨g1, g2⟩ := getI_put true a b wa wb
  obtain ⟨k1, k2⟩ := getE_put a wa
  rw [ha, hb, Bool.true_and] at g1 g2
  rw [if_pos rfl] at g2
  rw [ha] at k1 k2
  rw [if_pos rfl] at k2
  have HPI := Lib.hid (fun W => putInode_any true a b W)
  have HPE := Lib.hid (fun W => putEntry_any a W)
  have hFA := fun W => refFits_any a W
  rw [ha] at hFA
  have hFB := fun W => refFits_any b W
  rw [hb] at hFB
  have hGI := fun W => getInode_any (putI true a b) W (by rw [putI_len]; decide)
  rw [g1, g2] at hGI
  have hGE := fun W => getEntry_any (beZ 8 a) W (by rw [beZ_length]; decide)
  rw [k1, k2] at hGE
  have zp : (⟨(putI true a b).toArray⟩ : ByteArray).size = 17 := putI_len _ _ _
  have zq : (⟨(beZ 8 a).toArray⟩ : ByteArray).size = 8 := beZ_length _ _
  have hra := (okN_iff a).1 ha
  have hrb := (okN_iff b).1 hb
  have HBA := Lib.hid (fun W => refBytesA 8 (by decide) 8 rfl a hra.1 (by omega) W)
  have HBB := Lib.hid (fun W => refBytesA 8 (by decide) 8 rfl b hrb.1 (by omega) W)
  have e1 := cat_bytes [1] (beZ 8 a)
  have e2 : (⟨([1] ++ beZ 8 a).toArray⟩ : ByteArray) ++ ⟨(beZ 8 b).toArray⟩ = ⟨(putI true a b).toArray⟩ := by
    rw [cat_bytes, List.append_assoc]
    unfold putI
    rw [beZ1]; rfl
  have zp1 : (⟨([1] ++ beZ 8 a).toArray⟩ : ByteArray).size = 9 := by show ([1] ++ beZ 8 a).length = 9; rw [List.length_append, beZ_length]; rfl
  have zpb : (⟨(beZ 8 b).toArray⟩ : ByteArray).size = 8 := beZ_length _ _
  have hSI := fun W => getInode_any l W hm
  have hSE := fun W => getEntry_any l W hm
  obtain ⟨q0, _⟩ : ∃ q : ByteArray, q = ⟨#[]⟩ := ⟨_, rfl⟩
  by_cases h17 : l.length = 17
  · have e8 : getEok l = false := by unfold getEok; rw [decide_eq_false (by omega), Bool.false_and]
    have v8 : getEV l = 0 := by unfold getEV; rw [e8]; rfl
    rw [e8, v8] at hSE
    have h0 : 0 < (⟨l.toArray⟩ : ByteArray).size := by rw [hz]; omega
    have hfir : ((⟨l.toArray⟩ : ByteArray)[0]'h0).toNat = firL l := by
      show (l[0]'(by omega)).toNat = _
      unfold firL
      rw [List.getD_eq_getElem?_getD, List.getElem?_eq_getElem (by omega : 0 < l.length)]; rfl
    by_cases hf : firL l ≤ 1
    · have x1 : (⟨l.toArray⟩ : ByteArray).extract 1 9 = ⟨((l.drop 1).take 8).toArray⟩ := ext_str l 1 9
      have x2 : (⟨l.toArray⟩ : ByteArray).extract 9 17 = ⟨(l.drop 9).toArray⟩ := by rw [ext_str, List.take_of_length_le (by rw [List.length_drop]; omega)]
      have HN1 := Lib.hid (fun W => refNumber_any ((l.drop 1).take 8) W (by rw [List.length_take, List.length_drop]; omega))
      have HN2 := Lib.hid (fun W => refNumber_any (l.drop 9) W (by rw [List.length_drop]; omega))
      by_cases t1 : 0 ≤ numR ((l.drop 1).take 8)
      · by_cases t2 : 0 ≤ numR (l.drop 9)
        · have gi := getI_want l h17 hf t1 t2
          have gv : getIV l = inodeV (firL l == 1) (linkL l) (sizeL l) := by unfold getIV; rw [gi]; rfl
          rw [gi, gv] at hSI
          have hPS := fun W => putInode_any (firL l == 1) (linkL l) (sizeL l) W
          rw [(getI_back l gi).1] at hPS
          exact nv_a4 w a b _ _ _ q0 _ _ _ _ _  HT HPI HPE (Lib.hid hFA) (Lib.hid hFB) (Lib.hid hGI) (Lib.hid hGE) zp zq HBA HBB e1 e2 zp1 zpb (Lib.hid hSI) (Lib.hid hSE) l.length hz (by omega) h17 h0 _ hfir (by omega) _ _ x1 x2 _ HN1 t1 _ HN2 t2 (Lib.hid hPS)
        · have gi : getIok l = false := by
            rw [Bool.eq_false_iff]; intro h; have := getI_back l h; omega
          have gv : getIV l = inodeV false 0 0 := by unfold getIV; rw [gi]; rfl
          rw [gi, gv] at hSI
          exact nv_a3 w a b _ _ _ q0 _ _  HT HPI HPE (Lib.hid hFA) (Lib.hid hFB) (Lib.hid hGI) (Lib.hid hGE) zp zq HBA HBB e1 e2 zp1 zpb (Lib.hid hSI) (Lib.hid hSE) l.length hz (by omega) h17 h0 _ hfir (by omega) _ _ x1 x2 _ HN1 t1 _ HN2 (by omega)
      · have gi : getIok l = false := by
          rw [Bool.eq_false_iff]; intro h; have := getI_back l h; omega
        have gv : getIV l = inodeV false 0 0 := by unfold getIV; rw [gi]; rfl
        rw [gi, gv] at hSI
        exact nv_a2 w a b _ _ _ q0 _ _  HT HPI HPE (Lib.hid hFA) (Lib.hid hFB) (Lib.hid hGI) (Lib.hid hGE) zp zq HBA HBB e1 e2 zp1 zpb (Lib.hid hSI) (Lib.hid hSE) l.length hz (by omega) h17 h0 _ hfir (by omega) _ _ x1 x2 _ HN1 (by omega)
    · have gi : getIok l = false := by
        rw [Bool.eq_false_iff]; intro h; have := getI_back l h; omega
      have gv : getIV l = inodeV false 0 0 := by unfold getIV; rw [gi]; rfl
      rw [gi, gv] at hSI
      exact nv_a1 w a b _ _ _ q0 _ _  HT HPI HPE (Lib.hid hFA) (Lib.hid hFB) (Lib.hid hGI) (Lib.hid hGE) zp zq HBA HBB e1 e2 zp1 zpb (Lib.hid hSI) (Lib.hid hSE) l.length hz (by omega) h17 h0 _ hfir (by omega)
  · have gi : getIok l = false := by unfold getIok; rw [decide_eq_false h17, Bool.false_and]
    have gv : getIV l = inodeV false 0 0 := by unfold getIV; rw [gi]; rfl
    rw [gi, gv] at hSI
    by_cases h8 : l.length = 8
    · have HN0 := Lib.hid (fun W => refNumber_any l W h8)
      by_cases t0 : 0 ≤ numR l
      · have ge := getE_want l h8 t0
        rw [ge] at hSE
        have hES := fun W => putEntry_any (getEV l) W
        rw [(getE_back l ge).1] at hES
        exact nv_a6 w a b _ _ _ q0 _ _ _  HT HPI HPE (Lib.hid hFA) (Lib.hid hFB) (Lib.hid hGI) (Lib.hid hGE) zp zq HBA HBB e1 e2 zp1 zpb (Lib.hid hSI) (Lib.hid hSE) l.length hz (by omega) h8 _ HN0 t0 (Lib.hid hES)
      · have ge : getEok l = false := by
          rw [Bool.eq_false_iff]; intro h; have := getE_back l h; omega
        have gw : getEV l = 0 := by unfold getEV; rw [ge]; rfl
        rw [ge, gw] at hSE
        exact nv_a5 w a b _ _ _ q0 _ _  HT HPI HPE (Lib.hid hFA) (Lib.hid hFB) (Lib.hid hGI) (Lib.hid hGE) zp zq HBA HBB e1 e2 zp1 zpb (Lib.hid hSI) (Lib.hid hSE) l.length hz (by omega) h8 _ HN0 (by omega)
    · have ge : getEok l = false := by unfold getEok; rw [decide_eq_false h8, Bool.false_and]
      have gw : getEV l = 0 := by unfold getEV; rw [ge]; rfl
      rw [ge, gw] at hSE
      exact nv_a7 w a b _ _ _ q0 _ _  HT HPI HPE (Lib.hid hFA) (Lib.hid hFB) (Lib.hid hGI) (Lib.hid hGE) zp zq HBA HBB e1 e2 zp1 zpb (Lib.hid hSI) (Lib.hid hSE) l.length hz (by omega) (by omega) (by omega)
theorem nv_b (w : World) (a b : Int) (l : List UInt8) (wa : (Lit.int .i64 a).wf = true) (wb : (Lit.int .i64 b).wf = true) (ha : okN a = true) (hb : okN b = true) (hl : l.length ≤ 140737488351232) (hT : Tab w) :
    Calls Tryd.prog 5 #[.bool false, .agg #[.int .i64 a, .int .i64 b], .string ⟨l.toArray⟩] w fun e w' => e = .returned (.bool true) ∧ Upd noBlock w w' := by
  have HT : Hid (∀ W, Upd noBlock w W → Tab W) := fun W h => hT.upd h
  have hm : l.length ≤ maxLen := by unfold maxLen; omega
  have hz : (⟨l.toArray⟩ : ByteArray).size = l.length := rfl
  obtain ⟨g1, g2⟩ := getI_put false a b wa wb
  obtain ⟨k1, k2⟩ := getE_put a wa
  rw [ha, hb, Bool.true_and] at g1 g2
  rw [if_pos rfl] at g2
  rw [ha] at k1 k2
  rw [if_pos rfl] at k2
  have HPI := Lib.hid (fun W => putInode_any false a b W)
  have HPE := Lib.hid (fun W => putEntry_any a W)
  have hFA := fun W => refFits_any a W
  rw [ha] at hFA
  have hFB := fun W => refFits_any b W
  rw [hb] at hFB
  have hGI := fun W => getInode_any (putI false a b) W (by rw [putI_len]; decide)
  rw [g1, g2] at hGI
  have hGE := fun W => getEntry_any (beZ 8 a) W (by rw [beZ_length]; decide)
  rw [k1, k2] at hGE
  have zp : (⟨(putI false a b).toArray⟩ : ByteArray).size = 17 := putI_len _ _ _
  have zq : (⟨(beZ 8 a).toArray⟩ : ByteArray).size = 8 := beZ_length _ _
  have hra := (okN_iff a).1 ha
  have hrb := (okN_iff b).1 hb
  have HBA := Lib.hid (fun W => refBytesA 8 (by decide) 8 rfl a hra.1 (by omega) W)
  have HBB := Lib.hid (fun W => refBytesA 8 (by decide) 8 rfl b hrb.1 (by omega) W)
  have e1 := cat_bytes [0] (beZ 8 a)
  have e2 : (⟨([0] ++ beZ 8 a).toArray⟩ : ByteArray) ++ ⟨(beZ 8 b).toArray⟩ = ⟨(putI false a b).toArray⟩ := by
    rw [cat_bytes, List.append_assoc]
    unfold putI
    rw [beZ1]; rfl
  have zp1 : (⟨([0] ++ beZ 8 a).toArray⟩ : ByteArray).size = 9 := by show ([0] ++ beZ 8 a).length = 9; rw [List.length_append, beZ_length]; rfl
  have zpb : (⟨(beZ 8 b).toArray⟩ : ByteArray).size = 8 := beZ_length _ _
  have hSI := fun W => getInode_any l W hm
  have hSE := fun W => getEntry_any l W hm
  obtain ⟨q0, _⟩ : ∃ q : ByteArray, q = ⟨#[]⟩ := ⟨_, rfl⟩
  by_cases h17 : l.length = 17
  · have e8 : getEok l = false := by unfold getEok; rw [decide_eq_false (by omega), Bool.false_and]
    have v8 : getEV l = 0 := by unfold getEV; rw [e8]; rfl
    rw [e8, v8] at hSE
    have h0 : 0 < (⟨l.toArray⟩ : ByteArray).size := by rw [hz]; omega
    have hfir : ((⟨l.toArray⟩ : ByteArray)[0]'h0).toNat = firL l := by
      show (l[0]'(by omega)).toNat = _
      unfold firL
      rw [List.getD_eq_getElem?_getD, List.getElem?_eq_getElem (by omega : 0 < l.length)]; rfl
    by_cases hf : firL l ≤ 1
    · have x1 : (⟨l.toArray⟩ : ByteArray).extract 1 9 = ⟨((l.drop 1).take 8).toArray⟩ := ext_str l 1 9
      have x2 : (⟨l.toArray⟩ : ByteArray).extract 9 17 = ⟨(l.drop 9).toArray⟩ := by rw [ext_str, List.take_of_length_le (by rw [List.length_drop]; omega)]
      have HN1 := Lib.hid (fun W => refNumber_any ((l.drop 1).take 8) W (by rw [List.length_take, List.length_drop]; omega))
      have HN2 := Lib.hid (fun W => refNumber_any (l.drop 9) W (by rw [List.length_drop]; omega))
      by_cases t1 : 0 ≤ numR ((l.drop 1).take 8)
      · by_cases t2 : 0 ≤ numR (l.drop 9)
        · have gi := getI_want l h17 hf t1 t2
          have gv : getIV l = inodeV (firL l == 1) (linkL l) (sizeL l) := by unfold getIV; rw [gi]; rfl
          rw [gi, gv] at hSI
          have hPS := fun W => putInode_any (firL l == 1) (linkL l) (sizeL l) W
          rw [(getI_back l gi).1] at hPS
          exact nv_b4 w a b _ _ _ q0 _ _ _ _ _  HT HPI HPE (Lib.hid hFA) (Lib.hid hFB) (Lib.hid hGI) (Lib.hid hGE) zp zq HBA HBB e1 e2 zp1 zpb (Lib.hid hSI) (Lib.hid hSE) l.length hz (by omega) h17 h0 _ hfir (by omega) _ _ x1 x2 _ HN1 t1 _ HN2 t2 (Lib.hid hPS)
        · have gi : getIok l = false := by
            rw [Bool.eq_false_iff]; intro h; have := getI_back l h; omega
          have gv : getIV l = inodeV false 0 0 := by unfold getIV; rw [gi]; rfl
          rw [gi, gv] at hSI
          exact nv_b3 w a b _ _ _ q0 _ _  HT HPI HPE (Lib.hid hFA) (Lib.hid hFB) (Lib.hid hGI) (Lib.hid hGE) zp zq HBA HBB e1 e2 zp1 zpb (Lib.hid hSI) (Lib.hid hSE) l.length hz (by omega) h17 h0 _ hfir (by omega) _ _ x1 x2 _ HN1 t1 _ HN2 (by omega)
      · have gi : getIok l = false := by
          rw [Bool.eq_false_iff]; intro h; have := getI_back l h; omega
        have gv : getIV l = inodeV false 0 0 := by unfold getIV; rw [gi]; rfl
        rw [gi, gv] at hSI
        exact nv_b2 w a b _ _ _ q0 _ _  HT HPI HPE (Lib.hid hFA) (Lib.hid hFB) (Lib.hid hGI) (Lib.hid hGE) zp zq HBA HBB e1 e2 zp1 zpb (Lib.hid hSI) (Lib.hid hSE) l.length hz (by omega) h17 h0 _ hfir (by omega) _ _ x1 x2 _ HN1 (by omega)
    · have gi : getIok l = false := by
        rw [Bool.eq_false_iff]; intro h; have := getI_back l h; omega
      have gv : getIV l = inodeV false 0 0 := by unfold getIV; rw [gi]; rfl
      rw [gi, gv] at hSI
      exact nv_b1 w a b _ _ _ q0 _ _  HT HPI HPE (Lib.hid hFA) (Lib.hid hFB) (Lib.hid hGI) (Lib.hid hGE) zp zq HBA HBB e1 e2 zp1 zpb (Lib.hid hSI) (Lib.hid hSE) l.length hz (by omega) h17 h0 _ hfir (by omega)
  · have gi : getIok l = false := by unfold getIok; rw [decide_eq_false h17, Bool.false_and]
    have gv : getIV l = inodeV false 0 0 := by unfold getIV; rw [gi]; rfl
    rw [gi, gv] at hSI
    by_cases h8 : l.length = 8
    · have HN0 := Lib.hid (fun W => refNumber_any l W h8)
      by_cases t0 : 0 ≤ numR l
      · have ge := getE_want l h8 t0
        rw [ge] at hSE
        have hES := fun W => putEntry_any (getEV l) W
        rw [(getE_back l ge).1] at hES
        exact nv_b6 w a b _ _ _ q0 _ _ _  HT HPI HPE (Lib.hid hFA) (Lib.hid hFB) (Lib.hid hGI) (Lib.hid hGE) zp zq HBA HBB e1 e2 zp1 zpb (Lib.hid hSI) (Lib.hid hSE) l.length hz (by omega) h8 _ HN0 t0 (Lib.hid hES)
      · have ge : getEok l = false := by
          rw [Bool.eq_false_iff]; intro h; have := getE_back l h; omega
        have gw : getEV l = 0 := by unfold getEV; rw [ge]; rfl
        rw [ge, gw] at hSE
        exact nv_b5 w a b _ _ _ q0 _ _  HT HPI HPE (Lib.hid hFA) (Lib.hid hFB) (Lib.hid hGI) (Lib.hid hGE) zp zq HBA HBB e1 e2 zp1 zpb (Lib.hid hSI) (Lib.hid hSE) l.length hz (by omega) h8 _ HN0 (by omega)
    · have ge : getEok l = false := by unfold getEok; rw [decide_eq_false h8, Bool.false_and]
      have gw : getEV l = 0 := by unfold getEV; rw [ge]; rfl
      rw [ge, gw] at hSE
      exact nv_b7 w a b _ _ _ q0 _ _  HT HPI HPE (Lib.hid hFA) (Lib.hid hFB) (Lib.hid hGI) (Lib.hid hGE) zp zq HBA HBB e1 e2 zp1 zpb (Lib.hid hSI) (Lib.hid hSE) l.length hz (by omega) (by omega) (by omega)
theorem nv_c (w : World) (d : Bool) (a b : Int) (l : List UInt8) (wa : (Lit.int .i64 a).wf = true) (wb : (Lit.int .i64 b).wf = true) (ha : okN a = true) (hb : okN b = false) (hl : l.length ≤ 140737488351232) (hT : Tab w) :
    Calls Tryd.prog 5 #[.bool d, .agg #[.int .i64 a, .int .i64 b], .string ⟨l.toArray⟩] w fun e w' => e = .returned (.bool true) ∧ Upd noBlock w w' := by
  have HT : Hid (∀ W, Upd noBlock w W → Tab W) := fun W h => hT.upd h
  have hm : l.length ≤ maxLen := by unfold maxLen; omega
  have hz : (⟨l.toArray⟩ : ByteArray).size = l.length := rfl
  obtain ⟨g1, g2⟩ := getI_put d a b wa wb
  obtain ⟨k1, k2⟩ := getE_put a wa
  rw [ha, hb, Bool.and_false] at g1 g2
  rw [if_neg (by decide)] at g2
  rw [ha] at k1 k2
  rw [if_pos rfl] at k2
  have HPI := Lib.hid (fun W => putInode_any d a b W)
  have HPE := Lib.hid (fun W => putEntry_any a W)
  have hFA := fun W => refFits_any a W
  rw [ha] at hFA
  have hFB := fun W => refFits_any b W
  rw [hb] at hFB
  have hGI := fun W => getInode_any (putI d a b) W (by rw [putI_len]; decide)
  rw [g1, g2] at hGI
  have hGE := fun W => getEntry_any (beZ 8 a) W (by rw [beZ_length]; decide)
  rw [k1, k2] at hGE
  have zp : (⟨(putI d a b).toArray⟩ : ByteArray).size = 17 := putI_len _ _ _
  have zq : (⟨(beZ 8 a).toArray⟩ : ByteArray).size = 8 := beZ_length _ _
  have hSI := fun W => getInode_any l W hm
  have hSE := fun W => getEntry_any l W hm
  obtain ⟨q0, _⟩ : ∃ q : ByteArray, q = ⟨#[]⟩ := ⟨_, rfl⟩
  by_cases h17 : l.length = 17
  · have e8 : getEok l = false := by unfold getEok; rw [decide_eq_false (by omega), Bool.false_and]
    have v8 : getEV l = 0 := by unfold getEV; rw [e8]; rfl
    rw [e8, v8] at hSE
    have h0 : 0 < (⟨l.toArray⟩ : ByteArray).size := by rw [hz]; omega
    have hfir : ((⟨l.toArray⟩ : ByteArray)[0]'h0).toNat = firL l := by
      show (l[0]'(by omega)).toNat = _
      unfold firL
      rw [List.getD_eq_getElem?_getD, List.getElem?_eq_getElem (by omega : 0 < l.length)]; rfl
    by_cases hf : firL l ≤ 1
    · have x1 : (⟨l.toArray⟩ : ByteArray).extract 1 9 = ⟨((l.drop 1).take 8).toArray⟩ := ext_str l 1 9
      have x2 : (⟨l.toArray⟩ : ByteArray).extract 9 17 = ⟨(l.drop 9).toArray⟩ := by rw [ext_str, List.take_of_length_le (by rw [List.length_drop]; omega)]
      have HN1 := Lib.hid (fun W => refNumber_any ((l.drop 1).take 8) W (by rw [List.length_take, List.length_drop]; omega))
      have HN2 := Lib.hid (fun W => refNumber_any (l.drop 9) W (by rw [List.length_drop]; omega))
      by_cases t1 : 0 ≤ numR ((l.drop 1).take 8)
      · by_cases t2 : 0 ≤ numR (l.drop 9)
        · have gi := getI_want l h17 hf t1 t2
          have gv : getIV l = inodeV (firL l == 1) (linkL l) (sizeL l) := by unfold getIV; rw [gi]; rfl
          rw [gi, gv] at hSI
          have hPS := fun W => putInode_any (firL l == 1) (linkL l) (sizeL l) W
          rw [(getI_back l gi).1] at hPS
          exact nv_c4 w d a b _ _ _ _ _ _  HT HPI HPE (Lib.hid hFA) (Lib.hid hFB) (Lib.hid hGI) (Lib.hid hGE) zp zq (Lib.hid hSI) (Lib.hid hSE) l.length hz (by omega) h17 h0 _ hfir (by omega) _ _ x1 x2 _ HN1 t1 _ HN2 t2 (Lib.hid hPS)
        · have gi : getIok l = false := by
            rw [Bool.eq_false_iff]; intro h; have := getI_back l h; omega
          have gv : getIV l = inodeV false 0 0 := by unfold getIV; rw [gi]; rfl
          rw [gi, gv] at hSI
          exact nv_c3 w d a b _ _ _  HT HPI HPE (Lib.hid hFA) (Lib.hid hFB) (Lib.hid hGI) (Lib.hid hGE) zp zq (Lib.hid hSI) (Lib.hid hSE) l.length hz (by omega) h17 h0 _ hfir (by omega) _ _ x1 x2 _ HN1 t1 _ HN2 (by omega)
      · have gi : getIok l = false := by
          rw [Bool.eq_false_iff]; intro h; have := getI_back l h; omega
        have gv : getIV l = inodeV false 0 0 := by unfold getIV; rw [gi]; rfl
        rw [gi, gv] at hSI
        exact nv_c2 w d a b _ _ _  HT HPI HPE (Lib.hid hFA) (Lib.hid hFB) (Lib.hid hGI) (Lib.hid hGE) zp zq (Lib.hid hSI) (Lib.hid hSE) l.length hz (by omega) h17 h0 _ hfir (by omega) _ _ x1 x2 _ HN1 (by omega)
    · have gi : getIok l = false := by
        rw [Bool.eq_false_iff]; intro h; have := getI_back l h; omega
      have gv : getIV l = inodeV false 0 0 := by unfold getIV; rw [gi]; rfl
      rw [gi, gv] at hSI
      exact nv_c1 w d a b _ _ _  HT HPI HPE (Lib.hid hFA) (Lib.hid hFB) (Lib.hid hGI) (Lib.hid hGE) zp zq (Lib.hid hSI) (Lib.hid hSE) l.length hz (by omega) h17 h0 _ hfir (by omega)
  · have gi : getIok l = false := by unfold getIok; rw [decide_eq_false h17, Bool.false_and]
    have gv : getIV l = inodeV false 0 0 := by unfold getIV; rw [gi]; rfl
    rw [gi, gv] at hSI
    by_cases h8 : l.length = 8
    · have HN0 := Lib.hid (fun W => refNumber_any l W h8)
      by_cases t0 : 0 ≤ numR l
      · have ge := getE_want l h8 t0
        rw [ge] at hSE
        have hES := fun W => putEntry_any (getEV l) W
        rw [(getE_back l ge).1] at hES
        exact nv_c6 w d a b _ _ _ _  HT HPI HPE (Lib.hid hFA) (Lib.hid hFB) (Lib.hid hGI) (Lib.hid hGE) zp zq (Lib.hid hSI) (Lib.hid hSE) l.length hz (by omega) h8 _ HN0 t0 (Lib.hid hES)
      · have ge : getEok l = false := by
          rw [Bool.eq_false_iff]; intro h; have := getE_back l h; omega
        have gw : getEV l = 0 := by unfold getEV; rw [ge]; rfl
        rw [ge, gw] at hSE
        exact nv_c5 w d a b _ _ _  HT HPI HPE (Lib.hid hFA) (Lib.hid hFB) (Lib.hid hGI) (Lib.hid hGE) zp zq (Lib.hid hSI) (Lib.hid hSE) l.length hz (by omega) h8 _ HN0 (by omega)
    · have ge : getEok l = false := by unfold getEok; rw [decide_eq_false h8, Bool.false_and]
      have gw : getEV l = 0 := by unfold getEV; rw [ge]; rfl
      rw [ge, gw] at hSE
      exact nv_c7 w d a b _ _ _  HT HPI HPE (Lib.hid hFA) (Lib.hid hFB) (Lib.hid hGI) (Lib.hid hGE) zp zq (Lib.hid hSI) (Lib.hid hSE) l.length hz (by omega) (by omega) (by omega)
theorem nv_d (w : World) (d : Bool) (a b : Int) (l : List UInt8) (wa : (Lit.int .i64 a).wf = true) (wb : (Lit.int .i64 b).wf = true) (ha : okN a = false) (hl : l.length ≤ 140737488351232) (hT : Tab w) :
    Calls Tryd.prog 5 #[.bool d, .agg #[.int .i64 a, .int .i64 b], .string ⟨l.toArray⟩] w fun e w' => e = .returned (.bool true) ∧ Upd noBlock w w' := by
  have HT : Hid (∀ W, Upd noBlock w W → Tab W) := fun W h => hT.upd h
  have hm : l.length ≤ maxLen := by unfold maxLen; omega
  have hz : (⟨l.toArray⟩ : ByteArray).size = l.length := rfl
  obtain ⟨g1, g2⟩ := getI_put d a b wa wb
  obtain ⟨k1, k2⟩ := getE_put a wa
  rw [ha, Bool.false_and] at g1 g2
  rw [if_neg (by decide)] at g2
  rw [ha] at k1 k2
  rw [if_neg (by decide)] at k2
  have HPI := Lib.hid (fun W => putInode_any d a b W)
  have HPE := Lib.hid (fun W => putEntry_any a W)
  have hFA := fun W => refFits_any a W
  rw [ha] at hFA
  have hGI := fun W => getInode_any (putI d a b) W (by rw [putI_len]; decide)
  rw [g1, g2] at hGI
  have hGE := fun W => getEntry_any (beZ 8 a) W (by rw [beZ_length]; decide)
  rw [k1, k2] at hGE
  have zp : (⟨(putI d a b).toArray⟩ : ByteArray).size = 17 := putI_len _ _ _
  have zq : (⟨(beZ 8 a).toArray⟩ : ByteArray).size = 8 := beZ_length _ _
  have hSI := fun W => getInode_any l W hm
  have hSE := fun W => getEntry_any l W hm
  obtain ⟨q0, _⟩ : ∃ q : ByteArray, q = ⟨#[]⟩ := ⟨_, rfl⟩
  by_cases h17 : l.length = 17
  · have e8 : getEok l = false := by unfold getEok; rw [decide_eq_false (by omega), Bool.false_and]
    have v8 : getEV l = 0 := by unfold getEV; rw [e8]; rfl
    rw [e8, v8] at hSE
    have h0 : 0 < (⟨l.toArray⟩ : ByteArray).size := by rw [hz]; omega
    have hfir : ((⟨l.toArray⟩ : ByteArray)[0]'h0).toNat = firL l := by
      show (l[0]'(by omega)).toNat = _
      unfold firL
      rw [List.getD_eq_getElem?_getD, List.getElem?_eq_getElem (by omega : 0 < l.length)]; rfl
    by_cases hf : firL l ≤ 1
    · have x1 : (⟨l.toArray⟩ : ByteArray).extract 1 9 = ⟨((l.drop 1).take 8).toArray⟩ := ext_str l 1 9
      have x2 : (⟨l.toArray⟩ : ByteArray).extract 9 17 = ⟨(l.drop 9).toArray⟩ := by rw [ext_str, List.take_of_length_le (by rw [List.length_drop]; omega)]
      have HN1 := Lib.hid (fun W => refNumber_any ((l.drop 1).take 8) W (by rw [List.length_take, List.length_drop]; omega))
      have HN2 := Lib.hid (fun W => refNumber_any (l.drop 9) W (by rw [List.length_drop]; omega))
      by_cases t1 : 0 ≤ numR ((l.drop 1).take 8)
      · by_cases t2 : 0 ≤ numR (l.drop 9)
        · have gi := getI_want l h17 hf t1 t2
          have gv : getIV l = inodeV (firL l == 1) (linkL l) (sizeL l) := by unfold getIV; rw [gi]; rfl
          rw [gi, gv] at hSI
          have hPS := fun W => putInode_any (firL l == 1) (linkL l) (sizeL l) W
          rw [(getI_back l gi).1] at hPS
          exact nv_d4 w d a b _ _ _ _ _ _  HT HPI HPE (Lib.hid hFA) (Lib.hid hGI) (Lib.hid hGE) zp zq (Lib.hid hSI) (Lib.hid hSE) l.length hz (by omega) h17 h0 _ hfir (by omega) _ _ x1 x2 _ HN1 t1 _ HN2 t2 (Lib.hid hPS)
        · have gi : getIok l = false := by
            rw [Bool.eq_false_iff]; intro h; have := getI_back l h; omega
          have gv : getIV l = inodeV false 0 0 := by unfold getIV; rw [gi]; rfl
          rw [gi, gv] at hSI
          exact nv_d3 w d a b _ _ _  HT HPI HPE (Lib.hid hFA) (Lib.hid hGI) (Lib.hid hGE) zp zq (Lib.hid hSI) (Lib.hid hSE) l.length hz (by omega) h17 h0 _ hfir (by omega) _ _ x1 x2 _ HN1 t1 _ HN2 (by omega)
      · have gi : getIok l = false := by
          rw [Bool.eq_false_iff]; intro h; have := getI_back l h; omega
        have gv : getIV l = inodeV false 0 0 := by unfold getIV; rw [gi]; rfl
        rw [gi, gv] at hSI
        exact nv_d2 w d a b _ _ _  HT HPI HPE (Lib.hid hFA) (Lib.hid hGI) (Lib.hid hGE) zp zq (Lib.hid hSI) (Lib.hid hSE) l.length hz (by omega) h17 h0 _ hfir (by omega) _ _ x1 x2 _ HN1 (by omega)
    · have gi : getIok l = false := by
        rw [Bool.eq_false_iff]; intro h; have := getI_back l h; omega
      have gv : getIV l = inodeV false 0 0 := by unfold getIV; rw [gi]; rfl
      rw [gi, gv] at hSI
      exact nv_d1 w d a b _ _ _  HT HPI HPE (Lib.hid hFA) (Lib.hid hGI) (Lib.hid hGE) zp zq (Lib.hid hSI) (Lib.hid hSE) l.length hz (by omega) h17 h0 _ hfir (by omega)
  · have gi : getIok l = false := by unfold getIok; rw [decide_eq_false h17, Bool.false_and]
    have gv : getIV l = inodeV false 0 0 := by unfold getIV; rw [gi]; rfl
    rw [gi, gv] at hSI
    by_cases h8 : l.length = 8
    · have HN0 := Lib.hid (fun W => refNumber_any l W h8)
      by_cases t0 : 0 ≤ numR l
      · have ge := getE_want l h8 t0
        rw [ge] at hSE
        have hES := fun W => putEntry_any (getEV l) W
        rw [(getE_back l ge).1] at hES
        exact nv_d6 w d a b _ _ _ _  HT HPI HPE (Lib.hid hFA) (Lib.hid hGI) (Lib.hid hGE) zp zq (Lib.hid hSI) (Lib.hid hSE) l.length hz (by omega) h8 _ HN0 t0 (Lib.hid hES)
      · have ge : getEok l = false := by
          rw [Bool.eq_false_iff]; intro h; have := getE_back l h; omega
        have gw : getEV l = 0 := by unfold getEV; rw [ge]; rfl
        rw [ge, gw] at hSE
        exact nv_d5 w d a b _ _ _  HT HPI HPE (Lib.hid hFA) (Lib.hid hGI) (Lib.hid hGE) zp zq (Lib.hid hSI) (Lib.hid hSE) l.length hz (by omega) h8 _ HN0 (by omega)
    · have ge : getEok l = false := by unfold getEok; rw [decide_eq_false h8, Bool.false_and]
      have gw : getEV l = 0 := by unfold getEV; rw [ge]; rfl
      rw [ge, gw] at hSE
      exact nv_d7 w d a b _ _ _  HT HPI HPE (Lib.hid hFA) (Lib.hid hGI) (Lib.hid hGE) zp zq (Lib.hid hSI) (Lib.hid hSE) l.length hz (by omega) (by omega) (by omega)
theorem nodeValues_walk (d : Bool) (a b : Int) (qs : ByteArray) (w : World) (wa : (Lit.int .i64 a).wf = true) (wb : (Lit.int .i64 b).wf = true) (hs : qs.size ≤ 140737488351232) (hT : Tab w) :
    Calls Tryd.prog 5 #[.bool d, .agg #[.int .i64 a, .int .i64 b], .string qs] w fun e w' => e = .returned (.bool true) ∧ Below w.heap.size w w' := by
  obtain ⟨l, rfl⟩ : ∃ l : List UInt8, qs = ⟨l.toArray⟩ := ⟨qs.data.toList, rfl⟩
  have hl : l.length ≤ 140737488351232 := hs
  refine Calls.mono (?_ : Calls _ _ _ _ fun e w' => e = .returned (.bool true) ∧ Upd noBlock w w') fun _ _ (h : _ ∧ Upd noBlock w _) => ⟨h.1, h.2.below (fun _ _ h => h)⟩
  cases ha : okN a with
  | false => exact nv_d w d a b l wa wb ha hl hT
  | true =>
    cases hb : okN b with
    | false => exact nv_c w d a b l wa wb ha hb hl hT
    | true =>
      cases d with
      | true => exact nv_a w a b l wa wb ha hb hl hT
      | false => exact nv_b w a b l wa wb ha hb hl hT
end Go.Proofs.YthlheamnfjjamaaDoor
