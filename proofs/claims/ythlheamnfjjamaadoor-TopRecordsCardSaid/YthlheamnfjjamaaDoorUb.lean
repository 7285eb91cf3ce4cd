/- TopRecords. -/
import Derived.Test.YthlheamnfjjamaaDoorOk
import Derived.Test.YthlheamnfjjamaaDoorAr
import Derived.Laws.Cover1
import Derived.Deep.QuietTactic
import Derived.BigQuiet
import Derived.Deep.CutRange
import Derived.Test.YthlheamnfjjamaaDoorOj
import Derived.Test.YthlheamnfjjamaaDoorZo
import Derived.Test.YthlheamnfjjamaaDoorZe
import Derived.Test.YthlheamnfjjamaaDoorKj
import Derived.Test.YthlheamnfjjamaaDoorKl
import Derived.Test.YthlheamnfjjamaaDoorKd
namespace Go.Proofs.YthlheamnfjjamaaDoor
open Go.RowKit Cm
attribute [local irreducible] beZ valN Cm.shs Cm.nxt Cm.reg Cm.ext
attribute [local go_sem ↓] Go.wp_at_zero Go.wp_at_succ
set_option linter.unusedVariables false

theorem eq_keyU (n p : Int) (W : World) : (binOp .eql 79 (.agg #[.int .i64 n, .int .i64 3, .string ⟨#[]⟩, .int .i64 p]) (.agg #[.int .i64 n, .int .i64 3, .string ⟨#[]⟩, .int .i64 p])).run Tryd.prog W = .ok (.bool true) W := by
  go_simp
theorem box_cells {W0 W : World} {K : Array Value} {t : TypeId} (h : Upd noBlock (W0.alloc (.cells K t)) W) : ∀ i, W.cell? ⟨W0.heap.size, i, none⟩ = K[i]? := fun i => cell_of (h.cells (heap_alloc_new W0 _) (fun h => h)) i
set_option maxRecDepth 20000 in
set_option maxHeartbeats 6400000 in
theorem rec_walk (w : World) (x y n p : Int) (bad : Bool) (hbad : bad = decide (x < 0 ∨ 1099511627776 < x ∨ y < 0 ∨ 4294967296 ≤ y)) (hn : n = if bad then 3 else x) (hp : p = if bad then 5 else y) (hp0 : 0 ≤ p) (hp1 : p ≤ 4294967295)
    (qa qb qd qh qk qp qs q1 q2 qe qf : ByteArray) (la lb da db lh ls : Nat) (hza : qa.size = la) (hzb : qb.size = lb) (hda : min (la : Int) 64 = (da : Int)) (hdb : min (lb : Int) 300 = (db : Int)) (hla : la ≤ 140737488351232) (hlb : lb ≤ 140737488351232)
    (sa : ∀ W : World, (Instr.slice 9 (.string qa) none (some (.int .i64 (da : Int))) none).run Tryd.prog W = .ok (.string qd) W)
    (sb : ∀ W : World, (Instr.slice 9 (.string qb) none (some (.int .i64 (db : Int))) none).run Tryd.prog W = .ok (.string qh) W)
    (HT : Hid (∀ W, Upd noBlock w W → Tab W))
    (HK1 : Hid (∀ W : World, Calls Tryd.prog 33 #[.agg #[.int .i64 n, .int .i64 3, .string ⟨#[]⟩, .int .i64 p]] W fun e w' => e = .returned (.tuple #[.string qk, .bool true]) ∧ Upd noBlock W w'))
    (HPA : Hid (∀ W : World, Calls Tryd.prog 34 #[.string qd] W fun e w' => e = .returned (.string qp) ∧ Upd noBlock W w'))
    (HEN : Hid (∀ W : World, Tab W → Calls Tryd.prog 12 #[.agg #[.int .i64 n, .bool false, .bool true, .string qk, .string qp]] W fun e w' => e = .returned (.tuple #[.string qs, .bool true]) ∧ Upd noBlock W w'))
    (hzs : qs.size = ls) (hls : ls ≤ 95) (hzh : qh.size = lh) (hlh : lh ≤ 300) (e1 : qh ++ qs = q1) (e2 : q1 ++ (⟨#[120]⟩ : ByteArray) = q2) (hz1 : q1.size = lh + ls)
    (HDE : Hid (∀ W : World, Tab W → Calls Tryd.prog 15 #[.string q2, .int .i64 (lh : Int)] W fun e w' => e = .returned (.tuple #[.agg #[.int .i64 n, .bool false, .bool true, .string qk, .string qp], .int .i64 ((lh : Int) + (ls : Int)), .int .i64 0]) ∧ Upd noBlock W w'))
    (HKD : Hid (∀ W : World, Calls Tryd.prog 35 #[.string qk] W fun e w' => e = .returned (.tuple #[.agg #[.int .i64 n, .int .i64 3, .string ⟨#[]⟩, .int .i64 p], .bool true]) ∧ Upd noBlock W w'))
    (HUN : Hid (∀ W : World, Calls Tryd.prog 36 #[.string qp, .int .i64 64] W fun e w' => e = .returned (.tuple #[.string qd, .int .i64 0]) ∧ Upd noBlock W w'))
    (g2 : Bool) (HK2 : Hid (∀ W : World, Calls Tryd.prog 33 #[.agg #[.int .i64 n, .int .i64 3, .string ⟨#[]⟩, .int .i64 (p + 1)]] W fun e w' => e = .returned (.tuple #[.string qe, .bool g2]) ∧ Upd noBlock W w'))
    (HK3 : Hid (∀ W : World, Calls Tryd.prog 33 #[.agg #[.int .i64 n, .int .i64 2, .string ⟨#[110]⟩, .int .i64 0]] W fun e w' => e = .returned (.tuple #[.string qf, .bool true]) ∧ Upd noBlock W w'))
    (hA : qe.toList.isEmpty = true ∨ qe.toList.isEmpty = false ∧ Op.bytesLess qk.toList qe.toList = true) (hB : Op.bytesLess qf.toList qk.toList = true) :
    Calls Tryd.prog 10 #[.int .i64 x, .int .i64 y, .agg #[.string qa, .string qb]] w fun e w' => e = .returned (.bool true) ∧ Upd noBlock w w' := by
  have HBX : Hid (Upd noBlock w (w.alloc (.cells #[.string qa, .string qb] 23))) := (Upd.refl _ _).alloc _
  have f0 : (w.alloc (.cells #[.string qa, .string qb] 23)).cell? ⟨w.heap.size, 0, none⟩ = some (.string qa) := cell_of (heap_alloc_new w _) 0
  have f1 : (w.alloc (.cells #[.string qa, .string qb] 23)).cell? ⟨w.heap.size, 1, none⟩ = some (.string qb) := cell_of (heap_alloc_new w _) 1
  have heq := eq_keyU n p
  have z120 : (⟨#[120]⟩ : ByteArray).size = 1 := rfl
  have HBD := Lib.hid hbad
  have HNN := Lib.hid hn
  have HPP := Lib.hid hp
  clear hbad hn hp
  go_enter Tryd.func10, Tryd.ntmps10
  go_wp2_with fail
  go_quiet (fail)
  have HW0 : Hid (Upd noBlock w ((w.alloc (.cells #[.string qa, .string qb] 23)).drewN nq)) := HBX.out.drewN _
  generalize (w.alloc (.cells #[.string qa, .string qb] 23)).drewN nq = WW at *
  clear f0 f1 HBX
  go_upto_region 2 with fail
  go_cut [41] from 28 to 41 (fun t wx => t = .bool bad ∧ wx = WW)
  case first =>
    by_cases h1 : x < 0
    · obtain rfl : bad = true := by rw [HBD.out]; exact decide_eq_true (.inl h1)
      go_wp2_with fail
      go_meet
      exact ⟨rfl, rfl⟩
    by_cases h2 : 1099511627776 < x
    · obtain rfl : bad = true := by rw [HBD.out]; exact decide_eq_true (.inr (.inl h2))
      go_wp2_with fail
      go_meet
      exact ⟨rfl, rfl⟩
    by_cases h3 : y < 0
    · obtain rfl : bad = true := by rw [HBD.out]; exact decide_eq_true (.inr (.inr (.inl h3)))
      go_wp2_with fail
      go_meet
      exact ⟨rfl, rfl⟩
    by_cases h4 : 4294967296 ≤ y
    · obtain rfl : bad = true := by rw [HBD.out]; exact decide_eq_true (.inr (.inr (.inr h4)))
      go_wp2_with fail
      go_meet
      exact ⟨rfl, rfl⟩
    · obtain rfl : bad = false := by rw [HBD.out]; exact decide_eq_false (by omega)
      go_wp2_with fail
      go_meet
      exact ⟨rfl, rfl⟩
  case rest =>
    obtain ⟨rfl, rfl⟩ := hcut
    go_upto_if 41 with fail
    go_cut [0, 1] from 28 to 41 (fun a b wx => a = .int .i64 n ∧ b = .int .i64 p ∧ wx = wc)
    case first =>
      cases bad with
      | true =>
        go_wp2_with fail
        go_meet
        exact ⟨by rw [HNN.out]; rfl, by rw [HPP.out]; rfl, rfl⟩
      | false =>
        go_wp2_with fail
        go_meet
        exact ⟨by rw [HNN.out]; rfl, by rw [HPP.out]; rfl, rfl⟩
    case rest =>
      obtain ⟨rfl, rfl, rfl⟩ := hcut
      clear HBD HNN HPP
      go_wp2_with fail
      go_quiet (fail)
      have HW1 : Hid (Upd noBlock w (wc.drewN nq)) := HW0.out.drewN _
      generalize wc.drewN nq = W1 at *
      rcases hA with hA | ⟨hA, hA2⟩
      all_goals
        go_wp2_with (first
          | (go_at_call 33; (with_reducible refine (HK1.out _).mono ?_); rintro e w1 ⟨rfl, h⟩; have HX1 := Lib.hid (HW1.out.trans h); clear h)
          | (go_at_call 34; (with_reducible refine (HPA.out _).mono ?_); rintro e w2 ⟨rfl, h⟩; have HX2 := Lib.hid (HX1.out.trans h); clear h)
          | (go_at_call 12; (with_reducible refine (HEN.out _ (HT.out _ HX2.out)).mono ?_); rintro e w3 ⟨rfl, h⟩; have HX3 := Lib.hid (HX2.out.trans h); clear h)
          | (go_at_call 15; (with_reducible refine (HDE.out _ (HT.out _ HX3.out)).mono ?_); rintro e w4 ⟨rfl, h⟩; have HX4 := Lib.hid (HX3.out.trans h); clear h)
          | (go_at_call 35; (with_reducible refine (HKD.out _).mono ?_); rintro e w5 ⟨rfl, h⟩; have n5 := fun O => box_cells (h.alloc O); have HX5 := Lib.hid ((HX4.out.alloc _).trans h); clear h)
          | (go_at_call 36; (with_reducible refine (HUN.out _).mono ?_); rintro e w6 ⟨rfl, h⟩; have HB6 := Lib.hid h; have HX6 := Lib.hid ((HX5.out.alloc _).trans h); clear h)
          | (go_at_call 33; (with_reducible refine (HK2.out _).mono ?_); rintro e w7 ⟨rfl, h⟩; have HB7 := Lib.hid (HB6.out.trans h); have HX7 := Lib.hid (HX6.out.trans h); clear h)
          | (go_at_call 33; (with_reducible refine (HK3.out _).mono ?_); rintro e w8 ⟨rfl, h⟩; have k8 := box_cells (HB7.out.trans h); have HX8 := Lib.hid (HX7.out.trans h); clear h))
        go_ret
        exact ⟨rfl, HX8.out⟩
end Go.Proofs.YthlheamnfjjamaaDoor

namespace Go.Proofs.YthlheamnfjjamaaDoor
open Go.RowKit Cm
attribute [local irreducible] beZ valN Cm.shs Cm.nxt Cm.reg Cm.ext
set_option linter.unusedVariables false

theorem unpack64 (l : List UInt8) (hl : l.length ≤ 64) : unpackL (packL l) 64 = (l, 0) := by
  have hm : (min (max (64 : Int) 0) 65536).toNat = 64 := by decide
  unfold packL
  split
  · simp only [unpackL]
    rw [if_pos trivial, hm, packT_unp l (by omega) _ hl]
  · simp only [unpackL]
    rw [if_neg (by decide), if_pos trivial, hm, if_neg (by omega)]
theorem sl_to (q : ByteArray) (b : Nat) (h : b ≤ q.size) (W : World) : (Instr.slice 9 (.string q) none (some (.int .i64 (b : Int))) none).run Tryd.prog W = .ok (.string (q.extract 0 b)) W := by
  rw [run_slice_string_to_if W 9 _ _ _ Tryd.underlying9, if_pos ⟨by omega, by omega⟩]
  rfl
theorem takeMin (l : List UInt8) (n : Nat) : l.take (min l.length n) = l.take n := by
  rw [List.take_eq_take_iff]; omega
theorem good3 (n p : Int) (h0 : 0 ≤ n) (h1 : n ≤ 1099511627776) : goodK n 3 [] p = decide (0 ≤ p ∧ p ≤ 4294967295) := by
  unfold goodK
  rw [(okN_iff n).2 ⟨h0, h1⟩, Bool.true_and]
  unfold restOk
  rw [if_neg (by decide), if_neg (by decide), if_pos rfl, Bool.eq_iff_iff]
  simp
theorem tE (q : ByteArray) (l : List UInt8) (h : q = ⟨l.toArray⟩) : q.toList = l := by subst h; rw [ByteArray.toList_eq]
theorem topRecords_upd (x y : Int) (qa qb : ByteArray) (w : World) (ha : qa.size ≤ 140737488351232) (hb : qb.size ≤ 140737488351232) (hT : Tab w) :
    Calls Tryd.prog 10 #[.int .i64 x, .int .i64 y, .agg #[.string qa, .string qb]] w fun e w' => e = .returned (.bool true) ∧ Upd noBlock w w' := by
  obtain ⟨la, rfl⟩ : ∃ l : List UInt8, qa = ⟨l.toArray⟩ := ⟨qa.data.toList, rfl⟩
  obtain ⟨lb, rfl⟩ : ∃ l : List UInt8, qb = ⟨l.toArray⟩ := ⟨qb.data.toList, rfl⟩
  have ha' : la.length ≤ 140737488351232 := ha
  have hb' : lb.length ≤ 140737488351232 := hb
  obtain ⟨bad, hbad⟩ : ∃ b : Bool, b = decide (x < 0 ∨ 1099511627776 < x ∨ y < 0 ∨ 4294967296 ≤ y) := ⟨_, rfl⟩
  obtain ⟨n, hn⟩ : ∃ n : Int, n = if bad then 3 else x := ⟨_, rfl⟩
  obtain ⟨p, hp⟩ : ∃ p : Int, p = if bad then 5 else y := ⟨_, rfl⟩
  have hnp : (0 ≤ n ∧ n ≤ 1099511627776) ∧ 0 ≤ p ∧ p ≤ 4294967295 := by
    cases bad with
    | true => rw [if_pos rfl] at hn hp; omega
    | false =>
      have := of_decide_eq_false hbad.symm
      rw [if_neg (by decide)] at hn hp
      omega
  obtain ⟨⟨hn0, hn1⟩, hp0, hp1⟩ := hnp
  have hdl : (la.take 64).length ≤ 64 := by rw [List.length_take]; omega
  have hhl : (lb.take 300).length ≤ 300 := by rw [List.length_take]; omega
  have hda : (la.take 64).length = min la.length 64 := by rw [List.length_take]; omega
  have hdb : (lb.take 300).length = min lb.length 300 := by rw [List.length_take]; omega
  have g1 : goodK n 3 [] p = true := by rw [good3 n p hn0 hn1]; exact decide_eq_true ⟨hp0, hp1⟩
  have g3 : goodK n 2 [110] 0 = true := by
    unfold goodK
    rw [(okN_iff n).2 ⟨hn0, hn1⟩, Bool.true_and]; rfl
  have hk13 : (encK n 3 [] p).length = 13 := by
    unfold encK
    rw [if_neg (by decide), if_pos rfl]
    simp only [List.length_append, beZ_length]
  have hpk := packL_len (la.take 64)
  have hgn : goodN n false (encK n 3 [] p) (packL (la.take 64)) = true := by
    unfold goodN
    rw [(okN_iff n).2 ⟨hn0, hn1⟩, hk13, decide_eq_true (show (packL (la.take 64)).length ≤ 200 by omega)]
    simp
  have hsz : (sealed (rawN n false true (encK n 3 [] p) (packL (la.take 64)))).length = 30 + (packL (la.take 64)).length := by
    rw [sealed_length, raw_length, hk13]; omega
  have HT : Hid (∀ W, Upd noBlock w W → Tab W) := fun W h => hT.upd h
  have hk1 := fun W => Encode_any n 3 [] p W (by simp)
  rw [g1, if_pos rfl] at hk1
  have hk2 := fun W => Encode_any n 3 [] (p + 1) W (by simp)
  have hk3 := fun W => Encode_any n 2 [110] 0 W (by simp [maxLen])
  rw [g3, if_pos rfl] at hk3
  have hkd := fun W => Decode_any (encK n 3 [] p) W (by rw [hk13]; decide)
  obtain ⟨d1, d2, d3, d4⟩ := dec_enc g1
  have hok := decOk_enc g1
  unfold decV at hkd
  rw [hok, if_pos rfl, d1, d2, d3, d4] at hkd
  have hpa := fun W => Pack_any (la.take 64) W (by omega)
  have hun := fun W => Unpack_any (packL (la.take 64)) 64 W (by unfold maxLen; omega)
  rw [unpack64 _ hdl] at hun
  have hen := fun W hW => encodeN_any n false true (encK n 3 [] p) (packL (la.take 64)) W (by rw [hk13]; unfold maxLen; omega) (by unfold maxLen; omega) hW
  unfold encN at hen
  rw [hgn, if_pos rfl] at hen
  have hde := fun W hW => Decode_enc (lb.take 300) [120] n false true (encK n 3 [] p) (packL (la.take 64)) W hgn (by simp; omega) hW
  refine rec_walk w x y n p bad hbad hn hp hp0 hp1 _ _ ⟨(la.take 64).toArray⟩ ⟨(lb.take 300).toArray⟩ ⟨(encK n 3 [] p).toArray⟩ ⟨(packL (la.take 64)).toArray⟩ ⟨(sealed (rawN n false true (encK n 3 [] p) (packL (la.take 64)))).toArray⟩
    ⟨(lb.take 300 ++ sealed (rawN n false true (encK n 3 [] p) (packL (la.take 64)))).toArray⟩ ⟨(lb.take 300 ++ sealed (rawN n false true (encK n 3 [] p) (packL (la.take 64))) ++ [120]).toArray⟩
    ⟨(if goodK n 3 [] (p + 1) then encK n 3 [] (p + 1) else []).toArray⟩ ⟨(encK n 2 [110] 0).toArray⟩ la.length lb.length (la.take 64).length (lb.take 300).length (lb.take 300).length (sealed (rawN n false true (encK n 3 [] p) (packL (la.take 64)))).length
    rfl rfl (by omega) (by omega) ha' hb' (fun W => ?_) (fun W => ?_) HT hk1 hpa hen rfl (by omega) rfl hhl (cat_bytes _ _) (cat_bytes _ [120]) (by show (lb.take 300 ++ _).length = _; rw [List.length_append]) ?_ hkd hun _ hk2 hk3 ?_ ?_
  · have h := sl_to ⟨la.toArray⟩ (la.take 64).length (by show _ ≤ la.length; omega) W
    rw [ext_str, List.drop_zero, Nat.sub_zero] at h
    rw [h, hda, takeMin]
  · have h := sl_to ⟨lb.toArray⟩ (lb.take 300).length (by show _ ≤ lb.length; omega) W
    rw [ext_str, List.drop_zero, Nat.sub_zero] at h
    rw [h, hdb, takeMin]
  · intro W hW
    have h := hde W hW
    rw [List.append_assoc]
    exact h
  · rw [tE _ _ rfl, tE _ _ rfl]
    by_cases hg : goodK n 3 [] (p + 1) = true
    · rw [if_pos hg, enc_less g1 hg]
      right
      refine ⟨?_, ?_⟩
      · have := (encK_length hg).1
        cases he : encK n 3 [] (p + 1) with
        | nil => rw [he] at this; simp at this
        | cons => rfl
      · unfold lessK
        simp
        omega
    · rw [if_neg hg]; exact .inl rfl
  · rw [tE _ _ rfl, tE _ _ rfl, enc_less g3 g1]
    unfold lessK
    simp
theorem topRecords_walk (x y : Int) (qa qb : ByteArray) (w : World) (_ : (Lit.int .i64 x).wf = true) (_ : (Lit.int .i64 y).wf = true) (ha : qa.size ≤ 140737488351232) (hb : qb.size ≤ 140737488351232) (hT : Tab w) :
    Calls Tryd.prog 10 #[.int .i64 x, .int .i64 y, .agg #[.string qa, .string qb]] w fun e w' => e = .returned (.bool true) ∧ Below w.heap.size w w' :=
  Calls.mono (topRecords_upd x y qa qb w ha hb hT) fun _ _ (h : _ ∧ Upd noBlock w _) => ⟨h.1, h.2.below (fun _ _ h => h)⟩
end Go.Proofs.YthlheamnfjjamaaDoor
