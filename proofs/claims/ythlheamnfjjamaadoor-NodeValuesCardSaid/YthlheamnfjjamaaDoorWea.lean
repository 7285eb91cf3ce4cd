/- NodeValues: the walks (a). -/
import Derived.Test.YthlheamnfjjamaaDoorWd
import Derived.Laws.Concat
namespace Go.Proofs.YthlheamnfjjamaaDoor
open Go.RowKit Cm
attribute [local irreducible] beZ valN Cm.shs Cm.nxt Cm.reg Cm.ext
attribute [local go_sem ↓] Go.wp_at_zero Go.wp_at_succ
set_option linter.unusedVariables false

set_option maxRecDepth 20000 in
set_option maxHeartbeats 3200000 in
theorem nv_a1 (w : World) (a b : Int) (p q8 qs : ByteArray) (pa pb p1 : ByteArray)
    (HT : Hid (∀ W, Upd noBlock w W → Tab W))
    (HPI : Hid (∀ W : World, Calls Tryd.prog 17 #[.agg #[.bool true, .int .i64 a, .int .i64 b]] W fun e w' => e = .returned (.string p) ∧ Upd noBlock W w'))
    (HPE : Hid (∀ W : World, Calls Tryd.prog 18 #[.int .i64 a] W fun e w' => e = .returned (.string q8) ∧ Upd noBlock W w'))
    (HFA : Hid (∀ W : World, Calls Tryd.prog 19 #[.int .i64 a] W fun e w' => e = .returned (.bool true) ∧ w' = W))
    (HFB : Hid (∀ W : World, Calls Tryd.prog 19 #[.int .i64 b] W fun e w' => e = .returned (.bool true) ∧ w' = W))
    (HGI : Hid (∀ W : World, Calls Tryd.prog 20 #[.string p] W fun e w' => e = .returned (.tuple #[.agg #[.bool true, .int .i64 a, .int .i64 b], .bool true]) ∧ Upd noBlock W w'))
    (HGE : Hid (∀ W : World, Calls Tryd.prog 21 #[.string q8] W fun e w' => e = .returned (.tuple #[.int .i64 a, .bool true]) ∧ Upd noBlock W w'))
    (zp : p.size = 17) (zq : q8.size = 8)
    (HBA : Hid (∀ W : World, Calls Tryd.prog 22 #[.int .i64 a, .int .i64 8] W fun e w' => e = .returned (.string q8) ∧ Upd noBlock W w'))
    (HBB : Hid (∀ W : World, Calls Tryd.prog 22 #[.int .i64 b, .int .i64 8] W fun e w' => e = .returned (.string pb) ∧ Upd noBlock W w'))
    (e1 : (⟨#[1]⟩ : ByteArray) ++ q8 = p1) (e2 : p1 ++ pb = p) (zp1 : p1.size = 9) (zpb : pb.size = 8)
    (HSI : Hid (∀ W : World, Calls Tryd.prog 20 #[.string qs] W fun e w' => e = .returned (.tuple #[.agg #[.bool false, .int .i64 0, .int .i64 0], .bool false]) ∧ Upd noBlock W w'))
    (HSE : Hid (∀ W : World, Calls Tryd.prog 21 #[.string qs] W fun e w' => e = .returned (.tuple #[.int .i64 0, .bool false]) ∧ Upd noBlock W w'))
    (n : Nat) (hn : qs.size = n) (hn2 : n ≤ 9223372036854775807)
    (h17 : n = 17) (h0 : 0 < qs.size) (m : Nat) (hm : (qs[0]'h0).toNat = m) (hf : (1 : Int) < (m : Int)) :
    Calls Tryd.prog 5 #[.bool true, .agg #[.int .i64 a, .int .i64 b], .string qs] w fun e w' => e = .returned (.bool true) ∧ Upd noBlock w w' := by
  subst h17
  have hn8 : ¬ (17 : Int) = 8 := by decide
  have HU : Hid (Upd noBlock w (w.alloc (.cells #[.int .i64 a, .int .i64 b] 39))) := (Upd.refl _ _).alloc _
  have HA := Lib.hid (fun W h => box2 w W (.int .i64 a) (.int .i64 b) 39 h)
  have HS := Lib.hid (fun W hW => speaks_any W hW)
  have z0 : (⟨#[1]⟩ : ByteArray).size = 1 := rfl
  go_enter Tryd.func5, Tryd.ntmps5
  go_upto_region 15 with (first
    | (go_at_call 11; (with_reducible refine (HS.out _ (HT.out _ HU.out)).mono ?_); rintro e w1 ⟨rfl, h⟩; have hA1 := Lib.hid h; have HX := Lib.hid (HU.out.trans h); obtain ⟨y0, y1⟩ := HA.out _ hA1.out; have ya := fun O => (HA.out _ ((hA1.out).alloc O)).1; have yb := fun O => (HA.out _ ((hA1.out).alloc O)).2; clear h)
    | (go_at_call 17; (with_reducible refine (HPI.out _).mono ?_); rintro e w2 ⟨rfl, h⟩; have hI := Lib.hid h; have hA1 := Lib.hid ((hA1.out.alloc _).trans h); have HX := Lib.hid ((HX.out.alloc _).trans h); obtain ⟨i0, i1, i2⟩ := box3 _ _ _ _ _ _ hI.out; obtain ⟨y0, y1⟩ := HA.out _ hA1.out; have ya := fun O => (HA.out _ ((hA1.out).alloc O)).1; have yb := fun O => (HA.out _ ((hA1.out).alloc O)).2; clear h)
    | (go_at_call 18; (with_reducible refine (HPE.out _).mono ?_); rintro e w3 ⟨rfl, h⟩; have hI := Lib.hid (hI.out.trans h); have hA1 := Lib.hid (hA1.out.trans h); have HX := Lib.hid (HX.out.trans h); obtain ⟨i0, i1, i2⟩ := box3 _ _ _ _ _ _ hI.out; obtain ⟨y0, y1⟩ := HA.out _ hA1.out; have ya := fun O => (HA.out _ ((hA1.out).alloc O)).1; have yb := fun O => (HA.out _ ((hA1.out).alloc O)).2; clear h)
    | (go_at_call 19; (with_reducible refine (HFA.out _).mono ?_); rintro e w4 ⟨rfl, rfl⟩)
    | (go_at_call 19; (with_reducible refine (HFB.out _).mono ?_); rintro e w4 ⟨rfl, rfl⟩)
    | (go_at_call 20; (with_reducible refine (HGI.out _).mono ?_); rintro e w5 ⟨rfl, h⟩; have hI := Lib.hid (hI.out.trans h); have hA1 := Lib.hid (hA1.out.trans h); have HX := Lib.hid (HX.out.trans h); obtain ⟨i0, i1, i2⟩ := box3 _ _ _ _ _ _ hI.out; obtain ⟨j0, j1, j2⟩ := box3 _ _ _ _ _ _ (hI.out.alloc (.cells #[.bool true, .int .i64 a, .int .i64 b] 41)); obtain ⟨y0, y1⟩ := HA.out _ hA1.out; have ya := fun O => (HA.out _ ((hA1.out).alloc O)).1; have yb := fun O => (HA.out _ ((hA1.out).alloc O)).2; clear h)
    | (go_at_call 21; (with_reducible refine (HGE.out _).mono ?_); rintro e w6 ⟨rfl, h⟩; have hG := Lib.hid h; have hI := Lib.hid ((hI.out.alloc _).trans h); have hA1 := Lib.hid ((hA1.out.alloc _).trans h); have HX := Lib.hid ((HX.out.alloc _).trans h); obtain ⟨i0, i1, i2⟩ := box3 _ _ _ _ _ _ hI.out; obtain ⟨k0, k1, k2⟩ := box3 _ _ _ _ _ _ hG.out; obtain ⟨y0, y1⟩ := HA.out _ hA1.out; have ya := fun O => (HA.out _ ((hA1.out).alloc O)).1; have yb := fun O => (HA.out _ ((hA1.out).alloc O)).2; clear h))
  go_cut [125] from 108 to 125 (fun t wx => t = .bool false ∧ Hid (Upd noBlock w wx))
  case first =>
    clear HPI HPE HFA HFB HGI HGE HSI HSE HS HT
    go_region_with (first
      | (go_at_call 22; (with_reducible refine (HBA.out _).mono ?_); rintro e w7 ⟨rfl, h⟩; (first | replace h := Upd.undrew h | skip); have hA1 := Lib.hid (hA1.out.trans h); have HX := Lib.hid (HX.out.trans h); obtain ⟨y0, y1⟩ := HA.out _ hA1.out; have ya := fun O => (HA.out _ ((hA1.out).alloc O)).1; have yb := fun O => (HA.out _ ((hA1.out).alloc O)).2; clear h)
      | (go_at_call 22; (with_reducible refine (HBB.out _).mono ?_); rintro e w7 ⟨rfl, h⟩; (first | replace h := Upd.undrew h | skip); have hA1 := Lib.hid (hA1.out.trans h); have HX := Lib.hid (HX.out.trans h); obtain ⟨y0, y1⟩ := HA.out _ hA1.out; have ya := fun O => (HA.out _ ((hA1.out).alloc O)).1; have yb := fun O => (HA.out _ ((hA1.out).alloc O)).2; clear h))
    all_goals
      go_wp2_with fail
      go_meet
      exact ⟨rfl, HX⟩
  case rest =>
    obtain ⟨rfl, HX⟩ := hcut
    go_wp2_with (first
      | (go_at_call 20; (with_reducible refine (HSI.out _).mono ?_); rintro e w8 ⟨rfl, h⟩; have HX := Lib.hid (HX.out.trans h); clear h)
      | (go_at_call 21; (with_reducible refine (HSE.out _).mono ?_); rintro e w9 ⟨rfl, h⟩; have HX := Lib.hid ((HX.out.alloc _).trans h); obtain ⟨l0, l1, l2⟩ := box3 _ _ _ _ _ _ h; clear h))
    go_ret
    exact ⟨rfl, HX.out⟩
set_option maxRecDepth 20000 in
set_option maxHeartbeats 3200000 in
theorem nv_a2 (w : World) (a b : Int) (p q8 qs : ByteArray) (pa pb p1 : ByteArray)
    (HT : Hid (∀ W, Upd noBlock w W → Tab W))
    (HPI : Hid (∀ W : World, Calls Tryd.prog 17 #[.agg #[.bool true, .int .i64 a, .int .i64 b]] W fun e w' => e = .returned (.string p) ∧ Upd noBlock W w'))
    (HPE : Hid (∀ W : World, Calls Tryd.prog 18 #[.int .i64 a] W fun e w' => e = .returned (.string q8) ∧ Upd noBlock W w'))
    (HFA : Hid (∀ W : World, Calls Tryd.prog 19 #[.int .i64 a] W fun e w' => e = .returned (.bool true) ∧ w' = W))
    (HFB : Hid (∀ W : World, Calls Tryd.prog 19 #[.int .i64 b] W fun e w' => e = .returned (.bool true) ∧ w' = W))
    (HGI : Hid (∀ W : World, Calls Tryd.prog 20 #[.string p] W fun e w' => e = .returned (.tuple #[.agg #[.bool true, .int .i64 a, .int .i64 b], .bool true]) ∧ Upd noBlock W w'))
    (HGE : Hid (∀ W : World, Calls Tryd.prog 21 #[.string q8] W fun e w' => e = .returned (.tuple #[.int .i64 a, .bool true]) ∧ Upd noBlock W w'))
    (zp : p.size = 17) (zq : q8.size = 8)
    (HBA : Hid (∀ W : World, Calls Tryd.prog 22 #[.int .i64 a, .int .i64 8] W fun e w' => e = .returned (.string q8) ∧ Upd noBlock W w'))
    (HBB : Hid (∀ W : World, Calls Tryd.prog 22 #[.int .i64 b, .int .i64 8] W fun e w' => e = .returned (.string pb) ∧ Upd noBlock W w'))
    (e1 : (⟨#[1]⟩ : ByteArray) ++ q8 = p1) (e2 : p1 ++ pb = p) (zp1 : p1.size = 9) (zpb : pb.size = 8)
    (HSI : Hid (∀ W : World, Calls Tryd.prog 20 #[.string qs] W fun e w' => e = .returned (.tuple #[.agg #[.bool false, .int .i64 0, .int .i64 0], .bool false]) ∧ Upd noBlock W w'))
    (HSE : Hid (∀ W : World, Calls Tryd.prog 21 #[.string qs] W fun e w' => e = .returned (.tuple #[.int .i64 0, .bool false]) ∧ Upd noBlock W w'))
    (n : Nat) (hn : qs.size = n) (hn2 : n ≤ 9223372036854775807)
    (h17 : n = 17) (h0 : 0 < qs.size) (m : Nat) (hm : (qs[0]'h0).toNat = m) (hf : (m : Int) ≤ 1)
    (qa qb : ByteArray) (x1 : qs.extract 1 9 = qa) (x2 : qs.extract 9 17 = qb) (n1 : Int) (HN1 : Hid (∀ W : World, Calls Tryd.prog 23 #[.string qa] W fun e w' => e = .returned (.int .i64 n1) ∧ w' = W))
    (t1 : n1 < 0) :
    Calls Tryd.prog 5 #[.bool true, .agg #[.int .i64 a, .int .i64 b], .string qs] w fun e w' => e = .returned (.bool true) ∧ Upd noBlock w w' := by
  subst h17
  have hn8 : ¬ (17 : Int) = 8 := by decide
  have HU : Hid (Upd noBlock w (w.alloc (.cells #[.int .i64 a, .int .i64 b] 39))) := (Upd.refl _ _).alloc _
  have HA := Lib.hid (fun W h => box2 w W (.int .i64 a) (.int .i64 b) 39 h)
  have HS := Lib.hid (fun W hW => speaks_any W hW)
  have z0 : (⟨#[1]⟩ : ByteArray).size = 1 := rfl
  go_enter Tryd.func5, Tryd.ntmps5
  go_upto_region 15 with (first
    | (go_at_call 11; (with_reducible refine (HS.out _ (HT.out _ HU.out)).mono ?_); rintro e w1 ⟨rfl, h⟩; have hA1 := Lib.hid h; have HX := Lib.hid (HU.out.trans h); obtain ⟨y0, y1⟩ := HA.out _ hA1.out; have ya := fun O => (HA.out _ ((hA1.out).alloc O)).1; have yb := fun O => (HA.out _ ((hA1.out).alloc O)).2; clear h)
    | (go_at_call 17; (with_reducible refine (HPI.out _).mono ?_); rintro e w2 ⟨rfl, h⟩; have hI := Lib.hid h; have hA1 := Lib.hid ((hA1.out.alloc _).trans h); have HX := Lib.hid ((HX.out.alloc _).trans h); obtain ⟨i0, i1, i2⟩ := box3 _ _ _ _ _ _ hI.out; obtain ⟨y0, y1⟩ := HA.out _ hA1.out; have ya := fun O => (HA.out _ ((hA1.out).alloc O)).1; have yb := fun O => (HA.out _ ((hA1.out).alloc O)).2; clear h)
    | (go_at_call 18; (with_reducible refine (HPE.out _).mono ?_); rintro e w3 ⟨rfl, h⟩; have hI := Lib.hid (hI.out.trans h); have hA1 := Lib.hid (hA1.out.trans h); have HX := Lib.hid (HX.out.trans h); obtain ⟨i0, i1, i2⟩ := box3 _ _ _ _ _ _ hI.out; obtain ⟨y0, y1⟩ := HA.out _ hA1.out; have ya := fun O => (HA.out _ ((hA1.out).alloc O)).1; have yb := fun O => (HA.out _ ((hA1.out).alloc O)).2; clear h)
    | (go_at_call 19; (with_reducible refine (HFA.out _).mono ?_); rintro e w4 ⟨rfl, rfl⟩)
    | (go_at_call 19; (with_reducible refine (HFB.out _).mono ?_); rintro e w4 ⟨rfl, rfl⟩)
    | (go_at_call 20; (with_reducible refine (HGI.out _).mono ?_); rintro e w5 ⟨rfl, h⟩; have hI := Lib.hid (hI.out.trans h); have hA1 := Lib.hid (hA1.out.trans h); have HX := Lib.hid (HX.out.trans h); obtain ⟨i0, i1, i2⟩ := box3 _ _ _ _ _ _ hI.out; obtain ⟨j0, j1, j2⟩ := box3 _ _ _ _ _ _ (hI.out.alloc (.cells #[.bool true, .int .i64 a, .int .i64 b] 41)); obtain ⟨y0, y1⟩ := HA.out _ hA1.out; have ya := fun O => (HA.out _ ((hA1.out).alloc O)).1; have yb := fun O => (HA.out _ ((hA1.out).alloc O)).2; clear h)
    | (go_at_call 21; (with_reducible refine (HGE.out _).mono ?_); rintro e w6 ⟨rfl, h⟩; have hG := Lib.hid h; have hI := Lib.hid ((hI.out.alloc _).trans h); have hA1 := Lib.hid ((hA1.out.alloc _).trans h); have HX := Lib.hid ((HX.out.alloc _).trans h); obtain ⟨i0, i1, i2⟩ := box3 _ _ _ _ _ _ hI.out; obtain ⟨k0, k1, k2⟩ := box3 _ _ _ _ _ _ hG.out; obtain ⟨y0, y1⟩ := HA.out _ hA1.out; have ya := fun O => (HA.out _ ((hA1.out).alloc O)).1; have yb := fun O => (HA.out _ ((hA1.out).alloc O)).2; clear h))
  go_cut [125] from 108 to 125 (fun t wx => t = .bool false ∧ Hid (Upd noBlock w wx))
  case first =>
    clear HPI HPE HFA HFB HGI HGE HSI HSE HS HT
    go_region_with (first
      | (go_at_call 22; (with_reducible refine (HBA.out _).mono ?_); rintro e w7 ⟨rfl, h⟩; (first | replace h := Upd.undrew h | skip); have hA1 := Lib.hid (hA1.out.trans h); have HX := Lib.hid (HX.out.trans h); obtain ⟨y0, y1⟩ := HA.out _ hA1.out; have ya := fun O => (HA.out _ ((hA1.out).alloc O)).1; have yb := fun O => (HA.out _ ((hA1.out).alloc O)).2; clear h)
      | (go_at_call 22; (with_reducible refine (HBB.out _).mono ?_); rintro e w7 ⟨rfl, h⟩; (first | replace h := Upd.undrew h | skip); have hA1 := Lib.hid (hA1.out.trans h); have HX := Lib.hid (HX.out.trans h); obtain ⟨y0, y1⟩ := HA.out _ hA1.out; have ya := fun O => (HA.out _ ((hA1.out).alloc O)).1; have yb := fun O => (HA.out _ ((hA1.out).alloc O)).2; clear h))
    all_goals
      go_wp2_with fail
      go_meet
      exact ⟨rfl, HX⟩
  case rest =>
    obtain ⟨rfl, HX⟩ := hcut
    go_wp2_with (first
      | (go_at_call 20; (with_reducible refine (HSI.out _).mono ?_); rintro e w8 ⟨rfl, h⟩; have HX := Lib.hid (HX.out.trans h); clear h)
      | (go_at_call 21; (with_reducible refine (HSE.out _).mono ?_); rintro e w9 ⟨rfl, h⟩; have HX := Lib.hid ((HX.out.alloc _).trans h); obtain ⟨l0, l1, l2⟩ := box3 _ _ _ _ _ _ h; clear h)
      | (go_at_call 23; (with_reducible refine (HN1.out _).mono ?_); rintro e w10 ⟨rfl, rfl⟩))
    go_ret
    exact ⟨rfl, HX.out⟩
set_option maxRecDepth 20000 in
set_option maxHeartbeats 3200000 in
theorem nv_a3 (w : World) (a b : Int) (p q8 qs : ByteArray) (pa pb p1 : ByteArray)
    (HT : Hid (∀ W, Upd noBlock w W → Tab W))
    (HPI : Hid (∀ W : World, Calls Tryd.prog 17 #[.agg #[.bool true, .int .i64 a, .int .i64 b]] W fun e w' => e = .returned (.string p) ∧ Upd noBlock W w'))
    (HPE : Hid (∀ W : World, Calls Tryd.prog 18 #[.int .i64 a] W fun e w' => e = .returned (.string q8) ∧ Upd noBlock W w'))
    (HFA : Hid (∀ W : World, Calls Tryd.prog 19 #[.int .i64 a] W fun e w' => e = .returned (.bool true) ∧ w' = W))
    (HFB : Hid (∀ W : World, Calls Tryd.prog 19 #[.int .i64 b] W fun e w' => e = .returned (.bool true) ∧ w' = W))
    (HGI : Hid (∀ W : World, Calls Tryd.prog 20 #[.string p] W fun e w' => e = .returned (.tuple #[.agg #[.bool true, .int .i64 a, .int .i64 b], .bool true]) ∧ Upd noBlock W w'))
    (HGE : Hid (∀ W : World, Calls Tryd.prog 21 #[.string q8] W fun e w' => e = .returned (.tuple #[.int .i64 a, .bool true]) ∧ Upd noBlock W w'))
    (zp : p.size = 17) (zq : q8.size = 8)
    (HBA : Hid (∀ W : World, Calls Tryd.prog 22 #[.int .i64 a, .int .i64 8] W fun e w' => e = .returned (.string q8) ∧ Upd noBlock W w'))
    (HBB : Hid (∀ W : World, Calls Tryd.prog 22 #[.int .i64 b, .int .i64 8] W fun e w' => e = .returned (.string pb) ∧ Upd noBlock W w'))
    (e1 : (⟨#[1]⟩ : ByteArray) ++ q8 = p1) (e2 : p1 ++ pb = p) (zp1 : p1.size = 9) (zpb : pb.size = 8)
    (HSI : Hid (∀ W : World, Calls Tryd.prog 20 #[.string qs] W fun e w' => e = .returned (.tuple #[.agg #[.bool false, .int .i64 0, .int .i64 0], .bool false]) ∧ Upd noBlock W w'))
    (HSE : Hid (∀ W : World, Calls Tryd.prog 21 #[.string qs] W fun e w' => e = .returned (.tuple #[.int .i64 0, .bool false]) ∧ Upd noBlock W w'))
    (n : Nat) (hn : qs.size = n) (hn2 : n ≤ 9223372036854775807)
    (h17 : n = 17) (h0 : 0 < qs.size) (m : Nat) (hm : (qs[0]'h0).toNat = m) (hf : (m : Int) ≤ 1)
    (qa qb : ByteArray) (x1 : qs.extract 1 9 = qa) (x2 : qs.extract 9 17 = qb) (n1 : Int) (HN1 : Hid (∀ W : World, Calls Tryd.prog 23 #[.string qa] W fun e w' => e = .returned (.int .i64 n1) ∧ w' = W))
    (t1 : 0 ≤ n1)
    (n2 : Int) (HN2 : Hid (∀ W : World, Calls Tryd.prog 23 #[.string qb] W fun e w' => e = .returned (.int .i64 n2) ∧ w' = W)) (t2 : n2 < 0) :
    Calls Tryd.prog 5 #[.bool true, .agg #[.int .i64 a, .int .i64 b], .string qs] w fun e w' => e = .returned (.bool true) ∧ Upd noBlock w w' := by
  subst h17
  have hn8 : ¬ (17 : Int) = 8 := by decide
  have HU : Hid (Upd noBlock w (w.alloc (.cells #[.int .i64 a, .int .i64 b] 39))) := (Upd.refl _ _).alloc _
  have HA := Lib.hid (fun W h => box2 w W (.int .i64 a) (.int .i64 b) 39 h)
  have HS := Lib.hid (fun W hW => speaks_any W hW)
  have z0 : (⟨#[1]⟩ : ByteArray).size = 1 := rfl
  go_enter Tryd.func5, Tryd.ntmps5
  go_upto_region 15 with (first
    | (go_at_call 11; (with_reducible refine (HS.out _ (HT.out _ HU.out)).mono ?_); rintro e w1 ⟨rfl, h⟩; have hA1 := Lib.hid h; have HX := Lib.hid (HU.out.trans h); obtain ⟨y0, y1⟩ := HA.out _ hA1.out; have ya := fun O => (HA.out _ ((hA1.out).alloc O)).1; have yb := fun O => (HA.out _ ((hA1.out).alloc O)).2; clear h)
    | (go_at_call 17; (with_reducible refine (HPI.out _).mono ?_); rintro e w2 ⟨rfl, h⟩; have hI := Lib.hid h; have hA1 := Lib.hid ((hA1.out.alloc _).trans h); have HX := Lib.hid ((HX.out.alloc _).trans h); obtain ⟨i0, i1, i2⟩ := box3 _ _ _ _ _ _ hI.out; obtain ⟨y0, y1⟩ := HA.out _ hA1.out; have ya := fun O => (HA.out _ ((hA1.out).alloc O)).1; have yb := fun O => (HA.out _ ((hA1.out).alloc O)).2; clear h)
    | (go_at_call 18; (with_reducible refine (HPE.out _).mono ?_); rintro e w3 ⟨rfl, h⟩; have hI := Lib.hid (hI.out.trans h); have hA1 := Lib.hid (hA1.out.trans h); have HX := Lib.hid (HX.out.trans h); obtain ⟨i0, i1, i2⟩ := box3 _ _ _ _ _ _ hI.out; obtain ⟨y0, y1⟩ := HA.out _ hA1.out; have ya := fun O => (HA.out _ ((hA1.out).alloc O)).1; have yb := fun O => (HA.out _ ((hA1.out).alloc O)).2; clear h)
    | (go_at_call 19; (with_reducible refine (HFA.out _).mono ?_); rintro e w4 ⟨rfl, rfl⟩)
    | (go_at_call 19; (with_reducible refine (HFB.out _).mono ?_); rintro e w4 ⟨rfl, rfl⟩)
    | (go_at_call 20; (with_reducible refine (HGI.out _).mono ?_); rintro e w5 ⟨rfl, h⟩; have hI := Lib.hid (hI.out.trans h); have hA1 := Lib.hid (hA1.out.trans h); have HX := Lib.hid (HX.out.trans h); obtain ⟨i0, i1, i2⟩ := box3 _ _ _ _ _ _ hI.out; obtain ⟨j0, j1, j2⟩ := box3 _ _ _ _ _ _ (hI.out.alloc (.cells #[.bool true, .int .i64 a, .int .i64 b] 41)); obtain ⟨y0, y1⟩ := HA.out _ hA1.out; have ya := fun O => (HA.out _ ((hA1.out).alloc O)).1; have yb := fun O => (HA.out _ ((hA1.out).alloc O)).2; clear h)
    | (go_at_call 21; (with_reducible refine (HGE.out _).mono ?_); rintro e w6 ⟨rfl, h⟩; have hG := Lib.hid h; have hI := Lib.hid ((hI.out.alloc _).trans h); have hA1 := Lib.hid ((hA1.out.alloc _).trans h); have HX := Lib.hid ((HX.out.alloc _).trans h); obtain ⟨i0, i1, i2⟩ := box3 _ _ _ _ _ _ hI.out; obtain ⟨k0, k1, k2⟩ := box3 _ _ _ _ _ _ hG.out; obtain ⟨y0, y1⟩ := HA.out _ hA1.out; have ya := fun O => (HA.out _ ((hA1.out).alloc O)).1; have yb := fun O => (HA.out _ ((hA1.out).alloc O)).2; clear h))
  go_cut [125] from 108 to 125 (fun t wx => t = .bool false ∧ Hid (Upd noBlock w wx))
  case first =>
    clear HPI HPE HFA HFB HGI HGE HSI HSE HS HT
    go_region_with (first
      | (go_at_call 22; (with_reducible refine (HBA.out _).mono ?_); rintro e w7 ⟨rfl, h⟩; (first | replace h := Upd.undrew h | skip); have hA1 := Lib.hid (hA1.out.trans h); have HX := Lib.hid (HX.out.trans h); obtain ⟨y0, y1⟩ := HA.out _ hA1.out; have ya := fun O => (HA.out _ ((hA1.out).alloc O)).1; have yb := fun O => (HA.out _ ((hA1.out).alloc O)).2; clear h)
      | (go_at_call 22; (with_reducible refine (HBB.out _).mono ?_); rintro e w7 ⟨rfl, h⟩; (first | replace h := Upd.undrew h | skip); have hA1 := Lib.hid (hA1.out.trans h); have HX := Lib.hid (HX.out.trans h); obtain ⟨y0, y1⟩ := HA.out _ hA1.out; have ya := fun O => (HA.out _ ((hA1.out).alloc O)).1; have yb := fun O => (HA.out _ ((hA1.out).alloc O)).2; clear h))
    all_goals
      go_wp2_with fail
      go_meet
      exact ⟨rfl, HX⟩
  case rest =>
    obtain ⟨rfl, HX⟩ := hcut
    go_wp2_with (first
      | (go_at_call 20; (with_reducible refine (HSI.out _).mono ?_); rintro e w8 ⟨rfl, h⟩; have HX := Lib.hid (HX.out.trans h); clear h)
      | (go_at_call 21; (with_reducible refine (HSE.out _).mono ?_); rintro e w9 ⟨rfl, h⟩; have HX := Lib.hid ((HX.out.alloc _).trans h); obtain ⟨l0, l1, l2⟩ := box3 _ _ _ _ _ _ h; clear h)
      | (go_at_call 23; (with_reducible refine (HN1.out _).mono ?_); rintro e w10 ⟨rfl, rfl⟩)
      | (go_at_call 23; (with_reducible refine (HN2.out _).mono ?_); rintro e w10 ⟨rfl, rfl⟩))
    go_ret
    exact ⟨by first | rfl | (show Ending.returned (.bool (!decide (0 ≤ n2))) = _; rw [decide_eq_false (by omega)]; rfl), HX.out⟩
set_option maxRecDepth 20000 in
set_option maxHeartbeats 3200000 in
theorem nv_a4 (w : World) (a b : Int) (p q8 qs : ByteArray) (pa pb p1 : ByteArray) (sd : Bool) (si sz : Int)
    (HT : Hid (∀ W, Upd noBlock w W → Tab W))
    (HPI : Hid (∀ W : World, Calls Tryd.prog 17 #[.agg #[.bool true, .int .i64 a, .int .i64 b]] W fun e w' => e = .returned (.string p) ∧ Upd noBlock W w'))
    (HPE : Hid (∀ W : World, Calls Tryd.prog 18 #[.int .i64 a] W fun e w' => e = .returned (.string q8) ∧ Upd noBlock W w'))
    (HFA : Hid (∀ W : World, Calls Tryd.prog 19 #[.int .i64 a] W fun e w' => e = .returned (.bool true) ∧ w' = W))
    (HFB : Hid (∀ W : World, Calls Tryd.prog 19 #[.int .i64 b] W fun e w' => e = .returned (.bool true) ∧ w' = W))
    (HGI : Hid (∀ W : World, Calls Tryd.prog 20 #[.string p] W fun e w' => e = .returned (.tuple #[.agg #[.bool true, .int .i64 a, .int .i64 b], .bool true]) ∧ Upd noBlock W w'))
    (HGE : Hid (∀ W : World, Calls Tryd.prog 21 #[.string q8] W fun e w' => e = .returned (.tuple #[.int .i64 a, .bool true]) ∧ Upd noBlock W w'))
    (zp : p.size = 17) (zq : q8.size = 8)
    (HBA : Hid (∀ W : World, Calls Tryd.prog 22 #[.int .i64 a, .int .i64 8] W fun e w' => e = .returned (.string q8) ∧ Upd noBlock W w'))
    (HBB : Hid (∀ W : World, Calls Tryd.prog 22 #[.int .i64 b, .int .i64 8] W fun e w' => e = .returned (.string pb) ∧ Upd noBlock W w'))
    (e1 : (⟨#[1]⟩ : ByteArray) ++ q8 = p1) (e2 : p1 ++ pb = p) (zp1 : p1.size = 9) (zpb : pb.size = 8)
    (HSI : Hid (∀ W : World, Calls Tryd.prog 20 #[.string qs] W fun e w' => e = .returned (.tuple #[.agg #[.bool sd, .int .i64 si, .int .i64 sz], .bool true]) ∧ Upd noBlock W w'))
    (HSE : Hid (∀ W : World, Calls Tryd.prog 21 #[.string qs] W fun e w' => e = .returned (.tuple #[.int .i64 0, .bool false]) ∧ Upd noBlock W w'))
    (n : Nat) (hn : qs.size = n) (hn2 : n ≤ 9223372036854775807)
    (h17 : n = 17) (h0 : 0 < qs.size) (m : Nat) (hm : (qs[0]'h0).toNat = m) (hf : (m : Int) ≤ 1)
    (qa qb : ByteArray) (x1 : qs.extract 1 9 = qa) (x2 : qs.extract 9 17 = qb) (n1 : Int) (HN1 : Hid (∀ W : World, Calls Tryd.prog 23 #[.string qa] W fun e w' => e = .returned (.int .i64 n1) ∧ w' = W))
    (t1 : 0 ≤ n1)
    (n2 : Int) (HN2 : Hid (∀ W : World, Calls Tryd.prog 23 #[.string qb] W fun e w' => e = .returned (.int .i64 n2) ∧ w' = W)) (t2 : 0 ≤ n2)
    (HPS : Hid (∀ W : World, Calls Tryd.prog 17 #[.agg #[.bool sd, .int .i64 si, .int .i64 sz]] W fun e w' => e = .returned (.string qs) ∧ Upd noBlock W w')) :
    Calls Tryd.prog 5 #[.bool true, .agg #[.int .i64 a, .int .i64 b], .string qs] w fun e w' => e = .returned (.bool true) ∧ Upd noBlock w w' := by
  subst h17
  have hn8 : ¬ (17 : Int) = 8 := by decide
  have HU : Hid (Upd noBlock w (w.alloc (.cells #[.int .i64 a, .int .i64 b] 39))) := (Upd.refl _ _).alloc _
  have HA := Lib.hid (fun W h => box2 w W (.int .i64 a) (.int .i64 b) 39 h)
  have HS := Lib.hid (fun W hW => speaks_any W hW)
  have z0 : (⟨#[1]⟩ : ByteArray).size = 1 := rfl
  go_enter Tryd.func5, Tryd.ntmps5
  go_upto_region 15 with (first
    | (go_at_call 11; (with_reducible refine (HS.out _ (HT.out _ HU.out)).mono ?_); rintro e w1 ⟨rfl, h⟩; have hA1 := Lib.hid h; have HX := Lib.hid (HU.out.trans h); obtain ⟨y0, y1⟩ := HA.out _ hA1.out; have ya := fun O => (HA.out _ ((hA1.out).alloc O)).1; have yb := fun O => (HA.out _ ((hA1.out).alloc O)).2; clear h)
    | (go_at_call 17; (with_reducible refine (HPI.out _).mono ?_); rintro e w2 ⟨rfl, h⟩; have hI := Lib.hid h; have hA1 := Lib.hid ((hA1.out.alloc _).trans h); have HX := Lib.hid ((HX.out.alloc _).trans h); obtain ⟨i0, i1, i2⟩ := box3 _ _ _ _ _ _ hI.out; obtain ⟨y0, y1⟩ := HA.out _ hA1.out; have ya := fun O => (HA.out _ ((hA1.out).alloc O)).1; have yb := fun O => (HA.out _ ((hA1.out).alloc O)).2; clear h)
    | (go_at_call 18; (with_reducible refine (HPE.out _).mono ?_); rintro e w3 ⟨rfl, h⟩; have hI := Lib.hid (hI.out.trans h); have hA1 := Lib.hid (hA1.out.trans h); have HX := Lib.hid (HX.out.trans h); obtain ⟨i0, i1, i2⟩ := box3 _ _ _ _ _ _ hI.out; obtain ⟨y0, y1⟩ := HA.out _ hA1.out; have ya := fun O => (HA.out _ ((hA1.out).alloc O)).1; have yb := fun O => (HA.out _ ((hA1.out).alloc O)).2; clear h)
    | (go_at_call 19; (with_reducible refine (HFA.out _).mono ?_); rintro e w4 ⟨rfl, rfl⟩)
    | (go_at_call 19; (with_reducible refine (HFB.out _).mono ?_); rintro e w4 ⟨rfl, rfl⟩)
    | (go_at_call 20; (with_reducible refine (HGI.out _).mono ?_); rintro e w5 ⟨rfl, h⟩; have hI := Lib.hid (hI.out.trans h); have hA1 := Lib.hid (hA1.out.trans h); have HX := Lib.hid (HX.out.trans h); obtain ⟨i0, i1, i2⟩ := box3 _ _ _ _ _ _ hI.out; obtain ⟨j0, j1, j2⟩ := box3 _ _ _ _ _ _ (hI.out.alloc (.cells #[.bool true, .int .i64 a, .int .i64 b] 41)); obtain ⟨y0, y1⟩ := HA.out _ hA1.out; have ya := fun O => (HA.out _ ((hA1.out).alloc O)).1; have yb := fun O => (HA.out _ ((hA1.out).alloc O)).2; clear h)
    | (go_at_call 21; (with_reducible refine (HGE.out _).mono ?_); rintro e w6 ⟨rfl, h⟩; have hG := Lib.hid h; have hI := Lib.hid ((hI.out.alloc _).trans h); have hA1 := Lib.hid ((hA1.out.alloc _).trans h); have HX := Lib.hid ((HX.out.alloc _).trans h); obtain ⟨i0, i1, i2⟩ := box3 _ _ _ _ _ _ hI.out; obtain ⟨k0, k1, k2⟩ := box3 _ _ _ _ _ _ hG.out; obtain ⟨y0, y1⟩ := HA.out _ hA1.out; have ya := fun O => (HA.out _ ((hA1.out).alloc O)).1; have yb := fun O => (HA.out _ ((hA1.out).alloc O)).2; clear h))
  go_cut [125] from 108 to 125 (fun t wx => t = .bool false ∧ Hid (Upd noBlock w wx))
  case first =>
    clear HPI HPE HFA HFB HGI HGE HSI HSE HS HT
    go_region_with (first
      | (go_at_call 22; (with_reducible refine (HBA.out _).mono ?_); rintro e w7 ⟨rfl, h⟩; (first | replace h := Upd.undrew h | skip); have hA1 := Lib.hid (hA1.out.trans h); have HX := Lib.hid (HX.out.trans h); obtain ⟨y0, y1⟩ := HA.out _ hA1.out; have ya := fun O => (HA.out _ ((hA1.out).alloc O)).1; have yb := fun O => (HA.out _ ((hA1.out).alloc O)).2; clear h)
      | (go_at_call 22; (with_reducible refine (HBB.out _).mono ?_); rintro e w7 ⟨rfl, h⟩; (first | replace h := Upd.undrew h | skip); have hA1 := Lib.hid (hA1.out.trans h); have HX := Lib.hid (HX.out.trans h); obtain ⟨y0, y1⟩ := HA.out _ hA1.out; have ya := fun O => (HA.out _ ((hA1.out).alloc O)).1; have yb := fun O => (HA.out _ ((hA1.out).alloc O)).2; clear h))
    all_goals
      go_wp2_with fail
      go_meet
      exact ⟨rfl, HX⟩
  case rest =>
    obtain ⟨rfl, HX⟩ := hcut
    go_wp2_with (first
      | (go_at_call 20; (with_reducible refine (HSI.out _).mono ?_); rintro e w8 ⟨rfl, h⟩; have HX := Lib.hid (HX.out.trans h); clear h)
      | (go_at_call 21; (with_reducible refine (HSE.out _).mono ?_); rintro e w9 ⟨rfl, h⟩; have HX := Lib.hid ((HX.out.alloc _).trans h); obtain ⟨l0, l1, l2⟩ := box3 _ _ _ _ _ _ h; clear h)
      | (go_at_call 23; (with_reducible refine (HN1.out _).mono ?_); rintro e w10 ⟨rfl, rfl⟩)
      | (go_at_call 23; (with_reducible refine (HN2.out _).mono ?_); rintro e w10 ⟨rfl, rfl⟩)
      | (go_at_call 17; (with_reducible refine (HPS.out _).mono ?_); rintro e w11 ⟨rfl, h⟩; have HX := Lib.hid (HX.out.trans h); clear h))
    go_ret
    exact ⟨rfl, HX.out⟩
set_option maxRecDepth 20000 in
set_option maxHeartbeats 3200000 in
theorem nv_a5 (w : World) (a b : Int) (p q8 qs : ByteArray) (pa pb p1 : ByteArray)
    (HT : Hid (∀ W, Upd noBlock w W → Tab W))
    (HPI : Hid (∀ W : World, Calls Tryd.prog 17 #[.agg #[.bool true, .int .i64 a, .int .i64 b]] W fun e w' => e = .returned (.string p) ∧ Upd noBlock W w'))
    (HPE : Hid (∀ W : World, Calls Tryd.prog 18 #[.int .i64 a] W fun e w' => e = .returned (.string q8) ∧ Upd noBlock W w'))
    (HFA : Hid (∀ W : World, Calls Tryd.prog 19 #[.int .i64 a] W fun e w' => e = .returned (.bool true) ∧ w' = W))
    (HFB : Hid (∀ W : World, Calls Tryd.prog 19 #[.int .i64 b] W fun e w' => e = .returned (.bool true) ∧ w' = W))
    (HGI : Hid (∀ W : World, Calls Tryd.prog 20 #[.string p] W fun e w' => e = .returned (.tuple #[.agg #[.bool true, .int .i64 a, .int .i64 b], .bool true]) ∧ Upd noBlock W w'))
    (HGE : Hid (∀ W : World, Calls Tryd.prog 21 #[.string q8] W fun e w' => e = .returned (.tuple #[.int .i64 a, .bool true]) ∧ Upd noBlock W w'))
    (zp : p.size = 17) (zq : q8.size = 8)
    (HBA : Hid (∀ W : World, Calls Tryd.prog 22 #[.int .i64 a, .int .i64 8] W fun e w' => e = .returned (.string q8) ∧ Upd noBlock W w'))
    (HBB : Hid (∀ W : World, Calls Tryd.prog 22 #[.int .i64 b, .int .i64 8] W fun e w' => e = .returned (.string pb) ∧ Upd noBlock W w'))
    (e1 : (⟨#[1]⟩ : ByteArray) ++ q8 = p1) (e2 : p1 ++ pb = p) (zp1 : p1.size = 9) (zpb : pb.size = 8)
    (HSI : Hid (∀ W : World, Calls Tryd.prog 20 #[.string qs] W fun e w' => e = .returned (.tuple #[.agg #[.bool false, .int .i64 0, .int .i64 0], .bool false]) ∧ Upd noBlock W w'))
    (HSE : Hid (∀ W : World, Calls Tryd.prog 21 #[.string qs] W fun e w' => e = .returned (.tuple #[.int .i64 0, .bool false]) ∧ Upd noBlock W w'))
    (n : Nat) (hn : qs.size = n) (hn2 : n ≤ 9223372036854775807)
    (h8 : n = 8) (n0 : Int) (HN0 : Hid (∀ W : World, Calls Tryd.prog 23 #[.string qs] W fun e w' => e = .returned (.int .i64 n0) ∧ w' = W)) (t0 : n0 < 0) :
    Calls Tryd.prog 5 #[.bool true, .agg #[.int .i64 a, .int .i64 b], .string qs] w fun e w' => e = .returned (.bool true) ∧ Upd noBlock w w' := by
  subst h8
  have HU : Hid (Upd noBlock w (w.alloc (.cells #[.int .i64 a, .int .i64 b] 39))) := (Upd.refl _ _).alloc _
  have HA := Lib.hid (fun W h => box2 w W (.int .i64 a) (.int .i64 b) 39 h)
  have HS := Lib.hid (fun W hW => speaks_any W hW)
  have z0 : (⟨#[1]⟩ : ByteArray).size = 1 := rfl
  go_enter Tryd.func5, Tryd.ntmps5
  go_upto_region 15 with (first
    | (go_at_call 11; (with_reducible refine (HS.out _ (HT.out _ HU.out)).mono ?_); rintro e w1 ⟨rfl, h⟩; have hA1 := Lib.hid h; have HX := Lib.hid (HU.out.trans h); obtain ⟨y0, y1⟩ := HA.out _ hA1.out; have ya := fun O => (HA.out _ ((hA1.out).alloc O)).1; have yb := fun O => (HA.out _ ((hA1.out).alloc O)).2; clear h)
    | (go_at_call 17; (with_reducible refine (HPI.out _).mono ?_); rintro e w2 ⟨rfl, h⟩; have hI := Lib.hid h; have hA1 := Lib.hid ((hA1.out.alloc _).trans h); have HX := Lib.hid ((HX.out.alloc _).trans h); obtain ⟨i0, i1, i2⟩ := box3 _ _ _ _ _ _ hI.out; obtain ⟨y0, y1⟩ := HA.out _ hA1.out; have ya := fun O => (HA.out _ ((hA1.out).alloc O)).1; have yb := fun O => (HA.out _ ((hA1.out).alloc O)).2; clear h)
    | (go_at_call 18; (with_reducible refine (HPE.out _).mono ?_); rintro e w3 ⟨rfl, h⟩; have hI := Lib.hid (hI.out.trans h); have hA1 := Lib.hid (hA1.out.trans h); have HX := Lib.hid (HX.out.trans h); obtain ⟨i0, i1, i2⟩ := box3 _ _ _ _ _ _ hI.out; obtain ⟨y0, y1⟩ := HA.out _ hA1.out; have ya := fun O => (HA.out _ ((hA1.out).alloc O)).1; have yb := fun O => (HA.out _ ((hA1.out).alloc O)).2; clear h)
    | (go_at_call 19; (with_reducible refine (HFA.out _).mono ?_); rintro e w4 ⟨rfl, rfl⟩)
    | (go_at_call 19; (with_reducible refine (HFB.out _).mono ?_); rintro e w4 ⟨rfl, rfl⟩)
    | (go_at_call 20; (with_reducible refine (HGI.out _).mono ?_); rintro e w5 ⟨rfl, h⟩; have hI := Lib.hid (hI.out.trans h); have hA1 := Lib.hid (hA1.out.trans h); have HX := Lib.hid (HX.out.trans h); obtain ⟨i0, i1, i2⟩ := box3 _ _ _ _ _ _ hI.out; obtain ⟨j0, j1, j2⟩ := box3 _ _ _ _ _ _ (hI.out.alloc (.cells #[.bool true, .int .i64 a, .int .i64 b] 41)); obtain ⟨y0, y1⟩ := HA.out _ hA1.out; have ya := fun O => (HA.out _ ((hA1.out).alloc O)).1; have yb := fun O => (HA.out _ ((hA1.out).alloc O)).2; clear h)
    | (go_at_call 21; (with_reducible refine (HGE.out _).mono ?_); rintro e w6 ⟨rfl, h⟩; have hG := Lib.hid h; have hI := Lib.hid ((hI.out.alloc _).trans h); have hA1 := Lib.hid ((hA1.out.alloc _).trans h); have HX := Lib.hid ((HX.out.alloc _).trans h); obtain ⟨i0, i1, i2⟩ := box3 _ _ _ _ _ _ hI.out; obtain ⟨k0, k1, k2⟩ := box3 _ _ _ _ _ _ hG.out; obtain ⟨y0, y1⟩ := HA.out _ hA1.out; have ya := fun O => (HA.out _ ((hA1.out).alloc O)).1; have yb := fun O => (HA.out _ ((hA1.out).alloc O)).2; clear h))
  go_cut [125] from 108 to 125 (fun t wx => t = .bool false ∧ Hid (Upd noBlock w wx))
  case first =>
    clear HPI HPE HFA HFB HGI HGE HSI HSE HS HT
    go_region_with (first
      | (go_at_call 22; (with_reducible refine (HBA.out _).mono ?_); rintro e w7 ⟨rfl, h⟩; (first | replace h := Upd.undrew h | skip); have hA1 := Lib.hid (hA1.out.trans h); have HX := Lib.hid (HX.out.trans h); obtain ⟨y0, y1⟩ := HA.out _ hA1.out; have ya := fun O => (HA.out _ ((hA1.out).alloc O)).1; have yb := fun O => (HA.out _ ((hA1.out).alloc O)).2; clear h)
      | (go_at_call 22; (with_reducible refine (HBB.out _).mono ?_); rintro e w7 ⟨rfl, h⟩; (first | replace h := Upd.undrew h | skip); have hA1 := Lib.hid (hA1.out.trans h); have HX := Lib.hid (HX.out.trans h); obtain ⟨y0, y1⟩ := HA.out _ hA1.out; have ya := fun O => (HA.out _ ((hA1.out).alloc O)).1; have yb := fun O => (HA.out _ ((hA1.out).alloc O)).2; clear h))
    all_goals
      go_wp2_with fail
      go_meet
      exact ⟨rfl, HX⟩
  case rest =>
    obtain ⟨rfl, HX⟩ := hcut
    go_wp2_with (first
      | (go_at_call 20; (with_reducible refine (HSI.out _).mono ?_); rintro e w8 ⟨rfl, h⟩; have HX := Lib.hid (HX.out.trans h); clear h)
      | (go_at_call 21; (with_reducible refine (HSE.out _).mono ?_); rintro e w9 ⟨rfl, h⟩; have HX := Lib.hid ((HX.out.alloc _).trans h); obtain ⟨l0, l1, l2⟩ := box3 _ _ _ _ _ _ h; clear h)
      | (go_at_call 23; (with_reducible refine (HN0.out _).mono ?_); rintro e w10 ⟨rfl, rfl⟩))
    go_ret
    exact ⟨by first | rfl | (show Ending.returned (.bool (!decide (0 ≤ n0))) = _; rw [decide_eq_false (by omega)]; rfl), HX.out⟩
set_option maxRecDepth 20000 in
set_option maxHeartbeats 3200000 in
theorem nv_a6 (w : World) (a b : Int) (p q8 qs : ByteArray) (pa pb p1 : ByteArray) (sn : Int)
    (HT : Hid (∀ W, Upd noBlock w W → Tab W))
    (HPI : Hid (∀ W : World, Calls Tryd.prog 17 #[.agg #[.bool true, .int .i64 a, .int .i64 b]] W fun e w' => e = .returned (.string p) ∧ Upd noBlock W w'))
    (HPE : Hid (∀ W : World, Calls Tryd.prog 18 #[.int .i64 a] W fun e w' => e = .returned (.string q8) ∧ Upd noBlock W w'))
    (HFA : Hid (∀ W : World, Calls Tryd.prog 19 #[.int .i64 a] W fun e w' => e = .returned (.bool true) ∧ w' = W))
    (HFB : Hid (∀ W : World, Calls Tryd.prog 19 #[.int .i64 b] W fun e w' => e = .returned (.bool true) ∧ w' = W))
    (HGI : Hid (∀ W : World, Calls Tryd.prog 20 #[.string p] W fun e w' => e = .returned (.tuple #[.agg #[.bool true, .int .i64 a, .int .i64 b], .bool true]) ∧ Upd noBlock W w'))
    (HGE : Hid (∀ W : World, Calls Tryd.prog 21 #[.string q8] W fun e w' => e = .returned (.tuple #[.int .i64 a, .bool true]) ∧ Upd noBlock W w'))
    (zp : p.size = 17) (zq : q8.size = 8)
    (HBA : Hid (∀ W : World, Calls Tryd.prog 22 #[.int .i64 a, .int .i64 8] W fun e w' => e = .returned (.string q8) ∧ Upd noBlock W w'))
    (HBB : Hid (∀ W : World, Calls Tryd.prog 22 #[.int .i64 b, .int .i64 8] W fun e w' => e = .returned (.string pb) ∧ Upd noBlock W w'))
    (e1 : (⟨#[1]⟩ : ByteArray) ++ q8 = p1) (e2 : p1 ++ pb = p) (zp1 : p1.size = 9) (zpb : pb.size = 8)
    (HSI : Hid (∀ W : World, Calls Tryd.prog 20 #[.string qs] W fun e w' => e = .returned (.tuple #[.agg #[.bool false, .int .i64 0, .int .i64 0], .bool false]) ∧ Upd noBlock W w'))
    (HSE : Hid (∀ W : World, Calls Tryd.prog 21 #[.string qs] W fun e w' => e = .returned (.tuple #[.int .i64 sn, .bool true]) ∧ Upd noBlock W w'))
    (n : Nat) (hn : qs.size = n) (hn2 : n ≤ 9223372036854775807)
    (h8 : n = 8) (n0 : Int) (HN0 : Hid (∀ W : World, Calls Tryd.prog 23 #[.string qs] W fun e w' => e = .returned (.int .i64 n0) ∧ w' = W)) (t0 : 0 ≤ n0)
    (HES : Hid (∀ W : World, Calls Tryd.prog 18 #[.int .i64 sn] W fun e w' => e = .returned (.string qs) ∧ Upd noBlock W w')) :
    Calls Tryd.prog 5 #[.bool true, .agg #[.int .i64 a, .int .i64 b], .string qs] w fun e w' => e = .returned (.bool true) ∧ Upd noBlock w w' := by
  subst h8
  have HU : Hid (Upd noBlock w (w.alloc (.cells #[.int .i64 a, .int .i64 b] 39))) := (Upd.refl _ _).alloc _
  have HA := Lib.hid (fun W h => box2 w W (.int .i64 a) (.int .i64 b) 39 h)
  have HS := Lib.hid (fun W hW => speaks_any W hW)
  have z0 : (⟨#[1]⟩ : ByteArray).size = 1 := rfl
  go_enter Tryd.func5, Tryd.ntmps5
  go_upto_region 15 with (first
    | (go_at_call 11; (with_reducible refine (HS.out _ (HT.out _ HU.out)).mono ?_); rintro e w1 ⟨rfl, h⟩; have hA1 := Lib.hid h; have HX := Lib.hid (HU.out.trans h); obtain ⟨y0, y1⟩ := HA.out _ hA1.out; have ya := fun O => (HA.out _ ((hA1.out).alloc O)).1; have yb := fun O => (HA.out _ ((hA1.out).alloc O)).2; clear h)
    | (go_at_call 17; (with_reducible refine (HPI.out _).mono ?_); rintro e w2 ⟨rfl, h⟩; have hI := Lib.hid h; have hA1 := Lib.hid ((hA1.out.alloc _).trans h); have HX := Lib.hid ((HX.out.alloc _).trans h); obtain ⟨i0, i1, i2⟩ := box3 _ _ _ _ _ _ hI.out; obtain ⟨y0, y1⟩ := HA.out _ hA1.out; have ya := fun O => (HA.out _ ((hA1.out).alloc O)).1; have yb := fun O => (HA.out _ ((hA1.out).alloc O)).2; clear h)
    | (go_at_call 18; (with_reducible refine (HPE.out _).mono ?_); rintro e w3 ⟨rfl, h⟩; have hI := Lib.hid (hI.out.trans h); have hA1 := Lib.hid (hA1.out.trans h); have HX := Lib.hid (HX.out.trans h); obtain ⟨i0, i1, i2⟩ := box3 _ _ _ _ _ _ hI.out; obtain ⟨y0, y1⟩ := HA.out _ hA1.out; have ya := fun O => (HA.out _ ((hA1.out).alloc O)).1; have yb := fun O => (HA.out _ ((hA1.out).alloc O)).2; clear h)
    | (go_at_call 19; (with_reducible refine (HFA.out _).mono ?_); rintro e w4 ⟨rfl, rfl⟩)
    | (go_at_call 19; (with_reducible refine (HFB.out _).mono ?_); rintro e w4 ⟨rfl, rfl⟩)
    | (go_at_call 20; (with_reducible refine (HGI.out _).mono ?_); rintro e w5 ⟨rfl, h⟩; have hI := Lib.hid (hI.out.trans h); have hA1 := Lib.hid (hA1.out.trans h); have HX := Lib.hid (HX.out.trans h); obtain ⟨i0, i1, i2⟩ := box3 _ _ _ _ _ _ hI.out; obtain ⟨j0, j1, j2⟩ := box3 _ _ _ _ _ _ (hI.out.alloc (.cells #[.bool true, .int .i64 a, .int .i64 b] 41)); obtain ⟨y0, y1⟩ := HA.out _ hA1.out; have ya := fun O => (HA.out _ ((hA1.out).alloc O)).1; have yb := fun O => (HA.out _ ((hA1.out).alloc O)).2; clear h)
    | (go_at_call 21; (with_reducible refine (HGE.out _).mono ?_); rintro e w6 ⟨rfl, h⟩; have hG := Lib.hid h; have hI := Lib.hid ((hI.out.alloc _).trans h); have hA1 := Lib.hid ((hA1.out.alloc _).trans h); have HX := Lib.hid ((HX.out.alloc _).trans h); obtain ⟨i0, i1, i2⟩ := box3 _ _ _ _ _ _ hI.out; obtain ⟨k0, k1, k2⟩ := box3 _ _ _ _ _ _ hG.out; obtain ⟨y0, y1⟩ := HA.out _ hA1.out; have ya := fun O => (HA.out _ ((hA1.out).alloc O)).1; have yb := fun O => (HA.out _ ((hA1.out).alloc O)).2; clear h))
  go_cut [125] from 108 to 125 (fun t wx => t = .bool false ∧ Hid (Upd noBlock w wx))
  case first =>
    clear HPI HPE HFA HFB HGI HGE HSI HSE HS HT
    go_region_with (first
      | (go_at_call 22; (with_reducible refine (HBA.out _).mono ?_); rintro e w7 ⟨rfl, h⟩; (first | replace h := Upd.undrew h | skip); have hA1 := Lib.hid (hA1.out.trans h); have HX := Lib.hid (HX.out.trans h); obtain ⟨y0, y1⟩ := HA.out _ hA1.out; have ya := fun O => (HA.out _ ((hA1.out).alloc O)).1; have yb := fun O => (HA.out _ ((hA1.out).alloc O)).2; clear h)
      | (go_at_call 22; (with_reducible refine (HBB.out _).mono ?_); rintro e w7 ⟨rfl, h⟩; (first | replace h := Upd.undrew h | skip); have hA1 := Lib.hid (hA1.out.trans h); have HX := Lib.hid (HX.out.trans h); obtain ⟨y0, y1⟩ := HA.out _ hA1.out; have ya := fun O => (HA.out _ ((hA1.out).alloc O)).1; have yb := fun O => (HA.out _ ((hA1.out).alloc O)).2; clear h))
    all_goals
      go_wp2_with fail
      go_meet
      exact ⟨rfl, HX⟩
  case rest =>
    obtain ⟨rfl, HX⟩ := hcut
    go_wp2_with (first
      | (go_at_call 20; (with_reducible refine (HSI.out _).mono ?_); rintro e w8 ⟨rfl, h⟩; have HX := Lib.hid (HX.out.trans h); clear h)
      | (go_at_call 21; (with_reducible refine (HSE.out _).mono ?_); rintro e w9 ⟨rfl, h⟩; have HX := Lib.hid ((HX.out.alloc _).trans h); obtain ⟨l0, l1, l2⟩ := box3 _ _ _ _ _ _ h; clear h)
      | (go_at_call 23; (with_reducible refine (HN0.out _).mono ?_); rintro e w10 ⟨rfl, rfl⟩)
      | (go_at_call 18; (with_reducible refine (HES.out _).mono ?_); rintro e w11 ⟨rfl, h⟩; have HX := Lib.hid (HX.out.trans h); clear h))
    go_ret
    exact ⟨rfl, HX.out⟩
set_option maxRecDepth 20000 in
set_option maxHeartbeats 3200000 in
theorem nv_a7 (w : World) (a b : Int) (p q8 qs : ByteArray) (pa pb p1 : ByteArray)
    (HT : Hid (∀ W, Upd noBlock w W → Tab W))
    (HPI : Hid (∀ W : World, Calls Tryd.prog 17 #[.agg #[.bool true, .int .i64 a, .int .i64 b]] W fun e w' => e = .returned (.string p) ∧ Upd noBlock W w'))
    (HPE : Hid (∀ W : World, Calls Tryd.prog 18 #[.int .i64 a] W fun e w' => e = .returned (.string q8) ∧ Upd noBlock W w'))
    (HFA : Hid (∀ W : World, Calls Tryd.prog 19 #[.int .i64 a] W fun e w' => e = .returned (.bool true) ∧ w' = W))
    (HFB : Hid (∀ W : World, Calls Tryd.prog 19 #[.int .i64 b] W fun e w' => e = .returned (.bool true) ∧ w' = W))
    (HGI : Hid (∀ W : World, Calls Tryd.prog 20 #[.string p] W fun e w' => e = .returned (.tuple #[.agg #[.bool true, .int .i64 a, .int .i64 b], .bool true]) ∧ Upd noBlock W w'))
    (HGE : Hid (∀ W : World, Calls Tryd.prog 21 #[.string q8] W fun e w' => e = .returned (.tuple #[.int .i64 a, .bool true]) ∧ Upd noBlock W w'))
    (zp : p.size = 17) (zq : q8.size = 8)
    (HBA : Hid (∀ W : World, Calls Tryd.prog 22 #[.int .i64 a, .int .i64 8] W fun e w' => e = .returned (.string q8) ∧ Upd noBlock W w'))
    (HBB : Hid (∀ W : World, Calls Tryd.prog 22 #[.int .i64 b, .int .i64 8] W fun e w' => e = .returned (.string pb) ∧ Upd noBlock W w'))
    (e1 : (⟨#[1]⟩ : ByteArray) ++ q8 = p1) (e2 : p1 ++ pb = p) (zp1 : p1.size = 9) (zpb : pb.size = 8)
    (HSI : Hid (∀ W : World, Calls Tryd.prog 20 #[.string qs] W fun e w' => e = .returned (.tuple #[.agg #[.bool false, .int .i64 0, .int .i64 0], .bool false]) ∧ Upd noBlock W w'))
    (HSE : Hid (∀ W : World, Calls Tryd.prog 21 #[.string qs] W fun e w' => e = .returned (.tuple #[.int .i64 0, .bool false]) ∧ Upd noBlock W w'))
    (n : Nat) (hn : qs.size = n) (hn2 : n ≤ 9223372036854775807)
    (h17 : ¬ (n : Int) = 17) (h8 : ¬ (n : Int) = 8) :
    Calls Tryd.prog 5 #[.bool true, .agg #[.int .i64 a, .int .i64 b], .string qs] w fun e w' => e = .returned (.bool true) ∧ Upd noBlock w w' := by
  have HU : Hid (Upd noBlock w (w.alloc (.cells #[.int .i64 a, .int .i64 b] 39))) := (Upd.refl _ _).alloc _
  have HA := Lib.hid (fun W h => box2 w W (.int .i64 a) (.int .i64 b) 39 h)
  have HS := Lib.hid (fun W hW => speaks_any W hW)
  have z0 : (⟨#[1]⟩ : ByteArray).size = 1 := rfl
  go_enter Tryd.func5, Tryd.ntmps5
  go_upto_region 15 with (first
    | (go_at_call 11; (with_reducible refine (HS.out _ (HT.out _ HU.out)).mono ?_); rintro e w1 ⟨rfl, h⟩; have hA1 := Lib.hid h; have HX := Lib.hid (HU.out.trans h); obtain ⟨y0, y1⟩ := HA.out _ hA1.out; have ya := fun O => (HA.out _ ((hA1.out).alloc O)).1; have yb := fun O => (HA.out _ ((hA1.out).alloc O)).2; clear h)
    | (go_at_call 17; (with_reducible refine (HPI.out _).mono ?_); rintro e w2 ⟨rfl, h⟩; have hI := Lib.hid h; have hA1 := Lib.hid ((hA1.out.alloc _).trans h); have HX := Lib.hid ((HX.out.alloc _).trans h); obtain ⟨i0, i1, i2⟩ := box3 _ _ _ _ _ _ hI.out; obtain ⟨y0, y1⟩ := HA.out _ hA1.out; have ya := fun O => (HA.out _ ((hA1.out).alloc O)).1; have yb := fun O => (HA.out _ ((hA1.out).alloc O)).2; clear h)
    | (go_at_call 18; (with_reducible refine (HPE.out _).mono ?_); rintro e w3 ⟨rfl, h⟩; have hI := Lib.hid (hI.out.trans h); have hA1 := Lib.hid (hA1.out.trans h); have HX := Lib.hid (HX.out.trans h); obtain ⟨i0, i1, i2⟩ := box3 _ _ _ _ _ _ hI.out; obtain ⟨y0, y1⟩ := HA.out _ hA1.out; have ya := fun O => (HA.out _ ((hA1.out).alloc O)).1; have yb := fun O => (HA.out _ ((hA1.out).alloc O)).2; clear h)
    | (go_at_call 19; (with_reducible refine (HFA.out _).mono ?_); rintro e w4 ⟨rfl, rfl⟩)
    | (go_at_call 19; (with_reducible refine (HFB.out _).mono ?_); rintro e w4 ⟨rfl, rfl⟩)
    | (go_at_call 20; (with_reducible refine (HGI.out _).mono ?_); rintro e w5 ⟨rfl, h⟩; have hI := Lib.hid (hI.out.trans h); have hA1 := Lib.hid (hA1.out.trans h); have HX := Lib.hid (HX.out.trans h); obtain ⟨i0, i1, i2⟩ := box3 _ _ _ _ _ _ hI.out; obtain ⟨j0, j1, j2⟩ := box3 _ _ _ _ _ _ (hI.out.alloc (.cells #[.bool true, .int .i64 a, .int .i64 b] 41)); obtain ⟨y0, y1⟩ := HA.out _ hA1.out; have ya := fun O => (HA.out _ ((hA1.out).alloc O)).1; have yb := fun O => (HA.out _ ((hA1.out).alloc O)).2; clear h)
    | (go_at_call 21; (with_reducible refine (HGE.out _).mono ?_); rintro e w6 ⟨rfl, h⟩; have hG := Lib.hid h; have hI := Lib.hid ((hI.out.alloc _).trans h); have hA1 := Lib.hid ((hA1.out.alloc _).trans h); have HX := Lib.hid ((HX.out.alloc _).trans h); obtain ⟨i0, i1, i2⟩ := box3 _ _ _ _ _ _ hI.out; obtain ⟨k0, k1, k2⟩ := box3 _ _ _ _ _ _ hG.out; obtain ⟨y0, y1⟩ := HA.out _ hA1.out; have ya := fun O => (HA.out _ ((hA1.out).alloc O)).1; have yb := fun O => (HA.out _ ((hA1.out).alloc O)).2; clear h))
  go_cut [125] from 108 to 125 (fun t wx => t = .bool false ∧ Hid (Upd noBlock w wx))
  case first =>
    clear HPI HPE HFA HFB HGI HGE HSI HSE HS HT
    go_region_with (first
      | (go_at_call 22; (with_reducible refine (HBA.out _).mono ?_); rintro e w7 ⟨rfl, h⟩; (first | replace h := Upd.undrew h | skip); have hA1 := Lib.hid (hA1.out.trans h); have HX := Lib.hid (HX.out.trans h); obtain ⟨y0, y1⟩ := HA.out _ hA1.out; have ya := fun O => (HA.out _ ((hA1.out).alloc O)).1; have yb := fun O => (HA.out _ ((hA1.out).alloc O)).2; clear h)
      | (go_at_call 22; (with_reducible refine (HBB.out _).mono ?_); rintro e w7 ⟨rfl, h⟩; (first | replace h := Upd.undrew h | skip); have hA1 := Lib.hid (hA1.out.trans h); have HX := Lib.hid (HX.out.trans h); obtain ⟨y0, y1⟩ := HA.out _ hA1.out; have ya := fun O => (HA.out _ ((hA1.out).alloc O)).1; have yb := fun O => (HA.out _ ((hA1.out).alloc O)).2; clear h))
    all_goals
      go_wp2_with fail
      go_meet
      exact ⟨rfl, HX⟩
  case rest =>
    obtain ⟨rfl, HX⟩ := hcut
    go_wp2_with (first
      | (go_at_call 20; (with_reducible refine (HSI.out _).mono ?_); rintro e w8 ⟨rfl, h⟩; have HX := Lib.hid (HX.out.trans h); clear h)
      | (go_at_call 21; (with_reducible refine (HSE.out _).mono ?_); rintro e w9 ⟨rfl, h⟩; have HX := Lib.hid ((HX.out.alloc _).trans h); obtain ⟨l0, l1, l2⟩ := box3 _ _ _ _ _ _ h; clear h))
    go_ret
    exact ⟨rfl, HX.out⟩
end Go.Proofs.YthlheamnfjjamaaDoor
