/- NodeLabels: the walks (no label). -/
import Derived.Test.YthlheamnfjjamaaDoorWk
import Derived.Deep.RegionHeld
namespace Go.Proofs.YthlheamnfjjamaaDoor
open Go.RowKit Cm
attribute [local irreducible] beZ valN Cm.shs Cm.nxt Cm.reg Cm.ext
attribute [local go_sem ↓] Go.wp_at_zero Go.wp_at_succ
set_option linter.unusedVariables false

set_option maxRecDepth 20000 in
set_option maxHeartbeats 3200000 in
theorem nl_1n (w : World) (k : Nat) (a b c : Int) (p qs : ByteArray)
    (HT : Hid (∀ W, Upd noBlock w W → Tab W))
    (HPL : Hid (∀ W : World, Tab W → Calls Tryd.prog 24 #[.agg #[.int .u8 (k : Int), .int .i64 a, .int .i64 b, .int .i64 c]] W fun e w' => e = .returned (.tuple #[.string p, .bool false]) ∧ Upd noBlock W w'))
    (hk1 : ¬ (65 : Int) ≤ (k : Int))
    (hp0 : p = ⟨#[]⟩)
    (HG2 : Hid (∀ W : World, Tab W → Calls Tryd.prog 25 #[.string qs] W fun e w' => e = .returned (.tuple #[.agg #[.int .u8 0, .int .i64 0, .int .i64 0, .int .i64 0], .bool false]) ∧ Upd noBlock W w'))
    (n : Nat) (hn : qs.size = n) (hn2 : n ≤ 9223372036854770000) :
    Calls Tryd.prog 6 #[.int .u8 (k : Int), .agg #[.int .i64 a, .int .i64 b, .int .i64 c], .string qs] w fun e w' => e = .returned (.bool true) ∧ Upd noBlock w w' := by
  subst hp0
  have HU : Hid (Upd noBlock w (w.alloc (.cells #[.int .i64 a, .int .i64 b, .int .i64 c] 52))) := (Upd.refl _ _).alloc _
  have HA := Lib.hid (fun W h => box3 w W (.int .i64 a) (.int .i64 b) (.int .i64 c) 52 h)
  have HSP := Lib.hid (fun W hW => speaks_any W hW)
  go_enter Tryd.func6, Tryd.ntmps6
  go_upto_region 14 with (first
    | (go_at_call 11; (with_reducible refine (HSP.out _ (HT.out _ HU.out)).mono ?_); rintro e w1 ⟨rfl, h⟩; have hA1 := Lib.hid h; have HX := Lib.hid (HU.out.trans h); obtain ⟨y0, y1', y2'⟩ := HA.out _ hA1.out; have ya := fun O => (HA.out _ ((hA1.out).alloc O)).1; have yb := fun O => (HA.out _ ((hA1.out).alloc O)).2.1; have yc := fun O => (HA.out _ ((hA1.out).alloc O)).2.2; clear h)
    | (go_at_call 24; (with_reducible refine (HPL.out _ (HT.out _ (HX.out.alloc _))).mono ?_); rintro e w2 ⟨rfl, h⟩; have hI := Lib.hid h; have hA1 := Lib.hid ((hA1.out.alloc _).trans h); have HX := Lib.hid ((HX.out.alloc _).trans h); obtain ⟨i0, i1, i2, i3⟩ := box4 _ _ _ _ _ _ _ hI.out; obtain ⟨y0, y1', y2'⟩ := HA.out _ hA1.out; have ya := fun O => (HA.out _ ((hA1.out).alloc O)).1; have yb := fun O => (HA.out _ ((hA1.out).alloc O)).2.1; have yc := fun O => (HA.out _ ((hA1.out).alloc O)).2.2; clear h))
  go_wp2_with (first
    | (go_at_call 25; (with_reducible refine (HG2.out _ (HT.out _ HX.out)).mono ?_); rintro e w8 ⟨rfl, h⟩; have HX := Lib.hid ((HX.out.trans h).alloc (.cells #[.int .u8 0, .int .i64 0, .int .i64 0, .int .i64 0] 54)); clear h))
  go_ret
  exact ⟨rfl, HX.out⟩
set_option maxRecDepth 20000 in
set_option maxHeartbeats 3200000 in
theorem nl_1y (w : World) (k : Nat) (a b c : Int) (p qs : ByteArray) (k2 : Nat) (a2 b2 c2 : Int)
    (HT : Hid (∀ W, Upd noBlock w W → Tab W))
    (HPL : Hid (∀ W : World, Tab W → Calls Tryd.prog 24 #[.agg #[.int .u8 (k : Int), .int .i64 a, .int .i64 b, .int .i64 c]] W fun e w' => e = .returned (.tuple #[.string p, .bool false]) ∧ Upd noBlock W w'))
    (hk1 : ¬ (65 : Int) ≤ (k : Int))
    (hp0 : p = ⟨#[]⟩)
    (HG2 : Hid (∀ W : World, Tab W → Calls Tryd.prog 25 #[.string qs] W fun e w' => e = .returned (.tuple #[.agg #[.int .u8 (k2 : Int), .int .i64 a2, .int .i64 b2, .int .i64 c2], .bool true]) ∧ Upd noBlock W w'))
    (n : Nat) (hn : qs.size = n) (hn2 : n ≤ 9223372036854770000)
    (h29 : (29 : Int) ≤ (n : Int)) (t : ByteArray) (hx : qs.extract 0 29 = t)
    (HP2 : Hid (∀ W : World, Tab W → Calls Tryd.prog 24 #[.agg #[.int .u8 (k2 : Int), .int .i64 a2, .int .i64 b2, .int .i64 c2]] W fun e w' => e = .returned (.tuple #[.string t, .bool true]) ∧ Upd noBlock W w')) :
    Calls Tryd.prog 6 #[.int .u8 (k : Int), .agg #[.int .i64 a, .int .i64 b, .int .i64 c], .string qs] w fun e w' => e = .returned (.bool true) ∧ Upd noBlock w w' := by
  subst hp0
  have HU : Hid (Upd noBlock w (w.alloc (.cells #[.int .i64 a, .int .i64 b, .int .i64 c] 52))) := (Upd.refl _ _).alloc _
  have HA := Lib.hid (fun W h => box3 w W (.int .i64 a) (.int .i64 b) (.int .i64 c) 52 h)
  have HSP := Lib.hid (fun W hW => speaks_any W hW)
  go_enter Tryd.func6, Tryd.ntmps6
  go_upto_region 14 with (first
    | (go_at_call 11; (with_reducible refine (HSP.out _ (HT.out _ HU.out)).mono ?_); rintro e w1 ⟨rfl, h⟩; have hA1 := Lib.hid h; have HX := Lib.hid (HU.out.trans h); obtain ⟨y0, y1', y2'⟩ := HA.out _ hA1.out; have ya := fun O => (HA.out _ ((hA1.out).alloc O)).1; have yb := fun O => (HA.out _ ((hA1.out).alloc O)).2.1; have yc := fun O => (HA.out _ ((hA1.out).alloc O)).2.2; clear h)
    | (go_at_call 24; (with_reducible refine (HPL.out _ (HT.out _ (HX.out.alloc _))).mono ?_); rintro e w2 ⟨rfl, h⟩; have hI := Lib.hid h; have hA1 := Lib.hid ((hA1.out.alloc _).trans h); have HX := Lib.hid ((HX.out.alloc _).trans h); obtain ⟨i0, i1, i2, i3⟩ := box4 _ _ _ _ _ _ _ hI.out; obtain ⟨y0, y1', y2'⟩ := HA.out _ hA1.out; have ya := fun O => (HA.out _ ((hA1.out).alloc O)).1; have yb := fun O => (HA.out _ ((hA1.out).alloc O)).2.1; have yc := fun O => (HA.out _ ((hA1.out).alloc O)).2.2; clear h))
  go_wp2_with (first
    | (go_at_call 25; (with_reducible refine (HG2.out _ (HT.out _ HX.out)).mono ?_); rintro e w8 ⟨rfl, h⟩; have HX := Lib.hid ((HX.out.trans h).alloc (.cells #[.int .u8 (k2 : Int), .int .i64 a2, .int .i64 b2, .int .i64 c2] 54)); clear h)
    | (go_at_call 24; (with_reducible refine (HP2.out _ (HT.out _ HX.out)).mono ?_); rintro e w9 ⟨rfl, h⟩; have HX := Lib.hid (HX.out.trans h); clear h))
  go_ret
  exact ⟨rfl, HX.out⟩
set_option maxRecDepth 20000 in
set_option maxHeartbeats 3200000 in
theorem nl_2n (w : World) (k : Nat) (a b c : Int) (p qs : ByteArray)
    (HT : Hid (∀ W, Upd noBlock w W → Tab W))
    (HPL : Hid (∀ W : World, Tab W → Calls Tryd.prog 24 #[.agg #[.int .u8 (k : Int), .int .i64 a, .int .i64 b, .int .i64 c]] W fun e w' => e = .returned (.tuple #[.string p, .bool false]) ∧ Upd noBlock W w'))
    (hk1 : (65 : Int) ≤ (k : Int)) (hk2 : ¬ (k : Int) ≤ 90)
    (hp0 : p = ⟨#[]⟩)
    (HG2 : Hid (∀ W : World, Tab W → Calls Tryd.prog 25 #[.string qs] W fun e w' => e = .returned (.tuple #[.agg #[.int .u8 0, .int .i64 0, .int .i64 0, .int .i64 0], .bool false]) ∧ Upd noBlock W w'))
    (n : Nat) (hn : qs.size = n) (hn2 : n ≤ 9223372036854770000) :
    Calls Tryd.prog 6 #[.int .u8 (k : Int), .agg #[.int .i64 a, .int .i64 b, .int .i64 c], .string qs] w fun e w' => e = .returned (.bool true) ∧ Upd noBlock w w' := by
  subst hp0
  have HU : Hid (Upd noBlock w (w.alloc (.cells #[.int .i64 a, .int .i64 b, .int .i64 c] 52))) := (Upd.refl _ _).alloc _
  have HA := Lib.hid (fun W h => box3 w W (.int .i64 a) (.int .i64 b) (.int .i64 c) 52 h)
  have HSP := Lib.hid (fun W hW => speaks_any W hW)
  go_enter Tryd.func6, Tryd.ntmps6
  go_upto_region 14 with (first
    | (go_at_call 11; (with_reducible refine (HSP.out _ (HT.out _ HU.out)).mono ?_); rintro e w1 ⟨rfl, h⟩; have hA1 := Lib.hid h; have HX := Lib.hid (HU.out.trans h); obtain ⟨y0, y1', y2'⟩ := HA.out _ hA1.out; have ya := fun O => (HA.out _ ((hA1.out).alloc O)).1; have yb := fun O => (HA.out _ ((hA1.out).alloc O)).2.1; have yc := fun O => (HA.out _ ((hA1.out).alloc O)).2.2; clear h)
    | (go_at_call 24; (with_reducible refine (HPL.out _ (HT.out _ (HX.out.alloc _))).mono ?_); rintro e w2 ⟨rfl, h⟩; have hI := Lib.hid h; have hA1 := Lib.hid ((hA1.out.alloc _).trans h); have HX := Lib.hid ((HX.out.alloc _).trans h); obtain ⟨i0, i1, i2, i3⟩ := box4 _ _ _ _ _ _ _ hI.out; obtain ⟨y0, y1', y2'⟩ := HA.out _ hA1.out; have ya := fun O => (HA.out _ ((hA1.out).alloc O)).1; have yb := fun O => (HA.out _ ((hA1.out).alloc O)).2.1; have yc := fun O => (HA.out _ ((hA1.out).alloc O)).2.2; clear h))
  go_wp2_with (first
    | (go_at_call 25; (with_reducible refine (HG2.out _ (HT.out _ HX.out)).mono ?_); rintro e w8 ⟨rfl, h⟩; have HX := Lib.hid ((HX.out.trans h).alloc (.cells #[.int .u8 0, .int .i64 0, .int .i64 0, .int .i64 0] 54)); clear h))
  go_ret
  exact ⟨rfl, HX.out⟩
set_option maxRecDepth 20000 in
set_option maxHeartbeats 3200000 in
theorem nl_2y (w : World) (k : Nat) (a b c : Int) (p qs : ByteArray) (k2 : Nat) (a2 b2 c2 : Int)
    (HT : Hid (∀ W, Upd noBlock w W → Tab W))
    (HPL : Hid (∀ W : World, Tab W → Calls Tryd.prog 24 #[.agg #[.int .u8 (k : Int), .int .i64 a, .int .i64 b, .int .i64 c]] W fun e w' => e = .returned (.tuple #[.string p, .bool false]) ∧ Upd noBlock W w'))
    (hk1 : (65 : Int) ≤ (k : Int)) (hk2 : ¬ (k : Int) ≤ 90)
    (hp0 : p = ⟨#[]⟩)
    (HG2 : Hid (∀ W : World, Tab W → Calls Tryd.prog 25 #[.string qs] W fun e w' => e = .returned (.tuple #[.agg #[.int .u8 (k2 : Int), .int .i64 a2, .int .i64 b2, .int .i64 c2], .bool true]) ∧ Upd noBlock W w'))
    (n : Nat) (hn : qs.size = n) (hn2 : n ≤ 9223372036854770000)
    (h29 : (29 : Int) ≤ (n : Int)) (t : ByteArray) (hx : qs.extract 0 29 = t)
    (HP2 : Hid (∀ W : World, Tab W → Calls Tryd.prog 24 #[.agg #[.int .u8 (k2 : Int), .int .i64 a2, .int .i64 b2, .int .i64 c2]] W fun e w' => e = .returned (.tuple #[.string t, .bool true]) ∧ Upd noBlock W w')) :
    Calls Tryd.prog 6 #[.int .u8 (k : Int), .agg #[.int .i64 a, .int .i64 b, .int .i64 c], .string qs] w fun e w' => e = .returned (.bool true) ∧ Upd noBlock w w' := by
  subst hp0
  have HU : Hid (Upd noBlock w (w.alloc (.cells #[.int .i64 a, .int .i64 b, .int .i64 c] 52))) := (Upd.refl _ _).alloc _
  have HA := Lib.hid (fun W h => box3 w W (.int .i64 a) (.int .i64 b) (.int .i64 c) 52 h)
  have HSP := Lib.hid (fun W hW => speaks_any W hW)
  go_enter Tryd.func6, Tryd.ntmps6
  go_upto_region 14 with (first
    | (go_at_call 11; (with_reducible refine (HSP.out _ (HT.out _ HU.out)).mono ?_); rintro e w1 ⟨rfl, h⟩; have hA1 := Lib.hid h; have HX := Lib.hid (HU.out.trans h); obtain ⟨y0, y1', y2'⟩ := HA.out _ hA1.out; have ya := fun O => (HA.out _ ((hA1.out).alloc O)).1; have yb := fun O => (HA.out _ ((hA1.out).alloc O)).2.1; have yc := fun O => (HA.out _ ((hA1.out).alloc O)).2.2; clear h)
    | (go_at_call 24; (with_reducible refine (HPL.out _ (HT.out _ (HX.out.alloc _))).mono ?_); rintro e w2 ⟨rfl, h⟩; have hI := Lib.hid h; have hA1 := Lib.hid ((hA1.out.alloc _).trans h); have HX := Lib.hid ((HX.out.alloc _).trans h); obtain ⟨i0, i1, i2, i3⟩ := box4 _ _ _ _ _ _ _ hI.out; obtain ⟨y0, y1', y2'⟩ := HA.out _ hA1.out; have ya := fun O => (HA.out _ ((hA1.out).alloc O)).1; have yb := fun O => (HA.out _ ((hA1.out).alloc O)).2.1; have yc := fun O => (HA.out _ ((hA1.out).alloc O)).2.2; clear h))
  go_wp2_with (first
    | (go_at_call 25; (with_reducible refine (HG2.out _ (HT.out _ HX.out)).mono ?_); rintro e w8 ⟨rfl, h⟩; have HX := Lib.hid ((HX.out.trans h).alloc (.cells #[.int .u8 (k2 : Int), .int .i64 a2, .int .i64 b2, .int .i64 c2] 54)); clear h)
    | (go_at_call 24; (with_reducible refine (HP2.out _ (HT.out _ HX.out)).mono ?_); rintro e w9 ⟨rfl, h⟩; have HX := Lib.hid (HX.out.trans h); clear h))
  go_ret
  exact ⟨rfl, HX.out⟩
set_option maxRecDepth 20000 in
set_option maxHeartbeats 3200000 in
theorem nl_3n (w : World) (k : Nat) (a b c : Int) (p qs : ByteArray)
    (HT : Hid (∀ W, Upd noBlock w W → Tab W))
    (HPL : Hid (∀ W : World, Tab W → Calls Tryd.prog 24 #[.agg #[.int .u8 (k : Int), .int .i64 a, .int .i64 b, .int .i64 c]] W fun e w' => e = .returned (.tuple #[.string p, .bool false]) ∧ Upd noBlock W w'))
    (HFA : Hid (∀ W : World, Calls Tryd.prog 19 #[.int .i64 a] W fun e w' => e = .returned (.bool false) ∧ w' = W))
    (hk1 : (65 : Int) ≤ (k : Int)) (hk2 : (k : Int) ≤ 90)
    (hp0 : p = ⟨#[]⟩)
    (HG2 : Hid (∀ W : World, Tab W → Calls Tryd.prog 25 #[.string qs] W fun e w' => e = .returned (.tuple #[.agg #[.int .u8 0, .int .i64 0, .int .i64 0, .int .i64 0], .bool false]) ∧ Upd noBlock W w'))
    (n : Nat) (hn : qs.size = n) (hn2 : n ≤ 9223372036854770000) :
    Calls Tryd.prog 6 #[.int .u8 (k : Int), .agg #[.int .i64 a, .int .i64 b, .int .i64 c], .string qs] w fun e w' => e = .returned (.bool true) ∧ Upd noBlock w w' := by
  subst hp0
  have HU : Hid (Upd noBlock w (w.alloc (.cells #[.int .i64 a, .int .i64 b, .int .i64 c] 52))) := (Upd.refl _ _).alloc _
  have HA := Lib.hid (fun W h => box3 w W (.int .i64 a) (.int .i64 b) (.int .i64 c) 52 h)
  have HSP := Lib.hid (fun W hW => speaks_any W hW)
  go_enter Tryd.func6, Tryd.ntmps6
  go_upto_region 14 with (first
    | (go_at_call 11; (with_reducible refine (HSP.out _ (HT.out _ HU.out)).mono ?_); rintro e w1 ⟨rfl, h⟩; have hA1 := Lib.hid h; have HX := Lib.hid (HU.out.trans h); obtain ⟨y0, y1', y2'⟩ := HA.out _ hA1.out; have ya := fun O => (HA.out _ ((hA1.out).alloc O)).1; have yb := fun O => (HA.out _ ((hA1.out).alloc O)).2.1; have yc := fun O => (HA.out _ ((hA1.out).alloc O)).2.2; clear h)
    | (go_at_call 24; (with_reducible refine (HPL.out _ (HT.out _ (HX.out.alloc _))).mono ?_); rintro e w2 ⟨rfl, h⟩; have hI := Lib.hid h; have hA1 := Lib.hid ((hA1.out.alloc _).trans h); have HX := Lib.hid ((HX.out.alloc _).trans h); obtain ⟨i0, i1, i2, i3⟩ := box4 _ _ _ _ _ _ _ hI.out; obtain ⟨y0, y1', y2'⟩ := HA.out _ hA1.out; have ya := fun O => (HA.out _ ((hA1.out).alloc O)).1; have yb := fun O => (HA.out _ ((hA1.out).alloc O)).2.1; have yc := fun O => (HA.out _ ((hA1.out).alloc O)).2.2; clear h)
    | (go_at_call 19; (with_reducible refine (HFA.out _).mono ?_); rintro e w4 ⟨rfl, rfl⟩))
  go_wp2_with (first
    | (go_at_call 25; (with_reducible refine (HG2.out _ (HT.out _ HX.out)).mono ?_); rintro e w8 ⟨rfl, h⟩; have HX := Lib.hid ((HX.out.trans h).alloc (.cells #[.int .u8 0, .int .i64 0, .int .i64 0, .int .i64 0] 54)); clear h))
  go_ret
  exact ⟨rfl, HX.out⟩
set_option maxRecDepth 20000 in
set_option maxHeartbeats 3200000 in
theorem nl_3y (w : World) (k : Nat) (a b c : Int) (p qs : ByteArray) (k2 : Nat) (a2 b2 c2 : Int)
    (HT : Hid (∀ W, Upd noBlock w W → Tab W))
    (HPL : Hid (∀ W : World, Tab W → Calls Tryd.prog 24 #[.agg #[.int .u8 (k : Int), .int .i64 a, .int .i64 b, .int .i64 c]] W fun e w' => e = .returned (.tuple #[.string p, .bool false]) ∧ Upd noBlock W w'))
    (HFA : Hid (∀ W : World, Calls Tryd.prog 19 #[.int .i64 a] W fun e w' => e = .returned (.bool false) ∧ w' = W))
    (hk1 : (65 : Int) ≤ (k : Int)) (hk2 : (k : Int) ≤ 90)
    (hp0 : p = ⟨#[]⟩)
    (HG2 : Hid (∀ W : World, Tab W → Calls Tryd.prog 25 #[.string qs] W fun e w' => e = .returned (.tuple #[.agg #[.int .u8 (k2 : Int), .int .i64 a2, .int .i64 b2, .int .i64 c2], .bool true]) ∧ Upd noBlock W w'))
    (n : Nat) (hn : qs.size = n) (hn2 : n ≤ 9223372036854770000)
    (h29 : (29 : Int) ≤ (n : Int)) (t : ByteArray) (hx : qs.extract 0 29 = t)
    (HP2 : Hid (∀ W : World, Tab W → Calls Tryd.prog 24 #[.agg #[.int .u8 (k2 : Int), .int .i64 a2, .int .i64 b2, .int .i64 c2]] W fun e w' => e = .returned (.tuple #[.string t, .bool true]) ∧ Upd noBlock W w')) :
    Calls Tryd.prog 6 #[.int .u8 (k : Int), .agg #[.int .i64 a, .int .i64 b, .int .i64 c], .string qs] w fun e w' => e = .returned (.bool true) ∧ Upd noBlock w w' := by
  subst hp0
  have HU : Hid (Upd noBlock w (w.alloc (.cells #[.int .i64 a, .int .i64 b, .int .i64 c] 52))) := (Upd.refl _ _).alloc _
  have HA := Lib.hid (fun W h => box3 w W (.int .i64 a) (.int .i64 b) (.int .i64 c) 52 h)
  have HSP := Lib.hid (fun W hW => speaks_any W hW)
  go_enter Tryd.func6, Tryd.ntmps6
  go_upto_region 14 with (first
    | (go_at_call 11; (with_reducible refine (HSP.out _ (HT.out _ HU.out)).mono ?_); rintro e w1 ⟨rfl, h⟩; have hA1 := Lib.hid h; have HX := Lib.hid (HU.out.trans h); obtain ⟨y0, y1', y2'⟩ := HA.out _ hA1.out; have ya := fun O => (HA.out _ ((hA1.out).alloc O)).1; have yb := fun O => (HA.out _ ((hA1.out).alloc O)).2.1; have yc := fun O => (HA.out _ ((hA1.out).alloc O)).2.2; clear h)
    | (go_at_call 24; (with_reducible refine (HPL.out _ (HT.out _ (HX.out.alloc _))).mono ?_); rintro e w2 ⟨rfl, h⟩; have hI := Lib.hid h; have hA1 := Lib.hid ((hA1.out.alloc _).trans h); have HX := Lib.hid ((HX.out.alloc _).trans h); obtain ⟨i0, i1, i2, i3⟩ := box4 _ _ _ _ _ _ _ hI.out; obtain ⟨y0, y1', y2'⟩ := HA.out _ hA1.out; have ya := fun O => (HA.out _ ((hA1.out).alloc O)).1; have yb := fun O => (HA.out _ ((hA1.out).alloc O)).2.1; have yc := fun O => (HA.out _ ((hA1.out).alloc O)).2.2; clear h)
    | (go_at_call 19; (with_reducible refine (HFA.out _).mono ?_); rintro e w4 ⟨rfl, rfl⟩))
  go_wp2_with (first
    | (go_at_call 25; (with_reducible refine (HG2.out _ (HT.out _ HX.out)).mono ?_); rintro e w8 ⟨rfl, h⟩; have HX := Lib.hid ((HX.out.trans h).alloc (.cells #[.int .u8 (k2 : Int), .int .i64 a2, .int .i64 b2, .int .i64 c2] 54)); clear h)
    | (go_at_call 24; (with_reducible refine (HP2.out _ (HT.out _ HX.out)).mono ?_); rintro e w9 ⟨rfl, h⟩; have HX := Lib.hid (HX.out.trans h); clear h))
  go_ret
  exact ⟨rfl, HX.out⟩
set_option maxRecDepth 20000 in
set_option maxHeartbeats 3200000 in
theorem nl_4n (w : World) (k : Nat) (a b c : Int) (p qs : ByteArray)
    (HT : Hid (∀ W, Upd noBlock w W → Tab W))
    (HPL : Hid (∀ W : World, Tab W → Calls Tryd.prog 24 #[.agg #[.int .u8 (k : Int), .int .i64 a, .int .i64 b, .int .i64 c]] W fun e w' => e = .returned (.tuple #[.string p, .bool false]) ∧ Upd noBlock W w'))
    (HFA : Hid (∀ W : World, Calls Tryd.prog 19 #[.int .i64 a] W fun e w' => e = .returned (.bool true) ∧ w' = W))
    (HFB : Hid (∀ W : World, Calls Tryd.prog 19 #[.int .i64 b] W fun e w' => e = .returned (.bool false) ∧ w' = W))
    (hk1 : (65 : Int) ≤ (k : Int)) (hk2 : (k : Int) ≤ 90)
    (hp0 : p = ⟨#[]⟩)
    (HG2 : Hid (∀ W : World, Tab W → Calls Tryd.prog 25 #[.string qs] W fun e w' => e = .returned (.tuple #[.agg #[.int .u8 0, .int .i64 0, .int .i64 0, .int .i64 0], .bool false]) ∧ Upd noBlock W w'))
    (n : Nat) (hn : qs.size = n) (hn2 : n ≤ 9223372036854770000) :
    Calls Tryd.prog 6 #[.int .u8 (k : Int), .agg #[.int .i64 a, .int .i64 b, .int .i64 c], .string qs] w fun e w' => e = .returned (.bool true) ∧ Upd noBlock w w' := by
  subst hp0
  have HU : Hid (Upd noBlock w (w.alloc (.cells #[.int .i64 a, .int .i64 b, .int .i64 c] 52))) := (Upd.refl _ _).alloc _
  have HA := Lib.hid (fun W h => box3 w W (.int .i64 a) (.int .i64 b) (.int .i64 c) 52 h)
  have HSP := Lib.hid (fun W hW => speaks_any W hW)
  go_enter Tryd.func6, Tryd.ntmps6
  go_upto_region 14 with (first
    | (go_at_call 11; (with_reducible refine (HSP.out _ (HT.out _ HU.out)).mono ?_); rintro e w1 ⟨rfl, h⟩; have hA1 := Lib.hid h; have HX := Lib.hid (HU.out.trans h); obtain ⟨y0, y1', y2'⟩ := HA.out _ hA1.out; have ya := fun O => (HA.out _ ((hA1.out).alloc O)).1; have yb := fun O => (HA.out _ ((hA1.out).alloc O)).2.1; have yc := fun O => (HA.out _ ((hA1.out).alloc O)).2.2; clear h)
    | (go_at_call 24; (with_reducible refine (HPL.out _ (HT.out _ (HX.out.alloc _))).mono ?_); rintro e w2 ⟨rfl, h⟩; have hI := Lib.hid h; have hA1 := Lib.hid ((hA1.out.alloc _).trans h); have HX := Lib.hid ((HX.out.alloc _).trans h); obtain ⟨i0, i1, i2, i3⟩ := box4 _ _ _ _ _ _ _ hI.out; obtain ⟨y0, y1', y2'⟩ := HA.out _ hA1.out; have ya := fun O => (HA.out _ ((hA1.out).alloc O)).1; have yb := fun O => (HA.out _ ((hA1.out).alloc O)).2.1; have yc := fun O => (HA.out _ ((hA1.out).alloc O)).2.2; clear h)
    | (go_at_call 19; (with_reducible refine (HFA.out _).mono ?_); rintro e w4 ⟨rfl, rfl⟩)
    | (go_at_call 19; (with_reducible refine (HFB.out _).mono ?_); rintro e w4 ⟨rfl, rfl⟩))
  go_wp2_with (first
    | (go_at_call 25; (with_reducible refine (HG2.out _ (HT.out _ HX.out)).mono ?_); rintro e w8 ⟨rfl, h⟩; have HX := Lib.hid ((HX.out.trans h).alloc (.cells #[.int .u8 0, .int .i64 0, .int .i64 0, .int .i64 0] 54)); clear h))
  go_ret
  exact ⟨rfl, HX.out⟩
set_option maxRecDepth 20000 in
set_option maxHeartbeats 3200000 in
theorem nl_4y (w : World) (k : Nat) (a b c : Int) (p qs : ByteArray) (k2 : Nat) (a2 b2 c2 : Int)
    (HT : Hid (∀ W, Upd noBlock w W → Tab W))
    (HPL : Hid (∀ W : World, Tab W → Calls Tryd.prog 24 #[.agg #[.int .u8 (k : Int), .int .i64 a, .int .i64 b, .int .i64 c]] W fun e w' => e = .returned (.tuple #[.string p, .bool false]) ∧ Upd noBlock W w'))
    (HFA : Hid (∀ W : World, Calls Tryd.prog 19 #[.int .i64 a] W fun e w' => e = .returned (.bool true) ∧ w' = W))
    (HFB : Hid (∀ W : World, Calls Tryd.prog 19 #[.int .i64 b] W fun e w' => e = .returned (.bool false) ∧ w' = W))
    (hk1 : (65 : Int) ≤ (k : Int)) (hk2 : (k : Int) ≤ 90)
    (hp0 : p = ⟨#[]⟩)
    (HG2 : Hid (∀ W : World, Tab W → Calls Tryd.prog 25 #[.string qs] W fun e w' => e = .returned (.tuple #[.agg #[.int .u8 (k2 : Int), .int .i64 a2, .int .i64 b2, .int .i64 c2], .bool true]) ∧ Upd noBlock W w'))
    (n : Nat) (hn : qs.size = n) (hn2 : n ≤ 9223372036854770000)
    (h29 : (29 : Int) ≤ (n : Int)) (t : ByteArray) (hx : qs.extract 0 29 = t)
    (HP2 : Hid (∀ W : World, Tab W → Calls Tryd.prog 24 #[.agg #[.int .u8 (k2 : Int), .int .i64 a2, .int .i64 b2, .int .i64 c2]] W fun e w' => e = .returned (.tuple #[.string t, .bool true]) ∧ Upd noBlock W w')) :
    Calls Tryd.prog 6 #[.int .u8 (k : Int), .agg #[.int .i64 a, .int .i64 b, .int .i64 c], .string qs] w fun e w' => e = .returned (.bool true) ∧ Upd noBlock w w' := by
  subst hp0
  have HU : Hid (Upd noBlock w (w.alloc (.cells #[.int .i64 a, .int .i64 b, .int .i64 c] 52))) := (Upd.refl _ _).alloc _
  have HA := Lib.hid (fun W h => box3 w W (.int .i64 a) (.int .i64 b) (.int .i64 c) 52 h)
  have HSP := Lib.hid (fun W hW => speaks_any W hW)
  go_enter Tryd.func6, Tryd.ntmps6
  go_upto_region 14 with (first
    | (go_at_call 11; (with_reducible refine (HSP.out _ (HT.out _ HU.out)).mono ?_); rintro e w1 ⟨rfl, h⟩; have hA1 := Lib.hid h; have HX := Lib.hid (HU.out.trans h); obtain ⟨y0, y1', y2'⟩ := HA.out _ hA1.out; have ya := fun O => (HA.out _ ((hA1.out).alloc O)).1; have yb := fun O => (HA.out _ ((hA1.out).alloc O)).2.1; have yc := fun O => (HA.out _ ((hA1.out).alloc O)).2.2; clear h)
    | (go_at_call 24; (with_reducible refine (HPL.out _ (HT.out _ (HX.out.alloc _))).mono ?_); rintro e w2 ⟨rfl, h⟩; have hI := Lib.hid h; have hA1 := Lib.hid ((hA1.out.alloc _).trans h); have HX := Lib.hid ((HX.out.alloc _).trans h); obtain ⟨i0, i1, i2, i3⟩ := box4 _ _ _ _ _ _ _ hI.out; obtain ⟨y0, y1', y2'⟩ := HA.out _ hA1.out; have ya := fun O => (HA.out _ ((hA1.out).alloc O)).1; have yb := fun O => (HA.out _ ((hA1.out).alloc O)).2.1; have yc := fun O => (HA.out _ ((hA1.out).alloc O)).2.2; clear h)
    | (go_at_call 19; (with_reducible refine (HFA.out _).mono ?_); rintro e w4 ⟨rfl, rfl⟩)
    | (go_at_call 19; (with_reducible refine (HFB.out _).mono ?_); rintro e w4 ⟨rfl, rfl⟩))
  go_wp2_with (first
    | (go_at_call 25; (with_reducible refine (HG2.out _ (HT.out _ HX.out)).mono ?_); rintro e w8 ⟨rfl, h⟩; have HX := Lib.hid ((HX.out.trans h).alloc (.cells #[.int .u8 (k2 : Int), .int .i64 a2, .int .i64 b2, .int .i64 c2] 54)); clear h)
    | (go_at_call 24; (with_reducible refine (HP2.out _ (HT.out _ HX.out)).mono ?_); rintro e w9 ⟨rfl, h⟩; have HX := Lib.hid (HX.out.trans h); clear h))
  go_ret
  exact ⟨rfl, HX.out⟩
set_option maxRecDepth 20000 in
set_option maxHeartbeats 3200000 in
theorem nl_5n (w : World) (k : Nat) (a b c : Int) (p qs : ByteArray)
    (HT : Hid (∀ W, Upd noBlock w W → Tab W))
    (HPL : Hid (∀ W : World, Tab W → Calls Tryd.prog 24 #[.agg #[.int .u8 (k : Int), .int .i64 a, .int .i64 b, .int .i64 c]] W fun e w' => e = .returned (.tuple #[.string p, .bool false]) ∧ Upd noBlock W w'))
    (HFA : Hid (∀ W : World, Calls Tryd.prog 19 #[.int .i64 a] W fun e w' => e = .returned (.bool true) ∧ w' = W))
    (HFB : Hid (∀ W : World, Calls Tryd.prog 19 #[.int .i64 b] W fun e w' => e = .returned (.bool true) ∧ w' = W))
    (HFC : Hid (∀ W : World, Calls Tryd.prog 19 #[.int .i64 c] W fun e w' => e = .returned (.bool false) ∧ w' = W))
    (hk1 : (65 : Int) ≤ (k : Int)) (hk2 : (k : Int) ≤ 90)
    (hp0 : p = ⟨#[]⟩)
    (HG2 : Hid (∀ W : World, Tab W → Calls Tryd.prog 25 #[.string qs] W fun e w' => e = .returned (.tuple #[.agg #[.int .u8 0, .int .i64 0, .int .i64 0, .int .i64 0], .bool false]) ∧ Upd noBlock W w'))
    (n : Nat) (hn : qs.size = n) (hn2 : n ≤ 9223372036854770000) :
    Calls Tryd.prog 6 #[.int .u8 (k : Int), .agg #[.int .i64 a, .int .i64 b, .int .i64 c], .string qs] w fun e w' => e = .returned (.bool true) ∧ Upd noBlock w w' := by
  subst hp0
  have HU : Hid (Upd noBlock w (w.alloc (.cells #[.int .i64 a, .int .i64 b, .int .i64 c] 52))) := (Upd.refl _ _).alloc _
  have HA := Lib.hid (fun W h => box3 w W (.int .i64 a) (.int .i64 b) (.int .i64 c) 52 h)
  have HSP := Lib.hid (fun W hW => speaks_any W hW)
  go_enter Tryd.func6, Tryd.ntmps6
  go_upto_region 14 with (first
    | (go_at_call 11; (with_reducible refine (HSP.out _ (HT.out _ HU.out)).mono ?_); rintro e w1 ⟨rfl, h⟩; have hA1 := Lib.hid h; have HX := Lib.hid (HU.out.trans h); obtain ⟨y0, y1', y2'⟩ := HA.out _ hA1.out; have ya := fun O => (HA.out _ ((hA1.out).alloc O)).1; have yb := fun O => (HA.out _ ((hA1.out).alloc O)).2.1; have yc := fun O => (HA.out _ ((hA1.out).alloc O)).2.2; clear h)
    | (go_at_call 24; (with_reducible refine (HPL.out _ (HT.out _ (HX.out.alloc _))).mono ?_); rintro e w2 ⟨rfl, h⟩; have hI := Lib.hid h; have hA1 := Lib.hid ((hA1.out.alloc _).trans h); have HX := Lib.hid ((HX.out.alloc _).trans h); obtain ⟨i0, i1, i2, i3⟩ := box4 _ _ _ _ _ _ _ hI.out; obtain ⟨y0, y1', y2'⟩ := HA.out _ hA1.out; have ya := fun O => (HA.out _ ((hA1.out).alloc O)).1; have yb := fun O => (HA.out _ ((hA1.out).alloc O)).2.1; have yc := fun O => (HA.out _ ((hA1.out).alloc O)).2.2; clear h)
    | (go_at_call 19; (with_reducible refine (HFA.out _).mono ?_); rintro e w4 ⟨rfl, rfl⟩)
    | (go_at_call 19; (with_reducible refine (HFB.out _).mono ?_); rintro e w4 ⟨rfl, rfl⟩)
    | (go_at_call 19; (with_reducible refine (HFC.out _).mono ?_); rintro e w4 ⟨rfl, rfl⟩))
  go_wp2_with (first
    | (go_at_call 25; (with_reducible refine (HG2.out _ (HT.out _ HX.out)).mono ?_); rintro e w8 ⟨rfl, h⟩; have HX := Lib.hid ((HX.out.trans h).alloc (.cells #[.int .u8 0, .int .i64 0, .int .i64 0, .int .i64 0] 54)); clear h))
  go_ret
  exact ⟨rfl, HX.out⟩
set_option maxRecDepth 20000 in
set_option maxHeartbeats 3200000 in
theorem nl_5y (w : World) (k : Nat) (a b c : Int) (p qs : ByteArray) (k2 : Nat) (a2 b2 c2 : Int)
    (HT : Hid (∀ W, Upd noBlock w W → Tab W))
    (HPL : Hid (∀ W : World, Tab W → Calls Tryd.prog 24 #[.agg #[.int .u8 (k : Int), .int .i64 a, .int .i64 b, .int .i64 c]] W fun e w' => e = .returned (.tuple #[.string p, .bool false]) ∧ Upd noBlock W w'))
    (HFA : Hid (∀ W : World, Calls Tryd.prog 19 #[.int .i64 a] W fun e w' => e = .returned (.bool true) ∧ w' = W))
    (HFB : Hid (∀ W : World, Calls Tryd.prog 19 #[.int .i64 b] W fun e w' => e = .returned (.bool true) ∧ w' = W))
    (HFC : Hid (∀ W : World, Calls Tryd.prog 19 #[.int .i64 c] W fun e w' => e = .returned (.bool false) ∧ w' = W))
    (hk1 : (65 : Int) ≤ (k : Int)) (hk2 : (k : Int) ≤ 90)
    (hp0 : p = ⟨#[]⟩)
    (HG2 : Hid (∀ W : World, Tab W → Calls Tryd.prog 25 #[.string qs] W fun e w' => e = .returned (.tuple #[.agg #[.int .u8 (k2 : Int), .int .i64 a2, .int .i64 b2, .int .i64 c2], .bool true]) ∧ Upd noBlock W w'))
    (n : Nat) (hn : qs.size = n) (hn2 : n ≤ 9223372036854770000)
    (h29 : (29 : Int) ≤ (n : Int)) (t : ByteArray) (hx : qs.extract 0 29 = t)
    (HP2 : Hid (∀ W : World, Tab W → Calls Tryd.prog 24 #[.agg #[.int .u8 (k2 : Int), .int .i64 a2, .int .i64 b2, .int .i64 c2]] W fun e w' => e = .returned (.tuple #[.string t, .bool true]) ∧ Upd noBlock W w')) :
    Calls Tryd.prog 6 #[.int .u8 (k : Int), .agg #[.int .i64 a, .int .i64 b, .int .i64 c], .string qs] w fun e w' => e = .returned (.bool true) ∧ Upd noBlock w w' := by
  subst hp0
  have HU : Hid (Upd noBlock w (w.alloc (.cells #[.int .i64 a, .int .i64 b, .int .i64 c] 52))) := (Upd.refl _ _).alloc _
  have HA := Lib.hid (fun W h => box3 w W (.int .i64 a) (.int .i64 b) (.int .i64 c) 52 h)
  have HSP := Lib.hid (fun W hW => speaks_any W hW)
  go_enter Tryd.func6, Tryd.ntmps6
  go_upto_region 14 with (first
    | (go_at_call 11; (with_reducible refine (HSP.out _ (HT.out _ HU.out)).mono ?_); rintro e w1 ⟨rfl, h⟩; have hA1 := Lib.hid h; have HX := Lib.hid (HU.out.trans h); obtain ⟨y0, y1', y2'⟩ := HA.out _ hA1.out; have ya := fun O => (HA.out _ ((hA1.out).alloc O)).1; have yb := fun O => (HA.out _ ((hA1.out).alloc O)).2.1; have yc := fun O => (HA.out _ ((hA1.out).alloc O)).2.2; clear h)
    | (go_at_call 24; (with_reducible refine (HPL.out _ (HT.out _ (HX.out.alloc _))).mono ?_); rintro e w2 ⟨rfl, h⟩; have hI := Lib.hid h; have hA1 := Lib.hid ((hA1.out.alloc _).trans h); have HX := Lib.hid ((HX.out.alloc _).trans h); obtain ⟨i0, i1, i2, i3⟩ := box4 _ _ _ _ _ _ _ hI.out; obtain ⟨y0, y1', y2'⟩ := HA.out _ hA1.out; have ya := fun O => (HA.out _ ((hA1.out).alloc O)).1; have yb := fun O => (HA.out _ ((hA1.out).alloc O)).2.1; have yc := fun O => (HA.out _ ((hA1.out).alloc O)).2.2; clear h)
    | (go_at_call 19; (with_reducible refine (HFA.out _).mono ?_); rintro e w4 ⟨rfl, rfl⟩)
    | (go_at_call 19; (with_reducible refine (HFB.out _).mono ?_); rintro e w4 ⟨rfl, rfl⟩)
    | (go_at_call 19; (with_reducible refine (HFC.out _).mono ?_); rintro e w4 ⟨rfl, rfl⟩))
  go_wp2_with (first
    | (go_at_call 25; (with_reducible refine (HG2.out _ (HT.out _ HX.out)).mono ?_); rintro e w8 ⟨rfl, h⟩; have HX := Lib.hid ((HX.out.trans h).alloc (.cells #[.int .u8 (k2 : Int), .int .i64 a2, .int .i64 b2, .int .i64 c2] 54)); clear h)
    | (go_at_call 24; (with_reducible refine (HP2.out _ (HT.out _ HX.out)).mono ?_); rintro e w9 ⟨rfl, h⟩; have HX := Lib.hid (HX.out.trans h); clear h))
  go_ret
  exact ⟨rfl, HX.out⟩
end Go.Proofs.YthlheamnfjjamaaDoor
