/- NodeLabels: the walks (a label). -/
import Derived.Test.YthlheamnfjjamaaDoorWk
import Derived.Deep.RegionHeld
namespace Go.Proofs.YthlheamnfjjamaaDoor
open Go.RowKit Cm
attribute [local irreducible] beZ valN Cm.shs Cm.nxt Cm.reg Cm.ext
attribute [local go_sem ↓] Go.wp_at_zero Go.wp_at_succ
set_option linter.unusedVariables false

set_option maxRecDepth 20000 in
set_option maxHeartbeats 3200000 in
theorem nl_gn (w : World) (k : Nat) (a b c : Int) (p qs : ByteArray) (ps p1 pa pb pc q1 q2 q3 : ByteArray)
    (HT : Hid (∀ W, Upd noBlock w W → Tab W))
    (HPL : Hid (∀ W : World, Tab W → Calls Tryd.prog 24 #[.agg #[.int .u8 (k : Int), .int .i64 a, .int .i64 b, .int .i64 c]] W fun e w' => e = .returned (.tuple #[.string p, .bool true]) ∧ Upd noBlock W w'))
    (HFA : Hid (∀ W : World, Calls Tryd.prog 19 #[.int .i64 a] W fun e w' => e = .returned (.bool true) ∧ w' = W))
    (HFB : Hid (∀ W : World, Calls Tryd.prog 19 #[.int .i64 b] W fun e w' => e = .returned (.bool true) ∧ w' = W))
    (HFC : Hid (∀ W : World, Calls Tryd.prog 19 #[.int .i64 c] W fun e w' => e = .returned (.bool true) ∧ w' = W))
    (hk1 : (65 : Int) ≤ (k : Int)) (hk2 : (k : Int) ≤ 90)
    (zps : p.size ≤ 100) (hps : p ++ qs = ps)
    (HGL : Hid (∀ W : World, Tab W → Calls Tryd.prog 25 #[.string ps] W fun e w' => e = .returned (.tuple #[.agg #[.int .u8 (k : Int), .int .i64 a, .int .i64 b, .int .i64 c], .bool true]) ∧ Upd noBlock W w'))
    (HBA : Hid (∀ W : World, Calls Tryd.prog 22 #[.int .i64 a, .int .i64 8] W fun e w' => e = .returned (.string pa) ∧ Upd noBlock W w'))
    (HBB : Hid (∀ W : World, Calls Tryd.prog 22 #[.int .i64 b, .int .i64 8] W fun e w' => e = .returned (.string pb) ∧ Upd noBlock W w'))
    (HBC : Hid (∀ W : World, Calls Tryd.prog 22 #[.int .i64 c, .int .i64 8] W fun e w' => e = .returned (.string pc) ∧ Upd noBlock W w'))
    (HSE : Hid (∀ W : World, Calls Tryd.prog 26 #[.string q3] W fun e w' => e = .returned (.string p) ∧ Upd noBlock W w'))
    (e1 : p1 ++ pa = q1) (e2 : q1 ++ pb = q2) (e3 : q2 ++ pc = q3) (z1 : p1.size = 1) (za : pa.size = 8) (zb : pb.size = 8) (zc : pc.size = 8) (y1 : q1.size = 9) (y2 : q2.size = 17)
    (HCELL : Hid (∀ (h : Nat) (W : World), W.heap[h]? = some (.cells #[.int .u8 (k : Int)] 5 (0, 0)) → (convert 59 9 (.slice (some ⟨h, 0, none⟩) 1 1)).run Tryd.prog W = .ok (.string p1) W))
    (HG2 : Hid (∀ W : World, Tab W → Calls Tryd.prog 25 #[.string qs] W fun e w' => e = .returned (.tuple #[.agg #[.int .u8 0, .int .i64 0, .int .i64 0, .int .i64 0], .bool false]) ∧ Upd noBlock W w'))
    (n : Nat) (hn : qs.size = n) (hn2 : n ≤ 9223372036854770000) :
    Calls Tryd.prog 6 #[.int .u8 (k : Int), .agg #[.int .i64 a, .int .i64 b, .int .i64 c], .string qs] w fun e w' => e = .returned (.bool true) ∧ Upd noBlock w w' := by
  have HU : Hid (Upd noBlock w (w.alloc (.cells #[.int .i64 a, .int .i64 b, .int .i64 c] 52))) := (Upd.refl _ _).alloc _
  have HA := Lib.hid (fun W h => box3 w W (.int .i64 a) (.int .i64 b) (.int .i64 c) 52 h)
  have HSP := Lib.hid (fun W hW => speaks_any W hW)
  have hcat : ¬ 9223372036854775807 < p.size + n := by omega
  go_enter Tryd.func6, Tryd.ntmps6
  go_upto_region 10 with (first
    | (go_at_call 11; (with_reducible refine (HSP.out _ (HT.out _ HU.out)).mono ?_); rintro e w1 ⟨rfl, h⟩; have hA1 := Lib.hid h; have HX := Lib.hid (HU.out.trans h); obtain ⟨y0, y1', y2'⟩ := HA.out _ hA1.out; have ya := fun O => (HA.out _ ((hA1.out).alloc O)).1; have yb := fun O => (HA.out _ ((hA1.out).alloc O)).2.1; have yc := fun O => (HA.out _ ((hA1.out).alloc O)).2.2; clear h)
    | (go_at_call 24; (with_reducible refine (HPL.out _ (HT.out _ (HX.out.alloc _))).mono ?_); rintro e w2 ⟨rfl, h⟩; have hI := Lib.hid h; have hA1 := Lib.hid ((hA1.out.alloc _).trans h); have HX := Lib.hid ((HX.out.alloc _).trans h); obtain ⟨i0, i1, i2, i3⟩ := box4 _ _ _ _ _ _ _ hI.out; obtain ⟨y0, y1', y2'⟩ := HA.out _ hA1.out; have ya := fun O => (HA.out _ ((hA1.out).alloc O)).1; have yb := fun O => (HA.out _ ((hA1.out).alloc O)).2.1; have yc := fun O => (HA.out _ ((hA1.out).alloc O)).2.2; clear h)
    | (go_at_call 19; (with_reducible refine (HFA.out _).mono ?_); rintro e w4 ⟨rfl, rfl⟩)
    | (go_at_call 19; (with_reducible refine (HFB.out _).mono ?_); rintro e w4 ⟨rfl, rfl⟩)
    | (go_at_call 19; (with_reducible refine (HFC.out _).mono ?_); rintro e w4 ⟨rfl, rfl⟩)
    | (go_at_call 25; (with_reducible refine (HGL.out _ (HT.out _ HX.out)).mono ?_); rintro e w5 ⟨rfl, h⟩; have hG := Lib.hid ((Upd.refl noBlock (w5.alloc (.cells #[.int .u8 (k : Int), .int .i64 a, .int .i64 b, .int .i64 c] 54)))); have hI := Lib.hid ((hI.out.trans h).alloc (.cells #[.int .u8 (k : Int), .int .i64 a, .int .i64 b, .int .i64 c] 54)); have hA1 := Lib.hid ((hA1.out.trans h).alloc (.cells #[.int .u8 (k : Int), .int .i64 a, .int .i64 b, .int .i64 c] 54)); have HX := Lib.hid ((HX.out.trans h).alloc (.cells #[.int .u8 (k : Int), .int .i64 a, .int .i64 b, .int .i64 c] 54)); obtain ⟨i0, i1, i2, i3⟩ := box4 _ _ _ _ _ _ _ hI.out; obtain ⟨j0, j1, j2, j3⟩ := box4 _ _ _ _ _ _ _ hG.out; obtain ⟨y0, y1', y2'⟩ := HA.out _ hA1.out; have ya := fun O => (HA.out _ ((hA1.out).alloc O)).1; have yb := fun O => (HA.out _ ((hA1.out).alloc O)).2.1; have yc := fun O => (HA.out _ ((hA1.out).alloc O)).2.2; clear h))
  generalize hwb : w5.alloc (.cells #[.int .u8 (k : Int), .int .i64 a, .int .i64 b, .int .i64 c] 54) = W at *
  have hg5 : w5.heap.size = W.heap.size - 1 := by rw [← hwb, World.size_alloc]; omega
  clear hwb hg5
  have HK : Hid (∀ w', Upd noBlock W w' → (fun w' => w'.cell? ⟨w.heap.size, 0, none⟩ = some (.int .i64 a) ∧ w'.cell? ⟨w.heap.size, 1, none⟩ = some (.int .i64 b) ∧ w'.cell? ⟨w.heap.size, 2, none⟩ = some (.int .i64 c) ∧ w'.cell? ⟨w1.heap.size, 0, none⟩ = some (.int .u8 (k : Int)) ∧ w'.cell? ⟨w1.heap.size, 1, none⟩ = some (.int .i64 a) ∧ w'.cell? ⟨w1.heap.size, 2, none⟩ = some (.int .i64 b) ∧ w'.cell? ⟨w1.heap.size, 3, none⟩ = some (.int .i64 c) ∧ w'.cell? ⟨w5.heap.size, 0, none⟩ = some (.int .u8 (k : Int)) ∧ w'.cell? ⟨w5.heap.size, 1, none⟩ = some (.int .i64 a) ∧ w'.cell? ⟨w5.heap.size, 2, none⟩ = some (.int .i64 b) ∧ w'.cell? ⟨w5.heap.size, 3, none⟩ = some (.int .i64 c) ∧ Hid (Upd noBlock W w')) w') := fun w' h => ⟨upd_cell h y0, upd_cell h y1', upd_cell h y2', upd_cell h i0, upd_cell h i1, upd_cell h i2, upd_cell h i3, upd_cell h j0, upd_cell h j1, upd_cell h j2, upd_cell h j3, h⟩
  have HR : Hid (Upd noBlock W W) := Upd.refl _ _
  have hcv0 : ∀ W : World, (convert 59 9 (.slice (some ⟨W.heap.size, 0, none⟩) 1 1)).run Tryd.prog (W.alloc (.cells #[.int .u8 (k : Int)] 5)) = .ok (.string p1) (W.alloc (.cells #[.int .u8 (k : Int)] 5)) := fun W => HCELL.out _ _ (heap_alloc_new W _)
  have hcv1 : ∀ W : World, (convert 59 9 (.slice (some ⟨W.heap.size, 0, none⟩) 1 1)).run Tryd.prog (W.alloc (.cells #[.int .u8 (k : Int)] 5)).drew = .ok (.string p1) (W.alloc (.cells #[.int .u8 (k : Int)] 5)).drew := fun W => HCELL.out _ _ (heap_alloc_new W _)
  have hcv2 : ∀ W : World, (convert 59 9 (.slice (some ⟨W.heap.size, 0, none⟩) 1 1)).run Tryd.prog (W.drew.alloc (.cells #[.int .u8 (k : Int)] 5)) = .ok (.string p1) (W.drew.alloc (.cells #[.int .u8 (k : Int)] 5)) := fun W => HCELL.out _ _ (heap_alloc_new W.drew _)
  go_cut [90] from 64 to 90 (fun t wx => t = .bool false ∧ Hid (Upd noBlock W wx))
  case first =>
    clear HPL HFA HFB HFC HGL HG2 HSP HT HA hA1 hI hG HU ya yb yc
    go_region_held (fun w' => w'.cell? ⟨w.heap.size, 0, none⟩ = some (.int .i64 a) ∧ w'.cell? ⟨w.heap.size, 1, none⟩ = some (.int .i64 b) ∧ w'.cell? ⟨w.heap.size, 2, none⟩ = some (.int .i64 c) ∧ w'.cell? ⟨w1.heap.size, 0, none⟩ = some (.int .u8 (k : Int)) ∧ w'.cell? ⟨w1.heap.size, 1, none⟩ = some (.int .i64 a) ∧ w'.cell? ⟨w1.heap.size, 2, none⟩ = some (.int .i64 b) ∧ w'.cell? ⟨w1.heap.size, 3, none⟩ = some (.int .i64 c) ∧ w'.cell? ⟨w5.heap.size, 0, none⟩ = some (.int .u8 (k : Int)) ∧ w'.cell? ⟨w5.heap.size, 1, none⟩ = some (.int .i64 a) ∧ w'.cell? ⟨w5.heap.size, 2, none⟩ = some (.int .i64 b) ∧ w'.cell? ⟨w5.heap.size, 3, none⟩ = some (.int .i64 c) ∧ Hid (Upd noBlock W w'))
      (first | exact HK.out _ HR.out | exact HK.out _ HR.out.drew | exact HK.out _ HW9.out | exact HK.out _ (HR.out.alloc _) | exact HK.out _ (HR.out.drew.alloc _) | exact HK.out _ (HR.out.alloc _).drew | exact HK.out _ (HW9.out.alloc _) | assumption | go_keep)
      (first
        | (go_at_call 22; (with_reducible refine (HBA.out _).mono ?_); rintro e w7 ⟨rfl, h⟩; have h0 := h; (first | replace h := Upd.undrew h | skip); go_split_ands; (first | have HW9 : Hid (Upd noBlock W w7) := Upd.trans (Hid.out (by assumption)) h0 | have HW9 : Hid (Upd noBlock W w7) := Upd.trans (Hid.out (by assumption)) h); (first | have kb := slh_new #[.int .u8 (k : Int)] _ _ _ h | have kb := h.cells kb (fun h => h) | skip); (first | have cv := HCELL.out _ _ kb | skip); clear h h0)
        | (go_at_call 22; (with_reducible refine (HBB.out _).mono ?_); rintro e w7 ⟨rfl, h⟩; have h0 := h; (first | replace h := Upd.undrew h | skip); go_split_ands; (first | have HW9 : Hid (Upd noBlock W w7) := Upd.trans (Hid.out (by assumption)) h0 | have HW9 : Hid (Upd noBlock W w7) := Upd.trans (Hid.out (by assumption)) h); (first | have kb := slh_new #[.int .u8 (k : Int)] _ _ _ h | have kb := h.cells kb (fun h => h) | skip); (first | have cv := HCELL.out _ _ kb | skip); clear h h0)
        | (go_at_call 22; (with_reducible refine (HBC.out _).mono ?_); rintro e w7 ⟨rfl, h⟩; have h0 := h; (first | replace h := Upd.undrew h | skip); go_split_ands; (first | have HW9 : Hid (Upd noBlock W w7) := Upd.trans (Hid.out (by assumption)) h0 | have HW9 : Hid (Upd noBlock W w7) := Upd.trans (Hid.out (by assumption)) h); (first | have kb := slh_new #[.int .u8 (k : Int)] _ _ _ h | have kb := h.cells kb (fun h => h) | skip); (first | have cv := HCELL.out _ _ kb | skip); clear h h0)
        | (go_at_call 26; go_split_ands; (with_reducible refine (HSE.out _).mono ?_); rintro e w7 ⟨rfl, h⟩; have HW9 : Hid (Upd noBlock W w7) := Upd.trans (Hid.out (by assumption)) h; clear h))
    all_goals
      go_wp2_with fail
      go_meet
      exact ⟨rfl, by assumption⟩
  case rest =>
    obtain ⟨rfl, HX2⟩ := hcut
    have HX := Lib.hid (HX.out.trans HX2.out)
    go_wp2_with (first
      | (go_at_call 25; (with_reducible refine (HG2.out _ (HT.out _ HX.out)).mono ?_); rintro e w8 ⟨rfl, h⟩; have HX := Lib.hid ((HX.out.trans h).alloc (.cells #[.int .u8 0, .int .i64 0, .int .i64 0, .int .i64 0] 54)); clear h))
    go_ret
    exact ⟨rfl, HX.out⟩
set_option maxRecDepth 20000 in
set_option maxHeartbeats 3200000 in
theorem nl_gy (w : World) (k : Nat) (a b c : Int) (p qs : ByteArray) (ps p1 pa pb pc q1 q2 q3 : ByteArray) (k2 : Nat) (a2 b2 c2 : Int)
    (HT : Hid (∀ W, Upd noBlock w W → Tab W))
    (HPL : Hid (∀ W : World, Tab W → Calls Tryd.prog 24 #[.agg #[.int .u8 (k : Int), .int .i64 a, .int .i64 b, .int .i64 c]] W fun e w' => e = .returned (.tuple #[.string p, .bool true]) ∧ Upd noBlock W w'))
    (HFA : Hid (∀ W : World, Calls Tryd.prog 19 #[.int .i64 a] W fun e w' => e = .returned (.bool true) ∧ w' = W))
    (HFB : Hid (∀ W : World, Calls Tryd.prog 19 #[.int .i64 b] W fun e w' => e = .returned (.bool true) ∧ w' = W))
    (HFC : Hid (∀ W : World, Calls Tryd.prog 19 #[.int .i64 c] W fun e w' => e = .returned (.bool true) ∧ w' = W))
    (hk1 : (65 : Int) ≤ (k : Int)) (hk2 : (k : Int) ≤ 90)
    (zps : p.size ≤ 100) (hps : p ++ qs = ps)
    (HGL : Hid (∀ W : World, Tab W → Calls Tryd.prog 25 #[.string ps] W fun e w' => e = .returned (.tuple #[.agg #[.int .u8 (k : Int), .int .i64 a, .int .i64 b, .int .i64 c], .bool true]) ∧ Upd noBlock W w'))
    (HBA : Hid (∀ W : World, Calls Tryd.prog 22 #[.int .i64 a, .int .i64 8] W fun e w' => e = .returned (.string pa) ∧ Upd noBlock W w'))
    (HBB : Hid (∀ W : World, Calls Tryd.prog 22 #[.int .i64 b, .int .i64 8] W fun e w' => e = .returned (.string pb) ∧ Upd noBlock W w'))
    (HBC : Hid (∀ W : World, Calls Tryd.prog 22 #[.int .i64 c, .int .i64 8] W fun e w' => e = .returned (.string pc) ∧ Upd noBlock W w'))
    (HSE : Hid (∀ W : World, Calls Tryd.prog 26 #[.string q3] W fun e w' => e = .returned (.string p) ∧ Upd noBlock W w'))
    (e1 : p1 ++ pa = q1) (e2 : q1 ++ pb = q2) (e3 : q2 ++ pc = q3) (z1 : p1.size = 1) (za : pa.size = 8) (zb : pb.size = 8) (zc : pc.size = 8) (y1 : q1.size = 9) (y2 : q2.size = 17)
    (HCELL : Hid (∀ (h : Nat) (W : World), W.heap[h]? = some (.cells #[.int .u8 (k : Int)] 5 (0, 0)) → (convert 59 9 (.slice (some ⟨h, 0, none⟩) 1 1)).run Tryd.prog W = .ok (.string p1) W))
    (HG2 : Hid (∀ W : World, Tab W → Calls Tryd.prog 25 #[.string qs] W fun e w' => e = .returned (.tuple #[.agg #[.int .u8 (k2 : Int), .int .i64 a2, .int .i64 b2, .int .i64 c2], .bool true]) ∧ Upd noBlock W w'))
    (n : Nat) (hn : qs.size = n) (hn2 : n ≤ 9223372036854770000)
    (h29 : (29 : Int) ≤ (n : Int)) (t : ByteArray) (hx : qs.extract 0 29 = t)
    (HP2 : Hid (∀ W : World, Tab W → Calls Tryd.prog 24 #[.agg #[.int .u8 (k2 : Int), .int .i64 a2, .int .i64 b2, .int .i64 c2]] W fun e w' => e = .returned (.tuple #[.string t, .bool true]) ∧ Upd noBlock W w')) :
    Calls Tryd.prog 6 #[.int .u8 (k : Int), .agg #[.int .i64 a, .int .i64 b, .int .i64 c], .string qs] w fun e w' => e = .returned (.bool true) ∧ Upd noBlock w w' := by
  have HU : Hid (Upd noBlock w (w.alloc (.cells #[.int .i64 a, .int .i64 b, .int .i64 c] 52))) := (Upd.refl _ _).alloc _
  have HA := Lib.hid (fun W h => box3 w W (.int .i64 a) (.int .i64 b) (.int .i64 c) 52 h)
  have HSP := Lib.hid (fun W hW => speaks_any W hW)
  have hcat : ¬ 9223372036854775807 < p.size + n := by omega
  go_enter Tryd.func6, Tryd.ntmps6
  go_upto_region 10 with (first
    | (go_at_call 11; (with_reducible refine (HSP.out _ (HT.out _ HU.out)).mono ?_); rintro e w1 ⟨rfl, h⟩; have hA1 := Lib.hid h; have HX := Lib.hid (HU.out.trans h); obtain ⟨y0, y1', y2'⟩ := HA.out _ hA1.out; have ya := fun O => (HA.out _ ((hA1.out).alloc O)).1; have yb := fun O => (HA.out _ ((hA1.out).alloc O)).2.1; have yc := fun O => (HA.out _ ((hA1.out).alloc O)).2.2; clear h)
    | (go_at_call 24; (with_reducible refine (HPL.out _ (HT.out _ (HX.out.alloc _))).mono ?_); rintro e w2 ⟨rfl, h⟩; have hI := Lib.hid h; have hA1 := Lib.hid ((hA1.out.alloc _).trans h); have HX := Lib.hid ((HX.out.alloc _).trans h); obtain ⟨i0, i1, i2, i3⟩ := box4 _ _ _ _ _ _ _ hI.out; obtain ⟨y0, y1', y2'⟩ := HA.out _ hA1.out; have ya := fun O => (HA.out _ ((hA1.out).alloc O)).1; have yb := fun O => (HA.out _ ((hA1.out).alloc O)).2.1; have yc := fun O => (HA.out _ ((hA1.out).alloc O)).2.2; clear h)
    | (go_at_call 19; (with_reducible refine (HFA.out _).mono ?_); rintro e w4 ⟨rfl, rfl⟩)
    | (go_at_call 19; (with_reducible refine (HFB.out _).mono ?_); rintro e w4 ⟨rfl, rfl⟩)
    | (go_at_call 19; (with_reducible refine (HFC.out _).mono ?_); rintro e w4 ⟨rfl, rfl⟩)
    | (go_at_call 25; (with_reducible refine (HGL.out _ (HT.out _ HX.out)).mono ?_); rintro e w5 ⟨rfl, h⟩; have hG := Lib.hid ((Upd.refl noBlock (w5.alloc (.cells #[.int .u8 (k : Int), .int .i64 a, .int .i64 b, .int .i64 c] 54)))); have hI := Lib.hid ((hI.out.trans h).alloc (.cells #[.int .u8 (k : Int), .int .i64 a, .int .i64 b, .int .i64 c] 54)); have hA1 := Lib.hid ((hA1.out.trans h).alloc (.cells #[.int .u8 (k : Int), .int .i64 a, .int .i64 b, .int .i64 c] 54)); have HX := Lib.hid ((HX.out.trans h).alloc (.cells #[.int .u8 (k : Int), .int .i64 a, .int .i64 b, .int .i64 c] 54)); obtain ⟨i0, i1, i2, i3⟩ := box4 _ _ _ _ _ _ _ hI.out; obtain ⟨j0, j1, j2, j3⟩ := box4 _ _ _ _ _ _ _ hG.out; obtain ⟨y0, y1', y2'⟩ := HA.out _ hA1.out; have ya := fun O => (HA.out _ ((hA1.out).alloc O)).1; have yb := fun O => (HA.out _ ((hA1.out).alloc O)).2.1; have yc := fun O => (HA.out _ ((hA1.out).alloc O)).2.2; clear h))
  generalize hwb : w5.alloc (.cells #[.int .u8 (k : Int), .int .i64 a, .int .i64 b, .int .i64 c] 54) = W at *
  have hg5 : w5.heap.size = W.heap.size - 1 := by rw [← hwb, World.size_alloc]; omega
  clear hwb hg5
  have HK : Hid (∀ w', Upd noBlock W w' → (fun w' => w'.cell? ⟨w.heap.size, 0, none⟩ = some (.int .i64 a) ∧ w'.cell? ⟨w.heap.size, 1, none⟩ = some (.int .i64 b) ∧ w'.cell? ⟨w.heap.size, 2, none⟩ = some (.int .i64 c) ∧ w'.cell? ⟨w1.heap.size, 0, none⟩ = some (.int .u8 (k : Int)) ∧ w'.cell? ⟨w1.heap.size, 1, none⟩ = some (.int .i64 a) ∧ w'.cell? ⟨w1.heap.size, 2, none⟩ = some (.int .i64 b) ∧ w'.cell? ⟨w1.heap.size, 3, none⟩ = some (.int .i64 c) ∧ w'.cell? ⟨w5.heap.size, 0, none⟩ = some (.int .u8 (k : Int)) ∧ w'.cell? ⟨w5.heap.size, 1, none⟩ = some (.int .i64 a) ∧ w'.cell? ⟨w5.heap.size, 2, none⟩ = some (.int .i64 b) ∧ w'.cell? ⟨w5.heap.size, 3, none⟩ = some (.int .i64 c) ∧ Hid (Upd noBlock W w')) w') := fun w' h => ⟨upd_cell h y0, upd_cell h y1', upd_cell h y2', upd_cell h i0, upd_cell h i1, upd_cell h i2, upd_cell h i3, upd_cell h j0, upd_cell h j1, upd_cell h j2, upd_cell h j3, h⟩
  have HR : Hid (Upd noBlock W W) := Upd.refl _ _
  have hcv0 : ∀ W : World, (convert 59 9 (.slice (some ⟨W.heap.size, 0, none⟩) 1 1)).run Tryd.prog (W.alloc (.cells #[.int .u8 (k : Int)] 5)) = .ok (.string p1) (W.alloc (.cells #[.int .u8 (k : Int)] 5)) := fun W => HCELL.out _ _ (heap_alloc_new W _)
  have hcv1 : ∀ W : World, (convert 59 9 (.slice (some ⟨W.heap.size, 0, none⟩) 1 1)).run Tryd.prog (W.alloc (.cells #[.int .u8 (k : Int)] 5)).drew = .ok (.string p1) (W.alloc (.cells #[.int .u8 (k : Int)] 5)).drew := fun W => HCELL.out _ _ (heap_alloc_new W _)
  have hcv2 : ∀ W : World, (convert 59 9 (.slice (some ⟨W.heap.size, 0, none⟩) 1 1)).run Tryd.prog (W.drew.alloc (.cells #[.int .u8 (k : Int)] 5)) = .ok (.string p1) (W.drew.alloc (.cells #[.int .u8 (k : Int)] 5)) := fun W => HCELL.out _ _ (heap_alloc_new W.drew _)
  go_cut [90] from 64 to 90 (fun t wx => t = .bool false ∧ Hid (Upd noBlock W wx))
  case first =>
    clear HPL HFA HFB HFC HGL HG2 HSP HT HA hA1 hI hG HU ya yb yc HP2
    go_region_held (fun w' => w'.cell? ⟨w.heap.size, 0, none⟩ = some (.int .i64 a) ∧ w'.cell? ⟨w.heap.size, 1, none⟩ = some (.int .i64 b) ∧ w'.cell? ⟨w.heap.size, 2, none⟩ = some (.int .i64 c) ∧ w'.cell? ⟨w1.heap.size, 0, none⟩ = some (.int .u8 (k : Int)) ∧ w'.cell? ⟨w1.heap.size, 1, none⟩ = some (.int .i64 a) ∧ w'.cell? ⟨w1.heap.size, 2, none⟩ = some (.int .i64 b) ∧ w'.cell? ⟨w1.heap.size, 3, none⟩ = some (.int .i64 c) ∧ w'.cell? ⟨w5.heap.size, 0, none⟩ = some (.int .u8 (k : Int)) ∧ w'.cell? ⟨w5.heap.size, 1, none⟩ = some (.int .i64 a) ∧ w'.cell? ⟨w5.heap.size, 2, none⟩ = some (.int .i64 b) ∧ w'.cell? ⟨w5.heap.size, 3, none⟩ = some (.int .i64 c) ∧ Hid (Upd noBlock W w'))
      (first | exact HK.out _ HR.out | exact HK.out _ HR.out.drew | exact HK.out _ HW9.out | exact HK.out _ (HR.out.alloc _) | exact HK.out _ (HR.out.drew.alloc _) | exact HK.out _ (HR.out.alloc _).drew | exact HK.out _ (HW9.out.alloc _) | assumption | go_keep)
      (first
        | (go_at_call 22; (with_reducible refine (HBA.out _).mono ?_); rintro e w7 ⟨rfl, h⟩; have h0 := h; (first | replace h := Upd.undrew h | skip); go_split_ands; (first | have HW9 : Hid (Upd noBlock W w7) := Upd.trans (Hid.out (by assumption)) h0 | have HW9 : Hid (Upd noBlock W w7) := Upd.trans (Hid.out (by assumption)) h); (first | have kb := slh_new #[.int .u8 (k : Int)] _ _ _ h | have kb := h.cells kb (fun h => h) | skip); (first | have cv := HCELL.out _ _ kb | skip); clear h h0)
        | (go_at_call 22; (with_reducible refine (HBB.out _).mono ?_); rintro e w7 ⟨rfl, h⟩; have h0 := h; (first | replace h := Upd.undrew h | skip); go_split_ands; (first | have HW9 : Hid (Upd noBlock W w7) := Upd.trans (Hid.out (by assumption)) h0 | have HW9 : Hid (Upd noBlock W w7) := Upd.trans (Hid.out (by assumption)) h); (first | have kb := slh_new #[.int .u8 (k : Int)] _ _ _ h | have kb := h.cells kb (fun h => h) | skip); (first | have cv := HCELL.out _ _ kb | skip); clear h h0)
        | (go_at_call 22; (with_reducible refine (HBC.out _).mono ?_); rintro e w7 ⟨rfl, h⟩; have h0 := h; (first | replace h := Upd.undrew h | skip); go_split_ands; (first | have HW9 : Hid (Upd noBlock W w7) := Upd.trans (Hid.out (by assumption)) h0 | have HW9 : Hid (Upd noBlock W w7) := Upd.trans (Hid.out (by assumption)) h); (first | have kb := slh_new #[.int .u8 (k : Int)] _ _ _ h | have kb := h.cells kb (fun h => h) | skip); (first | have cv := HCELL.out _ _ kb | skip); clear h h0)
        | (go_at_call 26; go_split_ands; (with_reducible refine (HSE.out _).mono ?_); rintro e w7 ⟨rfl, h⟩; have HW9 : Hid (Upd noBlock W w7) := Upd.trans (Hid.out (by assumption)) h; clear h))
    all_goals
      go_wp2_with fail
      go_meet
      exact ⟨rfl, by assumption⟩
  case rest =>
    obtain ⟨rfl, HX2⟩ := hcut
    have HX := Lib.hid (HX.out.trans HX2.out)
    go_wp2_with (first
      | (go_at_call 25; (with_reducible refine (HG2.out _ (HT.out _ HX.out)).mono ?_); rintro e w8 ⟨rfl, h⟩; have HX := Lib.hid ((HX.out.trans h).alloc (.cells #[.int .u8 (k2 : Int), .int .i64 a2, .int .i64 b2, .int .i64 c2] 54)); clear h)
      | (go_at_call 24; (with_reducible refine (HP2.out _ (HT.out _ HX.out)).mono ?_); rintro e w9 ⟨rfl, h⟩; have HX := Lib.hid (HX.out.trans h); clear h))
    go_ret
    exact ⟨rfl, HX.out⟩
end Go.Proofs.YthlheamnfjjamaaDoor
