/- NodeApart, walked. -/
import Derived.Test.YtnabomikihinmaaDoorOk
namespace Go.Proofs.YtnabomikihinmaaDoor
open Go.RowKit Cm
attribute [local irreducible] beZ valN Cm.shs Cm.nxt Cm.reg Cm.ext
attribute [local go_sem ↓] Go.wp_at_zero Go.wp_at_succ
set_option linter.unusedVariables false

theorem box3_facts (w W : World) (A B N : Array Value) (t t' t'' : TypeId) (h1 : Upd noBlock (((w.alloc (.cells A t)).alloc (.cells B t')).alloc (.cells N t'')) W) :
    (∀ i, W.cell? ⟨w.heap.size, i, none⟩ = A[i]?) ∧ (∀ i, W.cell? ⟨w.heap.size + 1, i, none⟩ = B[i]?) ∧ (∀ i, W.cell? ⟨w.heap.size + 1 + 1, i, none⟩ = N[i]?) := by
  have h := heap_alloc_new ((w.alloc (.cells A t)).alloc (.cells B t')) (.cells N t'')
  rw [World.size_alloc, World.size_alloc] at h
  exact ⟨fun i => cell_of (h1.cells (block_alloc (block_alloc (heap_alloc_new w _) _) _) (fun h => h)) i, fun i => cell_of (h1.cells (block_alloc (heap_alloc2_new w _ _) _) (fun h => h)) i, fun i => cell_of (h1.cells h (fun h => h)) i⟩
theorem two_nodes (W0 W : World) (K R : Array Value) (h : Upd noBlock ((W0.alloc (.cells K 26)).alloc (.cells R 26)) W) :
    (∀ i, W.cell? ⟨W0.heap.size, i, none⟩ = K[i]?) ∧ (∀ i, W.cell? ⟨W0.heap.size + 1, i, none⟩ = R[i]?) :=
  ⟨fun i => cell_of (h.cells (block_alloc (heap_alloc_new W0 _) _) (fun h => h)) i, fun i => cell_of (h.cells (heap_alloc2_new W0 _ _) (fun h => h)) i⟩
set_option maxRecDepth 20000 in
set_option maxHeartbeats 3200000 in
theorem apart_no1 (w : World) (s0 s1 : Int) (l0 l1 : Bool) (qa qb qc qd qs qt us ut : ByteArray) (ls lt : Nat) (g2 : Bool) (HT : Hid (∀ W, Upd noBlock w W → Tab W)) (hl0 : (s0.tmod 2 == 0) = l0) (hl1 : (s1.tmod 2 == 0) = l1) (hw0 : IntKind.i64.wrap (s0.tmod 2) = s0.tmod 2) (hw1 : IntKind.i64.wrap (s1.tmod 2) = s1.tmod 2) (hv0 : wrap64 (s0.tmod 2) = s0.tmod 2) (hv1 : wrap64 (s1.tmod 2) = s1.tmod 2)
    (HE1 : (Hid (∀ W : World, Tab W → Calls Tryd.prog 11 #[.agg #[.int .i64 s0, .bool false, .bool l0, .string qa, .string qb]] W fun e w' => e = .returned (.tuple #[.string qs, .bool false]) ∧ Upd noBlock W w'))) (HE2 : (Hid (∀ W : World, Tab W → Calls Tryd.prog 11 #[.agg #[.int .i64 s1, .bool false, .bool l1, .string qc, .string qd]] W fun e w' => e = .returned (.tuple #[.string qt, .bool g2]) ∧ Upd noBlock W w')))  :
    Calls Tryd.prog 8 #[.agg #[.int .i64 s0, .int .i64 s1], .agg #[.string qa, .string qb], .agg #[.string qc, .string qd]] w fun e w' => e = .returned (.bool true) ∧ Upd noBlock w w' := by
  have HU : Hid (Upd noBlock w (((w.alloc (.cells #[.int .i64 s0, .int .i64 s1] 39)).alloc (.cells #[.string qa, .string qb] 23)).alloc (.cells #[.string qc, .string qd] 23))) := (((Upd.refl _ _).alloc _).alloc _).alloc _
  have HF0 := Lib.hid (fun W h => box3_facts w W #[.int .i64 s0, .int .i64 s1] #[.string qa, .string qb] #[.string qc, .string qd] 39 23 23 h)
  have HS := Lib.hid (fun W hW => speaks_any W hW)
  go_enter Tryd.func8, Tryd.ntmps8
  go_wp2_with (first | (go_at_call 10; with_reducible refine (HS.out _ (HT.out _ HU.out)).mono ?_; rintro e w1 ⟨rfl, h⟩; have HX := Lib.hid (HU.out.trans h); obtain ⟨x1, x2, x3⟩ := HF0.out _ h; have y1 := fun O => (HF0.out _ (h.alloc O)).1; have y2 := fun O => (HF0.out _ (h.alloc O)).2.1; have y3 := fun O => (HF0.out _ (h.alloc O)).2.2; clear h) | (go_at_call 11; have _t := HZ; with_reducible refine (HE2.out _ (HT.out _ HZ.out)).mono ?_; rintro e w3 ⟨rfl, h⟩; obtain ⟨i1, i2⟩ := two_nodes _ _ _ _ (HY.out.trans h); have HV := Lib.hid (HZ.out.trans h); clear h) | (go_at_call 11; with_reducible refine (HE1.out _ (HT.out _ ((HX.out.alloc _).alloc _))).mono ?_; rintro e w2 ⟨rfl, h⟩; obtain ⟨f1, f2⟩ := two_nodes _ _ _ _ h; have HY := Lib.hid h; have HZ := Lib.hid (((HX.out.alloc _).alloc _).trans h); clear h))
  all_goals go_ret
  all_goals exact ⟨rfl, HV.out⟩
set_option maxRecDepth 20000 in
set_option maxHeartbeats 3200000 in
theorem apart_no2 (w : World) (s0 s1 : Int) (l0 l1 : Bool) (qa qb qc qd qs qt us ut : ByteArray) (ls lt : Nat) (HT : Hid (∀ W, Upd noBlock w W → Tab W)) (hl0 : (s0.tmod 2 == 0) = l0) (hl1 : (s1.tmod 2 == 0) = l1) (hw0 : IntKind.i64.wrap (s0.tmod 2) = s0.tmod 2) (hw1 : IntKind.i64.wrap (s1.tmod 2) = s1.tmod 2) (hv0 : wrap64 (s0.tmod 2) = s0.tmod 2) (hv1 : wrap64 (s1.tmod 2) = s1.tmod 2)
    (HE1 : (Hid (∀ W : World, Tab W → Calls Tryd.prog 11 #[.agg #[.int .i64 s0, .bool false, .bool l0, .string qa, .string qb]] W fun e w' => e = .returned (.tuple #[.string qs, .bool true]) ∧ Upd noBlock W w'))) (HE2 : (Hid (∀ W : World, Tab W → Calls Tryd.prog 11 #[.agg #[.int .i64 s1, .bool false, .bool l1, .string qc, .string qd]] W fun e w' => e = .returned (.tuple #[.string qt, .bool false]) ∧ Upd noBlock W w')))  :
    Calls Tryd.prog 8 #[.agg #[.int .i64 s0, .int .i64 s1], .agg #[.string qa, .string qb], .agg #[.string qc, .string qd]] w fun e w' => e = .returned (.bool true) ∧ Upd noBlock w w' := by
  have HU : Hid (Upd noBlock w (((w.alloc (.cells #[.int .i64 s0, .int .i64 s1] 39)).alloc (.cells #[.string qa, .string qb] 23)).alloc (.cells #[.string qc, .string qd] 23))) := (((Upd.refl _ _).alloc _).alloc _).alloc _
  have HF0 := Lib.hid (fun W h => box3_facts w W #[.int .i64 s0, .int .i64 s1] #[.string qa, .string qb] #[.string qc, .string qd] 39 23 23 h)
  have HS := Lib.hid (fun W hW => speaks_any W hW)
  go_enter Tryd.func8, Tryd.ntmps8
  go_wp2_with (first | (go_at_call 10; with_reducible refine (HS.out _ (HT.out _ HU.out)).mono ?_; rintro e w1 ⟨rfl, h⟩; have HX := Lib.hid (HU.out.trans h); obtain ⟨x1, x2, x3⟩ := HF0.out _ h; have y1 := fun O => (HF0.out _ (h.alloc O)).1; have y2 := fun O => (HF0.out _ (h.alloc O)).2.1; have y3 := fun O => (HF0.out _ (h.alloc O)).2.2; clear h) | (go_at_call 11; have _t := HZ; with_reducible refine (HE2.out _ (HT.out _ HZ.out)).mono ?_; rintro e w3 ⟨rfl, h⟩; obtain ⟨i1, i2⟩ := two_nodes _ _ _ _ (HY.out.trans h); have HV := Lib.hid (HZ.out.trans h); clear h) | (go_at_call 11; with_reducible refine (HE1.out _ (HT.out _ ((HX.out.alloc _).alloc _))).mono ?_; rintro e w2 ⟨rfl, h⟩; obtain ⟨f1, f2⟩ := two_nodes _ _ _ _ h; have HY := Lib.hid h; have HZ := Lib.hid (((HX.out.alloc _).alloc _).trans h); clear h))
  all_goals go_ret
  all_goals exact ⟨rfl, HV.out⟩
set_option maxRecDepth 20000 in
set_option maxHeartbeats 3200000 in
theorem apart_ne (w : World) (s0 s1 : Int) (l0 l1 : Bool) (qa qb qc qd qs qt us ut : ByteArray) (ls lt : Nat) (HT : Hid (∀ W, Upd noBlock w W → Tab W)) (hl0 : (s0.tmod 2 == 0) = l0) (hl1 : (s1.tmod 2 == 0) = l1) (hw0 : IntKind.i64.wrap (s0.tmod 2) = s0.tmod 2) (hw1 : IntKind.i64.wrap (s1.tmod 2) = s1.tmod 2) (hv0 : wrap64 (s0.tmod 2) = s0.tmod 2) (hv1 : wrap64 (s1.tmod 2) = s1.tmod 2)
    (HE1 : (Hid (∀ W : World, Tab W → Calls Tryd.prog 11 #[.agg #[.int .i64 s0, .bool false, .bool l0, .string qa, .string qb]] W fun e w' => e = .returned (.tuple #[.string qs, .bool true]) ∧ Upd noBlock W w'))) (HE2 : (Hid (∀ W : World, Tab W → Calls Tryd.prog 11 #[.agg #[.int .i64 s1, .bool false, .bool l1, .string qc, .string qd]] W fun e w' => e = .returned (.tuple #[.string qt, .bool true]) ∧ Upd noBlock W w'))) (heq : ∀ W : World, (binOp .eql 26 (.agg #[.int .i64 s0, .bool false, .bool l0, .string qa, .string qb]) (.agg #[.int .i64 s1, .bool false, .bool l1, .string qc, .string qd])).run Tryd.prog W = .ok (.bool false) W) (hne : ∀ W : World, (binOp .neq 26 (.agg #[.int .i64 s0, .bool false, .bool l0, .string qa, .string qb]) (.agg #[.int .i64 s1, .bool false, .bool l1, .string qc, .string qd])).run Tryd.prog W = .ok (.bool true) W) (hzs : qs.size = ls) (hzt : qt.size = lt) (hb1 : ls ≤ 1000) (hb2 : lt ≤ 1000) (n : Nat) (hn : n = min ls lt) (hxs : qs.extract 0 n = us) (hxt : qt.extract 0 n = ut) (hP : (us.toList == ut.toList) = false) :
    Calls Tryd.prog 8 #[.agg #[.int .i64 s0, .int .i64 s1], .agg #[.string qa, .string qb], .agg #[.string qc, .string qd]] w fun e w' => e = .returned (.bool true) ∧ Upd noBlock w w' := by
  have HU : Hid (Upd noBlock w (((w.alloc (.cells #[.int .i64 s0, .int .i64 s1] 39)).alloc (.cells #[.string qa, .string qb] 23)).alloc (.cells #[.string qc, .string qd] 23))) := (((Upd.refl _ _).alloc _).alloc _).alloc _
  have HF0 := Lib.hid (fun W h => box3_facts w W #[.int .i64 s0, .int .i64 s1] #[.string qa, .string qb] #[.string qc, .string qd] 39 23 23 h)
  have HS := Lib.hid (fun W hW => speaks_any W hW)
  by_cases hc : ls ≤ lt
  · obtain rfl : n = ls := by omega
    have hmin : min (n : Int) (lt : Int) = (n : Int) := by omega
    clear hn
    go_enter Tryd.func8, Tryd.ntmps8
    go_wp2_with (first | (go_at_call 10; with_reducible refine (HS.out _ (HT.out _ HU.out)).mono ?_; rintro e w1 ⟨rfl, h⟩; have HX := Lib.hid (HU.out.trans h); obtain ⟨x1, x2, x3⟩ := HF0.out _ h; have y1 := fun O => (HF0.out _ (h.alloc O)).1; have y2 := fun O => (HF0.out _ (h.alloc O)).2.1; have y3 := fun O => (HF0.out _ (h.alloc O)).2.2; clear h) | (go_at_call 11; have _t := HZ; with_reducible refine (HE2.out _ (HT.out _ HZ.out)).mono ?_; rintro e w3 ⟨rfl, h⟩; obtain ⟨i1, i2⟩ := two_nodes _ _ _ _ (HY.out.trans h); have HV := Lib.hid (HZ.out.trans h); clear h) | (go_at_call 11; with_reducible refine (HE1.out _ (HT.out _ ((HX.out.alloc _).alloc _))).mono ?_; rintro e w2 ⟨rfl, h⟩; obtain ⟨f1, f2⟩ := two_nodes _ _ _ _ h; have HY := Lib.hid h; have HZ := Lib.hid (((HX.out.alloc _).alloc _).trans h); clear h))
    go_region
    all_goals go_wp2_with fail
    all_goals go_ret
    all_goals exact ⟨rfl, HV.out.drew⟩
  · have hc' : lt ≤ ls := by omega
    obtain rfl : n = lt := by omega
    have hmin : min (ls : Int) (n : Int) = (n : Int) := by omega
    clear hn
    go_enter Tryd.func8, Tryd.ntmps8
    go_wp2_with (first | (go_at_call 10; with_reducible refine (HS.out _ (HT.out _ HU.out)).mono ?_; rintro e w1 ⟨rfl, h⟩; have HX := Lib.hid (HU.out.trans h); obtain ⟨x1, x2, x3⟩ := HF0.out _ h; have y1 := fun O => (HF0.out _ (h.alloc O)).1; have y2 := fun O => (HF0.out _ (h.alloc O)).2.1; have y3 := fun O => (HF0.out _ (h.alloc O)).2.2; clear h) | (go_at_call 11; have _t := HZ; with_reducible refine (HE2.out _ (HT.out _ HZ.out)).mono ?_; rintro e w3 ⟨rfl, h⟩; obtain ⟨i1, i2⟩ := two_nodes _ _ _ _ (HY.out.trans h); have HV := Lib.hid (HZ.out.trans h); clear h) | (go_at_call 11; with_reducible refine (HE1.out _ (HT.out _ ((HX.out.alloc _).alloc _))).mono ?_; rintro e w2 ⟨rfl, h⟩; obtain ⟨f1, f2⟩ := two_nodes _ _ _ _ h; have HY := Lib.hid h; have HZ := Lib.hid (((HX.out.alloc _).alloc _).trans h); clear h))
    go_region
    all_goals go_wp2_with fail
    all_goals go_ret
    all_goals exact ⟨rfl, HV.out.drew⟩
set_option maxRecDepth 20000 in
set_option maxHeartbeats 3200000 in
theorem apart_eq (w : World) (s0 s1 : Int) (l0 l1 : Bool) (qa qb qc qd qs qt us ut : ByteArray) (ls lt : Nat) (HT : Hid (∀ W, Upd noBlock w W → Tab W)) (hl0 : (s0.tmod 2 == 0) = l0) (hl1 : (s1.tmod 2 == 0) = l1) (hw0 : IntKind.i64.wrap (s0.tmod 2) = s0.tmod 2) (hw1 : IntKind.i64.wrap (s1.tmod 2) = s1.tmod 2) (hv0 : wrap64 (s0.tmod 2) = s0.tmod 2) (hv1 : wrap64 (s1.tmod 2) = s1.tmod 2)
    (HE1 : (Hid (∀ W : World, Tab W → Calls Tryd.prog 11 #[.agg #[.int .i64 s0, .bool false, .bool l0, .string qa, .string qb]] W fun e w' => e = .returned (.tuple #[.string qs, .bool true]) ∧ Upd noBlock W w'))) (HE2 : (Hid (∀ W : World, Tab W → Calls Tryd.prog 11 #[.agg #[.int .i64 s0, .bool false, .bool l0, .string qa, .string qb]] W fun e w' => e = .returned (.tuple #[.string qs, .bool true]) ∧ Upd noBlock W w'))) (heq : ∀ W : World, (binOp .eql 26 (.agg #[.int .i64 s0, .bool false, .bool l0, .string qa, .string qb]) (.agg #[.int .i64 s0, .bool false, .bool l0, .string qa, .string qb])).run Tryd.prog W = .ok (.bool true) W) (hne : ∀ W : World, (binOp .neq 26 (.agg #[.int .i64 s0, .bool false, .bool l0, .string qa, .string qb]) (.agg #[.int .i64 s0, .bool false, .bool l0, .string qa, .string qb])).run Tryd.prog W = .ok (.bool false) W) (hzs : qs.size = ls) (hb1 : ls ≤ 1000) (hxs : qs.extract 0 ls = us) :
    Calls Tryd.prog 8 #[.agg #[.int .i64 s0, .int .i64 s0], .agg #[.string qa, .string qb], .agg #[.string qa, .string qb]] w fun e w' => e = .returned (.bool true) ∧ Upd noBlock w w' := by
  have HU : Hid (Upd noBlock w (((w.alloc (.cells #[.int .i64 s0, .int .i64 s0] 39)).alloc (.cells #[.string qa, .string qb] 23)).alloc (.cells #[.string qa, .string qb] 23))) := (((Upd.refl _ _).alloc _).alloc _).alloc _
  have HF0 := Lib.hid (fun W h => box3_facts w W #[.int .i64 s0, .int .i64 s0] #[.string qa, .string qb] #[.string qa, .string qb] 39 23 23 h)
  have HS := Lib.hid (fun W hW => speaks_any W hW)
  go_enter Tryd.func8, Tryd.ntmps8
  go_wp2_with (first | (go_at_call 10; with_reducible refine (HS.out _ (HT.out _ HU.out)).mono ?_; rintro e w1 ⟨rfl, h⟩; have HX := Lib.hid (HU.out.trans h); obtain ⟨x1, x2, x3⟩ := HF0.out _ h; have y1 := fun O => (HF0.out _ (h.alloc O)).1; have y2 := fun O => (HF0.out _ (h.alloc O)).2.1; have y3 := fun O => (HF0.out _ (h.alloc O)).2.2; clear h) | (go_at_call 11; have _t := HZ; with_reducible refine (HE2.out _ (HT.out _ HZ.out)).mono ?_; rintro e w3 ⟨rfl, h⟩; obtain ⟨i1, i2⟩ := two_nodes _ _ _ _ (HY.out.trans h); have HV := Lib.hid (HZ.out.trans h); clear h) | (go_at_call 11; with_reducible refine (HE1.out _ (HT.out _ ((HX.out.alloc _).alloc _))).mono ?_; rintro e w2 ⟨rfl, h⟩; obtain ⟨f1, f2⟩ := two_nodes _ _ _ _ h; have HY := Lib.hid h; have HZ := Lib.hid (((HX.out.alloc _).alloc _).trans h); clear h))
  go_region
  all_goals go_wp2_with fail
  all_goals go_ret
  all_goals exact ⟨rfl, HV.out.drew⟩
end Go.Proofs.YtnabomikihinmaaDoor
