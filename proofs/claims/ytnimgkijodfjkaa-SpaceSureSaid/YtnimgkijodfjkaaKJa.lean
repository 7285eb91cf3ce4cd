/- Geometries: page's codeOf, the document's Good. -/
import Derived.Test.YtnimgkijodfjkaaKJp
import Derived.Test.YtnimgkijodfjkaaKGIh
import Derived.Test.YtnimgkijodfjkaaKIp
import Derived.Deep.RegionHeld
import Derived.Deep.CutRange
import Derived.Handy
namespace Go.Proofs.Ytnimgkijodfjkaa
open Go.RowKit Pm
set_option linter.unusedVariables false

/-- a geometry's numbers -/
def geoV (b p c k t : Int) : Value := .agg #[.int .i64 b, .int .i64 p, .int .i64 c, .int .i64 k, .int .i64 t]
def geoC (b p c k t : Int) : Array Value := #[.int .i64 b, .int .i64 p, .int .i64 c, .int .i64 k, .int .i64 t]
structure GoodG (b p c k t : Int) : Prop where
  b1 : 1 ≤ b
  b2 : b ≤ 64
  p1 : 4 ≤ p
  p2 : p ≤ 64
  p4 : p % 4 = 0
  c1 : 1 ≤ c
  c2 : c ≤ 4
  k1 : 16 ≤ k
  k2 : k ≤ 256
  t1 : 1 ≤ t
  t2 : t ≤ 8
set_option maxRecDepth 100000 in
theorem codeOf_bad0 (b p c k t : Int) (w : World) (h0 : b < 1) :
    Calls Try.prog 18 #[geoV b p c k t] w fun e w' => e = .returned (.tuple #[.pointer none, .bool false]) ∧ Upd noBlock w w' := by
  unfold geoV
  go_enter Try.func18, Try.ntmps18
  go_wp2_with fail
  go_ret2
  exact ⟨rfl, (Upd.refl _ _).alloc _⟩
set_option maxRecDepth 100000 in
theorem codeOf_bad1 (b p c k t : Int) (w : World) (h0 : 1 ≤ b) (h1 : 64 < b) :
    Calls Try.prog 18 #[geoV b p c k t] w fun e w' => e = .returned (.tuple #[.pointer none, .bool false]) ∧ Upd noBlock w w' := by
  unfold geoV
  go_enter Try.func18, Try.ntmps18
  go_wp2_with fail
  go_ret2
  exact ⟨rfl, (Upd.refl _ _).alloc _⟩
set_option maxRecDepth 100000 in
theorem codeOf_bad2 (b p c k t : Int) (w : World) (h0 : 1 ≤ b) (h1 : b ≤ 64) (h2 : p < 4) :
    Calls Try.prog 18 #[geoV b p c k t] w fun e w' => e = .returned (.tuple #[.pointer none, .bool false]) ∧ Upd noBlock w w' := by
  unfold geoV
  go_enter Try.func18, Try.ntmps18
  go_wp2_with fail
  go_ret2
  exact ⟨rfl, (Upd.refl _ _).alloc _⟩
set_option maxRecDepth 100000 in
theorem codeOf_bad3 (b p c k t : Int) (w : World) (h0 : 1 ≤ b) (h1 : b ≤ 64) (h2 : 4 ≤ p) (h3 : 64 < p) :
    Calls Try.prog 18 #[geoV b p c k t] w fun e w' => e = .returned (.tuple #[.pointer none, .bool false]) ∧ Upd noBlock w w' := by
  unfold geoV
  go_enter Try.func18, Try.ntmps18
  go_wp2_with fail
  go_ret2
  exact ⟨rfl, (Upd.refl _ _).alloc _⟩
set_option maxRecDepth 100000 in
theorem codeOf_bad4 (b p c k t : Int) (w : World) (h0 : 1 ≤ b) (h1 : b ≤ 64) (h2 : 4 ≤ p) (h3 : p ≤ 64) (h4 : (p % 4 != 0) = true) :
    Calls Try.prog 18 #[geoV b p c k t] w fun e w' => e = .returned (.tuple #[.pointer none, .bool false]) ∧ Upd noBlock w w' := by
  unfold geoV
  go_enter Try.func18, Try.ntmps18
  go_wp2_with fail
  go_ret2
  exact ⟨rfl, (Upd.refl _ _).alloc _⟩
set_option maxRecDepth 100000 in
theorem codeOf_bad5 (b p c k t : Int) (w : World) (h0 : 1 ≤ b) (h1 : b ≤ 64) (h2 : 4 ≤ p) (h3 : p ≤ 64) (h4 : (p % 4 != 0) = false) (h5 : c < 1) :
    Calls Try.prog 18 #[geoV b p c k t] w fun e w' => e = .returned (.tuple #[.pointer none, .bool false]) ∧ Upd noBlock w w' := by
  unfold geoV
  go_enter Try.func18, Try.ntmps18
  go_wp2_with fail
  go_ret2
  exact ⟨rfl, (Upd.refl _ _).alloc _⟩
set_option maxRecDepth 100000 in
theorem codeOf_bad6 (b p c k t : Int) (w : World) (h0 : 1 ≤ b) (h1 : b ≤ 64) (h2 : 4 ≤ p) (h3 : p ≤ 64) (h4 : (p % 4 != 0) = false) (h5 : 1 ≤ c) (h6 : 4 < c) :
    Calls Try.prog 18 #[geoV b p c k t] w fun e w' => e = .returned (.tuple #[.pointer none, .bool false]) ∧ Upd noBlock w w' := by
  unfold geoV
  go_enter Try.func18, Try.ntmps18
  go_wp2_with fail
  go_ret2
  exact ⟨rfl, (Upd.refl _ _).alloc _⟩
set_option maxRecDepth 100000 in
theorem codeOf_bad7 (b p c k t : Int) (w : World) (h0 : 1 ≤ b) (h1 : b ≤ 64) (h2 : 4 ≤ p) (h3 : p ≤ 64) (h4 : (p % 4 != 0) = false) (h5 : 1 ≤ c) (h6 : c ≤ 4) (h7 : k < 16) :
    Calls Try.prog 18 #[geoV b p c k t] w fun e w' => e = .returned (.tuple #[.pointer none, .bool false]) ∧ Upd noBlock w w' := by
  unfold geoV
  go_enter Try.func18, Try.ntmps18
  go_wp2_with fail
  go_ret2
  exact ⟨rfl, (Upd.refl _ _).alloc _⟩
set_option maxRecDepth 100000 in
theorem codeOf_bad8 (b p c k t : Int) (w : World) (h0 : 1 ≤ b) (h1 : b ≤ 64) (h2 : 4 ≤ p) (h3 : p ≤ 64) (h4 : (p % 4 != 0) = false) (h5 : 1 ≤ c) (h6 : c ≤ 4) (h7 : 16 ≤ k) (hn : t < 1 ∨ 8 < t ∨ k < 1 ∨ 256 < k) :
    Calls Try.prog 18 #[geoV b p c k t] w fun e w' => e = .returned (.tuple #[.pointer none, .bool false]) ∧ Upd noBlock w w' := by
  unfold geoV
  have HN := Lib.hid (fun W => new_off t k W hn)
  clear hn
  go_enter Try.func18, Try.ntmps18
  go_wp2_with (go_at_call 29; (with_reducible refine (HN.out _).mono ?_); rintro e w2 ⟨rfl, hw2⟩; obtain rfl := hw2.symm)
  go_ret2
  exact ⟨rfl, (Upd.refl _ _).alloc _⟩
set_option maxRecDepth 100000 in
theorem codeOf_good0 (b p c : Int) (k t : Nat) (w : World) (h0 : 1 ≤ b) (h1 : b ≤ 64) (h2 : 4 ≤ p) (h3 : p ≤ 64) (h4 : (p % 4 != 0) = false) (h5 : 1 ≤ c) (h6 : c ≤ 4) (h7 : (16 : Int) ≤ (k : Int)) (q1 : 1 ≤ t) (q2 : t ≤ 8) (q3 : k ≤ 256) :
    Calls Try.prog 18 #[geoV b p c (k : Int) (t : Int)] w fun e w' => ∃ g, e = .returned (.tuple #[.pointer (some ⟨g, 0, none⟩), .bool true]) ∧ w.heap.size ≤ g ∧ CodeP w' g t (k : Int) ∧ Upd noBlock w w' := by
  unfold geoV
  have HN := Lib.hid (fun W => new_any t k W q1 q2 (by omega) q3)
  have hA : Hid (Upd noBlock w (w.alloc (.cells #[.int .i64 b, .int .i64 p, .int .i64 c, .int .i64 (k : Int), .int .i64 (t : Int)] 29))) := (Upd.refl _ _).alloc _
  obtain ⟨wa, hwa⟩ : ∃ wa, wa = w.alloc (.cells #[.int .i64 b, .int .i64 p, .int .i64 c, .int .i64 (k : Int), .int .i64 (t : Int)] 29) := ⟨_, rfl⟩
  have HB : Hid (wa.heap[w.heap.size]? = some (.cells #[.int .i64 b, .int .i64 p, .int .i64 c, .int .i64 (k : Int), .int .i64 (t : Int)] 29 (0, 0))) := by rw [hwa]; exact heap_alloc_new w _
  rw [← hwa] at hA
  have z0 : wa.cell? ⟨w.heap.size, 0, none⟩ = some (.int .i64 b) := cell_of HB.out 0
  have z1 : wa.cell? ⟨w.heap.size, 1, none⟩ = some (.int .i64 p) := cell_of HB.out 1
  have z2 : wa.cell? ⟨w.heap.size, 2, none⟩ = some (.int .i64 c) := cell_of HB.out 2
  have z3 : wa.cell? ⟨w.heap.size, 3, none⟩ = some (.int .i64 (k : Int)) := cell_of HB.out 3
  have z4 : wa.cell? ⟨w.heap.size, 4, none⟩ = some (.int .i64 (t : Int)) := cell_of HB.out 4
  go_enter Try.func18, Try.ntmps18
  go_upto_region 1 with fail
  rw [← hwa]
  clear hwa
  go_wp2_with (go_at_call 29; (with_reducible refine (HN.out _).mono ?_); rintro e w2 ⟨rfl, hr2, hu2⟩; have R2 := Lib.hid hr2; have U2 := Lib.hid (hA.out.trans hu2); clear hr2 hu2)
  go_ret2
  exact ⟨_, rfl, hA.out.size, .inl R2.out, U2.out⟩
theorem codeOf_rest (b p c k t : Int) (w : World) (h0 : 1 ≤ b) (h1 : b ≤ 64) (h2 : 4 ≤ p) (h3 : p ≤ 64) (h4 : (p % 4 != 0) = false) (h : 1 ≤ c → c ≤ 4 → 16 ≤ k → k ≤ 256 → 1 ≤ t → t ≤ 8 → False) :
    Calls Try.prog 18 #[geoV b p c k t] w fun e w' => e = .returned (.tuple #[.pointer none, .bool false]) ∧ Upd noBlock w w' := by
  by_cases q5 : c < 1
  · exact codeOf_bad5 b p c k t w h0 h1 h2 h3 h4 q5
  by_cases q6 : 4 < c
  · exact codeOf_bad6 b p c k t w h0 h1 h2 h3 h4 (by omega) q6
  by_cases q7 : k < 16
  · exact codeOf_bad7 b p c k t w h0 h1 h2 h3 h4 (by omega) (by omega) q7
  refine codeOf_bad8 b p c k t w h0 h1 h2 h3 h4 (by omega) (by omega) (by omega) ?_
  by_cases q8 : 256 < k
  · exact .inr (.inr (.inr q8))
  by_cases q9 : t < 1
  · exact .inl q9
  by_cases q10 : 8 < t
  · exact .inr (.inl q10)
  exact (h (by omega) (by omega) (by omega) (by omega) (by omega) (by omega)).elim
theorem codeOf_bad (b p c k t : Int) (w : World) (h : ¬ GoodG b p c k t) :
    Calls Try.prog 18 #[geoV b p c k t] w fun e w' => e = .returned (.tuple #[.pointer none, .bool false]) ∧ Upd noBlock w w' := by
  by_cases q0 : b < 1
  · exact codeOf_bad0 b p c k t w (by omega)
  by_cases q1 : 64 < b
  · exact codeOf_bad1 b p c k t w (by omega) (by omega)
  by_cases q2 : p < 4
  · exact codeOf_bad2 b p c k t w (by omega) (by omega) (by omega)
  by_cases q3 : 64 < p
  · exact codeOf_bad3 b p c k t w (by omega) (by omega) (by omega) (by omega)
  by_cases q4 : p % 4 = 0
  · skip
    have r4 : (p % 4 != 0) = false := by rw [bne_eq_false_iff_eq]; exact q4
    refine codeOf_rest b p c k t w (by omega) (by omega) (by omega) (by omega) r4 ?_
    exact fun a1 a2 a3 a4 a5 a6 => h ⟨by omega, by omega, by omega, by omega, q4, a1, a2, a3, a4, a5, a6⟩
  · exact codeOf_bad4 b p c k t w (by omega) (by omega) (by omega) (by omega) (by rw [bne_iff_ne]; exact q4)
theorem codeOf_good (b p c k t : Int) (w : World) (h : GoodG b p c k t) :
    Calls Try.prog 18 #[geoV b p c k t] w fun e w' => ∃ g, e = .returned (.tuple #[.pointer (some ⟨g, 0, none⟩), .bool true]) ∧ w.heap.size ≤ g ∧ CodeP w' g t.toNat k ∧ Upd noBlock w w' := by
  obtain ⟨b1, b2, p1, p2, p4, c1, c2, k1, k2, t1, t2⟩ := h
  obtain ⟨k', rfl⟩ : ∃ n : Nat, k = (n : Int) := ⟨k.toNat, by omega⟩
  obtain ⟨t', rfl⟩ : ∃ n : Nat, t = (n : Int) := ⟨t.toNat, by omega⟩
  exact codeOf_good0 b p c k' t' w b1 b2 p1 p2 (by rw [bne_eq_false_iff_eq]; exact p4) c1 c2 k1 (by omega) (by omega) (by omega)
set_option maxRecDepth 100000 in
theorem refGood_bad0 (b p c k t : Int) (w : World) (h0 : b < 1) :
    Calls Try.prog 22 #[geoV b p c k t] w fun e w' => e = .returned (.bool false) ∧ Upd noBlock w w' := by
  unfold geoV
  go_enter Try.func22, Try.ntmps22
  go_wp2_with fail
  go_ret
  exact ⟨rfl, (Upd.refl _ _).alloc _⟩
set_option maxRecDepth 100000 in
theorem refGood_bad1 (b p c k t : Int) (w : World) (h0 : 1 ≤ b) (h1 : 64 < b) :
    Calls Try.prog 22 #[geoV b p c k t] w fun e w' => e = .returned (.bool false) ∧ Upd noBlock w w' := by
  unfold geoV
  go_enter Try.func22, Try.ntmps22
  go_wp2_with fail
  go_ret
  exact ⟨rfl, (Upd.refl _ _).alloc _⟩
set_option maxRecDepth 100000 in
theorem refGood_bad2 (b p c k t : Int) (w : World) (h0 : 1 ≤ b) (h1 : b ≤ 64) (h2 : p < 4) :
    Calls Try.prog 22 #[geoV b p c k t] w fun e w' => e = .returned (.bool false) ∧ Upd noBlock w w' := by
  unfold geoV
  go_enter Try.func22, Try.ntmps22
  go_wp2_with fail
  go_ret
  exact ⟨rfl, (Upd.refl _ _).alloc _⟩
set_option maxRecDepth 100000 in
theorem refGood_bad3 (b p c k t : Int) (w : World) (h0 : 1 ≤ b) (h1 : b ≤ 64) (h2 : 4 ≤ p) (h3 : 64 < p) :
    Calls Try.prog 22 #[geoV b p c k t] w fun e w' => e = .returned (.bool false) ∧ Upd noBlock w w' := by
  unfold geoV
  go_enter Try.func22, Try.ntmps22
  go_wp2_with fail
  go_ret
  exact ⟨rfl, (Upd.refl _ _).alloc _⟩
set_option maxRecDepth 100000 in
theorem refGood_bad4 (b p c k t : Int) (w : World) (h0 : 1 ≤ b) (h1 : b ≤ 64) (h2 : 4 ≤ p) (h3 : p ≤ 64) (h4 : (p % 4 != 0) = true) :
    Calls Try.prog 22 #[geoV b p c k t] w fun e w' => e = .returned (.bool false) ∧ Upd noBlock w w' := by
  unfold geoV
  go_enter Try.func22, Try.ntmps22
  go_wp2_with fail
  go_ret
  exact ⟨rfl, (Upd.refl _ _).alloc _⟩
set_option maxRecDepth 100000 in
theorem refGood_bad5 (b p c k t : Int) (w : World) (h0 : 1 ≤ b) (h1 : b ≤ 64) (h2 : 4 ≤ p) (h3 : p ≤ 64) (h4 : (p % 4 != 0) = false) (h5 : c < 1) :
    Calls Try.prog 22 #[geoV b p c k t] w fun e w' => e = .returned (.bool false) ∧ Upd noBlock w w' := by
  unfold geoV
  go_enter Try.func22, Try.ntmps22
  go_wp2_with fail
  go_ret
  exact ⟨rfl, (Upd.refl _ _).alloc _⟩
set_option maxRecDepth 100000 in
theorem refGood_bad6 (b p c k t : Int) (w : World) (h0 : 1 ≤ b) (h1 : b ≤ 64) (h2 : 4 ≤ p) (h3 : p ≤ 64) (h4 : (p % 4 != 0) = false) (h5 : 1 ≤ c) (h6 : 4 < c) :
    Calls Try.prog 22 #[geoV b p c k t] w fun e w' => e = .returned (.bool false) ∧ Upd noBlock w w' := by
  unfold geoV
  go_enter Try.func22, Try.ntmps22
  go_wp2_with fail
  go_ret
  exact ⟨rfl, (Upd.refl _ _).alloc _⟩
set_option maxRecDepth 100000 in
theorem refGood_bad7 (b p c k t : Int) (w : World) (h0 : 1 ≤ b) (h1 : b ≤ 64) (h2 : 4 ≤ p) (h3 : p ≤ 64) (h4 : (p % 4 != 0) = false) (h5 : 1 ≤ c) (h6 : c ≤ 4) (h7 : k < 16) :
    Calls Try.prog 22 #[geoV b p c k t] w fun e w' => e = .returned (.bool false) ∧ Upd noBlock w w' := by
  unfold geoV
  go_enter Try.func22, Try.ntmps22
  go_wp2_with fail
  go_ret
  exact ⟨rfl, (Upd.refl _ _).alloc _⟩
set_option maxRecDepth 100000 in
theorem refGood_bad8 (b p c k t : Int) (w : World) (h0 : 1 ≤ b) (h1 : b ≤ 64) (h2 : 4 ≤ p) (h3 : p ≤ 64) (h4 : (p % 4 != 0) = false) (h5 : 1 ≤ c) (h6 : c ≤ 4) (h7 : 16 ≤ k) (h8 : 256 < k) :
    Calls Try.prog 22 #[geoV b p c k t] w fun e w' => e = .returned (.bool false) ∧ Upd noBlock w w' := by
  unfold geoV
  go_enter Try.func22, Try.ntmps22
  go_wp2_with fail
  go_ret
  exact ⟨rfl, (Upd.refl _ _).alloc _⟩
set_option maxRecDepth 100000 in
theorem refGood_bad9 (b p c k t : Int) (w : World) (h0 : 1 ≤ b) (h1 : b ≤ 64) (h2 : 4 ≤ p) (h3 : p ≤ 64) (h4 : (p % 4 != 0) = false) (h5 : 1 ≤ c) (h6 : c ≤ 4) (h7 : 16 ≤ k) (h8 : k ≤ 256) (h9 : t < 1) :
    Calls Try.prog 22 #[geoV b p c k t] w fun e w' => e = .returned (.bool false) ∧ Upd noBlock w w' := by
  unfold geoV
  go_enter Try.func22, Try.ntmps22
  go_wp2_with fail
  go_ret
  exact ⟨rfl, (Upd.refl _ _).alloc _⟩
set_option maxRecDepth 100000 in
theorem refGood_bad10 (b p c k t : Int) (w : World) (h0 : 1 ≤ b) (h1 : b ≤ 64) (h2 : 4 ≤ p) (h3 : p ≤ 64) (h4 : (p % 4 != 0) = false) (h5 : 1 ≤ c) (h6 : c ≤ 4) (h7 : 16 ≤ k) (h8 : k ≤ 256) (h9 : 1 ≤ t) (h10 : 8 < t) :
    Calls Try.prog 22 #[geoV b p c k t] w fun e w' => e = .returned (.bool false) ∧ Upd noBlock w w' := by
  unfold geoV
  go_enter Try.func22, Try.ntmps22
  go_wp2_with fail
  go_ret
  exact ⟨congrArg (fun b => Ending.returned (.bool b)) (decide_eq_false (by omega)), (Upd.refl _ _).alloc _⟩
set_option maxRecDepth 100000 in
theorem refGood_good (b p c k t : Int) (w : World) (h : GoodG b p c k t) :
    Calls Try.prog 22 #[geoV b p c k t] w fun e w' => e = .returned (.bool true) ∧ Upd noBlock w w' := by
  obtain ⟨b1, b2, p1, p2, p4, c1, c2, k1, k2, t1, t2⟩ := h
  have r4 : (p % 4 != 0) = false := by rw [bne_eq_false_iff_eq]; exact p4
  clear p4
  unfold geoV
  go_enter Try.func22, Try.ntmps22
  go_wp2_with fail
  go_ret
  exact ⟨rfl, (Upd.refl _ _).alloc _⟩
theorem refGood_bad (b p c k t : Int) (w : World) (h : ¬ GoodG b p c k t) :
    Calls Try.prog 22 #[geoV b p c k t] w fun e w' => e = .returned (.bool false) ∧ Upd noBlock w w' := by
  by_cases q0 : b < 1
  · exact refGood_bad0 b p c k t w (by omega)
  by_cases q1 : 64 < b
  · exact refGood_bad1 b p c k t w (by omega) (by omega)
  by_cases q2 : p < 4
  · exact refGood_bad2 b p c k t w (by omega) (by omega) (by omega)
  by_cases q3 : 64 < p
  · exact refGood_bad3 b p c k t w (by omega) (by omega) (by omega) (by omega)
  by_cases q4 : p % 4 = 0
  · skip
    have r4 : (p % 4 != 0) = false := by rw [bne_eq_false_iff_eq]; exact q4
    by_cases q5 : c < 1
    · exact refGood_bad5 b p c k t w (by omega) (by omega) (by omega) (by omega) r4 (by omega)
    by_cases q6 : 4 < c
    · exact refGood_bad6 b p c k t w (by omega) (by omega) (by omega) (by omega) r4 (by omega) (by omega)
    by_cases q7 : k < 16
    · exact refGood_bad7 b p c k t w (by omega) (by omega) (by omega) (by omega) r4 (by omega) (by omega) (by omega)
    by_cases q8 : 256 < k
    · exact refGood_bad8 b p c k t w (by omega) (by omega) (by omega) (by omega) r4 (by omega) (by omega) (by omega) (by omega)
    by_cases q9 : t < 1
    · exact refGood_bad9 b p c k t w (by omega) (by omega) (by omega) (by omega) r4 (by omega) (by omega) (by omega) (by omega) (by omega)
    by_cases q10 : 8 < t
    · exact refGood_bad10 b p c k t w (by omega) (by omega) (by omega) (by omega) r4 (by omega) (by omega) (by omega) (by omega) (by omega) (by omega)
    exact absurd ⟨by omega, by omega, by omega, by omega, q4, by omega, by omega, by omega, by omega, by omega, by omega⟩ h
  · exact refGood_bad4 b p c k t w (by omega) (by omega) (by omega) (by omega) (by rw [bne_iff_ne]; exact q4)
end Go.Proofs.Ytnimgkijodfjkaa
