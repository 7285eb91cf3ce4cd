/- The packer in memory; its fill; New, Held, Flush, Add. -/
import Derived.Test.YthlheamnfjjamaaDoorZa
import Derived.Deep.QuietTactic
import Derived.BigQuiet
import Derived.StillTailTactics
import Derived.IntWalk
import Derived.Laws.DeepStrings4
namespace Go.Proofs.YthlheamnfjjamaaDoor
open Go.RowKit

theorem empQ (q : ByteArray) : q.toList.isEmpty = decide (q.size = 0) := by
  rw [ByteArray.toList_eq]
  have : q.size = q.data.toList.length := rfl
  rw [this]
  cases q.data.toList <;> simp
theorem eqQ (a b : ByteArray) : (a.toList == b.toList) = decide (a = b) := by
  rw [ByteArray.toList_eq, ByteArray.toList_eq]
  by_cases h : a = b
  · subst h; simp
  · rw [decide_eq_false h]
    apply beq_eq_false_iff_ne.2
    intro e
    exact h (ByteArray.ext (Array.ext' e))
/-- below B, w' is as w was, but for block g -/
structure Turn (B g : Nat) (w w' : World) : Prop where
  os : w'.os = w.os
  tape : w'.tape = w.tape
  output : w'.output = w.output
  size : w.heap.size ≤ w'.heap.size
  block : ∀ k, k < B → k ≠ g → w'.heap[k]? = w.heap[k]?
  far : ∀ (k : Nat) (C : Array Value) (e : TypeId) (z : Nat × Nat), w.heap[k]? = some (.cells C e z) → e ≠ 5 → e ≠ 100 → w'.heap[k]? = some (.cells C e z)
theorem Turn.refl (B g : Nat) (w : World) : Turn B g w w := ⟨rfl, rfl, rfl, Nat.le_refl _, fun _ _ _ => rfl, fun _ _ _ _ h _ _ => h⟩
theorem Turn.trans {B g : Nat} {a b c : World} (h : Turn B g a b) (k : Turn B g b c) : Turn B g a c :=
  ⟨k.os.trans h.os, k.tape.trans h.tape, k.output.trans h.output, Nat.le_trans h.size k.size, fun i hi hn => (k.block i hi hn).trans (h.block i hi hn), fun i C e z hi h1 h2 => k.far i C e z (h.far i C e z hi h1 h2) h1 h2⟩
theorem Turn.of_upd {B g : Nat} {w w' : World} {Cg : Array Value} {zg : Nat × Nat} (h : Upd (oneBlock g) w w') (hB : B ≤ w.heap.size) (hg : w.heap[g]? = some (.cells Cg 100 zg)) : Turn B g w w' :=
  ⟨h.os, h.tape, h.output, h.size, fun k hk hn => h.block k (by omega) hn, fun k C e z hk _ h2 => (h.block k (lt_of_block hk) (fun e1 => by
    have e1 : k = g := e1
    rw [e1, hg] at hk
    cases hk
    exact h2 rfl)).trans hk⟩
theorem Turn.upd {B g : Nat} {R : Nat → Prop} {a w w' : World} (h : Turn B g w w') (hu : Upd R a w) (ha : a.heap.size ≤ B) (hg : R g ∨ a.heap.size ≤ g) : Upd R a w' :=
  ⟨h.os.trans hu.os, h.tape.trans hu.tape, h.output.trans hu.output, Nat.le_trans hu.size h.size, fun k hk hn => (h.block k (by omega) (by
    rintro rfl
    rcases hg with hg | hg
    · exact hn hg
    · omega)).trans (hu.block k hk hn)⟩

/-! the fill -/
set_option maxRecDepth 20000 in
theorem fend_zero (g : Nat) (C : Array Value) (T : TypeId) (w : World) (hb : w.heap[g]? = some (.cells C T (0, 0))) (h1 : C[1]? = some (.int .i64 0)) :
    Calls Tryd.prog 54 #[.pointer (some ⟨g, 0, none⟩)] w fun e w' => e = .returned (.bool false) ∧ w = w' := by
  have c1 : w.cell? ⟨g, 1, none⟩ = some (.int .i64 0) := (cell_of hb 1).trans h1
  clear hb h1
  go_enter Tryd.func54, Tryd.ntmps54
  go_wp2
  go_ret
  exact ⟨rfl, rfl⟩
set_option maxRecDepth 20000 in
theorem fend_some (g h p : Nat) (C : Array Value) (T : TypeId) (w : World) (hb : w.heap[g]? = some (.cells C T (0, 0))) (h1 : C[1]? = some (.int .i64 (h : Int))) (h2 : C[2]? = some (.int .i64 (p : Int))) (h0 : 0 < h) (hp : p < 4611686018427387904) :
    Calls Tryd.prog 54 #[.pointer (some ⟨g, 0, none⟩)] w fun e w' => e = .returned (.bool true) ∧
      w'.heap[g]? = some (.cells ((C.setIfInBounds 1 (.int .i64 0)).setIfInBounds 2 (.int .i64 ((p : Int) + 1))) T (0, 0)) ∧ Upd (oneBlock g) w w' := by
  have c1 : w.cell? ⟨g, 1, none⟩ = some (.int .i64 (h : Int)) := (cell_of hb 1).trans h1
  have c2 : w.cell? ⟨g, 2, none⟩ = some (.int .i64 (p : Int)) := (cell_of hb 2).trans h2
  have f1 := free_of hb 1
  have f2 := free_of hb 2
  have eh : ((h : Int) == 0) = false := beq_eq_false_iff_ne.2 (by omega)
  have HB : Hid (∀ u v : Value, ((w.setCell ⟨g, 1, none⟩ u).setCell ⟨g, 2, none⟩ v).heap[g]? = some (.cells ((C.setIfInBounds 1 u).setIfInBounds 2 v) T (0, 0)) ∧ Upd (oneBlock g) w ((w.setCell ⟨g, 1, none⟩ u).setCell ⟨g, 2, none⟩ v)) := fun u v =>
    ⟨block_set (block_set hb u) v, ((Upd.refl (oneBlock g) w).setCell (p := ⟨g, 1, none⟩) (.inl rfl) u).setCell (p := ⟨g, 2, none⟩) (.inl rfl) v⟩
  clear hb h1 h2
  go_enter Tryd.func54, Tryd.ntmps54
  go_wp2
  go_ret
  exact ⟨rfl, HB.out _ _⟩
set_option maxRecDepth 20000 in
theorem fadd_fits (g s h n : Nat) (C : Array Value) (T : TypeId) (w : World) (hb : w.heap[g]? = some (.cells C T (0, 0))) (h0 : C[0]? = some (.int .i64 (s : Int))) (h1 : C[1]? = some (.int .i64 (h : Int))) (hs : s ≤ 2048) (hle : h + n ≤ s) :
    Calls Tryd.prog 52 #[.pointer (some ⟨g, 0, none⟩), .int .i64 (n : Int)] w fun e w' => e = .returned (.bool false) ∧
      w'.heap[g]? = some (.cells (C.setIfInBounds 1 (.int .i64 ((h + n : Nat) : Int))) T (0, 0)) ∧ Upd (oneBlock g) w w' := by
  have c0 : w.cell? ⟨g, 0, none⟩ = some (.int .i64 (s : Int)) := (cell_of hb 0).trans h0
  have c1 : w.cell? ⟨g, 1, none⟩ = some (.int .i64 (h : Int)) := (cell_of hb 1).trans h1
  have f1 := free_of hb 1
  have hw : IntKind.i64.wrap ((h : Int) + (n : Int)) = (h : Int) + (n : Int) := IntWalk.i64_in _ (by omega)
  have HB : Hid (∀ w1 : World, Upd noBlock w w1 → (w1.setCell ⟨g, 1, none⟩ (.int .i64 ((h : Int) + (n : Int)))).heap[g]? = some (.cells (C.setIfInBounds 1 (.int .i64 ((h + n : Nat) : Int))) T (0, 0)) ∧ Upd (oneBlock g) w (w1.setCell ⟨g, 1, none⟩ (.int .i64 ((h : Int) + (n : Int))))) := fun w1 hu =>
    ⟨by rw [Int.natCast_add]; exact block_set (hu.cells hb (fun h => h)) _, (show Upd (oneBlock g) w w1 from hu.mono fun _ _ h => h.elim).setCell (p := ⟨g, 1, none⟩) (.inl rfl) _⟩
  clear hb h1 h0
  go_enter Tryd.func52, Tryd.ntmps52
  go_wp2
  go_region
  all_goals
    go_wp2
    go_ret
    exact ⟨rfl, HB.out _ (Upd.refl noBlock w).drew⟩
set_option maxRecDepth 20000 in
theorem fadd_full (g s h p n : Nat) (C : Array Value) (T : TypeId) (w : World) (hb : w.heap[g]? = some (.cells C T (0, 0))) (h0 : C[0]? = some (.int .i64 (s : Int))) (h1 : C[1]? = some (.int .i64 (h : Int))) (h2 : C[2]? = some (.int .i64 (p : Int))) (hs : s ≤ 2048) (hh : h ≤ s) (hn : n ≤ s) (hle : s < h + n) (hp : p < 4611686018427387904) :
    Calls Tryd.prog 52 #[.pointer (some ⟨g, 0, none⟩), .int .i64 (n : Int)] w fun e w' => e = .returned (.bool true) ∧
      w'.heap[g]? = some (.cells (((C.setIfInBounds 1 (.int .i64 0)).setIfInBounds 2 (.int .i64 ((p : Int) + 1))).setIfInBounds 1 (.int .i64 (n : Int))) T (0, 0)) ∧ Upd (oneBlock g) w w' := by
  have c0 : w.cell? ⟨g, 0, none⟩ = some (.int .i64 (s : Int)) := (cell_of hb 0).trans h0
  have c1 : w.cell? ⟨g, 1, none⟩ = some (.int .i64 (h : Int)) := (cell_of hb 1).trans h1
  have hw : IntKind.i64.wrap ((h : Int) + (n : Int)) = (h : Int) + (n : Int) := IntWalk.i64_in _ (by omega)
  have HE := Lib.hid (fend_some g h p C T w.drew hb h1 h2 (by omega) hp)
  have hsz1 : 1 < C.size := (Array.getElem?_eq_some_iff.1 h1).1
  have HC : Hid (∀ w1 : World, w1.heap[g]? = some (.cells ((C.setIfInBounds 1 (.int .i64 0)).setIfInBounds 2 (.int .i64 ((p : Int) + 1))) T (0, 0)) → Upd (oneBlock g) w.drew w1 →
      (∃ u, w1.cell? ⟨g, 1, none⟩ = some u) ∧ w1.frozen? ⟨g, 1, none⟩ = false ∧ (w1.setCell ⟨g, 1, none⟩ (.int .i64 (n : Int))).heap[g]? = some (.cells (((C.setIfInBounds 1 (.int .i64 0)).setIfInBounds 2 (.int .i64 ((p : Int) + 1))).setIfInBounds 1 (.int .i64 (n : Int))) T (0, 0)) ∧ Upd (oneBlock g) w (w1.setCell ⟨g, 1, none⟩ (.int .i64 (n : Int)))) := fun w1 hb1 hu =>
    ⟨⟨.int .i64 0, by rw [cell_of hb1]; simp [hsz1]⟩, free_of hb1 1, block_set hb1 _, (((Upd.refl (oneBlock g) w).drew).trans hu).setCell (p := ⟨g, 1, none⟩) (.inl rfl) _⟩
  clear hb h0 h1 h2
  go_enter Tryd.func52, Tryd.ntmps52
  go_wp2
  go_region
  all_goals
    go_wp2_with (go_at_call 54; refine HE.out.mono ?_; rintro e w1 ⟨rfl, hb1, hu⟩; obtain ⟨⟨u, c1'⟩, f1, hb2, hu2⟩ := HC.out w1 hb1 hu; have HB2 := Lib.hid hb2; have HU2 := Lib.hid hu2; clear hb1 hu hb2 hu2)
    go_ret
    exact ⟨rfl, HB2.out, HU2.out⟩
end Go.Proofs.YthlheamnfjjamaaDoor
