/- The pair, the group of a page; two slices of int compared; a slice of int of the call's own. -/
import Derived.Test.YtkjajmhanhbkdaaRows
import Derived.Test.YtkjajmhanhbkdaaApp
import Derived.WalkKit
import Derived.Lib.Hide
import Derived.WalkSpells
import Derived.WalkLawsBesides
import Derived.BigQuiet
import Derived.BigRegion
import Derived.Deep.OwnRows
import Derived.Deep.QuietTactic
import Derived.OwnWalk
namespace Go.Proofs.Ytkjajmhanhbkdaa
open Go.RowKit

set_option maxRecDepth 100000 in
theorem pair_neg (p : Int) (w : World) (h : p < 0) :
    Calls Try.prog 18 #[.int .i64 p] w fun e w' => e = .returned (.tuple #[.int .i64 0, .bool false]) ∧ w = w' := by
  go_enter Try.func18, Try.ntmps18
  go_wp2
  go_ret2
  exact ⟨rfl, rfl⟩
set_option maxRecDepth 100000 in
theorem pair_low (p : Nat) (w : World) (hp : Hid (p ≤ 9223372036854775807)) (h : p % 4 < 2) :
    Calls Try.prog 18 #[.int .i64 (p : Int)] w fun e w' => e = .returned (.tuple #[.int .i64 ((p + 2 : Nat) : Int), .bool false]) ∧ w = w' := by
  have h2 : (p : Int) % 4 < 2 := by omega
  have hw : IntKind.i64.wrap ((p : Int) + 2) = (p : Int) + 2 := by have := hp.out; rw [IntKind.wrap_i64]; omega
  clear h
  go_enter Try.func18, Try.ntmps18
  go_wp2
  go_ret2
  exact ⟨rfl, rfl⟩
set_option maxRecDepth 100000 in
theorem pair_up (p : Nat) (w : World) (hp : Hid (p ≤ 9223372036854775807)) (h : ¬ p % 4 < 2) :
    Calls Try.prog 18 #[.int .i64 (p : Int)] w fun e w' => e = .returned (.tuple #[.int .i64 ((p - 2 : Nat) : Int), .bool true]) ∧ w = w' := by
  have h2 : ¬ (p : Int) % 4 < 2 := by omega
  have h3 : ((p - 2 : Nat) : Int) = (p : Int) - 2 := by omega
  have hw : IntKind.i64.wrap ((p : Int) - 2) = (p : Int) - 2 := by have := hp.out; rw [IntKind.wrap_i64]; omega
  have H3 := Lib.hid h3
  clear h3 h
  go_enter Try.func18, Try.ntmps18
  go_wp2
  go_ret2
  rw [H3.out]
  exact ⟨rfl, rfl⟩

/-- the group of a page -/
def grp (p : Nat) : Int := if p % 4 < 2 then 0 else 1
set_option maxRecDepth 100000 in
theorem group_neg (p : Int) (w : World) (h : p < 0) :
    Calls Try.prog 19 #[.int .i64 p] w fun e w' => e = .returned (.int .i64 0) ∧ w = w' := by
  go_enter Try.func19, Try.ntmps19
  go_wp2_with (go_at_call 18; refine (pair_neg _ _ h).mono ?_; rintro e w' ⟨rfl, rfl⟩)
  go_ret
  exact ⟨rfl, rfl⟩
set_option maxRecDepth 100000 in
theorem group_any (p : Nat) (w : World) (hp : p ≤ 9223372036854775807) :
    Calls Try.prog 19 #[.int .i64 (p : Int)] w fun e w' => e = .returned (.int .i64 (grp p)) ∧ w = w' := by
  have HP := Lib.hid hp
  clear hp
  by_cases h : p % 4 < 2
  · rw [show grp p = 0 from if_pos h]
    have H := Lib.hid h
    clear h
    go_enter Try.func19, Try.ntmps19
    go_wp2_with (go_at_call 18; refine (pair_low p _ HP H.out).mono ?_; rintro e w' ⟨rfl, rfl⟩)
    go_ret
    exact ⟨rfl, rfl⟩
  · rw [show grp p = 1 from if_neg h]
    have H := Lib.hid h
    clear h
    go_enter Try.func19, Try.ntmps19
    go_wp2_with (go_at_call 18; refine (pair_up p _ HP H.out).mono ?_; rintro e w' ⟨rfl, rfl⟩)
    go_ret
    exact ⟨rfl, rfl⟩
set_option maxRecDepth 100000 in
theorem lower_any (p : Nat) (w : World) :
    Calls Try.prog 14 #[.int .i64 (p : Int)] w fun e w' => e = .returned (.bool (decide (p % 4 < 2))) ∧ w = w' := by
  by_cases h : p % 4 < 2
  · rw [decide_eq_true h]
    by_cases h0 : p % 4 = 0
    · have h1 : ((p : Int) % 4 == 0) = true := beq_iff_eq.2 (by omega)
      clear h h0
      go_enter Try.func14, Try.ntmps14
      go_wp2
      go_ret
      exact ⟨rfl, rfl⟩
    · have h1 : ((p : Int) % 4 == 0) = false := beq_eq_false_iff_ne.2 (by omega)
      have h2 : ((p : Int) % 4 == 1) = true := beq_iff_eq.2 (by omega)
      clear h h0
      go_enter Try.func14, Try.ntmps14
      go_wp2
      go_ret
      exact ⟨rfl, rfl⟩
  · rw [decide_eq_false h]
    have h1 : ((p : Int) % 4 == 0) = false := beq_eq_false_iff_ne.2 (by omega)
    have h2 : ((p : Int) % 4 == 1) = false := beq_eq_false_iff_ne.2 (by omega)
    clear h
    go_enter Try.func14, Try.ntmps14
    go_wp2
    go_ret
    exact ⟨rfl, rfl⟩

set_option maxRecDepth 100000 in
theorem ints_yes (a : Option Addr) (n cap B : Nat) (a' : Option Addr) (cap' B' : Nat) (xs : List Int) (w : World) (hr : Ints w B a n xs) (hr' : Ints w B' a' n xs) (hm : n ≤ maxLen) :
    Calls Try.prog 13 #[.slice a n cap, .slice a' n cap'] w fun e w' => e = .returned (.bool true) ∧ Upd noBlock w w' := by
  have HR := Lib.hid hr
  have HR' := Lib.hid hr'
  have hm' : n ≤ 9223372036854775807 := hm
  clear hr hr' hm
  go_enter Try.func13, Try.ntmps13
  go_wp2
  go_loopw [5] (fun i wr => ∃ k : Nat, k ≤ n ∧ i = .int .i64 (k : Int) ∧ Hid (Upd noBlock w wr ∧ wr.heap = w.heap)) (fun i _ => n - (intOf i).toNat)
  case atStart => exact ⟨0, Nat.zero_le _, rfl, Upd.refl _ _, rfl⟩
  case round =>
    obtain ⟨k, hk, rfl, HU⟩ := hrel
    by_cases h0 : k < n
    · obtain ⟨g, off, rfl, hg, hc⟩ := HR.out.cell (by omega)
      obtain ⟨g', off', rfl, hg', hc'⟩ := HR'.out.cell (by omega)
      have c1 : wr.cell? ⟨g, off + k, none⟩ = some (.int .i64 (xs.getD k 0)) := (World.cell?_of_block (by rw [HU.out.2])).trans (hc k h0)
      have c2 : wr.cell? ⟨g', off' + k, none⟩ = some (.int .i64 (xs.getD k 0)) := (World.cell?_of_block (by rw [HU.out.2])).trans (hc' k h0)
      clear hc hc'
      go_wp2
      go_quiet (fail)
      go_wp2
      go_roundw
      case rel => exact ⟨k + 1, by omega, by go_num, HU.out.1.drewN _, HU.out.2⟩
      case measure => simp [intOf]; omega
    · obtain rfl : k = n := by omega
      go_wp2
      go_ret
      exact ⟨rfl, HU.out.1⟩

theorem Upd.grownOwn {a b c : World} {v : Value} (h : Upd noBlock a b) (g : b.grownBy c v.ownBlock) (hv : ∀ k, v.ownBlock = some k → a.heap.size ≤ k) : Upd noBlock a c :=
  ⟨g.os.trans h.os, g.tape.trans h.tape, g.output.trans h.output, Nat.le_trans h.size g.size, fun i hi hn => (g.block i (Nat.lt_of_lt_of_le hi h.size) (fun e => by have := hv i e.symm; omega)).trans (h.block i hi hn)⟩
/-- a slice of int, new since B, that reads as xs -/
def OwnV (w : World) (B : Nat) (v : Value) (xs : List Int) : Prop :=
  w.ownsRow B 3 1 v xs.length (vals xs)
theorem OwnV.sl {w : World} {B : Nat} {v : Value} {xs : List Int} (h : OwnV w B v xs) :
    ∃ a c, v = .slice a xs.length c ∧ Ints w w.heap.size a xs.length xs ∧ xs.length ≤ maxLen ∧ (∀ g, a.map Addr.block = some g → B ≤ g ∧ g < w.heap.size ∧ v.ownBlock = some g ∧ ∃ cs, w.heap[g]? = some (.cells cs 3 (0, 0))) := own_ints h
theorem OwnV.upd {w w' : World} {B : Nat} {v : Value} {xs : List Int} (h : OwnV w B v xs) {R : Nat → Prop} (hu : Upd R w w') (hR : ∀ g, v.ownBlock = some g → ¬ R g) : OwnV w' B v xs := by
  obtain ⟨hl, h⟩ := h
  refine ⟨hl, ?_⟩
  rcases h with ⟨h1, h2⟩ | ⟨g, cap, cur, rfl, hb, hg, r⟩
  · exact .inl ⟨h1, h2⟩
  · exact .inr ⟨g, cap, cur, rfl, hb, (hu.block g (lt_of_block hg) (hR g rfl)).trans hg, r⟩
theorem OwnV.grow {w w' : World} {B : Nat} {v : Value} {xs : List Int} (h : OwnV w B v xs) (hu : Upd noBlock w w') : OwnV w' B v xs := h.upd hu fun _ _ h => h
theorem OwnV.more {w : World} {B B' : Nat} {v : Value} {xs : List Int} (h : OwnV w B v xs) (hB : B' ≤ B) : OwnV w B' v xs := by
  obtain ⟨hl, h⟩ := h
  refine ⟨hl, ?_⟩
  rcases h with ⟨h1, h2⟩ | ⟨g, cap, cur, rfl, hb, hg, r⟩
  · exact .inl ⟨h1, h2⟩
  · exact .inr ⟨g, cap, cur, rfl, Nat.le_trans hB hb, hg, r⟩
theorem OwnV.nil (w : World) (B : Nat) : OwnV w B (.slice none 0 0) [] := World.ownsRow_nil _ _ _ _
/-- one element more -/
theorem OwnV.snoc {w : World} {B : Nat} {v : Value} {xs : List Int} {x : Int} (h : w.ownsRow B 3 1 v (xs.length + 1) (vals xs ++ vals [x])) : OwnV w B v (xs ++ [x]) := by
  unfold OwnV
  have e : (xs ++ [x]).length = xs.length + 1 := by simp
  have e2 : vals (xs ++ [x]) = vals xs ++ vals [x] := by simp [vals]
  rw [e, e2]; exact h
theorem ints_new (w : World) (x : Int) : Ints (w.alloc (.cells #[.int .i64 x] 3)) (w.heap.size + 1) (some ⟨w.heap.size, 0, none⟩) 1 [x] :=
  ⟨rfl, fun _ => ⟨w.heap.size, 0, rfl, by omega, fun j hj => by
    obtain rfl : j = 0 := by omega
    rw [cell_of (heap_alloc_new w _)]; rfl⟩⟩
theorem intParts7 : ∃ i0, Try.prog.info? 3 = some i0 ∧ i0.zero = some (.int .i64 0) ∧ i0.size = 1 ∧ i0.bytes = 8 := by
  have intCells : (Try.prog.info? 3).map (fun i => (i.zero, i.size, i.bytes)) = some (some (.int .i64 0), 1, 8) := by kernel_rfl
  obtain ⟨i0, h1, h2⟩ := Option.map_eq_some_iff.1 intCells
  simp only [Prod.mk.injEq] at h2
  exact ⟨i0, h1, h2.1, h2.2.1, h2.2.2⟩
end Go.Proofs.Ytkjajmhanhbkdaa
