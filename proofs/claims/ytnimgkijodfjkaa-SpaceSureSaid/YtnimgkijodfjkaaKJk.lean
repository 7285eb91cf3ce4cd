/- index's Store on no tree: it ranges over functions that yield nothing. -/
import Derived.Test.YtnimgkijodfjkaaKJf
import Derived.RangeFuncBox
import Derived.RangeFuncFrom
import Derived.RangeFuncBound
import Derived.RangeFuncCalls
import Derived.RangeFuncLeaves
import Derived.RangeFuncWrites
import Derived.Shelf.Abstract
import Derived.Shelf.RegionOpen
import Derived.OwnWalkIn
import Derived.TacticsInMore
import Derived.RegionIn
import Derived.LoopNIn
import Derived.LoopIn
namespace Go.Proofs.Ytnimgkijodfjkaa
open Go.RowKit Pm
attribute [local go_sem] Oper.semAt_some
set_option linter.unusedVariables false

abbrev NF : Fence := { fn := fun _ => True }
theorem upd_grownK {R : Nat → Prop} {w W W' : World} {row : Option Nat} (h : Upd R w W) (hg : W.grownBy W' row) (hr : ∀ r, row = some r → w.heap.size ≤ r) : Upd R w W' :=
  ⟨hg.os.trans h.os, hg.tape.trans h.tape, hg.output.trans h.output, Nat.le_trans h.size hg.size, fun k hk hn => (hg.block k (Nat.lt_of_lt_of_le hk h.size) (fun e => by have := hr k e.symm; omega)).trans (h.block k hk hn)⟩
theorem own_updK {wS : World} {C : Nat} (hC : wS.heap.size ≤ C) : OwnFrom C (fun (_ : List Empty) W => Upd noBlock wS W) := fun s W W' row h hg hr => upd_grownK h hg (fun r e => Nat.le_trans hC (hr r e).1)
theorem grown_updK {W W' : World} (h : Upd noBlock W W') : W.grownBy W' none := ⟨h.os, h.tape, h.output, h.size, fun k hk _ => h.block k hk id⟩
/-- an iterator that yields nothing -/
def Dry (n g : Nat) (lb : Array Value) (ps : Nat) (w : World) : Prop := SeqStopsK NF n Try.prog g lb (fun _ : Empty => Array.replicate ps undef) (fun _ _ => True) (fun _ => True) (fun _ => False) 0 w
theorem dry_of {n g : Nat} {lb : Array Value} {ps : Nat} {w : World} (h : ∀ (l : Nat) (W : World), Below w.heap.size w W → CallsIn NF n Try.prog g (#[.func (.yield l) #[] #[]] ++ lb) W fun e W' => (∃ v, e = .returned v) ∧ Upd noBlock W W') : Dry n g lb ps w :=
  fun l J Jx W hW hJ _ _ h0 => (h l W hW).mono fun e W' ⟨hv, hu⟩ => ⟨hv, .inl ⟨[], trivial, hJ [] W W' none h0 (grown_updK hu) (fun r e => by cases e)⟩⟩

set_option maxRecDepth 100000 in
theorem range1_dry (n B1 B2 B3 : Nat) (ps : Nat) (w : World) (h1 : B1 < w.heap.size) (hc : w.cell? ⟨B1, 0, none⟩ = some (.pointer none)) :
    Dry n 62 #[.pointer (some ⟨B1, 0, none⟩), .pointer (some ⟨B2, 0, none⟩), .pointer (some ⟨B3, 0, none⟩)] ps w := by
  refine dry_of fun l W hW => ?_
  have hc1 : W.cell? ⟨B1, 0, none⟩ = some (.pointer none) := (hW.cell (p := ⟨B1, 0, none⟩) h1).trans hc
  have U0 : Hid (Upd noBlock W (W.alloc (.cells #[.func (.yield l) #[] #[]] 129))) := (Upd.refl _ _).alloc _
  have hc2 : (W.alloc (.cells #[.func (.yield l) #[] #[]] 129)).cell? ⟨B1, 0, none⟩ = some (.pointer none) := (World.cell?_of_block (U0.out.block B1 (Nat.lt_of_lt_of_le h1 hW.size) id)).trans hc1
  clear hc h1
  refine callsIn_of_wp Try.func62 rfl trivial ?_ rfl
  simp only [Try.ntmps62, List.size_toArray, List.length_cons, List.length_nil, Nat.reduceAdd, Nat.reduceSub, Array.replicate_succ, Array.replicate_zero, List.push_toArray, List.append_toArray, List.nil_append, List.cons_append]
  gi_wp2
  exact bodyPost_ret (results_none rfl _ _ _) rfl ⟨⟨_, rfl⟩, (Upd.refl _ _).alloc _⟩
set_option maxRecDepth 100000 in
theorem range_in (n : Nat) (w : World) :
    CallsIn NF n Try.prog 46 #[.pointer none, .string ⟨#[]⟩, .string ⟨#[]⟩] w fun e w' => e = .returned (.func (.func 62) #[] #[.pointer (some ⟨w.heap.size, 0, none⟩), .pointer (some ⟨w.heap.size + 1, 0, none⟩), .pointer (some ⟨w.heap.size + 1 + 1, 0, none⟩)]) ∧ w'.cell? ⟨w.heap.size, 0, none⟩ = some (.pointer none) ∧ w.heap.size < w'.heap.size ∧ Upd noBlock w w' := by
  have k1 := heap_alloc_new w (.cells #[.pointer none] 108)
  refine callsIn_of_wp Try.func46 rfl trivial ?_ rfl
  simp only [Try.ntmps46, List.size_toArray, List.length_cons, List.length_nil, Nat.reduceAdd, Nat.reduceSub, Array.replicate_succ, Array.replicate_zero, List.push_toArray, List.append_toArray, List.nil_append, List.cons_append]
  gi_wp2
  go_ret
  exact ⟨rfl, cell_of (block_alloc (block_alloc k1 _) _) 0, by simp; omega, (((Upd.refl _ _).alloc _).alloc _).alloc _⟩
/-- the value that Range hands out on no tree -/
def rangeV (B : Nat) : Value := .func (.func 62) #[] #[.pointer (some ⟨B, 0, none⟩), .pointer (some ⟨B + 1, 0, none⟩), .pointer (some ⟨B + 1 + 1, 0, none⟩)]
set_option maxRecDepth 100000 in
theorem laid_in (n B : Nat) (lv y : Int) (w : World) :
    CallsIn NF n Try.prog 47 #[.int .i64 lv, .int .i64 y, rangeV B] w fun e w' => e = .returned (.func (.func 65) #[] #[.pointer (some ⟨w.heap.size + 1 + 1, 0, none⟩), .pointer (some ⟨w.heap.size + 1, 0, none⟩), .pointer (some ⟨w.heap.size, 0, none⟩)]) ∧ w'.cell? ⟨w.heap.size + 1 + 1, 0, none⟩ = some (rangeV B) ∧ w.heap.size + 1 + 1 < w'.heap.size ∧ Upd noBlock w w' := by
  unfold rangeV
  have k1 := heap_alloc_new ((w.alloc (.cells #[.int .i64 lv] 3)).alloc (.cells #[.int .i64 y] 3)) (.cells #[rangeV B] 110)
  simp only [World.size_alloc] at k1
  refine callsIn_of_wp Try.func47 rfl trivial ?_ rfl
  simp only [Try.ntmps47, List.size_toArray, List.length_cons, List.length_nil, Nat.reduceAdd, Nat.reduceSub, Array.replicate_succ, Array.replicate_zero, List.push_toArray, List.append_toArray, List.nil_append, List.cons_append]
  gi_wp2
  go_ret
  exact ⟨rfl, cell_of k1 0, by simp, (((Upd.refl _ _).alloc _).alloc _).alloc _⟩
set_option maxRecDepth 100000 in
theorem laid1_dry (n : Nat) (hn : 2 ≤ n) (E1 E2 E3 B : Nat) (ps : Nat) (w : World) (h1 : E1 < w.heap.size) (h2 : B < w.heap.size) (hc : w.cell? ⟨E1, 0, none⟩ = some (rangeV B)) (hb : w.cell? ⟨B, 0, none⟩ = some (.pointer none)) :
    Dry n 65 #[.pointer (some ⟨E1, 0, none⟩), .pointer (some ⟨E2, 0, none⟩), .pointer (some ⟨E3, 0, none⟩)] ps w := by
  refine dry_of fun l W hW => ?_
  obtain ⟨Wd, hWd⟩ : ∃ Wd, Wd = (W.alloc (.cells #[.func (.yield l) #[] #[]] 129)).alloc (.cells #[.string ⟨#[]⟩, .int .i64 0, .slice none 0 0] 142) := ⟨_, rfl⟩
  have UD : Hid (Upd noBlock W Wd) := by rw [hWd]; exact ((Upd.refl _ _).alloc _).alloc _
  have HD : Hid (Wd.heap[W.heap.size + 1]? = some (.cells #[.string ⟨#[]⟩, .int .i64 0, .slice none 0 0] 142 (0, 0))) := by
    rw [hWd]; have := heap_alloc_new (W.alloc (.cells #[.func (.yield l) #[] #[]] 129)) (.cells #[.string ⟨#[]⟩, .int .i64 0, .slice none 0 0] 142)
    simp only [World.size_alloc] at this; exact this
  have SD : Hid (Wd.heap.size = W.heap.size + 2) := Lib.hid (by rw [hWd]; simp)
  have l1 : E1 < W.heap.size := Nat.lt_of_lt_of_le h1 hW.size
  have l2 : B < W.heap.size := Nat.lt_of_lt_of_le h2 hW.size
  have hc1 : Wd.cell? ⟨E1, 0, none⟩ = some (rangeV B) := (World.cell?_of_block (UD.out.block E1 l1 id)).trans ((hW.cell (p := ⟨E1, 0, none⟩) h1).trans hc)
  have hb1 : Hid (Wd.cell? ⟨B, 0, none⟩ = some (.pointer none)) := (World.cell?_of_block (UD.out.block B l2 id)).trans ((hW.cell (p := ⟨B, 0, none⟩) h2).trans hb)
  have hn1 : 1 ≤ n := by omega
  have hB : B < Wd.heap.size := by have := SD.out; omega
  have hDs : Hid (W.heap.size + 1 < Wd.heap.size) := by have := SD.out; show _ < _; omega
  clear hc hb h1 h2 l1 l2
  unfold rangeV at hc1
  rw [hWd] at hc1
  refine callsIn_of_wp_marks Try.func65 rfl trivial ?_ rfl
  simp only [Try.ntmps65, List.size_toArray, List.length_cons, List.length_nil, Nat.reduceAdd, Nat.reduceSub, Array.replicate_succ, Array.replicate_zero, List.push_toArray, List.append_toArray, List.nil_append, List.cons_append]
  gi_wp2
  rw [← hWd]
  clear hWd hc1
  refine wpIn_rangeFunc_ownG rfl hn1 (gf := 62) (lb := #[.pointer (some ⟨B, 0, none⟩), .pointer (some ⟨B + 1, 0, none⟩), .pointer (some ⟨B + 1 + 1, 0, none⟩)]) rfl trivial (enters_of Try.func62 (by kernel_rfl) rfl)
    (range1_dry (n - 1) B (B + 1) (B + 1 + 1) 2 Wd hB hb1.out) (fun _ _ => trivial) (fun _ _ _ _ _ _ _ _ => trivial) (Below.refl _ _) (fun x => nomatch x)
    (fun _ W2 => Upd noBlock Wd W2) (fun _ _ _ => False) (own_updK (Nat.le_refl _)) (fun _ _ _ _ _ hs _ _ => hs) (Upd.refl _ _) (fun x => nomatch x) ?assign ?body ?done ?stop
  case assign =>
    intro l x
    exact nomatch x
  case body =>
    intro l pre x
    exact nomatch x
  case done =>
    rintro D ys W2 hD _ hI hK
    have z := (hI.block _ hDs.out id).trans HD.out
    have c1 : W2.cell? ⟨W.heap.size + 1, 1, none⟩ = some (.int .i64 0) := cell_of z 1
    clear z
    gi_wp2
    refine ⟨by simp, .inl ⟨_, _, rfl, run_takeDeferred hK, ?_⟩⟩
    have hF := (own_updK (wS := Wd) (C := Wd.heap.size) (Nat.le_refl _)).putObj (s := []) (.deferred none) hI hD hK rfl
    exact ⟨_, results_none rfl _ _ _, ⟨_, rfl⟩, UD.out.trans hF⟩
  case stop =>
    rintro D c pre W2 _ _ h _
    exact h.elim
theorem results_cell_cell {fn : Func} {p q : Tmp} {t1 t2 : TypeId} (h : fn.results = #[.cell p t1, .cell q t2]) (tmps : Array Value) (P : Program) (w : World) :
    (results fn tmps).run P w =
      ((asAddr (tmps.getD p undef)).run P w).andThen fun a w₁ => ((loadVar t1 a).run P w₁).andThen fun v w₂ => ((asAddr (tmps.getD q undef)).run P w₂).andThen fun a' w₃ => ((loadVar t2 a').run P w₃).andThen fun v' w₄ => .ok (.tuple #[v, v']) w₄ := by
  simp only [results, h]
  simp [Sem.run_bind, Result.andThen]
theorem res_store (W : World) (g : Nat) (tmps : Array Value) (h4 : tmps.getD 4 undef = .pointer (some ⟨g, 0, none⟩)) (h5 : tmps.getD 5 undef = .pointer (some ⟨g + 1, 0, none⟩))
    (c1 : W.cell? ⟨g, 0, none⟩ = some (.slice none 0 0)) (c2 : W.cell? ⟨g + 1, 0, none⟩ = some (.int .i64 0)) :
    (results Try.f33 tmps).run Try.prog W = .ok (.tuple #[.slice none 0 0, .int .i64 0]) W := by
  rw [results_cell_cell rfl, h4, h5]
  simp [go_sem, c1, c2]
set_option maxRecDepth 100000 in
set_option maxHeartbeats 2000000 in
theorem store_in (n : Nat) (hn : 3 ≤ n) (y : Int) (w : World) (y1 : 200 ≤ y) (y2 : y ≤ 2048) :
    CallsIn NF n Try.prog 33 #[.pointer none, .int .i64 y] w fun e w' => e = .returned (.tuple #[.slice none 0 0, .int .i64 0]) ∧ Upd noBlock w w' := by
  have hn1 : 1 ≤ n := by omega
  have HRG := Lib.hid (fun W => range_in (n - 1) W)
  obtain ⟨wx, hwx⟩ : ∃ wx, wx = (w.alloc (.cells #[.slice none 0 0] 91)).alloc (.cells #[.int .i64 0] 64) := ⟨_, rfl⟩
  have UX : Hid (Upd noBlock w wx) := by rw [hwx]; exact ((Upd.refl _ _).alloc _).alloc _
  have HX : Hid (wx.heap[w.heap.size]? = some (.cells #[.slice none 0 0] 91 (0, 0)) ∧ wx.heap[w.heap.size + 1]? = some (.cells #[.int .i64 0] 64 (0, 0)) ∧ wx.heap.size = w.heap.size + 1 + 1) := by
    rw [hwx]
    refine ⟨block_alloc (heap_alloc_new w _) _, ?_, by simp⟩
    have := heap_alloc_new (w.alloc (.cells #[.slice none 0 0] 91)) (.cells #[.int .i64 0] 64)
    simp only [World.size_alloc] at this; exact this
  refine callsIn_of_wp_marks Try.func33 rfl trivial ?_ rfl
  simp only [Try.ntmps33, List.size_toArray, List.length_cons, List.length_nil, Nat.reduceAdd, Nat.reduceSub, Array.replicate_succ, Array.replicate_zero, List.push_toArray, List.append_toArray, List.nil_append, List.cons_append]
  gi_wp2_with (gi_at_call 46; rw [← hwx]; refine (HRG.out _).mono ?_; rintro e w1 ⟨rfl, hc1, hs1, hu1⟩)
  rw [HX.out.2.2] at hc1 hs1
  try rw [HX.out.2.2]
  have C1 := Lib.hid hc1
  have U1 := Lib.hid hu1
  have S1 := Lib.hid hs1
  clear hc1 hs1 hu1
  refine wpIn_rangeFunc_ownG rfl hn1 (gf := 62) (lb := #[.pointer (some ⟨w.heap.size + 1 + 1, 0, none⟩), .pointer (some ⟨w.heap.size + 1 + 1 + 1, 0, none⟩), .pointer (some ⟨w.heap.size + 1 + 1 + 1 + 1, 0, none⟩)]) rfl trivial (enters_of Try.func62 (by kernel_rfl) rfl)
    (range1_dry (n - 1) (w.heap.size + 1 + 1) (w.heap.size + 1 + 1 + 1) (w.heap.size + 1 + 1 + 1 + 1) 2 w1 S1.out C1.out) (fun _ _ => trivial) (fun _ _ _ _ _ _ _ _ => trivial) (Below.refl _ _) (fun x => nomatch x)
    (fun _ W2 => Upd noBlock w1 W2) (fun _ _ _ => False) (own_updK (Nat.le_refl _)) (fun _ _ _ _ _ hs _ _ => hs) (Upd.refl _ _) (fun x => nomatch x) ?assign ?body ?done ?stop
  case assign =>
    intro l x
    exact nomatch x
  case body =>
    intro l pre x
    exact nomatch x
  case stop =>
    rintro D c pre W2 _ _ h _
    exact h.elim
  case done =>
    rintro D1 ys W2 hD1 _ hI hK1
    have U2 : Hid (Upd noBlock wx W2) := U1.out.trans hI
    have K1 := Lib.hid hK1
    clear hK1 hI
    have hsz1 := U1.out.size
    have hx2 := HX.out.2.2
    have hD1' : w.heap.size + 1 < D1 := by omega
    have HLD := Lib.hid (fun B W => laid_in (n - 1) B 0 y W)
    gi_wp2_with (gi_at_call 46; refine (HRG.out _).mono ?_; rintro e w3 ⟨rfl, hc3, hs3, hu3⟩)
    obtain ⟨B, hB⟩ : ∃ B, B = (W2.alloc (.cells #[.slice none 0 0] 91)).heap.size := ⟨_, rfl⟩
    have hB2 : B = W2.heap.size + 1 := by rw [hB]; exact Array.size_push ..
    have A3 : Hid (w3.heap[W2.heap.size]? = some (.cells #[.slice none 0 0] 91 (0, 0))) := by
      have h := heap_alloc_new W2 (.cells #[.slice none 0 0] 91)
      exact (hu3.block _ (lt_of_block h) id).trans h
    have U3 : Hid (Upd noBlock W2 w3) := ((Upd.refl _ _).alloc _).trans hu3
    rw [← hB] at hc3 hs3
    try rw [← hB]
    try rw [← hB2]
    have C3 := Lib.hid hc3
    have S3 := Lib.hid hs3
    have HB2 := Lib.hid hB2
    clear hc3 hs3 hu3 hB hB2
    gi_loopw [9, 10] (fun ev lv wr => ev = rangeV B ∧ lv = .int .i64 0 ∧ Hid (w3 = wr)) (fun _ _ _ => 0)
    case atStart => exact ⟨rfl, rfl, rfl⟩
    case round =>
      obtain ⟨rfl, rfl, HW⟩ := hrel
      obtain rfl := HW.out
      clear HW
      gi_wp2_with (gi_at_call 47; refine (HLD.out B _).mono ?_; rintro e w5 ⟨rfl, hc5, hs5, hu5⟩)
      obtain ⟨E, hE⟩ : ∃ E, E = (w3.alloc (.cells #[.slice none 0 0] 112)).heap.size := ⟨_, rfl⟩
      have hE2 : E = w3.heap.size + 1 := by rw [hE]; exact Array.size_push ..
      have A5 : Hid (w5.heap[w3.heap.size]? = some (.cells #[.slice none 0 0] 112 (0, 0))) := by
        have h := heap_alloc_new w3 (.cells #[.slice none 0 0] 112)
        exact (hu5.block _ (lt_of_block h) id).trans h
      have U5 : Hid (Upd noBlock w3 w5) := ((Upd.refl _ _).alloc _).trans hu5
      rw [← hE] at hc5 hs5
      try rw [← hE]
      try rw [← hE2]
      have C5 : Hid (w5.cell? ⟨B, 0, none⟩ = some (.pointer none)) := (World.cell?_of_block (U5.out.block B S3.out id)).trans C3.out
      have hB5 : Hid (B < w5.heap.size) := Nat.lt_of_lt_of_le S3.out U5.out.size
      clear hE hE2 hu5
      refine wpIn_rangeFunc_ownG rfl hn1 (gf := 65) (lb := #[.pointer (some ⟨E + 1 + 1, 0, none⟩), .pointer (some ⟨E + 1, 0, none⟩), .pointer (some ⟨E, 0, none⟩)]) rfl trivial (enters_of Try.func65 (by kernel_rfl) rfl)
        (laid1_dry (n - 1) (by omega) (E + 1 + 1) (E + 1) E B 2 w5 hs5 hB5.out hc5 C5.out) (fun _ _ => trivial) (fun _ _ _ _ _ _ _ _ => trivial) (Below.refl _ _) (fun x => nomatch x)
        (fun _ W6 => Upd noBlock w5 W6) (fun _ _ _ => False) (own_updK (Nat.le_refl _)) (fun _ _ _ _ _ hs _ _ => hs) (Upd.refl _ _) (fun x => nomatch x) ?assign ?body ?done ?stop
      case assign =>
        intro l x
        exact nomatch x
      case body =>
        intro l pre x
        exact nomatch x
      case stop =>
        rintro D c pre W6 _ _ h _
        exact h.elim
      case done =>
        rintro D2 zs W6 hD2 _ hI hK2
        have U26 : Hid (Upd noBlock W2 W6) := U3.out.trans (U5.out.trans hI)
        have UX6 : Hid (Upd noBlock wx W6) := U2.out.trans U26.out
        have b1 := (UX6.out.block _ (lt_of_block HX.out.1) id).trans HX.out.1
        have b2 := (UX6.out.block _ (lt_of_block HX.out.2.1) id).trans HX.out.2.1
        have b3 := (hI.block _ (lt_of_block A5.out) id).trans A5.out
        have b4 := ((U5.out.trans hI).block _ (lt_of_block A3.out) id).trans A3.out
        have K16 : Hid (W6.heap[D1]? = some (.deferred (some []))) := (U26.out.block D1 (lt_of_block K1.out) id).trans K1.out
        have c1 := fun i => cell_of b1 i
        have c2 := fun i => cell_of b2 i
        have f1 := fun i => free_of b1 i
        have f2 := fun i => free_of b2 i
        have c3 : W6.cell? ⟨w3.heap.size, 0, none⟩ = some (.slice none 0 0) := cell_of b3 0
        have c4 : W6.cell? ⟨W2.heap.size, 0, none⟩ = some (.slice none 0 0) := cell_of b4 0
        have BB := Lib.hid (And.intro b1 b2)
        clear b1 b2 b3 b4 hx2 hsz1
        gi_wp2
        have lx := HX.out.2.2
        have ls1 := U1.out.size
        have lD1 : D1 < W2.heap.size := lt_of_block K1.out
        have lD2 : W2.heap.size ≤ D2 := Nat.le_trans (Nat.le_trans U3.out.size U5.out.size) hD2
        have n1 : ¬ D2 = w.heap.size := by omega
        have n2 : ¬ D2 = w.heap.size + 1 := by omega
        have n3 : ¬ D1 = w.heap.size := by omega
        have n4 : ¬ D1 = w.heap.size + 1 := by omega
        have n5 : ¬ D1 = D2 := by omega
        obtain ⟨Wf, hWf⟩ : ∃ Wf, Wf = (W6.setCell ⟨w.heap.size, 0, none⟩ (.slice none 0 0)).setCell ⟨w.heap.size + 1, 0, none⟩ (.int .i64 0) := ⟨_, rfl⟩
        have k2 : Wf.heap[D2]? = some (.deferred (some [])) := by rw [hWf]; exact (Below.heap_setCell _ _ _ _ n2).trans ((Below.heap_setCell _ _ _ _ n1).trans hK2)
        have k1 : Wf.heap[D1]? = some (.deferred (some [])) := by rw [hWf]; exact (Below.heap_setCell _ _ _ _ n4).trans ((Below.heap_setCell _ _ _ _ n3).trans K16.out)
        have uf : Upd noBlock w Wf := by rw [hWf]; exact ((UX.out.trans UX6.out).setCell (.inr (Nat.le_refl _)) _).setCell (.inr (Nat.le_succ _)) _
        have d1 : Wf.cell? ⟨w.heap.size, 0, none⟩ = some (.slice none 0 0) := by
          rw [hWf]; exact cell_of (block_set_other (block_set BB.out.1 _) (by show ¬ w.heap.size = w.heap.size + 1; omega) _) 0
        have d2 : Wf.cell? ⟨w.heap.size + 1, 0, none⟩ = some (.int .i64 0) := by
          rw [hWf]; exact cell_of (block_set (block_set_other BB.out.2 (by show ¬ w.heap.size + 1 = w.heap.size; omega) _) _) 0
        rw [← hWf]
        have k1' : (Wf.putObj D2 (.deferred none)).heap[D1]? = some (.deferred (some [])) := (World.putObj_heap_other n5).trans k1
        refine ⟨by simp, .inl ⟨_, _, rfl, run_takeDeferred k2, by simp, .inl ⟨_, _, rfl, run_takeDeferred k1', ?_⟩⟩⟩
        have uf2 : Upd noBlock w ((Wf.putObj D2 (.deferred none)).putObj D1 (.deferred none)) :=
          upd_grownK (upd_grownK uf (grownBy_putObj' Wf D2 _) (fun r e => by cases e; omega)) (grownBy_putObj' _ D1 _) (fun r e => by cases e; omega)
        have e1 : ((Wf.putObj D2 (.deferred none)).putObj D1 (.deferred none)).cell? ⟨w.heap.size, 0, none⟩ = some (.slice none 0 0) :=
          (World.cell?_of_block ((World.putObj_heap_other (fun e => n3 e.symm)).trans (World.putObj_heap_other (fun e => n1 e.symm)))).trans d1
        have e2 : ((Wf.putObj D2 (.deferred none)).putObj D1 (.deferred none)).cell? ⟨w.heap.size + 1, 0, none⟩ = some (.int .i64 0) :=
          (World.cell?_of_block ((World.putObj_heap_other (fun e => n4 e.symm)).trans (World.putObj_heap_other (fun e => n2 e.symm)))).trans d2
        exact ⟨_, res_store _ w.heap.size _ rfl rfl e1 e2, rfl, uf2⟩
/-- and without the fence -/
theorem store_any (y : Int) (w : World) (y1 : 200 ≤ y) (y2 : y ≤ 2048) :
    Calls Try.prog 33 #[.pointer none, .int .i64 y] w fun e w' => e = .returned (.tuple #[.slice none 0 0, .int .i64 0]) ∧ Upd noBlock w w' :=
  CallsIn.calls (store_in 3 (Nat.le_refl _) y w y1 y2) (fun k d h => by cases h)
end Go.Proofs.Ytnimgkijodfjkaa
