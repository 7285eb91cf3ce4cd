/- What a plan holds: canHold; what nodes need, and whether they fit. -/
import Derived.Test.YtnimgkijodfjkaaKJk
import Derived.Test.YtnimgkijodfjkaaKJi
import Derived.Test.YtnimgkijodfjkaaKJq
namespace Go.Proofs.Ytnimgkijodfjkaa
open Go.RowKit Pm
set_option linter.unusedVariables false

set_option maxRecDepth 100000 in
theorem canHold_any (j h s y : Int) (r : Nat) (w : World) (h1 : 1 ≤ r) (hr : r ≤ 62) (y1 : 249 ≤ y) (y2 : y ≤ 1100) :
    Calls Try.prog 25 #[planV j h (r : Int) y s] w fun e w' => e = .returned (.bool true) ∧ Upd noBlock w w' := by
  have HS := Lib.hid (fun W => store_any y W (by omega) (by omega))
  obtain ⟨wa, hwa⟩ : ∃ wa, wa = w.alloc (.cells #[.int .i64 j, .int .i64 h, .int .i64 (r : Int), .int .i64 y, .int .i64 s] 25) := ⟨_, rfl⟩
  have HG : Hid (wa.heap[w.heap.size]? = some (.cells #[.int .i64 j, .int .i64 h, .int .i64 (r : Int), .int .i64 y, .int .i64 s] 25 (0, 0))) := by rw [hwa]; exact heap_alloc_new w _
  have UA : Hid (Upd noBlock w wa) := by rw [hwa]; exact (Upd.refl _ _).alloc _
  have hb0 := fun i => cell_of HG.out i
  unfold planV
  go_enter Try.func25, Try.ntmps25
  go_upto_region 1 with fail
  rw [← hwa]
  clear hwa
  go_wp2_with (go_at_call 33; (with_reducible refine (HS.out _).mono ?_); rintro e w2 ⟨rfl, hu⟩; have g2 := (hu.block _ (lt_of_block HG.out) id).trans HG.out; clear hb0; have hb2 := fun i => cell_of g2 i; have U2 := Lib.hid (UA.out.trans hu); clear hu g2)
  go_ret
  exact ⟨rfl, U2.out⟩
set_option maxRecDepth 100000 in
set_option maxHeartbeats 1600000 in
theorem need_any (j h s y : Int) (r : Nat) (a a' : Option Addr) (n c c' B B' : Nat) (xs zs : List Int) (w : World) (h1 : 1 ≤ r) (hr : r ≤ 62) (y1 : 249 ≤ y) (y2 : y ≤ 1100) (hn : n ≤ 2000)
    (hx : Ints w B a n xs) (hB : B ≤ w.heap.size) (hz : Ints w B' a' n zs) (hB' : B' ≤ w.heap.size) (kx : Keys xs) (kz : ∀ z ∈ zs, 1 ≤ z ∧ z ≤ y) :
    Calls Try.prog 17 #[planV j h (r : Int) y s, .slice a n c, .slice a' n c'] w fun e w' => ∃ p T : Nat, e = .returned (.tuple #[.int .i64 (up r p : Int), .int .i64 (up r T : Int), .bool true]) ∧ p ≤ n ∧ T ≤ n ∧ Upd noBlock w w' := by
  have HCH := Lib.hid (fun W => canHold_any j h s y r W h1 hr y1 y2)
  have HPG : Hid (∀ W, Upd noBlock w W → Calls Try.prog 26 #[.int .i64 y, .slice a' n c'] W fun e w' => ∃ p : Nat, e = .returned (.tuple #[.int .i64 (p : Int), .bool true]) ∧ p ≤ n ∧ Upd noBlock W w') := fun W hW =>
    pages_few y a' n c' B' zs W (hz.grow hW hB') (Nat.le_trans hB' hW.size) hn (by omega) (by omega) kz
  have HIX : Hid (∀ W, Upd noBlock w W → Calls Try.prog 27 #[.int .i64 y, .slice a n c] W fun e w' => ∃ T : Nat, e = .returned (.tuple #[.int .i64 (T : Int), .bool true]) ∧ T ≤ n ∧ Upd noBlock W w') := fun W hW =>
    indexPages_any y a n c B xs W (hx.grow hW hB) (Nat.le_trans hB hW.size) kx hn y1 (by omega)
  have HBL := Lib.hid (fun x W (hq : x ≤ 2000) => blocks_any j y s h r x W h1 hr hq)
  clear hx hB hz hB' kx kz h1 hr y1 y2
  unfold planV at *
  obtain ⟨wa, hwa⟩ : ∃ wa, wa = w.alloc (.cells #[.int .i64 j, .int .i64 h, .int .i64 (r : Int), .int .i64 y, .int .i64 s] 25) := ⟨_, rfl⟩
  have HG : Hid (wa.heap[w.heap.size]? = some (.cells #[.int .i64 j, .int .i64 h, .int .i64 (r : Int), .int .i64 y, .int .i64 s] 25 (0, 0))) := by rw [hwa]; exact heap_alloc_new w _
  have UA : Hid (Upd noBlock w wa) := by rw [hwa]; exact (Upd.refl _ _).alloc _
  have HK : Hid (∀ W, Upd noBlock wa W → W.cell? ⟨w.heap.size, 0, none⟩ = some (.int .i64 j) ∧ W.cell? ⟨w.heap.size, 1, none⟩ = some (.int .i64 h) ∧ W.cell? ⟨w.heap.size, 2, none⟩ = some (.int .i64 (r : Int)) ∧ W.cell? ⟨w.heap.size, 3, none⟩ = some (.int .i64 y) ∧ W.cell? ⟨w.heap.size, 4, none⟩ = some (.int .i64 s) ∧ Hid (Upd noBlock wa W)) := fun W hW => by
    have g := (hW.block _ (lt_of_block HG.out) id).trans HG.out
    exact ⟨cell_of g 0, cell_of g 1, cell_of g 2, cell_of g 3, cell_of g 4, hW⟩
  obtain ⟨z0, z1, z2, z3, z4, _⟩ := HK.out wa (Upd.refl _ _)
  go_enter Try.func17, Try.ntmps17
  go_upto_region 1 with fail
  rw [← hwa]
  clear hwa
  go_upto_region 9 with (first
    | (go_at_call 25; (with_reducible refine (HCH.out _).mono ?_); rintro e w2 ⟨rfl, hu⟩; obtain ⟨z0, z1, z2, z3, z4, _⟩ := HK.out w2 hu; have U2 := Lib.hid hu; clear hu)
    | (go_at_call 26; (with_reducible refine (HPG.out _ (UA.out.trans U2.out)).mono ?_); rintro e w3 ⟨p, rfl, hp, hu⟩; obtain ⟨z0, z1, z2, z3, z4, _⟩ := HK.out w3 (U2.out.trans hu); have U3 := Lib.hid (U2.out.trans hu); have HP := Lib.hid hp; clear hu hp)
    | (go_at_call 27; (with_reducible refine (HIX.out _ (UA.out.trans U3.out)).mono ?_); rintro e w4 ⟨T, rfl, hT, hu⟩; have U4 := Lib.hid (U3.out.trans hu); have HT := Lib.hid hT; clear hu hT))
  clear z0 z1 z2 z3 z4
  have HB1 := Lib.hid (fun W => HBL.out p W (by have := HP.out; omega))
  have HB2 := Lib.hid (fun W => HBL.out T W (by have := HT.out; omega))
  clear HBL
  obtain ⟨X, hX⟩ : ∃ X, up r p = X := ⟨_, rfl⟩
  obtain ⟨Y, hY⟩ : ∃ Y, up r T = Y := ⟨_, rfl⟩
  rw [hX] at HB1
  rw [hY] at HB2
  have HX := Lib.hid hX
  have HY := Lib.hid hY
  clear hX hY
  clear HCH HPG HIX
  go_region_held3 (fun W => W.cell? ⟨w.heap.size, 0, none⟩ = some (.int .i64 j) ∧ W.cell? ⟨w.heap.size, 1, none⟩ = some (.int .i64 h) ∧ W.cell? ⟨w.heap.size, 2, none⟩ = some (.int .i64 (r : Int)) ∧ W.cell? ⟨w.heap.size, 3, none⟩ = some (.int .i64 y) ∧ W.cell? ⟨w.heap.size, 4, none⟩ = some (.int .i64 s) ∧ Hid (Upd noBlock wa W))
    (first | exact HK.out _ U4.out | exact HK.out _ U4.out.drew | exact HK.out _ SB.out | exact HK.out _ SA.out)
    (first
      | (go_at_call 28; (first | (with_reducible refine (HB1.out _).mono ?_) | (with_reducible refine (HB2.out _).mono ?_)); rintro e w5 ⟨rfl, hu5⟩;
          (first | (have SB : Hid (Upd noBlock wa w5) := SA.out.trans hu5) | (have SA : Hid (Upd noBlock wa w5) := U4.out.drew.trans hu5)); clear hu5))
  all_goals
    go_wp2_with fail
    go_ret3
    exact ⟨p, T, by rw [HX.out, HY.out]; rfl, HP.out, HT.out, UA.out.trans SB.out⟩
set_option maxRecDepth 100000 in
theorem fits_any (j s y : Int) (h r : Nat) (a a' : Option Addr) (n c c' B B' : Nat) (xs zs : List Int) (w : World) (hh : h ≤ 26) (h1 : 1 ≤ r) (hr : r ≤ 62) (y1 : 249 ≤ y) (y2 : y ≤ 1100) (hn : n ≤ cap h r)
    (hx : Ints w B a n xs) (hB : B ≤ w.heap.size) (hz : Ints w B' a' n zs) (hB' : B' ≤ w.heap.size) (kx : Keys xs) (kz : ∀ z ∈ zs, 1 ≤ z ∧ z ≤ y) :
    Calls Try.prog 11 #[planV j (h : Int) (r : Int) y s, .slice a n c, .slice a' n c'] w fun e w' => e = .returned (.bool true) ∧ Upd noBlock w w' := by
  have hcl := cap_le hh h1 hr
  have HND : Hid (∀ W, Upd noBlock w W → Calls Try.prog 17 #[planV j (h : Int) (r : Int) y s, .slice a n c, .slice a' n c'] W fun e w' => ∃ X Y : Nat, e = .returned (.tuple #[.int .i64 (X : Int), .int .i64 (Y : Int), .bool true]) ∧ X + Y ≤ h ∧ Upd noBlock W w') := fun W hW => by
    refine (need_any j h s y r a a' n c c' B B' xs zs W h1 hr y1 y2 (by omega) (hx.grow hW hB) (Nat.le_trans hB hW.size) (hz.grow hW hB') (Nat.le_trans hB' hW.size) kx kz).mono fun e w' ⟨p, T, he, hp, hT, hu⟩ => ⟨_, _, he, ?_, hu⟩
    have c0 := (cap_all ⟨h, by omega⟩ ⟨r, by omega⟩ h1).1
    have e1 := up_mono r (Nat.le_trans hp hn)
    have e2 := up_mono r (show T ≤ 2 * cap h r by omega)
    exact Nat.le_trans (Nat.add_le_add e1 e2) c0
  clear hx hB hz hB' kx kz h1 hr y1 y2 hcl hn
  unfold planV at *
  obtain ⟨wa, hwa⟩ : ∃ wa, wa = w.alloc (.cells #[.int .i64 j, .int .i64 (h : Int), .int .i64 (r : Int), .int .i64 y, .int .i64 s] 25) := ⟨_, rfl⟩
  have HG : Hid (wa.heap[w.heap.size]? = some (.cells #[.int .i64 j, .int .i64 (h : Int), .int .i64 (r : Int), .int .i64 y, .int .i64 s] 25 (0, 0))) := by rw [hwa]; exact heap_alloc_new w _
  have UA : Hid (Upd noBlock w wa) := by rw [hwa]; exact (Upd.refl _ _).alloc _
  have hb0 := fun i => cell_of HG.out i
  go_enter Try.func11, Try.ntmps11
  go_upto_region 1 with fail
  rw [← hwa]
  clear hwa
  go_upto_region 2 with (go_at_call 17; (with_reducible refine (HND.out _ UA.out).mono ?_); rintro e w2 ⟨X, Y, rfl, hle, hu⟩; have g2 := (hu.block _ (lt_of_block HG.out) id).trans HG.out; clear hb0; have hb2 := fun i => cell_of g2 i; have U2 := Lib.hid (UA.out.trans hu); clear hu g2)
  have hX : X ≤ 26 := by omega
  have hY : Y ≤ 26 := by omega
  go_wp2_with fail
  go_ret
  exact ⟨by first | rfl | exact congrArg (fun b => Ending.returned (.bool b)) (decide_eq_true (by omega)), U2.out⟩
end Go.Proofs.Ytnimgkijodfjkaa
