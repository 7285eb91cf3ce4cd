import Derived.Test.YtoledgpcgjdjjaaGreatDoorQGXzc
import Derived.RangeFuncBox
import Derived.RangeFuncFrom
import Derived.RangeFuncBound
import Derived.RangeFuncCalls
import Derived.RangeFuncLeaves
import Derived.RangeFuncWrites
import Derived.Shelf.Abstract
import Derived.Shelf.RegionOpen
import Derived.OwnWalkIn
import Derived.TacticsInMore
import Derived.RegionIn
import Derived.LoopNIn
import Derived.LoopIn
import Derived.Sort.MapsRangeIn
import Derived.Test.YtoledgpcgjdjjaaGreatDoorQShelf
import Derived.Below
/- IDs of a volume with no logical block. -/
namespace Go.Proofs.YtoledgpcgjdjjaaGreatDoor
open F
open Go.RowKit Pm Cm
attribute [local go_sem] Oper.semAt_some
set_option linter.unusedVariables false

theorem upd_grownK {R : Nat → Prop} {w W W' : World} {row : Option Nat} (h : Upd R w W) (hg : W.grownBy W' row) (hr : ∀ r, row = some r → w.heap.size ≤ r) : Upd R w W' :=
  ⟨hg.os.trans h.os, hg.tape.trans h.tape, hg.output.trans h.output, Nat.le_trans h.size hg.size, fun k hk hn => (hg.block k (Nat.lt_of_lt_of_le hk h.size) (fun e => by have := hr k e.symm; omega)).trans (h.block k hk hn)⟩
theorem own_updK {wS : World} {C : Nat} (hC : wS.heap.size ≤ C) : OwnFrom C (fun (_ : List Empty) W => Upd noBlock wS W) := fun s W W' row h hg hr => upd_grownK h hg (fun r e => Nat.le_trans hC (hr r e).1)
theorem grown_updK {W W' : World} (h : Upd noBlock W W') : W.grownBy W' none := ⟨h.os, h.tape, h.output, h.size, fun k hk _ => h.block k hk id⟩
def Dry (n g : Nat) (lb : Array Value) (ps : Nat) (w : World) : Prop := SeqStopsK Fence.wide n Tryz.prog g lb (fun _ : Empty => Array.replicate ps undef) (fun _ _ => True) (fun _ => True) (fun _ => False) 0 w
theorem dry_of {n g : Nat} {lb : Array Value} {ps : Nat} {w : World} (h : ∀ (l : Nat) (W : World), Below w.heap.size w W → CallsIn Fence.wide n Tryz.prog g (#[.func (.yield l) #[] #[]] ++ lb) W fun e W' => (∃ v, e = .returned v) ∧ Upd noBlock W W') : Dry n g lb ps w :=
  fun l J Jx W hW hJ _ _ h0 => (h l W hW).mono fun e W' ⟨hv, hu⟩ => ⟨hv, .inl ⟨[], trivial, hJ [] W W' none h0 (grown_updK hu) (fun r e => by cases e)⟩⟩

set_option maxRecDepth 100000 in
theorem keys1_dry (n B mb nn : Nat) (f : FnI) (ps : Nat) (w : World) (h1 : B < w.heap.size) (hc : w.cell? ⟨B, 0, none⟩ = some (.map (some mb))) (hm : IM w mb nn f) (hf : ∀ x, Wf x → f x = none) :
    Dry n 81 #[.pointer (some ⟨B, 0, none⟩)] ps w := by
  refine dry_of fun l W hW => ?_
  have hc1 : W.cell? ⟨B, 0, none⟩ = some (.map (some mb)) := (hW.cell (p := ⟨B, 0, none⟩) h1).trans hc
  have hm1 : IM W mb nn f := hm.congr (hW.block mb hm.lt)
  obtain ⟨D, hown, hD⟩ := hm1
  have HNO : Hid (∀ x kl, keyOf Tryz.prog 3 x = some kl → Maps.has D kl = true → False) := fun x kl hk hh => by
    obtain ⟨y, rfl, rfl, hw⟩ := Maps.keyOf_int_inv Tryz.underlying3 hk
    have h9 := (hD y hw).1
    rw [hf y hw, hh] at h9
    cases h9
  have HOW := Lib.hid hown
  clear hc h1 hm hown hD
  refine callsIn_of_wp Tryz.func81 rfl trivial ?_ rfl
  simp only [Tryz.ntmps81, List.size_toArray, List.length_cons, List.length_nil, Nat.reduceAdd, Nat.reduceSub, Array.replicate_succ, Array.replicate_zero, List.push_toArray, List.append_toArray, List.nil_append, List.cons_append]
  gi_wp2_with (first
    | (gi_at_range; refine wpListIn_range_own _ rfl (.tmp 4) 78 rfl 3 94 keyedI Tryz.underlying78 opq mb nn D rfl HOW.out ?_; intro w3 hr3 hg3 hs3; have R3 := Lib.hid hr3; have G3 := Lib.hid hg3; clear hr3 hg3 hs3))
  simp only [Act.put, List.setIfInBounds_toArray, List.set_cons_zero, List.set_cons_succ]
  have U3 : Hid (Upd noBlock W w3) := (Upd.refl noBlock W).grownOwnN G3.out
  gi_loopw [3] (fun s3 wr => ∃ v3, s3 = v3 ∧ Hid (wr = w3)) (fun _ _ => 0)
  case atStart => exact ⟨_, rfl, rfl⟩
  case round =>
    obtain ⟨v3, rfl, HW⟩ := hrel
    have hww := HW.out
    subst hww
    gi_wp2_with (first
      | (gi_at_next; refine wpListIn_next_ranges _ rfl (.tmp 5) rfl 3 keyedI opq (fun v : Value => v) (fun v : Value => v) (fun key kl _ => ⟨key, rfl⟩) (fun v y _ => ⟨v, rfl⟩) mb _ nn D (Maps.has D) (Maps.size D) rfl R3.out ?_ (fun x c kl y w' cnt' hk hl _ _ _ _ _ _ _ => (HNO.out x kl hk hl).elim); intro _ _))
    exact bodyPost_end (results_none rfl _ _ _) rfl ⟨⟨_, rfl⟩, U3.out⟩
def keysV (B : Nat) : Value := .func (.func 81) #[] #[.pointer (some ⟨B, 0, none⟩)]
set_option maxRecDepth 100000 in
theorem keys_in (n mb : Nat) (w : World) :
    CallsIn Fence.wide n Tryz.prog 50 #[.map (some mb)] w fun e w' => e = .returned (keysV w.heap.size) ∧ w'.cell? ⟨w.heap.size, 0, none⟩ = some (.map (some mb)) ∧ w.heap.size < w'.heap.size ∧ Upd noBlock w w' := by
  unfold keysV
  have k1 := heap_alloc_new w (.cells #[.map (some mb)] 78)
  refine callsIn_of_wp Tryz.func50 rfl trivial ?_ rfl
  simp only [Tryz.ntmps50, List.size_toArray, List.length_cons, List.length_nil, Nat.reduceAdd, Nat.reduceSub, Array.replicate_succ, Array.replicate_zero, List.push_toArray, List.append_toArray, List.nil_append, List.cons_append]
  gi_wp2
  go_ret
  exact ⟨rfl, cell_of k1 0, by simp, (Upd.refl _ _).alloc _⟩
set_option maxRecDepth 100000 in
theorem aseq_in (n : Nat) (hn : 1 ≤ n) (B mb nn : Nat) (f : FnI) (w : World) (h1 : B < w.heap.size) (hc : w.cell? ⟨B, 0, none⟩ = some (.map (some mb))) (hm : IM w mb nn f) (hf : ∀ x, Wf x → f x = none) :
    CallsIn Fence.wide n Tryz.prog 105 #[.slice none 0 0, keysV B] w fun e w' => e = .returned (.slice none 0 0) ∧ Upd noBlock w w' := by
  unfold keysV
  obtain ⟨Wd, hWd⟩ : ∃ Wd, Wd = w.alloc (.cells #[.slice none 0 0] 57) := ⟨_, rfl⟩
  have UD : Hid (Upd noBlock w Wd) := by rw [hWd]; exact (Upd.refl _ _).alloc _
  have HD : Hid (Wd.heap[w.heap.size]? = some (.cells #[.slice none 0 0] 57 (0, 0))) := by rw [hWd]; exact heap_alloc_new w _
  have hDs : Hid (w.heap.size < Wd.heap.size) := lt_of_block HD.out
  have hc1 := (World.cell?_of_block (UD.out.block B h1 id)).trans hc
  have hm1 : IM Wd mb nn f := hm.congr (UD.out.block mb hm.lt id)
  have hB : B < Wd.heap.size := Nat.lt_of_lt_of_le h1 UD.out.size
  clear hc h1 hm
  refine callsIn_of_wp_marks Tryz.func105 rfl trivial ?_ rfl
  simp only [Tryz.ntmps105, List.size_toArray, List.length_cons, List.length_nil, Nat.reduceAdd, Nat.reduceSub, Array.replicate_succ, Array.replicate_zero, List.push_toArray, List.append_toArray, List.nil_append, List.cons_append]
  gi_wp2
  rw [← hWd]
  clear hWd
  refine wpIn_rangeFunc_ownG rfl hn (gf := 81) (lb := #[.pointer (some ⟨B, 0, none⟩)]) rfl trivial (enters_of Tryz.func81 (by kernel_rfl) rfl)
    (keys1_dry (n - 1) B mb nn f 1 Wd hB hc1 hm1 hf) (fun _ _ => trivial) (fun _ _ _ _ _ _ _ _ => trivial) (Below.refl _ _) (fun x => nomatch x)
    (fun _ W2 => Upd noBlock Wd W2) (fun _ _ _ => False) (own_updK (Nat.le_refl _)) (fun _ _ _ _ _ hs _ _ => hs) (Upd.refl _ _) (fun x => nomatch x) ?assign ?body ?done ?stop
  case assign =>
    intro l x
    exact nomatch x
  case body =>
    intro l pre x
    exact nomatch x
  case done =>
    rintro D ys W2 hD _ hI hK
    have z := (hI.block _ hDs.out id).trans HD.out
    have c0 : W2.cell? ⟨w.heap.size, 0, none⟩ = some (.slice none 0 0) := cell_of z 0
    clear z
    gi_wp2
    refine ⟨by simp, .inl ⟨_, _, rfl, run_takeDeferred hK, ?_⟩⟩
    have hF := (own_updK (wS := Wd) (C := Wd.heap.size) (Nat.le_refl _)).putObj (s := []) (.deferred none) hI hD hK rfl
    exact ⟨_, results_tmp rfl _ _ _, rfl, UD.out.trans hF⟩
  case stop =>
    rintro D c pre W2 _ _ h _
    exact h.elim
set_option maxRecDepth 100000 in
theorem collect_in (n : Nat) (hn : 2 ≤ n) (B mb nn : Nat) (f : FnI) (w : World) (h1 : B < w.heap.size) (hc : w.cell? ⟨B, 0, none⟩ = some (.map (some mb))) (hm : IM w mb nn f) (hf : ∀ x, Wf x → f x = none) :
    CallsIn Fence.wide n Tryz.prog 79 #[keysV B] w fun e w' => e = .returned (.slice none 0 0) ∧ Upd noBlock w w' := by
  have HA := Lib.hid (aseq_in (n - 1) (by omega) B mb nn f w h1 hc hm hf)
  generalize keysV B = kv at *
  have hn1 : 1 ≤ n := by omega
  have hfa : Fence.wide.fn 105 := trivial
  clear hc hm h1
  refine callsIn_of_wp Tryz.func79 rfl trivial ?_ rfl
  simp only [Tryz.ntmps79, List.size_toArray, List.length_cons, List.length_nil, Nat.reduceAdd, Nat.reduceSub, Array.replicate_succ, Array.replicate_zero, List.push_toArray, List.append_toArray, List.nil_append, List.cons_append]
  gi_wp2_with (gi_at_call 105; refine HA.out.mono ?_; rintro e w1 ⟨rfl, hu⟩; have U1 := Lib.hid hu; clear hu)
  go_ret
  exact ⟨rfl, U1.out⟩
set_option maxRecDepth 100000 in
theorem sorted_in (n : Nat) (hn : 3 ≤ n) (B mb nn : Nat) (f : FnI) (w : World) (h1 : B < w.heap.size) (hc : w.cell? ⟨B, 0, none⟩ = some (.map (some mb))) (hm : IM w mb nn f) (hf : ∀ x, Wf x → f x = none)
    (HS : ∀ W, CallsIn Fence.wide (n - 1) Tryz.prog 80 #[.slice none 0 0] W fun e w' => e = .returned (.tuple #[]) ∧ w' = W) :
    CallsIn Fence.wide n Tryz.prog 49 #[keysV B] w fun e w' => e = .returned (.slice none 0 0) ∧ Upd noBlock w w' := by
  have HA := Lib.hid (collect_in (n - 1) (by omega) B mb nn f w h1 hc hm hf)
  have HSS := Lib.hid HS
  generalize keysV B = kv at *
  have hn1 : 1 ≤ n := by omega
  have hfa : Fence.wide.fn 79 := trivial
  have hfb : Fence.wide.fn 80 := trivial
  clear hc hm h1 HS
  refine callsIn_of_wp Tryz.func49 rfl trivial ?_ rfl
  simp only [Tryz.ntmps49, List.size_toArray, List.length_cons, List.length_nil, Nat.reduceAdd, Nat.reduceSub, Array.replicate_succ, Array.replicate_zero, List.push_toArray, List.append_toArray, List.nil_append, List.cons_append]
  gi_wp2_with (first
    | (gi_at_call 79; refine HA.out.mono ?_; rintro e w1 ⟨rfl, hu⟩; have U1 := Lib.hid hu; clear hu)
    | (gi_at_call 80; refine (HSS.out _).mono ?_; rintro e w2 ⟨rfl, rfl⟩))
  go_ret
  exact ⟨rfl, U1.out⟩
end Go.Proofs.YtoledgpcgjdjjaaGreatDoor

/- IDs with no entry; LebAlike walked. -/
namespace Go.Proofs.YtoledgpcgjdjjaaGreatDoor
open F
open Go.RowKit Pm Cm
set_option linter.unusedVariables false
attribute [local irreducible] openL decUp empUp Lib.onesCount parT sealed beZ valN labelL pageL xorB padL

theorem sort_in (n : Nat) (W : World) : CallsIn Fence.wide n Tryz.prog 80 #[.slice none 0 0] W fun e w' => e = .returned (.tuple #[]) ∧ w' = W :=
  callsIn_wide.2 (Tryz.slices_Sort_int_none none 0 W)
set_option maxRecDepth 100000 in
theorem ids_in {w : World} {A : Vp} {M : Ch} {V : Vo} (n : Nat) (hn : 4 ≤ n) (h : VolIn w A M V) (hf : ∀ x, Wf x → V.f x = none) :
    CallsIn Fence.wide n Tryz.prog 22 #[.pointer (some ⟨A.v, 0, none⟩)] w fun e w' => e = .returned (.slice none 0 0) ∧ Upd noBlock w w' := by
  obtain ⟨c0, c1, c2, c3, c4, c5, c6⟩ := h.cells
  have HK := Lib.hid (fun W => keys_in (n - 1) A.mb W)
  have HS := Lib.hid (fun (W : World) (hW : Upd noBlock w W) (B : Nat) (h1 : B < W.heap.size) (hc : W.cell? ⟨B, 0, none⟩ = some (.map (some A.mb))) => sorted_in (n - 1) (by omega) B A.mb V.n V.f W h1 hc (h.grow hW).map hf (fun W => sort_in (n - 1 - 1) W))
  have hn1 : 1 ≤ n := by omega
  have hfa : Fence.wide.fn 50 := trivial
  have hfb : Fence.wide.fn 49 := trivial
  generalize hkv : keysV w.heap.size = kv at *
  refine callsIn_of_wp Tryz.func22 rfl trivial ?_ rfl
  simp only [Tryz.ntmps22, List.size_toArray, List.length_cons, List.length_nil, Nat.reduceAdd, Nat.reduceSub, Array.replicate_succ, Array.replicate_zero, List.push_toArray, List.append_toArray, List.nil_append, List.cons_append]
  gi_wp2_with (first
    | (gi_at_call 50; refine (HK.out _).mono ?_; rintro e w1 ⟨rfl, hc, hs, hu⟩; rw [hkv]; have C1 := Lib.hid hc; have S1 := Lib.hid hs; have U1 := Lib.hid hu; clear hc hs hu)
    | (gi_at_call 49; rw [← hkv]; refine (HS.out _ U1.out _ S1.out C1.out).mono ?_; rintro e w2 ⟨rfl, hu⟩; have U2 := Lib.hid (U1.out.trans hu); clear hu))
  go_ret
  exact ⟨rfl, U2.out⟩
theorem ids_empty {w : World} {A : Vp} {M : Ch} {V : Vo} (h : VolIn w A M V) (hf : ∀ x, Wf x → V.f x = none) :
    Calls Tryz.prog 22 #[.pointer (some ⟨A.v, 0, none⟩)] w fun e w' => e = .returned (.slice none 0 0) ∧ Upd noBlock w w' :=
  callsIn_wide.1 (ids_in 4 (Nat.le_refl _) h hf)
end Go.Proofs.YtoledgpcgjdjjaaGreatDoor

/- LebAlike walked. -/
namespace Go.Proofs.YtoledgpcgjdjjaaGreatDoor
open F
open Go.RowKit Pm Cm
set_option linter.unusedVariables false
attribute [local irreducible] openL decUp empUp Lib.onesCount parT sealed beZ valN labelL pageL xorB padL

theorem geoA (nb : Nat) (h1 : 2 ≤ nb) (h2 : nb ≤ 12) : GoodG (nb : Int) 8 1 32 1 := ⟨by omega, by omega, by decide, by decide, by decide, by decide, by decide, by decide, by decide, by decide, by decide⟩
def AlikeIn (w : World) (A : Vp) (nb i : Nat) (W : World) : Prop := ∃ M V n, VN w A M V W ∧ Idle V i ∧ Blank M nb 8 34 n ∧ n ≤ 64 + 2 * i ∧ Alike M nb ∧ A.c = 1 ∧ A.k = 32 ∧ A.t = 1
def AlikeMid (w : World) (A : Vp) (nb i : Nat) (W : World) : Prop := ∃ M b n, b < nb ∧ (∀ k, k < nb → (M.bk b).er ≤ (M.bk k).er) ∧ Mid w A M i b W ∧ Blank M nb 8 34 n ∧ n ≤ 64 + 2 * i ∧ Alike M nb ∧ A.c = 1 ∧ A.k = 32 ∧ A.t = 1
theorem rdB_er (M : Ch) (b : Nat) : ∀ i, ((rdB M i).bk b).er = (M.bk b).er
  | 0 => rfl
  | i + 1 => by
    show (((rdB M i).readM i).bk b).er = _
    rw [← rdB_er M b i]
    unfold Ch.readM Ch.setBk
    dsimp only
    by_cases e : b = i
    · rw [if_pos e, e]
    · rw [if_neg e]
theorem mapA {w : World} {A : Vp} {nb i : Nat} {W : World} (hT : Tab w) (h : AlikeIn w A nb i W) (hi : i ≤ 200) (hnb : 2 ≤ nb) :
    Calls Tryz.prog 23 #[.pointer (some ⟨A.v, 0, none⟩), .int .i64 (i : Int), .bool true] W fun r w' => r = .returned (.int .i64 0) ∧ AlikeMid w A nb i w' := by
  obtain ⟨M, V, n, hv, hI, hB, hn, hA, hc, hk, ht⟩ := h
  obtain ⟨b, hb, hle, h9⟩ := map_alike hT hv hB hI (by omega) (by omega) (by omega) hc hk
  exact h9.mono fun r w' ⟨hr, hm⟩ => ⟨hr, M, b, n, hb, hle, hm, hB, hn, hA, hc, hk, ht⟩
theorem unmapA {w : World} {A : Vp} {nb i : Nat} {W : World} (h : AlikeMid w A nb i W) (hi : i ≤ 200) :
    Calls Tryz.prog 26 #[.pointer (some ⟨A.v, 0, none⟩), .int .i64 (i : Int)] W fun r w' => r = .returned (.int .i64 0) ∧ AlikeIn w A nb (i + 1) w' := by
  obtain ⟨M, b, n, hb, hle, hm, hB, hn, hA, hc, hk, ht⟩ := h
  refine (unmap_alike hB b hb (by omega) (by omega) hm).mono fun r w' ⟨hr, V', l, hv, hI⟩ => ⟨hr, _, V', n + 2, hv, hI, (hB.used b l).2.1, by omega, hA.used hB b hb hle l, hc, hk, ht⟩
set_option maxRecDepth 100000 in
set_option maxHeartbeats 6400000 in
theorem lebAlike_any (x y : Int) (w : World) (hT : Tab w) : Calls Tryz.prog 5 #[.int .i64 x, .int .i64 y] w fun e w' => e = .returned (.bool true) ∧ Upd noBlock w w' := by
  have hrw : rawN 1 32 1 = 34 := by decide
  have HSP := Lib.hid (speaks9_any w hT)
  have HCH : Hid (∀ (nb : Nat) W, 2 ≤ nb → nb ≤ 12 → Calls Tryz.prog 9 #[geoV (nb : Int) 8 1 32 1] W fun e w' => NewC nb 8 34 W w' e) := fun nb W h1 h2 => by
    have h9 := chip_good (nb : Int) 8 1 32 1 W (geoA nb h1 h2)
    rw [hrw, Int.toNat_natCast] at h9
    exact h9
  have HAT : Hid (∀ (nb : Nat) ch bb pb W, 2 ≤ nb → nb ≤ 12 → ChipIn W ch bb pb (newCh nb 8 34) → Upd noBlock w W → (∀ i, Own ch bb pb nb i → w.heap.size ≤ i) → Calls Tryz.prog 10 #[.pointer (some ⟨ch, 0, none⟩), geoV (nb : Int) 8 1 32 1] W fun e w' => ∃ A : Vp, e = .returned (.tuple #[.pointer (some ⟨A.v, 0, none⟩), .int .i64 0]) ∧ AlikeIn w A nb 0 w') := fun nb ch bb pb W h1 h2 hC hU hO => by
    have hB := Blank.new nb 8 34
    have h9 := attach_blank nb 8 1 32 1 ch bb pb (newCh nb 8 34) 0 w W (geoA nb h1 h2) hT hC hU hO (by rw [hrw]; exact hB) (by omega) (by decide)
    refine h9.mono fun e w' h9 => ?_
    obtain ⟨A, he, hv, -, -, -, hc, hk, ht⟩ := h9
    refine ⟨A, he, ?_⟩
    have hal : Alike (rdB (newCh nb 8 34) nb) nb := by
      refine ⟨0, fun k _ => ?_⟩
      rw [rdB_er]
      exact ⟨Nat.le_refl _, Nat.zero_le _⟩
    exact ⟨_, vo0, 0 + nb, hv, ⟨rfl, rfl, fun _ _ => rfl, rfl, Nat.le_refl _⟩, hB.reads nb, by omega, hal, hc, hk, ht⟩
  have HMP := Lib.hid (fun A nb i W h hi hn => mapA (w := w) (A := A) (nb := nb) (i := i) (W := W) hT h hi hn)
  have HUM := Lib.hid (fun A nb i W h hi => unmapA (w := w) (A := A) (nb := nb) (i := i) (W := W) h hi)
  obtain ⟨bad, hbad⟩ : ∃ b : Bool, decide (x < 2 ∨ 12 < x ∨ y < 0 ∨ 200 < y) = b := ⟨_, rfl⟩
  have HBAD := Lib.hid hbad
  clear hbad hT hrw
  unfold geoV NewC at *
  go_enter Tryz.func5, Tryz.ntmps5
  go_upto_region 3 with (go_at_call 7; (with_reducible refine HSP.out.mono ?_); rintro e w1 ⟨rfl, hu⟩; have U1 := Lib.hid hu; clear hu)
  go_cut [30] from 15 to 98 (fun s30 wz => s30 = .bool bad ∧ w1 = wz)
  case first =>
    have hcase : (bad = true ∧ (x < 2 ∨ (2 ≤ x ∧ 12 < x) ∨ (2 ≤ x ∧ x ≤ 12 ∧ y < 0) ∨ (2 ≤ x ∧ x ≤ 12 ∧ 0 ≤ y ∧ 200 < y))) ∨ (bad = false ∧ 2 ≤ x ∧ x ≤ 12 ∧ 0 ≤ y ∧ y ≤ 200) := by
      rw [← HBAD.out]
      by_cases h : x < 2 ∨ 12 < x ∨ y < 0 ∨ 200 < y
      · exact .inl ⟨decide_eq_true h, by omega⟩
      · exact .inr ⟨decide_eq_false h, by omega⟩
    rcases hcase with ⟨rfl, p1 | ⟨p1, p2⟩ | ⟨p1, p2, p3⟩ | ⟨p1, p2, p3, p4⟩⟩ | ⟨rfl, p1, p2, p3, p4⟩
    all_goals
      go_wp2_with fail
      go_meet
      exact ⟨by first | rfl | (congr 1; simp; omega), rfl⟩
  case rest =>
  obtain ⟨rfl, hwx⟩ := hcut
  subst hwx
  obtain ⟨wb, rfl⟩ : ∃ wb : World, wb = w1 := ⟨_, rfl⟩
  go_upto_if 30 with fail
  go_cut [0, 1] from 15 to 98 (fun v0 v1 wx => ∃ nb st : Nat, v0 = .int .i64 (nb : Int) ∧ v1 = .int .i64 (st : Int) ∧ 2 ≤ nb ∧ nb ≤ 12 ∧ st ≤ 200 ∧ wb = wx)
  case first =>
    cases hbb : bad
    · rw [hbb] at HBAD
      have hb := of_decide_eq_false HBAD.out
      go_wp2_with fail
      go_meet
      exact ⟨x.toNat, y.toNat, by rw [Int.toNat_of_nonneg (by omega)], by rw [Int.toNat_of_nonneg (by omega)], by omega, by omega, by omega, rfl⟩
    · go_wp2_with fail
      go_meet
      exact ⟨4, 30, rfl, rfl, by decide, by decide, by decide, rfl⟩
  case rest =>
  obtain ⟨nb, st, rfl, rfl, hn2, hn12, hst, hwx⟩ := hcut
  subst hwx
  obtain ⟨wc, rfl⟩ : ∃ wc : World, wc = wb := ⟨_, rfl⟩
  clear HBAD HSP
  obtain ⟨wa, hwa⟩ : ∃ wa, wa = wc.alloc (.cells #[.int .i64 (nb : Int), .int .i64 8, .int .i64 1, .int .i64 32, .int .i64 1] 27) := ⟨_, rfl⟩
  have hB : wa.heap[wc.heap.size]? = some (.cells #[.int .i64 (nb : Int), .int .i64 8, .int .i64 1, .int .i64 32, .int .i64 1] 27 (0, 0)) := by rw [hwa]; exact heap_alloc_new wc _
  have UA : Hid (Upd noBlock w wa) := by rw [hwa]; exact U1.out.alloc _
  have HGC : Hid (∀ W, Upd noBlock wa W → W.cell? ⟨wc.heap.size, 0, none⟩ = some (.int .i64 (nb : Int)) ∧ W.cell? ⟨wc.heap.size, 1, none⟩ = some (.int .i64 8) ∧ W.cell? ⟨wc.heap.size, 2, none⟩ = some (.int .i64 1) ∧ W.cell? ⟨wc.heap.size, 3, none⟩ = some (.int .i64 32) ∧ W.cell? ⟨wc.heap.size, 4, none⟩ = some (.int .i64 1)) := fun W hW => geo_cells ((hW.block _ (lt_of_block hB) id).trans hB)
  obtain ⟨z0, z1, z2, z3, z4⟩ := geo_cells hB
  clear hB
  go_upto_region 6 with fail
  rw [← hwa]
  clear hwa
  go_upto_region 8 with (first
    | (go_at_call 9; (with_reducible refine (HCH.out nb _ hn2 hn12).mono ?_); rintro e w2 ⟨ch, bb, pb, rfl, hc, hu, hl⟩; have C2 := Lib.hid hc; have U2 : Hid (Upd noBlock w w2) := UA.out.trans hu; have L2 : Hid (∀ i, Own ch bb pb nb i → w.heap.size ≤ i) := fun i hi => Nat.le_trans UA.out.size (hl i hi); obtain ⟨z0, z1, z2, z3, z4⟩ := HGC.out _ hu; clear hc hu hl)
    | (go_at_call 10; (with_reducible refine (HAT.out nb ch bb pb _ hn2 hn12 C2.out U2.out L2.out).mono ?_); rintro e w3 ⟨A, rfl, hv⟩; have N3 := Lib.hid hv; clear hv z0 z1 z2 z3 z4))
  go_wp2
  go_loopw [10] (fun s10 wr => ∃ i : Nat, i ≤ st ∧ s10 = .int .i64 (i : Int) ∧ Hid (AlikeIn w A nb i wr)) (fun i _ => st - (intOf i).toNat)
  case atStart => exact ⟨0, Nat.zero_le _, rfl, N3⟩
  case round =>
    clear N3
    obtain ⟨i, hi, rfl, HA⟩ := hrel
    by_cases h0 : i < st
    · have di : decide ((i : Int) < (st : Int)) = true := decide_eq_true (by omega)
      have di2 : decide (i < st) = true := decide_eq_true h0
      go_wp2_with (first
        | (go_at_call 23; (with_reducible refine (HMP.out _ _ _ _ HA.out (by omega) hn2).mono ?_); rintro e w4 ⟨rfl, hm⟩; have M4 := Lib.hid hm; clear hm)
        | (go_at_call 26; (with_reducible refine (HUM.out _ _ _ _ M4.out (by omega)).mono ?_); rintro e w5 ⟨rfl, hm⟩; have A5 := Lib.hid hm; clear hm))
      go_roundw
      case rel => exact ⟨i + 1, by omega, by go_num, A5⟩
      case measure => simp [intOf]; omega
    · obtain rfl : i = st := by omega
      have di : decide ((i : Int) < (i : Int)) = false := decide_eq_false (by omega)
      obtain ⟨M, V, n, hv, hI, hB, hn, hA, -, -, -⟩ := HA.out
      obtain ⟨e, he⟩ := hA
      have HBK := Lib.hid (blocks_empty hv.i hI.none)
      rw [hB.nb] at HBK
      have HE : Hid (∀ k, k < nb → wbC (freeB M V nb) (k * 4) = .int .i64 ((M.bk k).er : Int)) := fun k hk => by
        unfold wbC freeB
        rw [if_pos (by omega), show k * 4 / 4 = k by omega, if_pos hk]
      have HER := Lib.hid he
      have HV := Lib.hid hv
      have HNO := Lib.hid hI.none
      clear hv hI hB hn he HA HMP HUM
      go_upto_region 14 with (go_at_call 27; (with_reducible refine HBK.out.mono ?_); rintro e2 w4 ⟨g, rfl, hg, hr, hu⟩; have R4 := Lib.hid hr; have U4 := Lib.hid hu; clear hg hr hu)
      have HCL : Hid (∀ W, Hid (Upd noBlock w4 W) → ∀ k, k < nb → W.cell? ⟨g, k * 4, none⟩ = some (.int .i64 ((M.bk k).er : Int))) := fun W hU k hk => by
        rw [(row_upd R4.out hU.out (fun h => h)).cell (show k * 4 < 4 * nb by omega), HE.out k hk]
      have V4 : Hid (Upd noBlock w4 w4) := Upd.refl _ _
      have c0 : w4.cell? ⟨g, 0, none⟩ = some (.int .i64 ((M.bk 0).er : Int)) := HCL.out _ V4 0 (by omega)
      have i0 : (0 : Int) < (nb : Int) := by omega
      have i0' : 0 < nb := by omega
      have hm0 := HER.out 0 (by omega)
      generalize (M.bk 0).er = e0 at *
      go_quiet (fail)
      go_wp2
      go_loopw [12, 13, 14] (fun s12 s13 s14 wr => ∃ (j : Nat) (lo hi : Int), j ≤ nb ∧ s14 = .int .i64 (j : Int) ∧ s12 = .int .i64 lo ∧ s13 = .int .i64 hi ∧ (e : Int) ≤ lo ∧ lo ≤ (e : Int) + 1 ∧ (e : Int) ≤ hi ∧ hi ≤ (e : Int) + 1 ∧ Hid (Upd noBlock w4 wr)) (fun _ _ j _ => nb - (intOf j).toNat)
      case atStart => exact ⟨0, _, _, Nat.zero_le _, rfl, rfl, rfl, by omega, by omega, by omega, by omega, (Upd.refl _ _).drewN _⟩
      case round =>
        clear c0
        obtain ⟨j, lo, hi, hj, rfl, rfl, rfl, l1, l2, l3, l4, HU⟩ := hrel
        by_cases h1 : j < nb
        · have dj : decide ((j : Int) < (nb : Int)) = true := decide_eq_true (by omega)
          have dj2 : decide (j < nb) = true := decide_eq_true h1
          have cj := HCL.out _ HU j h1
          have hmj := HER.out j h1
          generalize (M.bk j).er = ej at *
          have j1 : (0 : Int) ≤ (j : Int) := by omega
          have j2 : (j : Int) < (nb : Int) := by omega
          go_upto_region 18 with fail
          go_region
          all_goals
            go_wp2
            go_roundw
            case rel => exact ⟨j + 1, _, _, by omega, by go_num, rfl, rfl, by omega, by omega, by omega, by omega, HU.out.drew⟩
            case measure => simp [intOf]; omega
        · obtain rfl : j = nb := by omega
          have dj : decide ((j : Int) < (j : Int)) = false := decide_eq_false (by omega)
          have hwr : IntKind.i64.wrap (hi - lo) = hi - lo := by rw [IntKind.wrap_i64]; omega
          have d2 : decide (hi - lo ≤ 2) = true := decide_eq_true (by omega)
          have HID := Lib.hid (ids_empty ((HV.out.i.grow U4.out).grow HU.out) HNO.out)
          go_wp2_with (go_at_call 22; (with_reducible refine HID.out.mono ?_); rintro e9 w9 ⟨rfl, hu⟩; have U9 := Lib.hid hu; clear hu)
          go_ret
          exact ⟨rfl, ((HV.out.u.trans U4.out).trans HU.out).trans U9.out⟩
theorem lebAlike_walk (x y : Int) (w : World) (_ : (Lit.int .i64 x).wf = true) (_ : (Lit.int .i64 y).wf = true) (hT : Tab w) :
    Calls Tryz.prog 5 #[.int .i64 x, .int .i64 y] w fun e w' => e = .returned (.bool true) ∧ Below w.heap.size w w' :=
  (lebAlike_any x y w hT).mono fun _ _ ⟨he, hu⟩ => ⟨he, hu.below (fun _ _ h => h)⟩
end Go.Proofs.YtoledgpcgjdjjaaGreatDoor
