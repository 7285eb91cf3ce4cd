/- The packer in memory; three. -/
import Derived.Test.YtcfilepilgjlaaaDoorZi
import Derived.Test.YtcfilepilgjlaaaDoorZg
import Derived.Deep.QuietTactic
import Derived.StillTailTactics
namespace Go.Proofs.YtcfilepilgjlaaaDoor
open Go.RowKit

theorem tripInfo : (Tryd.prog.info? 91).map (·.size) = some 3 := by kernel_rfl
/-- the three bytes as they are handed back -/
def kv3 : Option (UInt8 × UInt8 × UInt8) → Value
  | some (a, b, c) => kv a b c
  | none => kv 0 0 0
theorem ret_three (tmps : Array Value) (w : World) (b : Nat) (x y z : Value) (k : Bool) (hb : w.heap[b]? = some (.cells #[x, y, z] 91 (0, 0))) (h4 : tmps.getD 4 undef = .pointer (some ⟨b, 0, none⟩)) (h5 : tmps.getD 5 undef = .bool k) :
    (results Tryd.f50 tmps).run Tryd.prog w = .ok (.tuple #[.agg #[x, y, z], .bool k]) w := by
  have c0 : w.cell? ⟨b, 0, none⟩ = some x := cell_of hb 0
  have c1 : w.cell? ⟨b, 1, none⟩ = some y := cell_of hb 1
  have c2 : w.cell? ⟨b, 2, none⟩ = some z := cell_of hb 2
  rw [results_cell_tmp rfl, h4, h5]
  simp [go_sem, c0, c1, c2]
set_option maxRecDepth 20000 in
set_option maxHeartbeats 1600000 in
theorem three_any (l : List UInt8) (q : ByteArray) (hq : q = ⟨l.toArray⟩) (g p : Nat) (w : World) (c0 : w.cell? ⟨g, 0, none⟩ = some (.string q)) (hl : l.length ≤ 65536) (hp : p ≤ l.length) :
    Calls Tryd.prog 50 #[.pointer (some ⟨g, 0, none⟩), .int .i64 (p : Int)] w fun e w' => e = .returned (.tuple #[kv3 (three l p), .bool (three l p).isSome]) ∧ Upd noBlock w w' := by
  have hsz : q.size = l.length := by rw [hq]; rfl
  have hg := World.block_lt_of_cell? w _ c0
  have hne : ¬ g = w.heap.size := by show ¬ g = _; have : g < w.heap.size := hg; omega
  have hne' : ¬ w.heap.size = g := fun e => hne e.symm
  by_cases h : p + 3 ≤ l.length
  · have h3 : three l p = some (l.getD p 0, l.getD (p + 1) 0, l.getD (p + 2) 0) := if_pos h
    have hd : ¬ (l.length : Int) < (p : Int) + 3 := by omega
    have hx : ∀ (i : Nat) (hi : i < q.size), ((q[i]'hi).toNat : Int) = ((l.getD i 0).toNat : Int) := fun i hi => by
      rw [q_at hq i (l.getD i 0) (by rw [List.getD_eq_getElem?_getD, List.getElem?_eq_getElem (by omega)]; rfl)]
    have x0 := hx p (by omega)
    have x1 := hx (p + 1) (by omega)
    have x2 := hx (p + 2) (by omega)
    rw [h3]
    show Calls _ _ _ _ fun e w' => e = .returned (.tuple #[kv (l.getD p 0) (l.getD (p + 1) 0) (l.getD (p + 2) 0), .bool true]) ∧ _
    unfold kv
    rw [← x0, ← x1, ← x2]
    clear hx x0 x1 x2 h3 hq
    have hb0 : p < l.length := by omega
    have hb1 : (0 : Int) ≤ (p : Int) + 1 := by omega
    have hb2 : (0 : Int) ≤ (p : Int) + 2 := by omega
    have hb3 : (p : Int) + 1 < (l.length : Int) := by omega
    have hb4 : (p : Int) + 2 < (l.length : Int) := by omega
    have hb5 : ((p : Int) + 1).toNat = p + 1 := by omega
    have hb6 : ((p : Int) + 2).toNat = p + 2 := by omega
    go_enter Tryd.func50, Tryd.ntmps50
    go_wp2
    go_region
    all_goals
      go_wp2
      exact bodyPost_ret_by (ret_three _ _ w.heap.size _ _ _ _ (heap_alloc_new w _) rfl rfl) rfl ⟨rfl, ((Upd.refl _ _).alloc _).drew⟩
  · have h3 : three l p = none := if_neg h
    have hd : (l.length : Int) < (p : Int) + 3 := by omega
    rw [h3]
    show Calls _ _ _ _ fun e w' => e = .returned (.tuple #[kv 0 0 0, .bool false]) ∧ _
    unfold kv
    clear h3 hq
    go_enter Tryd.func50, Tryd.ntmps50
    go_wp2
    exact bodyPost_ret_by (ret_three _ _ w.heap.size _ _ _ _ (heap_alloc_new w _) rfl rfl) rfl ⟨rfl, (Upd.refl _ _).alloc _⟩

/-- the packer in memory: its text, its tokens, how far they go, what stands where -/
structure Pin (w : World) (B g mb : Nat) (q : ByteArray) (T : List UInt8) (d n : Nat) (f : Fn3) : Prop where
  row : ∃ v, w.heap[g]? = some (.cells #[.string q, v, .int .i64 (d : Int), .map (some mb)] 86 (0, 0)) ∧ OwnB w B v T
  map : Mp w mb n f
  gB : B ≤ g
  mB : B ≤ mb
  top : B ≤ w.heap.size
/-- a step that turns only what lies from B on -/
def Step (B : Nat) (w w' : World) : Prop := ∀ a : World, a.heap.size ≤ B → Upd noBlock a w → Upd noBlock a w'
theorem Step.refl (B : Nat) (w : World) : Step B w w := fun _ _ h => h
theorem Step.trans {B : Nat} {a b c : World} (h : Step B a b) (k : Step B b c) : Step B a c := fun x hx hu => k x hx (h x hx hu)
theorem Step.of_upd {B : Nat} {w w' : World} (h : Upd noBlock w w') : Step B w w' := fun _ _ hu => hu.trans h
theorem Pin.upd {w w' : World} {B g mb : Nat} {q : ByteArray} {T : List UInt8} {d n : Nat} {f : Fn3} (h : Pin w B g mb q T d n f) (hu : Upd noBlock w w') : Pin w' B g mb q T d n f := by
  obtain ⟨⟨v, h1, h2⟩, h3, h4, h5, h6⟩ := h
  exact ⟨⟨v, hu.cells h1 (fun h => h), h2.grow hu⟩, h3.upd hu (fun h => h), h4, h5, Nat.le_trans h6 hu.size⟩
/-- what is noted at a place -/
def noted (l : List UInt8) (p : Nat) (f : Fn3) : Fn3 := match three l p with
  | some (a, b, c) => put3 f a b c p
  | none => f
theorem prev_succ (l : List UInt8) (p : Nat) : prev l (p + 1) = noted l p (prev l p) := rfl

set_option maxRecDepth 20000 in
set_option maxHeartbeats 1600000 in
theorem note_any (l : List UInt8) (q : ByteArray) (hq : q = ⟨l.toArray⟩) (B g mb : Nat) (T : List UInt8) (d n : Nat) (f : Fn3) (p : Nat) (w : World) (h : Pin w B g mb q T d n f) (hl : l.length ≤ 65536) (hp : p ≤ l.length) (hn : n ≤ 65536) :
    Calls Tryd.prog 46 #[.pointer (some ⟨g, 0, none⟩), .int .i64 (p : Int)] w fun e w' => e = .returned (.tuple #[]) ∧ Pin w' B g mb q T d (n + 1) (noted l p f) ∧ Step B w w' := by
  obtain ⟨v, h1, h2⟩ := h.row
  have c0 : w.cell? ⟨g, 0, none⟩ = some (.string q) := cell_of h1 0
  have H := fun w c0 => three_any l q hq g p w c0 hl hp
  cases h3 : three l p with
  | none =>
    have HP : Hid (∀ w', Upd noBlock w w' → Pin w' B g mb q T d (n + 1) (noted l p f) ∧ Step B w w') := fun w' hu => by
      have := h.upd hu
      refine ⟨⟨this.row, ?_, this.gB, this.mB, this.top⟩, Step.of_upd hu⟩
      have hm := this.map
      unfold noted; rw [h3]
      obtain ⟨D, ho, hd⟩ := hm
      exact ⟨D, ho.mono (by omega), hd⟩
    rw [h3] at H
    have HT := Lib.hid (H w c0)
    clear H h3 h1 h2 h
    go_enter Tryd.func46, Tryd.ntmps46
    go_wp2_with (go_at_call 50; refine HT.out.mono ?_; rintro e w1 ⟨rfl, hu⟩; unfold kv3 kv; have HU := Lib.hid hu; clear hu)
    go_end0
    exact ⟨rfl, HP.out _ (HU.out.alloc _)⟩
  | some t =>
    obtain ⟨a, b, c⟩ := t
    have hlt := lt_of_block h1
    have hml := h.map.lt
    have HP : Hid (∀ (w1 w' : World) (vv : Value), Upd noBlock w w1 → (∃ w2, w2 = w1.alloc (.cells #[.int .u8 (a.toNat : Int), .int .u8 (b.toNat : Int), .int .u8 (c.toNat : Int)] 91) ∧ True) → True) := fun _ _ _ _ _ => trivial
    clear HP
    have HPut : Hid (∀ w1, Upd noBlock w w1 → ∃ w', (Instr.mapUpdate 84 (.map (some mb)) (.agg #[.int .u8 (a.toNat : Int), .int .u8 (b.toNat : Int), .int .u8 (c.toNat : Int)]) (.int .i64 (p : Int))).run Tryd.prog w1 = .ok () w' ∧ Pin w' B g mb q T d (n + 1) (noted l p f) ∧ Step B w w') := fun w1 hu => by
      have hw := h.upd hu
      obtain ⟨w', hr, hm, hg⟩ := hw.map.put (by unfold maxLen; omega) a b c p (by omega)
      have hgm : w1.heap[g]? ≠ none := by
        obtain ⟨v', e1, _⟩ := hw.row; rw [e1]; simp
      obtain ⟨v', e1, e2⟩ := hw.row
      have hgmb : ¬ g = mb := fun e => by
        obtain ⟨D, ⟨es, cl, k1, _⟩, _⟩ := hw.map
        rw [← e, e1] at k1; cases k1
      have hu2 : Upd (oneBlock mb) w1 w' := ⟨hg.os, hg.tape, hg.output, hg.size, fun k hk hn => hg.block k hk (fun e => hn (by cases e; rfl))⟩
      have hvb : ∀ k, v'.ownBlock = some k → ¬ oneBlock mb k := fun k hk e => by
        rcases e2.2 with ⟨k1, _⟩ | ⟨k0, cap, cur, k1, _, k2, _⟩
        · rw [k1] at hk; cases hk
        · rw [k1] at hk; cases hk
          obtain ⟨D, ⟨es, cl, k3, _⟩, _⟩ := hw.map
          have e : k0 = mb := e
          rw [e, k3] at k2; cases k2
      refine ⟨w', hr, ⟨⟨v', hu2.cells e1 hgmb, e2.upd hu2 hvb⟩, ?_, hw.gB, hw.mB, Nat.le_trans hw.top hg.size⟩, fun x hx hux => ?_⟩
      · unfold noted; rw [h3]; exact hm
      · exact (hux.trans hu).step hu2 (fun i hi e => by have e : i = mb := e; have := hw.mB; omega)
    rw [h3] at H
    have HT := Lib.hid (H w c0)
    have c3 : w.cell? ⟨g, 3, none⟩ = some (.map (some mb)) := cell_of h1 3
    have HC : Hid (∀ w1, Upd noBlock w w1 → w1.cell? ⟨g, 3, none⟩ = some (.map (some mb))) := fun w1 hu => upd_cell hu c3
    have hne : Hid (∀ w1, Upd noBlock w w1 → ¬ g = w1.heap.size ∧ ¬ w1.heap.size = g) := fun w1 hu => by
      have := hu.size
      exact ⟨by omega, by omega⟩
    clear H h3 h1 h2 h c0 c3
    go_enter Tryd.func46, Tryd.ntmps46
    go_wp2_with (go_at_call 50; refine HT.out.mono ?_; rintro e w1 ⟨rfl, hu⟩; unfold kv3 kv; have HU := Lib.hid hu; clear hu; have cc := HC.out _ (HU.out.alloc (.cells #[.int .u8 (a.toNat : Int), .int .u8 (b.toNat : Int), .int .u8 (c.toNat : Int)] 91)); obtain ⟨w9, hr9, hp9⟩ := HPut.out _ (HU.out.alloc (.cells #[.int .u8 (a.toNat : Int), .int .u8 (b.toNat : Int), .int .u8 (c.toNat : Int)] 91)).drew; have HP9 := Lib.hid hp9; clear hp9)
    go_region
    all_goals
      go_wp2
      go_end0
      exact ⟨rfl, HP9.out⟩
end Go.Proofs.YtcfilepilgjlaaaDoor
