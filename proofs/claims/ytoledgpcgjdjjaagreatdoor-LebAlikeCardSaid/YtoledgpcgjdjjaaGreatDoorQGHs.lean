import Derived.Test.YtoledgpcgjdjjaaGreatDoorRows
import Derived.Test.YtoledgpcgjdjjaaGreatDoorQLib
import Derived.Test.YtoledgpcgjdjjaaGreatDoorQGGfm
import Derived.WalkKit
import Derived.Lib.Hide
import Derived.WalkSpells
import Derived.WalkLawsBesides
import Derived.BigQuiet
import Derived.BigRegion
import Derived.Deep.OwnRows
import Derived.Deep.QuietTactic
/- A field that lies wherever in a block: its spot, its six cells. -/
namespace Go.Proofs.YtoledgpcgjdjjaaGreatDoor
open Go.RowKit Gfm

structure Spt where
  blk : Nat
  off : Nat
  T : TypeId
  R : Nat → Option Value
  hT : T ≠ 3
def FB (w : World) (b : Spt) (d s m p l n : Value) : Prop :=
  ∃ C : Array Value, w.heap[b.blk]? = some (.cells C b.T (0, 0)) ∧ C[b.off]? = some d ∧ C[b.off + 1]? = some s ∧ C[b.off + 2]? = some m ∧ C[b.off + 3]? = some p ∧ C[b.off + 4]? = some l ∧ C[b.off + 5]? = some n ∧ ∀ j, j < b.off ∨ b.off + 6 ≤ j → C[j]? = b.R j
theorem FB.lt {w : World} {b : Spt} {d s m p l n : Value} (h : FB w b d s m p l n) : b.blk < w.heap.size := by
  obtain ⟨C, hb, _⟩ := h; exact lt_of_block hb
theorem FB.c0 {w : World} {b : Spt} {d s m p l n : Value} (h : FB w b d s m p l n) : w.cell? ⟨b.blk, b.off, none⟩ = some d := by
  obtain ⟨C, hb, h0, _⟩ := h; rw [cell_of hb]; exact h0
theorem FB.c1 {w : World} {b : Spt} {d s m p l n : Value} (h : FB w b d s m p l n) : w.cell? ⟨b.blk, b.off + 1, none⟩ = some s := by
  obtain ⟨C, hb, _, h1, _⟩ := h; rw [cell_of hb]; exact h1
theorem FB.c3 {w : World} {b : Spt} {d s m p l n : Value} (h : FB w b d s m p l n) : w.cell? ⟨b.blk, b.off + 3, none⟩ = some p := by
  obtain ⟨C, hb, _, _, _, h3, _⟩ := h; rw [cell_of hb]; exact h3
theorem FB.c4 {w : World} {b : Spt} {d s m p l n : Value} (h : FB w b d s m p l n) : w.cell? ⟨b.blk, b.off + 4, none⟩ = some l := by
  obtain ⟨C, hb, _, _, _, _, h4, _⟩ := h; rw [cell_of hb]; exact h4
theorem FB.c5 {w : World} {b : Spt} {d s m p l n : Value} (h : FB w b d s m p l n) : w.cell? ⟨b.blk, b.off + 5, none⟩ = some n := by
  obtain ⟨C, hb, _, _, _, _, _, h5, _⟩ := h; rw [cell_of hb]; exact h5
theorem FB.fr {w : World} {b : Spt} {d s m p l n : Value} (h : FB w b d s m p l n) (i : Nat) : w.frozen? ⟨b.blk, i, none⟩ = false := by
  obtain ⟨C, hb, _⟩ := h; exact free_of hb i
theorem FB.upd {w w' : World} {b : Spt} {d s m p l n : Value} (h : FB w b d s m p l n) {R : Nat → Prop} (hu : Upd R w w') (hR : ¬ R b.blk) : FB w' b d s m p l n := by
  obtain ⟨C, hb, r⟩ := h; exact ⟨C, (hu.block _ (lt_of_block hb) hR).trans hb, r⟩
theorem FB.alloc {w : World} {b : Spt} {d s m p l n : Value} (h : FB w b d s m p l n) (o : Obj) : FB (w.alloc o) b d s m p l n := by
  obtain ⟨C, hb, r⟩ := h; exact ⟨C, block_alloc hb o, r⟩
theorem FB.other {w : World} {b : Spt} {d s m p l n : Value} (h : FB w b d s m p l n) {a : Addr} (ha : ¬ b.blk = a.block) (v : Value) : FB (w.setCell a v) b d s m p l n := by
  obtain ⟨C, hb, r⟩ := h; exact ⟨C, block_set_other hb ha v, r⟩
theorem FB.drew {w : World} {b : Spt} {d s m p l n : Value} (h : FB w b d s m p l n) : FB w.drew b d s m p l n := h
theorem FB.block {w : World} {b : Spt} {d s m p l n : Value} (h : FB w b d s m p l n) : ∃ c, w.heap[b.blk]? = some (.cells c b.T (0, 0)) := by
  obtain ⟨C, hb, _⟩ := h; exact ⟨C, hb⟩
theorem fb_get {C : Array Value} {i j : Nat} {u v : Value} (h : C[j]? = some u) (hne : ¬ i = j) : (C.setIfInBounds i v)[j]? = some u := by
  rw [Array.getElem?_setIfInBounds, if_neg hne]; exact h
theorem fb_same {C : Array Value} {i : Nat} {u v : Value} (h : C[i]? = some u) : (C.setIfInBounds i v)[i]? = some v := by
  rw [Array.getElem?_setIfInBounds, if_pos rfl, if_pos (Array.getElem?_eq_some_iff.1 h).1]
theorem fb_rest {C : Array Value} {o i : Nat} {R : Nat → Option Value} {v : Value} (h : ∀ j, j < o ∨ o + 6 ≤ j → C[j]? = R j) (h1 : o ≤ i) (h2 : i < o + 6) : ∀ j, j < o ∨ o + 6 ≤ j → (C.setIfInBounds i v)[j]? = R j := fun j hj => by
  rw [Array.getElem?_setIfInBounds, if_neg (by omega)]; exact h j hj
theorem FB.set0 {w : World} {b : Spt} {d s m p l n : Value} (h : FB w b d s m p l n) (v : Value) : FB (w.setCell ⟨b.blk, b.off, none⟩ v) b v s m p l n := by
  obtain ⟨C, hb, h0, h1, h2, h3, h4, h5, hr⟩ := h
  exact ⟨_, block_set hb v, fb_same h0, fb_get h1 (by omega), fb_get h2 (by omega), fb_get h3 (by omega), fb_get h4 (by omega), fb_get h5 (by omega), fb_rest hr (by omega) (by omega)⟩
theorem FB.set1 {w : World} {b : Spt} {d s m p l n : Value} (h : FB w b d s m p l n) (v : Value) : FB (w.setCell ⟨b.blk, b.off + 1, none⟩ v) b d v m p l n := by
  obtain ⟨C, hb, h0, h1, h2, h3, h4, h5, hr⟩ := h
  exact ⟨_, block_set hb v, fb_get h0 (by omega), fb_same h1, fb_get h2 (by omega), fb_get h3 (by omega), fb_get h4 (by omega), fb_get h5 (by omega), fb_rest hr (by omega) (by omega)⟩
theorem FB.set3 {w : World} {b : Spt} {d s m p l n : Value} (h : FB w b d s m p l n) (v : Value) : FB (w.setCell ⟨b.blk, b.off + 3, none⟩ v) b d s m v l n := by
  obtain ⟨C, hb, h0, h1, h2, h3, h4, h5, hr⟩ := h
  exact ⟨_, block_set hb v, fb_get h0 (by omega), fb_get h1 (by omega), fb_get h2 (by omega), fb_same h3, fb_get h4 (by omega), fb_get h5 (by omega), fb_rest hr (by omega) (by omega)⟩
theorem FB.set4 {w : World} {b : Spt} {d s m p l n : Value} (h : FB w b d s m p l n) (v : Value) : FB (w.setCell ⟨b.blk, b.off + 4, none⟩ v) b d s m p v n := by
  obtain ⟨C, hb, h0, h1, h2, h3, h4, h5, hr⟩ := h
  exact ⟨_, block_set hb v, fb_get h0 (by omega), fb_get h1 (by omega), fb_get h2 (by omega), fb_get h3 (by omega), fb_same h4, fb_get h5 (by omega), fb_rest hr (by omega) (by omega)⟩
theorem FB.set5 {w : World} {b : Spt} {d s m p l n : Value} (h : FB w b d s m p l n) (v : Value) : FB (w.setCell ⟨b.blk, b.off + 5, none⟩ v) b d s m p l v := by
  obtain ⟨C, hb, h0, h1, h2, h3, h4, h5, hr⟩ := h
  exact ⟨_, block_set hb v, fb_get h0 (by omega), fb_get h1 (by omega), fb_get h2 (by omega), fb_get h3 (by omega), fb_get h4 (by omega), fb_same h5, fb_rest hr (by omega) (by omega)⟩
end Go.Proofs.YtoledgpcgjdjjaaGreatDoor

/- Walks over package gf: the double; the tables, as the once's function lays them. -/
namespace Go.Proofs.YtoledgpcgjdjjaaGreatDoor
open Go.RowKit Gfm

set_option maxRecDepth 100000 in
set_option maxHeartbeats 400000 in
theorem double_any (a : Nat) (w : World) (ha : a < 8192) :
    Calls Tryz.prog 248 #[.int .i64 (a : Int)] w fun e w' => e = .returned (.int .i64 (dbl a : Nat)) ∧ w = w' := by
  by_cases h : 2 * a ≥ 8192
  · have hx : bits .xor .i64 ((a : Int) * 2) 8219 = ((dbl a : Nat) : Int) := by
      have := i64_xor_nat (2 * a) 8219 (by omega) (by omega)
      unfold dbl
      rw [if_pos h, ← this, Int.mul_comm]
      rfl
    have Hx := Lib.hid hx
    clear hx
    go_enter Tryz.func248, Tryz.ntmps248
    go_wp2
    go_ret
    exact ⟨congrArg (fun x => Ending.returned (.int .i64 x)) Hx.out, rfl⟩
  · have hx : (a : Int) * 2 = ((dbl a : Nat) : Int) := by
      unfold dbl
      rw [if_neg h]; omega
    have Hx := Lib.hid hx
    clear hx
    go_enter Tryz.func248, Tryz.ntmps248
    go_wp2
    go_ret
    exact ⟨congrArg (fun x => Ending.returned (.int .i64 x)) Hx.out, rfl⟩

theorem intCells : (Tryz.prog.info? 3).map (fun i => (i.zero, i.size, i.bytes)) = some (some (.int .i64 0), 1, 8) := by kernel_rfl

def powRow (k : Nat) (i : Nat) : Value := .int .i64 ((if i < k then pw i else if 8191 ≤ i ∧ i < 8191 + k then pw i else 0 : Nat) : Int)
def logRow (k : Nat) (a : Nat) : Value := .int .i64 ((lgk k a : Nat) : Int)

theorem powRow_succ (k : Nat) (hk : k < 8191) (i : Nat) : powRow (k + 1) i = if i = k + 8191 then .int .i64 ((pw k : Nat) : Int) else if i = k then .int .i64 ((pw k : Nat) : Int) else powRow k i := by
  unfold powRow
  by_cases h1 : i = k + 8191
  · subst h1
    rw [if_pos rfl, if_neg (by omega), if_pos (by omega), pw_add]
  · by_cases h2 : i = k
    · subst h2
      rw [if_neg h1, if_pos rfl, if_pos (by omega)]
    · rw [if_neg h1, if_neg h2]
      have e1 : i < k + 1 ↔ i < k := by omega
      have e2 : (8191 ≤ i ∧ i < 8191 + (k + 1)) ↔ (8191 ≤ i ∧ i < 8191 + k) := by omega
      simp only [e1, e2]
theorem logRow_succ (k a : Nat) : logRow (k + 1) a = if a = pw k then .int .i64 (k : Int) else logRow k a := by
  unfold logRow
  rw [lgk]
  by_cases h : a = pw k
  · subst h; rw [if_pos rfl, if_pos rfl]
  · rw [if_neg (fun e => h e.symm), if_neg h]

def Round (b : Spt) (pb lb k : Nat) (d s m n : Value) (w wr : World) : Prop :=
  k ≤ 8191 ∧ FB wr b (d) (s) (m) (.slice (some ⟨pb, 0, none⟩) 16382 16382) (.slice (some ⟨lb, 0, none⟩) 8192 8192) (n) ∧
    wr.rowIs pb 3 16382 (powRow k) ∧ wr.rowIs lb 3 8192 (logRow k) ∧ Upd (oneBlock b.blk) w wr
theorem Round.step {b : Spt} {pb lb k : Nat} {d s m n : Value} {w wr : World} (h : Round b pb lb k d s m n w wr) (hk : k < 8191) (h1 : w.heap.size ≤ pb) (h2 : w.heap.size ≤ lb) (h3 : ¬ pb = lb) (h4 : b.blk < w.heap.size) :
    Round b pb lb (k + 1) d s m n w (((wr.setCell ⟨pb, k, none⟩ (.int .i64 ((pw k : Nat) : Int))).setCell ⟨pb, k + 8191, none⟩ (.int .i64 ((pw k : Nat) : Int))).setCell ⟨lb, pw k, none⟩ (.int .i64 (k : Int))) := by
  obtain ⟨_, hb, hp, hl, hu⟩ := h
  refine ⟨hk, ?_, ?_, ?_, ?_⟩
  · exact ((hb.other (by simp; omega) _).other (by simp; omega) _).other (by simp; omega) _
  · exact (((hp.set k _).set (k + 8191) _).setOther (by simp; omega) _).congr fun i _ => (powRow_succ k hk i).symm
  · exact (((hl.setOther (by simp; omega) _).setOther (by simp; omega) _).set (pw k) _).congr fun i _ => (logRow_succ k i).symm
  · exact ((hu.setCell (.inr h1) _).setCell (.inr h1) _).setCell (.inr h2) _

theorem Round.drew {b : Spt} {pb lb k : Nat} {d s m n : Value} {w wr : World} (h : Round b pb lb k d s m n w wr) : Round b pb lb k d s m n w wr.drew :=
  ⟨h.1, h.2.1, h.2.2.1.drew, h.2.2.2.1.drew, h.2.2.2.2.drew⟩
theorem round_start (b : Spt) (d s m p l n : Value) (w : World) (hb : FB w b (d) (s) (m) (p) (l) (n))
    (O1 O2 : Obj) (e1 : O1 = .cells (madeCells #[.int .i64 0] 16382) 3) (e2 : O2 = .cells (madeCells #[.int .i64 0] 8192) 3) :
    Round b w.heap.size (w.heap.size + 1) 0 d s m n w ((((w.setCell ⟨b.blk, b.off + 3, none⟩ (.slice (some ⟨w.heap.size, 0, none⟩) 16382 16382)).setCell ⟨b.blk, b.off + 4, none⟩ (.slice (some ⟨w.heap.size + 1, 0, none⟩) 8192 8192)).alloc O1).alloc O2).drew.drew := by
  obtain ⟨w2, hw2⟩ : ∃ w2, w2 = (w.setCell ⟨b.blk, b.off + 3, none⟩ (.slice (some ⟨w.heap.size, 0, none⟩) 16382 16382)).setCell ⟨b.blk, b.off + 4, none⟩ (.slice (some ⟨w.heap.size + 1, 0, none⟩) 8192 8192) := ⟨_, rfl⟩
  have hz : w2.heap.size = w.heap.size := by rw [hw2]; simp
  have h2 : FB w2 b (d) (s) (m) (.slice (some ⟨w.heap.size, 0, none⟩) 16382 16382) (.slice (some ⟨w.heap.size + 1, 0, none⟩) 8192 8192) (n) := by
    rw [hw2]; exact (hb.set3 _).set4 _
  have hu : Upd (oneBlock b.blk) w w2 := by
    rw [hw2]; exact ((Upd.refl (oneBlock b.blk) w).setCell (p := ⟨b.blk, b.off + 3, none⟩) (.inl rfl) _).setCell (p := ⟨b.blk, b.off + 4, none⟩) (.inl rfl) _
  rw [← hw2]
  subst e1 e2
  refine ⟨by omega, (h2.alloc _).alloc _, ?_, ?_, ((hu.alloc _).alloc _).drew.drew⟩
  · refine World.rowIs.congr (f := fun _ => .int .i64 0) ?_ (fun i _ => by unfold powRow; rw [if_neg (by omega), if_neg (by omega)]; rfl)
    refine World.rowIs.drew (World.rowIs.drew (World.rowIs.alloc ?_ _))
    have := World.rowIs_made w2 (.int .i64 0) 16382 3
    rw [hz] at this
    exact this
  · refine World.rowIs.congr (f := fun _ => .int .i64 0) ?_ (fun i _ => by unfold logRow; rfl)
    refine World.rowIs.drew (World.rowIs.drew ?_)
    have := World.rowIs_made (w2.alloc (.cells (madeCells #[.int .i64 0] 16382) 3)) (.int .i64 0) 8192 3
    rw [World.size_alloc, hz] at this
    exact this

def Filled (b : Spt) (d s m n : Value) (w w' : World) : Prop :=
  ∃ pb lb, w.heap.size ≤ pb ∧ w.heap.size ≤ lb ∧ ¬ pb = lb ∧
    FB w' b (d) (s) (m) (.slice (some ⟨pb, 0, none⟩) 16382 16382) (.slice (some ⟨lb, 0, none⟩) 8192 8192) (n) ∧
    w'.rowIs pb 3 16382 (powRow 8191) ∧ w'.rowIs lb 3 8192 (logRow 8191) ∧ Upd (oneBlock b.blk) w w'

set_option maxRecDepth 100000 in
set_option maxHeartbeats 1600000 in
theorem fill_any (b : Spt) (pl : Nat) (d s m p l n : Value) (w : World) (hpl : ¬ pl = b.blk) (hp : w.cell? ⟨pl, 0, none⟩ = some (.pointer (some ⟨b.blk, b.off, none⟩)))
    (hb : FB w b (d) (s) (m) (p) (l) (n)) :
    Calls Tryz.prog 247 #[.pointer (some ⟨pl, 0, none⟩)] w fun e w' => e = .returned (.tuple #[]) ∧ Filled b d s m n w w' := by
  have h3 : w.cell? ⟨b.blk, b.off + 3, none⟩ = some p := hb.c3
  have h4 : w.cell? ⟨b.blk, b.off + 4, none⟩ = some l := hb.c4
  have f3 : w.frozen? ⟨b.blk, b.off + 3, none⟩ = false := hb.fr _
  have f4 : w.frozen? ⟨b.blk, b.off + 4, none⟩ = false := hb.fr _
  have hbs : b.blk < w.heap.size := hb.lt
  have hpls : pl < w.heap.size := World.block_lt_of_cell? w _ hp
  obtain ⟨O1, HO1, hm1⟩ : ∃ O : Obj, Hid (O = .cells (madeCells #[.int .i64 0] 16382) 3) ∧ ∀ w : World, (Instr.makeSlice 57 (.int .i64 16382) (.int .i64 16382)).run Tryz.prog w = .ok (.slice (some ⟨w.heap.size, 0, none⟩) 16382 16382) (w.alloc O) :=
    ⟨_, rfl, run_make_row' (P := Tryz.prog) 57 3 (.int .i64 0) 8 Tryz.underlying57 intCells rfl .i64 .i64 16382 (by omega) (by omega)⟩
  obtain ⟨O2, HO2, hm2⟩ : ∃ O : Obj, Hid (O = .cells (madeCells #[.int .i64 0] 8192) 3) ∧ ∀ w : World, (Instr.makeSlice 57 (.int .i64 8192) (.int .i64 8192)).run Tryz.prog w = .ok (.slice (some ⟨w.heap.size, 0, none⟩) 8192 8192) (w.alloc O) :=
    ⟨_, rfl, run_make_row' (P := Tryz.prog) 57 3 (.int .i64 0) 8 Tryz.underlying57 intCells rfl .i64 .i64 8192 (by omega) (by omega)⟩
  have HB := Lib.hid hb
  clear hb
  go_enter Tryz.func247, Tryz.ntmps247
  go_wp2
  go_region
  all_goals go_wp2
  all_goals go_region
  all_goals go_wp2
  have HST := Lib.hid (round_start b d s m p l n w HB.out O1 O2 HO1.out HO2.out)
  clear HO1 HO2 HB h3 h4 f3 f4 hm1 hm2
  obtain ⟨pb, Hpb⟩ : ∃ pb, Hid (w.heap.size = pb) := ⟨_, rfl⟩
  go_loopw [1, 11] (fun el n' wr => ∃ k : Nat, k ≤ 8191 ∧ n' = .int .i64 k ∧ el = .int .i64 ((pw k : Nat) : Int) ∧ Hid (Round b w.heap.size (w.heap.size + 1) k d s m n w wr)) (fun _ n' _ => 8191 - (intOf n').toNat)
  case atStart => exact ⟨0, by omega, rfl, rfl, HST⟩
  case round =>
    clear HST
    obtain ⟨k, hk8, rfl, rfl, HR⟩ := hrel
    clear Hpb pb
    have hpb1 : b.blk < w.heap.size + 1 := by omega
    by_cases hk : k < 8191
    · have hR := HR.out
      have HS := Lib.hid (hR.step hk (Nat.le_refl _) (Nat.le_succ _) (by omega) hbs)
      obtain ⟨_, hb, hp', hl', hu⟩ := hR
      have c0 : wr.cell? ⟨pl, 0, none⟩ = some (.pointer (some ⟨b.blk, b.off, none⟩)) := (World.cell?_of_block (hu.block pl hpls hpl)).trans hp
      have c3 : wr.cell? ⟨b.blk, b.off + 3, none⟩ = some (.slice (some ⟨w.heap.size, 0, none⟩) 16382 16382) := hb.c3
      have c4 : wr.cell? ⟨b.blk, b.off + 4, none⟩ = some (.slice (some ⟨w.heap.size + 1, 0, none⟩) 8192 8192) := hb.c4
      have p1 := hp'.cell (i := k) (by omega)
      have p2 := hp'.cell (i := k + 8191) (by omega)
      have g1 := hp'.frozen k
      have g2 := hp'.frozen (k + 8191)
      have hpw := pw_lt k
      have l1 := hl'.cell (i := pw k) hpw
      have g3 := hl'.frozen (pw k)
      have n1 : ¬ b.blk = w.heap.size := by omega
      have n2 : ¬ b.blk = w.heap.size + 1 := by omega
      have n3 : ¬ w.heap.size = b.blk := by omega
      have n4 : ¬ w.heap.size + 1 = b.blk := by omega
      have n5 : ¬ pl = w.heap.size := by omega
      have n6 : ¬ pl = w.heap.size + 1 := by omega
      have n7 : ¬ w.heap.size = pl := by omega
      have n8 : ¬ w.heap.size + 1 = pl := by omega
      clear hb hp' hl' hu hp
      go_wp2
      go_region
      go_wp2_with (go_at_call 248; refine (double_any (pw k) _ hpw).mono ?_; rintro e w' ⟨rfl, rfl⟩)
      go_roundw
      case rel => exact ⟨k + 1, by omega, by go_num, rfl, HS.out.drew⟩
      case measure => simp [intOf]; omega
    · obtain rfl : k = 8191 := by omega
      clear hk
      go_wp2
      go_end0
      obtain ⟨_, r1, r2, r3, r4⟩ := HR.out
      exact ⟨rfl, w.heap.size, w.heap.size + 1, Nat.le_refl _, Nat.le_succ _, by omega, r1, r2, r3, r4⟩
end Go.Proofs.YtoledgpcgjdjjaaGreatDoor
