/- Walks over package gf: the double; the tables, as the once's function lays them; Walks over package gf: the once, and prepare; Walks over package gf: prepare, product, and the calls; Walks over package gf: Inv, Pow, Eval; Walks over package gf: Eval; Walks over package gf where the tables are there: nothing that lay there is written; Walks over the document's own answers for layer 1; Walks over the document's own answers for layer 1: Exp, Eval. And how they agree with the calls. -/
import Derived.Test.YtnimgkijodfjkaaRows
import Derived.Test.YtnimgkijodfjkaaKLib
import Derived.Test.YtnimgkijodfjkaaKGfm
import Derived.WalkKit
import Derived.Lib.Hide
import Derived.WalkSpells
import Derived.WalkLawsBesides
import Derived.BigQuiet
import Derived.BigRegion
import Derived.Deep.OwnRows
import Derived.Deep.QuietTactic
import Derived.Defers
import Derived.Laws.Pointers
import Derived.Laws.LoneSync
import Derived.RegionTactic
import Derived.RegionCalls
import Derived.ChangeAlike
namespace Go.Proofs.Ytnimgkijodfjkaa.Doc
open Go.RowKit Gfm

set_option maxRecDepth 100000 in
set_option maxHeartbeats 400000 in
theorem double_any (a : Nat) (w : World) (ha : a < 8192) :
    Calls Try.prog 105 #[.int .i64 (a : Int)] w fun e w' => e = .returned (.int .i64 (dbl a : Nat)) ∧ w = w' := by
  by_cases h : 2 * a ≥ 8192
  · have hx : bits .xor .i64 ((a : Int) * 2) 8219 = ((dbl a : Nat) : Int) := by
      have := i64_xor_nat (2 * a) 8219 (by omega) (by omega)
      unfold dbl
      rw [if_pos h, ← this, Int.mul_comm]
      rfl
    have Hx := Lib.hid hx
    clear hx
    go_enter Try.func105, Try.ntmps105
    go_wp2
    go_ret
    exact ⟨congrArg (fun x => Ending.returned (.int .i64 x)) Hx.out, rfl⟩
  · have hx : (a : Int) * 2 = ((dbl a : Nat) : Int) := by
      unfold dbl
      rw [if_neg h]; omega
    have Hx := Lib.hid hx
    clear hx
    go_enter Try.func105, Try.ntmps105
    go_wp2
    go_ret
    exact ⟨congrArg (fun x => Ending.returned (.int .i64 x)) Hx.out, rfl⟩

theorem intCells : (Try.prog.info? 3).map (fun i => (i.zero, i.size, i.bytes)) = some (some (.int .i64 0), 1, 8) := by kernel_rfl

/-- the tables after k rounds -/
def powRow (k : Nat) (i : Nat) : Value := .int .i64 ((if i < k then pw i else if 8191 ≤ i ∧ i < 8191 + k then pw i else 0 : Nat) : Int)
def logRow (k : Nat) (a : Nat) : Value := .int .i64 ((lgk k a : Nat) : Int)

/-- one round more -/
theorem powRow_succ (k : Nat) (hk : k < 8191) (i : Nat) : powRow (k + 1) i = if i = k + 8191 then .int .i64 ((pw k : Nat) : Int) else if i = k then .int .i64 ((pw k : Nat) : Int) else powRow k i := by
  unfold powRow
  by_cases h1 : i = k + 8191
  · subst h1
    rw [if_pos rfl, if_neg (by omega), if_pos (by omega), pw_add]
  · by_cases h2 : i = k
    · subst h2
      rw [if_neg h1, if_pos rfl, if_pos (by omega)]
    · rw [if_neg h1, if_neg h2]
      have e1 : i < k + 1 ↔ i < k := by omega
      have e2 : (8191 ≤ i ∧ i < 8191 + (k + 1)) ↔ (8191 ≤ i ∧ i < 8191 + k) := by omega
      simp only [e1, e2]
theorem logRow_succ (k a : Nat) : logRow (k + 1) a = if a = pw k then .int .i64 (k : Int) else logRow k a := by
  unfold logRow
  rw [lgk]
  by_cases h : a = pw k
  · subst h; rw [if_pos rfl, if_pos rfl]
  · rw [if_neg (fun e => h e.symm), if_neg h]

/-- the worlds at the loop's head -/
def Round (b pb lb k : Nat) (d s m n : Value) (w wr : World) : Prop :=
  k ≤ 8191 ∧ wr.heap[b]? = some (.cells #[d, s, m, .slice (some ⟨pb, 0, none⟩) 16382 16382, .slice (some ⟨lb, 0, none⟩) 8192 8192, n] 83 (0, 0)) ∧
    wr.rowIs pb 3 16382 (powRow k) ∧ wr.rowIs lb 3 8192 (logRow k) ∧ Upd (oneBlock b) w wr
theorem Round.step {b pb lb k : Nat} {d s m n : Value} {w wr : World} (h : Round b pb lb k d s m n w wr) (hk : k < 8191) (h1 : w.heap.size ≤ pb) (h2 : w.heap.size ≤ lb) (h3 : ¬ pb = lb) (h4 : b < w.heap.size) :
    Round b pb lb (k + 1) d s m n w (((wr.setCell ⟨pb, k, none⟩ (.int .i64 ((pw k : Nat) : Int))).setCell ⟨pb, k + 8191, none⟩ (.int .i64 ((pw k : Nat) : Int))).setCell ⟨lb, pw k, none⟩ (.int .i64 (k : Int))) := by
  obtain ⟨_, hb, hp, hl, hu⟩ := h
  refine ⟨hk, ?_, ?_, ?_, ?_⟩
  · exact block_set_other (block_set_other (block_set_other hb (by simp; omega) _) (by simp; omega) _) (by simp; omega) _
  · exact (((hp.set k _).set (k + 8191) _).setOther (by simp; omega) _).congr fun i _ => (powRow_succ k hk i).symm
  · exact (((hl.setOther (by simp; omega) _).setOther (by simp; omega) _).set (pw k) _).congr fun i _ => (logRow_succ k i).symm
  · exact ((hu.setCell (.inr h1) _).setCell (.inr h1) _).setCell (.inr h2) _

theorem Round.drew {b pb lb k : Nat} {d s m n : Value} {w wr : World} (h : Round b pb lb k d s m n w wr) : Round b pb lb k d s m n w wr.drew :=
  ⟨h.1, h.2.1, h.2.2.1.drew, h.2.2.2.1.drew, h.2.2.2.2.drew⟩
theorem round_start (b : Nat) (d s m p l n : Value) (w : World) (hb : w.heap[b]? = some (.cells #[d, s, m, p, l, n] 83 (0, 0)))
    (O1 O2 : Obj) (e1 : O1 = .cells (madeCells #[.int .i64 0] 16382) 3) (e2 : O2 = .cells (madeCells #[.int .i64 0] 8192) 3) :
    Round b w.heap.size (w.heap.size + 1) 0 d s m n w ((((w.setCell ⟨b, 3, none⟩ (.slice (some ⟨w.heap.size, 0, none⟩) 16382 16382)).setCell ⟨b, 4, none⟩ (.slice (some ⟨w.heap.size + 1, 0, none⟩) 8192 8192)).alloc O1).alloc O2).drew.drew := by
  obtain ⟨w2, hw2⟩ : ∃ w2, w2 = (w.setCell ⟨b, 3, none⟩ (.slice (some ⟨w.heap.size, 0, none⟩) 16382 16382)).setCell ⟨b, 4, none⟩ (.slice (some ⟨w.heap.size + 1, 0, none⟩) 8192 8192) := ⟨_, rfl⟩
  have hz : w2.heap.size = w.heap.size := by rw [hw2]; simp
  have h2 : w2.heap[b]? = some (.cells #[d, s, m, .slice (some ⟨w.heap.size, 0, none⟩) 16382 16382, .slice (some ⟨w.heap.size + 1, 0, none⟩) 8192 8192, n] 83 (0, 0)) := by
    rw [hw2]; exact block_set (block_set hb _) _
  have hu : Upd (oneBlock b) w w2 := by
    rw [hw2]; exact ((Upd.refl (oneBlock b) w).setCell (p := ⟨b, 3, none⟩) (.inl rfl) _).setCell (p := ⟨b, 4, none⟩) (.inl rfl) _
  rw [← hw2]
  subst e1 e2
  refine ⟨by omega, block_alloc (block_alloc h2 _) _, ?_, ?_, ((hu.alloc _).alloc _).drew.drew⟩
  · refine World.rowIs.congr (f := fun _ => .int .i64 0) ?_ (fun i _ => by unfold powRow; rw [if_neg (by omega), if_neg (by omega)]; rfl)
    refine World.rowIs.drew (World.rowIs.drew (World.rowIs.alloc ?_ _))
    have := World.rowIs_made w2 (.int .i64 0) 16382 3
    rw [hz] at this
    exact this
  · refine World.rowIs.congr (f := fun _ => .int .i64 0) ?_ (fun i _ => by unfold logRow; rfl)
    refine World.rowIs.drew (World.rowIs.drew ?_)
    have := World.rowIs_made (w2.alloc (.cells (madeCells #[.int .i64 0] 16382) 3)) (.int .i64 0) 8192 3
    rw [World.size_alloc, hz] at this
    exact this

/-- what the tables' function leaves of the field in block b -/
def Filled (b : Nat) (d s m n : Value) (w w' : World) : Prop :=
  ∃ pb lb, w.heap.size ≤ pb ∧ w.heap.size ≤ lb ∧ ¬ pb = lb ∧
    w'.heap[b]? = some (.cells #[d, s, m, .slice (some ⟨pb, 0, none⟩) 16382 16382, .slice (some ⟨lb, 0, none⟩) 8192 8192, n] 83 (0, 0)) ∧
    w'.rowIs pb 3 16382 (powRow 8191) ∧ w'.rowIs lb 3 8192 (logRow 8191) ∧ Upd (oneBlock b) w w'

set_option maxRecDepth 100000 in
set_option maxHeartbeats 1600000 in
theorem fill_any (b pl : Nat) (d s m p l n : Value) (w : World) (hpl : ¬ pl = b) (hp : w.cell? ⟨pl, 0, none⟩ = some (.pointer (some ⟨b, 0, none⟩)))
    (hb : w.heap[b]? = some (.cells #[d, s, m, p, l, n] 83 (0, 0))) :
    Calls Try.prog 104 #[.pointer (some ⟨pl, 0, none⟩)] w fun e w' => e = .returned (.tuple #[]) ∧ Filled b d s m n w w' := by
  have h3 : w.cell? ⟨b, 3, none⟩ = some p := cell_of hb 3
  have h4 : w.cell? ⟨b, 4, none⟩ = some l := cell_of hb 4
  have f3 : w.frozen? ⟨b, 3, none⟩ = false := free_of hb 3
  have f4 : w.frozen? ⟨b, 4, none⟩ = false := free_of hb 4
  have hbs : b < w.heap.size := lt_of_block hb
  have hpls : pl < w.heap.size := World.block_lt_of_cell? w _ hp
  obtain ⟨O1, HO1, hm1⟩ : ∃ O : Obj, Hid (O = .cells (madeCells #[.int .i64 0] 16382) 3) ∧ ∀ w : World, (Instr.makeSlice 37 (.int .i64 16382) (.int .i64 16382)).run Try.prog w = .ok (.slice (some ⟨w.heap.size, 0, none⟩) 16382 16382) (w.alloc O) :=
    ⟨_, rfl, run_make_row' (P := Try.prog) 37 3 (.int .i64 0) 8 Try.underlying37 intCells rfl .i64 .i64 16382 (by omega) (by omega)⟩
  obtain ⟨O2, HO2, hm2⟩ : ∃ O : Obj, Hid (O = .cells (madeCells #[.int .i64 0] 8192) 3) ∧ ∀ w : World, (Instr.makeSlice 37 (.int .i64 8192) (.int .i64 8192)).run Try.prog w = .ok (.slice (some ⟨w.heap.size, 0, none⟩) 8192 8192) (w.alloc O) :=
    ⟨_, rfl, run_make_row' (P := Try.prog) 37 3 (.int .i64 0) 8 Try.underlying37 intCells rfl .i64 .i64 8192 (by omega) (by omega)⟩
  have HB := Lib.hid hb
  clear hb
  go_enter Try.func104, Try.ntmps104
  go_wp2
  go_region
  all_goals go_wp2
  all_goals go_region
  all_goals go_wp2
  have HST := Lib.hid (round_start b d s m p l n w HB.out O1 O2 HO1.out HO2.out)
  clear HO1 HO2 HB h3 h4 f3 f4 hm1 hm2
  obtain ⟨pb, Hpb⟩ : ∃ pb, Hid (w.heap.size = pb) := ⟨_, rfl⟩
  go_loopw [1, 11] (fun el n' wr => ∃ k : Nat, k ≤ 8191 ∧ n' = .int .i64 k ∧ el = .int .i64 ((pw k : Nat) : Int) ∧ Hid (Round b w.heap.size (w.heap.size + 1) k d s m n w wr)) (fun _ n' _ => 8191 - (intOf n').toNat)
  case atStart => exact ⟨0, by omega, rfl, rfl, HST⟩
  case round =>
    clear HST
    obtain ⟨k, hk8, rfl, rfl, HR⟩ := hrel
    clear Hpb pb
    have hpb1 : b < w.heap.size + 1 := by omega
    by_cases hk : k < 8191
    · have hR := HR.out
      have HS := Lib.hid (hR.step hk (Nat.le_refl _) (Nat.le_succ _) (by omega) hbs)
      obtain ⟨_, hb, hp', hl', hu⟩ := hR
      have c0 : wr.cell? ⟨pl, 0, none⟩ = some (.pointer (some ⟨b, 0, none⟩)) := (World.cell?_of_block (hu.block pl hpls hpl)).trans hp
      have c3 : wr.cell? ⟨b, 3, none⟩ = some (.slice (some ⟨w.heap.size, 0, none⟩) 16382 16382) := cell_of hb 3
      have c4 : wr.cell? ⟨b, 4, none⟩ = some (.slice (some ⟨w.heap.size + 1, 0, none⟩) 8192 8192) := cell_of hb 4
      have p1 := hp'.cell (i := k) (by omega)
      have p2 := hp'.cell (i := k + 8191) (by omega)
      have g1 := hp'.frozen k
      have g2 := hp'.frozen (k + 8191)
      have hpw := pw_lt k
      have l1 := hl'.cell (i := pw k) hpw
      have g3 := hl'.frozen (pw k)
      have n1 : ¬ b = w.heap.size := by omega
      have n2 : ¬ b = w.heap.size + 1 := by omega
      have n3 : ¬ w.heap.size = b := by omega
      have n4 : ¬ w.heap.size + 1 = b := by omega
      have n5 : ¬ pl = w.heap.size := by omega
      have n6 : ¬ pl = w.heap.size + 1 := by omega
      have n7 : ¬ w.heap.size = pl := by omega
      have n8 : ¬ w.heap.size + 1 = pl := by omega
      clear hb hp' hl' hu hp
      go_wp2
      go_region
      go_wp2_with (go_at_call 105; refine (double_any (pw k) _ hpw).mono ?_; rintro e w' ⟨rfl, rfl⟩)
      go_roundw
      case rel => exact ⟨k + 1, by omega, by go_num, rfl, HS.out.drew⟩
      case measure => simp [intOf]; omega
    · obtain rfl : k = 8191 := by omega
      clear hk
      go_wp2
      go_end0
      obtain ⟨_, r1, r2, r3, r4⟩ := HR.out
      exact ⟨rfl, w.heap.size, w.heap.size + 1, Nat.le_refl _, Nat.le_succ _, by omega, r1, r2, r3, r4⟩
end Go.Proofs.Ytnimgkijodfjkaa.Doc
namespace Go.Proofs.Ytnimgkijodfjkaa.Doc
open Go.RowKit Gfm

theorem disable (w : World) : (callFunc 96 #[]).run Try.prog w = .ok (.value (.tuple #[])) w := run_call_mark0 Try.func96 (by kernel_rfl) (by kernel_rfl) (by kernel_rfl) .disable (by kernel_rfl) w
theorem enable (w : World) : (callFunc 98 #[]).run Try.prog w = .ok (.value (.tuple #[])) w := run_call_mark0 Try.func98 (by kernel_rfl) (by kernel_rfl) (by kernel_rfl) .enable (by kernel_rfl) w
theorem acquire (a : Addr) (w : World) : (callFunc 99 #[.pointer (some a)]).run Try.prog w = .ok (.value (.tuple #[])) w := run_call_marked Try.func99 (by kernel_rfl) (by kernel_rfl) (by kernel_rfl) .acquire (by kernel_rfl) a w
theorem releaseMerge (a : Addr) (w : World) : (callFunc 101 #[.pointer (some a)]).run Try.prog w = .ok (.value (.tuple #[])) w := run_call_marked Try.func101 (by kernel_rfl) (by kernel_rfl) (by kernel_rfl) .releaseMerge (by kernel_rfl) a w

/-- '(*sync/atomic.Bool).Store(true)', deferred -/
theorem store_deferred (a : Addr) (x : Value) (u : FrameMode) (w : World) (hc : w.cell? a = some x) (hz : w.frozen? a = false) :
    CallsD Try.prog 73 #[.pointer (some a), .bool true] u w fun e u' w' => u' = u ∧ (e = .returned (.tuple #[]) ∧ w' = w.drew.setCell a (.int .u32 1)) := by
  have hc' : w.drew.cell? a = some x := by go_simp
  have hz' : w.drew.frozen? a = false := by go_simp
  have hst := run_call_store (P := Try.prog) Try.func88 (by kernel_rfl) (by kernel_rfl) (by kernel_rfl) (by kernel_rfl) (k := .u32) (y := 1) hc' hz'
  go_enter_d Try.func73, Try.ntmps73
  go_wp2
  go_region_calls
  all_goals (go_end0; exact ⟨rfl, rfl⟩)

set_option maxRecDepth 100000 in
set_option maxHeartbeats 800000 in
/-- '(*sync.Mutex).Unlock', deferred: state 1 -/
theorem unlock_deferred (a : Addr) (u : FrameMode) (w : World) (hc : w.cell? a = some (.int .i32 1)) (hz : w.frozen? a = false) :
    CallsD Try.prog 72 #[.pointer (some a)] u w fun e u' w' => u' = u ∧ (e = .returned (.tuple #[]) ∧ w' = w.setCell a (.int .i32 0)) := by
  have hd := disable
  have he := enable
  have hr := releaseMerge
  have hadd := run_call_add (P := Try.prog) Try.func102 (by kernel_rfl) (by kernel_rfl) (by kernel_rfl) .i32 (by kernel_rfl) (y := -1) (s := 0) hc hz (by simp [go_sem]; rfl)
  have hcv := run_convert_to_unsafe (P := Try.prog) (src := 167) (dst := 171) Try.underlying167 Try.underlying171 (by kernel_rfl) hc
  go_enter_d Try.func72, Try.ntmps72
  go_wp2
  go_end0
  go_wp2
  go_end0
  exact ⟨rfl, rfl⟩

set_option maxRecDepth 100000 in
set_option maxHeartbeats 800000 in
/-- '(*sync.Mutex).Lock', the lock free -/
theorem lock_free (a : Addr) (w : World) (hc : w.cell? a = some (.int .i32 0)) (hz : w.frozen? a = false) :
    Calls Try.prog 71 #[.pointer (some a)] w fun e w' => e = .returned (.tuple #[]) ∧ w' = w.setCell a (.int .i32 1) := by
  have hd := disable
  have he := enable
  have ha := acquire
  have hcas := run_call_cas_hit (P := Try.prog) Try.func97 (by kernel_rfl) (by kernel_rfl) (by kernel_rfl) .i32 (by kernel_rfl) (y := 1) hc hz
  have hc' : (w.setCell a (.int .i32 1)).cell? a = some (.int .i32 1) := World.cell?_setCell_same w a _ hc
  have hcv := run_convert_to_unsafe (P := Try.prog) (src := 167) (dst := 171) Try.underlying167 Try.underlying171 (by kernel_rfl) hc'
  go_enter Try.func71, Try.ntmps71
  go_wp2
  first | go_end0 | (simp only [Exit.inBlock, Exit.then]; refine bodyPost_ret (results_none rfl _ _ _) rfl ?_) | refine bodyPost_ret (results_none rfl _ _ _) rfl ?_
  go_wp2
  go_end0
  exact ⟨rfl, rfl⟩

theorem Filled.close {b : Nat} {s n : Value} {w w1 : World} (h : Filled b (.int .u32 0) (.int .i32 1) s n (w.setCell ⟨b, 1, none⟩ (.int .i32 1)) w1) (hb : b < w.heap.size) :
    Filled b (.int .u32 1) (.int .i32 0) s n w ((w1.drew.setCell ⟨b, 0, none⟩ (.int .u32 1)).setCell ⟨b, 1, none⟩ (.int .i32 0)) := by
  obtain ⟨pb, lb, h1, h2, h3, hh, hp, hl, hu⟩ := h
  have hz : (w.setCell ⟨b, 1, none⟩ (.int .i32 1)).heap.size = w.heap.size := by simp
  rw [hz] at h1 h2
  refine ⟨pb, lb, h1, h2, h3, ?_, ?_, ?_, ?_⟩
  · exact block_set (block_set (w := w1.drew) hh _) _
  · exact (hp.drew.setOther (by simp; omega) _).setOther (by simp; omega) _
  · exact (hl.drew.setOther (by simp; omega) _).setOther (by simp; omega) _
  · have h0 : Upd (oneBlock b) w (w.setCell ⟨b, 1, none⟩ (.int .i32 1)) := (Upd.refl (oneBlock b) w).setCell (p := ⟨b, 1, none⟩) (.inl rfl) _
    exact ((h0.trans hu).drew.setCell (p := ⟨b, 0, none⟩) (.inl rfl) _).setCell (p := ⟨b, 1, none⟩) (.inl rfl) _

set_option maxRecDepth 100000 in
set_option maxHeartbeats 1600000 in
theorem slow_any (b pl : Nat) (s p l n : Value) (w : World) (hpl : ¬ pl = b) (hp : w.cell? ⟨pl, 0, none⟩ = some (.pointer (some ⟨b, 0, none⟩)))
    (hb : w.heap[b]? = some (.cells #[.int .u32 0, .int .i32 0, s, p, l, n] 83 (0, 0))) :
    Calls Try.prog 51 #[.pointer (some ⟨b, 0, none⟩), .func (.func 104) #[] #[.pointer (some ⟨pl, 0, none⟩)]] w fun e w' => e = .returned (.tuple #[]) ∧ Filled b (.int .u32 1) (.int .i32 0) s n w w' := by
  have h0 : w.cell? ⟨b, 0, none⟩ = some (.int .u32 0) := cell_of hb 0
  have h1 : w.cell? ⟨b, 1, none⟩ = some (.int .i32 0) := cell_of hb 1
  have f1 : w.frozen? ⟨b, 1, none⟩ = false := free_of hb 1
  have hbs : b < w.heap.size := lt_of_block hb
  have hl := run_call_load (P := Try.prog) Try.func70 (by kernel_rfl) (by kernel_rfl) (by kernel_rfl) .u32 (by kernel_rfl) (w := w.setCell ⟨b, 1, none⟩ (.int .i32 1)) (a := ⟨b, 0, none⟩) (x := 0) ((World.cell?_setCell_other _ ⟨b, 1, none⟩ ⟨b, 0, none⟩ _ (by simp)).trans h0)
  have hp1 : (w.setCell ⟨b, 1, none⟩ (.int .i32 1)).cell? ⟨pl, 0, none⟩ = some (.pointer (some ⟨b, 0, none⟩)) := (World.cell?_setCell_other _ ⟨b, 1, none⟩ ⟨pl, 0, none⟩ _ (fun h => hpl (by injection h with h; exact h.symm))).trans hp
  have hb1 : (w.setCell ⟨b, 1, none⟩ (.int .i32 1)).heap[b]? = some (.cells #[.int .u32 0, .int .i32 1, s, p, l, n] 83 (0, 0)) := block_set hb _
  have HB1 := Lib.hid hb1
  have HP1 := Lib.hid hp1
  have hnot : ∀ (x : Bool) (w : World), (Op.unary .not (.bool x)).run Try.prog w = .ok (.bool (!x)) w := fun _ _ => rfl
  clear hb hb1 hp hp1
  go_enter_defers Try.func51, Try.ntmps51
  go_wp2_with (first | (go_at_call 71; refine (lock_free ⟨b, 1, none⟩ _ (by go_simp) (by go_simp)).mono ?_; rintro e w' ⟨rfl, rfl⟩) | (go_at_call 50; go_in))
  refine (fill_any b pl _ _ _ _ _ _ _ hpl HP1.out HB1.out).mono ?_
  rintro e w1 ⟨rfl, HF⟩
  clear hl
  go_wp2
  have HG := HF.close hbs
  obtain ⟨pb, lb, _, _, _, hh, _, _, _⟩ := HF
  have HH := Lib.hid hh
  clear hh
  refine leaves_cons (f := 73) (args := #[.pointer (some ⟨b, 0, none⟩), .bool true]) (by simp) (by simp [go_sem]) ?_
  refine (store_deferred ⟨b, 0, none⟩ (.int .u32 0) .returning _ (cell_of HH.out 0) (free_of HH.out 0)).mono ?_
  rintro e u' w'' ⟨rfl, rfl, rfl⟩
  refine leaves_cons (f := 72) (args := #[.pointer (some ⟨b, 1, none⟩)]) (by simp [settle]) (by simp [go_sem]) ?_
  have hh2 := block_set (w := w1.drew) (i := 0) HH.out (.int .u32 1)
  refine (unlock_deferred ⟨b, 1, none⟩ _ _ (cell_of hh2 1) (free_of hh2 1)).mono ?_
  rintro e u' w'' ⟨rfl, rfl, rfl⟩
  simp [Leaves, settle, results, Try.results51]
  exact HG
set_option maxRecDepth 100000 in
set_option maxHeartbeats 1600000 in
/-- '(*sync.Once).Do', not yet done -/
theorem do_first (b pl : Nat) (s p l n : Value) (w : World) (hpl : ¬ pl = b) (hp : w.cell? ⟨pl, 0, none⟩ = some (.pointer (some ⟨b, 0, none⟩)))
    (hb : w.heap[b]? = some (.cells #[.int .u32 0, .int .i32 0, s, p, l, n] 83 (0, 0))) :
    Calls Try.prog 38 #[.pointer (some ⟨b, 0, none⟩), .func (.func 104) #[] #[.pointer (some ⟨pl, 0, none⟩)]] w fun e w' => e = .returned (.tuple #[]) ∧ Filled b (.int .u32 1) (.int .i32 0) s n w w' := by
  have h0 : w.cell? ⟨b, 0, none⟩ = some (.int .u32 0) := cell_of hb 0
  have hl := run_call_load (P := Try.prog) Try.func70 (by kernel_rfl) (by kernel_rfl) (by kernel_rfl) .u32 (by kernel_rfl) h0
  have hnot : ∀ (x : Bool) (w : World), (Op.unary .not (.bool x)).run Try.prog w = .ok (.bool (!x)) w := fun _ _ => rfl
  have HB := Lib.hid hb
  have HP := Lib.hid hp
  clear hb hp
  go_enter Try.func38, Try.ntmps38
  go_wp2_with (first | (go_at_call 51; refine (slow_any b pl _ _ _ _ _ hpl HP.out HB.out).mono ?_; rintro e w' ⟨rfl, HF⟩) | (go_at_call 50; go_in))
  go_end0
  exact ⟨rfl, HF⟩

set_option maxRecDepth 100000 in
set_option maxHeartbeats 800000 in
/-- '(*sync.Once).Do', done already -/
theorem do_done (a : Addr) (fv : Value) (w : World) (h0 : w.cell? a = some (.int .u32 1)) :
    Calls Try.prog 38 #[.pointer (some a), fv] w fun e w' => e = .returned (.tuple #[]) ∧ w = w' := by
  have hl := run_call_load (P := Try.prog) Try.func70 (by kernel_rfl) (by kernel_rfl) (by kernel_rfl) .u32 (by kernel_rfl) h0
  have hnot : ∀ (x : Bool) (w : World), (Op.unary .not (.bool x)).run Try.prog w = .ok (.bool (!x)) w := fun _ _ => rfl
  go_enter Try.func38, Try.ntmps38
  go_wp2
  go_end0
  exact ⟨rfl, rfl⟩

/-! ### a field in memory -/
def Fresh (w : World) (b : Nat) (n : Int) : Prop :=
  w.heap[b]? = some (.cells #[.int .u32 0, .int .i32 0, .int .u32 0, .slice none 0 0, .slice none 0 0, .int .i64 n] 83 (0, 0))
def Ready (w : World) (b : Nat) (n : Int) : Prop :=
  ∃ pb lb, w.heap[b]? = some (.cells #[.int .u32 1, .int .i32 0, .int .u32 0, .slice (some ⟨pb, 0, none⟩) 16382 16382, .slice (some ⟨lb, 0, none⟩) 8192 8192, .int .i64 n] 83 (0, 0)) ∧
    w.rowIs pb 3 16382 (powRow 8191) ∧ w.rowIs lb 3 8192 (logRow 8191)
def Fld (w : World) (b : Nat) (n : Int) : Prop := Fresh w b n ∨ Ready w b n

theorem Ready.fld {w : World} {b : Nat} {n : Int} (h : Ready w b n) : Fld w b n := .inr h
theorem Fld.block {w : World} {b : Nat} {n : Int} (h : Fld w b n) : ∃ c, w.heap[b]? = some (.cells c 83 (0, 0)) := by
  rcases h with h | ⟨_, _, h, _⟩
  · exact ⟨_, h⟩
  · exact ⟨_, h⟩
theorem Fld.lt {w : World} {b : Nat} {n : Int} (h : Fld w b n) : b < w.heap.size := by
  obtain ⟨c, hc⟩ := h.block; exact lt_of_block hc
/-- a table is no field -/
theorem rowIs_ne {w : World} {b pb k : Nat} {f : Nat → Value} (h : w.rowIs pb 3 k f) {c : Array Value} (hb : w.heap[b]? = some (.cells c 83 (0, 0))) : ¬ pb = b := by
  rintro rfl
  obtain ⟨c', h', _⟩ := h
  rw [h'] at hb
  simp at hb
theorem Ready.keep {w w' : World} {b : Nat} {n : Int} (h : Ready w b n) {R : Nat → Prop} (hu : Upd R w w') (hR : ∀ k, k < w.heap.size → R k → k ≠ b ∧ ∃ c, w.heap[k]? = some (.cells c 83 (0, 0))) : Ready w' b n := by
  obtain ⟨pb, lb, hb, hp, hl⟩ := h
  refine ⟨pb, lb, hu.cells hb ?_, hp.of_block (hu.block _ hp.lt ?_), hl.of_block (hu.block _ hl.lt ?_)⟩
  · intro hr; exact (hR b (lt_of_block hb) hr).1 rfl
  · intro hr
    obtain ⟨_, c, hc⟩ := hR pb hp.lt hr
    exact rowIs_ne hp hc rfl
  · intro hr
    obtain ⟨_, c, hc⟩ := hR lb hl.lt hr
    exact rowIs_ne hl hc rfl
theorem Fld.keep {w w' : World} {b : Nat} {n : Int} (h : Fld w b n) {R : Nat → Prop} (hu : Upd R w w') (hR : ∀ k, k < w.heap.size → R k → k ≠ b ∧ ∃ c, w.heap[k]? = some (.cells c 83 (0, 0))) : Fld w' b n := by
  rcases h with h | h
  · exact .inl (hu.cells h (fun hr => (hR b (lt_of_block h) hr).1 rfl))
  · exact .inr (h.keep hu hR)
theorem Fld.other {w w' : World} {b b' : Nat} {n n' : Int} (h : Fld w b n) (h' : Fld w b' n') (hne : b ≠ b') (hu : Upd (oneBlock b') w w') : Fld w' b n :=
  h.keep hu (fun k _ hk => by
    have e : k = b' := hk
    subst e
    exact ⟨fun e => hne e.symm, h'.block⟩)
theorem Fld.alloc {w : World} {b : Nat} {n : Int} (h : Fld w b n) (o : Obj) : Fld (w.alloc o) b n :=
  h.keep ((Upd.refl noBlock w).alloc o) (fun _ _ hk => hk.elim)
theorem Fld.grow {w w' : World} {b : Nat} {n : Int} (h : Fld w b n) (hu : Upd noBlock w w') : Fld w' b n :=
  h.keep hu (fun _ _ hk => hk.elim)

end Go.Proofs.Ytnimgkijodfjkaa.Doc
namespace Go.Proofs.Ytnimgkijodfjkaa.Doc
open Go.RowKit Gfm

set_option maxRecDepth 100000 in
set_option maxHeartbeats 800000 in
/-- prepare: the tables are there -/
theorem prepare_any (b : Nat) (n : Int) (w : World) (h : Fld w b n) :
    Calls Try.prog 91 #[.pointer (some ⟨b, 0, none⟩)] w fun e w' => e = .returned (.tuple #[]) ∧ Ready w' b n ∧ Upd (oneBlock b) w w' := by
  have hbs := h.lt
  have hmf : ∀ (fn : Fn) (first cap : Array Value) (w : World), (Instr.makeFunc fn first cap).run Try.prog w = .ok (.func fn first cap) w := fun _ _ _ _ => rfl
  have hne : ¬ w.heap.size = b := by omega
  rcases h with h | h
  · have HB := Lib.hid (block_alloc h (.cells #[.pointer (some ⟨b, 0, none⟩)] 102))
    clear h
    go_enter Try.func91, Try.ntmps91
    go_wp2_with (go_at_call 38; refine (do_first b _ _ _ _ _ _ hne (by simp) HB.out).mono ?_; rintro e w' ⟨rfl, HF⟩)
    go_end0
    obtain ⟨pb, lb, g1, g2, g3, hh, hp, hl, hu⟩ := HF
    exact ⟨rfl, ⟨pb, lb, hh, hp, hl⟩, ((Upd.refl (oneBlock b) w).alloc _).trans hu⟩
  · obtain ⟨pb, lb, hb, hp, hl⟩ := h
    have HB := Lib.hid (block_alloc hb (.cells #[.pointer (some ⟨b, 0, none⟩)] 102))
    have HR : Hid (Ready (w.alloc (.cells #[.pointer (some ⟨b, 0, none⟩)] 102)) b n) := Ready.keep ⟨pb, lb, hb, hp, hl⟩ ((Upd.refl noBlock w).alloc _) (fun _ _ hk => hk.elim)
    clear hb hp hl
    go_enter Try.func91, Try.ntmps91
    go_wp2_with (go_at_call 38; refine (do_done ⟨b, 0, none⟩ _ _ (cell_of HB.out 0)).mono ?_; rintro e w' ⟨rfl, rfl⟩)
    go_end0
    exact ⟨rfl, HR.out, (Upd.refl (oneBlock b) w).alloc _⟩

/-- product: of two elements, the tables being there -/
def prodN (a c : Nat) : Nat := if a = 0 ∨ c = 0 then 0 else pw (lg a + lg c)
theorem prodN_eq (a c : Nat) (ha : a < 8192) (hc : c < 8192) : prodN a c = mul a c := by
  unfold prodN
  by_cases h : a = 0 ∨ c = 0
  · rw [if_pos h]
    rcases h with rfl | rfl
    · rw [zero_mul]
    · rw [mul_zero]
  · rw [if_neg h, prod_eq _ _ (by omega) (by omega) ha hc]

set_option maxRecDepth 100000 in
set_option maxHeartbeats 800000 in
theorem product_any (b a c : Nat) (n : Int) (w : World) (h : Ready w b n) (ha : a < 8192) (hc : c < 8192) :
    Calls Try.prog 106 #[.pointer (some ⟨b, 0, none⟩), .int .i64 (a : Int), .int .i64 (c : Int)] w fun e w' => e = .returned (.int .i64 (mul a c : Nat)) ∧ ∃ k, w' = w.drewN k := by
  rw [← prodN_eq a c ha hc]
  by_cases h1 : a = 0
  · subst h1
    have : prodN 0 c = 0 := by simp [prodN]
    rw [this]
    go_enter Try.func106, Try.ntmps106
    go_wp2
    go_ret
    exact ⟨rfl, 0, rfl⟩
  · by_cases h2 : c = 0
    · subst h2
      have : prodN a 0 = 0 := by simp [prodN]
      rw [this]
      have t1 : ((a : Int) == 0) = false := by simp; omega
      go_enter Try.func106, Try.ntmps106
      go_wp2
      go_ret
      exact ⟨rfl, 0, rfl⟩
    · have t1 : ((a : Int) == 0) = false := by simp; omega
      have t2 : ((c : Int) == 0) = false := by simp; omega
      have hv : prodN a c = pw (lg a + lg c) := by rw [prodN, if_neg (by omega)]
      rw [hv]
      obtain ⟨pb, lb, hb, hp, hl⟩ := h
      have c3 : w.cell? ⟨b, 3, none⟩ = some (.slice (some ⟨pb, 0, none⟩) 16382 16382) := cell_of hb 3
      have c4 : w.cell? ⟨b, 4, none⟩ = some (.slice (some ⟨lb, 0, none⟩) 8192 8192) := cell_of hb 4
      have k1 := lg_lt a
      have k2 := lg_lt c
      have l1 : w.cell? ⟨lb, a, none⟩ = some (.int .i64 ((lg a : Nat) : Int)) := hl.cell (i := a) ha
      have l2 : w.cell? ⟨lb, c, none⟩ = some (.int .i64 ((lg c : Nat) : Int)) := hl.cell (i := c) hc
      have p1 : w.cell? ⟨pb, lg a + lg c, none⟩ = some (.int .i64 ((pw (lg a + lg c) : Nat) : Int)) := by
        have := hp.cell (i := lg a + lg c) (by omega)
        rw [this]
        unfold powRow
        by_cases g : lg a + lg c < 8191
        · rw [if_pos g]
        · rw [if_neg g, if_pos (by omega)]
      clear hb hp hl hv
      generalize lg a = x at *
      generalize lg c = y at *
      have s1 : IntKind.i64.wrap ((x : Int) + (y : Int)) = (x : Int) + (y : Int) := IntWalk.i64_in _ (by omega)
      have s2 : ((x : Int) + (y : Int)).toNat = x + y := by omega
      have s3 : (0 : Int) ≤ (x : Int) + (y : Int) := by omega
      have s4 : (x : Int) + (y : Int) < 16382 := by omega
      go_enter Try.func106, Try.ntmps106
      go_wp2
      go_quiet (fail)
      go_wp2
      go_ret
      exact ⟨rfl, _, rfl⟩

/-! ### the calls -/
def low (a : Int) : Nat := (a % 8192).toNat
theorem low_lt (a : Int) : low a < 8192 := by unfold low; omega
theorem low_eq (a : Int) : a % 8192 = ((low a : Nat) : Int) := by unfold low; omega
theorem Fld.drewN {w : World} {b : Nat} {n : Int} (h : Fld w b n) (k : Nat) : Fld (w.drewN k) b n := h
theorem Ready.drewN {w : World} {b : Nat} {n : Int} (h : Ready w b n) (k : Nat) : Ready (w.drewN k) b n := h

/-- the count of products, one more -/
theorem Fld.counted {w : World} {b : Nat} {n : Int} (h : Fld w b n) (m : Int) : Fld (w.setCell ⟨b, 5, none⟩ (.int .i64 m)) b m := by
  rcases h with h | ⟨pb, lb, h, hp, hl⟩
  · exact .inl (block_set h _)
  · exact .inr ⟨pb, lb, block_set h _, hp.setOther (rowIs_ne hp h) _, hl.setOther (rowIs_ne hl h) _⟩
theorem Fld.cell5 {w : World} {b : Nat} {n : Int} (h : Fld w b n) : w.cell? ⟨b, 5, none⟩ = some (.int .i64 n) ∧ w.frozen? ⟨b, 5, none⟩ = false := by
  rcases h with h | ⟨pb, lb, h, hp, hl⟩
  · exact ⟨cell_of h 5, free_of h 5⟩
  · exact ⟨cell_of h 5, free_of h 5⟩

/-- the same power, from 0 to 8190 -/
def trn (n : Int) : Nat := (n % 8191).toNat
theorem tmod_cases (n m : Int) : (0 ≤ n ∧ n.tmod m = n % m) ∨ (n < 0 ∧ n.tmod m = -((-n) % m)) := by
  by_cases h : 0 ≤ n
  · exact .inl ⟨h, Int.tmod_eq_emod_of_nonneg h⟩
  · refine .inr ⟨by omega, ?_⟩
    have e : n.tmod m = -((-n).tmod m) := by rw [Int.neg_tmod, Int.neg_neg]
    rw [e, Int.tmod_eq_emod_of_nonneg (by omega)]
theorem trn_lt (n : Int) : trn n < 8191 := by unfold trn; omega
set_option maxRecDepth 100000 in
theorem turn_any (n : Int) (w : World) :
    Calls Try.prog 92 #[.int .i64 n] w fun e w' => e = .returned (.int .i64 (trn n : Nat)) ∧ w = w' := by
  by_cases h0 : n.tmod 8191 < 0
  · have hv : n.tmod 8191 + 8191 = ((trn n : Nat) : Int) := by
      unfold trn
      have := tmod_cases n 8191
      omega
    have Hv := Lib.hid hv
    have b1 : -8191 < n.tmod 8191 := by have := tmod_cases n 8191; omega
    clear hv
    go_enter Try.func92, Try.ntmps92
    go_wp2
    go_ret
    exact ⟨congrArg (fun x => Ending.returned (.int .i64 x)) Hv.out, rfl⟩
  · have hv : n.tmod 8191 = ((trn n : Nat) : Int) := by
      unfold trn
      have := tmod_cases n 8191
      omega
    have Hv := Lib.hid hv
    have b1 : n.tmod 8191 < 8191 := by have := tmod_cases n 8191; omega
    clear hv
    go_enter Try.func92, Try.ntmps92
    go_wp2
    go_ret
    exact ⟨congrArg (fun x => Ending.returned (.int .i64 x)) Hv.out, rfl⟩

theorem quiet_eq {P : Program} {f : FuncId} {args : Array Value} {w : World} {n : Nat} {v : Value}
    (h : Calls P f args (w.drewN n) fun e w' => e = .returned v ∧ w.drewN n = w') : Calls P f args (w.drewN n) fun e w'' => e = .returned v ∧ ∃ m, w'' = w.drewN m :=
  h.mono fun _ _ ⟨he, hm⟩ => ⟨he, n, hm.symm⟩

set_option maxRecDepth 100000 in
set_option maxHeartbeats 800000 in
theorem exp_any (b : Nat) (n k : Int) (w : World) (h : Fld w b n) :
    Calls Try.prog 77 #[.pointer (some ⟨b, 0, none⟩), .int .i64 k] w fun e w' =>
      e = .returned (.int .i64 (pw (trn k) : Nat)) ∧ Ready w' b n ∧ Upd (oneBlock b) w w' := by
  have HF := Lib.hid h
  clear h
  go_enter Try.func77, Try.ntmps77
  go_wp2_with (go_at_call 91; refine (prepare_any b n _ HF.out).mono ?_; rintro e w1 ⟨rfl, HR0, HV0⟩; have HR := Lib.hid HR0; have HV := Lib.hid HV0; clear HR0 HV0)
  obtain ⟨pb, lb, hb, hp, hl⟩ := HR.out
  have c3 : w1.cell? ⟨b, 3, none⟩ = some (.slice (some ⟨pb, 0, none⟩) 16382 16382) := cell_of hb 3
  have ht := trn_lt k
  have p1 : w1.cell? ⟨pb, trn k, none⟩ = some (.int .i64 ((pw (trn k) : Nat) : Int)) := by
    have := hp.cell (i := trn k) (by omega)
    rw [this]
    unfold powRow
    rw [if_pos ht]
  have s1 : ((trn k : Nat) : Int) < 16382 := by omega
  have s2 : (0 : Int) ≤ ((trn k : Nat) : Int) := by omega
  clear hb hp hl
  go_quiet ((go_at_call 92; exact quiet_eq (turn_any k _)))
  go_wp2
  go_ret
  exact ⟨rfl, HR.out.drewN _, HV.out.drewN _⟩

set_option maxRecDepth 100000 in
set_option maxHeartbeats 800000 in
theorem log_yes (b : Nat) (n a : Int) (w : World) (h : Fld w b n) (ha : low a ≠ 0) :
    Calls Try.prog 94 #[.pointer (some ⟨b, 0, none⟩), .int .i64 a] w fun e w' =>
      e = .returned (.tuple #[.int .i64 (lg (low a) : Nat), .bool true]) ∧ Ready w' b n ∧ Upd (oneBlock b) w w' := by
  have HF := Lib.hid h
  have m1 : bits .and .i64 a 8191 = ((low a : Nat) : Int) := by rw [i64_8191, low_eq]
  have t1 : (((low a : Nat) : Int) == 0) = false := by simp; omega
  have hlow := low_lt a
  clear h
  go_enter Try.func94, Try.ntmps94
  go_wp2_with (go_at_call 91; refine (prepare_any b n _ HF.out).mono ?_; rintro e w1 ⟨rfl, HR0, HV0⟩; have HR := Lib.hid HR0; have HV := Lib.hid HV0; clear HR0 HV0; obtain ⟨pb, lb, hb, hp, hl⟩ := HR.out; have c4 : w1.cell? ⟨b, 4, none⟩ = some (.slice (some ⟨lb, 0, none⟩) 8192 8192) := cell_of hb 4; have l1 : w1.cell? ⟨lb, low a, none⟩ = some (.int .i64 ((lg (low a) : Nat) : Int)) := hl.cell (i := low a) hlow; clear hb hp hl)
  go_ret2
  exact ⟨rfl, HR.out, HV.out⟩

set_option maxRecDepth 100000 in
set_option maxHeartbeats 800000 in
theorem log_no (b : Nat) (a : Int) (w : World) (ha : low a = 0) :
    Calls Try.prog 94 #[.pointer (some ⟨b, 0, none⟩), .int .i64 a] w fun e w' =>
      e = .returned (.tuple #[.int .i64 0, .bool false]) ∧ w = w' := by
  have m1 : bits .and .i64 a 8191 = 0 := by rw [i64_8191, low_eq, ha]; rfl
  clear ha
  go_enter Try.func94, Try.ntmps94
  go_wp2
  go_ret2
  exact ⟨rfl, rfl⟩
end Go.Proofs.Ytnimgkijodfjkaa.Doc
namespace Go.Proofs.Ytnimgkijodfjkaa.Doc
open Go.RowKit Gfm

def invN (a : Nat) : Nat := if a = 0 then 0 else pw (8191 - lg a)

def powN (a : Nat) (n : Int) : Nat := if n = 0 then 1 else if a = 0 then 0 else pw (trn ((lg a : Int) * (trn n : Nat)))

set_option maxRecDepth 100000 in
set_option maxHeartbeats 800000 in
theorem pow_any (b : Nat) (n a k : Int) (w : World) (h : Fld w b n) :
    Calls Try.prog 79 #[.pointer (some ⟨b, 0, none⟩), .int .i64 a, .int .i64 k] w fun e w' =>
      e = .returned (.int .i64 (powN (low a) k : Nat)) ∧ Fld w' b n ∧ Upd (oneBlock b) w w' := by
  have hnot : ∀ (x : Bool) (w : World), (Op.unary .not (.bool x)).run Try.prog w = .ok (.bool (!x)) w := fun _ _ => rfl
  by_cases hk : k = 0
  · subst hk
    have hv : powN (low a) 0 = 1 := by unfold powN; rfl
    rw [hv]
    have HF := Lib.hid h
    clear h hv
    go_enter Try.func79, Try.ntmps79
    go_wp2
    go_ret
    exact ⟨rfl, HF.out, Upd.refl _ _⟩
  · have t1 : (k == 0) = false := by simp [hk]
    by_cases ha : low a = 0
    · have hv : powN (low a) k = 0 := by unfold powN; rw [if_neg hk, if_pos ha]
      rw [hv]
      have HF := Lib.hid h
      have HA := Lib.hid ha
      clear h hv ha hk
      go_enter Try.func79, Try.ntmps79
      go_wp2_with (go_at_call 94; refine (log_no b a _ HA.out).mono ?_; rintro e w1 ⟨rfl, rfl⟩)
      go_ret
      exact ⟨rfl, HF.out, Upd.refl _ _⟩
    · have hv : powN (low a) k = pw (trn ((lg (low a) : Int) * (trn k : Nat))) := by unfold powN; rw [if_neg hk, if_neg ha]
      rw [hv]
      have HF := Lib.hid h
      have HA := Lib.hid ha
      have g1 := lg_lt (low a)
      have g2 := trn_lt k
      have g3 : (0 : Int) ≤ (lg (low a) : Int) * (trn k : Nat) := by exact_mod_cast Nat.zero_le _
      have g4 : (lg (low a) : Int) * (trn k : Nat) ≤ 67092481 := by
        have : lg (low a) * trn k ≤ 8191 * 8191 := Nat.mul_le_mul (Nat.le_of_lt g1) (Nat.le_of_lt g2)
        have e : (lg (low a) : Int) * (trn k : Nat) = ((lg (low a) * trn k : Nat) : Int) := by rw [Int.natCast_mul]
        rw [e]; omega
      have s1 : IntKind.i64.wrap ((lg (low a) : Int) * (trn k : Nat)) = (lg (low a) : Int) * (trn k : Nat) := IntWalk.i64_in _ (by omega)
      clear h hv ha hk
      go_enter Try.func79, Try.ntmps79
      go_wp2_with (go_at_call 94; refine (log_yes b n a _ HF.out HA.out).mono ?_; rintro e w1 ⟨rfl, HR0, HV0⟩; have HR := Lib.hid HR0; have HV := Lib.hid HV0; clear HR0 HV0)
      refine (turn_any k _).mono ?_
      rintro e w' ⟨rfl, rfl⟩
      go_wp2_with fail
      refine (exp_any b n _ _ HR.out.fld).mono ?_
      rintro e w2 ⟨rfl, HR2, HV2⟩
      have HR3 := Lib.hid HR2
      have HV3 := Lib.hid HV2
      clear HR2 HV2
      go_wp2
      go_ret
      exact ⟨rfl, HR3.out.fld, HV.out.trans HV3.out⟩
end Go.Proofs.Ytnimgkijodfjkaa.Doc
namespace Go.Proofs.Ytnimgkijodfjkaa.Doc
open Go.RowKit Gfm

/-- the value of a polynomial, by Horner's rule -/
def hor (x : Nat) (l : List Int) : Nat := l.foldr (fun c acc => mul acc x ^^^ low c) 0
theorem hor_lt (x : Nat) (l : List Int) : hor x l < 8192 := by
  cases l with
  | nil => simp [hor]
  | cons c l =>
    show mul (hor x l) x ^^^ low c < 8192
    exact xor_lt _ _ (mul_lt _ _ (hor_lt x l)) (low_lt c)

theorem hor_step (x : Nat) (xs : List Int) (i : Nat) (h : i < xs.length) :
    hor x (xs.drop i) = mul (hor x (xs.drop (i + 1))) x ^^^ low (xs.getD i 0) := by
  rw [List.drop_eq_getElem_cons h]
  show mul (hor x _) x ^^^ low (xs[i]) = _
  have e : xs[i] = xs.getD i 0 := by
    rw [List.getD_eq_getElem?_getD, List.getElem?_eq_getElem h]; rfl
  rw [e]

set_option maxRecDepth 100000 in
set_option maxHeartbeats 1600000 in
theorem eval_any (b : Nat) (n x : Int) (a : Option Addr) (len cap B : Nat) (xs : List Int) (w : World) (h : Fld w b n) (hr : Ints w B a len xs) (hB : B ≤ w.heap.size) (hm : len ≤ maxLen) (hne : ∀ g, a.map Addr.block = some g → g < B → g ≠ b) :
    Calls Try.prog 93 #[.pointer (some ⟨b, 0, none⟩), .slice a len cap, .int .i64 x] w fun e w' =>
      e = .returned (.int .i64 (hor (low x) xs : Nat)) ∧ Ready w' b n ∧ Upd (oneBlock b) w w' := by
  have HF := Lib.hid h
  have m1 : bits .and .i64 x 8191 = ((low x : Nat) : Int) := by rw [i64_8191, low_eq]
  have hcap : len ≤ 9223372036854775807 := by unfold maxLen at hm; omega
  have hlen := hr.1
  have Hlen := Lib.hid hlen
  clear hm hlen
  clear h
  go_enter Try.func93, Try.ntmps93
  go_wp2_with (go_at_call 91; refine (prepare_any b n _ HF.out).mono ?_; rintro e w1 ⟨rfl, HR0, HV0⟩; have HR := Lib.hid HR0; have HV := Lib.hid HV0; clear HR0 HV0)
  go_loopw [7, 8] (fun v i wr => ∃ k : Nat, k ≤ len ∧ i = .int .i64 ((k : Int) - 1) ∧ v = .int .i64 ((hor (low x) (xs.drop k) : Nat) : Int) ∧ Hid (Ready wr b n) ∧ Hid (Upd (oneBlock b) w wr)) (fun _ i _ => (intOf i + 1).toNat)
  case atStart => 
    refine ⟨len, Nat.le_refl _, rfl, ?_, HR, HV⟩
    rw [List.drop_of_length_le (by have := Hlen.out; omega)]; rfl
  case round =>
    clear HR HV
    obtain ⟨k, hk, rfl, rfl, HR, HV⟩ := hrel
    by_cases h0 : 0 < k
    · obtain ⟨i, rfl⟩ : ∃ i, k = i + 1 := ⟨k - 1, by omega⟩
      obtain ⟨g, off, rfl, hg, hcell⟩ := hr.cell (by omega)
      have hs := hor_step (low x) xs i (by have := Hlen.out; omega)
      have c1 : wr.cell? ⟨g, off + i, none⟩ = some (.int .i64 (xs.getD i 0)) := (World.cell?_of_block (HV.out.block g (by omega) (hne g rfl hg))).trans (hcell i (by omega))
      have m2 : bits .and .i64 (xs.getD i 0) 8191 = ((low (xs.getD i 0) : Nat) : Int) := by rw [i64_8191, low_eq]
      have hh := hor_lt (low x) (xs.drop (i + 1))
      have hx := low_lt x
      have m3 : bits .xor .i64 ((mul (hor (low x) (xs.drop (i + 1))) (low x) : Nat) : Int) ((low (xs.getD i 0) : Nat) : Int) = ((hor (low x) (xs.drop i) : Nat) : Int) := by
        rw [i64_xor_nat _ _ (by have := mul_lt _ (low x) hh; omega) (by have := low_lt (xs.getD i 0); omega), hs]
      have e1 : ((i + 1 : Nat) : Int) - 1 = (i : Int) := by omega
      rw [e1]
      clear hcell hs hne hr
      generalize xs.getD i 0 = z at c1 m2 m3
      go_wp2
      go_quiet ((go_at_call 106; exact Calls.quiet_of (product_any b _ _ n _ (HR.out.drewN _) hh hx)))
      go_wp2
      go_roundw
      case rel => exact ⟨i, by omega, rfl, rfl, HR.out.drewN _, HV.out.drewN _⟩
      case measure => simp [intOf]
    · obtain rfl : k = 0 := by omega
      have e1 : ((0 : Nat) : Int) - 1 = -1 := by omega
      rw [e1]
      go_wp2
      go_ret
      exact ⟨rfl, HR.out, HV.out⟩
end Go.Proofs.Ytnimgkijodfjkaa.Doc
namespace Go.Proofs.Ytnimgkijodfjkaa.Doc
open Go.RowKit Gfm

theorem Ready.upd {w w' : World} {b : Nat} {n : Int} (h : Ready w b n) (hu : Upd noBlock w w') : Ready w' b n := h.keep hu (fun _ _ hk => hk.elim)
set_option maxRecDepth 100000 in
set_option maxHeartbeats 800000 in
theorem prepare_ready (b : Nat) (n : Int) (w : World) (h : Ready w b n) :
    Calls Try.prog 91 #[.pointer (some ⟨b, 0, none⟩)] w fun e w' => e = .returned (.tuple #[]) ∧ Ready w' b n ∧ Upd noBlock w w' := by
  have hbs := h.fld.lt
  have hmf : ∀ (fn : Fn) (first cap : Array Value) (w : World), (Instr.makeFunc fn first cap).run Try.prog w = .ok (.func fn first cap) w := fun _ _ _ _ => rfl
  have hne : ¬ w.heap.size = b := by omega
  obtain ⟨pb, lb, hb, hp, hl⟩ := h
  have HB := Lib.hid (block_alloc hb (.cells #[.pointer (some ⟨b, 0, none⟩)] 102))
  have HR : Hid (Ready (w.alloc (.cells #[.pointer (some ⟨b, 0, none⟩)] 102)) b n) := Ready.keep ⟨pb, lb, hb, hp, hl⟩ ((Upd.refl noBlock w).alloc _) (fun _ _ hk => hk.elim)
  clear hb hp hl
  go_enter Try.func91, Try.ntmps91
  go_wp2_with (go_at_call 38; refine (do_done ⟨b, 0, none⟩ _ _ (cell_of HB.out 0)).mono ?_; rintro e w' ⟨rfl, rfl⟩)
  go_end0
  exact ⟨rfl, HR.out, (Upd.refl noBlock w).alloc _⟩

set_option maxRecDepth 100000 in
set_option maxHeartbeats 800000 in
theorem exp_ready (b : Nat) (n k : Int) (w : World) (h : Ready w b n) :
    Calls Try.prog 77 #[.pointer (some ⟨b, 0, none⟩), .int .i64 k] w fun e w' =>
      e = .returned (.int .i64 (pw (trn k) : Nat)) ∧ Ready w' b n ∧ Upd noBlock w w' := by
  have HF := Lib.hid h
  clear h
  go_enter Try.func77, Try.ntmps77
  go_wp2_with (go_at_call 91; refine (prepare_ready b n _ HF.out).mono ?_; rintro e w1 ⟨rfl, HR0, HV0⟩; have HR := Lib.hid HR0; have HV := Lib.hid HV0; clear HR0 HV0)
  obtain ⟨pb, lb, hb, hp, hl⟩ := HR.out
  have c3 : w1.cell? ⟨b, 3, none⟩ = some (.slice (some ⟨pb, 0, none⟩) 16382 16382) := cell_of hb 3
  have ht := trn_lt k
  have p1 : w1.cell? ⟨pb, trn k, none⟩ = some (.int .i64 ((pw (trn k) : Nat) : Int)) := by
    have := hp.cell (i := trn k) (by omega)
    rw [this]
    unfold powRow
    rw [if_pos ht]
  have s1 : ((trn k : Nat) : Int) < 16382 := by omega
  have s2 : (0 : Int) ≤ ((trn k : Nat) : Int) := by omega
  clear hb hp hl
  go_quiet ((go_at_call 92; exact quiet_eq (turn_any k _)))
  go_wp2
  go_ret
  exact ⟨rfl, HR.out.drewN _, HV.out.drewN _⟩

set_option maxRecDepth 100000 in
set_option maxHeartbeats 800000 in
theorem log_ready (b : Nat) (n a : Int) (w : World) (h : Ready w b n) (ha : low a ≠ 0) :
    Calls Try.prog 94 #[.pointer (some ⟨b, 0, none⟩), .int .i64 a] w fun e w' =>
      e = .returned (.tuple #[.int .i64 (lg (low a) : Nat), .bool true]) ∧ Ready w' b n ∧ Upd noBlock w w' := by
  have HF := Lib.hid h
  have m1 : bits .and .i64 a 8191 = ((low a : Nat) : Int) := by rw [i64_8191, low_eq]
  have t1 : (((low a : Nat) : Int) == 0) = false := by simp; omega
  have hlow := low_lt a
  clear h
  go_enter Try.func94, Try.ntmps94
  go_wp2_with (go_at_call 91; refine (prepare_ready b n _ HF.out).mono ?_; rintro e w1 ⟨rfl, HR0, HV0⟩; have HR := Lib.hid HR0; have HV := Lib.hid HV0; clear HR0 HV0; obtain ⟨pb, lb, hb, hp, hl⟩ := HR.out; have c4 : w1.cell? ⟨b, 4, none⟩ = some (.slice (some ⟨lb, 0, none⟩) 8192 8192) := cell_of hb 4; have l1 : w1.cell? ⟨lb, low a, none⟩ = some (.int .i64 ((lg (low a) : Nat) : Int)) := hl.cell (i := low a) hlow; clear hb hp hl)
  go_ret2
  exact ⟨rfl, HR.out, HV.out⟩

set_option maxRecDepth 100000 in
set_option maxHeartbeats 800000 in
theorem pow_ready (b : Nat) (n a k : Int) (w : World) (h : Ready w b n) :
    Calls Try.prog 79 #[.pointer (some ⟨b, 0, none⟩), .int .i64 a, .int .i64 k] w fun e w' =>
      e = .returned (.int .i64 (powN (low a) k : Nat)) ∧ Ready w' b n ∧ Upd noBlock w w' := by
  have hnot : ∀ (x : Bool) (w : World), (Op.unary .not (.bool x)).run Try.prog w = .ok (.bool (!x)) w := fun _ _ => rfl
  by_cases hk : k = 0
  · subst hk
    have hv : powN (low a) 0 = 1 := by unfold powN; rfl
    rw [hv]
    have HF := Lib.hid h
    clear h hv
    go_enter Try.func79, Try.ntmps79
    go_wp2
    go_ret
    exact ⟨rfl, HF.out, Upd.refl _ _⟩
  · have t1 : (k == 0) = false := by simp [hk]
    by_cases ha : low a = 0
    · have hv : powN (low a) k = 0 := by unfold powN; rw [if_neg hk, if_pos ha]
      rw [hv]
      have HF := Lib.hid h
      have HA := Lib.hid ha
      clear h hv ha hk
      go_enter Try.func79, Try.ntmps79
      go_wp2_with (go_at_call 94; refine (log_no b a _ HA.out).mono ?_; rintro e w1 ⟨rfl, rfl⟩)
      go_ret
      exact ⟨rfl, HF.out, Upd.refl _ _⟩
    · have hv : powN (low a) k = pw (trn ((lg (low a) : Int) * (trn k : Nat))) := by unfold powN; rw [if_neg hk, if_neg ha]
      rw [hv]
      have HF := Lib.hid h
      have HA := Lib.hid ha
      have g1 := lg_lt (low a)
      have g2 := trn_lt k
      have g3 : (0 : Int) ≤ (lg (low a) : Int) * (trn k : Nat) := by exact_mod_cast Nat.zero_le _
      have g4 : (lg (low a) : Int) * (trn k : Nat) ≤ 67092481 := by
        have : lg (low a) * trn k ≤ 8191 * 8191 := Nat.mul_le_mul (Nat.le_of_lt g1) (Nat.le_of_lt g2)
        have e : (lg (low a) : Int) * (trn k : Nat) = ((lg (low a) * trn k : Nat) : Int) := by rw [Int.natCast_mul]
        rw [e]; omega
      have s1 : IntKind.i64.wrap ((lg (low a) : Int) * (trn k : Nat)) = (lg (low a) : Int) * (trn k : Nat) := IntWalk.i64_in _ (by omega)
      clear h hv ha hk
      go_enter Try.func79, Try.ntmps79
      go_wp2_with (go_at_call 94; refine (log_ready b n a _ HF.out HA.out).mono ?_; rintro e w1 ⟨rfl, HR0, HV0⟩; have HR := Lib.hid HR0; have HV := Lib.hid HV0; clear HR0 HV0)
      refine (turn_any k _).mono ?_
      rintro e w' ⟨rfl, rfl⟩
      go_wp2_with fail
      refine (exp_ready b n _ _ HR.out).mono ?_
      rintro e w2 ⟨rfl, HR2, HV2⟩
      have HR3 := Lib.hid HR2
      have HV3 := Lib.hid HV2
      clear HR2 HV2
      go_wp2
      go_ret
      exact ⟨rfl, HR3.out, HV.out.trans HV3.out⟩

set_option maxRecDepth 100000 in
set_option maxHeartbeats 1600000 in
theorem eval_ready (b : Nat) (n x : Int) (a : Option Addr) (len cap B : Nat) (xs : List Int) (w : World) (h : Ready w b n) (hr : Ints w B a len xs) (hB : B ≤ w.heap.size) (hm : len ≤ maxLen) :
    Calls Try.prog 93 #[.pointer (some ⟨b, 0, none⟩), .slice a len cap, .int .i64 x] w fun e w' =>
      e = .returned (.int .i64 (hor (low x) xs : Nat)) ∧ Ready w' b n ∧ Upd noBlock w w' := by
  have HF := Lib.hid h
  have m1 : bits .and .i64 x 8191 = ((low x : Nat) : Int) := by rw [i64_8191, low_eq]
  have hcap : len ≤ 9223372036854775807 := by unfold maxLen at hm; omega
  have hlen := hr.1
  have Hlen := Lib.hid hlen
  clear hm hlen
  clear h
  go_enter Try.func93, Try.ntmps93
  go_wp2_with (go_at_call 91; refine (prepare_ready b n _ HF.out).mono ?_; rintro e w1 ⟨rfl, HR0, HV0⟩; have HR := Lib.hid HR0; have HV := Lib.hid HV0; clear HR0 HV0)
  go_loopw [7, 8] (fun v i wr => ∃ k : Nat, k ≤ len ∧ i = .int .i64 ((k : Int) - 1) ∧ v = .int .i64 ((hor (low x) (xs.drop k) : Nat) : Int) ∧ Hid (Ready wr b n) ∧ Hid (Upd noBlock w wr)) (fun _ i _ => (intOf i + 1).toNat)
  case atStart => 
    refine ⟨len, Nat.le_refl _, rfl, ?_, HR, HV⟩
    rw [List.drop_of_length_le (by have := Hlen.out; omega)]; rfl
  case round =>
    clear HR HV
    obtain ⟨k, hk, rfl, rfl, HR, HV⟩ := hrel
    by_cases h0 : 0 < k
    · obtain ⟨i, rfl⟩ : ∃ i, k = i + 1 := ⟨k - 1, by omega⟩
      obtain ⟨g, off, rfl, hg, hcell⟩ := hr.cell (by omega)
      have hs := hor_step (low x) xs i (by have := Hlen.out; omega)
      have c1 : wr.cell? ⟨g, off + i, none⟩ = some (.int .i64 (xs.getD i 0)) := (World.cell?_of_block (HV.out.block g (by omega) (fun h => h))).trans (hcell i (by omega))
      have m2 : bits .and .i64 (xs.getD i 0) 8191 = ((low (xs.getD i 0) : Nat) : Int) := by rw [i64_8191, low_eq]
      have hh := hor_lt (low x) (xs.drop (i + 1))
      have hx := low_lt x
      have m3 : bits .xor .i64 ((mul (hor (low x) (xs.drop (i + 1))) (low x) : Nat) : Int) ((low (xs.getD i 0) : Nat) : Int) = ((hor (low x) (xs.drop i) : Nat) : Int) := by
        rw [i64_xor_nat _ _ (by have := mul_lt _ (low x) hh; omega) (by have := low_lt (xs.getD i 0); omega), hs]
      have e1 : ((i + 1 : Nat) : Int) - 1 = (i : Int) := by omega
      rw [e1]
      clear hcell hs hr
      generalize xs.getD i 0 = z at c1 m2 m3
      go_wp2
      go_quiet ((go_at_call 106; exact Calls.quiet_of (product_any b _ _ n _ (HR.out.drewN _) hh hx)))
      go_wp2
      go_roundw
      case rel => exact ⟨i, by omega, rfl, rfl, HR.out.drewN _, HV.out.drewN _⟩
      case measure => simp [intOf]
    · obtain rfl : k = 0 := by omega
      have e1 : ((0 : Nat) : Int) - 1 = -1 := by omega
      rw [e1]
      go_wp2
      go_ret
      exact ⟨rfl, HR.out, HV.out⟩

end Go.Proofs.Ytnimgkijodfjkaa.Doc
namespace Go.Proofs.Ytnimgkijodfjkaa.Doc
open Go.RowKit Gfm

def lowR (a : Int) : Nat := (a % 8192).toNat

set_option maxRecDepth 100000 in
theorem rLow_any (a : Int) (w : World) :
    Calls Try.prog 81 #[.int .i64 a] w fun e w' => e = .returned (.int .i64 (lowR a : Nat)) ∧ w = w' := by
  have hv : wrap64 ((IntKind.u64.wrap a).tmod 8192) = ((lowR a : Nat) : Int) := by
    rw [IntKind.wrap_u64, tmod_of_emod]
    unfold lowR wrap64; omega
  have Hv := Lib.hid hv
  clear hv
  go_enter Try.func81, Try.ntmps81
  go_wp2
  go_ret
  exact ⟨congrArg (fun x => Ending.returned (.int .i64 x)) Hv.out, rfl⟩

theorem Mf_step (a b i : Nat) (h : i < 13) : Mf a (13 - i) (b / 2 ^ i) = dbl (Mf a (13 - (i + 1)) (b / 2 ^ (i + 1))) ^^^ (if b / 2 ^ i % 2 = 1 then a else 0) := by
  have e : 13 - i = (13 - (i + 1)) + 1 := by omega
  rw [e, Mf, Nat.div_div_eq_div_mul, ← Nat.pow_succ]

set_option maxRecDepth 100000 in
set_option maxHeartbeats 1600000 in
theorem rMul_any (a b : Int) (w : World) :
    Calls Try.prog 59 #[.int .i64 a, .int .i64 b] w fun e w' => e = .returned (.int .i64 (mul (lowR a) (lowR b) : Nat)) ∧ w = w' := by
  have ha : lowR a < 8192 := by unfold lowR; omega
  have hb : lowR b < 8192 := by unfold lowR; omega
  go_enter Try.func59, Try.ntmps59
  go_wp2_with (go_at_call 81; refine (rLow_any _ _).mono ?_; rintro e w1 ⟨rfl, rfl⟩)
  generalize hx : lowR a = x at *
  generalize hy : lowR b = y at *
  have Hx := Lib.hid hx
  have Hy := Lib.hid hy
  clear hx hy
  go_loop [5, 6] (fun o i => ∃ k : Nat, k ≤ 13 ∧ i = .int .i64 ((k : Int) - 1) ∧ o = .int .i64 ((Mf x (13 - k) (y / 2 ^ k) : Nat) : Int)) (fun _ i => (intOf i + 1).toNat)
  case atStart => exact ⟨13, by omega, rfl, rfl⟩
  case round =>
    obtain ⟨k, hk, rfl, rfl⟩ := hrel
    by_cases h0 : 0 < k
    · obtain ⟨i, rfl⟩ : ∃ i, k = i + 1 := ⟨k - 1, by omega⟩
      have hs := Mf_step x y i (by omega)
      have ho := Mf_lt x (13 - (i + 1)) (y / 2 ^ (i + 1)) ha
      generalize Mf x (13 - (i + 1)) (y / 2 ^ (i + 1)) = o at *
      have e1 : ((i + 1 : Nat) : Int) - 1 = (i : Int) := by omega
      rw [e1]
      have HS := Lib.hid hs
      have hi : i < 13 := by omega
      clear hs h0 hk e1
      have hd := dbl_lt o ho
      have hxx := xor_lt _ _ hd ha
      have mB : bits .and .i64 ((y : Int) / 2 ^ i) 1 = ((y / 2 ^ i % 2 : Nat) : Int) := by
        have e : (y : Int) / 2 ^ i = ((y / 2 ^ i : Nat) : Int) := by rw [Int.natCast_ediv]; norm_cast
        rw [e]
        have := i64_mask ((y / 2 ^ i : Nat) : Int) 1 (by omega)
        rw [show ((2 ^ 1 - 1 : Nat) : Int) = 1 from rfl] at this
        rw [this]; omega
      have mY : bits .xor .i64 ((dbl o : Nat) : Int) (x : Int) = ((dbl o ^^^ x : Nat) : Int) := i64_xor_nat _ _ (by omega) (by omega)
      by_cases h1 : 4096 ≤ o
      · have mX : bits .xor .i64 ((o : Int) * 2) 8219 = ((dbl o : Nat) : Int) := by
          have := i64_xor_nat (2 * o) 8219 (by omega) (by omega)
          unfold dbl
          rw [if_pos (by omega), ← this, Int.mul_comm]
          rfl
        by_cases h2 : y / 2 ^ i % 2 = 1
        · have t1 : (bits .and .i64 ((y : Int) / 2 ^ i) 1 == 1) = true := by rw [mB, h2]; rfl
          have HV : Hid (Mf x (13 - i) (y / 2 ^ i) = dbl o ^^^ x) := by have := HS.out; rw [if_pos h2] at this; exact this
          clear HS h2 mB
          go_wp2
          go_round
          case rel => exact ⟨i, by omega, rfl, by rw [HV.out]⟩
          case measure => simp [intOf]
        · have t1 : (bits .and .i64 ((y : Int) / 2 ^ i) 1 == 1) = false := by rw [mB]; exact beq_eq_false_iff_ne.2 (fun e => h2 (by exact_mod_cast e))
          have HV : Hid (Mf x (13 - i) (y / 2 ^ i) = dbl o) := by have := HS.out; rw [if_neg h2, Nat.xor_zero] at this; exact this
          clear HS h2 mB
          go_wp2
          go_round
          case rel => exact ⟨i, by omega, rfl, by rw [HV.out]⟩
          case measure => simp [intOf]
      · have mX : (o : Int) * 2 = ((dbl o : Nat) : Int) := by
          unfold dbl
          rw [if_neg (by omega)]; omega
        by_cases h2 : y / 2 ^ i % 2 = 1
        · have t1 : (bits .and .i64 ((y : Int) / 2 ^ i) 1 == 1) = true := by rw [mB, h2]; rfl
          have HV : Hid (Mf x (13 - i) (y / 2 ^ i) = dbl o ^^^ x) := by have := HS.out; rw [if_pos h2] at this; exact this
          clear HS h2 mB
          go_wp2
          go_round
          case rel => exact ⟨i, by omega, rfl, by rw [HV.out]⟩
          case measure => simp [intOf]
        · have t1 : (bits .and .i64 ((y : Int) / 2 ^ i) 1 == 1) = false := by rw [mB]; exact beq_eq_false_iff_ne.2 (fun e => h2 (by exact_mod_cast e))
          have HV : Hid (Mf x (13 - i) (y / 2 ^ i) = dbl o) := by have := HS.out; rw [if_neg h2, Nat.xor_zero] at this; exact this
          clear HS h2 mB
          go_wp2
          go_round
          case rel => exact ⟨i, by omega, rfl, by rw [HV.out]⟩
          case measure => simp [intOf]
    · obtain rfl : k = 0 := by omega
      have e1 : ((0 : Nat) : Int) - 1 = -1 := by omega
      rw [e1]
      go_wp2
      go_ret
      exact ⟨by rw [Hx.out, Hy.out]; simp [mul], rfl⟩

/-! powers by squares -/
theorem npow_mul_self (a n : Nat) (ha : a < 8192) : npow (mul a a) n = npow a (2 * n) := by
  rcases elem a ha with rfl | ⟨i, _, rfl⟩
  · rw [mul_zero]
    cases n with
    | zero => rfl
    | succ n =>
      have e : 2 * (n + 1) = (2 * n + 1) + 1 := by omega
      rw [e, npow, npow, mul_zero, mul_zero]
  · rw [mul_pw, npow_pw, npow_pw]; exact congrArg pw (by rw [← Nat.two_mul, Nat.mul_assoc, Nat.mul_left_comm])
theorem npow_step (o a n : Nat) (ho : o < 8192) (ha : a < 8192) :
    mul o (npow a n) = if n % 2 = 1 then mul (mul o a) (npow (mul a a) (n / 2)) else mul o (npow (mul a a) (n / 2)) := by
  rw [npow_mul_self a _ ha]
  by_cases h : n % 2 = 1
  · rw [if_pos h]
    have e : n = 2 * (n / 2) + 1 := by omega
    have hl := npow_lt a (2 * (n / 2))
    rw [mul_assoc _ _ _ ho ha hl, mul_comm a _ ha hl, ← npow]
    exact congrArg (fun k => mul o (npow a k)) e
  · rw [if_neg h]
    have e : 2 * (n / 2) = n := by omega
    rw [e]

theorem lowR_nat (a : Nat) (h : a < 8192) : lowR (a : Int) = a := by unfold lowR; omega

set_option maxRecDepth 100000 in
set_option maxHeartbeats 1600000 in
theorem rPow_any (a n : Int) (w : World) (hn : 0 ≤ n) (hn2 : n ≤ 9223372036854775807) :
    Calls Try.prog 80 #[.int .i64 a, .int .i64 n] w fun e w' => e = .returned (.int .i64 (npow (lowR a) n.toNat : Nat)) ∧ w = w' := by
  have ha : lowR a < 8192 := by unfold lowR; omega
  obtain ⟨m, rfl⟩ := Int.eq_ofNat_of_zero_le hn
  rw [Int.toNat_natCast]
  go_enter Try.func80, Try.ntmps80
  go_wp2_with (go_at_call 81; refine (rLow_any _ _).mono ?_; rintro e w1 ⟨rfl, rfl⟩)
  go_loop [0, 1, 5] (fun x n o => ∃ x' n' o' : Nat, x = .int .i64 (x' : Int) ∧ n = .int .i64 (n' : Int) ∧ o = .int .i64 (o' : Int) ∧ x' < 8192 ∧ o' < 8192 ∧ (n' : Int) ≤ 9223372036854775807 ∧ mul o' (npow x' n') = npow (lowR a) m) (fun _ n _ => (intOf n).toNat)
  case atStart =>
    refine ⟨lowR a, m, 1, rfl, rfl, rfl, ha, by omega, hn2, ?_⟩
    rw [mul_comm _ _ (by omega) (npow_lt _ _), mul_one]
  case round =>
    obtain ⟨x, k, o, rfl, rfl, rfl, hx, ho, hk, hv⟩ := hrel
    have HV := Lib.hid hv
    have hst := Lib.hid (npow_step o x k ho hx)
    have lx := Lib.hid (lowR_nat x hx)
    have lo := Lib.hid (lowR_nat o ho)
    clear hv
    by_cases h0 : 0 < k
    · by_cases h1 : k % 2 = 1
      · have t1 : ((k : Int) % 2 == 1) = true := by rw [beq_iff_eq]; omega
        go_wp2_with fail
        refine (rMul_any _ _ _).mono ?_
        rintro e w1 ⟨rfl, rfl⟩
        go_wp2_with fail
        refine (rMul_any _ _ _).mono ?_
        rintro e w1 ⟨rfl, rfl⟩
        go_wp2_with fail
        go_round
        case rel =>
          rw [lx.out, lo.out]
          refine ⟨mul x x, k / 2, mul o x, rfl, by go_num, rfl, mul_lt _ _ hx, mul_lt _ _ ho, by omega, ?_⟩
          rw [← HV.out, hst.out, if_pos h1]
        case measure => simp [intOf]; omega
      · have t1 : ((k : Int) % 2 == 1) = false := beq_eq_false_iff_ne.2 (by omega)
        go_wp2_with fail
        refine (rMul_any _ _ _).mono ?_
        rintro e w1 ⟨rfl, rfl⟩
        go_wp2_with fail
        go_round
        case rel =>
          rw [lx.out]
          refine ⟨mul x x, k / 2, o, rfl, by go_num, rfl, mul_lt _ _ hx, ho, by omega, ?_⟩
          rw [← HV.out, hst.out, if_neg h1]
        case measure => simp [intOf]; omega
    · obtain rfl : k = 0 := by omega
      have e : o = npow (lowR a) m := by
        have := HV.out
        rw [show npow x 0 = 1 from rfl, mul_one] at this
        exact this
      have HE := Lib.hid e
      clear e
      go_wp2
      go_ret
      exact ⟨by rw [← HE.out]; rfl, rfl⟩

def invR (a : Nat) : Nat := if a = 0 then 0 else npow a 8190
end Go.Proofs.Ytnimgkijodfjkaa.Doc
namespace Go.Proofs.Ytnimgkijodfjkaa.Doc
open Go.RowKit Gfm

theorem low_lowR (a : Int) : lowR a = low a := rfl
theorem two_pow (n : Nat) : npow 2 n = pw n := by
  have h : (2 : Nat) = pw 1 := by decide
  rw [h, npow_pw, Nat.one_mul]

set_option maxRecDepth 100000 in
theorem rExp_any (n : Int) (w : World) :
    Calls Try.prog 58 #[.int .i64 n] w fun e w' => e = .returned (.int .i64 (pw (trn n) : Nat)) ∧ w = w' := by
  have l2 : npow (lowR 2) (trn n) = pw (trn n) := two_pow _
  have Hl := Lib.hid l2
  clear l2
  by_cases h0 : n.tmod 8191 < 0
  · have hv : n.tmod 8191 + 8191 = ((trn n : Nat) : Int) := by
      unfold trn
      have := tmod_cases n 8191
      omega
    have Hv := Lib.hid hv
    have b1 : -8191 < n.tmod 8191 := by have := tmod_cases n 8191; omega
    clear hv
    go_enter Try.func58, Try.ntmps58
    go_wp2_with (go_at_call 80; refine (rPow_any _ _ _ (by omega) (by omega)).mono ?_; rintro e w1 ⟨rfl, rfl⟩)
    go_ret
    refine ⟨?_, rfl⟩
    rw [Hv.out, Int.toNat_natCast, Hl.out]
    rfl
  · have hv : n.tmod 8191 = ((trn n : Nat) : Int) := by
      unfold trn
      have := tmod_cases n 8191
      omega
    have Hv := Lib.hid hv
    have b1 : n.tmod 8191 < 8191 := by have := tmod_cases n 8191; omega
    clear hv
    go_enter Try.func58, Try.ntmps58
    go_wp2_with (go_at_call 80; refine (rPow_any _ _ _ (by omega) (by omega)).mono ?_; rintro e w1 ⟨rfl, rfl⟩)
    go_ret
    refine ⟨?_, rfl⟩
    rw [Hv.out, Int.toNat_natCast, Hl.out]
    rfl

/-- the value, term by term -/
def sumE (x p : Nat) : List Int → Nat
  | [] => 0
  | c :: l => mul (low c) p ^^^ sumE x (mul p x) l
theorem sumE_lt (x p : Nat) (l : List Int) : sumE x p l < 8192 := by
  induction l generalizing p with
  | nil => simp [sumE]
  | cons c l ih => exact xor_lt _ _ (mul_lt _ _ (low_lt c)) (ih _)
theorem sumE_hor (x p : Nat) (l : List Int) (hx : x < 8192) (hp : p < 8192) : sumE x p l = mul (hor x l) p := by
  induction l generalizing p with
  | nil => simp [sumE, hor, zero_mul]
  | cons c l ih =>
    show mul (low c) p ^^^ sumE x (mul p x) l = mul (mul (hor x l) x ^^^ low c) p
    have hh := hor_lt x l
    rw [ih _ (mul_lt _ _ hp), xor_mul _ _ _ (mul_lt _ _ hh) (low_lt c), mul_assoc _ _ _ hh hx hp, mul_comm x p hx hp, Nat.xor_comm]
theorem sumE_step (x p v : Nat) (xs : List Int) (i : Nat) (h : i < xs.length) :
    v ^^^ sumE x p (xs.drop i) = (v ^^^ mul (low (xs.getD i 0)) p) ^^^ sumE x (mul p x) (xs.drop (i + 1)) := by
  rw [List.drop_eq_getElem_cons h]
  have e : xs[i] = xs.getD i 0 := by
    rw [List.getD_eq_getElem?_getD, List.getElem?_eq_getElem h]; rfl
  rw [e]
  show v ^^^ (mul (low (xs.getD i 0)) p ^^^ _) = _
  rw [Nat.xor_assoc]

/-! agreement -/
theorem invN_invR (a : Nat) (h : a < 8192) : invN a = invR a := by
  unfold invN invR
  by_cases h0 : a = 0
  · rw [if_pos h0, if_pos h0]
  · rw [if_neg h0, if_neg h0]
    have hp := pw_lg a (by omega) h
    have hl := lg_lt a
    have e : npow a 8190 = npow (pw (lg a)) 8190 := by rw [hp]
    rw [e, npow_pw]
    have e2 : lg a * 8190 + 8191 = (8191 - lg a) + 8191 * lg a := by omega
    rw [← pw_add (lg a * 8190), e2, pw_addk]
end Go.Proofs.Ytnimgkijodfjkaa.Doc
