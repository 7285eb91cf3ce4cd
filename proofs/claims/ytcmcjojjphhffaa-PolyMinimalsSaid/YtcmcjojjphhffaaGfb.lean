/- Walks over package gf: the once, and prepare. -/
import Derived.Test.YtcmcjojjphhffaaGfa
import Derived.Defers
import Derived.Laws.Pointers
import Derived.Laws.LoneSync
import Derived.RegionTactic
import Derived.RegionCalls
import Derived.ChangeAlike
namespace Go.Proofs.Ytcmcjojjphhffaa
open Go.RowKit Gfm

theorem disable (w : World) : (callFunc 58 #[]).run Try.prog w = .ok (.value (.tuple #[])) w := run_call_mark0 Try.func58 (by kernel_rfl) (by kernel_rfl) (by kernel_rfl) .disable (by kernel_rfl) w
theorem enable (w : World) : (callFunc 60 #[]).run Try.prog w = .ok (.value (.tuple #[])) w := run_call_mark0 Try.func60 (by kernel_rfl) (by kernel_rfl) (by kernel_rfl) .enable (by kernel_rfl) w
theorem acquire (a : Addr) (w : World) : (callFunc 61 #[.pointer (some a)]).run Try.prog w = .ok (.value (.tuple #[])) w := run_call_marked Try.func61 (by kernel_rfl) (by kernel_rfl) (by kernel_rfl) .acquire (by kernel_rfl) a w
theorem releaseMerge (a : Addr) (w : World) : (callFunc 63 #[.pointer (some a)]).run Try.prog w = .ok (.value (.tuple #[])) w := run_call_marked Try.func63 (by kernel_rfl) (by kernel_rfl) (by kernel_rfl) .releaseMerge (by kernel_rfl) a w

/-- '(*sync/atomic.Bool).Store(true)', deferred -/
theorem store_deferred (a : Addr) (x : Value) (u : FrameMode) (w : World) (hc : w.cell? a = some x) (hz : w.frozen? a = false) :
    CallsD Try.prog 53 #[.pointer (some a), .bool true] u w fun e u' w' => u' = u ∧ (e = .returned (.tuple #[]) ∧ w' = w.drew.setCell a (.int .u32 1)) := by
  have hc' : w.drew.cell? a = some x := by go_simp
  have hz' : w.drew.frozen? a = false := by go_simp
  have hst := run_call_store (P := Try.prog) Try.func56 (by kernel_rfl) (by kernel_rfl) (by kernel_rfl) (by kernel_rfl) (k := .u32) (y := 1) hc' hz'
  go_enter_d Try.func53, Try.ntmps53
  go_wp2
  go_region_calls
  all_goals (go_end0; exact ⟨rfl, rfl⟩)

set_option maxRecDepth 100000 in
set_option maxHeartbeats 800000 in
/-- '(*sync.Mutex).Unlock', deferred: state 1 -/
theorem unlock_deferred (a : Addr) (u : FrameMode) (w : World) (hc : w.cell? a = some (.int .i32 1)) (hz : w.frozen? a = false) :
    CallsD Try.prog 52 #[.pointer (some a)] u w fun e u' w' => u' = u ∧ (e = .returned (.tuple #[]) ∧ w' = w.setCell a (.int .i32 0)) := by
  have hd := disable
  have he := enable
  have hr := releaseMerge
  have hadd := run_call_add (P := Try.prog) Try.func64 (by kernel_rfl) (by kernel_rfl) (by kernel_rfl) .i32 (by kernel_rfl) (y := -1) (s := 0) hc hz (by simp [go_sem]; rfl)
  have hcv := run_convert_to_unsafe (P := Try.prog) (src := 89) (dst := 93) Try.underlying89 Try.underlying93 (by kernel_rfl) hc
  go_enter_d Try.func52, Try.ntmps52
  go_wp2
  go_end0
  go_wp2
  go_end0
  exact ⟨rfl, rfl⟩

set_option maxRecDepth 100000 in
set_option maxHeartbeats 800000 in
/-- '(*sync.Mutex).Lock', the lock free -/
theorem lock_free (a : Addr) (w : World) (hc : w.cell? a = some (.int .i32 0)) (hz : w.frozen? a = false) :
    Calls Try.prog 51 #[.pointer (some a)] w fun e w' => e = .returned (.tuple #[]) ∧ w' = w.setCell a (.int .i32 1) := by
  have hd := disable
  have he := enable
  have ha := acquire
  have hcas := run_call_cas_hit (P := Try.prog) Try.func59 (by kernel_rfl) (by kernel_rfl) (by kernel_rfl) .i32 (by kernel_rfl) (y := 1) hc hz
  have hc' : (w.setCell a (.int .i32 1)).cell? a = some (.int .i32 1) := World.cell?_setCell_same w a _ hc
  have hcv := run_convert_to_unsafe (P := Try.prog) (src := 89) (dst := 93) Try.underlying89 Try.underlying93 (by kernel_rfl) hc'
  go_enter Try.func51, Try.ntmps51
  go_wp2
  first | go_end0 | (simp only [Exit.inBlock, Exit.then]; refine bodyPost_ret (results_none rfl _ _ _) rfl ?_) | refine bodyPost_ret (results_none rfl _ _ _) rfl ?_
  go_wp2
  go_end0
  exact ⟨rfl, rfl⟩

theorem Filled.close {b : Nat} {s n : Value} {w w1 : World} (h : Filled b (.int .u32 0) (.int .i32 1) s n (w.setCell ⟨b, 1, none⟩ (.int .i32 1)) w1) (hb : b < w.heap.size) :
    Filled b (.int .u32 1) (.int .i32 0) s n w ((w1.drew.setCell ⟨b, 0, none⟩ (.int .u32 1)).setCell ⟨b, 1, none⟩ (.int .i32 0)) := by
  obtain ⟨pb, lb, h1, h2, h3, hh, hp, hl, hu⟩ := h
  have hz : (w.setCell ⟨b, 1, none⟩ (.int .i32 1)).heap.size = w.heap.size := by simp
  rw [hz] at h1 h2
  refine ⟨pb, lb, h1, h2, h3, ?_, ?_, ?_, ?_⟩
  · exact block_set (block_set (w := w1.drew) hh _) _
  · exact (hp.drew.setOther (by simp; omega) _).setOther (by simp; omega) _
  · exact (hl.drew.setOther (by simp; omega) _).setOther (by simp; omega) _
  · have h0 : Upd (oneBlock b) w (w.setCell ⟨b, 1, none⟩ (.int .i32 1)) := (Upd.refl (oneBlock b) w).setCell (p := ⟨b, 1, none⟩) (.inl rfl) _
    exact ((h0.trans hu).drew.setCell (p := ⟨b, 0, none⟩) (.inl rfl) _).setCell (p := ⟨b, 1, none⟩) (.inl rfl) _

set_option maxRecDepth 100000 in
set_option maxHeartbeats 1600000 in
theorem slow_any (b pl : Nat) (s p l n : Value) (w : World) (hpl : ¬ pl = b) (hp : w.cell? ⟨pl, 0, none⟩ = some (.pointer (some ⟨b, 0, none⟩)))
    (hb : w.heap[b]? = some (.cells #[.int .u32 0, .int .i32 0, s, p, l, n] 52 (0, 0))) :
    Calls Try.prog 49 #[.pointer (some ⟨b, 0, none⟩), .func (.func 46) #[] #[.pointer (some ⟨pl, 0, none⟩)]] w fun e w' => e = .returned (.tuple #[]) ∧ Filled b (.int .u32 1) (.int .i32 0) s n w w' := by
  have h0 : w.cell? ⟨b, 0, none⟩ = some (.int .u32 0) := cell_of hb 0
  have h1 : w.cell? ⟨b, 1, none⟩ = some (.int .i32 0) := cell_of hb 1
  have f1 : w.frozen? ⟨b, 1, none⟩ = false := free_of hb 1
  have hbs : b < w.heap.size := lt_of_block hb
  have hl := run_call_load (P := Try.prog) Try.func50 (by kernel_rfl) (by kernel_rfl) (by kernel_rfl) .u32 (by kernel_rfl) (w := w.setCell ⟨b, 1, none⟩ (.int .i32 1)) (a := ⟨b, 0, none⟩) (x := 0) ((World.cell?_setCell_other _ ⟨b, 1, none⟩ ⟨b, 0, none⟩ _ (by simp)).trans h0)
  have hp1 : (w.setCell ⟨b, 1, none⟩ (.int .i32 1)).cell? ⟨pl, 0, none⟩ = some (.pointer (some ⟨b, 0, none⟩)) := (World.cell?_setCell_other _ ⟨b, 1, none⟩ ⟨pl, 0, none⟩ _ (fun h => hpl (by injection h with h; exact h.symm))).trans hp
  have hb1 : (w.setCell ⟨b, 1, none⟩ (.int .i32 1)).heap[b]? = some (.cells #[.int .u32 0, .int .i32 1, s, p, l, n] 52 (0, 0)) := block_set hb _
  have HB1 := Lib.hid hb1
  have HP1 := Lib.hid hp1
  have hnot : ∀ (x : Bool) (w : World), (Op.unary .not (.bool x)).run Try.prog w = .ok (.bool (!x)) w := fun _ _ => rfl
  clear hb hb1 hp hp1
  go_enter_defers Try.func49, Try.ntmps49
  go_wp2_with (first | (go_at_call 51; refine (lock_free ⟨b, 1, none⟩ _ (by go_simp) (by go_simp)).mono ?_; rintro e w' ⟨rfl, rfl⟩) | (go_at_call 48; go_in))
  refine (fill_any b pl _ _ _ _ _ _ _ hpl HP1.out HB1.out).mono ?_
  rintro e w1 ⟨rfl, HF⟩
  clear hl
  go_wp2
  have HG := HF.close hbs
  obtain ⟨pb, lb, _, _, _, hh, _, _, _⟩ := HF
  have HH := Lib.hid hh
  clear hh
  refine leaves_cons (f := 53) (args := #[.pointer (some ⟨b, 0, none⟩), .bool true]) (by simp) (by simp [go_sem]) ?_
  refine (store_deferred ⟨b, 0, none⟩ (.int .u32 0) .returning _ (cell_of HH.out 0) (free_of HH.out 0)).mono ?_
  rintro e u' w'' ⟨rfl, rfl, rfl⟩
  refine leaves_cons (f := 52) (args := #[.pointer (some ⟨b, 1, none⟩)]) (by simp [settle]) (by simp [go_sem]) ?_
  have hh2 := block_set (w := w1.drew) (i := 0) HH.out (.int .u32 1)
  refine (unlock_deferred ⟨b, 1, none⟩ _ _ (cell_of hh2 1) (free_of hh2 1)).mono ?_
  rintro e u' w'' ⟨rfl, rfl, rfl⟩
  simp [Leaves, settle, results, Try.results49]
  exact HG
set_option maxRecDepth 100000 in
set_option maxHeartbeats 1600000 in
/-- '(*sync.Once).Do', not yet done -/
theorem do_first (b pl : Nat) (s p l n : Value) (w : World) (hpl : ¬ pl = b) (hp : w.cell? ⟨pl, 0, none⟩ = some (.pointer (some ⟨b, 0, none⟩)))
    (hb : w.heap[b]? = some (.cells #[.int .u32 0, .int .i32 0, s, p, l, n] 52 (0, 0))) :
    Calls Try.prog 45 #[.pointer (some ⟨b, 0, none⟩), .func (.func 46) #[] #[.pointer (some ⟨pl, 0, none⟩)]] w fun e w' => e = .returned (.tuple #[]) ∧ Filled b (.int .u32 1) (.int .i32 0) s n w w' := by
  have h0 : w.cell? ⟨b, 0, none⟩ = some (.int .u32 0) := cell_of hb 0
  have hl := run_call_load (P := Try.prog) Try.func50 (by kernel_rfl) (by kernel_rfl) (by kernel_rfl) .u32 (by kernel_rfl) h0
  have hnot : ∀ (x : Bool) (w : World), (Op.unary .not (.bool x)).run Try.prog w = .ok (.bool (!x)) w := fun _ _ => rfl
  have HB := Lib.hid hb
  have HP := Lib.hid hp
  clear hb hp
  go_enter Try.func45, Try.ntmps45
  go_wp2_with (first | (go_at_call 49; refine (slow_any b pl _ _ _ _ _ hpl HP.out HB.out).mono ?_; rintro e w' ⟨rfl, HF⟩) | (go_at_call 48; go_in))
  go_end0
  exact ⟨rfl, HF⟩

set_option maxRecDepth 100000 in
set_option maxHeartbeats 800000 in
/-- '(*sync.Once).Do', done already -/
theorem do_done (a : Addr) (fv : Value) (w : World) (h0 : w.cell? a = some (.int .u32 1)) :
    Calls Try.prog 45 #[.pointer (some a), fv] w fun e w' => e = .returned (.tuple #[]) ∧ w = w' := by
  have hl := run_call_load (P := Try.prog) Try.func50 (by kernel_rfl) (by kernel_rfl) (by kernel_rfl) .u32 (by kernel_rfl) h0
  have hnot : ∀ (x : Bool) (w : World), (Op.unary .not (.bool x)).run Try.prog w = .ok (.bool (!x)) w := fun _ _ => rfl
  go_enter Try.func45, Try.ntmps45
  go_wp2
  go_end0
  exact ⟨rfl, rfl⟩

/-! ### a field in memory -/
def Fresh (w : World) (b : Nat) (n : Int) : Prop :=
  w.heap[b]? = some (.cells #[.int .u32 0, .int .i32 0, .int .u32 0, .slice none 0 0, .slice none 0 0, .int .i64 n] 52 (0, 0))
def Ready (w : World) (b : Nat) (n : Int) : Prop :=
  ∃ pb lb, w.heap[b]? = some (.cells #[.int .u32 1, .int .i32 0, .int .u32 0, .slice (some ⟨pb, 0, none⟩) 16382 16382, .slice (some ⟨lb, 0, none⟩) 8192 8192, .int .i64 n] 52 (0, 0)) ∧
    w.rowIs pb 3 16382 (powRow 8191) ∧ w.rowIs lb 3 8192 (logRow 8191)
def Fld (w : World) (b : Nat) (n : Int) : Prop := Fresh w b n ∨ Ready w b n

theorem Ready.fld {w : World} {b : Nat} {n : Int} (h : Ready w b n) : Fld w b n := .inr h
theorem Fld.block {w : World} {b : Nat} {n : Int} (h : Fld w b n) : ∃ c, w.heap[b]? = some (.cells c 52 (0, 0)) := by
  rcases h with h | ⟨_, _, h, _⟩
  · exact ⟨_, h⟩
  · exact ⟨_, h⟩
theorem Fld.lt {w : World} {b : Nat} {n : Int} (h : Fld w b n) : b < w.heap.size := by
  obtain ⟨c, hc⟩ := h.block; exact lt_of_block hc
/-- a table is no field -/
theorem rowIs_ne {w : World} {b pb k : Nat} {f : Nat → Value} (h : w.rowIs pb 3 k f) {c : Array Value} (hb : w.heap[b]? = some (.cells c 52 (0, 0))) : ¬ pb = b := by
  rintro rfl
  obtain ⟨c', h', _⟩ := h
  rw [h'] at hb
  simp at hb
theorem Ready.keep {w w' : World} {b : Nat} {n : Int} (h : Ready w b n) {R : Nat → Prop} (hu : Upd R w w') (hR : ∀ k, k < w.heap.size → R k → k ≠ b ∧ ∃ c, w.heap[k]? = some (.cells c 52 (0, 0))) : Ready w' b n := by
  obtain ⟨pb, lb, hb, hp, hl⟩ := h
  refine ⟨pb, lb, hu.cells hb ?_, hp.of_block (hu.block _ hp.lt ?_), hl.of_block (hu.block _ hl.lt ?_)⟩
  · intro hr; exact (hR b (lt_of_block hb) hr).1 rfl
  · intro hr
    obtain ⟨_, c, hc⟩ := hR pb hp.lt hr
    exact rowIs_ne hp hc rfl
  · intro hr
    obtain ⟨_, c, hc⟩ := hR lb hl.lt hr
    exact rowIs_ne hl hc rfl
theorem Fld.keep {w w' : World} {b : Nat} {n : Int} (h : Fld w b n) {R : Nat → Prop} (hu : Upd R w w') (hR : ∀ k, k < w.heap.size → R k → k ≠ b ∧ ∃ c, w.heap[k]? = some (.cells c 52 (0, 0))) : Fld w' b n := by
  rcases h with h | h
  · exact .inl (hu.cells h (fun hr => (hR b (lt_of_block h) hr).1 rfl))
  · exact .inr (h.keep hu hR)
theorem Fld.other {w w' : World} {b b' : Nat} {n n' : Int} (h : Fld w b n) (h' : Fld w b' n') (hne : b ≠ b') (hu : Upd (oneBlock b') w w') : Fld w' b n :=
  h.keep hu (fun k _ hk => by
    have e : k = b' := hk
    subst e
    exact ⟨fun e => hne e.symm, h'.block⟩)
theorem Fld.alloc {w : World} {b : Nat} {n : Int} (h : Fld w b n) (o : Obj) : Fld (w.alloc o) b n :=
  h.keep ((Upd.refl noBlock w).alloc o) (fun _ _ hk => hk.elim)
theorem Fld.grow {w w' : World} {b : Nat} {n : Int} (h : Fld w b n) (hu : Upd noBlock w w') : Fld w' b n :=
  h.keep hu (fun _ _ hk => hk.elim)

end Go.Proofs.Ytcmcjojjphhffaa
