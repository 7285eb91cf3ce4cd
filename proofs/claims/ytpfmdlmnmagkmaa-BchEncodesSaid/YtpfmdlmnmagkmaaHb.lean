/- Walks over package gf: the once, and prepare. -/
import Derived.Test.YtpfmdlmnmagkmaaHa
import Derived.Defers
import Derived.Laws.Pointers
import Derived.Laws.LoneSync
import Derived.RegionTactic
import Derived.RegionCalls
import Derived.ChangeAlike
namespace Go.Proofs.Ytpfmdlmnmagkmaa
open Go.RowKit Gfm

theorem disable (w : World) : (callFunc 87 #[]).run Try.prog w = .ok (.value (.tuple #[])) w := run_call_mark0 Try.func87 (by kernel_rfl) (by kernel_rfl) (by kernel_rfl) .disable (by kernel_rfl) w
theorem enable (w : World) : (callFunc 89 #[]).run Try.prog w = .ok (.value (.tuple #[])) w := run_call_mark0 Try.func89 (by kernel_rfl) (by kernel_rfl) (by kernel_rfl) .enable (by kernel_rfl) w
theorem acquire (a : Addr) (w : World) : (callFunc 90 #[.pointer (some a)]).run Try.prog w = .ok (.value (.tuple #[])) w := run_call_marked Try.func90 (by kernel_rfl) (by kernel_rfl) (by kernel_rfl) .acquire (by kernel_rfl) a w
theorem releaseMerge (a : Addr) (w : World) : (callFunc 92 #[.pointer (some a)]).run Try.prog w = .ok (.value (.tuple #[])) w := run_call_marked Try.func92 (by kernel_rfl) (by kernel_rfl) (by kernel_rfl) .releaseMerge (by kernel_rfl) a w

/-- '(*sync/atomic.Bool).Store(true)', deferred -/
theorem store_deferred (a : Addr) (x : Value) (u : FrameMode) (w : World) (hc : w.cell? a = some x) (hz : w.frozen? a = false) :
    CallsD Try.prog 65 #[.pointer (some a), .bool true] u w fun e u' w' => u' = u ∧ (e = .returned (.tuple #[]) ∧ w' = w.drew.setCell a (.int .u32 1)) := by
  have hc' : w.drew.cell? a = some x := by go_simp
  have hz' : w.drew.frozen? a = false := by go_simp
  have hst := run_call_store (P := Try.prog) Try.func80 (by kernel_rfl) (by kernel_rfl) (by kernel_rfl) (by kernel_rfl) (k := .u32) (y := 1) hc' hz'
  go_enter_d Try.func65, Try.ntmps65
  go_wp2
  go_region_calls
  all_goals (go_end0; exact ⟨rfl, rfl⟩)

set_option maxRecDepth 100000 in
set_option maxHeartbeats 800000 in
/-- '(*sync.Mutex).Unlock', deferred: state 1 -/
theorem unlock_deferred (a : Addr) (u : FrameMode) (w : World) (hc : w.cell? a = some (.int .i32 1)) (hz : w.frozen? a = false) :
    CallsD Try.prog 64 #[.pointer (some a)] u w fun e u' w' => u' = u ∧ (e = .returned (.tuple #[]) ∧ w' = w.setCell a (.int .i32 0)) := by
  have hd := disable
  have he := enable
  have hr := releaseMerge
  have hadd := run_call_add (P := Try.prog) Try.func93 (by kernel_rfl) (by kernel_rfl) (by kernel_rfl) .i32 (by kernel_rfl) (y := -1) (s := 0) hc hz (by simp [go_sem]; rfl)
  have hcv := run_convert_to_unsafe (P := Try.prog) (src := 126) (dst := 130) Try.underlying126 Try.underlying130 (by kernel_rfl) hc
  go_enter_d Try.func64, Try.ntmps64
  go_wp2
  go_end0
  go_wp2
  go_end0
  exact ⟨rfl, rfl⟩

set_option maxRecDepth 100000 in
set_option maxHeartbeats 800000 in
/-- '(*sync.Mutex).Lock', the lock free -/
theorem lock_free (a : Addr) (w : World) (hc : w.cell? a = some (.int .i32 0)) (hz : w.frozen? a = false) :
    Calls Try.prog 63 #[.pointer (some a)] w fun e w' => e = .returned (.tuple #[]) ∧ w' = w.setCell a (.int .i32 1) := by
  have hd := disable
  have he := enable
  have ha := acquire
  have hcas := run_call_cas_hit (P := Try.prog) Try.func88 (by kernel_rfl) (by kernel_rfl) (by kernel_rfl) .i32 (by kernel_rfl) (y := 1) hc hz
  have hc' : (w.setCell a (.int .i32 1)).cell? a = some (.int .i32 1) := World.cell?_setCell_same w a _ hc
  have hcv := run_convert_to_unsafe (P := Try.prog) (src := 126) (dst := 130) Try.underlying126 Try.underlying130 (by kernel_rfl) hc'
  go_enter Try.func63, Try.ntmps63
  go_wp2
  first | go_end0 | (simp only [Exit.inBlock, Exit.then]; refine bodyPost_ret (results_none rfl _ _ _) rfl ?_) | refine bodyPost_ret (results_none rfl _ _ _) rfl ?_
  go_wp2
  go_end0
  exact ⟨rfl, rfl⟩

/-- what a once's function leaves, the once closed behind it -/
def Shut (o : Addr) (o1 : Addr) (w1 : World) : World := (w1.drew.setCell o (.int .u32 1)).setCell o1 (.int .i32 0)
set_option maxRecDepth 100000 in
set_option maxHeartbeats 1600000 in
theorem slow_gen (F : FuncId) (cap : Array Value) (b o : Nat) (w : World) (Q : World → Prop) (eg : ∀ args w, (callFunc F args).run Try.prog w = .ok (.enter F args) w)
    (h0 : w.cell? ⟨b, o, none⟩ = some (.int .u32 0)) (h1 : w.cell? ⟨b, o + 1, none⟩ = some (.int .i32 0)) (f1 : w.frozen? ⟨b, o + 1, none⟩ = false)
    (hF : Calls Try.prog F cap (w.setCell ⟨b, o + 1, none⟩ (.int .i32 1)) fun e w1 => e = .returned (.tuple #[]) ∧ Q w1)
    (hQ : ∀ w1, Q w1 → w1.cell? ⟨b, o, none⟩ = some (.int .u32 0) ∧ w1.frozen? ⟨b, o, none⟩ = false ∧ w1.cell? ⟨b, o + 1, none⟩ = some (.int .i32 1) ∧ w1.frozen? ⟨b, o + 1, none⟩ = false) :
    Calls Try.prog 43 #[.pointer (some ⟨b, o, none⟩), .func (.func F) #[] cap] w fun e w' => e = .returned (.tuple #[]) ∧ ∃ w1, Q w1 ∧ w' = Shut ⟨b, o, none⟩ ⟨b, o + 1, none⟩ w1 := by
  have hl := run_call_load (P := Try.prog) Try.func62 (by kernel_rfl) (by kernel_rfl) (by kernel_rfl) .u32 (by kernel_rfl) (w := w.setCell ⟨b, o + 1, none⟩ (.int .i32 1)) (a := ⟨b, o, none⟩) (x := 0) ((World.cell?_setCell_other _ ⟨b, o + 1, none⟩ ⟨b, o, none⟩ _ (by simp)).trans h0)
  have hnot : ∀ (x : Bool) (w : World), (Op.unary .not (.bool x)).run Try.prog w = .ok (.bool (!x)) w := fun _ _ => rfl
  have HF := Lib.hid hF
  have HQ := Lib.hid hQ
  clear hF hQ
  go_enter_defers Try.func43, Try.ntmps43
  go_wp2_with (first | (go_at_call 63; refine (lock_free ⟨b, o + 1, none⟩ _ (by go_simp) (by go_simp)).mono ?_; rintro e w' ⟨rfl, rfl⟩) | (go_at_call 42; go_in))
  refine HF.out.mono ?_
  rintro e w1 ⟨rfl, hq⟩
  have HQ1 := Lib.hid (HQ.out _ hq)
  have HQQ := Lib.hid hq
  clear hl hq
  go_wp2
  have q := HQ1.out
  refine leaves_cons (f := 65) (args := #[.pointer (some ⟨b, o, none⟩), .bool true]) (by simp) (by simp [go_sem]) ?_
  refine (store_deferred ⟨b, o, none⟩ (.int .u32 0) .returning _ q.1 q.2.1).mono ?_
  rintro e u' w'' ⟨rfl, rfl, rfl⟩
  refine leaves_cons (f := 64) (args := #[.pointer (some ⟨b, o + 1, none⟩)]) (by simp [settle]) (by simp [go_sem]) ?_
  have g1 : (w1.drew.setCell ⟨b, o, none⟩ (.int .u32 1)).cell? ⟨b, o + 1, none⟩ = some (.int .i32 1) := (World.cell?_setCell_other w1.drew ⟨b, o, none⟩ ⟨b, o + 1, none⟩ _ (by simp)).trans q.2.2.1
  have g2 : (w1.drew.setCell ⟨b, o, none⟩ (.int .u32 1)).frozen? ⟨b, o + 1, none⟩ = false := by
    have h : w1.drew.frozen? ⟨b, o + 1, none⟩ = false := q.2.2.2
    simpa using h
  refine (unlock_deferred ⟨b, o + 1, none⟩ _ _ g1 g2).mono ?_
  rintro e u' w'' ⟨rfl, rfl, rfl⟩
  simp [Leaves, settle, results, Try.results43]
  exact ⟨w1, HQQ.out, rfl⟩
set_option maxRecDepth 100000 in
set_option maxHeartbeats 1600000 in
/-- '(*sync.Once).Do', not yet done -/
theorem do_gen (F : FuncId) (cap : Array Value) (b o : Nat) (w : World) (Q : World → Prop) (eg : ∀ args w, (callFunc F args).run Try.prog w = .ok (.enter F args) w)
    (h0 : w.cell? ⟨b, o, none⟩ = some (.int .u32 0)) (h1 : w.cell? ⟨b, o + 1, none⟩ = some (.int .i32 0)) (f1 : w.frozen? ⟨b, o + 1, none⟩ = false)
    (hF : Calls Try.prog F cap (w.setCell ⟨b, o + 1, none⟩ (.int .i32 1)) fun e w1 => e = .returned (.tuple #[]) ∧ Q w1)
    (hQ : ∀ w1, Q w1 → w1.cell? ⟨b, o, none⟩ = some (.int .u32 0) ∧ w1.frozen? ⟨b, o, none⟩ = false ∧ w1.cell? ⟨b, o + 1, none⟩ = some (.int .i32 1) ∧ w1.frozen? ⟨b, o + 1, none⟩ = false) :
    Calls Try.prog 30 #[.pointer (some ⟨b, o, none⟩), .func (.func F) #[] cap] w fun e w' => e = .returned (.tuple #[]) ∧ ∃ w1, Q w1 ∧ w' = Shut ⟨b, o, none⟩ ⟨b, o + 1, none⟩ w1 := by
  have hl := run_call_load (P := Try.prog) Try.func62 (by kernel_rfl) (by kernel_rfl) (by kernel_rfl) .u32 (by kernel_rfl) h0
  have hnot : ∀ (x : Bool) (w : World), (Op.unary .not (.bool x)).run Try.prog w = .ok (.bool (!x)) w := fun _ _ => rfl
  have HS := Lib.hid (slow_gen F cap b o w Q eg h0 h1 f1 hF hQ)
  clear hF hQ h1 f1
  go_enter Try.func30, Try.ntmps30
  go_wp2_with (first | (go_at_call 43; refine HS.out.mono ?_; rintro e w' ⟨rfl, HF⟩) | (go_at_call 42; go_in))
  go_end0
  exact ⟨rfl, HF⟩
theorem Filled.close {b : Spt} {s n : Value} {w w1 : World} (h : Filled b (.int .u32 0) (.int .i32 1) s n (w.setCell ⟨b.blk, b.off + 1, none⟩ (.int .i32 1)) w1) (hb : b.blk < w.heap.size) :
    Filled b (.int .u32 1) (.int .i32 0) s n w (Shut ⟨b.blk, b.off, none⟩ ⟨b.blk, b.off + 1, none⟩ w1) := by
  obtain ⟨pb, lb, h1, h2, h3, hh, hp, hl, hu⟩ := h
  have hz : (w.setCell ⟨b.blk, b.off + 1, none⟩ (.int .i32 1)).heap.size = w.heap.size := by simp
  rw [hz] at h1 h2
  refine ⟨pb, lb, h1, h2, h3, ?_, ?_, ?_, ?_⟩
  · exact (hh.drew.set0 _).set1 _
  · exact (hp.drew.setOther (by simp; omega) _).setOther (by simp; omega) _
  · exact (hl.drew.setOther (by simp; omega) _).setOther (by simp; omega) _
  · have h0 : Upd (oneBlock b.blk) w (w.setCell ⟨b.blk, b.off + 1, none⟩ (.int .i32 1)) := (Upd.refl (oneBlock b.blk) w).setCell (p := ⟨b.blk, b.off + 1, none⟩) (.inl rfl) _
    exact ((h0.trans hu).drew.setCell (p := ⟨b.blk, b.off, none⟩) (.inl rfl) _).setCell (p := ⟨b.blk, b.off + 1, none⟩) (.inl rfl) _
set_option maxRecDepth 100000 in
/-- '(*sync.Once).Do', not yet done: prepare's -/
theorem do_first (b : Spt) (pl : Nat) (s p l n : Value) (w : World) (hpl : ¬ pl = b.blk) (hp : w.cell? ⟨pl, 0, none⟩ = some (.pointer (some ⟨b.blk, b.off, none⟩)))
    (hb : FB w b (.int .u32 0) (.int .i32 0) s p l n) :
    Calls Try.prog 30 #[.pointer (some ⟨b.blk, b.off, none⟩), .func (.func 85) #[] #[.pointer (some ⟨pl, 0, none⟩)]] w fun e w' => e = .returned (.tuple #[]) ∧ Filled b (.int .u32 1) (.int .i32 0) s n w w' := by
  have hbs := hb.lt
  refine (do_gen 85 #[.pointer (some ⟨pl, 0, none⟩)] b.blk b.off w (fun w1 => Filled b (.int .u32 0) (.int .i32 1) s n (w.setCell ⟨b.blk, b.off + 1, none⟩ (.int .i32 1)) w1) (fun _ _ => rfl) hb.c0 hb.c1 (hb.fr _)
    (fill_any b pl _ _ _ _ _ _ _ hpl ((World.cell?_setCell_other _ ⟨b.blk, b.off + 1, none⟩ ⟨pl, 0, none⟩ _ (fun h => hpl (by injection h with h; exact h.symm))).trans hp) (hb.set1 _)) (fun w1 h => ?_)).mono fun e w' ⟨h1, w1, h2, h3⟩ => ⟨h1, h3 ▸ h2.close hbs⟩
  obtain ⟨pb, lb, _, _, _, hh, _, _, _⟩ := h
  exact ⟨hh.c0, hh.fr _, hh.c1, hh.fr _⟩

set_option maxRecDepth 100000 in
set_option maxHeartbeats 800000 in
/-- '(*sync.Once).Do', done already -/
theorem do_done (a : Addr) (fv : Value) (w : World) (h0 : w.cell? a = some (.int .u32 1)) :
    Calls Try.prog 30 #[.pointer (some a), fv] w fun e w' => e = .returned (.tuple #[]) ∧ w = w' := by
  have hl := run_call_load (P := Try.prog) Try.func62 (by kernel_rfl) (by kernel_rfl) (by kernel_rfl) .u32 (by kernel_rfl) h0
  have hnot : ∀ (x : Bool) (w : World), (Op.unary .not (.bool x)).run Try.prog w = .ok (.bool (!x)) w := fun _ _ => rfl
  go_enter Try.func30, Try.ntmps30
  go_wp2
  go_end0
  exact ⟨rfl, rfl⟩

/-! ### a field in memory -/
def Fresh (w : World) (b : Spt) (n : Int) : Prop := FB w b (.int .u32 0) (.int .i32 0) (.int .u32 0) (.slice none 0 0) (.slice none 0 0) (.int .i64 n)
def Ready (w : World) (b : Spt) (n : Int) : Prop :=
  ∃ pb lb, FB w b (.int .u32 1) (.int .i32 0) (.int .u32 0) (.slice (some ⟨pb, 0, none⟩) 16382 16382) (.slice (some ⟨lb, 0, none⟩) 8192 8192) (.int .i64 n) ∧
    w.rowIs pb 3 16382 (powRow 8191) ∧ w.rowIs lb 3 8192 (logRow 8191)
def Fld (w : World) (b : Spt) (n : Int) : Prop := Fresh w b n ∨ Ready w b n

theorem Ready.fld {w : World} {b : Spt} {n : Int} (h : Ready w b n) : Fld w b n := .inr h
theorem Fld.block {w : World} {b : Spt} {n : Int} (h : Fld w b n) : ∃ c, w.heap[b.blk]? = some (.cells c b.T (0, 0)) := by
  rcases h with h | ⟨_, _, h, _⟩
  · exact h.block
  · exact h.block
theorem Fld.lt {w : World} {b : Spt} {n : Int} (h : Fld w b n) : b.blk < w.heap.size := by
  obtain ⟨c, hc⟩ := h.block; exact lt_of_block hc
/-- a table is no field -/
theorem rowIs_ne {w : World} {b : Spt} {pb k : Nat} {f : Nat → Value} (h : w.rowIs pb 3 k f) {c : Array Value} (hb : w.heap[b.blk]? = some (.cells c b.T (0, 0))) : ¬ pb = b.blk := by
  rintro rfl
  obtain ⟨c', h', _⟩ := h
  rw [h'] at hb
  simp only [Option.some.injEq, Obj.cells.injEq] at hb
  exact b.hT hb.2.1.symm
theorem Ready.keep {w w' : World} {b : Spt} {n : Int} (h : Ready w b n) (hu : Upd noBlock w w') : Ready w' b n := by
  obtain ⟨pb, lb, hb, hp, hl⟩ := h
  exact ⟨pb, lb, hb.upd hu (fun h => h), hp.of_block (hu.block _ hp.lt (fun h => h)), hl.of_block (hu.block _ hl.lt (fun h => h))⟩
theorem Fld.keep {w w' : World} {b : Spt} {n : Int} (h : Fld w b n) (hu : Upd noBlock w w') : Fld w' b n := by
  rcases h with h | h
  · exact .inl (h.upd hu (fun h => h))
  · exact .inr (h.keep hu)
theorem Fld.alloc {w : World} {b : Spt} {n : Int} (h : Fld w b n) (o : Obj) : Fld (w.alloc o) b n := h.keep ((Upd.refl noBlock w).alloc o)
theorem Fld.grow {w w' : World} {b : Spt} {n : Int} (h : Fld w b n) (hu : Upd noBlock w w') : Fld w' b n := h.keep hu

end Go.Proofs.Ytpfmdlmnmagkmaa
