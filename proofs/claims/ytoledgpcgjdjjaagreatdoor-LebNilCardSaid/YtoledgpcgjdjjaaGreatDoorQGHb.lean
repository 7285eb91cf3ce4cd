import Derived.Test.YtoledgpcgjdjjaaGreatDoorQGHs
import Derived.Defers
import Derived.Laws.Pointers
import Derived.Laws.LoneSync
import Derived.RegionTactic
import Derived.RegionCalls
import Derived.ChangeAlike
import Derived.Deep.QuietTactic
import Derived.BigQuiet
import Derived.Test.YtoledgpcgjdjjaaGreatDoorRows
import Derived.Test.YtoledgpcgjdjjaaGreatDoorQLib
import Derived.Test.YtoledgpcgjdjjaaGreatDoorQGGfm
import Derived.WalkKit
import Derived.Lib.Hide
import Derived.WalkSpells
import Derived.WalkLawsBesides
import Derived.BigRegion
import Derived.Deep.OwnRows
/- Walks over package gf: the once, and prepare. -/
namespace Go.Proofs.YtoledgpcgjdjjaaGreatDoor
open Go.RowKit Gfm

theorem disable (w : World) : (callFunc 239 #[]).run Tryz.prog w = .ok (.value (.tuple #[])) w := run_call_mark0 Tryz.func239 (by kernel_rfl) (by kernel_rfl) (by kernel_rfl) .disable (by kernel_rfl) w
theorem enable (w : World) : (callFunc 241 #[]).run Tryz.prog w = .ok (.value (.tuple #[])) w := run_call_mark0 Tryz.func241 (by kernel_rfl) (by kernel_rfl) (by kernel_rfl) .enable (by kernel_rfl) w
theorem acquire (a : Addr) (w : World) : (callFunc 242 #[.pointer (some a)]).run Tryz.prog w = .ok (.value (.tuple #[])) w := run_call_marked Tryz.func242 (by kernel_rfl) (by kernel_rfl) (by kernel_rfl) .acquire (by kernel_rfl) a w
theorem releaseMerge (a : Addr) (w : World) : (callFunc 244 #[.pointer (some a)]).run Tryz.prog w = .ok (.value (.tuple #[])) w := run_call_marked Tryz.func244 (by kernel_rfl) (by kernel_rfl) (by kernel_rfl) .releaseMerge (by kernel_rfl) a w

theorem store_deferred (a : Addr) (x : Value) (u : FrameMode) (w : World) (hc : w.cell? a = some x) (hz : w.frozen? a = false) :
    CallsD Tryz.prog 191 #[.pointer (some a), .bool true] u w fun e u' w' => u' = u ∧ (e = .returned (.tuple #[]) ∧ w' = w.drew.setCell a (.int .u32 1)) := by
  have hc' : w.drew.cell? a = some x := by go_simp
  have hz' : w.drew.frozen? a = false := by go_simp
  have hst := run_call_store (P := Tryz.prog) Tryz.func219 (by kernel_rfl) (by kernel_rfl) (by kernel_rfl) (by kernel_rfl) (k := .u32) (y := 1) hc' hz'
  go_enter_d Tryz.func191, Tryz.ntmps191
  go_wp2
  go_region_calls
  all_goals (go_end0; exact ⟨rfl, rfl⟩)

set_option maxRecDepth 100000 in
set_option maxHeartbeats 800000 in
theorem unlock_deferred (a : Addr) (u : FrameMode) (w : World) (hc : w.cell? a = some (.int .i32 1)) (hz : w.frozen? a = false) :
    CallsD Tryz.prog 190 #[.pointer (some a)] u w fun e u' w' => u' = u ∧ (e = .returned (.tuple #[]) ∧ w' = w.setCell a (.int .i32 0)) := by
  have hd := disable
  have he := enable
  have hr := releaseMerge
  have hadd := run_call_add (P := Tryz.prog) Tryz.func245 (by kernel_rfl) (by kernel_rfl) (by kernel_rfl) .i32 (by kernel_rfl) (y := -1) (s := 0) hc hz (by simp [go_sem]; rfl)
  have hcv := run_convert_to_unsafe (P := Tryz.prog) (src := 315) (dst := 296) Tryz.underlying315 Tryz.underlying296 (by kernel_rfl) hc
  go_enter_d Tryz.func190, Tryz.ntmps190
  go_wp2
  go_end0
  go_wp2
  go_end0
  exact ⟨rfl, rfl⟩

set_option maxRecDepth 100000 in
set_option maxHeartbeats 800000 in
theorem lock_free (a : Addr) (w : World) (hc : w.cell? a = some (.int .i32 0)) (hz : w.frozen? a = false) :
    Calls Tryz.prog 189 #[.pointer (some a)] w fun e w' => e = .returned (.tuple #[]) ∧ w' = w.setCell a (.int .i32 1) := by
  have hd := disable
  have he := enable
  have ha := acquire
  have hcas := run_call_cas_hit (P := Tryz.prog) Tryz.func240 (by kernel_rfl) (by kernel_rfl) (by kernel_rfl) .i32 (by kernel_rfl) (y := 1) hc hz
  have hc' : (w.setCell a (.int .i32 1)).cell? a = some (.int .i32 1) := World.cell?_setCell_same w a _ hc
  have hcv := run_convert_to_unsafe (P := Tryz.prog) (src := 315) (dst := 296) Tryz.underlying315 Tryz.underlying296 (by kernel_rfl) hc'
  go_enter Tryz.func189, Tryz.ntmps189
  go_wp2
  first | go_end0 | (simp only [Exit.inBlock, Exit.then]; refine bodyPost_ret (results_none rfl _ _ _) rfl ?_) | refine bodyPost_ret (results_none rfl _ _ _) rfl ?_
  go_wp2
  go_end0
  exact ⟨rfl, rfl⟩

def Shut (o : Addr) (o1 : Addr) (w1 : World) : World := (w1.drew.setCell o (.int .u32 1)).setCell o1 (.int .i32 0)
set_option maxRecDepth 100000 in
set_option maxHeartbeats 1600000 in
theorem slow_gen (F : FuncId) (cap : Array Value) (b o : Nat) (w : World) (Q : World → Prop) (eg : ∀ args w, (callFunc F args).run Tryz.prog w = .ok (.enter F args) w)
    (h0 : w.cell? ⟨b, o, none⟩ = some (.int .u32 0)) (h1 : w.cell? ⟨b, o + 1, none⟩ = some (.int .i32 0)) (f1 : w.frozen? ⟨b, o + 1, none⟩ = false)
    (hF : Calls Tryz.prog F cap (w.setCell ⟨b, o + 1, none⟩ (.int .i32 1)) fun e w1 => e = .returned (.tuple #[]) ∧ Q w1)
    (hQ : ∀ w1, Q w1 → w1.cell? ⟨b, o, none⟩ = some (.int .u32 0) ∧ w1.frozen? ⟨b, o, none⟩ = false ∧ w1.cell? ⟨b, o + 1, none⟩ = some (.int .i32 1) ∧ w1.frozen? ⟨b, o + 1, none⟩ = false) :
    Calls Tryz.prog 144 #[.pointer (some ⟨b, o, none⟩), .func (.func F) #[] cap] w fun e w' => e = .returned (.tuple #[]) ∧ ∃ w1, Q w1 ∧ w' = Shut ⟨b, o, none⟩ ⟨b, o + 1, none⟩ w1 := by
  have hl := run_call_load (P := Tryz.prog) Tryz.func188 (by kernel_rfl) (by kernel_rfl) (by kernel_rfl) .u32 (by kernel_rfl) (w := w.setCell ⟨b, o + 1, none⟩ (.int .i32 1)) (a := ⟨b, o, none⟩) (x := 0) ((World.cell?_setCell_other _ ⟨b, o + 1, none⟩ ⟨b, o, none⟩ _ (by simp)).trans h0)
  have hnot : ∀ (x : Bool) (w : World), (Op.unary .not (.bool x)).run Tryz.prog w = .ok (.bool (!x)) w := fun _ _ => rfl
  have HF := Lib.hid hF
  have HQ := Lib.hid hQ
  clear hF hQ
  go_enter_defers Tryz.func144, Tryz.ntmps144
  go_wp2_with (first | (go_at_call 189; refine (lock_free ⟨b, o + 1, none⟩ _ (by go_simp) (by go_simp)).mono ?_; rintro e w' ⟨rfl, rfl⟩) | (go_at_call 143; go_in))
  refine HF.out.mono ?_
  rintro e w1 ⟨rfl, hq⟩
  have HQ1 := Lib.hid (HQ.out _ hq)
  have HQQ := Lib.hid hq
  clear hl hq
  go_wp2
  have q := HQ1.out
  refine leaves_cons (f := 191) (args := #[.pointer (some ⟨b, o, none⟩), .bool true]) (by simp) (by simp [go_sem]) ?_
  refine (store_deferred ⟨b, o, none⟩ (.int .u32 0) .returning _ q.1 q.2.1).mono ?_
  rintro e u' w'' ⟨rfl, rfl, rfl⟩
  refine leaves_cons (f := 190) (args := #[.pointer (some ⟨b, o + 1, none⟩)]) (by simp [settle]) (by simp [go_sem]) ?_
  have g1 : (w1.drew.setCell ⟨b, o, none⟩ (.int .u32 1)).cell? ⟨b, o + 1, none⟩ = some (.int .i32 1) := (World.cell?_setCell_other w1.drew ⟨b, o, none⟩ ⟨b, o + 1, none⟩ _ (by simp)).trans q.2.2.1
  have g2 : (w1.drew.setCell ⟨b, o, none⟩ (.int .u32 1)).frozen? ⟨b, o + 1, none⟩ = false := by
    have h : w1.drew.frozen? ⟨b, o + 1, none⟩ = false := q.2.2.2
    simpa using h
  refine (unlock_deferred ⟨b, o + 1, none⟩ _ _ g1 g2).mono ?_
  rintro e u' w'' ⟨rfl, rfl, rfl⟩
  simp [Leaves, settle, results, Tryz.results144]
  exact ⟨w1, HQQ.out, rfl⟩
set_option maxRecDepth 100000 in
set_option maxHeartbeats 1600000 in
theorem do_gen (F : FuncId) (cap : Array Value) (b o : Nat) (w : World) (Q : World → Prop) (eg : ∀ args w, (callFunc F args).run Tryz.prog w = .ok (.enter F args) w)
    (h0 : w.cell? ⟨b, o, none⟩ = some (.int .u32 0)) (h1 : w.cell? ⟨b, o + 1, none⟩ = some (.int .i32 0)) (f1 : w.frozen? ⟨b, o + 1, none⟩ = false)
    (hF : Calls Tryz.prog F cap (w.setCell ⟨b, o + 1, none⟩ (.int .i32 1)) fun e w1 => e = .returned (.tuple #[]) ∧ Q w1)
    (hQ : ∀ w1, Q w1 → w1.cell? ⟨b, o, none⟩ = some (.int .u32 0) ∧ w1.frozen? ⟨b, o, none⟩ = false ∧ w1.cell? ⟨b, o + 1, none⟩ = some (.int .i32 1) ∧ w1.frozen? ⟨b, o + 1, none⟩ = false) :
    Calls Tryz.prog 109 #[.pointer (some ⟨b, o, none⟩), .func (.func F) #[] cap] w fun e w' => e = .returned (.tuple #[]) ∧ ∃ w1, Q w1 ∧ w' = Shut ⟨b, o, none⟩ ⟨b, o + 1, none⟩ w1 := by
  have hl := run_call_load (P := Tryz.prog) Tryz.func188 (by kernel_rfl) (by kernel_rfl) (by kernel_rfl) .u32 (by kernel_rfl) h0
  have hnot : ∀ (x : Bool) (w : World), (Op.unary .not (.bool x)).run Tryz.prog w = .ok (.bool (!x)) w := fun _ _ => rfl
  have HS := Lib.hid (slow_gen F cap b o w Q eg h0 h1 f1 hF hQ)
  clear hF hQ h1 f1
  go_enter Tryz.func109, Tryz.ntmps109
  go_wp2_with (first | (go_at_call 144; refine HS.out.mono ?_; rintro e w' ⟨rfl, HF⟩) | (go_at_call 143; go_in))
  go_end0
  exact ⟨rfl, HF⟩
theorem Filled.close {b : Spt} {s n : Value} {w w1 : World} (h : Filled b (.int .u32 0) (.int .i32 1) s n (w.setCell ⟨b.blk, b.off + 1, none⟩ (.int .i32 1)) w1) (hb : b.blk < w.heap.size) :
    Filled b (.int .u32 1) (.int .i32 0) s n w (Shut ⟨b.blk, b.off, none⟩ ⟨b.blk, b.off + 1, none⟩ w1) := by
  obtain ⟨pb, lb, h1, h2, h3, hh, hp, hl, hu⟩ := h
  have hz : (w.setCell ⟨b.blk, b.off + 1, none⟩ (.int .i32 1)).heap.size = w.heap.size := by simp
  rw [hz] at h1 h2
  refine ⟨pb, lb, h1, h2, h3, ?_, ?_, ?_, ?_⟩
  · exact (hh.drew.set0 _).set1 _
  · exact (hp.drew.setOther (by simp; omega) _).setOther (by simp; omega) _
  · exact (hl.drew.setOther (by simp; omega) _).setOther (by simp; omega) _
  · have h0 : Upd (oneBlock b.blk) w (w.setCell ⟨b.blk, b.off + 1, none⟩ (.int .i32 1)) := (Upd.refl (oneBlock b.blk) w).setCell (p := ⟨b.blk, b.off + 1, none⟩) (.inl rfl) _
    exact ((h0.trans hu).drew.setCell (p := ⟨b.blk, b.off, none⟩) (.inl rfl) _).setCell (p := ⟨b.blk, b.off + 1, none⟩) (.inl rfl) _
set_option maxRecDepth 100000 in
theorem do_first (b : Spt) (pl : Nat) (s p l n : Value) (w : World) (hpl : ¬ pl = b.blk) (hp : w.cell? ⟨pl, 0, none⟩ = some (.pointer (some ⟨b.blk, b.off, none⟩)))
    (hb : FB w b (.int .u32 0) (.int .i32 0) s p l n) :
    Calls Tryz.prog 109 #[.pointer (some ⟨b.blk, b.off, none⟩), .func (.func 247) #[] #[.pointer (some ⟨pl, 0, none⟩)]] w fun e w' => e = .returned (.tuple #[]) ∧ Filled b (.int .u32 1) (.int .i32 0) s n w w' := by
  have hbs := hb.lt
  refine (do_gen 247 #[.pointer (some ⟨pl, 0, none⟩)] b.blk b.off w (fun w1 => Filled b (.int .u32 0) (.int .i32 1) s n (w.setCell ⟨b.blk, b.off + 1, none⟩ (.int .i32 1)) w1) (fun _ _ => rfl) hb.c0 hb.c1 (hb.fr _)
    (fill_any b pl _ _ _ _ _ _ _ hpl ((World.cell?_setCell_other _ ⟨b.blk, b.off + 1, none⟩ ⟨pl, 0, none⟩ _ (fun h => hpl (by injection h with h; exact h.symm))).trans hp) (hb.set1 _)) (fun w1 h => ?_)).mono fun e w' ⟨h1, w1, h2, h3⟩ => ⟨h1, h3 ▸ h2.close hbs⟩
  obtain ⟨pb, lb, _, _, _, hh, _, _, _⟩ := h
  exact ⟨hh.c0, hh.fr _, hh.c1, hh.fr _⟩

set_option maxRecDepth 100000 in
set_option maxHeartbeats 800000 in
theorem do_done (a : Addr) (fv : Value) (w : World) (h0 : w.cell? a = some (.int .u32 1)) :
    Calls Tryz.prog 109 #[.pointer (some a), fv] w fun e w' => e = .returned (.tuple #[]) ∧ w = w' := by
  have hl := run_call_load (P := Tryz.prog) Tryz.func188 (by kernel_rfl) (by kernel_rfl) (by kernel_rfl) .u32 (by kernel_rfl) h0
  have hnot : ∀ (x : Bool) (w : World), (Op.unary .not (.bool x)).run Tryz.prog w = .ok (.bool (!x)) w := fun _ _ => rfl
  go_enter Tryz.func109, Tryz.ntmps109
  go_wp2
  go_end0
  exact ⟨rfl, rfl⟩

/-! ### a field in memory -/
def Fresh (w : World) (b : Spt) (n : Int) : Prop := FB w b (.int .u32 0) (.int .i32 0) (.int .u32 0) (.slice none 0 0) (.slice none 0 0) (.int .i64 n)
def Ready (w : World) (b : Spt) (n : Int) : Prop :=
  ∃ pb lb, FB w b (.int .u32 1) (.int .i32 0) (.int .u32 0) (.slice (some ⟨pb, 0, none⟩) 16382 16382) (.slice (some ⟨lb, 0, none⟩) 8192 8192) (.int .i64 n) ∧
    w.rowIs pb 3 16382 (powRow 8191) ∧ w.rowIs lb 3 8192 (logRow 8191)
def Fld (w : World) (b : Spt) (n : Int) : Prop := Fresh w b n ∨ Ready w b n

theorem Ready.fld {w : World} {b : Spt} {n : Int} (h : Ready w b n) : Fld w b n := .inr h
theorem Fld.block {w : World} {b : Spt} {n : Int} (h : Fld w b n) : ∃ c, w.heap[b.blk]? = some (.cells c b.T (0, 0)) := by
  rcases h with h | ⟨_, _, h, _⟩
  · exact h.block
  · exact h.block
theorem Fld.lt {w : World} {b : Spt} {n : Int} (h : Fld w b n) : b.blk < w.heap.size := by
  obtain ⟨c, hc⟩ := h.block; exact lt_of_block hc
theorem rowIs_ne {w : World} {b : Spt} {pb k : Nat} {f : Nat → Value} (h : w.rowIs pb 3 k f) {c : Array Value} (hb : w.heap[b.blk]? = some (.cells c b.T (0, 0))) : ¬ pb = b.blk := by
  rintro rfl
  obtain ⟨c', h', _⟩ := h
  rw [h'] at hb
  simp only [Option.some.injEq, Obj.cells.injEq] at hb
  exact b.hT hb.2.1.symm
theorem Ready.keep {w w' : World} {b : Spt} {n : Int} (h : Ready w b n) (hu : Upd noBlock w w') : Ready w' b n := by
  obtain ⟨pb, lb, hb, hp, hl⟩ := h
  exact ⟨pb, lb, hb.upd hu (fun h => h), hp.of_block (hu.block _ hp.lt (fun h => h)), hl.of_block (hu.block _ hl.lt (fun h => h))⟩
theorem Fld.keep {w w' : World} {b : Spt} {n : Int} (h : Fld w b n) (hu : Upd noBlock w w') : Fld w' b n := by
  rcases h with h | h
  · exact .inl (h.upd hu (fun h => h))
  · exact .inr (h.keep hu)
theorem Fld.alloc {w : World} {b : Spt} {n : Int} (h : Fld w b n) (o : Obj) : Fld (w.alloc o) b n := h.keep ((Upd.refl noBlock w).alloc o)
theorem Fld.grow {w w' : World} {b : Spt} {n : Int} (h : Fld w b n) (hu : Upd noBlock w w') : Fld w' b n := h.keep hu

end Go.Proofs.YtoledgpcgjdjjaaGreatDoor

/- Walks over package gf: prepare, product, and the calls. -/
namespace Go.Proofs.YtoledgpcgjdjjaaGreatDoor
open Go.RowKit Gfm

set_option maxRecDepth 100000 in
set_option maxHeartbeats 800000 in
theorem prepare_any (b : Spt) (n : Int) (w : World) (h : Fld w b n) :
    Calls Tryz.prog 221 #[.pointer (some ⟨b.blk, b.off, none⟩)] w fun e w' => e = .returned (.tuple #[]) ∧ Ready w' b n ∧ Upd (oneBlock b.blk) w w' := by
  have hbs := h.lt
  have hmf : ∀ (fn : Fn) (first cap : Array Value) (w : World), (Instr.makeFunc fn first cap).run Tryz.prog w = .ok (.func fn first cap) w := fun _ _ _ _ => rfl
  have hne : ¬ w.heap.size = b.blk := by omega
  rcases h with h | h
  · have HB := Lib.hid (FB.alloc h (.cells #[.pointer (some ⟨b.blk, b.off, none⟩)] 203))
    clear h
    go_enter Tryz.func221, Tryz.ntmps221
    go_wp2_with (go_at_call 109; refine (do_first b _ _ _ _ _ _ hne (by simp) HB.out).mono ?_; rintro e w' ⟨rfl, HF⟩)
    go_end0
    obtain ⟨pb, lb, g1, g2, g3, hh, hp, hl, hu⟩ := HF
    exact ⟨rfl, ⟨pb, lb, hh, hp, hl⟩, ((Upd.refl (oneBlock b.blk) w).alloc _).trans hu⟩
  · obtain ⟨pb, lb, hb, hp, hl⟩ := h
    have HB := Lib.hid (FB.alloc hb (.cells #[.pointer (some ⟨b.blk, b.off, none⟩)] 203))
    have HR : Hid (Ready (w.alloc (.cells #[.pointer (some ⟨b.blk, b.off, none⟩)] 203)) b n) := Ready.keep ⟨pb, lb, hb, hp, hl⟩ ((Upd.refl noBlock w).alloc _)
    clear hb hp hl
    go_enter Tryz.func221, Tryz.ntmps221
    go_wp2_with (go_at_call 109; refine (do_done ⟨b.blk, b.off, none⟩ _ _ HB.out.c0).mono ?_; rintro e w' ⟨rfl, rfl⟩)
    go_end0
    exact ⟨rfl, HR.out, (Upd.refl (oneBlock b.blk) w).alloc _⟩

def prodN (a c : Nat) : Nat := if a = 0 ∨ c = 0 then 0 else pw (lg a + lg c)
theorem prodN_eq (a c : Nat) (ha : a < 8192) (hc : c < 8192) : prodN a c = mul a c := by
  unfold prodN
  by_cases h : a = 0 ∨ c = 0
  · rw [if_pos h]
    rcases h with rfl | rfl
    · rw [zero_mul]
    · rw [mul_zero]
  · rw [if_neg h, prod_eq _ _ (by omega) (by omega) ha hc]

set_option maxRecDepth 100000 in
set_option maxHeartbeats 800000 in
theorem product_any (b : Spt) (a c : Nat) (n : Int) (w : World) (h : Ready w b n) (ha : a < 8192) (hc : c < 8192) :
    Calls Tryz.prog 249 #[.pointer (some ⟨b.blk, b.off, none⟩), .int .i64 (a : Int), .int .i64 (c : Int)] w fun e w' => e = .returned (.int .i64 (mul a c : Nat)) ∧ ∃ k, w' = w.drewN k := by
  rw [← prodN_eq a c ha hc]
  by_cases h1 : a = 0
  · subst h1
    have : prodN 0 c = 0 := by simp [prodN]
    rw [this]
    go_enter Tryz.func249, Tryz.ntmps249
    go_wp2
    go_ret
    exact ⟨rfl, 0, rfl⟩
  · by_cases h2 : c = 0
    · subst h2
      have : prodN a 0 = 0 := by simp [prodN]
      rw [this]
      have t1 : ((a : Int) == 0) = false := by simp; omega
      go_enter Tryz.func249, Tryz.ntmps249
      go_wp2
      go_ret
      exact ⟨rfl, 0, rfl⟩
    · have t1 : ((a : Int) == 0) = false := by simp; omega
      have t2 : ((c : Int) == 0) = false := by simp; omega
      have hv : prodN a c = pw (lg a + lg c) := by rw [prodN, if_neg (by omega)]
      rw [hv]
      obtain ⟨pb, lb, hb, hp, hl⟩ := h
      have c3 : w.cell? ⟨b.blk, b.off + 3, none⟩ = some (.slice (some ⟨pb, 0, none⟩) 16382 16382) := hb.c3
      have c4 : w.cell? ⟨b.blk, b.off + 4, none⟩ = some (.slice (some ⟨lb, 0, none⟩) 8192 8192) := hb.c4
      have k1 := lg_lt a
      have k2 := lg_lt c
      have l1 : w.cell? ⟨lb, a, none⟩ = some (.int .i64 ((lg a : Nat) : Int)) := hl.cell (i := a) ha
      have l2 : w.cell? ⟨lb, c, none⟩ = some (.int .i64 ((lg c : Nat) : Int)) := hl.cell (i := c) hc
      have p1 : w.cell? ⟨pb, lg a + lg c, none⟩ = some (.int .i64 ((pw (lg a + lg c) : Nat) : Int)) := by
        have := hp.cell (i := lg a + lg c) (by omega)
        rw [this]
        unfold powRow
        by_cases g : lg a + lg c < 8191
        · rw [if_pos g]
        · rw [if_neg g, if_pos (by omega)]
      clear hb hp hl hv
      generalize lg a = x at *
      generalize lg c = y at *
      have s1 : IntKind.i64.wrap ((x : Int) + (y : Int)) = (x : Int) + (y : Int) := IntWalk.i64_in _ (by omega)
      have s2 : ((x : Int) + (y : Int)).toNat = x + y := by omega
      have s3 : (0 : Int) ≤ (x : Int) + (y : Int) := by omega
      have s4 : (x : Int) + (y : Int) < 16382 := by omega
      go_enter Tryz.func249, Tryz.ntmps249
      go_wp2
      go_quiet (fail)
      go_wp2
      go_ret
      exact ⟨rfl, _, rfl⟩

/-! ### the calls -/
def low (a : Int) : Nat := (a % 8192).toNat
theorem low_lt (a : Int) : low a < 8192 := by unfold low; omega
theorem low_eq (a : Int) : a % 8192 = ((low a : Nat) : Int) := by unfold low; omega
theorem Fld.drewN {w : World} {b : Spt} {n : Int} (h : Fld w b n) (k : Nat) : Fld (w.drewN k) b n := h
theorem Ready.drewN {w : World} {b : Spt} {n : Int} (h : Ready w b n) (k : Nat) : Ready (w.drewN k) b n := h

theorem Fld.counted {w : World} {b : Spt} {n : Int} (h : Fld w b n) (m : Int) : Fld (w.setCell ⟨b.blk, b.off + 5, none⟩ (.int .i64 m)) b m := by
  rcases h with h | ⟨pb, lb, h, hp, hl⟩
  · exact .inl (FB.set5 h _)
  · exact .inr ⟨pb, lb, h.set5 _, hp.setOther (rowIs_ne hp h.block.choose_spec) _, hl.setOther (rowIs_ne hl h.block.choose_spec) _⟩
theorem Fld.cell5 {w : World} {b : Spt} {n : Int} (h : Fld w b n) : w.cell? ⟨b.blk, b.off + 5, none⟩ = some (.int .i64 n) ∧ w.frozen? ⟨b.blk, b.off + 5, none⟩ = false := by
  rcases h with h | ⟨pb, lb, h, hp, hl⟩
  · exact ⟨FB.c5 h, FB.fr h _⟩
  · exact ⟨FB.c5 h, FB.fr h _⟩

def trn (n : Int) : Nat := (n % 8191).toNat
theorem tmod_cases (n m : Int) : (0 ≤ n ∧ n.tmod m = n % m) ∨ (n < 0 ∧ n.tmod m = -((-n) % m)) := by
  by_cases h : 0 ≤ n
  · exact .inl ⟨h, Int.tmod_eq_emod_of_nonneg h⟩
  · refine .inr ⟨by omega, ?_⟩
    have e : n.tmod m = -((-n).tmod m) := by rw [Int.neg_tmod, Int.neg_neg]
    rw [e, Int.tmod_eq_emod_of_nonneg (by omega)]
theorem trn_lt (n : Int) : trn n < 8191 := by unfold trn; omega
set_option maxRecDepth 100000 in
theorem turn_any (n : Int) (w : World) :
    Calls Tryz.prog 222 #[.int .i64 n] w fun e w' => e = .returned (.int .i64 (trn n : Nat)) ∧ w = w' := by
  by_cases h0 : n.tmod 8191 < 0
  · have hv : n.tmod 8191 + 8191 = ((trn n : Nat) : Int) := by
      unfold trn
      have := tmod_cases n 8191
      omega
    have Hv := Lib.hid hv
    have b1 : -8191 < n.tmod 8191 := by have := tmod_cases n 8191; omega
    clear hv
    go_enter Tryz.func222, Tryz.ntmps222
    go_wp2
    go_ret
    exact ⟨congrArg (fun x => Ending.returned (.int .i64 x)) Hv.out, rfl⟩
  · have hv : n.tmod 8191 = ((trn n : Nat) : Int) := by
      unfold trn
      have := tmod_cases n 8191
      omega
    have Hv := Lib.hid hv
    have b1 : n.tmod 8191 < 8191 := by have := tmod_cases n 8191; omega
    clear hv
    go_enter Tryz.func222, Tryz.ntmps222
    go_wp2
    go_ret
    exact ⟨congrArg (fun x => Ending.returned (.int .i64 x)) Hv.out, rfl⟩

theorem quiet_eq {P : Program} {f : FuncId} {args : Array Value} {w : World} {n : Nat} {v : Value}
    (h : Calls P f args (w.drewN n) fun e w' => e = .returned v ∧ w.drewN n = w') : Calls P f args (w.drewN n) fun e w'' => e = .returned v ∧ ∃ m, w'' = w.drewN m :=
  h.mono fun _ _ ⟨he, hm⟩ => ⟨he, n, hm.symm⟩

set_option maxRecDepth 100000 in
set_option maxHeartbeats 800000 in
theorem exp_any (b : Spt) (n k : Int) (w : World) (h : Fld w b n) :
    Calls Tryz.prog 195 #[.pointer (some ⟨b.blk, b.off, none⟩), .int .i64 k] w fun e w' =>
      e = .returned (.int .i64 (pw (trn k) : Nat)) ∧ Ready w' b n ∧ Upd (oneBlock b.blk) w w' := by
  have HF := Lib.hid h
  clear h
  go_enter Tryz.func195, Tryz.ntmps195
  go_wp2_with (go_at_call 221; refine (prepare_any b n _ HF.out).mono ?_; rintro e w1 ⟨rfl, HR0, HV0⟩; have HR := Lib.hid HR0; have HV := Lib.hid HV0; clear HR0 HV0)
  obtain ⟨pb, lb, hb, hp, hl⟩ := HR.out
  have c3 : w1.cell? ⟨b.blk, b.off + 3, none⟩ = some (.slice (some ⟨pb, 0, none⟩) 16382 16382) := hb.c3
  have ht := trn_lt k
  have p1 : w1.cell? ⟨pb, trn k, none⟩ = some (.int .i64 ((pw (trn k) : Nat) : Int)) := by
    have := hp.cell (i := trn k) (by omega)
    rw [this]
    unfold powRow
    rw [if_pos ht]
  have s1 : ((trn k : Nat) : Int) < 16382 := by omega
  have s2 : (0 : Int) ≤ ((trn k : Nat) : Int) := by omega
  clear hb hp hl
  go_quiet ((go_at_call 222; exact quiet_eq (turn_any k _)))
  go_wp2
  go_ret
  exact ⟨rfl, HR.out.drewN _, HV.out.drewN _⟩

set_option maxRecDepth 100000 in
set_option maxHeartbeats 800000 in
theorem log_no (b : Spt) (a : Int) (w : World) (ha : low a = 0) :
    Calls Tryz.prog 224 #[.pointer (some ⟨b.blk, b.off, none⟩), .int .i64 a] w fun e w' =>
      e = .returned (.tuple #[.int .i64 0, .bool false]) ∧ w = w' := by
  have m1 : bits .and .i64 a 8191 = 0 := by rw [i64_8191, low_eq, ha]; rfl
  clear ha
  go_enter Tryz.func224, Tryz.ntmps224
  go_wp2
  go_ret2
  exact ⟨rfl, rfl⟩
end Go.Proofs.YtoledgpcgjdjjaaGreatDoor

/- Walks over package gf: Inv, Pow, Eval. -/
namespace Go.Proofs.YtoledgpcgjdjjaaGreatDoor
open Go.RowKit Gfm

def invN (a : Nat) : Nat := if a = 0 then 0 else pw (8191 - lg a)

def powN (a : Nat) (n : Int) : Nat := if n = 0 then 1 else if a = 0 then 0 else pw (trn ((lg a : Int) * (trn n : Nat)))

end Go.Proofs.YtoledgpcgjdjjaaGreatDoor

/- Walks over package gf: Eval. -/
namespace Go.Proofs.YtoledgpcgjdjjaaGreatDoor
open Go.RowKit Gfm

def hor (x : Nat) (l : List Int) : Nat := l.foldr (fun c acc => mul acc x ^^^ low c) 0
theorem hor_lt (x : Nat) (l : List Int) : hor x l < 8192 := by
  cases l with
  | nil => simp [hor]
  | cons c l =>
    show mul (hor x l) x ^^^ low c < 8192
    exact xor_lt _ _ (mul_lt _ _ (hor_lt x l)) (low_lt c)

theorem hor_step (x : Nat) (xs : List Int) (i : Nat) (h : i < xs.length) :
    hor x (xs.drop i) = mul (hor x (xs.drop (i + 1))) x ^^^ low (xs.getD i 0) := by
  rw [List.drop_eq_getElem_cons h]
  show mul (hor x _) x ^^^ low (xs[i]) = _
  have e : xs[i] = xs.getD i 0 := by
    rw [List.getD_eq_getElem?_getD, List.getElem?_eq_getElem h]; rfl
  rw [e]

end Go.Proofs.YtoledgpcgjdjjaaGreatDoor

/- Walks over package gf where the tables are there: nothing that lay there is written. -/
namespace Go.Proofs.YtoledgpcgjdjjaaGreatDoor
open Go.RowKit Gfm

theorem Ready.upd {w w' : World} {b : Spt} {n : Int} (h : Ready w b n) (hu : Upd noBlock w w') : Ready w' b n := h.keep hu
set_option maxRecDepth 100000 in
set_option maxHeartbeats 800000 in
theorem prepare_ready (b : Spt) (n : Int) (w : World) (h : Ready w b n) :
    Calls Tryz.prog 221 #[.pointer (some ⟨b.blk, b.off, none⟩)] w fun e w' => e = .returned (.tuple #[]) ∧ Ready w' b n ∧ Upd noBlock w w' := by
  have hbs := h.fld.lt
  have hmf : ∀ (fn : Fn) (first cap : Array Value) (w : World), (Instr.makeFunc fn first cap).run Tryz.prog w = .ok (.func fn first cap) w := fun _ _ _ _ => rfl
  have hne : ¬ w.heap.size = b.blk := by omega
  obtain ⟨pb, lb, hb, hp, hl⟩ := h
  have HB := Lib.hid (FB.alloc hb (.cells #[.pointer (some ⟨b.blk, b.off, none⟩)] 203))
  have HR : Hid (Ready (w.alloc (.cells #[.pointer (some ⟨b.blk, b.off, none⟩)] 203)) b n) := Ready.keep ⟨pb, lb, hb, hp, hl⟩ ((Upd.refl noBlock w).alloc _)
  clear hb hp hl
  go_enter Tryz.func221, Tryz.ntmps221
  go_wp2_with (go_at_call 109; refine (do_done ⟨b.blk, b.off, none⟩ _ _ HB.out.c0).mono ?_; rintro e w' ⟨rfl, rfl⟩)
  go_end0
  exact ⟨rfl, HR.out, (Upd.refl noBlock w).alloc _⟩

set_option maxRecDepth 100000 in
set_option maxHeartbeats 800000 in
theorem exp_ready (b : Spt) (n k : Int) (w : World) (h : Ready w b n) :
    Calls Tryz.prog 195 #[.pointer (some ⟨b.blk, b.off, none⟩), .int .i64 k] w fun e w' =>
      e = .returned (.int .i64 (pw (trn k) : Nat)) ∧ Ready w' b n ∧ Upd noBlock w w' := by
  have HF := Lib.hid h
  clear h
  go_enter Tryz.func195, Tryz.ntmps195
  go_wp2_with (go_at_call 221; refine (prepare_ready b n _ HF.out).mono ?_; rintro e w1 ⟨rfl, HR0, HV0⟩; have HR := Lib.hid HR0; have HV := Lib.hid HV0; clear HR0 HV0)
  obtain ⟨pb, lb, hb, hp, hl⟩ := HR.out
  have c3 : w1.cell? ⟨b.blk, b.off + 3, none⟩ = some (.slice (some ⟨pb, 0, none⟩) 16382 16382) := hb.c3
  have ht := trn_lt k
  have p1 : w1.cell? ⟨pb, trn k, none⟩ = some (.int .i64 ((pw (trn k) : Nat) : Int)) := by
    have := hp.cell (i := trn k) (by omega)
    rw [this]
    unfold powRow
    rw [if_pos ht]
  have s1 : ((trn k : Nat) : Int) < 16382 := by omega
  have s2 : (0 : Int) ≤ ((trn k : Nat) : Int) := by omega
  clear hb hp hl
  go_quiet ((go_at_call 222; exact quiet_eq (turn_any k _)))
  go_wp2
  go_ret
  exact ⟨rfl, HR.out.drewN _, HV.out.drewN _⟩

set_option maxRecDepth 100000 in
set_option maxHeartbeats 800000 in
theorem log_ready (b : Spt) (n a : Int) (w : World) (h : Ready w b n) (ha : low a ≠ 0) :
    Calls Tryz.prog 224 #[.pointer (some ⟨b.blk, b.off, none⟩), .int .i64 a] w fun e w' =>
      e = .returned (.tuple #[.int .i64 (lg (low a) : Nat), .bool true]) ∧ Ready w' b n ∧ Upd noBlock w w' := by
  have HF := Lib.hid h
  have m1 : bits .and .i64 a 8191 = ((low a : Nat) : Int) := by rw [i64_8191, low_eq]
  have t1 : (((low a : Nat) : Int) == 0) = false := by simp; omega
  have hlow := low_lt a
  clear h
  go_enter Tryz.func224, Tryz.ntmps224
  go_wp2_with (go_at_call 221; refine (prepare_ready b n _ HF.out).mono ?_; rintro e w1 ⟨rfl, HR0, HV0⟩; have HR := Lib.hid HR0; have HV := Lib.hid HV0; clear HR0 HV0; obtain ⟨pb, lb, hb, hp, hl⟩ := HR.out; have c4 : w1.cell? ⟨b.blk, b.off + 4, none⟩ = some (.slice (some ⟨lb, 0, none⟩) 8192 8192) := hb.c4; have l1 : w1.cell? ⟨lb, low a, none⟩ = some (.int .i64 ((lg (low a) : Nat) : Int)) := hl.cell (i := low a) hlow; clear hb hp hl)
  go_ret2
  exact ⟨rfl, HR.out, HV.out⟩

set_option maxRecDepth 100000 in
set_option maxHeartbeats 800000 in
theorem pow_ready (b : Spt) (n a k : Int) (w : World) (h : Ready w b n) :
    Calls Tryz.prog 197 #[.pointer (some ⟨b.blk, b.off, none⟩), .int .i64 a, .int .i64 k] w fun e w' =>
      e = .returned (.int .i64 (powN (low a) k : Nat)) ∧ Ready w' b n ∧ Upd noBlock w w' := by
  have hnot : ∀ (x : Bool) (w : World), (Op.unary .not (.bool x)).run Tryz.prog w = .ok (.bool (!x)) w := fun _ _ => rfl
  by_cases hk : k = 0
  · subst hk
    have hv : powN (low a) 0 = 1 := by unfold powN; rfl
    rw [hv]
    have HF := Lib.hid h
    clear h hv
    go_enter Tryz.func197, Tryz.ntmps197
    go_wp2
    go_ret
    exact ⟨rfl, HF.out, Upd.refl _ _⟩
  · have t1 : (k == 0) = false := by simp [hk]
    by_cases ha : low a = 0
    · have hv : powN (low a) k = 0 := by unfold powN; rw [if_neg hk, if_pos ha]
      rw [hv]
      have HF := Lib.hid h
      have HA := Lib.hid ha
      clear h hv ha hk
      go_enter Tryz.func197, Tryz.ntmps197
      go_wp2_with (go_at_call 224; refine (log_no b a _ HA.out).mono ?_; rintro e w1 ⟨rfl, rfl⟩)
      go_ret
      exact ⟨rfl, HF.out, Upd.refl _ _⟩
    · have hv : powN (low a) k = pw (trn ((lg (low a) : Int) * (trn k : Nat))) := by unfold powN; rw [if_neg hk, if_neg ha]
      rw [hv]
      have HF := Lib.hid h
      have HA := Lib.hid ha
      have g1 := lg_lt (low a)
      have g2 := trn_lt k
      have g3 : (0 : Int) ≤ (lg (low a) : Int) * (trn k : Nat) := by exact_mod_cast Nat.zero_le _
      have g4 : (lg (low a) : Int) * (trn k : Nat) ≤ 67092481 := by
        have : lg (low a) * trn k ≤ 8191 * 8191 := Nat.mul_le_mul (Nat.le_of_lt g1) (Nat.le_of_lt g2)
        have e : (lg (low a) : Int) * (trn k : Nat) = ((lg (low a) * trn k : Nat) : Int) := by rw [Int.natCast_mul]
        rw [e]; omega
      have s1 : IntKind.i64.wrap ((lg (low a) : Int) * (trn k : Nat)) = (lg (low a) : Int) * (trn k : Nat) := IntWalk.i64_in _ (by omega)
      clear h hv ha hk
      go_enter Tryz.func197, Tryz.ntmps197
      go_wp2_with (go_at_call 224; refine (log_ready b n a _ HF.out HA.out).mono ?_; rintro e w1 ⟨rfl, HR0, HV0⟩; have HR := Lib.hid HR0; have HV := Lib.hid HV0; clear HR0 HV0)
      refine (turn_any k _).mono ?_
      rintro e w' ⟨rfl, rfl⟩
      go_wp2_with fail
      refine (exp_ready b n _ _ HR.out).mono ?_
      rintro e w2 ⟨rfl, HR2, HV2⟩
      have HR3 := Lib.hid HR2
      have HV3 := Lib.hid HV2
      clear HR2 HV2
      go_wp2
      go_ret
      exact ⟨rfl, HR3.out, HV.out.trans HV3.out⟩

set_option maxRecDepth 100000 in
set_option maxHeartbeats 1600000 in
theorem eval_ready (b : Spt) (n x : Int) (a : Option Addr) (len cap B : Nat) (xs : List Int) (w : World) (h : Ready w b n) (hr : Ints w B a len xs) (hB : B ≤ w.heap.size) (hm : len ≤ maxLen) :
    Calls Tryz.prog 223 #[.pointer (some ⟨b.blk, b.off, none⟩), .slice a len cap, .int .i64 x] w fun e w' =>
      e = .returned (.int .i64 (hor (low x) xs : Nat)) ∧ Ready w' b n ∧ Upd noBlock w w' := by
  have HF := Lib.hid h
  have m1 : bits .and .i64 x 8191 = ((low x : Nat) : Int) := by rw [i64_8191, low_eq]
  have hcap : len ≤ 9223372036854775807 := by unfold maxLen at hm; omega
  have hlen := hr.1
  have Hlen := Lib.hid hlen
  clear hm hlen
  clear h
  go_enter Tryz.func223, Tryz.ntmps223
  go_wp2_with (go_at_call 221; refine (prepare_ready b n _ HF.out).mono ?_; rintro e w1 ⟨rfl, HR0, HV0⟩; have HR := Lib.hid HR0; have HV := Lib.hid HV0; clear HR0 HV0)
  go_loopw [7, 8] (fun v i wr => ∃ k : Nat, k ≤ len ∧ i = .int .i64 ((k : Int) - 1) ∧ v = .int .i64 ((hor (low x) (xs.drop k) : Nat) : Int) ∧ Hid (Ready wr b n) ∧ Hid (Upd noBlock w wr)) (fun _ i _ => (intOf i + 1).toNat)
  case atStart => 
    refine ⟨len, Nat.le_refl _, rfl, ?_, HR, HV⟩
    rw [List.drop_of_length_le (by have := Hlen.out; omega)]; rfl
  case round =>
    clear HR HV
    obtain ⟨k, hk, rfl, rfl, HR, HV⟩ := hrel
    by_cases h0 : 0 < k
    · obtain ⟨i, rfl⟩ : ∃ i, k = i + 1 := ⟨k - 1, by omega⟩
      obtain ⟨g, off, rfl, hg, hcell⟩ := hr.cell (by omega)
      have hs := hor_step (low x) xs i (by have := Hlen.out; omega)
      have c1 : wr.cell? ⟨g, off + i, none⟩ = some (.int .i64 (xs.getD i 0)) := (World.cell?_of_block (HV.out.block g (by omega) (fun h => h))).trans (hcell i (by omega))
      have m2 : bits .and .i64 (xs.getD i 0) 8191 = ((low (xs.getD i 0) : Nat) : Int) := by rw [i64_8191, low_eq]
      have hh := hor_lt (low x) (xs.drop (i + 1))
      have hx := low_lt x
      have m3 : bits .xor .i64 ((mul (hor (low x) (xs.drop (i + 1))) (low x) : Nat) : Int) ((low (xs.getD i 0) : Nat) : Int) = ((hor (low x) (xs.drop i) : Nat) : Int) := by
        rw [i64_xor_nat _ _ (by have := mul_lt _ (low x) hh; omega) (by have := low_lt (xs.getD i 0); omega), hs]
      have e1 : ((i + 1 : Nat) : Int) - 1 = (i : Int) := by omega
      rw [e1]
      clear hcell hs hr
      generalize xs.getD i 0 = z at c1 m2 m3
      go_wp2
      go_quiet ((go_at_call 249; exact Calls.quiet_of (product_any b _ _ n _ (HR.out.drewN _) hh hx)))
      go_wp2
      go_roundw
      case rel => exact ⟨i, by omega, rfl, rfl, HR.out.drewN _, HV.out.drewN _⟩
      case measure => simp [intOf]
    · obtain rfl : k = 0 := by omega
      have e1 : ((0 : Nat) : Int) - 1 = -1 := by omega
      rw [e1]
      go_wp2
      go_ret
      exact ⟨rfl, HR.out, HV.out⟩

end Go.Proofs.YtoledgpcgjdjjaaGreatDoor

/- Walks over package gf: the double; the tables, as the once's function lays them; Walks over package gf: the once, and prepare; Walks over package gf: prepare, product, and the calls; Walks over package gf: Inv, Pow, Eval; Walks over package gf: Eval; Walks over package gf where the tables are there: nothing that lay there is written; Walks over the document's own answers for layer 1; Walks over the document's own answers for layer 1: Exp, Eval. And how they agree with the calls. -/
namespace Go.Proofs.YtoledgpcgjdjjaaGreatDoor.Doc
open Go.RowKit Gfm

set_option maxRecDepth 100000 in
set_option maxHeartbeats 400000 in
theorem double_any (a : Nat) (w : World) (ha : a < 8192) :
    Calls Tryz.prog 248 #[.int .i64 (a : Int)] w fun e w' => e = .returned (.int .i64 (dbl a : Nat)) ∧ w = w' := by
  by_cases h : 2 * a ≥ 8192
  · have hx : bits .xor .i64 ((a : Int) * 2) 8219 = ((dbl a : Nat) : Int) := by
      have := i64_xor_nat (2 * a) 8219 (by omega) (by omega)
      unfold dbl
      rw [if_pos h, ← this, Int.mul_comm]
      rfl
    have Hx := Lib.hid hx
    clear hx
    go_enter Tryz.func248, Tryz.ntmps248
    go_wp2
    go_ret
    exact ⟨congrArg (fun x => Ending.returned (.int .i64 x)) Hx.out, rfl⟩
  · have hx : (a : Int) * 2 = ((dbl a : Nat) : Int) := by
      unfold dbl
      rw [if_neg h]; omega
    have Hx := Lib.hid hx
    clear hx
    go_enter Tryz.func248, Tryz.ntmps248
    go_wp2
    go_ret
    exact ⟨congrArg (fun x => Ending.returned (.int .i64 x)) Hx.out, rfl⟩

theorem intCells : (Tryz.prog.info? 3).map (fun i => (i.zero, i.size, i.bytes)) = some (some (.int .i64 0), 1, 8) := by kernel_rfl

def powRow (k : Nat) (i : Nat) : Value := .int .i64 ((if i < k then pw i else if 8191 ≤ i ∧ i < 8191 + k then pw i else 0 : Nat) : Int)
def logRow (k : Nat) (a : Nat) : Value := .int .i64 ((lgk k a : Nat) : Int)

theorem powRow_succ (k : Nat) (hk : k < 8191) (i : Nat) : powRow (k + 1) i = if i = k + 8191 then .int .i64 ((pw k : Nat) : Int) else if i = k then .int .i64 ((pw k : Nat) : Int) else powRow k i := by
  unfold powRow
  by_cases h1 : i = k + 8191
  · subst h1
    rw [if_pos rfl, if_neg (by omega), if_pos (by omega), pw_add]
  · by_cases h2 : i = k
    · subst h2
      rw [if_neg h1, if_pos rfl, if_pos (by omega)]
    · rw [if_neg h1, if_neg h2]
      have e1 : i < k + 1 ↔ i < k := by omega
      have e2 : (8191 ≤ i ∧ i < 8191 + (k + 1)) ↔ (8191 ≤ i ∧ i < 8191 + k) := by omega
      simp only [e1, e2]
theorem logRow_succ (k a : Nat) : logRow (k + 1) a = if a = pw k then .int .i64 (k : Int) else logRow k a := by
  unfold logRow
  rw [lgk]
  by_cases h : a = pw k
  · subst h; rw [if_pos rfl, if_pos rfl]
  · rw [if_neg (fun e => h e.symm), if_neg h]

def Round (b pb lb k : Nat) (d s m n : Value) (w wr : World) : Prop :=
  k ≤ 8191 ∧ wr.heap[b]? = some (.cells #[d, s, m, .slice (some ⟨pb, 0, none⟩) 16382 16382, .slice (some ⟨lb, 0, none⟩) 8192 8192, n] 172 (0, 0)) ∧
    wr.rowIs pb 3 16382 (powRow k) ∧ wr.rowIs lb 3 8192 (logRow k) ∧ Upd (oneBlock b) w wr
theorem Round.step {b pb lb k : Nat} {d s m n : Value} {w wr : World} (h : Round b pb lb k d s m n w wr) (hk : k < 8191) (h1 : w.heap.size ≤ pb) (h2 : w.heap.size ≤ lb) (h3 : ¬ pb = lb) (h4 : b < w.heap.size) :
    Round b pb lb (k + 1) d s m n w (((wr.setCell ⟨pb, k, none⟩ (.int .i64 ((pw k : Nat) : Int))).setCell ⟨pb, k + 8191, none⟩ (.int .i64 ((pw k : Nat) : Int))).setCell ⟨lb, pw k, none⟩ (.int .i64 (k : Int))) := by
  obtain ⟨_, hb, hp, hl, hu⟩ := h
  refine ⟨hk, ?_, ?_, ?_, ?_⟩
  · exact block_set_other (block_set_other (block_set_other hb (by simp; omega) _) (by simp; omega) _) (by simp; omega) _
  · exact (((hp.set k _).set (k + 8191) _).setOther (by simp; omega) _).congr fun i _ => (powRow_succ k hk i).symm
  · exact (((hl.setOther (by simp; omega) _).setOther (by simp; omega) _).set (pw k) _).congr fun i _ => (logRow_succ k i).symm
  · exact ((hu.setCell (.inr h1) _).setCell (.inr h1) _).setCell (.inr h2) _

theorem Round.drew {b pb lb k : Nat} {d s m n : Value} {w wr : World} (h : Round b pb lb k d s m n w wr) : Round b pb lb k d s m n w wr.drew :=
  ⟨h.1, h.2.1, h.2.2.1.drew, h.2.2.2.1.drew, h.2.2.2.2.drew⟩
theorem round_start (b : Nat) (d s m p l n : Value) (w : World) (hb : w.heap[b]? = some (.cells #[d, s, m, p, l, n] 172 (0, 0)))
    (O1 O2 : Obj) (e1 : O1 = .cells (madeCells #[.int .i64 0] 16382) 3) (e2 : O2 = .cells (madeCells #[.int .i64 0] 8192) 3) :
    Round b w.heap.size (w.heap.size + 1) 0 d s m n w ((((w.setCell ⟨b, 3, none⟩ (.slice (some ⟨w.heap.size, 0, none⟩) 16382 16382)).setCell ⟨b, 4, none⟩ (.slice (some ⟨w.heap.size + 1, 0, none⟩) 8192 8192)).alloc O1).alloc O2).drew.drew := by
  obtain ⟨w2, hw2⟩ : ∃ w2, w2 = (w.setCell ⟨b, 3, none⟩ (.slice (some ⟨w.heap.size, 0, none⟩) 16382 16382)).setCell ⟨b, 4, none⟩ (.slice (some ⟨w.heap.size + 1, 0, none⟩) 8192 8192) := ⟨_, rfl⟩
  have hz : w2.heap.size = w.heap.size := by rw [hw2]; simp
  have h2 : w2.heap[b]? = some (.cells #[d, s, m, .slice (some ⟨w.heap.size, 0, none⟩) 16382 16382, .slice (some ⟨w.heap.size + 1, 0, none⟩) 8192 8192, n] 172 (0, 0)) := by
    rw [hw2]; exact block_set (block_set hb _) _
  have hu : Upd (oneBlock b) w w2 := by
    rw [hw2]; exact ((Upd.refl (oneBlock b) w).setCell (p := ⟨b, 3, none⟩) (.inl rfl) _).setCell (p := ⟨b, 4, none⟩) (.inl rfl) _
  rw [← hw2]
  subst e1 e2
  refine ⟨by omega, block_alloc (block_alloc h2 _) _, ?_, ?_, ((hu.alloc _).alloc _).drew.drew⟩
  · refine World.rowIs.congr (f := fun _ => .int .i64 0) ?_ (fun i _ => by unfold powRow; rw [if_neg (by omega), if_neg (by omega)]; rfl)
    refine World.rowIs.drew (World.rowIs.drew (World.rowIs.alloc ?_ _))
    have := World.rowIs_made w2 (.int .i64 0) 16382 3
    rw [hz] at this
    exact this
  · refine World.rowIs.congr (f := fun _ => .int .i64 0) ?_ (fun i _ => by unfold logRow; rfl)
    refine World.rowIs.drew (World.rowIs.drew ?_)
    have := World.rowIs_made (w2.alloc (.cells (madeCells #[.int .i64 0] 16382) 3)) (.int .i64 0) 8192 3
    rw [World.size_alloc, hz] at this
    exact this

def Filled (b : Nat) (d s m n : Value) (w w' : World) : Prop :=
  ∃ pb lb, w.heap.size ≤ pb ∧ w.heap.size ≤ lb ∧ ¬ pb = lb ∧
    w'.heap[b]? = some (.cells #[d, s, m, .slice (some ⟨pb, 0, none⟩) 16382 16382, .slice (some ⟨lb, 0, none⟩) 8192 8192, n] 172 (0, 0)) ∧
    w'.rowIs pb 3 16382 (powRow 8191) ∧ w'.rowIs lb 3 8192 (logRow 8191) ∧ Upd (oneBlock b) w w'

set_option maxRecDepth 100000 in
set_option maxHeartbeats 1600000 in
theorem fill_any (b pl : Nat) (d s m p l n : Value) (w : World) (hpl : ¬ pl = b) (hp : w.cell? ⟨pl, 0, none⟩ = some (.pointer (some ⟨b, 0, none⟩)))
    (hb : w.heap[b]? = some (.cells #[d, s, m, p, l, n] 172 (0, 0))) :
    Calls Tryz.prog 247 #[.pointer (some ⟨pl, 0, none⟩)] w fun e w' => e = .returned (.tuple #[]) ∧ Filled b d s m n w w' := by
  have h3 : w.cell? ⟨b, 3, none⟩ = some p := cell_of hb 3
  have h4 : w.cell? ⟨b, 4, none⟩ = some l := cell_of hb 4
  have f3 : w.frozen? ⟨b, 3, none⟩ = false := free_of hb 3
  have f4 : w.frozen? ⟨b, 4, none⟩ = false := free_of hb 4
  have hbs : b < w.heap.size := lt_of_block hb
  have hpls : pl < w.heap.size := World.block_lt_of_cell? w _ hp
  obtain ⟨O1, HO1, hm1⟩ : ∃ O : Obj, Hid (O = .cells (madeCells #[.int .i64 0] 16382) 3) ∧ ∀ w : World, (Instr.makeSlice 57 (.int .i64 16382) (.int .i64 16382)).run Tryz.prog w = .ok (.slice (some ⟨w.heap.size, 0, none⟩) 16382 16382) (w.alloc O) :=
    ⟨_, rfl, run_make_row' (P := Tryz.prog) 57 3 (.int .i64 0) 8 Tryz.underlying57 intCells rfl .i64 .i64 16382 (by omega) (by omega)⟩
  obtain ⟨O2, HO2, hm2⟩ : ∃ O : Obj, Hid (O = .cells (madeCells #[.int .i64 0] 8192) 3) ∧ ∀ w : World, (Instr.makeSlice 57 (.int .i64 8192) (.int .i64 8192)).run Tryz.prog w = .ok (.slice (some ⟨w.heap.size, 0, none⟩) 8192 8192) (w.alloc O) :=
    ⟨_, rfl, run_make_row' (P := Tryz.prog) 57 3 (.int .i64 0) 8 Tryz.underlying57 intCells rfl .i64 .i64 8192 (by omega) (by omega)⟩
  have HB := Lib.hid hb
  clear hb
  go_enter Tryz.func247, Tryz.ntmps247
  go_wp2
  go_region
  all_goals go_wp2
  all_goals go_region
  all_goals go_wp2
  have HST := Lib.hid (round_start b d s m p l n w HB.out O1 O2 HO1.out HO2.out)
  clear HO1 HO2 HB h3 h4 f3 f4 hm1 hm2
  obtain ⟨pb, Hpb⟩ : ∃ pb, Hid (w.heap.size = pb) := ⟨_, rfl⟩
  go_loopw [1, 11] (fun el n' wr => ∃ k : Nat, k ≤ 8191 ∧ n' = .int .i64 k ∧ el = .int .i64 ((pw k : Nat) : Int) ∧ Hid (Round b w.heap.size (w.heap.size + 1) k d s m n w wr)) (fun _ n' _ => 8191 - (intOf n').toNat)
  case atStart => exact ⟨0, by omega, rfl, rfl, HST⟩
  case round =>
    clear HST
    obtain ⟨k, hk8, rfl, rfl, HR⟩ := hrel
    clear Hpb pb
    have hpb1 : b < w.heap.size + 1 := by omega
    by_cases hk : k < 8191
    · have hR := HR.out
      have HS := Lib.hid (hR.step hk (Nat.le_refl _) (Nat.le_succ _) (by omega) hbs)
      obtain ⟨_, hb, hp', hl', hu⟩ := hR
      have c0 : wr.cell? ⟨pl, 0, none⟩ = some (.pointer (some ⟨b, 0, none⟩)) := (World.cell?_of_block (hu.block pl hpls hpl)).trans hp
      have c3 : wr.cell? ⟨b, 3, none⟩ = some (.slice (some ⟨w.heap.size, 0, none⟩) 16382 16382) := cell_of hb 3
      have c4 : wr.cell? ⟨b, 4, none⟩ = some (.slice (some ⟨w.heap.size + 1, 0, none⟩) 8192 8192) := cell_of hb 4
      have p1 := hp'.cell (i := k) (by omega)
      have p2 := hp'.cell (i := k + 8191) (by omega)
      have g1 := hp'.frozen k
      have g2 := hp'.frozen (k + 8191)
      have hpw := pw_lt k
      have l1 := hl'.cell (i := pw k) hpw
      have g3 := hl'.frozen (pw k)
      have n1 : ¬ b = w.heap.size := by omega
      have n2 : ¬ b = w.heap.size + 1 := by omega
      have n3 : ¬ w.heap.size = b := by omega
      have n4 : ¬ w.heap.size + 1 = b := by omega
      have n5 : ¬ pl = w.heap.size := by omega
      have n6 : ¬ pl = w.heap.size + 1 := by omega
      have n7 : ¬ w.heap.size = pl := by omega
      have n8 : ¬ w.heap.size + 1 = pl := by omega
      clear hb hp' hl' hu hp
      go_wp2
      go_region
      go_wp2_with (go_at_call 248; refine (double_any (pw k) _ hpw).mono ?_; rintro e w' ⟨rfl, rfl⟩)
      go_roundw
      case rel => exact ⟨k + 1, by omega, by go_num, rfl, HS.out.drew⟩
      case measure => simp [intOf]; omega
    · obtain rfl : k = 8191 := by omega
      clear hk
      go_wp2
      go_end0
      obtain ⟨_, r1, r2, r3, r4⟩ := HR.out
      exact ⟨rfl, w.heap.size, w.heap.size + 1, Nat.le_refl _, Nat.le_succ _, by omega, r1, r2, r3, r4⟩
end Go.Proofs.YtoledgpcgjdjjaaGreatDoor.Doc
namespace Go.Proofs.YtoledgpcgjdjjaaGreatDoor.Doc
open Go.RowKit Gfm

theorem disable (w : World) : (callFunc 239 #[]).run Tryz.prog w = .ok (.value (.tuple #[])) w := run_call_mark0 Tryz.func239 (by kernel_rfl) (by kernel_rfl) (by kernel_rfl) .disable (by kernel_rfl) w
theorem enable (w : World) : (callFunc 241 #[]).run Tryz.prog w = .ok (.value (.tuple #[])) w := run_call_mark0 Tryz.func241 (by kernel_rfl) (by kernel_rfl) (by kernel_rfl) .enable (by kernel_rfl) w
theorem acquire (a : Addr) (w : World) : (callFunc 242 #[.pointer (some a)]).run Tryz.prog w = .ok (.value (.tuple #[])) w := run_call_marked Tryz.func242 (by kernel_rfl) (by kernel_rfl) (by kernel_rfl) .acquire (by kernel_rfl) a w
theorem releaseMerge (a : Addr) (w : World) : (callFunc 244 #[.pointer (some a)]).run Tryz.prog w = .ok (.value (.tuple #[])) w := run_call_marked Tryz.func244 (by kernel_rfl) (by kernel_rfl) (by kernel_rfl) .releaseMerge (by kernel_rfl) a w

theorem store_deferred (a : Addr) (x : Value) (u : FrameMode) (w : World) (hc : w.cell? a = some x) (hz : w.frozen? a = false) :
    CallsD Tryz.prog 191 #[.pointer (some a), .bool true] u w fun e u' w' => u' = u ∧ (e = .returned (.tuple #[]) ∧ w' = w.drew.setCell a (.int .u32 1)) := by
  have hc' : w.drew.cell? a = some x := by go_simp
  have hz' : w.drew.frozen? a = false := by go_simp
  have hst := run_call_store (P := Tryz.prog) Tryz.func219 (by kernel_rfl) (by kernel_rfl) (by kernel_rfl) (by kernel_rfl) (k := .u32) (y := 1) hc' hz'
  go_enter_d Tryz.func191, Tryz.ntmps191
  go_wp2
  go_region_calls
  all_goals (go_end0; exact ⟨rfl, rfl⟩)

set_option maxRecDepth 100000 in
set_option maxHeartbeats 800000 in
theorem unlock_deferred (a : Addr) (u : FrameMode) (w : World) (hc : w.cell? a = some (.int .i32 1)) (hz : w.frozen? a = false) :
    CallsD Tryz.prog 190 #[.pointer (some a)] u w fun e u' w' => u' = u ∧ (e = .returned (.tuple #[]) ∧ w' = w.setCell a (.int .i32 0)) := by
  have hd := disable
  have he := enable
  have hr := releaseMerge
  have hadd := run_call_add (P := Tryz.prog) Tryz.func245 (by kernel_rfl) (by kernel_rfl) (by kernel_rfl) .i32 (by kernel_rfl) (y := -1) (s := 0) hc hz (by simp [go_sem]; rfl)
  have hcv := run_convert_to_unsafe (P := Tryz.prog) (src := 315) (dst := 296) Tryz.underlying315 Tryz.underlying296 (by kernel_rfl) hc
  go_enter_d Tryz.func190, Tryz.ntmps190
  go_wp2
  go_end0
  go_wp2
  go_end0
  exact ⟨rfl, rfl⟩

set_option maxRecDepth 100000 in
set_option maxHeartbeats 800000 in
theorem lock_free (a : Addr) (w : World) (hc : w.cell? a = some (.int .i32 0)) (hz : w.frozen? a = false) :
    Calls Tryz.prog 189 #[.pointer (some a)] w fun e w' => e = .returned (.tuple #[]) ∧ w' = w.setCell a (.int .i32 1) := by
  have hd := disable
  have he := enable
  have ha := acquire
  have hcas := run_call_cas_hit (P := Tryz.prog) Tryz.func240 (by kernel_rfl) (by kernel_rfl) (by kernel_rfl) .i32 (by kernel_rfl) (y := 1) hc hz
  have hc' : (w.setCell a (.int .i32 1)).cell? a = some (.int .i32 1) := World.cell?_setCell_same w a _ hc
  have hcv := run_convert_to_unsafe (P := Tryz.prog) (src := 315) (dst := 296) Tryz.underlying315 Tryz.underlying296 (by kernel_rfl) hc'
  go_enter Tryz.func189, Tryz.ntmps189
  go_wp2
  first | go_end0 | (simp only [Exit.inBlock, Exit.then]; refine bodyPost_ret (results_none rfl _ _ _) rfl ?_) | refine bodyPost_ret (results_none rfl _ _ _) rfl ?_
  go_wp2
  go_end0
  exact ⟨rfl, rfl⟩

theorem Filled.close {b : Nat} {s n : Value} {w w1 : World} (h : Filled b (.int .u32 0) (.int .i32 1) s n (w.setCell ⟨b, 1, none⟩ (.int .i32 1)) w1) (hb : b < w.heap.size) :
    Filled b (.int .u32 1) (.int .i32 0) s n w ((w1.drew.setCell ⟨b, 0, none⟩ (.int .u32 1)).setCell ⟨b, 1, none⟩ (.int .i32 0)) := by
  obtain ⟨pb, lb, h1, h2, h3, hh, hp, hl, hu⟩ := h
  have hz : (w.setCell ⟨b, 1, none⟩ (.int .i32 1)).heap.size = w.heap.size := by simp
  rw [hz] at h1 h2
  refine ⟨pb, lb, h1, h2, h3, ?_, ?_, ?_, ?_⟩
  · exact block_set (block_set (w := w1.drew) hh _) _
  · exact (hp.drew.setOther (by simp; omega) _).setOther (by simp; omega) _
  · exact (hl.drew.setOther (by simp; omega) _).setOther (by simp; omega) _
  · have h0 : Upd (oneBlock b) w (w.setCell ⟨b, 1, none⟩ (.int .i32 1)) := (Upd.refl (oneBlock b) w).setCell (p := ⟨b, 1, none⟩) (.inl rfl) _
    exact ((h0.trans hu).drew.setCell (p := ⟨b, 0, none⟩) (.inl rfl) _).setCell (p := ⟨b, 1, none⟩) (.inl rfl) _

set_option maxRecDepth 100000 in
set_option maxHeartbeats 1600000 in
theorem slow_any (b pl : Nat) (s p l n : Value) (w : World) (hpl : ¬ pl = b) (hp : w.cell? ⟨pl, 0, none⟩ = some (.pointer (some ⟨b, 0, none⟩)))
    (hb : w.heap[b]? = some (.cells #[.int .u32 0, .int .i32 0, s, p, l, n] 172 (0, 0))) :
    Calls Tryz.prog 144 #[.pointer (some ⟨b, 0, none⟩), .func (.func 247) #[] #[.pointer (some ⟨pl, 0, none⟩)]] w fun e w' => e = .returned (.tuple #[]) ∧ Filled b (.int .u32 1) (.int .i32 0) s n w w' := by
  have h0 : w.cell? ⟨b, 0, none⟩ = some (.int .u32 0) := cell_of hb 0
  have h1 : w.cell? ⟨b, 1, none⟩ = some (.int .i32 0) := cell_of hb 1
  have f1 : w.frozen? ⟨b, 1, none⟩ = false := free_of hb 1
  have hbs : b < w.heap.size := lt_of_block hb
  have hl := run_call_load (P := Tryz.prog) Tryz.func188 (by kernel_rfl) (by kernel_rfl) (by kernel_rfl) .u32 (by kernel_rfl) (w := w.setCell ⟨b, 1, none⟩ (.int .i32 1)) (a := ⟨b, 0, none⟩) (x := 0) ((World.cell?_setCell_other _ ⟨b, 1, none⟩ ⟨b, 0, none⟩ _ (by simp)).trans h0)
  have hp1 : (w.setCell ⟨b, 1, none⟩ (.int .i32 1)).cell? ⟨pl, 0, none⟩ = some (.pointer (some ⟨b, 0, none⟩)) := (World.cell?_setCell_other _ ⟨b, 1, none⟩ ⟨pl, 0, none⟩ _ (fun h => hpl (by injection h with h; exact h.symm))).trans hp
  have hb1 : (w.setCell ⟨b, 1, none⟩ (.int .i32 1)).heap[b]? = some (.cells #[.int .u32 0, .int .i32 1, s, p, l, n] 172 (0, 0)) := block_set hb _
  have HB1 := Lib.hid hb1
  have HP1 := Lib.hid hp1
  have hnot : ∀ (x : Bool) (w : World), (Op.unary .not (.bool x)).run Tryz.prog w = .ok (.bool (!x)) w := fun _ _ => rfl
  clear hb hb1 hp hp1
  go_enter_defers Tryz.func144, Tryz.ntmps144
  go_wp2_with (first | (go_at_call 189; refine (lock_free ⟨b, 1, none⟩ _ (by go_simp) (by go_simp)).mono ?_; rintro e w' ⟨rfl, rfl⟩) | (go_at_call 143; go_in))
  refine (fill_any b pl _ _ _ _ _ _ _ hpl HP1.out HB1.out).mono ?_
  rintro e w1 ⟨rfl, HF⟩
  clear hl
  go_wp2
  have HG := HF.close hbs
  obtain ⟨pb, lb, _, _, _, hh, _, _, _⟩ := HF
  have HH := Lib.hid hh
  clear hh
  refine leaves_cons (f := 191) (args := #[.pointer (some ⟨b, 0, none⟩), .bool true]) (by simp) (by simp [go_sem]) ?_
  refine (store_deferred ⟨b, 0, none⟩ (.int .u32 0) .returning _ (cell_of HH.out 0) (free_of HH.out 0)).mono ?_
  rintro e u' w'' ⟨rfl, rfl, rfl⟩
  refine leaves_cons (f := 190) (args := #[.pointer (some ⟨b, 1, none⟩)]) (by simp [settle]) (by simp [go_sem]) ?_
  have hh2 := block_set (w := w1.drew) (i := 0) HH.out (.int .u32 1)
  refine (unlock_deferred ⟨b, 1, none⟩ _ _ (cell_of hh2 1) (free_of hh2 1)).mono ?_
  rintro e u' w'' ⟨rfl, rfl, rfl⟩
  simp [Leaves, settle, results, Tryz.results144]
  exact HG
set_option maxRecDepth 100000 in
set_option maxHeartbeats 1600000 in
theorem do_first (b pl : Nat) (s p l n : Value) (w : World) (hpl : ¬ pl = b) (hp : w.cell? ⟨pl, 0, none⟩ = some (.pointer (some ⟨b, 0, none⟩)))
    (hb : w.heap[b]? = some (.cells #[.int .u32 0, .int .i32 0, s, p, l, n] 172 (0, 0))) :
    Calls Tryz.prog 109 #[.pointer (some ⟨b, 0, none⟩), .func (.func 247) #[] #[.pointer (some ⟨pl, 0, none⟩)]] w fun e w' => e = .returned (.tuple #[]) ∧ Filled b (.int .u32 1) (.int .i32 0) s n w w' := by
  have h0 : w.cell? ⟨b, 0, none⟩ = some (.int .u32 0) := cell_of hb 0
  have hl := run_call_load (P := Tryz.prog) Tryz.func188 (by kernel_rfl) (by kernel_rfl) (by kernel_rfl) .u32 (by kernel_rfl) h0
  have hnot : ∀ (x : Bool) (w : World), (Op.unary .not (.bool x)).run Tryz.prog w = .ok (.bool (!x)) w := fun _ _ => rfl
  have HB := Lib.hid hb
  have HP := Lib.hid hp
  clear hb hp
  go_enter Tryz.func109, Tryz.ntmps109
  go_wp2_with (first | (go_at_call 144; refine (slow_any b pl _ _ _ _ _ hpl HP.out HB.out).mono ?_; rintro e w' ⟨rfl, HF⟩) | (go_at_call 143; go_in))
  go_end0
  exact ⟨rfl, HF⟩

set_option maxRecDepth 100000 in
set_option maxHeartbeats 800000 in
theorem do_done (a : Addr) (fv : Value) (w : World) (h0 : w.cell? a = some (.int .u32 1)) :
    Calls Tryz.prog 109 #[.pointer (some a), fv] w fun e w' => e = .returned (.tuple #[]) ∧ w = w' := by
  have hl := run_call_load (P := Tryz.prog) Tryz.func188 (by kernel_rfl) (by kernel_rfl) (by kernel_rfl) .u32 (by kernel_rfl) h0
  have hnot : ∀ (x : Bool) (w : World), (Op.unary .not (.bool x)).run Tryz.prog w = .ok (.bool (!x)) w := fun _ _ => rfl
  go_enter Tryz.func109, Tryz.ntmps109
  go_wp2
  go_end0
  exact ⟨rfl, rfl⟩

/-! ### a field in memory -/
def Fresh (w : World) (b : Nat) (n : Int) : Prop :=
  w.heap[b]? = some (.cells #[.int .u32 0, .int .i32 0, .int .u32 0, .slice none 0 0, .slice none 0 0, .int .i64 n] 172 (0, 0))
def Ready (w : World) (b : Nat) (n : Int) : Prop :=
  ∃ pb lb, w.heap[b]? = some (.cells #[.int .u32 1, .int .i32 0, .int .u32 0, .slice (some ⟨pb, 0, none⟩) 16382 16382, .slice (some ⟨lb, 0, none⟩) 8192 8192, .int .i64 n] 172 (0, 0)) ∧
    w.rowIs pb 3 16382 (powRow 8191) ∧ w.rowIs lb 3 8192 (logRow 8191)
def Fld (w : World) (b : Nat) (n : Int) : Prop := Fresh w b n ∨ Ready w b n

theorem Ready.fld {w : World} {b : Nat} {n : Int} (h : Ready w b n) : Fld w b n := .inr h
theorem Fld.block {w : World} {b : Nat} {n : Int} (h : Fld w b n) : ∃ c, w.heap[b]? = some (.cells c 172 (0, 0)) := by
  rcases h with h | ⟨_, _, h, _⟩
  · exact ⟨_, h⟩
  · exact ⟨_, h⟩
theorem Fld.lt {w : World} {b : Nat} {n : Int} (h : Fld w b n) : b < w.heap.size := by
  obtain ⟨c, hc⟩ := h.block; exact lt_of_block hc
theorem rowIs_ne {w : World} {b pb k : Nat} {f : Nat → Value} (h : w.rowIs pb 3 k f) {c : Array Value} (hb : w.heap[b]? = some (.cells c 172 (0, 0))) : ¬ pb = b := by
  rintro rfl
  obtain ⟨c', h', _⟩ := h
  rw [h'] at hb
  simp at hb
theorem Ready.keep {w w' : World} {b : Nat} {n : Int} (h : Ready w b n) {R : Nat → Prop} (hu : Upd R w w') (hR : ∀ k, k < w.heap.size → R k → k ≠ b ∧ ∃ c, w.heap[k]? = some (.cells c 172 (0, 0))) : Ready w' b n := by
  obtain ⟨pb, lb, hb, hp, hl⟩ := h
  refine ⟨pb, lb, hu.cells hb ?_, hp.of_block (hu.block _ hp.lt ?_), hl.of_block (hu.block _ hl.lt ?_)⟩
  · intro hr; exact (hR b (lt_of_block hb) hr).1 rfl
  · intro hr
    obtain ⟨_, c, hc⟩ := hR pb hp.lt hr
    exact rowIs_ne hp hc rfl
  · intro hr
    obtain ⟨_, c, hc⟩ := hR lb hl.lt hr
    exact rowIs_ne hl hc rfl
theorem Fld.keep {w w' : World} {b : Nat} {n : Int} (h : Fld w b n) {R : Nat → Prop} (hu : Upd R w w') (hR : ∀ k, k < w.heap.size → R k → k ≠ b ∧ ∃ c, w.heap[k]? = some (.cells c 172 (0, 0))) : Fld w' b n := by
  rcases h with h | h
  · exact .inl (hu.cells h (fun hr => (hR b (lt_of_block h) hr).1 rfl))
  · exact .inr (h.keep hu hR)
theorem Fld.other {w w' : World} {b b' : Nat} {n n' : Int} (h : Fld w b n) (h' : Fld w b' n') (hne : b ≠ b') (hu : Upd (oneBlock b') w w') : Fld w' b n :=
  h.keep hu (fun k _ hk => by
    have e : k = b' := hk
    subst e
    exact ⟨fun e => hne e.symm, h'.block⟩)
theorem Fld.alloc {w : World} {b : Nat} {n : Int} (h : Fld w b n) (o : Obj) : Fld (w.alloc o) b n :=
  h.keep ((Upd.refl noBlock w).alloc o) (fun _ _ hk => hk.elim)
theorem Fld.grow {w w' : World} {b : Nat} {n : Int} (h : Fld w b n) (hu : Upd noBlock w w') : Fld w' b n :=
  h.keep hu (fun _ _ hk => hk.elim)

end Go.Proofs.YtoledgpcgjdjjaaGreatDoor.Doc
namespace Go.Proofs.YtoledgpcgjdjjaaGreatDoor.Doc
open Go.RowKit Gfm

set_option maxRecDepth 100000 in
set_option maxHeartbeats 800000 in
theorem prepare_any (b : Nat) (n : Int) (w : World) (h : Fld w b n) :
    Calls Tryz.prog 221 #[.pointer (some ⟨b, 0, none⟩)] w fun e w' => e = .returned (.tuple #[]) ∧ Ready w' b n ∧ Upd (oneBlock b) w w' := by
  have hbs := h.lt
  have hmf : ∀ (fn : Fn) (first cap : Array Value) (w : World), (Instr.makeFunc fn first cap).run Tryz.prog w = .ok (.func fn first cap) w := fun _ _ _ _ => rfl
  have hne : ¬ w.heap.size = b := by omega
  rcases h with h | h
  · have HB := Lib.hid (block_alloc h (.cells #[.pointer (some ⟨b, 0, none⟩)] 203))
    clear h
    go_enter Tryz.func221, Tryz.ntmps221
    go_wp2_with (go_at_call 109; refine (do_first b _ _ _ _ _ _ hne (by simp) HB.out).mono ?_; rintro e w' ⟨rfl, HF⟩)
    go_end0
    obtain ⟨pb, lb, g1, g2, g3, hh, hp, hl, hu⟩ := HF
    exact ⟨rfl, ⟨pb, lb, hh, hp, hl⟩, ((Upd.refl (oneBlock b) w).alloc _).trans hu⟩
  · obtain ⟨pb, lb, hb, hp, hl⟩ := h
    have HB := Lib.hid (block_alloc hb (.cells #[.pointer (some ⟨b, 0, none⟩)] 203))
    have HR : Hid (Ready (w.alloc (.cells #[.pointer (some ⟨b, 0, none⟩)] 203)) b n) := Ready.keep ⟨pb, lb, hb, hp, hl⟩ ((Upd.refl noBlock w).alloc _) (fun _ _ hk => hk.elim)
    clear hb hp hl
    go_enter Tryz.func221, Tryz.ntmps221
    go_wp2_with (go_at_call 109; refine (do_done ⟨b, 0, none⟩ _ _ (cell_of HB.out 0)).mono ?_; rintro e w' ⟨rfl, rfl⟩)
    go_end0
    exact ⟨rfl, HR.out, (Upd.refl (oneBlock b) w).alloc _⟩

def prodN (a c : Nat) : Nat := if a = 0 ∨ c = 0 then 0 else pw (lg a + lg c)
theorem prodN_eq (a c : Nat) (ha : a < 8192) (hc : c < 8192) : prodN a c = mul a c := by
  unfold prodN
  by_cases h : a = 0 ∨ c = 0
  · rw [if_pos h]
    rcases h with rfl | rfl
    · rw [zero_mul]
    · rw [mul_zero]
  · rw [if_neg h, prod_eq _ _ (by omega) (by omega) ha hc]

set_option maxRecDepth 100000 in
set_option maxHeartbeats 800000 in
theorem product_any (b a c : Nat) (n : Int) (w : World) (h : Ready w b n) (ha : a < 8192) (hc : c < 8192) :
    Calls Tryz.prog 249 #[.pointer (some ⟨b, 0, none⟩), .int .i64 (a : Int), .int .i64 (c : Int)] w fun e w' => e = .returned (.int .i64 (mul a c : Nat)) ∧ ∃ k, w' = w.drewN k := by
  rw [← prodN_eq a c ha hc]
  by_cases h1 : a = 0
  · subst h1
    have : prodN 0 c = 0 := by simp [prodN]
    rw [this]
    go_enter Tryz.func249, Tryz.ntmps249
    go_wp2
    go_ret
    exact ⟨rfl, 0, rfl⟩
  · by_cases h2 : c = 0
    · subst h2
      have : prodN a 0 = 0 := by simp [prodN]
      rw [this]
      have t1 : ((a : Int) == 0) = false := by simp; omega
      go_enter Tryz.func249, Tryz.ntmps249
      go_wp2
      go_ret
      exact ⟨rfl, 0, rfl⟩
    · have t1 : ((a : Int) == 0) = false := by simp; omega
      have t2 : ((c : Int) == 0) = false := by simp; omega
      have hv : prodN a c = pw (lg a + lg c) := by rw [prodN, if_neg (by omega)]
      rw [hv]
      obtain ⟨pb, lb, hb, hp, hl⟩ := h
      have c3 : w.cell? ⟨b, 3, none⟩ = some (.slice (some ⟨pb, 0, none⟩) 16382 16382) := cell_of hb 3
      have c4 : w.cell? ⟨b, 4, none⟩ = some (.slice (some ⟨lb, 0, none⟩) 8192 8192) := cell_of hb 4
      have k1 := lg_lt a
      have k2 := lg_lt c
      have l1 : w.cell? ⟨lb, a, none⟩ = some (.int .i64 ((lg a : Nat) : Int)) := hl.cell (i := a) ha
      have l2 : w.cell? ⟨lb, c, none⟩ = some (.int .i64 ((lg c : Nat) : Int)) := hl.cell (i := c) hc
      have p1 : w.cell? ⟨pb, lg a + lg c, none⟩ = some (.int .i64 ((pw (lg a + lg c) : Nat) : Int)) := by
        have := hp.cell (i := lg a + lg c) (by omega)
        rw [this]
        unfold powRow
        by_cases g : lg a + lg c < 8191
        · rw [if_pos g]
        · rw [if_neg g, if_pos (by omega)]
      clear hb hp hl hv
      generalize lg a = x at *
      generalize lg c = y at *
      have s1 : IntKind.i64.wrap ((x : Int) + (y : Int)) = (x : Int) + (y : Int) := IntWalk.i64_in _ (by omega)
      have s2 : ((x : Int) + (y : Int)).toNat = x + y := by omega
      have s3 : (0 : Int) ≤ (x : Int) + (y : Int) := by omega
      have s4 : (x : Int) + (y : Int) < 16382 := by omega
      go_enter Tryz.func249, Tryz.ntmps249
      go_wp2
      go_quiet (fail)
      go_wp2
      go_ret
      exact ⟨rfl, _, rfl⟩

/-! ### the calls -/
def low (a : Int) : Nat := (a % 8192).toNat
theorem low_lt (a : Int) : low a < 8192 := by unfold low; omega
theorem low_eq (a : Int) : a % 8192 = ((low a : Nat) : Int) := by unfold low; omega
theorem Fld.drewN {w : World} {b : Nat} {n : Int} (h : Fld w b n) (k : Nat) : Fld (w.drewN k) b n := h
theorem Ready.drewN {w : World} {b : Nat} {n : Int} (h : Ready w b n) (k : Nat) : Ready (w.drewN k) b n := h

theorem Fld.counted {w : World} {b : Nat} {n : Int} (h : Fld w b n) (m : Int) : Fld (w.setCell ⟨b, 5, none⟩ (.int .i64 m)) b m := by
  rcases h with h | ⟨pb, lb, h, hp, hl⟩
  · exact .inl (block_set h _)
  · exact .inr ⟨pb, lb, block_set h _, hp.setOther (rowIs_ne hp h) _, hl.setOther (rowIs_ne hl h) _⟩
theorem Fld.cell5 {w : World} {b : Nat} {n : Int} (h : Fld w b n) : w.cell? ⟨b, 5, none⟩ = some (.int .i64 n) ∧ w.frozen? ⟨b, 5, none⟩ = false := by
  rcases h with h | ⟨pb, lb, h, hp, hl⟩
  · exact ⟨cell_of h 5, free_of h 5⟩
  · exact ⟨cell_of h 5, free_of h 5⟩

def trn (n : Int) : Nat := (n % 8191).toNat
theorem tmod_cases (n m : Int) : (0 ≤ n ∧ n.tmod m = n % m) ∨ (n < 0 ∧ n.tmod m = -((-n) % m)) := by
  by_cases h : 0 ≤ n
  · exact .inl ⟨h, Int.tmod_eq_emod_of_nonneg h⟩
  · refine .inr ⟨by omega, ?_⟩
    have e : n.tmod m = -((-n).tmod m) := by rw [Int.neg_tmod, Int.neg_neg]
    rw [e, Int.tmod_eq_emod_of_nonneg (by omega)]
theorem trn_lt (n : Int) : trn n < 8191 := by unfold trn; omega
set_option maxRecDepth 100000 in
theorem turn_any (n : Int) (w : World) :
    Calls Tryz.prog 222 #[.int .i64 n] w fun e w' => e = .returned (.int .i64 (trn n : Nat)) ∧ w = w' := by
  by_cases h0 : n.tmod 8191 < 0
  · have hv : n.tmod 8191 + 8191 = ((trn n : Nat) : Int) := by
      unfold trn
      have := tmod_cases n 8191
      omega
    have Hv := Lib.hid hv
    have b1 : -8191 < n.tmod 8191 := by have := tmod_cases n 8191; omega
    clear hv
    go_enter Tryz.func222, Tryz.ntmps222
    go_wp2
    go_ret
    exact ⟨congrArg (fun x => Ending.returned (.int .i64 x)) Hv.out, rfl⟩
  · have hv : n.tmod 8191 = ((trn n : Nat) : Int) := by
      unfold trn
      have := tmod_cases n 8191
      omega
    have Hv := Lib.hid hv
    have b1 : n.tmod 8191 < 8191 := by have := tmod_cases n 8191; omega
    clear hv
    go_enter Tryz.func222, Tryz.ntmps222
    go_wp2
    go_ret
    exact ⟨congrArg (fun x => Ending.returned (.int .i64 x)) Hv.out, rfl⟩

theorem quiet_eq {P : Program} {f : FuncId} {args : Array Value} {w : World} {n : Nat} {v : Value}
    (h : Calls P f args (w.drewN n) fun e w' => e = .returned v ∧ w.drewN n = w') : Calls P f args (w.drewN n) fun e w'' => e = .returned v ∧ ∃ m, w'' = w.drewN m :=
  h.mono fun _ _ ⟨he, hm⟩ => ⟨he, n, hm.symm⟩

set_option maxRecDepth 100000 in
set_option maxHeartbeats 800000 in
theorem exp_any (b : Nat) (n k : Int) (w : World) (h : Fld w b n) :
    Calls Tryz.prog 195 #[.pointer (some ⟨b, 0, none⟩), .int .i64 k] w fun e w' =>
      e = .returned (.int .i64 (pw (trn k) : Nat)) ∧ Ready w' b n ∧ Upd (oneBlock b) w w' := by
  have HF := Lib.hid h
  clear h
  go_enter Tryz.func195, Tryz.ntmps195
  go_wp2_with (go_at_call 221; refine (prepare_any b n _ HF.out).mono ?_; rintro e w1 ⟨rfl, HR0, HV0⟩; have HR := Lib.hid HR0; have HV := Lib.hid HV0; clear HR0 HV0)
  obtain ⟨pb, lb, hb, hp, hl⟩ := HR.out
  have c3 : w1.cell? ⟨b, 3, none⟩ = some (.slice (some ⟨pb, 0, none⟩) 16382 16382) := cell_of hb 3
  have ht := trn_lt k
  have p1 : w1.cell? ⟨pb, trn k, none⟩ = some (.int .i64 ((pw (trn k) : Nat) : Int)) := by
    have := hp.cell (i := trn k) (by omega)
    rw [this]
    unfold powRow
    rw [if_pos ht]
  have s1 : ((trn k : Nat) : Int) < 16382 := by omega
  have s2 : (0 : Int) ≤ ((trn k : Nat) : Int) := by omega
  clear hb hp hl
  go_quiet ((go_at_call 222; exact quiet_eq (turn_any k _)))
  go_wp2
  go_ret
  exact ⟨rfl, HR.out.drewN _, HV.out.drewN _⟩

set_option maxRecDepth 100000 in
set_option maxHeartbeats 800000 in
theorem log_no (b : Nat) (a : Int) (w : World) (ha : low a = 0) :
    Calls Tryz.prog 224 #[.pointer (some ⟨b, 0, none⟩), .int .i64 a] w fun e w' =>
      e = .returned (.tuple #[.int .i64 0, .bool false]) ∧ w = w' := by
  have m1 : bits .and .i64 a 8191 = 0 := by rw [i64_8191, low_eq, ha]; rfl
  clear ha
  go_enter Tryz.func224, Tryz.ntmps224
  go_wp2
  go_ret2
  exact ⟨rfl, rfl⟩
end Go.Proofs.YtoledgpcgjdjjaaGreatDoor.Doc
namespace Go.Proofs.YtoledgpcgjdjjaaGreatDoor.Doc
open Go.RowKit Gfm

def invN (a : Nat) : Nat := if a = 0 then 0 else pw (8191 - lg a)

def powN (a : Nat) (n : Int) : Nat := if n = 0 then 1 else if a = 0 then 0 else pw (trn ((lg a : Int) * (trn n : Nat)))

end Go.Proofs.YtoledgpcgjdjjaaGreatDoor.Doc
namespace Go.Proofs.YtoledgpcgjdjjaaGreatDoor.Doc
open Go.RowKit Gfm

def hor (x : Nat) (l : List Int) : Nat := l.foldr (fun c acc => mul acc x ^^^ low c) 0
theorem hor_lt (x : Nat) (l : List Int) : hor x l < 8192 := by
  cases l with
  | nil => simp [hor]
  | cons c l =>
    show mul (hor x l) x ^^^ low c < 8192
    exact xor_lt _ _ (mul_lt _ _ (hor_lt x l)) (low_lt c)

theorem hor_step (x : Nat) (xs : List Int) (i : Nat) (h : i < xs.length) :
    hor x (xs.drop i) = mul (hor x (xs.drop (i + 1))) x ^^^ low (xs.getD i 0) := by
  rw [List.drop_eq_getElem_cons h]
  show mul (hor x _) x ^^^ low (xs[i]) = _
  have e : xs[i] = xs.getD i 0 := by
    rw [List.getD_eq_getElem?_getD, List.getElem?_eq_getElem h]; rfl
  rw [e]

end Go.Proofs.YtoledgpcgjdjjaaGreatDoor.Doc
namespace Go.Proofs.YtoledgpcgjdjjaaGreatDoor.Doc
open Go.RowKit Gfm

theorem Ready.upd {w w' : World} {b : Nat} {n : Int} (h : Ready w b n) (hu : Upd noBlock w w') : Ready w' b n := h.keep hu (fun _ _ hk => hk.elim)
set_option maxRecDepth 100000 in
set_option maxHeartbeats 800000 in
theorem prepare_ready (b : Nat) (n : Int) (w : World) (h : Ready w b n) :
    Calls Tryz.prog 221 #[.pointer (some ⟨b, 0, none⟩)] w fun e w' => e = .returned (.tuple #[]) ∧ Ready w' b n ∧ Upd noBlock w w' := by
  have hbs := h.fld.lt
  have hmf : ∀ (fn : Fn) (first cap : Array Value) (w : World), (Instr.makeFunc fn first cap).run Tryz.prog w = .ok (.func fn first cap) w := fun _ _ _ _ => rfl
  have hne : ¬ w.heap.size = b := by omega
  obtain ⟨pb, lb, hb, hp, hl⟩ := h
  have HB := Lib.hid (block_alloc hb (.cells #[.pointer (some ⟨b, 0, none⟩)] 203))
  have HR : Hid (Ready (w.alloc (.cells #[.pointer (some ⟨b, 0, none⟩)] 203)) b n) := Ready.keep ⟨pb, lb, hb, hp, hl⟩ ((Upd.refl noBlock w).alloc _) (fun _ _ hk => hk.elim)
  clear hb hp hl
  go_enter Tryz.func221, Tryz.ntmps221
  go_wp2_with (go_at_call 109; refine (do_done ⟨b, 0, none⟩ _ _ (cell_of HB.out 0)).mono ?_; rintro e w' ⟨rfl, rfl⟩)
  go_end0
  exact ⟨rfl, HR.out, (Upd.refl noBlock w).alloc _⟩

set_option maxRecDepth 100000 in
set_option maxHeartbeats 800000 in
theorem exp_ready (b : Nat) (n k : Int) (w : World) (h : Ready w b n) :
    Calls Tryz.prog 195 #[.pointer (some ⟨b, 0, none⟩), .int .i64 k] w fun e w' =>
      e = .returned (.int .i64 (pw (trn k) : Nat)) ∧ Ready w' b n ∧ Upd noBlock w w' := by
  have HF := Lib.hid h
  clear h
  go_enter Tryz.func195, Tryz.ntmps195
  go_wp2_with (go_at_call 221; refine (prepare_ready b n _ HF.out).mono ?_; rintro e w1 ⟨rfl, HR0, HV0⟩; have HR := Lib.hid HR0; have HV := Lib.hid HV0; clear HR0 HV0)
  obtain ⟨pb, lb, hb, hp, hl⟩ := HR.out
  have c3 : w1.cell? ⟨b, 3, none⟩ = some (.slice (some ⟨pb, 0, none⟩) 16382 16382) := cell_of hb 3
  have ht := trn_lt k
  have p1 : w1.cell? ⟨pb, trn k, none⟩ = some (.int .i64 ((pw (trn k) : Nat) : Int)) := by
    have := hp.cell (i := trn k) (by omega)
    rw [this]
    unfold powRow
    rw [if_pos ht]
  have s1 : ((trn k : Nat) : Int) < 16382 := by omega
  have s2 : (0 : Int) ≤ ((trn k : Nat) : Int) := by omega
  clear hb hp hl
  go_quiet ((go_at_call 222; exact quiet_eq (turn_any k _)))
  go_wp2
  go_ret
  exact ⟨rfl, HR.out.drewN _, HV.out.drewN _⟩

set_option maxRecDepth 100000 in
set_option maxHeartbeats 800000 in
theorem log_ready (b : Nat) (n a : Int) (w : World) (h : Ready w b n) (ha : low a ≠ 0) :
    Calls Tryz.prog 224 #[.pointer (some ⟨b, 0, none⟩), .int .i64 a] w fun e w' =>
      e = .returned (.tuple #[.int .i64 (lg (low a) : Nat), .bool true]) ∧ Ready w' b n ∧ Upd noBlock w w' := by
  have HF := Lib.hid h
  have m1 : bits .and .i64 a 8191 = ((low a : Nat) : Int) := by rw [i64_8191, low_eq]
  have t1 : (((low a : Nat) : Int) == 0) = false := by simp; omega
  have hlow := low_lt a
  clear h
  go_enter Tryz.func224, Tryz.ntmps224
  go_wp2_with (go_at_call 221; refine (prepare_ready b n _ HF.out).mono ?_; rintro e w1 ⟨rfl, HR0, HV0⟩; have HR := Lib.hid HR0; have HV := Lib.hid HV0; clear HR0 HV0; obtain ⟨pb, lb, hb, hp, hl⟩ := HR.out; have c4 : w1.cell? ⟨b, 4, none⟩ = some (.slice (some ⟨lb, 0, none⟩) 8192 8192) := cell_of hb 4; have l1 : w1.cell? ⟨lb, low a, none⟩ = some (.int .i64 ((lg (low a) : Nat) : Int)) := hl.cell (i := low a) hlow; clear hb hp hl)
  go_ret2
  exact ⟨rfl, HR.out, HV.out⟩

set_option maxRecDepth 100000 in
set_option maxHeartbeats 800000 in
theorem pow_ready (b : Nat) (n a k : Int) (w : World) (h : Ready w b n) :
    Calls Tryz.prog 197 #[.pointer (some ⟨b, 0, none⟩), .int .i64 a, .int .i64 k] w fun e w' =>
      e = .returned (.int .i64 (powN (low a) k : Nat)) ∧ Ready w' b n ∧ Upd noBlock w w' := by
  have hnot : ∀ (x : Bool) (w : World), (Op.unary .not (.bool x)).run Tryz.prog w = .ok (.bool (!x)) w := fun _ _ => rfl
  by_cases hk : k = 0
  · subst hk
    have hv : powN (low a) 0 = 1 := by unfold powN; rfl
    rw [hv]
    have HF := Lib.hid h
    clear h hv
    go_enter Tryz.func197, Tryz.ntmps197
    go_wp2
    go_ret
    exact ⟨rfl, HF.out, Upd.refl _ _⟩
  · have t1 : (k == 0) = false := by simp [hk]
    by_cases ha : low a = 0
    · have hv : powN (low a) k = 0 := by unfold powN; rw [if_neg hk, if_pos ha]
      rw [hv]
      have HF := Lib.hid h
      have HA := Lib.hid ha
      clear h hv ha hk
      go_enter Tryz.func197, Tryz.ntmps197
      go_wp2_with (go_at_call 224; refine (log_no b a _ HA.out).mono ?_; rintro e w1 ⟨rfl, rfl⟩)
      go_ret
      exact ⟨rfl, HF.out, Upd.refl _ _⟩
    · have hv : powN (low a) k = pw (trn ((lg (low a) : Int) * (trn k : Nat))) := by unfold powN; rw [if_neg hk, if_neg ha]
      rw [hv]
      have HF := Lib.hid h
      have HA := Lib.hid ha
      have g1 := lg_lt (low a)
      have g2 := trn_lt k
      have g3 : (0 : Int) ≤ (lg (low a) : Int) * (trn k : Nat) := by exact_mod_cast Nat.zero_le _
      have g4 : (lg (low a) : Int) * (trn k : Nat) ≤ 67092481 := by
        have : lg (low a) * trn k ≤ 8191 * 8191 := Nat.mul_le_mul (Nat.le_of_lt g1) (Nat.le_of_lt g2)
        have e : (lg (low a) : Int) * (trn k : Nat) = ((lg (low a) * trn k : Nat) : Int) := by rw [Int.natCast_mul]
        rw [e]; omega
      have s1 : IntKind.i64.wrap ((lg (low a) : Int) * (trn k : Nat)) = (lg (low a) : Int) * (trn k : Nat) := IntWalk.i64_in _ (by omega)
      clear h hv ha hk
      go_enter Tryz.func197, Tryz.ntmps197
      go_wp2_with (go_at_call 224; refine (log_ready b n a _ HF.out HA.out).mono ?_; rintro e w1 ⟨rfl, HR0, HV0⟩; have HR := Lib.hid HR0; have HV := Lib.hid HV0; clear HR0 HV0)
      refine (turn_any k _).mono ?_
      rintro e w' ⟨rfl, rfl⟩
      go_wp2_with fail
      refine (exp_ready b n _ _ HR.out).mono ?_
      rintro e w2 ⟨rfl, HR2, HV2⟩
      have HR3 := Lib.hid HR2
      have HV3 := Lib.hid HV2
      clear HR2 HV2
      go_wp2
      go_ret
      exact ⟨rfl, HR3.out, HV.out.trans HV3.out⟩

set_option maxRecDepth 100000 in
set_option maxHeartbeats 1600000 in
theorem eval_ready (b : Nat) (n x : Int) (a : Option Addr) (len cap B : Nat) (xs : List Int) (w : World) (h : Ready w b n) (hr : Ints w B a len xs) (hB : B ≤ w.heap.size) (hm : len ≤ maxLen) :
    Calls Tryz.prog 223 #[.pointer (some ⟨b, 0, none⟩), .slice a len cap, .int .i64 x] w fun e w' =>
      e = .returned (.int .i64 (hor (low x) xs : Nat)) ∧ Ready w' b n ∧ Upd noBlock w w' := by
  have HF := Lib.hid h
  have m1 : bits .and .i64 x 8191 = ((low x : Nat) : Int) := by rw [i64_8191, low_eq]
  have hcap : len ≤ 9223372036854775807 := by unfold maxLen at hm; omega
  have hlen := hr.1
  have Hlen := Lib.hid hlen
  clear hm hlen
  clear h
  go_enter Tryz.func223, Tryz.ntmps223
  go_wp2_with (go_at_call 221; refine (prepare_ready b n _ HF.out).mono ?_; rintro e w1 ⟨rfl, HR0, HV0⟩; have HR := Lib.hid HR0; have HV := Lib.hid HV0; clear HR0 HV0)
  go_loopw [7, 8] (fun v i wr => ∃ k : Nat, k ≤ len ∧ i = .int .i64 ((k : Int) - 1) ∧ v = .int .i64 ((hor (low x) (xs.drop k) : Nat) : Int) ∧ Hid (Ready wr b n) ∧ Hid (Upd noBlock w wr)) (fun _ i _ => (intOf i + 1).toNat)
  case atStart => 
    refine ⟨len, Nat.le_refl _, rfl, ?_, HR, HV⟩
    rw [List.drop_of_length_le (by have := Hlen.out; omega)]; rfl
  case round =>
    clear HR HV
    obtain ⟨k, hk, rfl, rfl, HR, HV⟩ := hrel
    by_cases h0 : 0 < k
    · obtain ⟨i, rfl⟩ : ∃ i, k = i + 1 := ⟨k - 1, by omega⟩
      obtain ⟨g, off, rfl, hg, hcell⟩ := hr.cell (by omega)
      have hs := hor_step (low x) xs i (by have := Hlen.out; omega)
      have c1 : wr.cell? ⟨g, off + i, none⟩ = some (.int .i64 (xs.getD i 0)) := (World.cell?_of_block (HV.out.block g (by omega) (fun h => h))).trans (hcell i (by omega))
      have m2 : bits .and .i64 (xs.getD i 0) 8191 = ((low (xs.getD i 0) : Nat) : Int) := by rw [i64_8191, low_eq]
      have hh := hor_lt (low x) (xs.drop (i + 1))
      have hx := low_lt x
      have m3 : bits .xor .i64 ((mul (hor (low x) (xs.drop (i + 1))) (low x) : Nat) : Int) ((low (xs.getD i 0) : Nat) : Int) = ((hor (low x) (xs.drop i) : Nat) : Int) := by
        rw [i64_xor_nat _ _ (by have := mul_lt _ (low x) hh; omega) (by have := low_lt (xs.getD i 0); omega), hs]
      have e1 : ((i + 1 : Nat) : Int) - 1 = (i : Int) := by omega
      rw [e1]
      clear hcell hs hr
      generalize xs.getD i 0 = z at c1 m2 m3
      go_wp2
      go_quiet ((go_at_call 249; exact Calls.quiet_of (product_any b _ _ n _ (HR.out.drewN _) hh hx)))
      go_wp2
      go_roundw
      case rel => exact ⟨i, by omega, rfl, rfl, HR.out.drewN _, HV.out.drewN _⟩
      case measure => simp [intOf]
    · obtain rfl : k = 0 := by omega
      have e1 : ((0 : Nat) : Int) - 1 = -1 := by omega
      rw [e1]
      go_wp2
      go_ret
      exact ⟨rfl, HR.out, HV.out⟩

end Go.Proofs.YtoledgpcgjdjjaaGreatDoor.Doc
namespace Go.Proofs.YtoledgpcgjdjjaaGreatDoor.Doc
open Go.RowKit Gfm

/-! powers by squares -/
end Go.Proofs.YtoledgpcgjdjjaaGreatDoor.Doc
namespace Go.Proofs.YtoledgpcgjdjjaaGreatDoor.Doc
open Go.RowKit Gfm

/-! agreement -/
end Go.Proofs.YtoledgpcgjdjjaaGreatDoor.Doc
