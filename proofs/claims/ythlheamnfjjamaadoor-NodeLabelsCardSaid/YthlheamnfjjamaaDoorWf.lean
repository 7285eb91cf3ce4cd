/- Labels: valid, put. -/
import Derived.Test.YthlheamnfjjamaaDoorWc
import Derived.Laws.Concat
import Derived.Lib.ConvBytes
namespace Go.Proofs.YthlheamnfjjamaaDoor
open Go.RowKit Cm
attribute [local irreducible] beZ valN Cm.shs Cm.nxt Cm.reg Cm.ext
attribute [local go_sem ↓] Go.wp_at_zero Go.wp_at_succ
set_option linter.unusedVariables false

def goodLab (k : Nat) (g n t : Int) : Bool := (decide (65 ≤ k) && decide (k ≤ 90)) && (okN g && (okN n && okN t))
def rawLab (k : Nat) (g n t : Int) : List UInt8 := [UInt8.ofNat k] ++ (beZ 8 g ++ (beZ 8 n ++ beZ 8 t))
def encLab (k : Nat) (g n t : Int) : List UInt8 := if goodLab k g n t then sealed (rawLab k g n t) else []
theorem valid3 (a b c : Int) (h : Nat) (W : World) (hc : W.heap[h]? = some (.cells #[.int .i64 a, .int .i64 b, .int .i64 c] 3 (0, 0))) :
    Calls Tryd.prog 47 #[.slice (some ⟨h, 0, none⟩) 3 3] W fun e w' => e = .returned (.bool (okN a && (okN b && okN c))) ∧ w' = W := by
  have := ValidL [a, b, c] (by simp) 3 rfl h W (fun i hi => by
    have : i = 0 ∨ i = 1 ∨ i = 2 := by simp at hi; omega
    rcases this with rfl | rfl | rfl
    · exact cell_of hc 0
    · exact cell_of hc 1
    · exact cell_of hc 2)
  simpa using this
theorem box4 (w W : World) (a b c d : Value) (t : TypeId) (h : Upd noBlock (w.alloc (.cells #[a, b, c, d] t)) W) : W.cell? ⟨w.heap.size, 0, none⟩ = some a ∧ W.cell? ⟨w.heap.size, 1, none⟩ = some b ∧ W.cell? ⟨w.heap.size, 2, none⟩ = some c ∧ W.cell? ⟨w.heap.size, 3, none⟩ = some d :=
  let k := h.cells (heap_alloc_new w _) (fun h => h)
  ⟨cell_of k 0, cell_of k 1, cell_of k 2, cell_of k 3⟩
set_option maxRecDepth 20000 in
set_option maxHeartbeats 1600000 in
theorem validLab_any (k : Nat) (g n t : Int) (w : World) (hk : k < 256) :
    Calls Tryd.prog 49 #[.agg #[.int .u8 (k : Int), .int .i64 g, .int .i64 n, .int .i64 t]] w fun e w' => e = .returned (.bool (goodLab k g n t)) ∧ Upd noBlock w w' := by
  have HV := Lib.hid (valid3 g n t)
  have HB : Hid (Upd noBlock w (w.alloc (.cells #[.int .u8 (k : Int), .int .i64 g, .int .i64 n, .int .i64 t] 54))) := (Upd.refl _ _).alloc _
  obtain ⟨r, hr⟩ : ∃ r, (okN g && (okN n && okN t)) = r := ⟨_, rfl⟩
  rw [hr] at HV
  unfold goodLab
  rw [hr]
  clear hr
  by_cases h65 : 65 ≤ k
  · by_cases h90 : k ≤ 90
    · have a1 : (65 : Int) ≤ (k : Int) := by omega
      have a2 : (k : Int) ≤ 90 := by omega
      rw [decide_eq_true h65, decide_eq_true h90]
      go_enter Tryd.func49, Tryd.ntmps49
      go_wp2_with (go_at_call 47; (with_reducible refine (HV.out _ _ ?_).mono ?_); (focus (first | exact heap_alloc2_new _ _ _ | (have := heap_alloc_new (w.alloc (.cells #[.int .u8 (k : Int), .int .i64 g, .int .i64 n, .int .i64 t] 54)) (.cells #[.int .i64 g, .int .i64 n, .int .i64 t] 3); rw [World.size_alloc] at this; exact this))); rintro e w1 ⟨rfl, rfl⟩)
      go_ret
      exact ⟨by cases r <;> rfl, HB.out.alloc _⟩
    · have a1 : (65 : Int) ≤ (k : Int) := by omega
      have a2 : ¬ (k : Int) ≤ 90 := by omega
      rw [decide_eq_false h90, Bool.and_false, Bool.false_and]
      go_enter Tryd.func49, Tryd.ntmps49
      go_wp2_with fail
      go_ret
      exact ⟨rfl, HB.out⟩
  · have a1 : ¬ (65 : Int) ≤ (k : Int) := by omega
    rw [decide_eq_false h65, Bool.false_and, Bool.false_and]
    go_enter Tryd.func49, Tryd.ntmps49
    go_wp2_with fail
    go_ret
    exact ⟨rfl, HB.out⟩
set_option maxRecDepth 20000 in
set_option maxHeartbeats 3200000 in
theorem putLabel_bad (k : Nat) (g n t : Int) (w : World) (hk : k < 256) (hg : goodLab k g n t = false) :
    Calls Tryd.prog 24 #[.agg #[.int .u8 (k : Int), .int .i64 g, .int .i64 n, .int .i64 t]] w fun e w' => e = .returned (.tuple #[.string ⟨[].toArray⟩, .bool false]) ∧ Upd noBlock w w' := by
  have HV := fun W => validLab_any k g n t W hk
  rw [hg] at HV
  replace HV := Lib.hid HV
  have HB : Hid (Upd noBlock w (w.alloc (.cells #[.int .u8 (k : Int), .int .i64 g, .int .i64 n, .int .i64 t] 54))) := (Upd.refl _ _).alloc _
  go_enter Tryd.func24, Tryd.ntmps24
  go_wp2_with (go_at_call 49; (with_reducible refine (HV.out _).mono ?_); rintro e w1 ⟨rfl, h⟩; have HW := Lib.hid h; clear h)
  go_ret2
  exact ⟨rfl, HB.out.trans HW.out⟩
end Go.Proofs.YthlheamnfjjamaaDoor
