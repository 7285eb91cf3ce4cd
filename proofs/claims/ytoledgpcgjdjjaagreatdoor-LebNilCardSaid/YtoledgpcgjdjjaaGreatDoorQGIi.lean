import Derived.Test.YtoledgpcgjdjjaaGreatDoorQGIh
import Derived.Great.BuildSlice
import Derived.Great.Ranges
import Derived.Laws.Tables
import Derived.Test.YtoledgpcgjdjjaaGreatDoorRows
import Derived.Test.YtoledgpcgjdjjaaGreatDoorQLib
import Derived.Test.YtoledgpcgjdjjaaGreatDoorQGZa
/- New. -/
namespace Go.Proofs.YtoledgpcgjdjjaaGreatDoor
open Go.RowKit Pm Gfm
attribute [local irreducible] Pm.exps pmul mp GG mpol tl tabA byteStep tailR stepsV stepS remOf textL
noncomputable def codeC (t k : Int) : Array Value := (Tryz.zeroCells177.setIfInBounds 0 (.int .i64 t)).setIfInBounds 1 (.int .i64 k)
theorem code_built (t k : Int) : Tryz.prog.built 177 [(0, .int .i64 t), (1, .int .i64 k)] = some (codeC t k) := by kernel_rfl
theorem codeC_size (t k : Int) : (codeC t k).size = 524 := by
  have h : (Tryz.zeroCells177).size = 524 := by kernel_rfl
  unfold codeC
  rw [Array.size_setIfInBounds, Array.size_setIfInBounds, h]
theorem codeC_list (t k : Int) : (codeC t k).toList.take 12 = [.int .i64 t, .int .i64 k, .int .u32 0, .int .i32 0, .int .u32 0, .int .u32 0, .int .i32 0, .int .u32 0, .slice none 0 0, .slice none 0 0, .int .i64 0, .int .i64 0] := by kernel_rfl
theorem codeC_get (t k : Int) (j : Nat) (hj : j < 12) : (codeC t k)[j]? = [Value.int .i64 t, .int .i64 k, .int .u32 0, .int .i32 0, .int .u32 0, .int .u32 0, .int .i32 0, .int .u32 0, .slice none 0 0, .slice none 0 0, .int .i64 0, .int .i64 0][j]? := by
  rw [← codeC_list t k, List.getElem?_take, if_pos hj, Array.getElem?_toList]
attribute [local irreducible] codeC
theorem code_raw {w : World} {c t : Nat} {k : Int} (h : w.heap[c]? = some (.cells (codeC (t : Int) k) 177 (0, 0))) : Raw w c t k := by
  refine ⟨(codeC (t : Int) k).extract 12 524, by rw [Array.size_extract, codeC_size]; rfl, .inl ⟨_, h, codeC_get _ _ 5 (by omega), codeC_get _ _ 6 (by omega), codeC_get _ _ 7 (by omega), codeC_get _ _ 8 (by omega), codeC_get _ _ 9 (by omega), codeC_get _ _ 10 (by omega), fun j hj => ?_⟩⟩
  have hj' : j < 5 ∨ 5 + 6 ≤ j := hj
  show (codeC (t : Int) k)[j]? = cR (t : Int) k (.int .u32 0) (.int .i32 0) 0 _ j
  by_cases h12 : 12 ≤ j
  · unfold cR
    rw [if_neg (by omega), if_neg (by omega), if_neg (by omega), if_neg (by omega), if_neg (by omega), if_neg (by omega), if_pos h12, Array.getElem?_extract]
    have hs := codeC_size (t : Int) k
    by_cases hb : j < 524
    · rw [if_pos (by omega), show 12 + (j - 12) = j by omega]
    · rw [if_neg (by omega)]; exact Array.getElem?_eq_none (by omega)
  · rw [codeC_get _ _ j (by omega)]
    obtain rfl | rfl | rfl | rfl | rfl | rfl : j = 0 ∨ j = 1 ∨ j = 2 ∨ j = 3 ∨ j = 4 ∨ j = 11 := by omega
    all_goals rfl
theorem code_raw' {w : World} {c t : Nat} {k : Int} (h : w.heap[c]? = some (.cells ((Tryz.zeroCells177.setIfInBounds 0 (.int .i64 (t : Int))).setIfInBounds 1 (.int .i64 k)) 177 (0, 0))) : Raw w c t k := code_raw (by unfold codeC; exact h)
set_option maxRecDepth 100000 in
set_option maxHeartbeats 1600000 in
theorem new_any (t k : Nat) (w : World) (ht1 : 1 ≤ t) (ht8 : t ≤ 8) (hk1 : 1 ≤ k) (hk2 : k ≤ 256) :
    Calls Tryz.prog 83 #[.int .i64 (t : Int), .int .i64 (k : Int)] w fun e w' => e = .returned (.tuple #[.pointer (some ⟨w.heap.size, 0, none⟩), .int .i64 0]) ∧ Raw w' w.heap.size t (k : Int) ∧ Upd noBlock w w' := by
  have t1 : decide ((t : Int) < 1) = false := decide_eq_false (by omega)
  have t2 : decide ((8 : Int) < (t : Int)) = false := decide_eq_false (by omega)
  have t3 : decide ((k : Int) < 1) = false := decide_eq_false (by omega)
  have t4 : decide ((256 : Int) < (k : Int)) = false := decide_eq_false (by omega)
  go_enter Tryz.func83, Tryz.ntmps83
  go_wp2_with (first
    | (refine wpList_buildTo rfl 177 _ rfl _ rfl (codeC (t : Int) (k : Int)) (code_built _ _) ?_)
    | (refine wpList_boxTo rfl 177 _ rfl _ rfl w.heap.size rfl (codeC (t : Int) (k : Int)) rfl ?_))
  go_ret2
  exact ⟨rfl, code_raw' (heap_alloc_new w _), (Upd.refl _ _).alloc _⟩
end Go.Proofs.YtoledgpcgjdjjaaGreatDoor

/- Bytes, xored. -/
namespace Go.Proofs.YtoledgpcgjdjjaaGreatDoor
open Go.RowKit
theorem xor_256 : ∀ (a b : Fin 256), bits .xor .u8 (a.val : Int) (b.val : Int) = ((a.val ^^^ b.val : Nat) : Int) := by decide +kernel
end Go.Proofs.YtoledgpcgjdjjaaGreatDoor

/- The law's look, its settings. -/
namespace Go.Proofs.YtoledgpcgjdjjaaGreatDoor
open Go.RowKit Pm

theorem CodeP.one {w : World} {c t : Nat} {k : Int} (h : Made w c t k) : CodeP w c t k := .inr h
end Go.Proofs.YtoledgpcgjdjjaaGreatDoor
