/- Walks over package nand: what a spoilt page shows; no noise; Read. -/
import Derived.Test.YtjcmfaadoealgaaGreatDoorQNg
import Derived.StillTailTactics
namespace Go.Proofs.YtjcmfaadoealgaaGreatDoor
open Go.RowKit

theorem byteInfo : (Tryz.prog.info? 5).map (fun i => (i.zero, i.size, i.bytes)) = some (some (.int .u8 0), 1, 1) := by kernel_rfl
/-- what make lays, bytes -/
theorem made_bytes (w : World) (n : Nat) (hn : n ≤ maxLen) : Bs (w.alloc (.cells (madeCells (Value.int .u8 0).cells (n * 1)) 5)) w.heap.size 5 (.slice (some ⟨w.heap.size, 0, none⟩) n n) (List.replicate n 0) := by
  have hc : (Value.int .u8 0).cells = #[.int .u8 0] := by rfl
  rw [hc]
  refine ⟨w.heap.size, n, _, (0, 0), by simp, Nat.le_refl _, heap_alloc_new _ _, .inl rfl, by simp, hn, by rw [size_madeCells]; omega, fun j hj => ?_⟩
  simp at hj
  simp [madeCells, hj, Nat.mod_one]
set_option maxRecDepth 100000 in
theorem shown_spoilt (q np sz p : Nat) (B : Bk) (w : World) (h : PgsIn w q np sz B) (hp : p < np) (hs : (B.pg p).st = 2) (n : Nat) (hn : n ≤ 2048) :
    Calls Tryz.prog 93 #[.pointer (some ⟨q, 3 * p, none⟩), .int .i64 (n : Int)] w fun e w' => ∃ v, e = .returned v ∧ Bs w' w.heap.size 5 v (List.replicate n 0) ∧ Upd noBlock w w' := by
  obtain ⟨c0, _, _, _⟩ := pgs_cells h hp
  rw [hs] at c0
  obtain ⟨O, HO, hm⟩ : ∃ O : Obj, Hid (O = .cells (madeCells (Value.int .u8 0).cells (n * 1)) 5) ∧ ∀ w : World, (Instr.makeSlice 43 (.int .i64 (n : Int)) (.int .i64 (n : Int))).run Tryz.prog w = .ok (.slice (some ⟨w.heap.size, 0, none⟩) n n) (w.alloc O) :=
    ⟨_, rfl, run_make_wide (P := Tryz.prog) _ _ _ 1 1 Tryz.underlying43 byteInfo n (by omega) (by omega)⟩
  have HB := Lib.hid (made_bytes w n (by unfold maxLen; omega))
  rw [← HO.out] at HB
  clear HO h hs
  go_enter Tryz.func93, Tryz.ntmps93
  go_wp2
  go_ret
  exact ⟨_, rfl, HB.out, (Upd.refl noBlock w).alloc _⟩

set_option maxRecDepth 100000 in
/-- no noise -/
theorem quiet_any (seed most piece : Int) (v : Value) (r b p : Int) (w : World) (h : most < 1 ∨ piece < 1) (hv : ∃ a n k, v = .slice a n k) :
    Calls Tryz.prog 94 #[.agg #[.int .u64 seed, .int .i64 most, .int .i64 piece], v, .int .i64 r, .int .i64 b, .int .i64 p] w fun e w' => e = .returned (.tuple #[]) ∧ Upd noBlock w w' := by
  obtain ⟨va, vn, vk, rfl⟩ := hv
  by_cases h1 : most < 1
  · clear h
    go_enter Tryz.func94, Tryz.ntmps94
    go_wp2
    refine bodyPost_ret (results_none rfl _ _ _) rfl ?_
    exact ⟨rfl, (Upd.refl noBlock w).alloc _⟩
  · have h2 : piece < 1 := by omega
    clear h
    go_enter Tryz.func94, Tryz.ntmps94
    go_wp2
    refine bodyPost_ret (results_none rfl _ _ _) rfl ?_
    exact ⟨rfl, (Upd.refl noBlock w).alloc _⟩
end Go.Proofs.YtjcmfaadoealgaaGreatDoor
