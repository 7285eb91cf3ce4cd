/- The laws of layer 1, walked. -/
import Derived.Test.YtcmcjojjphhffaaGfs
namespace Go.Proofs.Ytcmcjojjphhffaa
open Go.RowKit Gfm

theorem fresh_new (w : World) : Fld (w.alloc (.cells #[.int .u32 0, .int .i32 0, .int .u32 0, .slice none 0 0, .slice none 0 0, .int .i64 0] 52)) w.heap.size 0 :=
  .inl (heap_alloc_new _ _)
theorem new_upd (w : World) (o : Obj) : Upd noBlock w (w.alloc o) := (Upd.refl noBlock w).alloc o

/-! no field -/
set_option maxRecDepth 100000 in
theorem mul_nil (a c : Int) (w : World) : Calls Try.prog 24 #[.pointer none, .int .i64 a, .int .i64 c] w fun e w' => e = .returned (.int .i64 0) ∧ w = w' := by
  go_enter Try.func24, Try.ntmps24
  go_wp2
  go_ret
  exact ⟨rfl, rfl⟩
set_option maxRecDepth 100000 in
theorem log_nil (a : Int) (w : World) : Calls Try.prog 42 #[.pointer none, .int .i64 a] w fun e w' => e = .returned (.tuple #[.int .i64 0, .bool false]) ∧ w = w' := by
  go_enter Try.func42, Try.ntmps42
  go_wp2
  go_ret2
  exact ⟨rfl, rfl⟩
set_option maxRecDepth 100000 in
theorem pow_nil (a c : Int) (w : World) : Calls Try.prog 32 #[.pointer none, .int .i64 a, .int .i64 c] w fun e w' => e = .returned (.int .i64 0) ∧ w = w' := by
  go_enter Try.func32, Try.ntmps32
  go_wp2
  go_ret
  exact ⟨rfl, rfl⟩
set_option maxRecDepth 100000 in
theorem exp_nil (a : Int) (w : World) : Calls Try.prog 25 #[.pointer none, .int .i64 a] w fun e w' => e = .returned (.int .i64 0) ∧ w = w' := by
  go_enter Try.func25, Try.ntmps25
  go_wp2
  go_ret
  exact ⟨rfl, rfl⟩
set_option maxRecDepth 100000 in
theorem eval_nil (a : Option Addr) (l c : Nat) (x : Int) (w : World) : Calls Try.prog 41 #[.pointer none, .slice a l c, .int .i64 x] w fun e w' => e = .returned (.int .i64 0) ∧ w = w' := by
  go_enter Try.func41, Try.ntmps41
  go_wp2
  go_ret
  exact ⟨rfl, rfl⟩
end Go.Proofs.Ytcmcjojjphhffaa
