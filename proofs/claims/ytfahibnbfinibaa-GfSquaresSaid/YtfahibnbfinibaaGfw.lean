/- The laws of layer 1, walked. -/
import Derived.Test.YtfahibnbfinibaaGfs
namespace Go.Proofs.Ytfahibnbfinibaa
open Go.RowKit Gfm

theorem fresh_new (w : World) : Fld (w.alloc (.cells #[.int .u32 0, .int .i32 0, .int .u32 0, .slice none 0 0, .slice none 0 0, .int .i64 0] 40)) w.heap.size 0 :=
  .inl (heap_alloc_new _ _)
theorem new_upd (w : World) (o : Obj) : Upd noBlock w (w.alloc o) := (Upd.refl noBlock w).alloc o

set_option maxRecDepth 100000 in
set_option maxHeartbeats 800000 in
theorem speaks_any (w : World) :
    Calls Try.prog 15 #[] w fun e w' => e = .returned (.bool true) ∧ Upd noBlock w w' := by
  have HF := Lib.hid (fresh_new w)
  have hv : mul (low 4096) (low 2) = 27 := by decide
  have Hv := Lib.hid hv
  clear hv
  go_enter Try.func15, Try.ntmps15
  go_wp2_with fail
  refine (mul_any w.heap.size 0 4096 2 _ HF.out (by omega)).mono ?_
  rintro e w1 ⟨rfl, HR0, HU0⟩
  have HR := Lib.hid HR0
  have HU := Lib.hid HU0
  clear HR0 HU0
  rw [Hv.out]
  go_wp2_with fail
  refine (products_any w.heap.size _ _ HR.out.fld).mono ?_
  rintro e w' ⟨rfl, rfl⟩
  go_wp2_with fail
  go_ret
  exact ⟨rfl, (new_upd w _).step HU.out (fun k hk e => absurd e (by simp [oneBlock]; omega))⟩

/-! no field -/
set_option maxRecDepth 100000 in
theorem mul_nil (a c : Int) (w : World) : Calls Try.prog 17 #[.pointer none, .int .i64 a, .int .i64 c] w fun e w' => e = .returned (.int .i64 0) ∧ w = w' := by
  go_enter Try.func17, Try.ntmps17
  go_wp2
  go_ret
  exact ⟨rfl, rfl⟩
set_option maxRecDepth 100000 in
theorem log_nil (a : Int) (w : World) : Calls Try.prog 26 #[.pointer none, .int .i64 a] w fun e w' => e = .returned (.tuple #[.int .i64 0, .bool false]) ∧ w = w' := by
  go_enter Try.func26, Try.ntmps26
  go_wp2
  go_ret2
  exact ⟨rfl, rfl⟩
set_option maxRecDepth 100000 in
theorem inv_nil (a : Int) (w : World) : Calls Try.prog 16 #[.pointer none, .int .i64 a] w fun e w' => e = .returned (.tuple #[.int .i64 0, .bool false]) ∧ w = w' := by
  have hnot : ∀ (x : Bool) (w : World), (Op.unary .not (.bool x)).run Try.prog w = .ok (.bool (!x)) w := fun _ _ => rfl
  go_enter Try.func16, Try.ntmps16
  go_wp2_with (go_at_call 26; refine (log_nil a _).mono ?_; rintro e w1 ⟨rfl, rfl⟩)
  go_ret2
  exact ⟨rfl, rfl⟩
set_option maxRecDepth 100000 in
theorem pow_nil (a c : Int) (w : World) : Calls Try.prog 23 #[.pointer none, .int .i64 a, .int .i64 c] w fun e w' => e = .returned (.int .i64 0) ∧ w = w' := by
  go_enter Try.func23, Try.ntmps23
  go_wp2
  go_ret
  exact ⟨rfl, rfl⟩
set_option maxRecDepth 100000 in
theorem exp_nil (a : Int) (w : World) : Calls Try.prog 24 #[.pointer none, .int .i64 a] w fun e w' => e = .returned (.int .i64 0) ∧ w = w' := by
  go_enter Try.func24, Try.ntmps24
  go_wp2
  go_ret
  exact ⟨rfl, rfl⟩
set_option maxRecDepth 100000 in
theorem eval_nil (a : Option Addr) (l c : Nat) (x : Int) (w : World) : Calls Try.prog 27 #[.pointer none, .slice a l c, .int .i64 x] w fun e w' => e = .returned (.int .i64 0) ∧ w = w' := by
  go_enter Try.func27, Try.ntmps27
  go_wp2
  go_ret
  exact ⟨rfl, rfl⟩
set_option maxRecDepth 100000 in
theorem products_nil (w : World) : Calls Try.prog 21 #[.pointer none] w fun e w' => e = .returned (.int .i64 0) ∧ w = w' := by
  go_enter Try.func21, Try.ntmps21
  go_wp2
  go_ret
  exact ⟨rfl, rfl⟩

set_option maxRecDepth 100000 in
set_option maxHeartbeats 1600000 in
theorem gfNil_walk (a n : Int) (w : World) (_wa : (Lit.int .i64 a).wf = true) (_wn : (Lit.int .i64 n).wf = true) :
    Calls Try.prog 8 #[.int .i64 a, .int .i64 n] w fun e w' => e = .returned (.bool true) ∧ Below w.heap.size w w' := by
  have hnot : ∀ (x : Bool) (w : World), (Op.unary .not (.bool x)).run Try.prog w = .ok (.bool (!x)) w := fun _ _ => rfl
  go_enter Try.func8, Try.ntmps8
  go_wp2_with (first
    | (go_at_call 15; refine (speaks_any _).mono ?_; rintro e w1 ⟨rfl, HU0⟩; have HU := Lib.hid HU0; clear HU0)
    | (go_at_call 16; refine (inv_nil _ _).mono ?_; rintro e w' ⟨rfl, rfl⟩)
    | (go_at_call 26; refine (log_nil _ _).mono ?_; rintro e w' ⟨rfl, rfl⟩)
    | (go_at_call 17; refine (mul_nil _ _ _).mono ?_; rintro e w' ⟨rfl, rfl⟩)
    | (go_at_call 23; refine (pow_nil _ _ _).mono ?_; rintro e w' ⟨rfl, rfl⟩)
    | (go_at_call 24; refine (exp_nil _ _).mono ?_; rintro e w' ⟨rfl, rfl⟩)
    | (go_at_call 27; refine (eval_nil _ _ _ _ _).mono ?_; rintro e w' ⟨rfl, rfl⟩)
    | (go_at_call 21; refine (products_nil _).mono ?_; rintro e w' ⟨rfl, rfl⟩))
  go_ret
  exact ⟨rfl, (HU.out.alloc _).below (fun _ _ h => h)⟩
end Go.Proofs.Ytfahibnbfinibaa
