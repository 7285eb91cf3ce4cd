/- errors.As at a line's fault, walked. -/
import Derived.Test.YthcjogigkagmdaaGreatDoorCou
namespace Go.Proofs.YthcjogigkagmdaaGreatDoor
open Go.RowKit Go.Extern.Stop Go.Stop Go.Extern
set_option linter.unusedVariables false

theorem rl_mKind (h : Value) (w : World) : (Go.method 101 128 (.agg #[h]) "Kind").run Tryz.prog w = .ok (135, h) w := by kernel_rfl
theorem rl_mElem (h : Value) (w : World) : (Go.method 101 128 (.agg #[h]) "Elem").run Tryz.prog w = .ok (146, .agg #[h]) w := by kernel_rfl
theorem rl_mImpl (h : Value) (w : World) : (Go.method 101 128 (.agg #[h]) "Implements").run Tryz.prog w = .ok (147, .agg #[h]) w := by kernel_rfl
theorem rl_mAssign (h : Value) (w : World) : (Go.method 101 128 (.agg #[h]) "AssignableTo").run Tryz.prog w = .ok (144, .agg #[h]) w := by kernel_rfl
set_option maxRecDepth 100000 in
set_option maxHeartbeats 4000000 in
theorem as_hit (t : Nat) (c n : Int) (w : World) (hg : Gl w) (ht : w.heap[t]? = some (.cells #[.int .i64 0, .int .i64 0] 68 (0, 0))) :
    Calls Tryz.prog 19 #[errV c n, .iface 73 (.pointer (some ⟨t, 0, none⟩))] w fun e w' => e = .returned (.bool true) ∧ w'.heap[t]? = some (.cells #[.int .i64 c, .int .i64 n] 68 (0, 0)) ∧ Upd (oneBlock t) w w' := by
  have hVO := @run_callFunc_extern Tryz.prog 32 _ (fun args => ReflectliteValue.unpack (args.getD 0 (.tuple #[]))) Tryz.func32 (by kernel_rfl) (by kernel_rfl) (by kernel_rfl) (by kernel_rfl)
  have hTY := @run_callFunc_extern Tryz.prog 33 _ (ReflectliteValue.methodAny (ReflectliteValue.valueError "reflectlite.Value.Type" 0) (fun t _ _ _ => ReflectliteType.toType t)) Tryz.func33 (by kernel_rfl) (by kernel_rfl) (by kernel_rfl) (by kernel_rfl)
  have hIN := @run_callFunc_extern Tryz.prog 34 _ (ReflectliteValue.method (ReflectliteValue.valueError "reflectlite.Value.IsNil" 0) ReflectliteValue.isNil) Tryz.func34 (by kernel_rfl) (by kernel_rfl) (by kernel_rfl) (by kernel_rfl)
  have hKI := @run_callFunc_extern Tryz.prog 135 _ (ReflectliteType.abiMethod fun t => do pure (.int .u8 (← Rtype.kind t))) Tryz.func135 (by kernel_rfl) (by kernel_rfl) (by kernel_rfl) (by kernel_rfl)
  have hEL := @run_callFunc_extern Tryz.prog 146 _ (ReflectliteType.method ReflectliteType.elem) Tryz.func146 (by kernel_rfl) (by kernel_rfl) (by kernel_rfl) (by kernel_rfl)
  have hIM := @run_callFunc_extern Tryz.prog 147 _ (ReflectliteType.relation "Implements" ReflectliteType.implements_) Tryz.func147 (by kernel_rfl) (by kernel_rfl) (by kernel_rfl) (by kernel_rfl)
  have hTO := @run_callFunc_extern Tryz.prog 47 _ ReflectliteType.typeOf Tryz.func47 (by kernel_rfl) (by kernel_rfl) (by kernel_rfl) (by kernel_rfl)
  have hAS := @run_callFunc_extern Tryz.prog 144 _ (ReflectliteType.relation "AssignableTo" ReflectliteType.assignableTo) Tryz.func144 (by kernel_rfl) (by kernel_rfl) (by kernel_rfl) (by kernel_rfl)
  have hVE := @run_callFunc_extern Tryz.prog 48 _ (ReflectliteValue.method (ReflectliteValue.valueError "reflectlite.Value.Elem" 0) ReflectliteValue.elem) Tryz.func48 (by kernel_rfl) (by kernel_rfl) (by kernel_rfl) (by kernel_rfl)
  have hVS := @run_callFunc_extern Tryz.prog 49 _ ReflectliteValue.set Tryz.func49 (by kernel_rfl) (by kernel_rfl) (by kernel_rfl) (by kernel_rfl)
  have k1 := rl_valueOf ⟨t, 0, none⟩
  have k2 := rl_type
  have k3 := rl_mKind
  have k4 := rl_kindP
  have k5 := rl_kindS
  have k6 := rl_mElem
  have k7 := rl_elem
  have k8 := rl_mImpl
  have k9 := rl_impl
  have k10 := rl_typeOf
  have k11 := rl_mAssign
  have k12 := rl_assign
  have k13 := rl_valueOfS c n
  have htl := lt_of_block ht
  have h10 := hg.all
  have hel := hg.et
  have hc1 : ∀ o1 o2 : Obj, ((w.alloc o1).alloc o2).cell? ⟨0, 0, none⟩ = some (.iface 128 (.agg #[.pointer (some ⟨10, 71, none⟩)])) := fun o1 o2 => upd_cell (((Upd.refl noBlock w).alloc o1).alloc o2) hel
  have n8 := rl_isNil ⟨w.heap.size, 0, none⟩ ⟨t, 0, none⟩ ((w.alloc (.cells #[.pointer (some ⟨t, 0, none⟩)] 73)).alloc (.cells #[.pointer (some ⟨10, 73, none⟩), .pointer (some ⟨w.heap.size, 0, none⟩), .int .u64 150] 98)) (by simp)
  unfold errV
  have hA3 : (((w.alloc (.cells #[.pointer (some ⟨t, 0, none⟩)] 73)).alloc (.cells #[.pointer (some ⟨10, 73, none⟩), .pointer (some ⟨w.heap.size, 0, none⟩), .int .u64 150] 98)).alloc (.cells #[.pointer (some ⟨10, 73, none⟩), .pointer (some ⟨w.heap.size, 0, none⟩), .int .u64 150] 98)).cell? ⟨w.heap.size, 0, none⟩ = some (.pointer (some ⟨t, 0, none⟩)) := by
    rw [World.cell?_alloc_lt _ _ ⟨w.heap.size, 0, none⟩ (by simp; omega)]; simp
  have el := rl_elemV ⟨w.heap.size, 0, none⟩ ⟨t, 0, none⟩ _ hA3
  have U4 := ((((Upd.refl noBlock w).alloc (.cells #[.pointer (some ⟨t, 0, none⟩)] 73)).alloc (.cells #[.pointer (some ⟨10, 73, none⟩), .pointer (some ⟨w.heap.size, 0, none⟩), .int .u64 150] 98)).alloc (.cells #[.pointer (some ⟨10, 73, none⟩), .pointer (some ⟨w.heap.size, 0, none⟩), .int .u64 150] 98)).alloc (.cells #[.int .i64 c, .int .i64 n] 68 (0, 0))
  have ht4 := U4.cells ht (fun h => h)
  have st := rl_set t (w.heap.size + 1 + 1 + 1) c n 0 0 _ _ (by have h9 := heap_alloc_new (((w.alloc (.cells #[.pointer (some ⟨t, 0, none⟩)] 73)).alloc (.cells #[.pointer (some ⟨10, 73, none⟩), .pointer (some ⟨w.heap.size, 0, none⟩), .int .u64 150] 98)).alloc (.cells #[.pointer (some ⟨10, 73, none⟩), .pointer (some ⟨w.heap.size, 0, none⟩), .int .u64 150] 98)) (.cells #[.int .i64 c, .int .i64 n] 68 (0, 0)); simpa using h9) ht4
  have U5 := ((U4.mono (R' := oneBlock t) (fun _ _ h => h.elim)).setCell (p := ⟨t, 0, none⟩) (Or.inl rfl) (.int .i64 c)).setCell (p := ⟨t, 1, none⟩) (Or.inl rfl) (.int .i64 n)
  have ht5 := block_set (i := 1) (block_set (i := 0) ht4 (.int .i64 c)) (.int .i64 n)
  clear hg hel
  go_enter Tryz.func19, Tryz.ntmps19
  go_wp2
  refine wp_loop_rounds 1 ?_
  rw [rounds_succ]
  go_wp2
  go_ret
  exact ⟨rfl, ht5, U5⟩
end Go.Proofs.YthcjogigkagmdaaGreatDoor
