/- errors.As at a line's fault. -/
import Derived.Test.YthcjogigkagmdaaGreatDoorCot
import Derived.LaidEql
import Derived.Stop.Asserts
import Derived.RowKitTokens
namespace Go.Proofs.YthcjogigkagmdaaGreatDoor
open Go.RowKit Go.Extern.Stop Go.Stop Go.Extern
set_option linter.unusedVariables false

theorem as_nil (t : Value) (w : World) :
    Calls Tryz.prog 19 #[.nilIface, t] w fun e w' => e = .returned (.bool false) ∧ w = w' := by
  go_enter Tryz.func19, Tryz.ntmps19
  go_wp2
  go_ret
  exact ⟨rfl, rfl⟩
theorem rl_valueOf (t : Addr) (w : World) : (ReflectliteValue.unpack (.iface 73 (.pointer (some t)))).run Tryz.prog w
    = .ok (.agg #[.pointer (some ⟨10, 73, none⟩), .pointer (some ⟨w.heap.size, 0, none⟩), .int .u64 150]) (w.alloc (.cells #[.pointer (some t)] 73)) := by kernel_rfl
theorem rl_type (a : Addr) (w : World) : (ReflectliteValue.methodAny (ReflectliteValue.valueError "reflectlite.Value.Type" 0) (fun t _ _ _ => ReflectliteType.toType t) #[.agg #[.pointer (some ⟨10, 73, none⟩), .pointer (some a), .int .u64 150]]).run Tryz.prog w
    = .ok (.iface 128 (.agg #[.pointer (some ⟨10, 73, none⟩)])) w := by kernel_rfl
theorem rl_kindP (w : World) : ((ReflectliteType.abiMethod fun t => (fun a : Nat => Value.int IntKind.u8 (a : Int)) <$> Rtype.kind t) #[.pointer (some ⟨10, 73, none⟩)]).run Tryz.prog w = .ok (.int .u8 22) w := by kernel_rfl
theorem rl_kindS (w : World) : ((ReflectliteType.abiMethod fun t => (fun a : Nat => Value.int IntKind.u8 (a : Int)) <$> Rtype.kind t) #[.pointer (some ⟨10, 68, none⟩)]).run Tryz.prog w = .ok (.int .u8 25) w := by kernel_rfl
theorem rl_partsP (a : Addr) (w : World) : (ReflectliteValue.parts (.agg #[.pointer (some ⟨10, 73, none⟩), .pointer (some a), .int .u64 150])).run Tryz.prog w = .ok (some (73, a, 150)) w := by kernel_rfl
theorem rl_isNil (a p : Addr) (W : World) (ha : W.cell? a = some (.pointer (some p))) :
    (ReflectliteValue.method (ReflectliteValue.valueError "reflectlite.Value.IsNil" 0) ReflectliteValue.isNil #[.agg #[.pointer (some ⟨10, 73, none⟩), .pointer (some a), .int .u64 150]]).run Tryz.prog W = .ok (.bool false) W := by
  show (ReflectliteValue.parts (.agg #[.pointer (some ⟨10, 73, none⟩), .pointer (some a), .int .u64 150]) >>= _).run _ _ = _
  simp only [Sem.run_bind, rl_partsP, Result.andThen]
  simp [ReflectliteValue.isNil, loadVar, isAgg, underlying, Tryz.underlying73, ha, Result.andThen]
theorem rl_elem (w : World) : (ReflectliteType.method ReflectliteType.elem #[.agg #[.pointer (some ⟨10, 73, none⟩)]]).run Tryz.prog w = .ok (.iface 128 (.agg #[.pointer (some ⟨10, 68, none⟩)])) w := by kernel_rfl
theorem rl_impl (w : World) : (ReflectliteType.relation "Implements" ReflectliteType.implements_ #[.agg #[.pointer (some ⟨10, 68, none⟩)], .iface 128 (.agg #[.pointer (some ⟨10, 71, none⟩)])]).run Tryz.prog w = .ok (.bool true) w := by kernel_rfl
theorem rl_typeOf (v : Value) (w : World) : (ReflectliteType.typeOf #[.iface 68 v]).run Tryz.prog w = .ok (.iface 128 (.agg #[.pointer (some ⟨10, 68, none⟩)])) w := by kernel_rfl
theorem rl_assign (w : World) : (ReflectliteType.relation "AssignableTo" ReflectliteType.assignableTo #[.agg #[.pointer (some ⟨10, 68, none⟩)], .iface 128 (.agg #[.pointer (some ⟨10, 68, none⟩)])]).run Tryz.prog w = .ok (.bool true) w := by kernel_rfl
theorem rl_valueOfS (c n : Int) (w : World) : (ReflectliteValue.unpack (.iface 68 (.agg #[.int .i64 c, .int .i64 n]))).run Tryz.prog w
    = .ok (.agg #[.pointer (some ⟨10, 68, none⟩), .pointer (some ⟨w.heap.size, 0, none⟩), .int .u64 153]) (w.alloc (.cells #[.int .i64 c, .int .i64 n] 68)) := by kernel_rfl
theorem rl_elemOf (w : World) : (Rtype.elem? 73).run Tryz.prog w = .ok (some 68) w := by kernel_rfl
theorem rl_mk (p : Addr) (w : World) : (ReflectliteValue.mk 68 p ReflectliteValue.flagAddr).run Tryz.prog w = .ok (.agg #[.pointer (some ⟨10, 68, none⟩), .pointer (some p), .int .u64 409]) w := by kernel_rfl
theorem rl_elemV (a p : Addr) (W : World) (ha : W.cell? a = some (.pointer (some p))) :
    (ReflectliteValue.method (ReflectliteValue.valueError "reflectlite.Value.Elem" 0) ReflectliteValue.elem #[.agg #[.pointer (some ⟨10, 73, none⟩), .pointer (some a), .int .u64 150]]).run Tryz.prog W
      = .ok (.agg #[.pointer (some ⟨10, 68, none⟩), .pointer (some p), .int .u64 409]) W := by
  show (ReflectliteValue.parts (.agg #[.pointer (some ⟨10, 73, none⟩), .pointer (some a), .int .u64 150]) >>= _).run _ _ = _
  simp only [Sem.run_bind, rl_partsP, Result.andThen]
  simp [ReflectliteValue.elem, loadVar, isAgg, underlying, Tryz.underlying73, ha, Result.andThen, rl_elemOf, rl_mk]
theorem rl_partsD (a : Addr) (w : World) : (ReflectliteValue.parts (.agg #[.pointer (some ⟨10, 68, none⟩), .pointer (some a), .int .u64 409])).run Tryz.prog w = .ok (some (68, a, 409)) w := by kernel_rfl
theorem rl_partsS (a : Addr) (w : World) : (ReflectliteValue.parts (.agg #[.pointer (some ⟨10, 68, none⟩), .pointer (some a), .int .u64 153])).run Tryz.prog w = .ok (some (68, a, 153)) w := by kernel_rfl
theorem rl_direct (w : World) : (Rtype.directlyAssignable 68 68).run Tryz.prog w = .ok true w := by kernel_rfl
theorem rl_size (w : World) : (sizeOf 68).run Tryz.prog w = .ok 2 w := by kernel_rfl
theorem leInfo : (Tryz.prog.info? 68).map (·.size) = some 2 := by kernel_rfl
/-- (Value).Set: the lineError at block t gets what the Value's own variable b holds. -/
theorem rl_set (t b : Nat) (c n c0 n0 : Int) (e : TypeId) (W : World) (hb : W.heap[b]? = some (.cells #[.int .i64 c, .int .i64 n] 68 (0, 0))) (ht : W.heap[t]? = some (.cells #[.int .i64 c0, .int .i64 n0] e (0, 0))) :
    (ReflectliteValue.set #[.agg #[.pointer (some ⟨10, 68, none⟩), .pointer (some ⟨t, 0, none⟩), .int .u64 409], .agg #[.pointer (some ⟨10, 68, none⟩), .pointer (some ⟨b, 0, none⟩), .int .u64 153]]).run Tryz.prog W
      = .ok (.tuple #[]) ((W.setCell ⟨t, 0, none⟩ (.int .i64 c)).setCell ⟨t, 1, none⟩ (.int .i64 n)) := by
  have hl := run_loadVar_row (P := Tryz.prog) W b 68 68 #[.int .i64 c, .int .i64 n] (0, 0) _ hb Tryz.underlying68 rfl (by rw [leInfo]; rfl)
  show (ReflectliteValue.parts (.agg #[.pointer (some ⟨10, 68, none⟩), .pointer (some ⟨t, 0, none⟩), .int .u64 409]) >>= fun y => ReflectliteValue.parts (.agg #[.pointer (some ⟨10, 68, none⟩), .pointer (some ⟨b, 0, none⟩), .int .u64 153]) >>= _).run _ _ = _
  simp only [Sem.run_bind, rl_partsD, rl_partsS, Result.andThen]
  have t0 := cell_of ht 0
  have f0 := free_of ht 0
  have ht1 := block_set (i := 0) ht (.int .i64 c)
  have t1 := cell_of ht1 1
  have f1 := free_of ht1 1
  simp [ReflectliteValue.flagAddr, hl, Result.andThen, rl_direct, storeVar, Value.cells, storeCells, Addr.add]
  rw [run_store Tryz.prog W ⟨t, 0, none⟩ _ _ (by rfl)]
  simp [t0, f0]
  rw [run_store Tryz.prog _ ⟨t, 1, none⟩ _ _ (by rfl)]
  simp [t1, f1]
end Go.Proofs.YthcjogigkagmdaaGreatDoor
