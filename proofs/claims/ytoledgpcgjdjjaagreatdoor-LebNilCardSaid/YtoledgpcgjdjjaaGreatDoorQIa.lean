/- Remainders: two words of 64 bits; their small calls. -/
import Derived.Test.YtoledgpcgjdjjaaGreatDoorRows
import Derived.Test.YtoledgpcgjdjjaaGreatDoorQLib
import Derived.WalkKit
import Derived.Lib.Hide
import Derived.WalkSpells
import Derived.WalkLawsBesides
import Derived.BigQuiet
import Derived.BigRegion
import Derived.RegionTactic
import Derived.Deep.OwnRows
import Derived.Deep.QuietTactic
namespace Go.Proofs.YtoledgpcgjdjjaaGreatDoor
open Go.RowKit

structure Rm where
  h : Nat
  l : Nat
def Rm.Ok (r : Rm) : Prop := r.h < 18446744073709551616 ∧ r.l < 18446744073709551616
def Rm.agg (r : Rm) : Value := .agg #[.int .u64 (r.h : Int), .int .u64 (r.l : Int)]
def Rm.plus (a b : Rm) : Rm := ⟨a.h ^^^ b.h, a.l ^^^ b.l⟩
def Rm.sh8 (r : Rm) : Rm := ⟨(r.h * 256 % 18446744073709551616) ||| (r.l / 72057594037927936), r.l * 256 % 18446744073709551616⟩
def Rm.sh1 (r : Rm) : Rm := ⟨(r.h * 2 % 18446744073709551616) ||| (r.l / 9223372036854775808), r.l * 2 % 18446744073709551616⟩
def Rm.zero : Rm := ⟨0, 0⟩
def Rm.bit (n : Nat) : Rm := if n < 64 then ⟨2 ^ (63 - n), 0⟩ else ⟨0, 2 ^ (127 - n)⟩
theorem two64 : (2 : Nat) ^ 64 = 18446744073709551616 := by decide
theorem Rm.Ok.plus {a b : Rm} (ha : a.Ok) (hb : b.Ok) : (a.plus b).Ok :=
  ⟨by have := Nat.xor_lt_two_pow (n := 64) (by rw [two64]; exact ha.1) (by rw [two64]; exact hb.1); rw [two64] at this; exact this, by have := Nat.xor_lt_two_pow (n := 64) (by rw [two64]; exact ha.2) (by rw [two64]; exact hb.2); rw [two64] at this; exact this⟩
theorem Rm.Ok.sh8 {a : Rm} (ha : a.Ok) : a.sh8.Ok :=
  ⟨by
    have := Nat.or_lt_two_pow (n := 64) (x := a.h * 256 % 18446744073709551616) (y := a.l / 72057594037927936) (by rw [two64]; omega) (by rw [two64]; have := ha.2; omega)
    rw [two64] at this; exact this, Nat.mod_lt _ (by decide)⟩
theorem Rm.Ok.sh1 {a : Rm} (ha : a.Ok) : a.sh1.Ok :=
  ⟨by
    have := Nat.or_lt_two_pow (n := 64) (x := a.h * 2 % 18446744073709551616) (y := a.l / 9223372036854775808) (by rw [two64]; omega) (by rw [two64]; have := ha.2; omega)
    rw [two64] at this; exact this, Nat.mod_lt _ (by decide)⟩
theorem heap_new1 (w : World) (A B : Obj) : ((w.alloc A).alloc B).heap[w.heap.size + 1]? = some B := heap_alloc2_new w A B
theorem heap_new2 (w : World) (A B C : Obj) : (((w.alloc A).alloc B).alloc C).heap[w.heap.size + 1 + 1]? = some C := by
  have h := heap_alloc_new ((w.alloc A).alloc B) C
  rw [World.size_alloc, World.size_alloc] at h; exact h
theorem rmInfo : (Tryz.prog.info? 174).map (·.size) = some 2 := by kernel_rfl
theorem ret_rm {fn : Func} {p : Tmp} (h : fn.results = #[.cell p 174]) (tmps : Array Value) (w : World) (g : Nat) (x y : Value) (hp : tmps.getD p undef = .pointer (some ⟨g, 0, none⟩)) (hg : w.heap[g]? = some (.cells #[x, y] 174 (0, 0))) :
    (results fn tmps).run Tryz.prog w = .ok (.agg #[x, y]) w := by
  exact results_cell_row h tmps w g _ #[x, y] _ _ hp hg Tryz.underlying174 rfl rmInfo
set_option maxRecDepth 100000 in
theorem plus_any (a b : Rm) (w : World) (ha : a.Ok) (hb : b.Ok) :
    Calls Tryz.prog 148 #[a.agg, b.agg] w fun e w' => e = .returned (a.plus b).agg ∧ Upd noBlock w w' := by
  have hx1 : bits .xor .u64 (a.h : Int) (b.h : Int) = (((a.plus b).h : Nat) : Int) := u64_xor_nat _ _ ha.1 hb.1
  have hx2 : bits .xor .u64 (a.l : Int) (b.l : Int) = (((a.plus b).l : Nat) : Int) := u64_xor_nat _ _ ha.2 hb.2
  unfold Rm.agg
  generalize (a.plus b).h = x at *
  generalize (a.plus b).l = y at *
  go_enter Tryz.func148, Tryz.ntmps148
  go_wp2
  exact bodyPost_ret_by (ret_rm rfl _ _ (w.heap.size + 1 + 1) _ _ rfl (heap_new2 w _ _ _)) rfl ⟨rfl, (((Upd.refl _ _).alloc _).alloc _).alloc _⟩
set_option maxRecDepth 100000 in
theorem shifted8 (a : Rm) (w : World) (ha : a.Ok) :
    Calls Tryz.prog 150 #[a.agg, .int .i64 8] w fun e w' => e = .returned a.sh8.agg ∧ Upd noBlock w w' := by
  have hx1 : bits .or .u64 (IntKind.u64.wrap ((a.h : Int) * 256)) ((a.l : Int) / 72057594037927936) = ((a.sh8.h : Nat) : Int) := by
    have e1 : IntKind.u64.wrap ((a.h : Int) * 256) = ((a.h * 256 % 18446744073709551616 : Nat) : Int) := by rw [IntKind.wrap_u64]; omega
    have e2 : (a.l : Int) / 72057594037927936 = ((a.l / 72057594037927936 : Nat) : Int) := by omega
    rw [e1, e2]
    exact u64_or_nat _ _ (by omega) (by have := ha.2; omega)
  have hx2 : IntKind.u64.wrap ((a.l : Int) * 256) = ((a.sh8.l : Nat) : Int) := by
    show _ = ((a.l * 256 % 18446744073709551616 : Nat) : Int)
    rw [IntKind.wrap_u64]; omega
  unfold Rm.agg
  generalize a.sh8.h = x at *
  generalize a.sh8.l = y at *
  go_enter Tryz.func150, Tryz.ntmps150
  go_wp2
  go_region
  go_wp2
  exact bodyPost_ret_by (ret_rm rfl _ _ (w.heap.size + 1) _ _ rfl (heap_new1 w _ _)) rfl ⟨rfl, (((Upd.refl _ _).alloc _).alloc _).drew⟩
set_option maxRecDepth 100000 in
theorem shifted1 (a : Rm) (w : World) (ha : a.Ok) :
    Calls Tryz.prog 150 #[a.agg, .int .i64 1] w fun e w' => e = .returned a.sh1.agg ∧ Upd noBlock w w' := by
  have hx1 : bits .or .u64 (IntKind.u64.wrap ((a.h : Int) * 2)) ((a.l : Int) / 9223372036854775808) = ((a.sh1.h : Nat) : Int) := by
    have e1 : IntKind.u64.wrap ((a.h : Int) * 2) = ((a.h * 2 % 18446744073709551616 : Nat) : Int) := by rw [IntKind.wrap_u64]; omega
    have e2 : (a.l : Int) / 9223372036854775808 = ((a.l / 9223372036854775808 : Nat) : Int) := by omega
    rw [e1, e2]
    exact u64_or_nat _ _ (by omega) (by have := ha.2; omega)
  have hx2 : IntKind.u64.wrap ((a.l : Int) * 2) = ((a.sh1.l : Nat) : Int) := by
    show _ = ((a.l * 2 % 18446744073709551616 : Nat) : Int)
    rw [IntKind.wrap_u64]; omega
  unfold Rm.agg
  generalize a.sh1.h = x at *
  generalize a.sh1.l = y at *
  go_enter Tryz.func150, Tryz.ntmps150
  go_wp2
  go_region
  go_wp2
  exact bodyPost_ret_by (ret_rm rfl _ _ (w.heap.size + 1) _ _ rfl (heap_new1 w _ _)) rfl ⟨rfl, (((Upd.refl _ _).alloc _).alloc _).drew⟩
def Rm.first (a : Rm) : Nat := a.h / 72057594037927936
theorem Rm.Ok.first {a : Rm} (ha : a.Ok) : a.first < 256 := by have := ha.1; unfold Rm.first; omega
set_option maxRecDepth 100000 in
theorem first_any (a : Rm) (w : World) (ha : a.Ok) :
    Calls Tryz.prog 208 #[a.agg] w fun e w' => e = .returned (.int .u8 (a.first : Int)) ∧ Upd noBlock w w' := by
  have hf : (a.h : Int) / 72057594037927936 % 256 = (a.first : Int) := by have := ha.1; unfold Rm.first; omega
  unfold Rm.agg
  generalize a.first = f at *
  go_enter Tryz.func208, Tryz.ntmps208
  go_wp2
  go_ret
  exact ⟨by first | rfl | (rw [← hf]; rfl) | (rw [hf]; rfl), (Upd.refl _ _).alloc _⟩
theorem pow_lt64 (k : Nat) (h : k < 64) : 2 ^ k < 18446744073709551616 := by rw [← two64]; exact Nat.pow_lt_pow_right (by omega) h
theorem Rm.bit_ok (n : Nat) (h : n < 128) : (Rm.bit n).Ok := by
  unfold Rm.bit
  split
  · exact ⟨pow_lt64 _ (by omega), by show 0 < _; omega⟩
  · exact ⟨by show 0 < _; omega, pow_lt64 _ (by omega)⟩
theorem wrap_pow (k : Nat) (h : k < 64) : IntKind.u64.wrap (2 ^ k) = ((2 ^ k : Nat) : Int) := by
  have e : (2 : Int) ^ k = ((2 ^ k : Nat) : Int) := by rw [Int.natCast_pow]; rfl
  have := pow_lt64 k h
  rw [e, IntKind.wrap_u64]
  generalize 2 ^ k = z at *
  omega
set_option maxRecDepth 100000 in
theorem bitAt_any (n : Nat) (w : World) (hn : n < 128) :
    Calls Tryz.prog 149 #[.int .i64 (n : Int)] w fun e w' => e = .returned (Rm.bit n).agg ∧ Upd noBlock w w' := by
  by_cases h : n < 64
  · have hb : (Rm.bit n) = ⟨2 ^ (63 - n), 0⟩ := if_pos h
    have hw := wrap_pow (63 - n) (by omega)
    rw [hb]
    unfold Rm.agg
    generalize 2 ^ (63 - n) = z at *
    go_enter Tryz.func149, Tryz.ntmps149
    go_wp2
    exact bodyPost_ret_by (ret_rm rfl _ _ w.heap.size _ _ rfl (heap_alloc_new w _)) rfl ⟨rfl, (Upd.refl _ _).alloc _⟩
  · have hb : (Rm.bit n) = ⟨0, 2 ^ (127 - n)⟩ := if_neg h
    have hw := wrap_pow (127 - n) (by omega)
    rw [hb]
    unfold Rm.agg
    generalize 2 ^ (127 - n) = z at *
    go_enter Tryz.func149, Tryz.ntmps149
    go_wp2
    exact bodyPost_ret_by (ret_rm rfl _ _ w.heap.size _ _ rfl (heap_alloc_new w _)) rfl ⟨rfl, (Upd.refl _ _).alloc _⟩
end Go.Proofs.YtoledgpcgjdjjaaGreatDoor
