/- Where an act and a geometry have their fields; the fault of a line. -/
import Derived.Test.YthcjogigkagmdaaGreatDoorCof
namespace Go.Proofs.YthcjogigkagmdaaGreatDoor
open Go.RowKit
set_option linter.unusedVariables false

/-- an act's six cells -/
def actC (a : Con.A6) : Array Value := #[.int .i64 a.kind, .string a.path, .string a.dest, .string a.data, .int .i64 a.off, .int .i64 a.size]
/-- where an act has the text of a letter -/
def textAt (c : UInt8) : Option Nat := if c = 80 then some 1 else if c = 81 then some 2 else if c = 68 then some 3 else none
def ptrO (b : Nat) : Option Nat → Value
  | some k => .pointer (some ⟨b, k, none⟩)
  | none => .pointer none
theorem textOf_any (b : Nat) (c : UInt8) (w : World) : Calls Tryz.prog 57 #[.pointer (some ⟨b, 0, none⟩), .int .u8 (c.toNat : Int)] w fun e w' => e = .returned (ptrO b (textAt c)) ∧ w = w' := by
  by_cases h1 : c = 80
  · subst h1
    go_enter Tryz.func57, Tryz.ntmps57
    go_wp2
    go_ret
    exact ⟨rfl, rfl⟩
  by_cases h2 : c = 81
  · subst h2
    go_enter Tryz.func57, Tryz.ntmps57
    go_wp2
    go_ret
    exact ⟨rfl, rfl⟩
  by_cases h3 : c = 68
  · subst h3
    go_enter Tryz.func57, Tryz.ntmps57
    go_wp2
    go_ret
    exact ⟨rfl, rfl⟩
  have e1 : ((c.toNat : Int) == 80) = false := by have := u8n h1; rw [beq_eq_false_iff_ne]; exact this
  have e2 : ((c.toNat : Int) == 81) = false := by have := u8n h2; rw [beq_eq_false_iff_ne]; exact this
  have e3 : ((c.toNat : Int) == 68) = false := by have := u8n h3; rw [beq_eq_false_iff_ne]; exact this
  have hm : textAt c = none := by unfold textAt; rw [if_neg h1, if_neg h2, if_neg h3]
  rw [hm]
  clear hm h1 h2 h3
  go_enter Tryz.func57, Tryz.ntmps57
  go_wp2
  go_ret
  exact ⟨rfl, rfl⟩
def numAt (c : UInt8) : Nat := if c = 79 then 4 else 5
theorem numberOf_any (b : Nat) (c : UInt8) (w : World) : Calls Tryz.prog 58 #[.pointer (some ⟨b, 0, none⟩), .int .u8 (c.toNat : Int)] w fun e w' => e = .returned (.pointer (some ⟨b, numAt c, none⟩)) ∧ w = w' := by
  by_cases h1 : c = 79
  · subst h1
    go_enter Tryz.func58, Tryz.ntmps58
    go_wp2
    go_ret
    exact ⟨rfl, rfl⟩
  have e1 : ((c.toNat : Int) == 79) = false := by have := u8n h1; rw [beq_eq_false_iff_ne]; exact this
  have hm : numAt c = 5 := by unfold numAt; rw [if_neg h1]
  rw [hm]
  clear hm h1
  go_enter Tryz.func58, Tryz.ntmps58
  go_wp2
  go_ret
  exact ⟨rfl, rfl⟩
theorem sizes_any (b : Nat) (w : World) : Calls Tryz.prog 41 #[.pointer (some ⟨b, 0, none⟩)] w fun e w' => e = .returned (.agg #[.pointer (some ⟨b, 0, none⟩), .pointer (some ⟨b, 1, none⟩), .pointer (some ⟨b, 2, none⟩), .pointer (some ⟨b, 3, none⟩), .pointer (some ⟨b, 4, none⟩)]) ∧ Upd noBlock w w' := by
  have HU : Hid (Upd noBlock w (w.alloc (.cells #[.pointer (some ⟨b, 0, none⟩), .pointer (some ⟨b, 1, none⟩), .pointer (some ⟨b, 2, none⟩), .pointer (some ⟨b, 3, none⟩), .pointer (some ⟨b, 4, none⟩)] 119)).drew) := ((Upd.refl noBlock w).alloc _).drew
  go_enter Tryz.func41, Tryz.ntmps41
  go_wp2
  go_region
  go_wp2
  go_returns
  exact ⟨rfl, HU.out⟩
/-- the reader's seven cells -/
def rdC (g1 g2 g3 g4 g5 : Int) (v : Value) (n : Int) : Array Value := #[.int .i64 g1, .int .i64 g2, .int .i64 g3, .int .i64 g4, .int .i64 g5, v, .int .i64 n]
def errV (c n : Int) : Value := .iface 68 (.agg #[.int .i64 c, .int .i64 n])
theorem wrong_any (b : Nat) (c n : Int) (w : World) (hc : w.cell? ⟨b, 6, none⟩ = some (.int .i64 n)) : Calls Tryz.prog 53 #[.pointer (some ⟨b, 0, none⟩), .int .i64 c] w fun e w' => e = .returned (errV c n) ∧ w = w' := by
  go_enter Tryz.func53, Tryz.ntmps53
  go_wp2
  go_ret
  exact ⟨rfl, rfl⟩
end Go.Proofs.YthcjogigkagmdaaGreatDoor
