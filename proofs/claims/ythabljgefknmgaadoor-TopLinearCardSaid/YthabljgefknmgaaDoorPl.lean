/- Walks over the document's own answers for layer 2: Bits, List. -/
import Derived.Test.YthabljgefknmgaaDoorPj
import Derived.Deep.OwnRows
namespace Go.Proofs.YthabljgefknmgaaDoor
open Go.RowKit Pm

theorem boolCells : (Tryd.prog.info? 4).map (fun i => (i.zero, i.size, i.bytes)) = some (some (.bool false), 1, 1) := by kernel_rfl
/-- a bit an exponent -/
def bitRow (P i : Nat) : Value := .bool (P.testBit i)
theorem bitRow_tog (P n : Nat) (hn : n ≤ 16384) (i : Nat) : bitRow (P ^^^ tog (n : Int)) i = if i = n then .bool (!(P.testBit n)) else bitRow P i := by
  have e : tog (n : Int) = 2 ^ n := by unfold tog; rw [if_pos (by omega), Int.toNat_natCast]
  unfold bitRow
  rw [e, Nat.testBit_xor, Nat.testBit_two_pow]
  by_cases h : i = n
  · subst h; rw [if_pos rfl]; simp
  · have f : decide (n = i) = false := by simp; omega
    rw [if_neg h, f]; simp

theorem exps_low (P k : Nat) (hk : k + 1 ≤ top) : exps (P % 2 ^ (k + 1)) = if P.testBit k then (k : Int) :: exps (P % 2 ^ k) else exps (P % 2 ^ k) := by
  rw [exps_mod P (k + 1) hk, exps_mod P k (by omega)]; rfl
theorem exps_all (P : Nat) (h : P < 2 ^ top) : exps (P % 2 ^ top) = exps P := by rw [Nat.mod_eq_of_lt h]
attribute [local irreducible] Pm.exps

end Go.Proofs.YthabljgefknmgaaDoor
