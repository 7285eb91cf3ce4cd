/- A remainder's first bytes as a text. -/
import Derived.Test.YtnimgkijodfjkaaKIa
import Derived.Test.YtnimgkijodfjkaaKIb
import Derived.Deep.OwnRows
import Derived.Lib.ConvBytes
namespace Go.Proofs.Ytnimgkijodfjkaa
open Go.RowKit

def shs (r : Rm) : Nat → Rm | 0 => r | j + 1 => (shs r j).sh8
theorem shs_ok {r : Rm} (h : r.Ok) (j : Nat) : (shs r j).Ok := by
  induction j with
  | zero => exact h
  | succ j ih => exact ih.sh8
/-- the first n bytes -/
def textL (r : Rm) (n : Nat) : List UInt8 := (List.range n).map fun i => UInt8.ofNat (shs r i).first
theorem textL_length (r : Rm) (n : Nat) : (textL r n).length = n := by simp [textL]
def tRow (r : Rm) (k : Nat) (i : Nat) : Value := .int .u8 (((if i < k then (shs r i).first else 0) : Nat) : Int)
theorem textL_get {r : Rm} (h : r.Ok) (n j : Nat) (hj : j < (textL r n).length) : tRow r n j = .int .u8 (((textL r n)[j]).toNat : Int) := by
  have hn : j < n := by rw [textL_length] at hj; exact hj
  have hf := (shs_ok h j).first
  unfold tRow
  rw [if_pos hn]
  have e : ((textL r n)[j]).toNat = (shs r j).first := by
    simp only [textL, List.getElem_map, List.getElem_range]
    rw [UInt8.toNat_ofNat']
    exact Nat.mod_eq_of_lt hf
  rw [e]
theorem tbyteCells : (Try.prog.info? 5).map (fun i => (i.zero, i.size, i.bytes)) = some (some (.int .u8 0), 1, 1) := by kernel_rfl
attribute [local irreducible] shs textL

end Go.Proofs.Ytnimgkijodfjkaa
