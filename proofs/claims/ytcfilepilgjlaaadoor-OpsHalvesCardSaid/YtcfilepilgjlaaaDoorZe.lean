/- Unpack; speaks. -/
import Derived.Test.YtcfilepilgjlaaaDoorZd
import Derived.Test.YtcfilepilgjlaaaDoorShelf
namespace Go.Proofs.YtcfilepilgjlaaaDoor
open Go.RowKit

/-- what Unpack answers -/
def unpackL (s : List UInt8) (most : Int) : List UInt8 × Int :=
  match s with
  | [] => ([], 4)
  | c :: r => if c = 1 then unp r.length r [] (min (max most 0) 65536).toNat else if c = 0 then (if (min (max most 0) 65536).toNat < r.length then ([], 2) else (r, 0)) else ([], 4)

theorem hp_no (x c : UInt8) (r : List UInt8) (h : ¬ c = x) : Lib.hasPrefix (c :: r) [x] = false := by
  show ((x == c) && List.isPrefixOf [] r) = false
  rw [beq_eq_false_iff_ne.2 (Ne.symm h)]; rfl
theorem tp_no (x c : UInt8) (r : List UInt8) (h : ¬ c = x) : Lib.trimPrefix (c :: r) [x] = c :: r := by
  simp [Lib.trimPrefix, hp_no x c r h]
end Go.Proofs.YtcfilepilgjlaaaDoor
