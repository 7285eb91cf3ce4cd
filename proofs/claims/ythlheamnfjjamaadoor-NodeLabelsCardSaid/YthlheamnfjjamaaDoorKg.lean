/- The document's Good and Less. -/
import Derived.Test.YthlheamnfjjamaaDoorKf
namespace Go.Proofs.YthlheamnfjjamaaDoor
open Go.RowKit
attribute [local irreducible] beZ valN
set_option linter.unusedSimpArgs false

/-- the document's order of keys -/
def lessK (n k : Int) (s : List UInt8) (p : Int) (n' k' : Int) (s' : List UInt8) (p' : Int) : Bool :=
  if n ≠ n' then decide (n < n') else if k ≠ k' then decide (k < k') else if s ≠ s' then Op.bytesLess s s' else decide (p < p')
theorem toL (l : List UInt8) : (ByteArray.mk l.toArray).toList = l := by rw [ByteArray.toList_eq]
end Go.Proofs.YthlheamnfjjamaaDoor
