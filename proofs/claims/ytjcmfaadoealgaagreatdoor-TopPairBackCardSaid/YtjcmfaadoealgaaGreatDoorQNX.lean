/- Bytes, xored. -/
import Derived.Test.YtjcmfaadoealgaaGreatDoorRows
import Derived.Test.YtjcmfaadoealgaaGreatDoorQLib
namespace Go.Proofs.YtjcmfaadoealgaaGreatDoor
open Go.RowKit
theorem xor_256 : ∀ (a b : Fin 256), bits .xor .u8 (a.val : Int) (b.val : Int) = ((a.val ^^^ b.val : Nat) : Int) := by decide +kernel
end Go.Proofs.YtjcmfaadoealgaaGreatDoor
