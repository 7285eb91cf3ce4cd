/- The plain model of unpacking; tokenBytes, repeat. -/
import Derived.Test.YtcfilepilgjlaaaDoorZa
namespace Go.Proofs.YtcfilepilgjlaaaDoor
open Go.RowKit

/-- the text with n more bytes, each the next one from a position on -/
def dup (t : List UInt8) (frm : Nat) : Nat → List UInt8
  | 0 => t
  | k + 1 => dup t frm k ++ [(dup t frm k).getD (frm + k) 0]
theorem dup_length (t : List UInt8) (frm : Nat) : ∀ n, (dup t frm n).length = t.length + n
  | 0 => rfl
  | n + 1 => by rw [dup, List.length_append, dup_length t frm n]; rfl
def intOfZ : Value → Int | .int _ q => q | _ => 0

end Go.Proofs.YtcfilepilgjlaaaDoor
