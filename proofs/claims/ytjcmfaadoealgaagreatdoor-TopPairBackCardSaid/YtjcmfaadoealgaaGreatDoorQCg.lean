/- Walks: the document's seal. -/
import Derived.Test.YtjcmfaadoealgaaGreatDoorQCe
import Derived.Test.YtjcmfaadoealgaaGreatDoorQGBy
namespace Go.Proofs.YtjcmfaadoealgaaGreatDoor
open Go.RowKit Cm
attribute [local irreducible] Cm.shs Cm.nxt Cm.reg Cm.ext

end Go.Proofs.YtjcmfaadoealgaaGreatDoor
