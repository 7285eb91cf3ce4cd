import Derived.Test.YtjcmfaadoealgaaGreatDoorQGPh
import Derived.Deep.OwnRows
/- Walks over the document's own answers for layer 2: Bits, List. -/
namespace Go.Proofs.YtjcmfaadoealgaaGreatDoor
open Go.RowKit Pm

attribute [local irreducible] Pm.exps

end Go.Proofs.YtjcmfaadoealgaaGreatDoor

/- Walks over the document's own answers for layer 2: Mul. -/
namespace Go.Proofs.YtjcmfaadoealgaaGreatDoor
open Go.RowKit Pm

attribute [local irreducible] Pm.exps

end Go.Proofs.YtjcmfaadoealgaaGreatDoor

/- The document's Mul where nothing or too much comes out; the law PolyProducts, walked. -/
namespace Go.Proofs.YtjcmfaadoealgaaGreatDoor
open Go.RowKit Pm
attribute [local irreducible] Pm.exps pmul

end Go.Proofs.YtjcmfaadoealgaaGreatDoor
