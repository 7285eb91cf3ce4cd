/- The law's look, its settings. -/
import Derived.Test.YtjcmfaadoealgaaGreatDoorQIi
import Derived.Test.YtjcmfaadoealgaaGreatDoorQGIh
import Derived.Test.YtjcmfaadoealgaaGreatDoorQGZa
namespace Go.Proofs.YtjcmfaadoealgaaGreatDoor
open Go.RowKit Pm

theorem CodeP.one {w : World} {c t : Nat} {k : Int} (h : Made w c t k) : CodeP w c t k := .inr h
end Go.Proofs.YtjcmfaadoealgaaGreatDoor
