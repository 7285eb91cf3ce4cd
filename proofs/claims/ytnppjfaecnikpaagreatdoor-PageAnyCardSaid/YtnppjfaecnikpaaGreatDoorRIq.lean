/- The law's look, its settings. -/
import Derived.Test.YtnppjfaecnikpaaGreatDoorRIi
import Derived.Test.YtnppjfaecnikpaaGreatDoorRGIh
import Derived.Test.YtnppjfaecnikpaaGreatDoorRGZa
namespace Go.Proofs.YtnppjfaecnikpaaGreatDoor
open Go.RowKit Pm

theorem CodeP.one {w : World} {c t : Nat} {k : Int} (h : Made w c t k) : CodeP w c t k := .inr h
end Go.Proofs.YtnppjfaecnikpaaGreatDoor
