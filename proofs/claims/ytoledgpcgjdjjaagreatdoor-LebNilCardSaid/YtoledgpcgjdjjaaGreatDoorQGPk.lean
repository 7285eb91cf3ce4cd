import Derived.Test.YtoledgpcgjdjjaaGreatDoorQGPh
import Derived.Deep.OwnRows
/- Walks over the document's own answers for layer 2: Bits, List. -/
namespace Go.Proofs.YtoledgpcgjdjjaaGreatDoor
open Go.RowKit Pm

attribute [local irreducible] Pm.exps

end Go.Proofs.YtoledgpcgjdjjaaGreatDoor

/- The law PolyDivides, walked. -/
namespace Go.Proofs.YtoledgpcgjdjjaaGreatDoor
open Go.RowKit Pm

theorem Ints.next {w w' : World} {n : Nat} {a : Option Addr} {xs : List Int} (h : Ints w w.heap.size a n xs) (hu : Upd noBlock w w') : Ints w' w'.heap.size a n xs :=
  (h.grow hu (Nat.le_refl _)).more hu.size
attribute [local irreducible] Pm.exps rm pmod pmul

end Go.Proofs.YtoledgpcgjdjjaaGreatDoor

/- Walks over the document's own answers for layer 2: Mul. -/
namespace Go.Proofs.YtoledgpcgjdjjaaGreatDoor
open Go.RowKit Pm

attribute [local irreducible] Pm.exps

end Go.Proofs.YtoledgpcgjdjjaaGreatDoor

/- The document's Mul where nothing or too much comes out; the law PolyProducts, walked. -/
namespace Go.Proofs.YtoledgpcgjdjjaaGreatDoor
open Go.RowKit Pm
attribute [local irreducible] Pm.exps pmul

end Go.Proofs.YtoledgpcgjdjjaaGreatDoor
