/-
  DERIVED. GIVEN WITH THE SEED: THE CARDS: each row of YtoledgpcgjdjjaaGreatDoorRows.lean that lists a variable, with what it lists TIED to the program's text (the seventh form; the later family's looks); each row that meets fmt, with fmt's text TOLD by the authors' own Lean function (tested against real Go, not proved from fmt's source: count such statements apart). THE CARD IS WHAT COUNTS. Prove the row's statement (the work); the ties are given (YtoledgpcgjdjjaaGreatDoorTie.lean); close each card by the builder's one call (the guide's Derived/Test/ToyasCard.lean, 'card_holds'). Laid BY PROGRAM, IN A SANDBOX (cutbox-door.mjs). By AI agents, Wed Nov 11 2026. No macro, syntax, notation, axiom, sorry.
-/
import Derived.Test.YtoledgpcgjdjjaaGreatDoorRows
import GoSem.ClaimSeven
namespace Go.Proofs.YtoledgpcgjdjjaaGreatDoor
namespace Rows

/-- THE TIED CARD OF 'chertlaw09.LebParity'. -/
def lebParityCard : Claim7 := { stood := { row := lebParityRow, standIns := [], harness := (true, "c0c918553616b461c5425c99d8c998993643e164c9f52f4c7bdf21e46e8a00ff"), looks := false }, kinds := [], alts := [], laidByText := true, laidKinds := [.data, .data, .pinned], laidTests := true, laidLooks := .later }
def LebParityCardSaid : Prop := Claim7.holds Tryz.pinned (.plain (OpenSpec.ofChange lebParitySpec)) lebParityCard

/-- THE TIED CARD OF 'chertlaw09.LebNil'. -/
def lebNilCard : Claim7 := { stood := { row := lebNilRow, standIns := [], harness := (true, "c0c918553616b461c5425c99d8c998993643e164c9f52f4c7bdf21e46e8a00ff"), looks := false }, kinds := [], alts := [], laidByText := true, laidKinds := [.data, .data, .pinned], laidTests := true, laidLooks := .later }
def LebNilCardSaid : Prop := Claim7.holds Tryz.pinned (.plain (OpenSpec.ofChange lebNilSpec)) lebNilCard

/-- THE TIED CARD OF 'chertlaw09.LebAlike'. -/
def lebAlikeCard : Claim7 := { stood := { row := lebAlikeRow, standIns := [], harness := (true, "c0c918553616b461c5425c99d8c998993643e164c9f52f4c7bdf21e46e8a00ff"), looks := false }, kinds := [], alts := [], laidByText := true, laidKinds := [.data, .data, .pinned], laidTests := true, laidLooks := .later }
def LebAlikeCardSaid : Prop := Claim7.holds Tryz.pinned (.plain (OpenSpec.ofChange lebAlikeSpec)) lebAlikeCard

/-- THE TIED CARD OF 'cherttop.TopAtomic'. -/
def topAtomicCard : Claim7 := { stood := { row := topAtomicRow, standIns := [], harness := (true, "c0c918553616b461c5425c99d8c998993643e164c9f52f4c7bdf21e46e8a00ff"), looks := false }, kinds := [], alts := [], laidByText := true, laidKinds := [.data, .data, .pinned], laidTests := true, laidLooks := .later }
def TopAtomicCardSaid : Prop := Claim7.holds Tryz.pinned (.plain (OpenSpec.ofChange topAtomicSpec)) topAtomicCard

/-- THE SECOND FORM's CARD OF 'chertlaw09.LebParity'. -/
def lebParityUptoCard : Claim7 := { stood := { row := lebParityUptoRow, standIns := [], harness := (true, "c0c918553616b461c5425c99d8c998993643e164c9f52f4c7bdf21e46e8a00ff"), looks := false }, kinds := [], alts := [], laidByText := true, laidKinds := [.data, .data, .pinned], laidTests := true, laidLooks := .later }
def LebParityUptoCardSaid : Prop := Claim7.holds Tryz.pinned (.plain (OpenSpec.upto lebParitySpec)) lebParityUptoCard

/-- THE SECOND FORM's CARD OF 'chertlaw09.LebNil'. -/
def lebNilUptoCard : Claim7 := { stood := { row := lebNilUptoRow, standIns := [], harness := (true, "c0c918553616b461c5425c99d8c998993643e164c9f52f4c7bdf21e46e8a00ff"), looks := false }, kinds := [], alts := [], laidByText := true, laidKinds := [.data, .data, .pinned], laidTests := true, laidLooks := .later }
def LebNilUptoCardSaid : Prop := Claim7.holds Tryz.pinned (.plain (OpenSpec.upto lebNilSpec)) lebNilUptoCard

/-- THE SECOND FORM's CARD OF 'chertlaw09.LebAlike'. -/
def lebAlikeUptoCard : Claim7 := { stood := { row := lebAlikeUptoRow, standIns := [], harness := (true, "c0c918553616b461c5425c99d8c998993643e164c9f52f4c7bdf21e46e8a00ff"), looks := false }, kinds := [], alts := [], laidByText := true, laidKinds := [.data, .data, .pinned], laidTests := true, laidLooks := .later }
def LebAlikeUptoCardSaid : Prop := Claim7.holds Tryz.pinned (.plain (OpenSpec.upto lebAlikeSpec)) lebAlikeUptoCard

/-- THE SECOND FORM's CARD OF 'cherttop.TopAtomic'. -/
def topAtomicUptoCard : Claim7 := { stood := { row := topAtomicUptoRow, standIns := [], harness := (true, "c0c918553616b461c5425c99d8c998993643e164c9f52f4c7bdf21e46e8a00ff"), looks := false }, kinds := [], alts := [], laidByText := true, laidKinds := [.data, .data, .pinned], laidTests := true, laidLooks := .later }
def TopAtomicUptoCardSaid : Prop := Claim7.holds Tryz.pinned (.plain (OpenSpec.upto topAtomicSpec)) topAtomicUptoCard
end Rows
end Go.Proofs.YtoledgpcgjdjjaaGreatDoor
