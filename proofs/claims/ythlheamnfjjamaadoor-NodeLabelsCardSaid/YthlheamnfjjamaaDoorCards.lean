/-
  DERIVED. GIVEN WITH THE SEED: THE CARDS: each row of YthlheamnfjjamaaDoorRows.lean that lists a variable, with what it lists TIED to the program's text (the seventh form; the later family's looks); each row that meets fmt, with fmt's text TOLD by the authors' own Lean function (tested against real Go, not proved from fmt's source: count such statements apart). THE CARD IS WHAT COUNTS. Prove the row's statement (the work); the ties are given (YthlheamnfjjamaaDoorTie.lean); close each card by the builder's one call (the guide's Derived/Test/ToyasCard.lean, 'card_holds'). Laid BY PROGRAM, IN A SANDBOX (cutbox-door.mjs). By AI agents, Wed Nov 11 2026. No macro, syntax, notation, axiom, sorry.
-/
import Derived.Test.YthlheamnfjjamaaDoorRows
import GoSem.ClaimSeven
namespace Go.Proofs.YthlheamnfjjamaaDoor
namespace Rows

/-- THE TIED CARD OF 'chertlaw12.NodeEncodes'. -/
def nodeEncodesCard : Claim7 := { stood := { row := nodeEncodesRow, standIns := [], harness := (true, "11c04c09494b79aafcdeb31272222839173d8688ae2673e758e76c61816bcbcc"), looks := false }, kinds := [], alts := [], laidByText := true, laidKinds := [.data], laidTests := true, laidLooks := .later }
def NodeEncodesCardSaid : Prop := Claim7.holds Tryd.pinned (.plain (OpenSpec.ofChange nodeEncodesSpec)) nodeEncodesCard

/-- THE TIED CARD OF 'chertlaw12.NodeDecodes'. -/
def nodeDecodesCard : Claim7 := { stood := { row := nodeDecodesRow, standIns := [], harness := (true, "11c04c09494b79aafcdeb31272222839173d8688ae2673e758e76c61816bcbcc"), looks := false }, kinds := [], alts := [], laidByText := true, laidKinds := [.data], laidTests := true, laidLooks := .later }
def NodeDecodesCardSaid : Prop := Claim7.holds Tryd.pinned (.plain (OpenSpec.ofChange nodeDecodesSpec)) nodeDecodesCard

/-- THE TIED CARD OF 'chertlaw12.NodeValues'. -/
def nodeValuesCard : Claim7 := { stood := { row := nodeValuesRow, standIns := [], harness := (true, "11c04c09494b79aafcdeb31272222839173d8688ae2673e758e76c61816bcbcc"), looks := false }, kinds := [], alts := [], laidByText := true, laidKinds := [.data], laidTests := true, laidLooks := .later }
def NodeValuesCardSaid : Prop := Claim7.holds Tryd.pinned (.plain (OpenSpec.ofChange nodeValuesSpec)) nodeValuesCard

/-- THE TIED CARD OF 'chertlaw12.NodeLabels'. -/
def nodeLabelsCard : Claim7 := { stood := { row := nodeLabelsRow, standIns := [], harness := (true, "11c04c09494b79aafcdeb31272222839173d8688ae2673e758e76c61816bcbcc"), looks := false }, kinds := [], alts := [], laidByText := true, laidKinds := [.data], laidTests := true, laidLooks := .later }
def NodeLabelsCardSaid : Prop := Claim7.holds Tryd.pinned (.plain (OpenSpec.ofChange nodeLabelsSpec)) nodeLabelsCard

/-- THE TIED CARD OF 'chertlaw12.NodeRow'. -/
def nodeRowCard : Claim7 := { stood := { row := nodeRowRow, standIns := [], harness := (true, "11c04c09494b79aafcdeb31272222839173d8688ae2673e758e76c61816bcbcc"), looks := false }, kinds := [], alts := [], laidByText := true, laidKinds := [.data], laidTests := true, laidLooks := .later }
def NodeRowCardSaid : Prop := Claim7.holds Tryd.pinned (.plain (OpenSpec.ofChange nodeRowSpec)) nodeRowCard

/-- THE TIED CARD OF 'chertlaw13.PackUnpacks'. -/
def packUnpacksCard : Claim7 := { stood := { row := packUnpacksRow, standIns := [], harness := (true, "11c04c09494b79aafcdeb31272222839173d8688ae2673e758e76c61816bcbcc"), looks := false }, kinds := [], alts := [], laidByText := true, laidKinds := [.data], laidTests := true, laidLooks := .later }
def PackUnpacksCardSaid : Prop := Claim7.holds Tryd.pinned (.plain (OpenSpec.ofChange packUnpacksSpec)) packUnpacksCard

/-- THE TIED CARD OF 'chertlaw13.PackBack'. -/
def packBackCard : Claim7 := { stood := { row := packBackRow, standIns := [], harness := (true, "11c04c09494b79aafcdeb31272222839173d8688ae2673e758e76c61816bcbcc"), looks := false }, kinds := [], alts := [], laidByText := true, laidKinds := [.data], laidTests := true, laidLooks := .later }
def PackBackCardSaid : Prop := Claim7.holds Tryd.pinned (.plain (OpenSpec.ofChange packBackSpec)) packBackCard

/-- THE TIED CARD OF 'cherttop.TopRecords'. -/
def topRecordsCard : Claim7 := { stood := { row := topRecordsRow, standIns := [], harness := (true, "11c04c09494b79aafcdeb31272222839173d8688ae2673e758e76c61816bcbcc"), looks := false }, kinds := [], alts := [], laidByText := true, laidKinds := [.data], laidTests := true, laidLooks := .later }
def TopRecordsCardSaid : Prop := Claim7.holds Tryd.pinned (.plain (OpenSpec.ofChange topRecordsSpec)) topRecordsCard

/-- THE SECOND FORM's CARD OF 'chertlaw12.NodeEncodes'. -/
def nodeEncodesUptoCard : Claim7 := { stood := { row := nodeEncodesUptoRow, standIns := [], harness := (true, "11c04c09494b79aafcdeb31272222839173d8688ae2673e758e76c61816bcbcc"), looks := false }, kinds := [], alts := [], laidByText := true, laidKinds := [.data], laidTests := true, laidLooks := .later }
def NodeEncodesUptoCardSaid : Prop := Claim7.holds Tryd.pinned (.plain (OpenSpec.upto nodeEncodesSpec)) nodeEncodesUptoCard

/-- THE SECOND FORM's CARD OF 'chertlaw12.NodeDecodes'. -/
def nodeDecodesUptoCard : Claim7 := { stood := { row := nodeDecodesUptoRow, standIns := [], harness := (true, "11c04c09494b79aafcdeb31272222839173d8688ae2673e758e76c61816bcbcc"), looks := false }, kinds := [], alts := [], laidByText := true, laidKinds := [.data], laidTests := true, laidLooks := .later }
def NodeDecodesUptoCardSaid : Prop := Claim7.holds Tryd.pinned (.plain (OpenSpec.upto nodeDecodesSpec)) nodeDecodesUptoCard

/-- THE SECOND FORM's CARD OF 'chertlaw12.NodeValues'. -/
def nodeValuesUptoCard : Claim7 := { stood := { row := nodeValuesUptoRow, standIns := [], harness := (true, "11c04c09494b79aafcdeb31272222839173d8688ae2673e758e76c61816bcbcc"), looks := false }, kinds := [], alts := [], laidByText := true, laidKinds := [.data], laidTests := true, laidLooks := .later }
def NodeValuesUptoCardSaid : Prop := Claim7.holds Tryd.pinned (.plain (OpenSpec.upto nodeValuesSpec)) nodeValuesUptoCard

/-- THE SECOND FORM's CARD OF 'chertlaw12.NodeLabels'. -/
def nodeLabelsUptoCard : Claim7 := { stood := { row := nodeLabelsUptoRow, standIns := [], harness := (true, "11c04c09494b79aafcdeb31272222839173d8688ae2673e758e76c61816bcbcc"), looks := false }, kinds := [], alts := [], laidByText := true, laidKinds := [.data], laidTests := true, laidLooks := .later }
def NodeLabelsUptoCardSaid : Prop := Claim7.holds Tryd.pinned (.plain (OpenSpec.upto nodeLabelsSpec)) nodeLabelsUptoCard

/-- THE SECOND FORM's CARD OF 'chertlaw12.NodeRow'. -/
def nodeRowUptoCard : Claim7 := { stood := { row := nodeRowUptoRow, standIns := [], harness := (true, "11c04c09494b79aafcdeb31272222839173d8688ae2673e758e76c61816bcbcc"), looks := false }, kinds := [], alts := [], laidByText := true, laidKinds := [.data], laidTests := true, laidLooks := .later }
def NodeRowUptoCardSaid : Prop := Claim7.holds Tryd.pinned (.plain (OpenSpec.upto nodeRowSpec)) nodeRowUptoCard

/-- THE SECOND FORM's CARD OF 'chertlaw13.PackUnpacks'. -/
def packUnpacksUptoCard : Claim7 := { stood := { row := packUnpacksUptoRow, standIns := [], harness := (true, "11c04c09494b79aafcdeb31272222839173d8688ae2673e758e76c61816bcbcc"), looks := false }, kinds := [], alts := [], laidByText := true, laidKinds := [.data], laidTests := true, laidLooks := .later }
def PackUnpacksUptoCardSaid : Prop := Claim7.holds Tryd.pinned (.plain (OpenSpec.upto packUnpacksSpec)) packUnpacksUptoCard

/-- THE SECOND FORM's CARD OF 'chertlaw13.PackBack'. -/
def packBackUptoCard : Claim7 := { stood := { row := packBackUptoRow, standIns := [], harness := (true, "11c04c09494b79aafcdeb31272222839173d8688ae2673e758e76c61816bcbcc"), looks := false }, kinds := [], alts := [], laidByText := true, laidKinds := [.data], laidTests := true, laidLooks := .later }
def PackBackUptoCardSaid : Prop := Claim7.holds Tryd.pinned (.plain (OpenSpec.upto packBackSpec)) packBackUptoCard

/-- THE SECOND FORM's CARD OF 'cherttop.TopRecords'. -/
def topRecordsUptoCard : Claim7 := { stood := { row := topRecordsUptoRow, standIns := [], harness := (true, "11c04c09494b79aafcdeb31272222839173d8688ae2673e758e76c61816bcbcc"), looks := false }, kinds := [], alts := [], laidByText := true, laidKinds := [.data], laidTests := true, laidLooks := .later }
def TopRecordsUptoCardSaid : Prop := Claim7.holds Tryd.pinned (.plain (OpenSpec.upto topRecordsSpec)) topRecordsUptoCard
end Rows
end Go.Proofs.YthlheamnfjjamaaDoor
