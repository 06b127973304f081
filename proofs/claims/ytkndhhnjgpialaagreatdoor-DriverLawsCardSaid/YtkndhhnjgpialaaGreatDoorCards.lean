/-
  DERIVED. GIVEN WITH THE SEED: THE CARDS: each row of YtkndhhnjgpialaaGreatDoorRows.lean that lists a variable, with what it lists TIED to the program's text (the seventh form; the later family's looks); each row that meets fmt, with fmt's text TOLD by the authors' own Lean function (tested against real Go, not proved from fmt's source: count such statements apart). THE CARD IS WHAT COUNTS. Prove the row's statement (the work); the ties are given (YtkndhhnjgpialaaGreatDoorTie.lean); close each card by the builder's one call (the guide's Derived/Test/ToyasCard.lean, 'card_holds'). Laid BY PROGRAM, IN A SANDBOX (cutbox-door.mjs). By AI agents, Wed Nov 11 2026. No macro, syntax, notation, axiom, sorry.
-/
import Derived.Test.YtkndhhnjgpialaaGreatDoorRows
import GoSem.ClaimSeven
namespace Go.Proofs.YtkndhhnjgpialaaGreatDoor
namespace Rows

/-- THE TIED CARD OF 'wooferlaw03.DriverNumbers'. -/
def driverNumbersCard : Claim7 := { stood := { row := driverNumbersRow, standIns := [], harness := (true, "12dd5aa33024729aeef14cab41dc75327844b8c9ca6e9ff0a5ee25621728ce07"), looks := true }, kinds := [], alts := [], laidByText := true, laidKinds := [.data, .data, .data, .data], laidTests := true, laidLooks := .later }
def DriverNumbersCardSaid : Prop := Claim7.holds Tryz.pinned (.plain (OpenSpec.ofChange driverNumbersSpec)) driverNumbersCard

/-- THE TIED CARD OF 'wooferlaw03.DriverTexts'. -/
def driverTextsCard : Claim7 := { stood := { row := driverTextsRow, standIns := [], harness := (true, "12dd5aa33024729aeef14cab41dc75327844b8c9ca6e9ff0a5ee25621728ce07"), looks := true }, kinds := [], alts := [], laidByText := true, laidKinds := [.data, .data, .data, .data, .sentinel, .sentinel, .data, .pinned], laidTests := true, laidLooks := .later }
def DriverTextsCardSaid : Prop := Claim7.holds Tryz.pinned (.plain (OpenSpec.ofChange driverTextsSpec)) driverTextsCard

/-- THE TIED CARD OF 'wooferlaw03.DriverBoxes'. -/
def driverBoxesCard : Claim7 := { stood := { row := driverBoxesRow, standIns := [], harness := (true, "12dd5aa33024729aeef14cab41dc75327844b8c9ca6e9ff0a5ee25621728ce07"), looks := true }, kinds := [], alts := [], laidByText := true, laidKinds := [.data, .data, .data, .data], laidTests := true, laidLooks := .later }
def DriverBoxesCardSaid : Prop := Claim7.holds Tryz.pinned (.plain (OpenSpec.ofChange driverBoxesSpec)) driverBoxesCard

/-- THE TIED CARD OF 'wooferlaw03.DriverFigures'. -/
def driverFiguresCard : Claim7 := { stood := { row := driverFiguresRow, standIns := [], harness := (true, "12dd5aa33024729aeef14cab41dc75327844b8c9ca6e9ff0a5ee25621728ce07"), looks := true }, kinds := [], alts := [], laidByText := true, laidKinds := [.data, .data, .data, .data], laidTests := true, laidLooks := .later }
def DriverFiguresCardSaid : Prop := Claim7.holds Tryz.pinned (.plain (OpenSpec.ofChange driverFiguresSpec)) driverFiguresCard

/-- THE TIED CARD OF 'wooferlaw03.DriverReadings'. -/
def driverReadingsCard : Claim7 := { stood := { row := driverReadingsRow, standIns := [], harness := (true, "12dd5aa33024729aeef14cab41dc75327844b8c9ca6e9ff0a5ee25621728ce07"), looks := true }, kinds := [], alts := [], laidByText := true, laidKinds := [.data, .data, .data, .data], laidTests := true, laidLooks := .later }
def DriverReadingsCardSaid : Prop := Claim7.holds Tryz.pinned (.plain (OpenSpec.ofChange driverReadingsSpec)) driverReadingsCard

/-- THE TIED CARD OF 'wooferlaw03.DriverRegions'. -/
def driverRegionsCard : Claim7 := { stood := { row := driverRegionsRow, standIns := [], harness := (true, "12dd5aa33024729aeef14cab41dc75327844b8c9ca6e9ff0a5ee25621728ce07"), looks := true }, kinds := [], alts := [], laidByText := true, laidKinds := [.data, .data, .data, .data], laidTests := true, laidLooks := .later }
def DriverRegionsCardSaid : Prop := Claim7.holds Tryz.pinned (.plain (OpenSpec.ofChange driverRegionsSpec)) driverRegionsCard

/-- THE TIED CARD OF 'wooferlaw03.DriverConflicts'. -/
def driverConflictsCard : Claim7 := { stood := { row := driverConflictsRow, standIns := [], harness := (true, "12dd5aa33024729aeef14cab41dc75327844b8c9ca6e9ff0a5ee25621728ce07"), looks := true }, kinds := [], alts := [], laidByText := true, laidKinds := [.data, .data, .data, .data], laidTests := true, laidLooks := .later }
def DriverConflictsCardSaid : Prop := Claim7.holds Tryz.pinned (.plain (OpenSpec.ofChange driverConflictsSpec)) driverConflictsCard

/-- THE TIED CARD OF 'wooferlaw03.DriverCurves'. -/
def driverCurvesCard : Claim7 := { stood := { row := driverCurvesRow, standIns := [], harness := (true, "12dd5aa33024729aeef14cab41dc75327844b8c9ca6e9ff0a5ee25621728ce07"), looks := true }, kinds := [], alts := [], laidByText := true, laidKinds := [.data, .data, .data, .data], laidTests := true, laidLooks := .later }
def DriverCurvesCardSaid : Prop := Claim7.holds Tryz.pinned (.plain (OpenSpec.ofChange driverCurvesSpec)) driverCurvesCard

/-- THE TIED CARD OF 'wooferlaw03.DriverLaws'. -/
def driverLawsCard : Claim7 := { stood := { row := driverLawsRow, standIns := [], harness := (true, "12dd5aa33024729aeef14cab41dc75327844b8c9ca6e9ff0a5ee25621728ce07"), looks := true }, kinds := [], alts := [], laidByText := true, laidKinds := [.data, .data, .data, .data], laidTests := true, laidLooks := .later }
def DriverLawsCardSaid : Prop := Claim7.holds Tryz.pinned (.plain (OpenSpec.ofChange driverLawsSpec)) driverLawsCard

/-- THE TIED CARD OF 'wooferlaw03.DriverWeighs'. -/
def driverWeighsCard : Claim7 := { stood := { row := driverWeighsRow, standIns := [], harness := (true, "12dd5aa33024729aeef14cab41dc75327844b8c9ca6e9ff0a5ee25621728ce07"), looks := true }, kinds := [], alts := [], laidByText := true, laidKinds := [.data, .data, .data, .data], laidTests := true, laidLooks := .later }
def DriverWeighsCardSaid : Prop := Claim7.holds Tryz.pinned (.plain (OpenSpec.ofChange driverWeighsSpec)) driverWeighsCard

/-- THE TIED CARD OF 'wooferlaw03.DriverHolds'. -/
def driverHoldsCard : Claim7 := { stood := { row := driverHoldsRow, standIns := [], harness := (true, "12dd5aa33024729aeef14cab41dc75327844b8c9ca6e9ff0a5ee25621728ce07"), looks := true }, kinds := [], alts := [], laidByText := true, laidKinds := [.data, .data, .data, .data], laidTests := true, laidLooks := .later }
def DriverHoldsCardSaid : Prop := Claim7.holds Tryz.pinned (.plain (OpenSpec.ofChange driverHoldsSpec)) driverHoldsCard

/-- THE TIED CARD OF 'wooferlaw03.DriverEven'. -/
def driverEvenCard : Claim7 := { stood := { row := driverEvenRow, standIns := [], harness := (true, "12dd5aa33024729aeef14cab41dc75327844b8c9ca6e9ff0a5ee25621728ce07"), looks := true }, kinds := [], alts := [], laidByText := true, laidKinds := [.data, .data, .data, .data], laidTests := true, laidLooks := .later }
def DriverEvenCardSaid : Prop := Claim7.holds Tryz.pinned (.plain (OpenSpec.ofChange driverEvenSpec)) driverEvenCard

/-- THE SECOND FORM's CARD OF 'wooferlaw03.DriverNumbers'. -/
def driverNumbersUptoCard : Claim7 := { stood := { row := driverNumbersUptoRow, standIns := [], harness := (true, "12dd5aa33024729aeef14cab41dc75327844b8c9ca6e9ff0a5ee25621728ce07"), looks := true }, kinds := [], alts := [], laidByText := true, laidKinds := [.data, .data, .data, .data], laidTests := true, laidLooks := .later }
def DriverNumbersUptoCardSaid : Prop := Claim7.holds Tryz.pinned (.plain (OpenSpec.upto driverNumbersSpec)) driverNumbersUptoCard

/-- THE SECOND FORM's CARD OF 'wooferlaw03.DriverTexts'. -/
def driverTextsUptoCard : Claim7 := { stood := { row := driverTextsUptoRow, standIns := [], harness := (true, "12dd5aa33024729aeef14cab41dc75327844b8c9ca6e9ff0a5ee25621728ce07"), looks := true }, kinds := [], alts := [], laidByText := true, laidKinds := [.data, .data, .data, .data, .sentinel, .sentinel, .data, .pinned], laidTests := true, laidLooks := .later }
def DriverTextsUptoCardSaid : Prop := Claim7.holds Tryz.pinned (.plain (OpenSpec.upto driverTextsSpec)) driverTextsUptoCard

/-- THE SECOND FORM's CARD OF 'wooferlaw03.DriverBoxes'. -/
def driverBoxesUptoCard : Claim7 := { stood := { row := driverBoxesUptoRow, standIns := [], harness := (true, "12dd5aa33024729aeef14cab41dc75327844b8c9ca6e9ff0a5ee25621728ce07"), looks := true }, kinds := [], alts := [], laidByText := true, laidKinds := [.data, .data, .data, .data], laidTests := true, laidLooks := .later }
def DriverBoxesUptoCardSaid : Prop := Claim7.holds Tryz.pinned (.plain (OpenSpec.upto driverBoxesSpec)) driverBoxesUptoCard

/-- THE SECOND FORM's CARD OF 'wooferlaw03.DriverFigures'. -/
def driverFiguresUptoCard : Claim7 := { stood := { row := driverFiguresUptoRow, standIns := [], harness := (true, "12dd5aa33024729aeef14cab41dc75327844b8c9ca6e9ff0a5ee25621728ce07"), looks := true }, kinds := [], alts := [], laidByText := true, laidKinds := [.data, .data, .data, .data], laidTests := true, laidLooks := .later }
def DriverFiguresUptoCardSaid : Prop := Claim7.holds Tryz.pinned (.plain (OpenSpec.upto driverFiguresSpec)) driverFiguresUptoCard

/-- THE SECOND FORM's CARD OF 'wooferlaw03.DriverReadings'. -/
def driverReadingsUptoCard : Claim7 := { stood := { row := driverReadingsUptoRow, standIns := [], harness := (true, "12dd5aa33024729aeef14cab41dc75327844b8c9ca6e9ff0a5ee25621728ce07"), looks := true }, kinds := [], alts := [], laidByText := true, laidKinds := [.data, .data, .data, .data], laidTests := true, laidLooks := .later }
def DriverReadingsUptoCardSaid : Prop := Claim7.holds Tryz.pinned (.plain (OpenSpec.upto driverReadingsSpec)) driverReadingsUptoCard

/-- THE SECOND FORM's CARD OF 'wooferlaw03.DriverRegions'. -/
def driverRegionsUptoCard : Claim7 := { stood := { row := driverRegionsUptoRow, standIns := [], harness := (true, "12dd5aa33024729aeef14cab41dc75327844b8c9ca6e9ff0a5ee25621728ce07"), looks := true }, kinds := [], alts := [], laidByText := true, laidKinds := [.data, .data, .data, .data], laidTests := true, laidLooks := .later }
def DriverRegionsUptoCardSaid : Prop := Claim7.holds Tryz.pinned (.plain (OpenSpec.upto driverRegionsSpec)) driverRegionsUptoCard

/-- THE SECOND FORM's CARD OF 'wooferlaw03.DriverConflicts'. -/
def driverConflictsUptoCard : Claim7 := { stood := { row := driverConflictsUptoRow, standIns := [], harness := (true, "12dd5aa33024729aeef14cab41dc75327844b8c9ca6e9ff0a5ee25621728ce07"), looks := true }, kinds := [], alts := [], laidByText := true, laidKinds := [.data, .data, .data, .data], laidTests := true, laidLooks := .later }
def DriverConflictsUptoCardSaid : Prop := Claim7.holds Tryz.pinned (.plain (OpenSpec.upto driverConflictsSpec)) driverConflictsUptoCard

/-- THE SECOND FORM's CARD OF 'wooferlaw03.DriverCurves'. -/
def driverCurvesUptoCard : Claim7 := { stood := { row := driverCurvesUptoRow, standIns := [], harness := (true, "12dd5aa33024729aeef14cab41dc75327844b8c9ca6e9ff0a5ee25621728ce07"), looks := true }, kinds := [], alts := [], laidByText := true, laidKinds := [.data, .data, .data, .data], laidTests := true, laidLooks := .later }
def DriverCurvesUptoCardSaid : Prop := Claim7.holds Tryz.pinned (.plain (OpenSpec.upto driverCurvesSpec)) driverCurvesUptoCard

/-- THE SECOND FORM's CARD OF 'wooferlaw03.DriverLaws'. -/
def driverLawsUptoCard : Claim7 := { stood := { row := driverLawsUptoRow, standIns := [], harness := (true, "12dd5aa33024729aeef14cab41dc75327844b8c9ca6e9ff0a5ee25621728ce07"), looks := true }, kinds := [], alts := [], laidByText := true, laidKinds := [.data, .data, .data, .data], laidTests := true, laidLooks := .later }
def DriverLawsUptoCardSaid : Prop := Claim7.holds Tryz.pinned (.plain (OpenSpec.upto driverLawsSpec)) driverLawsUptoCard

/-- THE SECOND FORM's CARD OF 'wooferlaw03.DriverWeighs'. -/
def driverWeighsUptoCard : Claim7 := { stood := { row := driverWeighsUptoRow, standIns := [], harness := (true, "12dd5aa33024729aeef14cab41dc75327844b8c9ca6e9ff0a5ee25621728ce07"), looks := true }, kinds := [], alts := [], laidByText := true, laidKinds := [.data, .data, .data, .data], laidTests := true, laidLooks := .later }
def DriverWeighsUptoCardSaid : Prop := Claim7.holds Tryz.pinned (.plain (OpenSpec.upto driverWeighsSpec)) driverWeighsUptoCard

/-- THE SECOND FORM's CARD OF 'wooferlaw03.DriverHolds'. -/
def driverHoldsUptoCard : Claim7 := { stood := { row := driverHoldsUptoRow, standIns := [], harness := (true, "12dd5aa33024729aeef14cab41dc75327844b8c9ca6e9ff0a5ee25621728ce07"), looks := true }, kinds := [], alts := [], laidByText := true, laidKinds := [.data, .data, .data, .data], laidTests := true, laidLooks := .later }
def DriverHoldsUptoCardSaid : Prop := Claim7.holds Tryz.pinned (.plain (OpenSpec.upto driverHoldsSpec)) driverHoldsUptoCard

/-- THE SECOND FORM's CARD OF 'wooferlaw03.DriverEven'. -/
def driverEvenUptoCard : Claim7 := { stood := { row := driverEvenUptoRow, standIns := [], harness := (true, "12dd5aa33024729aeef14cab41dc75327844b8c9ca6e9ff0a5ee25621728ce07"), looks := true }, kinds := [], alts := [], laidByText := true, laidKinds := [.data, .data, .data, .data], laidTests := true, laidLooks := .later }
def DriverEvenUptoCardSaid : Prop := Claim7.holds Tryz.pinned (.plain (OpenSpec.upto driverEvenSpec)) driverEvenUptoCard
end Rows
end Go.Proofs.YtkndhhnjgpialaaGreatDoor
