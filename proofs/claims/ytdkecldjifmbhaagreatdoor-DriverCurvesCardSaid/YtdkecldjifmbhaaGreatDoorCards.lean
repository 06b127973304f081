/-
  DERIVED. GIVEN WITH THE SEED: THE CARDS: each row of YtdkecldjifmbhaaGreatDoorRows.lean that lists a variable, with what it lists TIED to the program's text (the seventh form; the later family's looks); each row that meets fmt, with fmt's text TOLD by the authors' own Lean function (tested against real Go, not proved from fmt's source: count such statements apart). THE CARD IS WHAT COUNTS. Prove the row's statement (the work); the ties are given (YtdkecldjifmbhaaGreatDoorTie.lean); close each card by the builder's one call (the guide's Derived/Test/ToyasCard.lean, 'card_holds'). Laid BY PROGRAM, IN A SANDBOX (cutbox-door.mjs). By AI agents, Wed Nov 11 2026. No macro, syntax, notation, axiom, sorry.
-/
import Derived.Test.YtdkecldjifmbhaaGreatDoorRows
import GoSem.ClaimSeven
namespace Go.Proofs.YtdkecldjifmbhaaGreatDoor
namespace Rows

/-- THE TIED CARD OF 'wooferlaw03.DriverCurves'. -/
def driverCurvesCard : Claim7 := { stood := { row := driverCurvesRow, standIns := [], harness := (true, "090fc40489cccd974ed0f384d2af59a9a47a23305bfa65d719501c1cbf49e94c"), looks := false }, kinds := [], alts := [], laidByText := true, laidKinds := [.data, .data, .data, .data], laidTests := true, laidLooks := .later }
def DriverCurvesCardSaid : Prop := Claim7.holds Tryz.pinned (.plain (OpenSpec.ofChange driverCurvesSpec)) driverCurvesCard

/-- THE SECOND FORM's CARD OF 'wooferlaw03.DriverCurves'. -/
def driverCurvesUptoCard : Claim7 := { stood := { row := driverCurvesUptoRow, standIns := [], harness := (true, "090fc40489cccd974ed0f384d2af59a9a47a23305bfa65d719501c1cbf49e94c"), looks := false }, kinds := [], alts := [], laidByText := true, laidKinds := [.data, .data, .data, .data], laidTests := true, laidLooks := .later }
def DriverCurvesUptoCardSaid : Prop := Claim7.holds Tryz.pinned (.plain (OpenSpec.upto driverCurvesSpec)) driverCurvesUptoCard
end Rows
end Go.Proofs.YtdkecldjifmbhaaGreatDoor
