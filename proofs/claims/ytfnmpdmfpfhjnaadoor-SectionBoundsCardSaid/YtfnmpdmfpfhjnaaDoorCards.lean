/-
  DERIVED. GIVEN WITH THE SEED: THE CARDS: each row of YtfnmpdmfpfhjnaaDoorRows.lean that lists a variable, with what it lists TIED to the program's text (the seventh form; the later family's looks); each row that meets fmt, with fmt's text TOLD by the authors' own Lean function (tested against real Go, not proved from fmt's source: count such statements apart). THE CARD IS WHAT COUNTS. Prove the row's statement (the work); the ties are given (YtfnmpdmfpfhjnaaDoorTie.lean); close each card by the builder's one call (the guide's Derived/Test/ToyasCard.lean, 'card_holds'). Laid BY PROGRAM, IN A SANDBOX (cutbox-door.mjs). By AI agents, Wed Nov 11 2026. No macro, syntax, notation, axiom, sorry.
-/
import Derived.Test.YtfnmpdmfpfhjnaaDoorRows
import GoSem.ClaimSeven
namespace Go.Proofs.YtfnmpdmfpfhjnaaDoor
namespace Rows

/-- THE TIED CARD OF 'wooferlaw05.SectionSteps'. -/
def sectionStepsCard : Claim7 := { stood := { row := sectionStepsRow, standIns := [], harness := (true, "9e7f2a60c9f25e078402dbc9bb9e2fe9fc45d6147990fa553b30f9670da5dfe9"), looks := false }, kinds := [], alts := [], laidByText := true, laidKinds := [.data, .data, .data, .data], laidTests := true, laidLooks := .later }
def SectionStepsCardSaid : Prop := Claim7.holds Tryd.pinned (.plain (OpenSpec.ofChange sectionStepsSpec)) sectionStepsCard

/-- THE TIED CARD OF 'wooferlaw05.SectionBounds'. -/
def sectionBoundsCard : Claim7 := { stood := { row := sectionBoundsRow, standIns := [], harness := (true, "9e7f2a60c9f25e078402dbc9bb9e2fe9fc45d6147990fa553b30f9670da5dfe9"), looks := false }, kinds := [], alts := [], laidByText := true, laidKinds := [.data, .data, .data, .data], laidTests := true, laidLooks := .later }
def SectionBoundsCardSaid : Prop := Claim7.holds Tryd.pinned (.plain (OpenSpec.ofChange sectionBoundsSpec)) sectionBoundsCard

/-- THE SECOND FORM's CARD OF 'wooferlaw05.SectionSteps'. -/
def sectionStepsUptoCard : Claim7 := { stood := { row := sectionStepsUptoRow, standIns := [], harness := (true, "9e7f2a60c9f25e078402dbc9bb9e2fe9fc45d6147990fa553b30f9670da5dfe9"), looks := false }, kinds := [], alts := [], laidByText := true, laidKinds := [.data, .data, .data, .data], laidTests := true, laidLooks := .later }
def SectionStepsUptoCardSaid : Prop := Claim7.holds Tryd.pinned (.plain (OpenSpec.upto sectionStepsSpec)) sectionStepsUptoCard

/-- THE SECOND FORM's CARD OF 'wooferlaw05.SectionBounds'. -/
def sectionBoundsUptoCard : Claim7 := { stood := { row := sectionBoundsUptoRow, standIns := [], harness := (true, "9e7f2a60c9f25e078402dbc9bb9e2fe9fc45d6147990fa553b30f9670da5dfe9"), looks := false }, kinds := [], alts := [], laidByText := true, laidKinds := [.data, .data, .data, .data], laidTests := true, laidLooks := .later }
def SectionBoundsUptoCardSaid : Prop := Claim7.holds Tryd.pinned (.plain (OpenSpec.upto sectionBoundsSpec)) sectionBoundsUptoCard
end Rows
end Go.Proofs.YtfnmpdmfpfhjnaaDoor
