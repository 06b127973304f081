/-
  DERIVED. GIVEN WITH THE SEED: THE CARDS: each row of YtpmicgdplihlfaaDoorRows.lean that lists a variable, with what it lists TIED to the program's text (the seventh form; the later family's looks); each row that meets fmt, with fmt's text TOLD by the authors' own Lean function (tested against real Go, not proved from fmt's source: count such statements apart). THE CARD IS WHAT COUNTS. Prove the row's statement (the work); the ties are given (YtpmicgdplihlfaaDoorTie.lean); close each card by the builder's one call (the guide's Derived/Test/ToyasCard.lean, 'card_holds'). Laid BY PROGRAM, IN A SANDBOX (cutbox-door.mjs). By AI agents, Wed Nov 11 2026. No macro, syntax, notation, axiom, sorry.
-/
import Derived.Test.YtpmicgdplihlfaaDoorRows
import GoSem.ClaimSeven
namespace Go.Proofs.YtpmicgdplihlfaaDoor
namespace Rows

/-- THE TIED CARD OF 'wooferlaw05.SectionRuns'. -/
def sectionRunsCard : Claim7 := { stood := { row := sectionRunsRow, standIns := [], harness := (true, "31a19e349ea431cd9fe6f995672917f5759655469dada55bf918979381d964b7"), looks := false }, kinds := [], alts := [], laidByText := true, laidKinds := [.data, .data, .data, .data], laidTests := true, laidLooks := .later }
def SectionRunsCardSaid : Prop := Claim7.holds Tryd.pinned (.plain (OpenSpec.ofChange sectionRunsSpec)) sectionRunsCard

/-- THE TIED CARD OF 'wooferlaw05.SectionSettles'. -/
def sectionSettlesCard : Claim7 := { stood := { row := sectionSettlesRow, standIns := [], harness := (true, "31a19e349ea431cd9fe6f995672917f5759655469dada55bf918979381d964b7"), looks := false }, kinds := [], alts := [], laidByText := true, laidKinds := [.data, .data, .data, .data], laidTests := true, laidLooks := .later }
def SectionSettlesCardSaid : Prop := Claim7.holds Tryd.pinned (.plain (OpenSpec.ofChange sectionSettlesSpec)) sectionSettlesCard

/-- THE SECOND FORM's CARD OF 'wooferlaw05.SectionRuns'. -/
def sectionRunsUptoCard : Claim7 := { stood := { row := sectionRunsUptoRow, standIns := [], harness := (true, "31a19e349ea431cd9fe6f995672917f5759655469dada55bf918979381d964b7"), looks := false }, kinds := [], alts := [], laidByText := true, laidKinds := [.data, .data, .data, .data], laidTests := true, laidLooks := .later }
def SectionRunsUptoCardSaid : Prop := Claim7.holds Tryd.pinned (.plain (OpenSpec.upto sectionRunsSpec)) sectionRunsUptoCard

/-- THE SECOND FORM's CARD OF 'wooferlaw05.SectionSettles'. -/
def sectionSettlesUptoCard : Claim7 := { stood := { row := sectionSettlesUptoRow, standIns := [], harness := (true, "31a19e349ea431cd9fe6f995672917f5759655469dada55bf918979381d964b7"), looks := false }, kinds := [], alts := [], laidByText := true, laidKinds := [.data, .data, .data, .data], laidTests := true, laidLooks := .later }
def SectionSettlesUptoCardSaid : Prop := Claim7.holds Tryd.pinned (.plain (OpenSpec.upto sectionSettlesSpec)) sectionSettlesUptoCard
end Rows
end Go.Proofs.YtpmicgdplihlfaaDoor
