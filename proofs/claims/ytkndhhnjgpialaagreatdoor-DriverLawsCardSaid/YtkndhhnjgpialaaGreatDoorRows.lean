/-
  NARROWER THAN 'FOR EVERY INPUT', by the rows' own cells (each row's printed sentence says how): DriverNumbers: laid · DriverTexts: laid · DriverBoxes: laid · DriverFigures: laid · DriverReadings: laid · DriverRegions: laid · DriverConflicts: laid · DriverCurves: laid · DriverLaws: laid · DriverWeighs: laid · DriverHolds: laid · DriverEven: laid.
  DERIVED. THE GIVEN ROWS OF THIS SEAT. 12 by the template 'for every input the law returns true; each argument reads behind the call as it read before'; 0 by the template 'total and deterministic' (their statements: YtkndhhnjgpialaaGreatDoorTotals.lean).
  GIVEN WITH THE SEED: the statements are not yours to turn. If you find one false, say at which input.
  Laid BY PROGRAM, IN A SANDBOX (cutbox-rows.mjs): the forced cells as the released guide's own fill.sh prints them over the translation acf4bd14191cb521… (all of the seat's roots in one cut). By AI agents, Wed Nov 11 2026. No macro, syntax, notation, axiom, sorry.
-/
import Derived.Test.YtkndhhnjgpialaaGreatDoorChecked
import GoSem.PinnedTables
import GoSem.Claim
import GoSem.ClaimJoined
import GoSem.ClaimMapViews
import Derived.JoinedTies
import Derived.KernelRfl
namespace Go.Proofs.YtkndhhnjgpialaaGreatDoor
/- THE CELL 'sum', in the pinned program and in every row, IS THE sha256 OF THE DUMP (.gsa) THAT YtkndhhnjgpialaaGreatDoorProg.lean LOADS. Nothing in Lean hashes anything: it is a label: what it is worth is what the hold of that sum in a sandbox is worth. -/
noncomputable def Tryz.pinned : Pinned := { name := "ytkndhhnjgpialaagreatdoor", sum := "acf4bd14191cb521f2f335ef3dc945e6320aeb74789d5d1dc663391def2a15e9", checked := Tryz.checked }
namespace Rows
def none {H : Type} : Left H := { results := [], args := [] }

/- WHAT THE LISTED PACKAGE-LEVEL VARIABLES READ AS WHEN THE CALL BEGINS. Each datum BY PROGRAM (the guide's laid-datum.mjs) off the statement by which the dump's own 'gosem.cut.vars' lays the variable. In a bare row this is a premise. The card (YtkndhhnjgpialaaGreatDoorCards.lean) ties it to the program's text. -/
def laid_math_bits_deBruijn32tab {H : Type} : DataW H := .agg [.lit (.int .u8 0), .lit (.int .u8 1), .lit (.int .u8 28), .lit (.int .u8 2), .lit (.int .u8 29), .lit (.int .u8 14), .lit (.int .u8 24), .lit (.int .u8 3), .lit (.int .u8 30), .lit (.int .u8 22), .lit (.int .u8 20), .lit (.int .u8 15), .lit (.int .u8 25), .lit (.int .u8 17), .lit (.int .u8 4), .lit (.int .u8 8), .lit (.int .u8 31), .lit (.int .u8 27), .lit (.int .u8 13), .lit (.int .u8 23), .lit (.int .u8 21), .lit (.int .u8 19), .lit (.int .u8 16), .lit (.int .u8 7), .lit (.int .u8 26), .lit (.int .u8 12), .lit (.int .u8 18), .lit (.int .u8 6), .lit (.int .u8 11), .lit (.int .u8 5), .lit (.int .u8 10), .lit (.int .u8 9)]
def laid_math_bits_deBruijn64tab {H : Type} : DataW H := .agg [.lit (.int .u8 0), .lit (.int .u8 1), .lit (.int .u8 56), .lit (.int .u8 2), .lit (.int .u8 57), .lit (.int .u8 49), .lit (.int .u8 28), .lit (.int .u8 3), .lit (.int .u8 61), .lit (.int .u8 58), .lit (.int .u8 42), .lit (.int .u8 50), .lit (.int .u8 38), .lit (.int .u8 29), .lit (.int .u8 17), .lit (.int .u8 4), .lit (.int .u8 62), .lit (.int .u8 47), .lit (.int .u8 59), .lit (.int .u8 36), .lit (.int .u8 45), .lit (.int .u8 43), .lit (.int .u8 51), .lit (.int .u8 22), .lit (.int .u8 53), .lit (.int .u8 39), .lit (.int .u8 33), .lit (.int .u8 30), .lit (.int .u8 24), .lit (.int .u8 18), .lit (.int .u8 12), .lit (.int .u8 5), .lit (.int .u8 63), .lit (.int .u8 55), .lit (.int .u8 48), .lit (.int .u8 27), .lit (.int .u8 60), .lit (.int .u8 41), .lit (.int .u8 37), .lit (.int .u8 16), .lit (.int .u8 46), .lit (.int .u8 35), .lit (.int .u8 44), .lit (.int .u8 21), .lit (.int .u8 52), .lit (.int .u8 32), .lit (.int .u8 23), .lit (.int .u8 11), .lit (.int .u8 54), .lit (.int .u8 26), .lit (.int .u8 40), .lit (.int .u8 15), .lit (.int .u8 34), .lit (.int .u8 20), .lit (.int .u8 31), .lit (.int .u8 10), .lit (.int .u8 25), .lit (.int .u8 14), .lit (.int .u8 19), .lit (.int .u8 9), .lit (.int .u8 13), .lit (.int .u8 8), .lit (.int .u8 7), .lit (.int .u8 6)]
def laid_internal_strconv_uint64pow10 {H : Type} : DataW H := .agg [.lit (.int .u64 1), .lit (.int .u64 10), .lit (.int .u64 100), .lit (.int .u64 1000), .lit (.int .u64 10000), .lit (.int .u64 100000), .lit (.int .u64 1000000), .lit (.int .u64 10000000), .lit (.int .u64 100000000), .lit (.int .u64 1000000000), .lit (.int .u64 10000000000), .lit (.int .u64 100000000000), .lit (.int .u64 1000000000000), .lit (.int .u64 10000000000000), .lit (.int .u64 100000000000000), .lit (.int .u64 1000000000000000), .lit (.int .u64 10000000000000000), .lit (.int .u64 100000000000000000), .lit (.int .u64 1000000000000000000), .lit (.int .u64 10000000000000000000)]
def laid_woofer_driver_limits {H : Type} : DataW H := .agg [.agg [.lit (.int .i64 1), .lit (.int .i64 50)], .agg [.lit (.int .i64 0), .lit (.int .i64 10)], .agg [.lit (.int .i64 1), .lit (.int .i64 20)], .agg [.lit (.int .i64 1), .lit (.int .i64 100)], .agg [.lit (.int .i64 1), .lit (.int .i64 5000)], .agg [.lit (.int .i64 1), .lit (.int .i64 100)]]
def laid_unicode_utf8_acceptRanges {H : Type} : DataW H := .agg [.agg [.lit (.int .u8 128), .lit (.int .u8 191)], .agg [.lit (.int .u8 160), .lit (.int .u8 191)], .agg [.lit (.int .u8 128), .lit (.int .u8 159)], .agg [.lit (.int .u8 144), .lit (.int .u8 191)], .agg [.lit (.int .u8 128), .lit (.int .u8 143)], .agg [.lit (.int .u8 0), .lit (.int .u8 0)], .agg [.lit (.int .u8 0), .lit (.int .u8 0)], .agg [.lit (.int .u8 0), .lit (.int .u8 0)], .agg [.lit (.int .u8 0), .lit (.int .u8 0)], .agg [.lit (.int .u8 0), .lit (.int .u8 0)], .agg [.lit (.int .u8 0), .lit (.int .u8 0)], .agg [.lit (.int .u8 0), .lit (.int .u8 0)], .agg [.lit (.int .u8 0), .lit (.int .u8 0)], .agg [.lit (.int .u8 0), .lit (.int .u8 0)], .agg [.lit (.int .u8 0), .lit (.int .u8 0)], .agg [.lit (.int .u8 0), .lit (.int .u8 0)]]
def laid_strconv_ErrRange {H : Type} : DataW H := .iface "*errors.errorString" (.ptr (.agg [.lit (.string [118, 97, 108, 117, 101, 32, 111, 117, 116, 32, 111, 102, 32, 114, 97, 110, 103, 101])]))
def laid_strconv_ErrSyntax {H : Type} : DataW H := .iface "*errors.errorString" (.ptr (.agg [.lit (.string [105, 110, 118, 97, 108, 105, 100, 32, 115, 121, 110, 116, 97, 120])]))
/-- One of Go's own tables, pinned by name: the form's constant. -/
def laid_unicode_utf8_first : DataW Unit := Go.Pinned.utf8First

/-- 'wooferlaw03.DriverNumbers': WHATEVER THE INPUT: true; the input reads as it did. -/
def driverNumbersSpec : ChangeSpec := { name := "driverNumbers", fn := fun _ => fun
  | [d1, d2] => { results := [.lit (.bool true)], args := [d1, d2] }
  | _ => none }
def driverNumbersRow : OpenClaim := { program := "ytkndhhnjgpialaagreatdoor", sum := "acf4bd14191cb521f2f335ef3dc945e6320aeb74789d5d1dc663391def2a15e9", func := "woofer/wooferlaw03.DriverNumbers", spec := "driverNumbers", unfollowed := true, recurses := true, named := ["woofer/driver.limits", "internal/strconv.uint64pow10", "math/bits.deBruijn32tab", "math/bits.deBruijn64tab"], apart := false, laid := [("math/bits.deBruijn32tab", laid_math_bits_deBruijn32tab), ("math/bits.deBruijn64tab", laid_math_bits_deBruijn64tab), ("internal/strconv.uint64pow10", laid_internal_strconv_uint64pow10), ("woofer/driver.limits", laid_woofer_driver_limits)] }
def DriverNumbersSaid : Prop := driverNumbersRow.holds Tryz.pinned (OpenSpec.ofChange driverNumbersSpec)

/-- ITS FALSE NEIGHBOUR: 'it returns false'. Refute it at one input. -/
def driverNumbersWrong : ChangeSpec := { name := "driverNumbers", fn := fun _ => fun
  | [d1, d2] => { results := [.lit (.bool false)], args := [d1, d2] }
  | _ => none }
def DriverNumbersWrongFalsely : Prop := driverNumbersRow.holds Tryz.pinned (OpenSpec.ofChange driverNumbersWrong)

/-- 'wooferlaw03.DriverTexts': WHATEVER THE INPUT: true; the input reads as it did. -/
def driverTextsSpec : ChangeSpec := { name := "driverTexts", fn := fun _ => fun
  | [d1, d2] => { results := [.lit (.bool true)], args := [d1, d2] }
  | _ => none }
def driverTextsRow : OpenClaim := { program := "ytkndhhnjgpialaagreatdoor", sum := "acf4bd14191cb521f2f335ef3dc945e6320aeb74789d5d1dc663391def2a15e9", func := "woofer/wooferlaw03.DriverTexts", spec := "driverTexts", inPlace := ["internal/bytealg.CountString", "internal/bytealg.IndexByteString", "internal/bytealg.IndexString"], unfollowed := true, recurses := true, named := ["woofer/driver.limits", "internal/strconv.uint64pow10", "math/bits.deBruijn32tab", "math/bits.deBruijn64tab", "unicode/utf8.first", "unicode/utf8.acceptRanges", "internal/bytealg.MaxLen", "strconv.ErrSyntax", "strconv.ErrRange"], apart := false, laid := [("math/bits.deBruijn32tab", laid_math_bits_deBruijn32tab), ("math/bits.deBruijn64tab", laid_math_bits_deBruijn64tab), ("internal/strconv.uint64pow10", laid_internal_strconv_uint64pow10), ("unicode/utf8.acceptRanges", laid_unicode_utf8_acceptRanges), ("strconv.ErrRange", laid_strconv_ErrRange), ("strconv.ErrSyntax", laid_strconv_ErrSyntax), ("woofer/driver.limits", laid_woofer_driver_limits), ("unicode/utf8.first", laid_unicode_utf8_first)] }
def DriverTextsSaid : Prop := driverTextsRow.holds Tryz.pinned (OpenSpec.ofChange driverTextsSpec)

/-- ITS FALSE NEIGHBOUR: 'it returns false'. Refute it at one input. -/
def driverTextsWrong : ChangeSpec := { name := "driverTexts", fn := fun _ => fun
  | [d1, d2] => { results := [.lit (.bool false)], args := [d1, d2] }
  | _ => none }
def DriverTextsWrongFalsely : Prop := driverTextsRow.holds Tryz.pinned (OpenSpec.ofChange driverTextsWrong)

/-- 'wooferlaw03.DriverBoxes': WHATEVER THE INPUT: true; the input reads as it did. -/
def driverBoxesSpec : ChangeSpec := { name := "driverBoxes", fn := fun _ => fun
  | [d1, d2, d3] => { results := [.lit (.bool true)], args := [d1, d2, d3] }
  | _ => none }
def driverBoxesRow : OpenClaim := { program := "ytkndhhnjgpialaagreatdoor", sum := "acf4bd14191cb521f2f335ef3dc945e6320aeb74789d5d1dc663391def2a15e9", func := "woofer/wooferlaw03.DriverBoxes", spec := "driverBoxes", unfollowed := true, recurses := true, named := ["woofer/driver.limits", "internal/strconv.uint64pow10", "math/bits.deBruijn32tab", "math/bits.deBruijn64tab"], apart := false, laid := [("math/bits.deBruijn32tab", laid_math_bits_deBruijn32tab), ("math/bits.deBruijn64tab", laid_math_bits_deBruijn64tab), ("internal/strconv.uint64pow10", laid_internal_strconv_uint64pow10), ("woofer/driver.limits", laid_woofer_driver_limits)] }
def DriverBoxesSaid : Prop := driverBoxesRow.holds Tryz.pinned (OpenSpec.ofChange driverBoxesSpec)

/-- ITS FALSE NEIGHBOUR: 'it returns false'. Refute it at one input. -/
def driverBoxesWrong : ChangeSpec := { name := "driverBoxes", fn := fun _ => fun
  | [d1, d2, d3] => { results := [.lit (.bool false)], args := [d1, d2, d3] }
  | _ => none }
def DriverBoxesWrongFalsely : Prop := driverBoxesRow.holds Tryz.pinned (OpenSpec.ofChange driverBoxesWrong)

/-- 'wooferlaw03.DriverFigures': WHATEVER THE INPUT: true; the input reads as it did. -/
def driverFiguresSpec : ChangeSpec := { name := "driverFigures", fn := fun _ => fun
  | [d1, d2] => { results := [.lit (.bool true)], args := [d1, d2] }
  | _ => none }
def driverFiguresRow : OpenClaim := { program := "ytkndhhnjgpialaagreatdoor", sum := "acf4bd14191cb521f2f335ef3dc945e6320aeb74789d5d1dc663391def2a15e9", func := "woofer/wooferlaw03.DriverFigures", spec := "driverFigures", unfollowed := true, recurses := true, named := ["woofer/driver.limits", "internal/strconv.uint64pow10", "math/bits.deBruijn32tab", "math/bits.deBruijn64tab"], apart := false, laid := [("math/bits.deBruijn32tab", laid_math_bits_deBruijn32tab), ("math/bits.deBruijn64tab", laid_math_bits_deBruijn64tab), ("internal/strconv.uint64pow10", laid_internal_strconv_uint64pow10), ("woofer/driver.limits", laid_woofer_driver_limits)] }
def DriverFiguresSaid : Prop := driverFiguresRow.holds Tryz.pinned (OpenSpec.ofChange driverFiguresSpec)

/-- ITS FALSE NEIGHBOUR: 'it returns false'. Refute it at one input. -/
def driverFiguresWrong : ChangeSpec := { name := "driverFigures", fn := fun _ => fun
  | [d1, d2] => { results := [.lit (.bool false)], args := [d1, d2] }
  | _ => none }
def DriverFiguresWrongFalsely : Prop := driverFiguresRow.holds Tryz.pinned (OpenSpec.ofChange driverFiguresWrong)

/-- 'wooferlaw03.DriverReadings': WHATEVER THE INPUT: true; the input reads as it did. -/
def driverReadingsSpec : ChangeSpec := { name := "driverReadings", fn := fun _ => fun
  | [d1, d2, d3] => { results := [.lit (.bool true)], args := [d1, d2, d3] }
  | _ => none }
def driverReadingsRow : OpenClaim := { program := "ytkndhhnjgpialaagreatdoor", sum := "acf4bd14191cb521f2f335ef3dc945e6320aeb74789d5d1dc663391def2a15e9", func := "woofer/wooferlaw03.DriverReadings", spec := "driverReadings", unfollowed := true, recurses := true, named := ["woofer/driver.limits", "internal/strconv.uint64pow10", "math/bits.deBruijn32tab", "math/bits.deBruijn64tab"], apart := false, laid := [("math/bits.deBruijn32tab", laid_math_bits_deBruijn32tab), ("math/bits.deBruijn64tab", laid_math_bits_deBruijn64tab), ("internal/strconv.uint64pow10", laid_internal_strconv_uint64pow10), ("woofer/driver.limits", laid_woofer_driver_limits)] }
def DriverReadingsSaid : Prop := driverReadingsRow.holds Tryz.pinned (OpenSpec.ofChange driverReadingsSpec)

/-- ITS FALSE NEIGHBOUR: 'it returns false'. Refute it at one input. -/
def driverReadingsWrong : ChangeSpec := { name := "driverReadings", fn := fun _ => fun
  | [d1, d2, d3] => { results := [.lit (.bool false)], args := [d1, d2, d3] }
  | _ => none }
def DriverReadingsWrongFalsely : Prop := driverReadingsRow.holds Tryz.pinned (OpenSpec.ofChange driverReadingsWrong)

/-- 'wooferlaw03.DriverRegions': WHATEVER THE INPUT: true; the input reads as it did. -/
def driverRegionsSpec : ChangeSpec := { name := "driverRegions", fn := fun _ => fun
  | [d1, d2] => { results := [.lit (.bool true)], args := [d1, d2] }
  | _ => none }
def driverRegionsRow : OpenClaim := { program := "ytkndhhnjgpialaagreatdoor", sum := "acf4bd14191cb521f2f335ef3dc945e6320aeb74789d5d1dc663391def2a15e9", func := "woofer/wooferlaw03.DriverRegions", spec := "driverRegions", unfollowed := true, recurses := true, named := ["woofer/driver.limits", "internal/strconv.uint64pow10", "math/bits.deBruijn32tab", "math/bits.deBruijn64tab"], apart := false, laid := [("math/bits.deBruijn32tab", laid_math_bits_deBruijn32tab), ("math/bits.deBruijn64tab", laid_math_bits_deBruijn64tab), ("internal/strconv.uint64pow10", laid_internal_strconv_uint64pow10), ("woofer/driver.limits", laid_woofer_driver_limits)] }
def DriverRegionsSaid : Prop := driverRegionsRow.holds Tryz.pinned (OpenSpec.ofChange driverRegionsSpec)

/-- ITS FALSE NEIGHBOUR: 'it returns false'. Refute it at one input. -/
def driverRegionsWrong : ChangeSpec := { name := "driverRegions", fn := fun _ => fun
  | [d1, d2] => { results := [.lit (.bool false)], args := [d1, d2] }
  | _ => none }
def DriverRegionsWrongFalsely : Prop := driverRegionsRow.holds Tryz.pinned (OpenSpec.ofChange driverRegionsWrong)

/-- 'wooferlaw03.DriverConflicts': WHATEVER THE INPUT: true; the input reads as it did. -/
def driverConflictsSpec : ChangeSpec := { name := "driverConflicts", fn := fun _ => fun
  | [d1, d2] => { results := [.lit (.bool true)], args := [d1, d2] }
  | _ => none }
def driverConflictsRow : OpenClaim := { program := "ytkndhhnjgpialaagreatdoor", sum := "acf4bd14191cb521f2f335ef3dc945e6320aeb74789d5d1dc663391def2a15e9", func := "woofer/wooferlaw03.DriverConflicts", spec := "driverConflicts", unfollowed := true, recurses := true, named := ["woofer/driver.limits", "internal/strconv.uint64pow10", "math/bits.deBruijn32tab", "math/bits.deBruijn64tab"], apart := false, laid := [("math/bits.deBruijn32tab", laid_math_bits_deBruijn32tab), ("math/bits.deBruijn64tab", laid_math_bits_deBruijn64tab), ("internal/strconv.uint64pow10", laid_internal_strconv_uint64pow10), ("woofer/driver.limits", laid_woofer_driver_limits)] }
def DriverConflictsSaid : Prop := driverConflictsRow.holds Tryz.pinned (OpenSpec.ofChange driverConflictsSpec)

/-- ITS FALSE NEIGHBOUR: 'it returns false'. Refute it at one input. -/
def driverConflictsWrong : ChangeSpec := { name := "driverConflicts", fn := fun _ => fun
  | [d1, d2] => { results := [.lit (.bool false)], args := [d1, d2] }
  | _ => none }
def DriverConflictsWrongFalsely : Prop := driverConflictsRow.holds Tryz.pinned (OpenSpec.ofChange driverConflictsWrong)

/-- 'wooferlaw03.DriverCurves': WHATEVER THE INPUT: true; the input reads as it did. -/
def driverCurvesSpec : ChangeSpec := { name := "driverCurves", fn := fun _ => fun
  | [d1, d2, d3] => { results := [.lit (.bool true)], args := [d1, d2, d3] }
  | _ => none }
def driverCurvesRow : OpenClaim := { program := "ytkndhhnjgpialaagreatdoor", sum := "acf4bd14191cb521f2f335ef3dc945e6320aeb74789d5d1dc663391def2a15e9", func := "woofer/wooferlaw03.DriverCurves", spec := "driverCurves", unfollowed := true, recurses := true, named := ["woofer/driver.limits", "internal/strconv.uint64pow10", "math/bits.deBruijn32tab", "math/bits.deBruijn64tab"], apart := false, laid := [("math/bits.deBruijn32tab", laid_math_bits_deBruijn32tab), ("math/bits.deBruijn64tab", laid_math_bits_deBruijn64tab), ("internal/strconv.uint64pow10", laid_internal_strconv_uint64pow10), ("woofer/driver.limits", laid_woofer_driver_limits)] }
def DriverCurvesSaid : Prop := driverCurvesRow.holds Tryz.pinned (OpenSpec.ofChange driverCurvesSpec)

/-- ITS FALSE NEIGHBOUR: 'it returns false'. Refute it at one input. -/
def driverCurvesWrong : ChangeSpec := { name := "driverCurves", fn := fun _ => fun
  | [d1, d2, d3] => { results := [.lit (.bool false)], args := [d1, d2, d3] }
  | _ => none }
def DriverCurvesWrongFalsely : Prop := driverCurvesRow.holds Tryz.pinned (OpenSpec.ofChange driverCurvesWrong)

/-- 'wooferlaw03.DriverLaws': WHATEVER THE INPUT: true; the input reads as it did. -/
def driverLawsSpec : ChangeSpec := { name := "driverLaws", fn := fun _ => fun
  | [d1, d2, d3] => { results := [.lit (.bool true)], args := [d1, d2, d3] }
  | _ => none }
def driverLawsRow : OpenClaim := { program := "ytkndhhnjgpialaagreatdoor", sum := "acf4bd14191cb521f2f335ef3dc945e6320aeb74789d5d1dc663391def2a15e9", func := "woofer/wooferlaw03.DriverLaws", spec := "driverLaws", unfollowed := true, recurses := true, named := ["woofer/driver.limits", "internal/strconv.uint64pow10", "math/bits.deBruijn32tab", "math/bits.deBruijn64tab"], apart := false, laid := [("math/bits.deBruijn32tab", laid_math_bits_deBruijn32tab), ("math/bits.deBruijn64tab", laid_math_bits_deBruijn64tab), ("internal/strconv.uint64pow10", laid_internal_strconv_uint64pow10), ("woofer/driver.limits", laid_woofer_driver_limits)] }
def DriverLawsSaid : Prop := driverLawsRow.holds Tryz.pinned (OpenSpec.ofChange driverLawsSpec)

/-- ITS FALSE NEIGHBOUR: 'it returns false'. Refute it at one input. -/
def driverLawsWrong : ChangeSpec := { name := "driverLaws", fn := fun _ => fun
  | [d1, d2, d3] => { results := [.lit (.bool false)], args := [d1, d2, d3] }
  | _ => none }
def DriverLawsWrongFalsely : Prop := driverLawsRow.holds Tryz.pinned (OpenSpec.ofChange driverLawsWrong)

/-- 'wooferlaw03.DriverWeighs': WHATEVER THE INPUT: true; the input reads as it did. -/
def driverWeighsSpec : ChangeSpec := { name := "driverWeighs", fn := fun _ => fun
  | [d1, d2] => { results := [.lit (.bool true)], args := [d1, d2] }
  | _ => none }
def driverWeighsRow : OpenClaim := { program := "ytkndhhnjgpialaagreatdoor", sum := "acf4bd14191cb521f2f335ef3dc945e6320aeb74789d5d1dc663391def2a15e9", func := "woofer/wooferlaw03.DriverWeighs", spec := "driverWeighs", unfollowed := true, recurses := true, named := ["woofer/driver.limits", "internal/strconv.uint64pow10", "math/bits.deBruijn32tab", "math/bits.deBruijn64tab"], apart := false, laid := [("math/bits.deBruijn32tab", laid_math_bits_deBruijn32tab), ("math/bits.deBruijn64tab", laid_math_bits_deBruijn64tab), ("internal/strconv.uint64pow10", laid_internal_strconv_uint64pow10), ("woofer/driver.limits", laid_woofer_driver_limits)] }
def DriverWeighsSaid : Prop := driverWeighsRow.holds Tryz.pinned (OpenSpec.ofChange driverWeighsSpec)

/-- ITS FALSE NEIGHBOUR: 'it returns false'. Refute it at one input. -/
def driverWeighsWrong : ChangeSpec := { name := "driverWeighs", fn := fun _ => fun
  | [d1, d2] => { results := [.lit (.bool false)], args := [d1, d2] }
  | _ => none }
def DriverWeighsWrongFalsely : Prop := driverWeighsRow.holds Tryz.pinned (OpenSpec.ofChange driverWeighsWrong)

/-- 'wooferlaw03.DriverHolds': WHATEVER THE INPUT: true; the input reads as it did. -/
def driverHoldsSpec : ChangeSpec := { name := "driverHolds", fn := fun _ => fun
  | [d1, d2, d3] => { results := [.lit (.bool true)], args := [d1, d2, d3] }
  | _ => none }
def driverHoldsRow : OpenClaim := { program := "ytkndhhnjgpialaagreatdoor", sum := "acf4bd14191cb521f2f335ef3dc945e6320aeb74789d5d1dc663391def2a15e9", func := "woofer/wooferlaw03.DriverHolds", spec := "driverHolds", unfollowed := true, recurses := true, named := ["woofer/driver.limits", "internal/strconv.uint64pow10", "math/bits.deBruijn32tab", "math/bits.deBruijn64tab"], apart := false, laid := [("math/bits.deBruijn32tab", laid_math_bits_deBruijn32tab), ("math/bits.deBruijn64tab", laid_math_bits_deBruijn64tab), ("internal/strconv.uint64pow10", laid_internal_strconv_uint64pow10), ("woofer/driver.limits", laid_woofer_driver_limits)] }
def DriverHoldsSaid : Prop := driverHoldsRow.holds Tryz.pinned (OpenSpec.ofChange driverHoldsSpec)

/-- ITS FALSE NEIGHBOUR: 'it returns false'. Refute it at one input. -/
def driverHoldsWrong : ChangeSpec := { name := "driverHolds", fn := fun _ => fun
  | [d1, d2, d3] => { results := [.lit (.bool false)], args := [d1, d2, d3] }
  | _ => none }
def DriverHoldsWrongFalsely : Prop := driverHoldsRow.holds Tryz.pinned (OpenSpec.ofChange driverHoldsWrong)

/-- 'wooferlaw03.DriverEven': WHATEVER THE INPUT: true; the input reads as it did. -/
def driverEvenSpec : ChangeSpec := { name := "driverEven", fn := fun _ => fun
  | [d1, d2, d3] => { results := [.lit (.bool true)], args := [d1, d2, d3] }
  | _ => none }
def driverEvenRow : OpenClaim := { program := "ytkndhhnjgpialaagreatdoor", sum := "acf4bd14191cb521f2f335ef3dc945e6320aeb74789d5d1dc663391def2a15e9", func := "woofer/wooferlaw03.DriverEven", spec := "driverEven", unfollowed := true, recurses := true, named := ["woofer/driver.limits", "internal/strconv.uint64pow10", "math/bits.deBruijn32tab", "math/bits.deBruijn64tab"], apart := false, laid := [("math/bits.deBruijn32tab", laid_math_bits_deBruijn32tab), ("math/bits.deBruijn64tab", laid_math_bits_deBruijn64tab), ("internal/strconv.uint64pow10", laid_internal_strconv_uint64pow10), ("woofer/driver.limits", laid_woofer_driver_limits)] }
def DriverEvenSaid : Prop := driverEvenRow.holds Tryz.pinned (OpenSpec.ofChange driverEvenSpec)

/-- ITS FALSE NEIGHBOUR: 'it returns false'. Refute it at one input. -/
def driverEvenWrong : ChangeSpec := { name := "driverEven", fn := fun _ => fun
  | [d1, d2, d3] => { results := [.lit (.bool false)], args := [d1, d2, d3] }
  | _ => none }
def DriverEvenWrongFalsely : Prop := driverEvenRow.holds Tryz.pinned (OpenSpec.ofChange driverEvenWrong)

/- THE SECOND FORM. 'bulk': how many values and letters a reading holds, each counted each time it is reached (what is shared counts as often as it is met; a slice's spare places count too). A statement '..UptoSaid' is the law's where the arguments, and the package variables that the reading takes, are together of bulk at most 1048576: NARROWER than '..Said'. Prove '..Said' where nothing that the law and all that it calls make is longer than what came in: it says more and counts as full. Else prove '..UptoSaid'. A law counts once. -/
mutual
def uptoBulk {H : Type} : DataW H → Nat
  | .lit (.string bytes) => bytes.length + 1
  | .lit _ => 1
  | .nil => 1
  | .ptr d => uptoBulk d + 1
  | .slice elems spare => uptoBulkAll elems + uptoBulkAll spare + 1
  | .agg parts => uptoBulkAll parts + 1
  | .iface _ d => uptoBulk d + 1
  | .map entries => uptoBulkEntries entries + 1
  | .held _ => 1
def uptoBulkAll {H : Type} : List (DataW H) → Nat
  | [] => 0
  | d :: r => uptoBulk d + uptoBulkAll r
def uptoBulkEntries {H : Type} : List (Lit × DataW H) → Nat
  | [] => 0
  | x :: r => uptoBulkEntry x + uptoBulkEntries r
def uptoBulkEntry {H : Type} : Lit × DataW H → Nat
  | (.string bytes, d) => bytes.length + uptoBulk d + 1
  | (_, d) => uptoBulk d + 1
 end
def uptoSmall : (H : Type) → List (DataW H) → Bool := fun _ ds => decide (uptoBulkAll ds ≤ 1048576)
def OpenSpec.upto (s : _root_.Go.ChangeSpec) : _root_.Go.OpenSpec := { _root_.Go.OpenSpec.ofChange s with cond := some uptoSmall }

/-- 'wooferlaw03.DriverNumbers', WHERE WHAT IT READS IS OF BULK AT MOST 1048576: true; the input reads as it did. -/
def driverNumbersUptoRow : OpenClaim := { program := "ytkndhhnjgpialaagreatdoor", sum := "acf4bd14191cb521f2f335ef3dc945e6320aeb74789d5d1dc663391def2a15e9", func := "woofer/wooferlaw03.DriverNumbers", spec := "driverNumbers", unfollowed := true, recurses := true, named := ["woofer/driver.limits", "internal/strconv.uint64pow10", "math/bits.deBruijn32tab", "math/bits.deBruijn64tab"], apart := false, laid := [("math/bits.deBruijn32tab", laid_math_bits_deBruijn32tab), ("math/bits.deBruijn64tab", laid_math_bits_deBruijn64tab), ("internal/strconv.uint64pow10", laid_internal_strconv_uint64pow10), ("woofer/driver.limits", laid_woofer_driver_limits)], narrowed := true }
def DriverNumbersUptoSaid : Prop := driverNumbersUptoRow.holds Tryz.pinned (OpenSpec.upto driverNumbersSpec)

/-- 'wooferlaw03.DriverTexts', WHERE WHAT IT READS IS OF BULK AT MOST 1048576: true; the input reads as it did. -/
def driverTextsUptoRow : OpenClaim := { program := "ytkndhhnjgpialaagreatdoor", sum := "acf4bd14191cb521f2f335ef3dc945e6320aeb74789d5d1dc663391def2a15e9", func := "woofer/wooferlaw03.DriverTexts", spec := "driverTexts", inPlace := ["internal/bytealg.CountString", "internal/bytealg.IndexByteString", "internal/bytealg.IndexString"], unfollowed := true, recurses := true, named := ["woofer/driver.limits", "internal/strconv.uint64pow10", "math/bits.deBruijn32tab", "math/bits.deBruijn64tab", "unicode/utf8.first", "unicode/utf8.acceptRanges", "internal/bytealg.MaxLen", "strconv.ErrSyntax", "strconv.ErrRange"], apart := false, laid := [("math/bits.deBruijn32tab", laid_math_bits_deBruijn32tab), ("math/bits.deBruijn64tab", laid_math_bits_deBruijn64tab), ("internal/strconv.uint64pow10", laid_internal_strconv_uint64pow10), ("unicode/utf8.acceptRanges", laid_unicode_utf8_acceptRanges), ("strconv.ErrRange", laid_strconv_ErrRange), ("strconv.ErrSyntax", laid_strconv_ErrSyntax), ("woofer/driver.limits", laid_woofer_driver_limits), ("unicode/utf8.first", laid_unicode_utf8_first)], narrowed := true }
def DriverTextsUptoSaid : Prop := driverTextsUptoRow.holds Tryz.pinned (OpenSpec.upto driverTextsSpec)

/-- 'wooferlaw03.DriverBoxes', WHERE WHAT IT READS IS OF BULK AT MOST 1048576: true; the input reads as it did. -/
def driverBoxesUptoRow : OpenClaim := { program := "ytkndhhnjgpialaagreatdoor", sum := "acf4bd14191cb521f2f335ef3dc945e6320aeb74789d5d1dc663391def2a15e9", func := "woofer/wooferlaw03.DriverBoxes", spec := "driverBoxes", unfollowed := true, recurses := true, named := ["woofer/driver.limits", "internal/strconv.uint64pow10", "math/bits.deBruijn32tab", "math/bits.deBruijn64tab"], apart := false, laid := [("math/bits.deBruijn32tab", laid_math_bits_deBruijn32tab), ("math/bits.deBruijn64tab", laid_math_bits_deBruijn64tab), ("internal/strconv.uint64pow10", laid_internal_strconv_uint64pow10), ("woofer/driver.limits", laid_woofer_driver_limits)], narrowed := true }
def DriverBoxesUptoSaid : Prop := driverBoxesUptoRow.holds Tryz.pinned (OpenSpec.upto driverBoxesSpec)

/-- 'wooferlaw03.DriverFigures', WHERE WHAT IT READS IS OF BULK AT MOST 1048576: true; the input reads as it did. -/
def driverFiguresUptoRow : OpenClaim := { program := "ytkndhhnjgpialaagreatdoor", sum := "acf4bd14191cb521f2f335ef3dc945e6320aeb74789d5d1dc663391def2a15e9", func := "woofer/wooferlaw03.DriverFigures", spec := "driverFigures", unfollowed := true, recurses := true, named := ["woofer/driver.limits", "internal/strconv.uint64pow10", "math/bits.deBruijn32tab", "math/bits.deBruijn64tab"], apart := false, laid := [("math/bits.deBruijn32tab", laid_math_bits_deBruijn32tab), ("math/bits.deBruijn64tab", laid_math_bits_deBruijn64tab), ("internal/strconv.uint64pow10", laid_internal_strconv_uint64pow10), ("woofer/driver.limits", laid_woofer_driver_limits)], narrowed := true }
def DriverFiguresUptoSaid : Prop := driverFiguresUptoRow.holds Tryz.pinned (OpenSpec.upto driverFiguresSpec)

/-- 'wooferlaw03.DriverReadings', WHERE WHAT IT READS IS OF BULK AT MOST 1048576: true; the input reads as it did. -/
def driverReadingsUptoRow : OpenClaim := { program := "ytkndhhnjgpialaagreatdoor", sum := "acf4bd14191cb521f2f335ef3dc945e6320aeb74789d5d1dc663391def2a15e9", func := "woofer/wooferlaw03.DriverReadings", spec := "driverReadings", unfollowed := true, recurses := true, named := ["woofer/driver.limits", "internal/strconv.uint64pow10", "math/bits.deBruijn32tab", "math/bits.deBruijn64tab"], apart := false, laid := [("math/bits.deBruijn32tab", laid_math_bits_deBruijn32tab), ("math/bits.deBruijn64tab", laid_math_bits_deBruijn64tab), ("internal/strconv.uint64pow10", laid_internal_strconv_uint64pow10), ("woofer/driver.limits", laid_woofer_driver_limits)], narrowed := true }
def DriverReadingsUptoSaid : Prop := driverReadingsUptoRow.holds Tryz.pinned (OpenSpec.upto driverReadingsSpec)

/-- 'wooferlaw03.DriverRegions', WHERE WHAT IT READS IS OF BULK AT MOST 1048576: true; the input reads as it did. -/
def driverRegionsUptoRow : OpenClaim := { program := "ytkndhhnjgpialaagreatdoor", sum := "acf4bd14191cb521f2f335ef3dc945e6320aeb74789d5d1dc663391def2a15e9", func := "woofer/wooferlaw03.DriverRegions", spec := "driverRegions", unfollowed := true, recurses := true, named := ["woofer/driver.limits", "internal/strconv.uint64pow10", "math/bits.deBruijn32tab", "math/bits.deBruijn64tab"], apart := false, laid := [("math/bits.deBruijn32tab", laid_math_bits_deBruijn32tab), ("math/bits.deBruijn64tab", laid_math_bits_deBruijn64tab), ("internal/strconv.uint64pow10", laid_internal_strconv_uint64pow10), ("woofer/driver.limits", laid_woofer_driver_limits)], narrowed := true }
def DriverRegionsUptoSaid : Prop := driverRegionsUptoRow.holds Tryz.pinned (OpenSpec.upto driverRegionsSpec)

/-- 'wooferlaw03.DriverConflicts', WHERE WHAT IT READS IS OF BULK AT MOST 1048576: true; the input reads as it did. -/
def driverConflictsUptoRow : OpenClaim := { program := "ytkndhhnjgpialaagreatdoor", sum := "acf4bd14191cb521f2f335ef3dc945e6320aeb74789d5d1dc663391def2a15e9", func := "woofer/wooferlaw03.DriverConflicts", spec := "driverConflicts", unfollowed := true, recurses := true, named := ["woofer/driver.limits", "internal/strconv.uint64pow10", "math/bits.deBruijn32tab", "math/bits.deBruijn64tab"], apart := false, laid := [("math/bits.deBruijn32tab", laid_math_bits_deBruijn32tab), ("math/bits.deBruijn64tab", laid_math_bits_deBruijn64tab), ("internal/strconv.uint64pow10", laid_internal_strconv_uint64pow10), ("woofer/driver.limits", laid_woofer_driver_limits)], narrowed := true }
def DriverConflictsUptoSaid : Prop := driverConflictsUptoRow.holds Tryz.pinned (OpenSpec.upto driverConflictsSpec)

/-- 'wooferlaw03.DriverCurves', WHERE WHAT IT READS IS OF BULK AT MOST 1048576: true; the input reads as it did. -/
def driverCurvesUptoRow : OpenClaim := { program := "ytkndhhnjgpialaagreatdoor", sum := "acf4bd14191cb521f2f335ef3dc945e6320aeb74789d5d1dc663391def2a15e9", func := "woofer/wooferlaw03.DriverCurves", spec := "driverCurves", unfollowed := true, recurses := true, named := ["woofer/driver.limits", "internal/strconv.uint64pow10", "math/bits.deBruijn32tab", "math/bits.deBruijn64tab"], apart := false, laid := [("math/bits.deBruijn32tab", laid_math_bits_deBruijn32tab), ("math/bits.deBruijn64tab", laid_math_bits_deBruijn64tab), ("internal/strconv.uint64pow10", laid_internal_strconv_uint64pow10), ("woofer/driver.limits", laid_woofer_driver_limits)], narrowed := true }
def DriverCurvesUptoSaid : Prop := driverCurvesUptoRow.holds Tryz.pinned (OpenSpec.upto driverCurvesSpec)

/-- 'wooferlaw03.DriverLaws', WHERE WHAT IT READS IS OF BULK AT MOST 1048576: true; the input reads as it did. -/
def driverLawsUptoRow : OpenClaim := { program := "ytkndhhnjgpialaagreatdoor", sum := "acf4bd14191cb521f2f335ef3dc945e6320aeb74789d5d1dc663391def2a15e9", func := "woofer/wooferlaw03.DriverLaws", spec := "driverLaws", unfollowed := true, recurses := true, named := ["woofer/driver.limits", "internal/strconv.uint64pow10", "math/bits.deBruijn32tab", "math/bits.deBruijn64tab"], apart := false, laid := [("math/bits.deBruijn32tab", laid_math_bits_deBruijn32tab), ("math/bits.deBruijn64tab", laid_math_bits_deBruijn64tab), ("internal/strconv.uint64pow10", laid_internal_strconv_uint64pow10), ("woofer/driver.limits", laid_woofer_driver_limits)], narrowed := true }
def DriverLawsUptoSaid : Prop := driverLawsUptoRow.holds Tryz.pinned (OpenSpec.upto driverLawsSpec)

/-- 'wooferlaw03.DriverWeighs', WHERE WHAT IT READS IS OF BULK AT MOST 1048576: true; the input reads as it did. -/
def driverWeighsUptoRow : OpenClaim := { program := "ytkndhhnjgpialaagreatdoor", sum := "acf4bd14191cb521f2f335ef3dc945e6320aeb74789d5d1dc663391def2a15e9", func := "woofer/wooferlaw03.DriverWeighs", spec := "driverWeighs", unfollowed := true, recurses := true, named := ["woofer/driver.limits", "internal/strconv.uint64pow10", "math/bits.deBruijn32tab", "math/bits.deBruijn64tab"], apart := false, laid := [("math/bits.deBruijn32tab", laid_math_bits_deBruijn32tab), ("math/bits.deBruijn64tab", laid_math_bits_deBruijn64tab), ("internal/strconv.uint64pow10", laid_internal_strconv_uint64pow10), ("woofer/driver.limits", laid_woofer_driver_limits)], narrowed := true }
def DriverWeighsUptoSaid : Prop := driverWeighsUptoRow.holds Tryz.pinned (OpenSpec.upto driverWeighsSpec)

/-- 'wooferlaw03.DriverHolds', WHERE WHAT IT READS IS OF BULK AT MOST 1048576: true; the input reads as it did. -/
def driverHoldsUptoRow : OpenClaim := { program := "ytkndhhnjgpialaagreatdoor", sum := "acf4bd14191cb521f2f335ef3dc945e6320aeb74789d5d1dc663391def2a15e9", func := "woofer/wooferlaw03.DriverHolds", spec := "driverHolds", unfollowed := true, recurses := true, named := ["woofer/driver.limits", "internal/strconv.uint64pow10", "math/bits.deBruijn32tab", "math/bits.deBruijn64tab"], apart := false, laid := [("math/bits.deBruijn32tab", laid_math_bits_deBruijn32tab), ("math/bits.deBruijn64tab", laid_math_bits_deBruijn64tab), ("internal/strconv.uint64pow10", laid_internal_strconv_uint64pow10), ("woofer/driver.limits", laid_woofer_driver_limits)], narrowed := true }
def DriverHoldsUptoSaid : Prop := driverHoldsUptoRow.holds Tryz.pinned (OpenSpec.upto driverHoldsSpec)

/-- 'wooferlaw03.DriverEven', WHERE WHAT IT READS IS OF BULK AT MOST 1048576: true; the input reads as it did. -/
def driverEvenUptoRow : OpenClaim := { program := "ytkndhhnjgpialaagreatdoor", sum := "acf4bd14191cb521f2f335ef3dc945e6320aeb74789d5d1dc663391def2a15e9", func := "woofer/wooferlaw03.DriverEven", spec := "driverEven", unfollowed := true, recurses := true, named := ["woofer/driver.limits", "internal/strconv.uint64pow10", "math/bits.deBruijn32tab", "math/bits.deBruijn64tab"], apart := false, laid := [("math/bits.deBruijn32tab", laid_math_bits_deBruijn32tab), ("math/bits.deBruijn64tab", laid_math_bits_deBruijn64tab), ("internal/strconv.uint64pow10", laid_internal_strconv_uint64pow10), ("woofer/driver.limits", laid_woofer_driver_limits)], narrowed := true }
def DriverEvenUptoSaid : Prop := driverEvenUptoRow.holds Tryz.pinned (OpenSpec.upto driverEvenSpec)

end Rows
end Go.Proofs.YtkndhhnjgpialaaGreatDoor
