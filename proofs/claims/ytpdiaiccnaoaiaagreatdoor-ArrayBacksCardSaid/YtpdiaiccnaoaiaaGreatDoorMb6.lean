/-
Joined: Gd, Ge, AwS, AwA, AwB, AwC, AwD, AwZ, Gf, AbF, Ab29.
-/
import Derived.Test.YtpdiaiccnaoaiaaGreatDoorMb5
import Derived.OpenShut
import Derived.KernelRfl
import Derived.Test.YtpdiaiccnaoaiaaGreatDoorMb2
import Derived.Lib.LaidTab
import Derived.ReadAgain
import Derived.ChangeCalls
import Derived.RowKit
set_option linter.unusedVariables false
set_option linter.unusedSimpArgs false
set_option linter.unusedSectionVars false
/-
What functions give.
-/
namespace Go.Proofs.YtpdiaiccnaoaiaaGreatDoor
open Go Go.Abs
def ha_c0 (x0 : Int) (x1 : Int) (x2 : Int) (x3 : Int) (x4 : Int) (x5 : Int) (x6 : Int) (x7 : Int) : Bool := cv_r0 x0 x1 x2 x3 x4 x5 x6 x7 != 0
theorem ha_p0 (x0 : Int) (x1 : Int) (x2 : Int) (x3 : Int) (x4 : Int) (x5 : Int) (x6 : Int) (x7 : Int) (h0 : ha_c0 x0 x1 x2 x3 x4 x5 x6 x7 = true) : Gives Tryz.prog envGc 0 41 [(.agg #[(.int .i64 (x0)), (.int .i64 (x1)), (.int .i64 (x2)), (.int .i64 (x3)), (.int .i64 (x4)), (.int .i64 (x5)), (.int .i64 (x6)), (.int .i64 (x7))])] heap0 ((.tuple #[(.agg #[(.int .i64 (0)), (.int .i64 (0)), (.int .i64 (0)), (.int .i64 (0)), (.int .i64 (0)), (.int .i64 (0)), (.int .i64 (0)), (.int .i64 (0))]), (.int .i64 (cv_r0 x0 x1 x2 x3 x4 x5 x6 x7))]), heap0) :=
  Gives.by (n := 1000) (os := [.br 41 18 true]) (os' := []) (by kernel_rfl) (ObsOK.cond h0 (ObsOK.nil))
theorem ha_p1 (x0 : Int) (x1 : Int) (x2 : Int) (x3 : Int) (x4 : Int) (x5 : Int) (x6 : Int) (x7 : Int) (h0 : ha_c0 x0 x1 x2 x3 x4 x5 x6 x7 = false) : Gives Tryz.prog envGc 0 41 [(.agg #[(.int .i64 (x0)), (.int .i64 (x1)), (.int .i64 (x2)), (.int .i64 (x3)), (.int .i64 (x4)), (.int .i64 (x5)), (.int .i64 (x6)), (.int .i64 (x7))])] heap0 ((.tuple #[(.agg #[(.int .i64 (sN_r0 x0 x1 x2 x3 x4 x5 x6 x7)), (.int .i64 (sN_r1 x0 x1 x2 x3 x4 x5 x6 x7)), (.int .i64 (sN_r2 x0 x1 x2 x3 x4 x5 x6 x7)), (.int .i64 (sN_r3 x0 x1 x2 x3 x4 x5 x6 x7)), (.int .i64 (sN_r4 x0 x1 x2 x3 x4 x5 x6 x7)), (.int .i64 (sN_r5 x0 x1 x2 x3 x4 x5 x6 x7)), (.int .i64 (sN_r6 x0 x1 x2 x3 x4 x5 x6 x7)), (.int .i64 (sN_r7 x0 x1 x2 x3 x4 x5 x6 x7))]), (.int .i64 (0))]), heap0) :=
  Gives.by (n := 1000) (os := [.br 41 18 false]) (os' := []) (by kernel_rfl) (ObsOK.cond h0 (ObsOK.nil))
def ha_r0 (x0 : Int) (x1 : Int) (x2 : Int) (x3 : Int) (x4 : Int) (x5 : Int) (x6 : Int) (x7 : Int) : Int := (cond (ha_c0 x0 x1 x2 x3 x4 x5 x6 x7) (0) (sN_r0 x0 x1 x2 x3 x4 x5 x6 x7))
def ha_r1 (x0 : Int) (x1 : Int) (x2 : Int) (x3 : Int) (x4 : Int) (x5 : Int) (x6 : Int) (x7 : Int) : Int := (cond (ha_c0 x0 x1 x2 x3 x4 x5 x6 x7) (0) (sN_r1 x0 x1 x2 x3 x4 x5 x6 x7))
def ha_r2 (x0 : Int) (x1 : Int) (x2 : Int) (x3 : Int) (x4 : Int) (x5 : Int) (x6 : Int) (x7 : Int) : Int := (cond (ha_c0 x0 x1 x2 x3 x4 x5 x6 x7) (0) (sN_r2 x0 x1 x2 x3 x4 x5 x6 x7))
def ha_r3 (x0 : Int) (x1 : Int) (x2 : Int) (x3 : Int) (x4 : Int) (x5 : Int) (x6 : Int) (x7 : Int) : Int := (cond (ha_c0 x0 x1 x2 x3 x4 x5 x6 x7) (0) (sN_r3 x0 x1 x2 x3 x4 x5 x6 x7))
def ha_r4 (x0 : Int) (x1 : Int) (x2 : Int) (x3 : Int) (x4 : Int) (x5 : Int) (x6 : Int) (x7 : Int) : Int := (cond (ha_c0 x0 x1 x2 x3 x4 x5 x6 x7) (0) (sN_r4 x0 x1 x2 x3 x4 x5 x6 x7))
def ha_r5 (x0 : Int) (x1 : Int) (x2 : Int) (x3 : Int) (x4 : Int) (x5 : Int) (x6 : Int) (x7 : Int) : Int := (cond (ha_c0 x0 x1 x2 x3 x4 x5 x6 x7) (0) (sN_r5 x0 x1 x2 x3 x4 x5 x6 x7))
def ha_r6 (x0 : Int) (x1 : Int) (x2 : Int) (x3 : Int) (x4 : Int) (x5 : Int) (x6 : Int) (x7 : Int) : Int := (cond (ha_c0 x0 x1 x2 x3 x4 x5 x6 x7) (0) (sN_r6 x0 x1 x2 x3 x4 x5 x6 x7))
def ha_r7 (x0 : Int) (x1 : Int) (x2 : Int) (x3 : Int) (x4 : Int) (x5 : Int) (x6 : Int) (x7 : Int) : Int := (cond (ha_c0 x0 x1 x2 x3 x4 x5 x6 x7) (0) (sN_r7 x0 x1 x2 x3 x4 x5 x6 x7))
def ha_r8 (x0 : Int) (x1 : Int) (x2 : Int) (x3 : Int) (x4 : Int) (x5 : Int) (x6 : Int) (x7 : Int) : Int := (cond (ha_c0 x0 x1 x2 x3 x4 x5 x6 x7) (cv_r0 x0 x1 x2 x3 x4 x5 x6 x7) (0))
theorem ha_gives (x0 : Int) (x1 : Int) (x2 : Int) (x3 : Int) (x4 : Int) (x5 : Int) (x6 : Int) (x7 : Int) : Gives Tryz.prog envGc 0 41 [(.agg #[(.int .i64 (x0)), (.int .i64 (x1)), (.int .i64 (x2)), (.int .i64 (x3)), (.int .i64 (x4)), (.int .i64 (x5)), (.int .i64 (x6)), (.int .i64 (x7))])] heap0 ((.tuple #[(.agg #[(.int .i64 (ha_r0 x0 x1 x2 x3 x4 x5 x6 x7)), (.int .i64 (ha_r1 x0 x1 x2 x3 x4 x5 x6 x7)), (.int .i64 (ha_r2 x0 x1 x2 x3 x4 x5 x6 x7)), (.int .i64 (ha_r3 x0 x1 x2 x3 x4 x5 x6 x7)), (.int .i64 (ha_r4 x0 x1 x2 x3 x4 x5 x6 x7)), (.int .i64 (ha_r5 x0 x1 x2 x3 x4 x5 x6 x7)), (.int .i64 (ha_r6 x0 x1 x2 x3 x4 x5 x6 x7)), (.int .i64 (ha_r7 x0 x1 x2 x3 x4 x5 x6 x7))]), (.int .i64 (ha_r8 x0 x1 x2 x3 x4 x5 x6 x7))]), heap0) := by
  cases g0 : ha_c0 x0 x1 x2 x3 x4 x5 x6 x7
  · skip
    simp only [ha_r0, ha_r1, ha_r2, ha_r3, ha_r4, ha_r5, ha_r6, ha_r7, ha_r8, g0, cond_true, cond_false]; exact ha_p1 x0 x1 x2 x3 x4 x5 x6 x7 g0
  · skip
    simp only [ha_r0, ha_r1, ha_r2, ha_r3, ha_r4, ha_r5, ha_r6, ha_r7, ha_r8, g0, cond_true, cond_false]; exact ha_p0 x0 x1 x2 x3 x4 x5 x6 x7 g0
def ba_c0 (x0 : Int) (x1 : Int) (x2 : Int) (x3 : Int) (x4 : Int) (x5 : Int) (x6 : Int) (x7 : Int) : Bool := cv_r0 x0 x1 x2 x3 x4 x5 x6 x7 != 0
def ba_c1 (x0 : Int) (x1 : Int) (x2 : Int) (x3 : Int) (x4 : Int) (x5 : Int) (x6 : Int) (x7 : Int) : Bool := !(sN_r0 (IntKind.i64.wrap ((sP_r0 x0 x1 x2 x3 x4 x5 x6 x7).tdiv 4)) (IntKind.i64.wrap ((sP_r1 x0 x1 x2 x3 x4 x5 x6 x7).tdiv 4)) (IntKind.i64.wrap ((sP_r2 x0 x1 x2 x3 x4 x5 x6 x7).tdiv 4)) (IntKind.i64.wrap ((sP_r3 x0 x1 x2 x3 x4 x5 x6 x7).tdiv 4)) (IntKind.i64.wrap ((sP_r4 x0 x1 x2 x3 x4 x5 x6 x7).tdiv 4)) (IntKind.i64.wrap ((sP_r5 x0 x1 x2 x3 x4 x5 x6 x7).tdiv 4)) (IntKind.i64.wrap ((sP_r6 x0 x1 x2 x3 x4 x5 x6 x7).tdiv 4)) (IntKind.i64.wrap ((sP_r7 x0 x1 x2 x3 x4 x5 x6 x7).tdiv 4)) == x0 && (sN_r1 (IntKind.i64.wrap ((sP_r0 x0 x1 x2 x3 x4 x5 x6 x7).tdiv 4)) (IntKind.i64.wrap ((sP_r1 x0 x1 x2 x3 x4 x5 x6 x7).tdiv 4)) (IntKind.i64.wrap ((sP_r2 x0 x1 x2 x3 x4 x5 x6 x7).tdiv 4)) (IntKind.i64.wrap ((sP_r3 x0 x1 x2 x3 x4 x5 x6 x7).tdiv 4)) (IntKind.i64.wrap ((sP_r4 x0 x1 x2 x3 x4 x5 x6 x7).tdiv 4)) (IntKind.i64.wrap ((sP_r5 x0 x1 x2 x3 x4 x5 x6 x7).tdiv 4)) (IntKind.i64.wrap ((sP_r6 x0 x1 x2 x3 x4 x5 x6 x7).tdiv 4)) (IntKind.i64.wrap ((sP_r7 x0 x1 x2 x3 x4 x5 x6 x7).tdiv 4)) == x1 && true) && (sN_r2 (IntKind.i64.wrap ((sP_r0 x0 x1 x2 x3 x4 x5 x6 x7).tdiv 4)) (IntKind.i64.wrap ((sP_r1 x0 x1 x2 x3 x4 x5 x6 x7).tdiv 4)) (IntKind.i64.wrap ((sP_r2 x0 x1 x2 x3 x4 x5 x6 x7).tdiv 4)) (IntKind.i64.wrap ((sP_r3 x0 x1 x2 x3 x4 x5 x6 x7).tdiv 4)) (IntKind.i64.wrap ((sP_r4 x0 x1 x2 x3 x4 x5 x6 x7).tdiv 4)) (IntKind.i64.wrap ((sP_r5 x0 x1 x2 x3 x4 x5 x6 x7).tdiv 4)) (IntKind.i64.wrap ((sP_r6 x0 x1 x2 x3 x4 x5 x6 x7).tdiv 4)) (IntKind.i64.wrap ((sP_r7 x0 x1 x2 x3 x4 x5 x6 x7).tdiv 4)) == x2 && (sN_r3 (IntKind.i64.wrap ((sP_r0 x0 x1 x2 x3 x4 x5 x6 x7).tdiv 4)) (IntKind.i64.wrap ((sP_r1 x0 x1 x2 x3 x4 x5 x6 x7).tdiv 4)) (IntKind.i64.wrap ((sP_r2 x0 x1 x2 x3 x4 x5 x6 x7).tdiv 4)) (IntKind.i64.wrap ((sP_r3 x0 x1 x2 x3 x4 x5 x6 x7).tdiv 4)) (IntKind.i64.wrap ((sP_r4 x0 x1 x2 x3 x4 x5 x6 x7).tdiv 4)) (IntKind.i64.wrap ((sP_r5 x0 x1 x2 x3 x4 x5 x6 x7).tdiv 4)) (IntKind.i64.wrap ((sP_r6 x0 x1 x2 x3 x4 x5 x6 x7).tdiv 4)) (IntKind.i64.wrap ((sP_r7 x0 x1 x2 x3 x4 x5 x6 x7).tdiv 4)) == x3 && true) && (sN_r4 (IntKind.i64.wrap ((sP_r0 x0 x1 x2 x3 x4 x5 x6 x7).tdiv 4)) (IntKind.i64.wrap ((sP_r1 x0 x1 x2 x3 x4 x5 x6 x7).tdiv 4)) (IntKind.i64.wrap ((sP_r2 x0 x1 x2 x3 x4 x5 x6 x7).tdiv 4)) (IntKind.i64.wrap ((sP_r3 x0 x1 x2 x3 x4 x5 x6 x7).tdiv 4)) (IntKind.i64.wrap ((sP_r4 x0 x1 x2 x3 x4 x5 x6 x7).tdiv 4)) (IntKind.i64.wrap ((sP_r5 x0 x1 x2 x3 x4 x5 x6 x7).tdiv 4)) (IntKind.i64.wrap ((sP_r6 x0 x1 x2 x3 x4 x5 x6 x7).tdiv 4)) (IntKind.i64.wrap ((sP_r7 x0 x1 x2 x3 x4 x5 x6 x7).tdiv 4)) == x4 && (sN_r5 (IntKind.i64.wrap ((sP_r0 x0 x1 x2 x3 x4 x5 x6 x7).tdiv 4)) (IntKind.i64.wrap ((sP_r1 x0 x1 x2 x3 x4 x5 x6 x7).tdiv 4)) (IntKind.i64.wrap ((sP_r2 x0 x1 x2 x3 x4 x5 x6 x7).tdiv 4)) (IntKind.i64.wrap ((sP_r3 x0 x1 x2 x3 x4 x5 x6 x7).tdiv 4)) (IntKind.i64.wrap ((sP_r4 x0 x1 x2 x3 x4 x5 x6 x7).tdiv 4)) (IntKind.i64.wrap ((sP_r5 x0 x1 x2 x3 x4 x5 x6 x7).tdiv 4)) (IntKind.i64.wrap ((sP_r6 x0 x1 x2 x3 x4 x5 x6 x7).tdiv 4)) (IntKind.i64.wrap ((sP_r7 x0 x1 x2 x3 x4 x5 x6 x7).tdiv 4)) == x5 && true) && (sN_r6 (IntKind.i64.wrap ((sP_r0 x0 x1 x2 x3 x4 x5 x6 x7).tdiv 4)) (IntKind.i64.wrap ((sP_r1 x0 x1 x2 x3 x4 x5 x6 x7).tdiv 4)) (IntKind.i64.wrap ((sP_r2 x0 x1 x2 x3 x4 x5 x6 x7).tdiv 4)) (IntKind.i64.wrap ((sP_r3 x0 x1 x2 x3 x4 x5 x6 x7).tdiv 4)) (IntKind.i64.wrap ((sP_r4 x0 x1 x2 x3 x4 x5 x6 x7).tdiv 4)) (IntKind.i64.wrap ((sP_r5 x0 x1 x2 x3 x4 x5 x6 x7).tdiv 4)) (IntKind.i64.wrap ((sP_r6 x0 x1 x2 x3 x4 x5 x6 x7).tdiv 4)) (IntKind.i64.wrap ((sP_r7 x0 x1 x2 x3 x4 x5 x6 x7).tdiv 4)) == x6 && (sN_r7 (IntKind.i64.wrap ((sP_r0 x0 x1 x2 x3 x4 x5 x6 x7).tdiv 4)) (IntKind.i64.wrap ((sP_r1 x0 x1 x2 x3 x4 x5 x6 x7).tdiv 4)) (IntKind.i64.wrap ((sP_r2 x0 x1 x2 x3 x4 x5 x6 x7).tdiv 4)) (IntKind.i64.wrap ((sP_r3 x0 x1 x2 x3 x4 x5 x6 x7).tdiv 4)) (IntKind.i64.wrap ((sP_r4 x0 x1 x2 x3 x4 x5 x6 x7).tdiv 4)) (IntKind.i64.wrap ((sP_r5 x0 x1 x2 x3 x4 x5 x6 x7).tdiv 4)) (IntKind.i64.wrap ((sP_r6 x0 x1 x2 x3 x4 x5 x6 x7).tdiv 4)) (IntKind.i64.wrap ((sP_r7 x0 x1 x2 x3 x4 x5 x6 x7).tdiv 4)) == x7 && true) && true))))
theorem ba_p0 (x0 : Int) (x1 : Int) (x2 : Int) (x3 : Int) (x4 : Int) (x5 : Int) (x6 : Int) (x7 : Int) (h0 : ba_c0 x0 x1 x2 x3 x4 x5 x6 x7 = true) : Gives Tryz.prog envGc 0 42 [(.agg #[(.int .i64 (x0)), (.int .i64 (x1)), (.int .i64 (x2)), (.int .i64 (x3)), (.int .i64 (x4)), (.int .i64 (x5)), (.int .i64 (x6)), (.int .i64 (x7))])] heap0 ((.tuple #[(.agg #[(.int .i64 (0)), (.int .i64 (0)), (.int .i64 (0)), (.int .i64 (0)), (.int .i64 (0)), (.int .i64 (0)), (.int .i64 (0)), (.int .i64 (0))]), (.int .i64 (cv_r0 x0 x1 x2 x3 x4 x5 x6 x7))]), heap0) :=
  Gives.by (n := 1000) (os := [.br 42 24 true]) (os' := []) (by kernel_rfl) (ObsOK.cond h0 (ObsOK.nil))
theorem ba_p1 (x0 : Int) (x1 : Int) (x2 : Int) (x3 : Int) (x4 : Int) (x5 : Int) (x6 : Int) (x7 : Int) (h0 : ba_c0 x0 x1 x2 x3 x4 x5 x6 x7 = false) (h1 : ba_c1 x0 x1 x2 x3 x4 x5 x6 x7 = true) : Gives Tryz.prog envGc 0 42 [(.agg #[(.int .i64 (x0)), (.int .i64 (x1)), (.int .i64 (x2)), (.int .i64 (x3)), (.int .i64 (x4)), (.int .i64 (x5)), (.int .i64 (x6)), (.int .i64 (x7))])] heap0 ((.tuple #[(.agg #[(.int .i64 (0)), (.int .i64 (0)), (.int .i64 (0)), (.int .i64 (0)), (.int .i64 (0)), (.int .i64 (0)), (.int .i64 (0)), (.int .i64 (0))]), (.int .i64 (30))]), heap0) :=
  Gives.by (n := 1000) (os := [.br 42 24 false, .br 42 68 true]) (os' := []) (by kernel_rfl) (ObsOK.cond h0 (ObsOK.cond h1 (ObsOK.nil)))
theorem ba_p2 (x0 : Int) (x1 : Int) (x2 : Int) (x3 : Int) (x4 : Int) (x5 : Int) (x6 : Int) (x7 : Int) (h0 : ba_c0 x0 x1 x2 x3 x4 x5 x6 x7 = false) (h1 : ba_c1 x0 x1 x2 x3 x4 x5 x6 x7 = false) : Gives Tryz.prog envGc 0 42 [(.agg #[(.int .i64 (x0)), (.int .i64 (x1)), (.int .i64 (x2)), (.int .i64 (x3)), (.int .i64 (x4)), (.int .i64 (x5)), (.int .i64 (x6)), (.int .i64 (x7))])] heap0 ((.tuple #[(.agg #[(.int .i64 (IntKind.i64.wrap ((sP_r0 x0 x1 x2 x3 x4 x5 x6 x7).tdiv 4))), (.int .i64 (IntKind.i64.wrap ((sP_r1 x0 x1 x2 x3 x4 x5 x6 x7).tdiv 4))), (.int .i64 (IntKind.i64.wrap ((sP_r2 x0 x1 x2 x3 x4 x5 x6 x7).tdiv 4))), (.int .i64 (IntKind.i64.wrap ((sP_r3 x0 x1 x2 x3 x4 x5 x6 x7).tdiv 4))), (.int .i64 (IntKind.i64.wrap ((sP_r4 x0 x1 x2 x3 x4 x5 x6 x7).tdiv 4))), (.int .i64 (IntKind.i64.wrap ((sP_r5 x0 x1 x2 x3 x4 x5 x6 x7).tdiv 4))), (.int .i64 (IntKind.i64.wrap ((sP_r6 x0 x1 x2 x3 x4 x5 x6 x7).tdiv 4))), (.int .i64 (IntKind.i64.wrap ((sP_r7 x0 x1 x2 x3 x4 x5 x6 x7).tdiv 4)))]), (.int .i64 (0))]), heap0) :=
  Gives.by (n := 1000) (os := [.br 42 24 false, .br 42 68 false]) (os' := []) (by kernel_rfl) (ObsOK.cond h0 (ObsOK.cond h1 (ObsOK.nil)))
def ba_r0 (x0 : Int) (x1 : Int) (x2 : Int) (x3 : Int) (x4 : Int) (x5 : Int) (x6 : Int) (x7 : Int) : Int := (cond (ba_c0 x0 x1 x2 x3 x4 x5 x6 x7) (0) (cond (ba_c1 x0 x1 x2 x3 x4 x5 x6 x7) (0) (IntKind.i64.wrap ((sP_r0 x0 x1 x2 x3 x4 x5 x6 x7).tdiv 4))))
def ba_r1 (x0 : Int) (x1 : Int) (x2 : Int) (x3 : Int) (x4 : Int) (x5 : Int) (x6 : Int) (x7 : Int) : Int := (cond (ba_c0 x0 x1 x2 x3 x4 x5 x6 x7) (0) (cond (ba_c1 x0 x1 x2 x3 x4 x5 x6 x7) (0) (IntKind.i64.wrap ((sP_r1 x0 x1 x2 x3 x4 x5 x6 x7).tdiv 4))))
def ba_r2 (x0 : Int) (x1 : Int) (x2 : Int) (x3 : Int) (x4 : Int) (x5 : Int) (x6 : Int) (x7 : Int) : Int := (cond (ba_c0 x0 x1 x2 x3 x4 x5 x6 x7) (0) (cond (ba_c1 x0 x1 x2 x3 x4 x5 x6 x7) (0) (IntKind.i64.wrap ((sP_r2 x0 x1 x2 x3 x4 x5 x6 x7).tdiv 4))))
def ba_r3 (x0 : Int) (x1 : Int) (x2 : Int) (x3 : Int) (x4 : Int) (x5 : Int) (x6 : Int) (x7 : Int) : Int := (cond (ba_c0 x0 x1 x2 x3 x4 x5 x6 x7) (0) (cond (ba_c1 x0 x1 x2 x3 x4 x5 x6 x7) (0) (IntKind.i64.wrap ((sP_r3 x0 x1 x2 x3 x4 x5 x6 x7).tdiv 4))))
def ba_r4 (x0 : Int) (x1 : Int) (x2 : Int) (x3 : Int) (x4 : Int) (x5 : Int) (x6 : Int) (x7 : Int) : Int := (cond (ba_c0 x0 x1 x2 x3 x4 x5 x6 x7) (0) (cond (ba_c1 x0 x1 x2 x3 x4 x5 x6 x7) (0) (IntKind.i64.wrap ((sP_r4 x0 x1 x2 x3 x4 x5 x6 x7).tdiv 4))))
def ba_r5 (x0 : Int) (x1 : Int) (x2 : Int) (x3 : Int) (x4 : Int) (x5 : Int) (x6 : Int) (x7 : Int) : Int := (cond (ba_c0 x0 x1 x2 x3 x4 x5 x6 x7) (0) (cond (ba_c1 x0 x1 x2 x3 x4 x5 x6 x7) (0) (IntKind.i64.wrap ((sP_r5 x0 x1 x2 x3 x4 x5 x6 x7).tdiv 4))))
def ba_r6 (x0 : Int) (x1 : Int) (x2 : Int) (x3 : Int) (x4 : Int) (x5 : Int) (x6 : Int) (x7 : Int) : Int := (cond (ba_c0 x0 x1 x2 x3 x4 x5 x6 x7) (0) (cond (ba_c1 x0 x1 x2 x3 x4 x5 x6 x7) (0) (IntKind.i64.wrap ((sP_r6 x0 x1 x2 x3 x4 x5 x6 x7).tdiv 4))))
def ba_r7 (x0 : Int) (x1 : Int) (x2 : Int) (x3 : Int) (x4 : Int) (x5 : Int) (x6 : Int) (x7 : Int) : Int := (cond (ba_c0 x0 x1 x2 x3 x4 x5 x6 x7) (0) (cond (ba_c1 x0 x1 x2 x3 x4 x5 x6 x7) (0) (IntKind.i64.wrap ((sP_r7 x0 x1 x2 x3 x4 x5 x6 x7).tdiv 4))))
def ba_r8 (x0 : Int) (x1 : Int) (x2 : Int) (x3 : Int) (x4 : Int) (x5 : Int) (x6 : Int) (x7 : Int) : Int := (cond (ba_c0 x0 x1 x2 x3 x4 x5 x6 x7) (cv_r0 x0 x1 x2 x3 x4 x5 x6 x7) (cond (ba_c1 x0 x1 x2 x3 x4 x5 x6 x7) (30) (0)))
theorem ba_gives (x0 : Int) (x1 : Int) (x2 : Int) (x3 : Int) (x4 : Int) (x5 : Int) (x6 : Int) (x7 : Int) : Gives Tryz.prog envGc 0 42 [(.agg #[(.int .i64 (x0)), (.int .i64 (x1)), (.int .i64 (x2)), (.int .i64 (x3)), (.int .i64 (x4)), (.int .i64 (x5)), (.int .i64 (x6)), (.int .i64 (x7))])] heap0 ((.tuple #[(.agg #[(.int .i64 (ba_r0 x0 x1 x2 x3 x4 x5 x6 x7)), (.int .i64 (ba_r1 x0 x1 x2 x3 x4 x5 x6 x7)), (.int .i64 (ba_r2 x0 x1 x2 x3 x4 x5 x6 x7)), (.int .i64 (ba_r3 x0 x1 x2 x3 x4 x5 x6 x7)), (.int .i64 (ba_r4 x0 x1 x2 x3 x4 x5 x6 x7)), (.int .i64 (ba_r5 x0 x1 x2 x3 x4 x5 x6 x7)), (.int .i64 (ba_r6 x0 x1 x2 x3 x4 x5 x6 x7)), (.int .i64 (ba_r7 x0 x1 x2 x3 x4 x5 x6 x7))]), (.int .i64 (ba_r8 x0 x1 x2 x3 x4 x5 x6 x7))]), heap0) := by
  cases g0 : ba_c0 x0 x1 x2 x3 x4 x5 x6 x7
  · skip
    cases g1 : ba_c1 x0 x1 x2 x3 x4 x5 x6 x7
    · skip
      simp only [ba_r0, ba_r1, ba_r2, ba_r3, ba_r4, ba_r5, ba_r6, ba_r7, ba_r8, g0, g1, cond_true, cond_false]; exact ba_p2 x0 x1 x2 x3 x4 x5 x6 x7 g0 g1
    · skip
      simp only [ba_r0, ba_r1, ba_r2, ba_r3, ba_r4, ba_r5, ba_r6, ba_r7, ba_r8, g0, g1, cond_true, cond_false]; exact ba_p1 x0 x1 x2 x3 x4 x5 x6 x7 g0 g1
  · skip
    simp only [ba_r0, ba_r1, ba_r2, ba_r3, ba_r4, ba_r5, ba_r6, ba_r7, ba_r8, g0, cond_true, cond_false]; exact ba_p0 x0 x1 x2 x3 x4 x5 x6 x7 g0
theorem rsN_p0 (x0 : Int) (x1 : Int) (x2 : Int) (x3 : Int) (x4 : Int) (x5 : Int) (x6 : Int) (x7 : Int) : Gives Tryz.prog envGc 0 96 [(.agg #[(.int .i64 (x0)), (.int .i64 (x1)), (.int .i64 (x2)), (.int .i64 (x3)), (.int .i64 (x4)), (.int .i64 (x5)), (.int .i64 (x6)), (.int .i64 (x7))]), (.int .i64 (-1))] heapN ((.agg #[(.int .i64 (IntKind.i64.wrap (IntKind.i64.wrap (IntKind.i64.wrap (IntKind.i64.wrap (0 + x0) + x2) + x4) + x6))), (.int .i64 (IntKind.i64.wrap (IntKind.i64.wrap (IntKind.i64.wrap (IntKind.i64.wrap (0 + x1) + x3) + x5) + x7))), (.int .i64 (IntKind.i64.wrap (IntKind.i64.wrap (IntKind.i64.wrap (IntKind.i64.wrap (0 + x0) + IntKind.i64.wrap (0 - IntKind.i64.wrap (0 - x3))) + IntKind.i64.wrap (0 - x4)) + IntKind.i64.wrap (0 - x7)))), (.int .i64 (IntKind.i64.wrap (IntKind.i64.wrap (IntKind.i64.wrap (IntKind.i64.wrap (0 + x1) + IntKind.i64.wrap (0 - x2)) + IntKind.i64.wrap (0 - x5)) + x6))), (.int .i64 (IntKind.i64.wrap (IntKind.i64.wrap (IntKind.i64.wrap (IntKind.i64.wrap (0 + x0) + IntKind.i64.wrap (0 - x2)) + x4) + IntKind.i64.wrap (0 - x6)))), (.int .i64 (IntKind.i64.wrap (IntKind.i64.wrap (IntKind.i64.wrap (IntKind.i64.wrap (0 + x1) + IntKind.i64.wrap (0 - x3)) + x5) + IntKind.i64.wrap (0 - x7)))), (.int .i64 (IntKind.i64.wrap (IntKind.i64.wrap (IntKind.i64.wrap (IntKind.i64.wrap (0 + x0) + IntKind.i64.wrap (0 - x3)) + IntKind.i64.wrap (0 - x4)) + IntKind.i64.wrap (0 - IntKind.i64.wrap (0 - x7))))), (.int .i64 (IntKind.i64.wrap (IntKind.i64.wrap (IntKind.i64.wrap (IntKind.i64.wrap (0 + x1) + x2) + IntKind.i64.wrap (0 - x5)) + IntKind.i64.wrap (0 - x6))))]), heapN) :=
  Gives.by (n := 1000) (os := []) (os' := []) (by kernel_rfl) (ObsOK.nil)
def rsN_r0 (x0 : Int) (x1 : Int) (x2 : Int) (x3 : Int) (x4 : Int) (x5 : Int) (x6 : Int) (x7 : Int) : Int := (IntKind.i64.wrap (IntKind.i64.wrap (IntKind.i64.wrap (IntKind.i64.wrap (0 + x0) + x2) + x4) + x6))
def rsN_r1 (x0 : Int) (x1 : Int) (x2 : Int) (x3 : Int) (x4 : Int) (x5 : Int) (x6 : Int) (x7 : Int) : Int := (IntKind.i64.wrap (IntKind.i64.wrap (IntKind.i64.wrap (IntKind.i64.wrap (0 + x1) + x3) + x5) + x7))
def rsN_r2 (x0 : Int) (x1 : Int) (x2 : Int) (x3 : Int) (x4 : Int) (x5 : Int) (x6 : Int) (x7 : Int) : Int := (IntKind.i64.wrap (IntKind.i64.wrap (IntKind.i64.wrap (IntKind.i64.wrap (0 + x0) + IntKind.i64.wrap (0 - IntKind.i64.wrap (0 - x3))) + IntKind.i64.wrap (0 - x4)) + IntKind.i64.wrap (0 - x7)))
def rsN_r3 (x0 : Int) (x1 : Int) (x2 : Int) (x3 : Int) (x4 : Int) (x5 : Int) (x6 : Int) (x7 : Int) : Int := (IntKind.i64.wrap (IntKind.i64.wrap (IntKind.i64.wrap (IntKind.i64.wrap (0 + x1) + IntKind.i64.wrap (0 - x2)) + IntKind.i64.wrap (0 - x5)) + x6))
def rsN_r4 (x0 : Int) (x1 : Int) (x2 : Int) (x3 : Int) (x4 : Int) (x5 : Int) (x6 : Int) (x7 : Int) : Int := (IntKind.i64.wrap (IntKind.i64.wrap (IntKind.i64.wrap (IntKind.i64.wrap (0 + x0) + IntKind.i64.wrap (0 - x2)) + x4) + IntKind.i64.wrap (0 - x6)))
def rsN_r5 (x0 : Int) (x1 : Int) (x2 : Int) (x3 : Int) (x4 : Int) (x5 : Int) (x6 : Int) (x7 : Int) : Int := (IntKind.i64.wrap (IntKind.i64.wrap (IntKind.i64.wrap (IntKind.i64.wrap (0 + x1) + IntKind.i64.wrap (0 - x3)) + x5) + IntKind.i64.wrap (0 - x7)))
def rsN_r6 (x0 : Int) (x1 : Int) (x2 : Int) (x3 : Int) (x4 : Int) (x5 : Int) (x6 : Int) (x7 : Int) : Int := (IntKind.i64.wrap (IntKind.i64.wrap (IntKind.i64.wrap (IntKind.i64.wrap (0 + x0) + IntKind.i64.wrap (0 - x3)) + IntKind.i64.wrap (0 - x4)) + IntKind.i64.wrap (0 - IntKind.i64.wrap (0 - x7))))
def rsN_r7 (x0 : Int) (x1 : Int) (x2 : Int) (x3 : Int) (x4 : Int) (x5 : Int) (x6 : Int) (x7 : Int) : Int := (IntKind.i64.wrap (IntKind.i64.wrap (IntKind.i64.wrap (IntKind.i64.wrap (0 + x1) + x2) + IntKind.i64.wrap (0 - x5)) + IntKind.i64.wrap (0 - x6)))
theorem rsN_gives (x0 : Int) (x1 : Int) (x2 : Int) (x3 : Int) (x4 : Int) (x5 : Int) (x6 : Int) (x7 : Int) : Gives Tryz.prog envGc 0 96 [(.agg #[(.int .i64 (x0)), (.int .i64 (x1)), (.int .i64 (x2)), (.int .i64 (x3)), (.int .i64 (x4)), (.int .i64 (x5)), (.int .i64 (x6)), (.int .i64 (x7))]), (.int .i64 (-1))] heapN ((.agg #[(.int .i64 (rsN_r0 x0 x1 x2 x3 x4 x5 x6 x7)), (.int .i64 (rsN_r1 x0 x1 x2 x3 x4 x5 x6 x7)), (.int .i64 (rsN_r2 x0 x1 x2 x3 x4 x5 x6 x7)), (.int .i64 (rsN_r3 x0 x1 x2 x3 x4 x5 x6 x7)), (.int .i64 (rsN_r4 x0 x1 x2 x3 x4 x5 x6 x7)), (.int .i64 (rsN_r5 x0 x1 x2 x3 x4 x5 x6 x7)), (.int .i64 (rsN_r6 x0 x1 x2 x3 x4 x5 x6 x7)), (.int .i64 (rsN_r7 x0 x1 x2 x3 x4 x5 x6 x7))]), heapN) := by
  simp only [rsN_r0, rsN_r1, rsN_r2, rsN_r3, rsN_r4, rsN_r5, rsN_r6, rsN_r7, cond_true, cond_false]; exact rsN_p0 x0 x1 x2 x3 x4 x5 x6 x7
theorem rsP_p0 (x0 : Int) (x1 : Int) (x2 : Int) (x3 : Int) (x4 : Int) (x5 : Int) (x6 : Int) (x7 : Int) : Gives Tryz.prog envGc 0 96 [(.agg #[(.int .i64 (x0)), (.int .i64 (x1)), (.int .i64 (x2)), (.int .i64 (x3)), (.int .i64 (x4)), (.int .i64 (x5)), (.int .i64 (x6)), (.int .i64 (x7))]), (.int .i64 (1))] heapN ((.agg #[(.int .i64 (IntKind.i64.wrap (IntKind.i64.wrap (IntKind.i64.wrap (IntKind.i64.wrap (0 + x0) + x2) + x4) + x6))), (.int .i64 (IntKind.i64.wrap (IntKind.i64.wrap (IntKind.i64.wrap (IntKind.i64.wrap (0 + x1) + x3) + x5) + x7))), (.int .i64 (IntKind.i64.wrap (IntKind.i64.wrap (IntKind.i64.wrap (IntKind.i64.wrap (0 + x0) + IntKind.i64.wrap (0 - x3)) + IntKind.i64.wrap (0 - x4)) + IntKind.i64.wrap (0 - IntKind.i64.wrap (0 - x7))))), (.int .i64 (IntKind.i64.wrap (IntKind.i64.wrap (IntKind.i64.wrap (IntKind.i64.wrap (0 + x1) + x2) + IntKind.i64.wrap (0 - x5)) + IntKind.i64.wrap (0 - x6)))), (.int .i64 (IntKind.i64.wrap (IntKind.i64.wrap (IntKind.i64.wrap (IntKind.i64.wrap (0 + x0) + IntKind.i64.wrap (0 - x2)) + x4) + IntKind.i64.wrap (0 - x6)))), (.int .i64 (IntKind.i64.wrap (IntKind.i64.wrap (IntKind.i64.wrap (IntKind.i64.wrap (0 + x1) + IntKind.i64.wrap (0 - x3)) + x5) + IntKind.i64.wrap (0 - x7)))), (.int .i64 (IntKind.i64.wrap (IntKind.i64.wrap (IntKind.i64.wrap (IntKind.i64.wrap (0 + x0) + IntKind.i64.wrap (0 - IntKind.i64.wrap (0 - x3))) + IntKind.i64.wrap (0 - x4)) + IntKind.i64.wrap (0 - x7)))), (.int .i64 (IntKind.i64.wrap (IntKind.i64.wrap (IntKind.i64.wrap (IntKind.i64.wrap (0 + x1) + IntKind.i64.wrap (0 - x2)) + IntKind.i64.wrap (0 - x5)) + x6)))]), heapN) :=
  Gives.by (n := 1000) (os := []) (os' := []) (by kernel_rfl) (ObsOK.nil)
def rsP_r0 (x0 : Int) (x1 : Int) (x2 : Int) (x3 : Int) (x4 : Int) (x5 : Int) (x6 : Int) (x7 : Int) : Int := (IntKind.i64.wrap (IntKind.i64.wrap (IntKind.i64.wrap (IntKind.i64.wrap (0 + x0) + x2) + x4) + x6))
def rsP_r1 (x0 : Int) (x1 : Int) (x2 : Int) (x3 : Int) (x4 : Int) (x5 : Int) (x6 : Int) (x7 : Int) : Int := (IntKind.i64.wrap (IntKind.i64.wrap (IntKind.i64.wrap (IntKind.i64.wrap (0 + x1) + x3) + x5) + x7))
def rsP_r2 (x0 : Int) (x1 : Int) (x2 : Int) (x3 : Int) (x4 : Int) (x5 : Int) (x6 : Int) (x7 : Int) : Int := (IntKind.i64.wrap (IntKind.i64.wrap (IntKind.i64.wrap (IntKind.i64.wrap (0 + x0) + IntKind.i64.wrap (0 - x3)) + IntKind.i64.wrap (0 - x4)) + IntKind.i64.wrap (0 - IntKind.i64.wrap (0 - x7))))
def rsP_r3 (x0 : Int) (x1 : Int) (x2 : Int) (x3 : Int) (x4 : Int) (x5 : Int) (x6 : Int) (x7 : Int) : Int := (IntKind.i64.wrap (IntKind.i64.wrap (IntKind.i64.wrap (IntKind.i64.wrap (0 + x1) + x2) + IntKind.i64.wrap (0 - x5)) + IntKind.i64.wrap (0 - x6)))
def rsP_r4 (x0 : Int) (x1 : Int) (x2 : Int) (x3 : Int) (x4 : Int) (x5 : Int) (x6 : Int) (x7 : Int) : Int := (IntKind.i64.wrap (IntKind.i64.wrap (IntKind.i64.wrap (IntKind.i64.wrap (0 + x0) + IntKind.i64.wrap (0 - x2)) + x4) + IntKind.i64.wrap (0 - x6)))
def rsP_r5 (x0 : Int) (x1 : Int) (x2 : Int) (x3 : Int) (x4 : Int) (x5 : Int) (x6 : Int) (x7 : Int) : Int := (IntKind.i64.wrap (IntKind.i64.wrap (IntKind.i64.wrap (IntKind.i64.wrap (0 + x1) + IntKind.i64.wrap (0 - x3)) + x5) + IntKind.i64.wrap (0 - x7)))
def rsP_r6 (x0 : Int) (x1 : Int) (x2 : Int) (x3 : Int) (x4 : Int) (x5 : Int) (x6 : Int) (x7 : Int) : Int := (IntKind.i64.wrap (IntKind.i64.wrap (IntKind.i64.wrap (IntKind.i64.wrap (0 + x0) + IntKind.i64.wrap (0 - IntKind.i64.wrap (0 - x3))) + IntKind.i64.wrap (0 - x4)) + IntKind.i64.wrap (0 - x7)))
def rsP_r7 (x0 : Int) (x1 : Int) (x2 : Int) (x3 : Int) (x4 : Int) (x5 : Int) (x6 : Int) (x7 : Int) : Int := (IntKind.i64.wrap (IntKind.i64.wrap (IntKind.i64.wrap (IntKind.i64.wrap (0 + x1) + IntKind.i64.wrap (0 - x2)) + IntKind.i64.wrap (0 - x5)) + x6))
theorem rsP_gives (x0 : Int) (x1 : Int) (x2 : Int) (x3 : Int) (x4 : Int) (x5 : Int) (x6 : Int) (x7 : Int) : Gives Tryz.prog envGc 0 96 [(.agg #[(.int .i64 (x0)), (.int .i64 (x1)), (.int .i64 (x2)), (.int .i64 (x3)), (.int .i64 (x4)), (.int .i64 (x5)), (.int .i64 (x6)), (.int .i64 (x7))]), (.int .i64 (1))] heapN ((.agg #[(.int .i64 (rsP_r0 x0 x1 x2 x3 x4 x5 x6 x7)), (.int .i64 (rsP_r1 x0 x1 x2 x3 x4 x5 x6 x7)), (.int .i64 (rsP_r2 x0 x1 x2 x3 x4 x5 x6 x7)), (.int .i64 (rsP_r3 x0 x1 x2 x3 x4 x5 x6 x7)), (.int .i64 (rsP_r4 x0 x1 x2 x3 x4 x5 x6 x7)), (.int .i64 (rsP_r5 x0 x1 x2 x3 x4 x5 x6 x7)), (.int .i64 (rsP_r6 x0 x1 x2 x3 x4 x5 x6 x7)), (.int .i64 (rsP_r7 x0 x1 x2 x3 x4 x5 x6 x7))]), heapN) := by
  simp only [rsP_r0, rsP_r1, rsP_r2, rsP_r3, rsP_r4, rsP_r5, rsP_r6, rsP_r7, cond_true, cond_false]; exact rsP_p0 x0 x1 x2 x3 x4 x5 x6 x7
def B_envGd_41 (args : List Value) : Option (Heap × Value) :=
    match args with
    | [(.agg ⟨[(.int .i64 (x0)), (.int .i64 (x1)), (.int .i64 (x2)), (.int .i64 (x3)), (.int .i64 (x4)), (.int .i64 (x5)), (.int .i64 (x6)), (.int .i64 (x7))]⟩)] => some (heap0, (.tuple #[(.agg #[(.int .i64 (ha_r0 x0 x1 x2 x3 x4 x5 x6 x7)), (.int .i64 (ha_r1 x0 x1 x2 x3 x4 x5 x6 x7)), (.int .i64 (ha_r2 x0 x1 x2 x3 x4 x5 x6 x7)), (.int .i64 (ha_r3 x0 x1 x2 x3 x4 x5 x6 x7)), (.int .i64 (ha_r4 x0 x1 x2 x3 x4 x5 x6 x7)), (.int .i64 (ha_r5 x0 x1 x2 x3 x4 x5 x6 x7)), (.int .i64 (ha_r6 x0 x1 x2 x3 x4 x5 x6 x7)), (.int .i64 (ha_r7 x0 x1 x2 x3 x4 x5 x6 x7))]), (.int .i64 (ha_r8 x0 x1 x2 x3 x4 x5 x6 x7))]))
    | _ => none
theorem B_envGd_41_ok {args : List Value} {H : Heap} {v : Value} (h : B_envGd_41 args = some (H, v)) : 8 ≤ H.length ∧ H.all tableRow = true ∧ Gives Tryz.prog envGc 0 41 args H (v, H) := by
  unfold B_envGd_41 at h
  split at h
  · cases h; exact heap0_ok (ha_gives _ _ _ _ _ _ _ _)
  · cases h
def B_envGd_42 (args : List Value) : Option (Heap × Value) :=
    match args with
    | [(.agg ⟨[(.int .i64 (x0)), (.int .i64 (x1)), (.int .i64 (x2)), (.int .i64 (x3)), (.int .i64 (x4)), (.int .i64 (x5)), (.int .i64 (x6)), (.int .i64 (x7))]⟩)] => some (heap0, (.tuple #[(.agg #[(.int .i64 (ba_r0 x0 x1 x2 x3 x4 x5 x6 x7)), (.int .i64 (ba_r1 x0 x1 x2 x3 x4 x5 x6 x7)), (.int .i64 (ba_r2 x0 x1 x2 x3 x4 x5 x6 x7)), (.int .i64 (ba_r3 x0 x1 x2 x3 x4 x5 x6 x7)), (.int .i64 (ba_r4 x0 x1 x2 x3 x4 x5 x6 x7)), (.int .i64 (ba_r5 x0 x1 x2 x3 x4 x5 x6 x7)), (.int .i64 (ba_r6 x0 x1 x2 x3 x4 x5 x6 x7)), (.int .i64 (ba_r7 x0 x1 x2 x3 x4 x5 x6 x7))]), (.int .i64 (ba_r8 x0 x1 x2 x3 x4 x5 x6 x7))]))
    | _ => none
theorem B_envGd_42_ok {args : List Value} {H : Heap} {v : Value} (h : B_envGd_42 args = some (H, v)) : 8 ≤ H.length ∧ H.all tableRow = true ∧ Gives Tryz.prog envGc 0 42 args H (v, H) := by
  unfold B_envGd_42 at h
  split at h
  · cases h; exact heap0_ok (ba_gives _ _ _ _ _ _ _ _)
  · cases h
def B_envGd_96 (args : List Value) : Option (Heap × Value) :=
    match args with
    | [(.agg ⟨[(.int .i64 (x0)), (.int .i64 (x1)), (.int .i64 (x2)), (.int .i64 (x3)), (.int .i64 (x4)), (.int .i64 (x5)), (.int .i64 (x6)), (.int .i64 (x7))]⟩), (.int .i64 (-1))] => some (heapN, (.agg #[(.int .i64 (rsN_r0 x0 x1 x2 x3 x4 x5 x6 x7)), (.int .i64 (rsN_r1 x0 x1 x2 x3 x4 x5 x6 x7)), (.int .i64 (rsN_r2 x0 x1 x2 x3 x4 x5 x6 x7)), (.int .i64 (rsN_r3 x0 x1 x2 x3 x4 x5 x6 x7)), (.int .i64 (rsN_r4 x0 x1 x2 x3 x4 x5 x6 x7)), (.int .i64 (rsN_r5 x0 x1 x2 x3 x4 x5 x6 x7)), (.int .i64 (rsN_r6 x0 x1 x2 x3 x4 x5 x6 x7)), (.int .i64 (rsN_r7 x0 x1 x2 x3 x4 x5 x6 x7))]))
    | [(.agg ⟨[(.int .i64 (x0)), (.int .i64 (x1)), (.int .i64 (x2)), (.int .i64 (x3)), (.int .i64 (x4)), (.int .i64 (x5)), (.int .i64 (x6)), (.int .i64 (x7))]⟩), (.int .i64 (1))] => some (heapN, (.agg #[(.int .i64 (rsP_r0 x0 x1 x2 x3 x4 x5 x6 x7)), (.int .i64 (rsP_r1 x0 x1 x2 x3 x4 x5 x6 x7)), (.int .i64 (rsP_r2 x0 x1 x2 x3 x4 x5 x6 x7)), (.int .i64 (rsP_r3 x0 x1 x2 x3 x4 x5 x6 x7)), (.int .i64 (rsP_r4 x0 x1 x2 x3 x4 x5 x6 x7)), (.int .i64 (rsP_r5 x0 x1 x2 x3 x4 x5 x6 x7)), (.int .i64 (rsP_r6 x0 x1 x2 x3 x4 x5 x6 x7)), (.int .i64 (rsP_r7 x0 x1 x2 x3 x4 x5 x6 x7))]))
    | _ => none
theorem B_envGd_96_ok {args : List Value} {H : Heap} {v : Value} (h : B_envGd_96 args = some (H, v)) : 8 ≤ H.length ∧ H.all tableRow = true ∧ Gives Tryz.prog envGc 0 96 args H (v, H) := by
  unfold B_envGd_96 at h
  split at h
  · cases h; exact heapN_ok (rsN_gives _ _ _ _ _ _ _ _)
  · cases h; exact heapN_ok (rsP_gives _ _ _ _ _ _ _ _)
  · cases h
def B_envGd (f : FuncId) (args : List Value) : Option (Heap × Value) :=
  if f == 41 then B_envGd_41 args else
  if f == 42 then B_envGd_42 args else
  if f == 96 then B_envGd_96 args else
  none
noncomputable def envGd : Env := envGc.with (baseKnown B_envGd)
theorem envGd_ok : EnvOK Tryz.prog 8 envGd := env_base prog_ok envGc_ok fun f args H v h => by
  unfold B_envGd at h
  split at h
  · rename_i hf
    have hf : f = 41 := by simpa using hf
    subst hf
    exact B_envGd_41_ok h
  · skip
    split at h
    · rename_i hf
      have hf : f = 42 := by simpa using hf
      subst hf
      exact B_envGd_42_ok h
    · skip
      split at h
      · rename_i hf
        have hf : f = 96 := by simpa using hf
        subst hf
        exact B_envGd_96_ok h
      · skip
        cases h
end Go.Proofs.YtpdiaiccnaoaiaaGreatDoor
/-
What functions give.
-/
namespace Go.Proofs.YtpdiaiccnaoaiaaGreatDoor
open Go Go.Abs
def rb_c0 (x0 : Int) (x1 : Int) (x2 : Int) (x3 : Int) (x4 : Int) (x5 : Int) (x6 : Int) (x7 : Int) : Bool := (rsP_r0 x0 x1 x2 x3 x4 x5 x6 x7).tmod 4 != 0
def rb_c1 (x0 : Int) (x1 : Int) (x2 : Int) (x3 : Int) (x4 : Int) (x5 : Int) (x6 : Int) (x7 : Int) : Bool := (rsP_r1 x0 x1 x2 x3 x4 x5 x6 x7).tmod 4 != 0
def rb_c2 (x0 : Int) (x1 : Int) (x2 : Int) (x3 : Int) (x4 : Int) (x5 : Int) (x6 : Int) (x7 : Int) : Bool := (rsP_r2 x0 x1 x2 x3 x4 x5 x6 x7).tmod 4 != 0
def rb_c3 (x0 : Int) (x1 : Int) (x2 : Int) (x3 : Int) (x4 : Int) (x5 : Int) (x6 : Int) (x7 : Int) : Bool := (rsP_r3 x0 x1 x2 x3 x4 x5 x6 x7).tmod 4 != 0
def rb_c4 (x0 : Int) (x1 : Int) (x2 : Int) (x3 : Int) (x4 : Int) (x5 : Int) (x6 : Int) (x7 : Int) : Bool := (rsP_r4 x0 x1 x2 x3 x4 x5 x6 x7).tmod 4 != 0
def rb_c5 (x0 : Int) (x1 : Int) (x2 : Int) (x3 : Int) (x4 : Int) (x5 : Int) (x6 : Int) (x7 : Int) : Bool := (rsP_r5 x0 x1 x2 x3 x4 x5 x6 x7).tmod 4 != 0
def rb_c6 (x0 : Int) (x1 : Int) (x2 : Int) (x3 : Int) (x4 : Int) (x5 : Int) (x6 : Int) (x7 : Int) : Bool := (rsP_r6 x0 x1 x2 x3 x4 x5 x6 x7).tmod 4 != 0
def rb_c7 (x0 : Int) (x1 : Int) (x2 : Int) (x3 : Int) (x4 : Int) (x5 : Int) (x6 : Int) (x7 : Int) : Bool := (rsP_r7 x0 x1 x2 x3 x4 x5 x6 x7).tmod 4 != 0
theorem rb_p0 (x0 : Int) (x1 : Int) (x2 : Int) (x3 : Int) (x4 : Int) (x5 : Int) (x6 : Int) (x7 : Int) (h0 : rb_c0 x0 x1 x2 x3 x4 x5 x6 x7 = true) : Gives Tryz.prog envGd 0 45 [(.agg #[(.int .i64 (x0)), (.int .i64 (x1)), (.int .i64 (x2)), (.int .i64 (x3)), (.int .i64 (x4)), (.int .i64 (x5)), (.int .i64 (x6)), (.int .i64 (x7))])] heapN ((.tuple #[(.agg #[(.int .i64 (0)), (.int .i64 (0)), (.int .i64 (0)), (.int .i64 (0)), (.int .i64 (0)), (.int .i64 (0)), (.int .i64 (0)), (.int .i64 (0))]), (.int .i64 (30))]), heapN) :=
  Gives.by (n := 1000) (os := [.br 45 38 true, .br 45 38 true, .br 45 38 true, .br 45 38 true, .br 45 38 true, .br 45 38 true, .br 45 53 true]) (os' := []) (by kernel_rfl) (ObsOK.cond h0 (ObsOK.cond h0 (ObsOK.cond h0 (ObsOK.cond h0 (ObsOK.cond h0 (ObsOK.cond h0 (ObsOK.cond h0 (ObsOK.nil))))))))
theorem rb_p1 (x0 : Int) (x1 : Int) (x2 : Int) (x3 : Int) (x4 : Int) (x5 : Int) (x6 : Int) (x7 : Int) (h0 : rb_c0 x0 x1 x2 x3 x4 x5 x6 x7 = false) (h1 : rb_c1 x0 x1 x2 x3 x4 x5 x6 x7 = true) : Gives Tryz.prog envGd 0 45 [(.agg #[(.int .i64 (x0)), (.int .i64 (x1)), (.int .i64 (x2)), (.int .i64 (x3)), (.int .i64 (x4)), (.int .i64 (x5)), (.int .i64 (x6)), (.int .i64 (x7))])] heapN ((.tuple #[(.agg #[(.int .i64 (0)), (.int .i64 (0)), (.int .i64 (0)), (.int .i64 (0)), (.int .i64 (0)), (.int .i64 (0)), (.int .i64 (0)), (.int .i64 (0))]), (.int .i64 (30))]), heapN) :=
  Gives.by (n := 1000) (os := [.br 45 38 false, .br 45 38 false, .br 45 38 false, .br 45 38 false, .br 45 38 false, .br 45 38 false, .br 45 53 false, .br 45 52 true]) (os' := []) (by kernel_rfl) (ObsOK.cond h0 (ObsOK.cond h0 (ObsOK.cond h0 (ObsOK.cond h0 (ObsOK.cond h0 (ObsOK.cond h0 (ObsOK.cond h0 (ObsOK.cond h1 (ObsOK.nil)))))))))
theorem rb_p2 (x0 : Int) (x1 : Int) (x2 : Int) (x3 : Int) (x4 : Int) (x5 : Int) (x6 : Int) (x7 : Int) (h0 : rb_c0 x0 x1 x2 x3 x4 x5 x6 x7 = false) (h1 : rb_c1 x0 x1 x2 x3 x4 x5 x6 x7 = false) (h2 : rb_c2 x0 x1 x2 x3 x4 x5 x6 x7 = true) : Gives Tryz.prog envGd 0 45 [(.agg #[(.int .i64 (x0)), (.int .i64 (x1)), (.int .i64 (x2)), (.int .i64 (x3)), (.int .i64 (x4)), (.int .i64 (x5)), (.int .i64 (x6)), (.int .i64 (x7))])] heapN ((.tuple #[(.agg #[(.int .i64 (0)), (.int .i64 (0)), (.int .i64 (0)), (.int .i64 (0)), (.int .i64 (0)), (.int .i64 (0)), (.int .i64 (0)), (.int .i64 (0))]), (.int .i64 (30))]), heapN) :=
  Gives.by (n := 1000) (os := [.br 45 38 false, .br 45 38 false, .br 45 38 false, .br 45 38 false, .br 45 38 false, .br 45 38 false, .br 45 53 false, .br 45 52 false, .br 45 38 true, .br 45 38 true, .br 45 38 true, .br 45 38 true, .br 45 38 true, .br 45 38 true, .br 45 53 true]) (os' := []) (by kernel_rfl) (ObsOK.cond h0 (ObsOK.cond h0 (ObsOK.cond h0 (ObsOK.cond h0 (ObsOK.cond h0 (ObsOK.cond h0 (ObsOK.cond h0 (ObsOK.cond h1 (ObsOK.cond h2 (ObsOK.cond h2 (ObsOK.cond h2 (ObsOK.cond h2 (ObsOK.cond h2 (ObsOK.cond h2 (ObsOK.cond h2 (ObsOK.nil))))))))))))))))
theorem rb_p3 (x0 : Int) (x1 : Int) (x2 : Int) (x3 : Int) (x4 : Int) (x5 : Int) (x6 : Int) (x7 : Int) (h0 : rb_c0 x0 x1 x2 x3 x4 x5 x6 x7 = false) (h1 : rb_c1 x0 x1 x2 x3 x4 x5 x6 x7 = false) (h2 : rb_c2 x0 x1 x2 x3 x4 x5 x6 x7 = false) (h3 : rb_c3 x0 x1 x2 x3 x4 x5 x6 x7 = true) : Gives Tryz.prog envGd 0 45 [(.agg #[(.int .i64 (x0)), (.int .i64 (x1)), (.int .i64 (x2)), (.int .i64 (x3)), (.int .i64 (x4)), (.int .i64 (x5)), (.int .i64 (x6)), (.int .i64 (x7))])] heapN ((.tuple #[(.agg #[(.int .i64 (0)), (.int .i64 (0)), (.int .i64 (0)), (.int .i64 (0)), (.int .i64 (0)), (.int .i64 (0)), (.int .i64 (0)), (.int .i64 (0))]), (.int .i64 (30))]), heapN) :=
  Gives.by (n := 1000) (os := [.br 45 38 false, .br 45 38 false, .br 45 38 false, .br 45 38 false, .br 45 38 false, .br 45 38 false, .br 45 53 false, .br 45 52 false, .br 45 38 false, .br 45 38 false, .br 45 38 false, .br 45 38 false, .br 45 38 false, .br 45 38 false, .br 45 53 false, .br 45 52 true]) (os' := []) (by kernel_rfl) (ObsOK.cond h0 (ObsOK.cond h0 (ObsOK.cond h0 (ObsOK.cond h0 (ObsOK.cond h0 (ObsOK.cond h0 (ObsOK.cond h0 (ObsOK.cond h1 (ObsOK.cond h2 (ObsOK.cond h2 (ObsOK.cond h2 (ObsOK.cond h2 (ObsOK.cond h2 (ObsOK.cond h2 (ObsOK.cond h2 (ObsOK.cond h3 (ObsOK.nil)))))))))))))))))
theorem rb_p4 (x0 : Int) (x1 : Int) (x2 : Int) (x3 : Int) (x4 : Int) (x5 : Int) (x6 : Int) (x7 : Int) (h0 : rb_c0 x0 x1 x2 x3 x4 x5 x6 x7 = false) (h1 : rb_c1 x0 x1 x2 x3 x4 x5 x6 x7 = false) (h2 : rb_c2 x0 x1 x2 x3 x4 x5 x6 x7 = false) (h3 : rb_c3 x0 x1 x2 x3 x4 x5 x6 x7 = false) (h4 : rb_c4 x0 x1 x2 x3 x4 x5 x6 x7 = true) : Gives Tryz.prog envGd 0 45 [(.agg #[(.int .i64 (x0)), (.int .i64 (x1)), (.int .i64 (x2)), (.int .i64 (x3)), (.int .i64 (x4)), (.int .i64 (x5)), (.int .i64 (x6)), (.int .i64 (x7))])] heapN ((.tuple #[(.agg #[(.int .i64 (0)), (.int .i64 (0)), (.int .i64 (0)), (.int .i64 (0)), (.int .i64 (0)), (.int .i64 (0)), (.int .i64 (0)), (.int .i64 (0))]), (.int .i64 (30))]), heapN) :=
  Gives.by (n := 1000) (os := [.br 45 38 false, .br 45 38 false, .br 45 38 false, .br 45 38 false, .br 45 38 false, .br 45 38 false, .br 45 53 false, .br 45 52 false, .br 45 38 false, .br 45 38 false, .br 45 38 false, .br 45 38 false, .br 45 38 false, .br 45 38 false, .br 45 53 false, .br 45 52 false, .br 45 38 true, .br 45 38 true, .br 45 38 true, .br 45 38 true, .br 45 38 true, .br 45 38 true, .br 45 53 true]) (os' := []) (by kernel_rfl) (ObsOK.cond h0 (ObsOK.cond h0 (ObsOK.cond h0 (ObsOK.cond h0 (ObsOK.cond h0 (ObsOK.cond h0 (ObsOK.cond h0 (ObsOK.cond h1 (ObsOK.cond h2 (ObsOK.cond h2 (ObsOK.cond h2 (ObsOK.cond h2 (ObsOK.cond h2 (ObsOK.cond h2 (ObsOK.cond h2 (ObsOK.cond h3 (ObsOK.cond h4 (ObsOK.cond h4 (ObsOK.cond h4 (ObsOK.cond h4 (ObsOK.cond h4 (ObsOK.cond h4 (ObsOK.cond h4 (ObsOK.nil))))))))))))))))))))))))
theorem rb_p5 (x0 : Int) (x1 : Int) (x2 : Int) (x3 : Int) (x4 : Int) (x5 : Int) (x6 : Int) (x7 : Int) (h0 : rb_c0 x0 x1 x2 x3 x4 x5 x6 x7 = false) (h1 : rb_c1 x0 x1 x2 x3 x4 x5 x6 x7 = false) (h2 : rb_c2 x0 x1 x2 x3 x4 x5 x6 x7 = false) (h3 : rb_c3 x0 x1 x2 x3 x4 x5 x6 x7 = false) (h4 : rb_c4 x0 x1 x2 x3 x4 x5 x6 x7 = false) (h5 : rb_c5 x0 x1 x2 x3 x4 x5 x6 x7 = true) : Gives Tryz.prog envGd 0 45 [(.agg #[(.int .i64 (x0)), (.int .i64 (x1)), (.int .i64 (x2)), (.int .i64 (x3)), (.int .i64 (x4)), (.int .i64 (x5)), (.int .i64 (x6)), (.int .i64 (x7))])] heapN ((.tuple #[(.agg #[(.int .i64 (0)), (.int .i64 (0)), (.int .i64 (0)), (.int .i64 (0)), (.int .i64 (0)), (.int .i64 (0)), (.int .i64 (0)), (.int .i64 (0))]), (.int .i64 (30))]), heapN) :=
  Gives.by (n := 1000) (os := [.br 45 38 false, .br 45 38 false, .br 45 38 false, .br 45 38 false, .br 45 38 false, .br 45 38 false, .br 45 53 false, .br 45 52 false, .br 45 38 false, .br 45 38 false, .br 45 38 false, .br 45 38 false, .br 45 38 false, .br 45 38 false, .br 45 53 false, .br 45 52 false, .br 45 38 false, .br 45 38 false, .br 45 38 false, .br 45 38 false, .br 45 38 false, .br 45 38 false, .br 45 53 false, .br 45 52 true]) (os' := []) (by kernel_rfl) (ObsOK.cond h0 (ObsOK.cond h0 (ObsOK.cond h0 (ObsOK.cond h0 (ObsOK.cond h0 (ObsOK.cond h0 (ObsOK.cond h0 (ObsOK.cond h1 (ObsOK.cond h2 (ObsOK.cond h2 (ObsOK.cond h2 (ObsOK.cond h2 (ObsOK.cond h2 (ObsOK.cond h2 (ObsOK.cond h2 (ObsOK.cond h3 (ObsOK.cond h4 (ObsOK.cond h4 (ObsOK.cond h4 (ObsOK.cond h4 (ObsOK.cond h4 (ObsOK.cond h4 (ObsOK.cond h4 (ObsOK.cond h5 (ObsOK.nil)))))))))))))))))))))))))
theorem rb_p6 (x0 : Int) (x1 : Int) (x2 : Int) (x3 : Int) (x4 : Int) (x5 : Int) (x6 : Int) (x7 : Int) (h0 : rb_c0 x0 x1 x2 x3 x4 x5 x6 x7 = false) (h1 : rb_c1 x0 x1 x2 x3 x4 x5 x6 x7 = false) (h2 : rb_c2 x0 x1 x2 x3 x4 x5 x6 x7 = false) (h3 : rb_c3 x0 x1 x2 x3 x4 x5 x6 x7 = false) (h4 : rb_c4 x0 x1 x2 x3 x4 x5 x6 x7 = false) (h5 : rb_c5 x0 x1 x2 x3 x4 x5 x6 x7 = false) (h6 : rb_c6 x0 x1 x2 x3 x4 x5 x6 x7 = true) : Gives Tryz.prog envGd 0 45 [(.agg #[(.int .i64 (x0)), (.int .i64 (x1)), (.int .i64 (x2)), (.int .i64 (x3)), (.int .i64 (x4)), (.int .i64 (x5)), (.int .i64 (x6)), (.int .i64 (x7))])] heapN ((.tuple #[(.agg #[(.int .i64 (0)), (.int .i64 (0)), (.int .i64 (0)), (.int .i64 (0)), (.int .i64 (0)), (.int .i64 (0)), (.int .i64 (0)), (.int .i64 (0))]), (.int .i64 (30))]), heapN) :=
  Gives.by (n := 1000) (os := [.br 45 38 false, .br 45 38 false, .br 45 38 false, .br 45 38 false, .br 45 38 false, .br 45 38 false, .br 45 53 false, .br 45 52 false, .br 45 38 false, .br 45 38 false, .br 45 38 false, .br 45 38 false, .br 45 38 false, .br 45 38 false, .br 45 53 false, .br 45 52 false, .br 45 38 false, .br 45 38 false, .br 45 38 false, .br 45 38 false, .br 45 38 false, .br 45 38 false, .br 45 53 false, .br 45 52 false, .br 45 38 true, .br 45 38 true, .br 45 38 true, .br 45 38 true, .br 45 38 true, .br 45 38 true, .br 45 53 true]) (os' := []) (by kernel_rfl) (ObsOK.cond h0 (ObsOK.cond h0 (ObsOK.cond h0 (ObsOK.cond h0 (ObsOK.cond h0 (ObsOK.cond h0 (ObsOK.cond h0 (ObsOK.cond h1 (ObsOK.cond h2 (ObsOK.cond h2 (ObsOK.cond h2 (ObsOK.cond h2 (ObsOK.cond h2 (ObsOK.cond h2 (ObsOK.cond h2 (ObsOK.cond h3 (ObsOK.cond h4 (ObsOK.cond h4 (ObsOK.cond h4 (ObsOK.cond h4 (ObsOK.cond h4 (ObsOK.cond h4 (ObsOK.cond h4 (ObsOK.cond h5 (ObsOK.cond h6 (ObsOK.cond h6 (ObsOK.cond h6 (ObsOK.cond h6 (ObsOK.cond h6 (ObsOK.cond h6 (ObsOK.cond h6 (ObsOK.nil))))))))))))))))))))))))))))))))
theorem rb_p7 (x0 : Int) (x1 : Int) (x2 : Int) (x3 : Int) (x4 : Int) (x5 : Int) (x6 : Int) (x7 : Int) (h0 : rb_c0 x0 x1 x2 x3 x4 x5 x6 x7 = false) (h1 : rb_c1 x0 x1 x2 x3 x4 x5 x6 x7 = false) (h2 : rb_c2 x0 x1 x2 x3 x4 x5 x6 x7 = false) (h3 : rb_c3 x0 x1 x2 x3 x4 x5 x6 x7 = false) (h4 : rb_c4 x0 x1 x2 x3 x4 x5 x6 x7 = false) (h5 : rb_c5 x0 x1 x2 x3 x4 x5 x6 x7 = false) (h6 : rb_c6 x0 x1 x2 x3 x4 x5 x6 x7 = false) (h7 : rb_c7 x0 x1 x2 x3 x4 x5 x6 x7 = true) : Gives Tryz.prog envGd 0 45 [(.agg #[(.int .i64 (x0)), (.int .i64 (x1)), (.int .i64 (x2)), (.int .i64 (x3)), (.int .i64 (x4)), (.int .i64 (x5)), (.int .i64 (x6)), (.int .i64 (x7))])] heapN ((.tuple #[(.agg #[(.int .i64 (0)), (.int .i64 (0)), (.int .i64 (0)), (.int .i64 (0)), (.int .i64 (0)), (.int .i64 (0)), (.int .i64 (0)), (.int .i64 (0))]), (.int .i64 (30))]), heapN) :=
  Gives.by (n := 1000) (os := [.br 45 38 false, .br 45 38 false, .br 45 38 false, .br 45 38 false, .br 45 38 false, .br 45 38 false, .br 45 53 false, .br 45 52 false, .br 45 38 false, .br 45 38 false, .br 45 38 false, .br 45 38 false, .br 45 38 false, .br 45 38 false, .br 45 53 false, .br 45 52 false, .br 45 38 false, .br 45 38 false, .br 45 38 false, .br 45 38 false, .br 45 38 false, .br 45 38 false, .br 45 53 false, .br 45 52 false, .br 45 38 false, .br 45 38 false, .br 45 38 false, .br 45 38 false, .br 45 38 false, .br 45 38 false, .br 45 53 false, .br 45 52 true]) (os' := []) (by kernel_rfl) (ObsOK.cond h0 (ObsOK.cond h0 (ObsOK.cond h0 (ObsOK.cond h0 (ObsOK.cond h0 (ObsOK.cond h0 (ObsOK.cond h0 (ObsOK.cond h1 (ObsOK.cond h2 (ObsOK.cond h2 (ObsOK.cond h2 (ObsOK.cond h2 (ObsOK.cond h2 (ObsOK.cond h2 (ObsOK.cond h2 (ObsOK.cond h3 (ObsOK.cond h4 (ObsOK.cond h4 (ObsOK.cond h4 (ObsOK.cond h4 (ObsOK.cond h4 (ObsOK.cond h4 (ObsOK.cond h4 (ObsOK.cond h5 (ObsOK.cond h6 (ObsOK.cond h6 (ObsOK.cond h6 (ObsOK.cond h6 (ObsOK.cond h6 (ObsOK.cond h6 (ObsOK.cond h6 (ObsOK.cond h7 (ObsOK.nil)))))))))))))))))))))))))))))))))
theorem rb_p8 (x0 : Int) (x1 : Int) (x2 : Int) (x3 : Int) (x4 : Int) (x5 : Int) (x6 : Int) (x7 : Int) (h0 : rb_c0 x0 x1 x2 x3 x4 x5 x6 x7 = false) (h1 : rb_c1 x0 x1 x2 x3 x4 x5 x6 x7 = false) (h2 : rb_c2 x0 x1 x2 x3 x4 x5 x6 x7 = false) (h3 : rb_c3 x0 x1 x2 x3 x4 x5 x6 x7 = false) (h4 : rb_c4 x0 x1 x2 x3 x4 x5 x6 x7 = false) (h5 : rb_c5 x0 x1 x2 x3 x4 x5 x6 x7 = false) (h6 : rb_c6 x0 x1 x2 x3 x4 x5 x6 x7 = false) (h7 : rb_c7 x0 x1 x2 x3 x4 x5 x6 x7 = false) : Gives Tryz.prog envGd 0 45 [(.agg #[(.int .i64 (x0)), (.int .i64 (x1)), (.int .i64 (x2)), (.int .i64 (x3)), (.int .i64 (x4)), (.int .i64 (x5)), (.int .i64 (x6)), (.int .i64 (x7))])] heapN ((.tuple #[(.agg #[(.int .i64 (IntKind.i64.wrap ((rsP_r0 x0 x1 x2 x3 x4 x5 x6 x7).tdiv 4))), (.int .i64 (IntKind.i64.wrap ((rsP_r1 x0 x1 x2 x3 x4 x5 x6 x7).tdiv 4))), (.int .i64 (IntKind.i64.wrap ((rsP_r2 x0 x1 x2 x3 x4 x5 x6 x7).tdiv 4))), (.int .i64 (IntKind.i64.wrap ((rsP_r3 x0 x1 x2 x3 x4 x5 x6 x7).tdiv 4))), (.int .i64 (IntKind.i64.wrap ((rsP_r4 x0 x1 x2 x3 x4 x5 x6 x7).tdiv 4))), (.int .i64 (IntKind.i64.wrap ((rsP_r5 x0 x1 x2 x3 x4 x5 x6 x7).tdiv 4))), (.int .i64 (IntKind.i64.wrap ((rsP_r6 x0 x1 x2 x3 x4 x5 x6 x7).tdiv 4))), (.int .i64 (IntKind.i64.wrap ((rsP_r7 x0 x1 x2 x3 x4 x5 x6 x7).tdiv 4)))]), (.int .i64 (0))]), heapN) :=
  Gives.by (n := 1000) (os := [.br 45 38 false, .br 45 38 false, .br 45 38 false, .br 45 38 false, .br 45 38 false, .br 45 38 false, .br 45 53 false, .br 45 52 false, .br 45 38 false, .br 45 38 false, .br 45 38 false, .br 45 38 false, .br 45 38 false, .br 45 38 false, .br 45 53 false, .br 45 52 false, .br 45 38 false, .br 45 38 false, .br 45 38 false, .br 45 38 false, .br 45 38 false, .br 45 38 false, .br 45 53 false, .br 45 52 false, .br 45 38 false, .br 45 38 false, .br 45 38 false, .br 45 38 false, .br 45 38 false, .br 45 38 false, .br 45 53 false, .br 45 52 false]) (os' := []) (by kernel_rfl) (ObsOK.cond h0 (ObsOK.cond h0 (ObsOK.cond h0 (ObsOK.cond h0 (ObsOK.cond h0 (ObsOK.cond h0 (ObsOK.cond h0 (ObsOK.cond h1 (ObsOK.cond h2 (ObsOK.cond h2 (ObsOK.cond h2 (ObsOK.cond h2 (ObsOK.cond h2 (ObsOK.cond h2 (ObsOK.cond h2 (ObsOK.cond h3 (ObsOK.cond h4 (ObsOK.cond h4 (ObsOK.cond h4 (ObsOK.cond h4 (ObsOK.cond h4 (ObsOK.cond h4 (ObsOK.cond h4 (ObsOK.cond h5 (ObsOK.cond h6 (ObsOK.cond h6 (ObsOK.cond h6 (ObsOK.cond h6 (ObsOK.cond h6 (ObsOK.cond h6 (ObsOK.cond h6 (ObsOK.cond h7 (ObsOK.nil)))))))))))))))))))))))))))))))))
def rb_r0 (x0 : Int) (x1 : Int) (x2 : Int) (x3 : Int) (x4 : Int) (x5 : Int) (x6 : Int) (x7 : Int) : Int := (cond (rb_c0 x0 x1 x2 x3 x4 x5 x6 x7) (0) (cond (rb_c1 x0 x1 x2 x3 x4 x5 x6 x7) (0) (cond (rb_c2 x0 x1 x2 x3 x4 x5 x6 x7) (0) (cond (rb_c3 x0 x1 x2 x3 x4 x5 x6 x7) (0) (cond (rb_c4 x0 x1 x2 x3 x4 x5 x6 x7) (0) (cond (rb_c5 x0 x1 x2 x3 x4 x5 x6 x7) (0) (cond (rb_c6 x0 x1 x2 x3 x4 x5 x6 x7) (0) (cond (rb_c7 x0 x1 x2 x3 x4 x5 x6 x7) (0) (IntKind.i64.wrap ((rsP_r0 x0 x1 x2 x3 x4 x5 x6 x7).tdiv 4))))))))))
def rb_r1 (x0 : Int) (x1 : Int) (x2 : Int) (x3 : Int) (x4 : Int) (x5 : Int) (x6 : Int) (x7 : Int) : Int := (cond (rb_c0 x0 x1 x2 x3 x4 x5 x6 x7) (0) (cond (rb_c1 x0 x1 x2 x3 x4 x5 x6 x7) (0) (cond (rb_c2 x0 x1 x2 x3 x4 x5 x6 x7) (0) (cond (rb_c3 x0 x1 x2 x3 x4 x5 x6 x7) (0) (cond (rb_c4 x0 x1 x2 x3 x4 x5 x6 x7) (0) (cond (rb_c5 x0 x1 x2 x3 x4 x5 x6 x7) (0) (cond (rb_c6 x0 x1 x2 x3 x4 x5 x6 x7) (0) (cond (rb_c7 x0 x1 x2 x3 x4 x5 x6 x7) (0) (IntKind.i64.wrap ((rsP_r1 x0 x1 x2 x3 x4 x5 x6 x7).tdiv 4))))))))))
def rb_r2 (x0 : Int) (x1 : Int) (x2 : Int) (x3 : Int) (x4 : Int) (x5 : Int) (x6 : Int) (x7 : Int) : Int := (cond (rb_c0 x0 x1 x2 x3 x4 x5 x6 x7) (0) (cond (rb_c1 x0 x1 x2 x3 x4 x5 x6 x7) (0) (cond (rb_c2 x0 x1 x2 x3 x4 x5 x6 x7) (0) (cond (rb_c3 x0 x1 x2 x3 x4 x5 x6 x7) (0) (cond (rb_c4 x0 x1 x2 x3 x4 x5 x6 x7) (0) (cond (rb_c5 x0 x1 x2 x3 x4 x5 x6 x7) (0) (cond (rb_c6 x0 x1 x2 x3 x4 x5 x6 x7) (0) (cond (rb_c7 x0 x1 x2 x3 x4 x5 x6 x7) (0) (IntKind.i64.wrap ((rsP_r2 x0 x1 x2 x3 x4 x5 x6 x7).tdiv 4))))))))))
def rb_r3 (x0 : Int) (x1 : Int) (x2 : Int) (x3 : Int) (x4 : Int) (x5 : Int) (x6 : Int) (x7 : Int) : Int := (cond (rb_c0 x0 x1 x2 x3 x4 x5 x6 x7) (0) (cond (rb_c1 x0 x1 x2 x3 x4 x5 x6 x7) (0) (cond (rb_c2 x0 x1 x2 x3 x4 x5 x6 x7) (0) (cond (rb_c3 x0 x1 x2 x3 x4 x5 x6 x7) (0) (cond (rb_c4 x0 x1 x2 x3 x4 x5 x6 x7) (0) (cond (rb_c5 x0 x1 x2 x3 x4 x5 x6 x7) (0) (cond (rb_c6 x0 x1 x2 x3 x4 x5 x6 x7) (0) (cond (rb_c7 x0 x1 x2 x3 x4 x5 x6 x7) (0) (IntKind.i64.wrap ((rsP_r3 x0 x1 x2 x3 x4 x5 x6 x7).tdiv 4))))))))))
def rb_r4 (x0 : Int) (x1 : Int) (x2 : Int) (x3 : Int) (x4 : Int) (x5 : Int) (x6 : Int) (x7 : Int) : Int := (cond (rb_c0 x0 x1 x2 x3 x4 x5 x6 x7) (0) (cond (rb_c1 x0 x1 x2 x3 x4 x5 x6 x7) (0) (cond (rb_c2 x0 x1 x2 x3 x4 x5 x6 x7) (0) (cond (rb_c3 x0 x1 x2 x3 x4 x5 x6 x7) (0) (cond (rb_c4 x0 x1 x2 x3 x4 x5 x6 x7) (0) (cond (rb_c5 x0 x1 x2 x3 x4 x5 x6 x7) (0) (cond (rb_c6 x0 x1 x2 x3 x4 x5 x6 x7) (0) (cond (rb_c7 x0 x1 x2 x3 x4 x5 x6 x7) (0) (IntKind.i64.wrap ((rsP_r4 x0 x1 x2 x3 x4 x5 x6 x7).tdiv 4))))))))))
def rb_r5 (x0 : Int) (x1 : Int) (x2 : Int) (x3 : Int) (x4 : Int) (x5 : Int) (x6 : Int) (x7 : Int) : Int := (cond (rb_c0 x0 x1 x2 x3 x4 x5 x6 x7) (0) (cond (rb_c1 x0 x1 x2 x3 x4 x5 x6 x7) (0) (cond (rb_c2 x0 x1 x2 x3 x4 x5 x6 x7) (0) (cond (rb_c3 x0 x1 x2 x3 x4 x5 x6 x7) (0) (cond (rb_c4 x0 x1 x2 x3 x4 x5 x6 x7) (0) (cond (rb_c5 x0 x1 x2 x3 x4 x5 x6 x7) (0) (cond (rb_c6 x0 x1 x2 x3 x4 x5 x6 x7) (0) (cond (rb_c7 x0 x1 x2 x3 x4 x5 x6 x7) (0) (IntKind.i64.wrap ((rsP_r5 x0 x1 x2 x3 x4 x5 x6 x7).tdiv 4))))))))))
def rb_r6 (x0 : Int) (x1 : Int) (x2 : Int) (x3 : Int) (x4 : Int) (x5 : Int) (x6 : Int) (x7 : Int) : Int := (cond (rb_c0 x0 x1 x2 x3 x4 x5 x6 x7) (0) (cond (rb_c1 x0 x1 x2 x3 x4 x5 x6 x7) (0) (cond (rb_c2 x0 x1 x2 x3 x4 x5 x6 x7) (0) (cond (rb_c3 x0 x1 x2 x3 x4 x5 x6 x7) (0) (cond (rb_c4 x0 x1 x2 x3 x4 x5 x6 x7) (0) (cond (rb_c5 x0 x1 x2 x3 x4 x5 x6 x7) (0) (cond (rb_c6 x0 x1 x2 x3 x4 x5 x6 x7) (0) (cond (rb_c7 x0 x1 x2 x3 x4 x5 x6 x7) (0) (IntKind.i64.wrap ((rsP_r6 x0 x1 x2 x3 x4 x5 x6 x7).tdiv 4))))))))))
def rb_r7 (x0 : Int) (x1 : Int) (x2 : Int) (x3 : Int) (x4 : Int) (x5 : Int) (x6 : Int) (x7 : Int) : Int := (cond (rb_c0 x0 x1 x2 x3 x4 x5 x6 x7) (0) (cond (rb_c1 x0 x1 x2 x3 x4 x5 x6 x7) (0) (cond (rb_c2 x0 x1 x2 x3 x4 x5 x6 x7) (0) (cond (rb_c3 x0 x1 x2 x3 x4 x5 x6 x7) (0) (cond (rb_c4 x0 x1 x2 x3 x4 x5 x6 x7) (0) (cond (rb_c5 x0 x1 x2 x3 x4 x5 x6 x7) (0) (cond (rb_c6 x0 x1 x2 x3 x4 x5 x6 x7) (0) (cond (rb_c7 x0 x1 x2 x3 x4 x5 x6 x7) (0) (IntKind.i64.wrap ((rsP_r7 x0 x1 x2 x3 x4 x5 x6 x7).tdiv 4))))))))))
def rb_r8 (x0 : Int) (x1 : Int) (x2 : Int) (x3 : Int) (x4 : Int) (x5 : Int) (x6 : Int) (x7 : Int) : Int := (cond (rb_c0 x0 x1 x2 x3 x4 x5 x6 x7) (30) (cond (rb_c1 x0 x1 x2 x3 x4 x5 x6 x7) (30) (cond (rb_c2 x0 x1 x2 x3 x4 x5 x6 x7) (30) (cond (rb_c3 x0 x1 x2 x3 x4 x5 x6 x7) (30) (cond (rb_c4 x0 x1 x2 x3 x4 x5 x6 x7) (30) (cond (rb_c5 x0 x1 x2 x3 x4 x5 x6 x7) (30) (cond (rb_c6 x0 x1 x2 x3 x4 x5 x6 x7) (30) (cond (rb_c7 x0 x1 x2 x3 x4 x5 x6 x7) (30) (0)))))))))
theorem rb_gives (x0 : Int) (x1 : Int) (x2 : Int) (x3 : Int) (x4 : Int) (x5 : Int) (x6 : Int) (x7 : Int) : Gives Tryz.prog envGd 0 45 [(.agg #[(.int .i64 (x0)), (.int .i64 (x1)), (.int .i64 (x2)), (.int .i64 (x3)), (.int .i64 (x4)), (.int .i64 (x5)), (.int .i64 (x6)), (.int .i64 (x7))])] heapN ((.tuple #[(.agg #[(.int .i64 (rb_r0 x0 x1 x2 x3 x4 x5 x6 x7)), (.int .i64 (rb_r1 x0 x1 x2 x3 x4 x5 x6 x7)), (.int .i64 (rb_r2 x0 x1 x2 x3 x4 x5 x6 x7)), (.int .i64 (rb_r3 x0 x1 x2 x3 x4 x5 x6 x7)), (.int .i64 (rb_r4 x0 x1 x2 x3 x4 x5 x6 x7)), (.int .i64 (rb_r5 x0 x1 x2 x3 x4 x5 x6 x7)), (.int .i64 (rb_r6 x0 x1 x2 x3 x4 x5 x6 x7)), (.int .i64 (rb_r7 x0 x1 x2 x3 x4 x5 x6 x7))]), (.int .i64 (rb_r8 x0 x1 x2 x3 x4 x5 x6 x7))]), heapN) := by
  cases g0 : rb_c0 x0 x1 x2 x3 x4 x5 x6 x7
  · skip
    cases g1 : rb_c1 x0 x1 x2 x3 x4 x5 x6 x7
    · skip
      cases g2 : rb_c2 x0 x1 x2 x3 x4 x5 x6 x7
      · skip
        cases g3 : rb_c3 x0 x1 x2 x3 x4 x5 x6 x7
        · skip
          cases g4 : rb_c4 x0 x1 x2 x3 x4 x5 x6 x7
          · skip
            cases g5 : rb_c5 x0 x1 x2 x3 x4 x5 x6 x7
            · skip
              cases g6 : rb_c6 x0 x1 x2 x3 x4 x5 x6 x7
              · skip
                cases g7 : rb_c7 x0 x1 x2 x3 x4 x5 x6 x7
                · skip
                  simp only [rb_r0, rb_r1, rb_r2, rb_r3, rb_r4, rb_r5, rb_r6, rb_r7, rb_r8, g0, g1, g2, g3, g4, g5, g6, g7, cond_true, cond_false]; exact rb_p8 x0 x1 x2 x3 x4 x5 x6 x7 g0 g1 g2 g3 g4 g5 g6 g7
                · skip
                  simp only [rb_r0, rb_r1, rb_r2, rb_r3, rb_r4, rb_r5, rb_r6, rb_r7, rb_r8, g0, g1, g2, g3, g4, g5, g6, g7, cond_true, cond_false]; exact rb_p7 x0 x1 x2 x3 x4 x5 x6 x7 g0 g1 g2 g3 g4 g5 g6 g7
              · skip
                simp only [rb_r0, rb_r1, rb_r2, rb_r3, rb_r4, rb_r5, rb_r6, rb_r7, rb_r8, g0, g1, g2, g3, g4, g5, g6, cond_true, cond_false]; exact rb_p6 x0 x1 x2 x3 x4 x5 x6 x7 g0 g1 g2 g3 g4 g5 g6
            · skip
              simp only [rb_r0, rb_r1, rb_r2, rb_r3, rb_r4, rb_r5, rb_r6, rb_r7, rb_r8, g0, g1, g2, g3, g4, g5, cond_true, cond_false]; exact rb_p5 x0 x1 x2 x3 x4 x5 x6 x7 g0 g1 g2 g3 g4 g5
          · skip
            simp only [rb_r0, rb_r1, rb_r2, rb_r3, rb_r4, rb_r5, rb_r6, rb_r7, rb_r8, g0, g1, g2, g3, g4, cond_true, cond_false]; exact rb_p4 x0 x1 x2 x3 x4 x5 x6 x7 g0 g1 g2 g3 g4
        · skip
          simp only [rb_r0, rb_r1, rb_r2, rb_r3, rb_r4, rb_r5, rb_r6, rb_r7, rb_r8, g0, g1, g2, g3, cond_true, cond_false]; exact rb_p3 x0 x1 x2 x3 x4 x5 x6 x7 g0 g1 g2 g3
      · skip
        simp only [rb_r0, rb_r1, rb_r2, rb_r3, rb_r4, rb_r5, rb_r6, rb_r7, rb_r8, g0, g1, g2, cond_true, cond_false]; exact rb_p2 x0 x1 x2 x3 x4 x5 x6 x7 g0 g1 g2
    · skip
      simp only [rb_r0, rb_r1, rb_r2, rb_r3, rb_r4, rb_r5, rb_r6, rb_r7, rb_r8, g0, g1, cond_true, cond_false]; exact rb_p1 x0 x1 x2 x3 x4 x5 x6 x7 g0 g1
  · skip
    simp only [rb_r0, rb_r1, rb_r2, rb_r3, rb_r4, rb_r5, rb_r6, rb_r7, rb_r8, g0, cond_true, cond_false]; exact rb_p0 x0 x1 x2 x3 x4 x5 x6 x7 g0
theorem rt0_p0 (x : Int) (y : Int) : Gives Tryz.prog envGd 0 78 [(.agg #[(.int .i64 (x)), (.int .i64 (y))]), (.int .i64 (0))] heapN ((.agg #[(.int .i64 x), (.int .i64 y)]), heapN) :=
  Gives.by (n := 1000) (os := []) (os' := []) (by kernel_rfl) (ObsOK.nil)
theorem rt0_gives (x : Int) (y : Int) : Gives Tryz.prog envGd 0 78 [(.agg #[(.int .i64 (x)), (.int .i64 (y))]), (.int .i64 (0))] heapN ((.agg #[(.int .i64 (x)), (.int .i64 (y))]), heapN) := by
  exact rt0_p0 x y
theorem rtm1_p0 (x : Int) (y : Int) : Gives Tryz.prog envGd 0 78 [(.agg #[(.int .i64 (x)), (.int .i64 (y))]), (.int .i64 (-1))] heapN ((.agg #[(.int .i64 (IntKind.i64.wrap (0 - IntKind.i64.wrap (0 - y)))), (.int .i64 (IntKind.i64.wrap (0 - x)))]), heapN) :=
  Gives.by (n := 1000) (os := []) (os' := []) (by kernel_rfl) (ObsOK.nil)
def rtm1_r0 (x : Int) (y : Int) : Int := (IntKind.i64.wrap (0 - IntKind.i64.wrap (0 - y)))
def rtm1_r1 (x : Int) (y : Int) : Int := (IntKind.i64.wrap (0 - x))
theorem rtm1_gives (x : Int) (y : Int) : Gives Tryz.prog envGd 0 78 [(.agg #[(.int .i64 (x)), (.int .i64 (y))]), (.int .i64 (-1))] heapN ((.agg #[(.int .i64 (rtm1_r0 x y)), (.int .i64 (rtm1_r1 x y))]), heapN) := by
  simp only [rtm1_r0, rtm1_r1, cond_true, cond_false]; exact rtm1_p0 x y
theorem rtm2_p0 (x : Int) (y : Int) : Gives Tryz.prog envGd 0 78 [(.agg #[(.int .i64 (x)), (.int .i64 (y))]), (.int .i64 (-2))] heapN ((.agg #[(.int .i64 (IntKind.i64.wrap (0 - x))), (.int .i64 (IntKind.i64.wrap (0 - y)))]), heapN) :=
  Gives.by (n := 1000) (os := []) (os' := []) (by kernel_rfl) (ObsOK.nil)
def rtm2_r0 (x : Int) (y : Int) : Int := (IntKind.i64.wrap (0 - x))
def rtm2_r1 (x : Int) (y : Int) : Int := (IntKind.i64.wrap (0 - y))
theorem rtm2_gives (x : Int) (y : Int) : Gives Tryz.prog envGd 0 78 [(.agg #[(.int .i64 (x)), (.int .i64 (y))]), (.int .i64 (-2))] heapN ((.agg #[(.int .i64 (rtm2_r0 x y)), (.int .i64 (rtm2_r1 x y))]), heapN) := by
  simp only [rtm2_r0, rtm2_r1, cond_true, cond_false]; exact rtm2_p0 x y
theorem rtm3_p0 (x : Int) (y : Int) : Gives Tryz.prog envGd 0 78 [(.agg #[(.int .i64 (x)), (.int .i64 (y))]), (.int .i64 (-3))] heapN ((.agg #[(.int .i64 (IntKind.i64.wrap (0 - y))), (.int .i64 x)]), heapN) :=
  Gives.by (n := 1000) (os := []) (os' := []) (by kernel_rfl) (ObsOK.nil)
def rtm3_r0 (x : Int) (y : Int) : Int := (IntKind.i64.wrap (0 - y))
theorem rtm3_gives (x : Int) (y : Int) : Gives Tryz.prog envGd 0 78 [(.agg #[(.int .i64 (x)), (.int .i64 (y))]), (.int .i64 (-3))] heapN ((.agg #[(.int .i64 (rtm3_r0 x y)), (.int .i64 (x))]), heapN) := by
  simp only [rtm3_r0, cond_true, cond_false]; exact rtm3_p0 x y
def B_envGe_45 (args : List Value) : Option (Heap × Value) :=
    match args with
    | [(.agg ⟨[(.int .i64 (x0)), (.int .i64 (x1)), (.int .i64 (x2)), (.int .i64 (x3)), (.int .i64 (x4)), (.int .i64 (x5)), (.int .i64 (x6)), (.int .i64 (x7))]⟩)] => some (heapN, (.tuple #[(.agg #[(.int .i64 (rb_r0 x0 x1 x2 x3 x4 x5 x6 x7)), (.int .i64 (rb_r1 x0 x1 x2 x3 x4 x5 x6 x7)), (.int .i64 (rb_r2 x0 x1 x2 x3 x4 x5 x6 x7)), (.int .i64 (rb_r3 x0 x1 x2 x3 x4 x5 x6 x7)), (.int .i64 (rb_r4 x0 x1 x2 x3 x4 x5 x6 x7)), (.int .i64 (rb_r5 x0 x1 x2 x3 x4 x5 x6 x7)), (.int .i64 (rb_r6 x0 x1 x2 x3 x4 x5 x6 x7)), (.int .i64 (rb_r7 x0 x1 x2 x3 x4 x5 x6 x7))]), (.int .i64 (rb_r8 x0 x1 x2 x3 x4 x5 x6 x7))]))
    | _ => none
theorem B_envGe_45_ok {args : List Value} {H : Heap} {v : Value} (h : B_envGe_45 args = some (H, v)) : 8 ≤ H.length ∧ H.all tableRow = true ∧ Gives Tryz.prog envGd 0 45 args H (v, H) := by
  unfold B_envGe_45 at h
  split at h
  · cases h; exact heapN_ok (rb_gives _ _ _ _ _ _ _ _)
  · cases h
def B_envGe_78 (args : List Value) : Option (Heap × Value) :=
    match args with
    | [(.agg ⟨[(.int .i64 (x)), (.int .i64 (y))]⟩), (.int .i64 (0))] => some (heapN, (.agg #[(.int .i64 (x)), (.int .i64 (y))]))
    | [(.agg ⟨[(.int .i64 (x)), (.int .i64 (y))]⟩), (.int .i64 (-1))] => some (heapN, (.agg #[(.int .i64 (rtm1_r0 x y)), (.int .i64 (rtm1_r1 x y))]))
    | [(.agg ⟨[(.int .i64 (x)), (.int .i64 (y))]⟩), (.int .i64 (-2))] => some (heapN, (.agg #[(.int .i64 (rtm2_r0 x y)), (.int .i64 (rtm2_r1 x y))]))
    | [(.agg ⟨[(.int .i64 (x)), (.int .i64 (y))]⟩), (.int .i64 (-3))] => some (heapN, (.agg #[(.int .i64 (rtm3_r0 x y)), (.int .i64 (x))]))
    | _ => none
theorem B_envGe_78_ok {args : List Value} {H : Heap} {v : Value} (h : B_envGe_78 args = some (H, v)) : 8 ≤ H.length ∧ H.all tableRow = true ∧ Gives Tryz.prog envGd 0 78 args H (v, H) := by
  unfold B_envGe_78 at h
  split at h
  · cases h; exact heapN_ok (rt0_gives _ _)
  · cases h; exact heapN_ok (rtm1_gives _ _)
  · cases h; exact heapN_ok (rtm2_gives _ _)
  · cases h; exact heapN_ok (rtm3_gives _ _)
  · cases h
def B_envGe (f : FuncId) (args : List Value) : Option (Heap × Value) :=
  if f == 45 then B_envGe_45 args else
  if f == 78 then B_envGe_78 args else
  none
noncomputable def envGe : Env := envGd.with (baseKnown B_envGe)
theorem envGe_ok : EnvOK Tryz.prog 8 envGe := env_base prog_ok envGd_ok fun f args H v h => by
  unfold B_envGe at h
  split at h
  · rename_i hf
    have hf : f = 45 := by simpa using hf
    subst hf
    exact B_envGe_45_ok h
  · skip
    split at h
    · rename_i hf
      have hf : f = 78 := by simpa using hf
      subst hf
      exact B_envGe_78_ok h
    · skip
      cases h
end Go.Proofs.YtpdiaiccnaoaiaaGreatDoor
/-
The document's examples, run: the states between the statements of awake.
-/
namespace Go.Proofs.YtpdiaiccnaoaiaaGreatDoor
open Go Go.Abs
noncomputable def rowAwS_0 : Option ARow := (rvar [I 1, I 1, I 1, I 1, I 2, I 0, I 1, (I (-1)), I 1, (I (-1)), I 1, (I (-1)), I 2, I 0, I 1, I 1] 53)
noncomputable def rowAwS_1 : Option ARow := (rrow [I 0, I 0, I 1, I 0, I 1, I 0, I 1, I 0, I 4, I 0, (I (-1)), I 0, I 3, I 0, (I (-1)), I 0] 32)
noncomputable def rowAwS_2 : Option ARow := (rrow [I 0, I 0, I 1, I 0, I 1, I 0, I 1, I 0, I 1, I 0, I 1, I 0, I 2, I 0, I 1, I 0] 32)
noncomputable def rowAwS_3 : Option ARow := (rrow [I 0, I 0, I 1, I 0, I 1, I 0, I 1, I 0, I 4, I 0, I 1, I 0, I 3, I 0, I 1, I 0] 32)
noncomputable def rowAwS_4 : Option ARow := (rrow [I 0, I 0, I 1, I 0, I 1, I 0, I 1, I 0, I 1, I 0, I 1, I 0, I 2, I 0, I 1, I 0] 24)
noncomputable def rowAwS_5 : Option ARow := (rrow [I 0, I 0, I 1, I 0, I 1, I 0, I 2, I 0, I 2, I 0, I 1, I 0] 125)
noncomputable def rowAwS_6 : Option ARow := (rrow [I 0, I 0, I 1, I 0, I 1, I 0, I 2, I 0, I 2, I 0, I 1, I 0] 156)
noncomputable def rowAwS_7 : Option ARow := (rrow [I 0, I 0, I 1, I 0, I 1, I 0, I 2, I 0, I 2, I 0, I 1, I 0] 32)
noncomputable def rowAwS_8 : Option ARow := (rrow [I 0, I 0, I 1, I 0, I 1, I 0, I 2, I 0, I 2, I 0, I 1, I 0] 24)
noncomputable def rowAwS_9 : Option ARow := (rvar [I 6, I 0, I 0, I 2, (I (-2)), I 0, I 0, I 2] 72)
noncomputable def rowAwS_10 : Option ARow := (rrow [I 1, I 0, I 1, I 0, (I (-1)), I 0, I 1, I 0] 32)
noncomputable def rowAwS_11 : Option ARow := (rrow [I 0, I 0, I 1, I 0, I 1, I 0, I 1, I 0] 32)
noncomputable def rowAwS_12 : Option ARow := (rrow [I 0, I 0, I 1, I 0, I 1, I 0, I 1, I 3] 32)
noncomputable def rowAwS_13 : Option ARow := (rrow [I 0, I 0, I 1, I 0, I 1, I 0, I 1, I 3] 24)
noncomputable def rowAwS_14 : Option ARow := (rrow [I 3, I 4, I 5] 3)
noncomputable def L0 : List Value := List.replicate 322 undef
noncomputable def X0 : Heap := (H [])
noncomputable def L1 : List Value := ([(.bool false)] ++ us 321)
noncomputable def X1 : Heap := (H [])
noncomputable def L2 : List Value := ([(.bool false), (pt 9 0), I 0, U, U, U, U, U, U, U, U, U, U, U, U, U, U, U, U, U, U, U, U, U, U, U, U, U, U, U, U, U, U, U, U, U, U, U, U, U, (.tuple #[(.agg #[I 1, I 1, I 1, I 1, I 2, I 0, I 1, (I (-1)), I 1, (I (-1)), I 1, (I (-1)), I 2, I 0, I 1, I 1]), I 0]), (sl 8 0 2 2), (.tuple #[(.agg #[I 1, I 1, I 1, I 1, I 2, I 0, I 1, (I (-1)), I 1, (I (-1)), I 1, (I (-1)), I 2, I 0, I 1, I 1]), I 0]), (.agg #[I 1, I 1, I 1, I 1, I 2, I 0, I 1, (I (-1)), I 1, (I (-1)), I 1, (I (-1)), I 2, I 0, I 1, I 1]), I 0] ++ us 277)
noncomputable def X2 : Heap := (H [rowAwS_11, rowAwS_0])
noncomputable def L3 : List Value := ([(.bool false), (pt 9 0), I 0, I 4, I 0, U, U, U, U, U, U, U, U, U, U, U, U, U, U, U, U, U, U, U, U, U, U, U, U, U, U, U, U, U, U, U, U, U, U, U, (.tuple #[(.agg #[I 1, I 1, I 1, I 1, I 2, I 0, I 1, (I (-1)), I 1, (I (-1)), I 1, (I (-1)), I 2, I 0, I 1, I 1]), I 0]), (sl 8 0 2 2), (.tuple #[(.agg #[I 1, I 1, I 1, I 1, I 2, I 0, I 1, (I (-1)), I 1, (I (-1)), I 1, (I (-1)), I 2, I 0, I 1, I 1]), I 0]), (.agg #[I 1, I 1, I 1, I 1, I 2, I 0, I 1, (I (-1)), I 1, (I (-1)), I 1, (I (-1)), I 2, I 0, I 1, I 1]), I 0, (.tuple #[I 4, I 0]), (sl 10 0 2 2), (.tuple #[I 4, I 0]), I 4, I 0] ++ us 272)
noncomputable def X3 : Heap := (H [rowAwS_11, rowAwS_0, rowAwS_11])
noncomputable def L4 : List Value := ([(.bool false), (pt 9 0), I 0, I 4, I 0, (pt 12 0), I 0, U, U, U, U, U, U, U, U, U, U, U, U, U, U, U, U, U, U, U, U, U, U, U, U, U, U, U, U, U, U, U, U, U, (.tuple #[(.agg #[I 1, I 1, I 1, I 1, I 2, I 0, I 1, (I (-1)), I 1, (I (-1)), I 1, (I (-1)), I 2, I 0, I 1, I 1]), I 0]), (sl 8 0 2 2), (.tuple #[(.agg #[I 1, I 1, I 1, I 1, I 2, I 0, I 1, (I (-1)), I 1, (I (-1)), I 1, (I (-1)), I 2, I 0, I 1, I 1]), I 0]), (.agg #[I 1, I 1, I 1, I 1, I 2, I 0, I 1, (I (-1)), I 1, (I (-1)), I 1, (I (-1)), I 2, I 0, I 1, I 1]), I 0, (.tuple #[I 4, I 0]), (sl 10 0 2 2), (.tuple #[I 4, I 0]), I 4, I 0, (.tuple #[(g2 8 5), I 0]), (sl 11 0 2 2), (.tuple #[(g2 8 5), I 0]), (g2 8 5), I 0] ++ us 267)
noncomputable def X4 : Heap := (H [rowAwS_11, rowAwS_0, rowAwS_11, rowAwS_11, (rvar [I 8, I 5] 63)])
noncomputable def L5 : List Value := ([(.bool false), (pt 9 0), I 0, I 4, I 0, (pt 12 0), I 0, (sl 14 0 2 2), I 0, U, U, U, U, U, U, U, U, U, U, U, U, U, U, U, U, U, U, U, U, U, U, U, U, U, U, U, U, U, U, U, (.tuple #[(.agg #[I 1, I 1, I 1, I 1, I 2, I 0, I 1, (I (-1)), I 1, (I (-1)), I 1, (I (-1)), I 2, I 0, I 1, I 1]), I 0]), (sl 8 0 2 2), (.tuple #[(.agg #[I 1, I 1, I 1, I 1, I 2, I 0, I 1, (I (-1)), I 1, (I (-1)), I 1, (I (-1)), I 2, I 0, I 1, I 1]), I 0]), (.agg #[I 1, I 1, I 1, I 1, I 2, I 0, I 1, (I (-1)), I 1, (I (-1)), I 1, (I (-1)), I 2, I 0, I 1, I 1]), I 0, (.tuple #[I 4, I 0]), (sl 10 0 2 2), (.tuple #[I 4, I 0]), I 4, I 0, (.tuple #[(g2 8 5), I 0]), (sl 11 0 2 2), (.tuple #[(g2 8 5), I 0]), (g2 8 5), I 0, (.tuple #[(sl 14 0 2 2), I 0]), (sl 13 0 2 2), (.tuple #[(sl 14 0 2 2), I 0]), (sl 14 0 2 2), I 0] ++ us 262)
noncomputable def X5 : Heap := (H [rowAwS_11, rowAwS_0, rowAwS_11, rowAwS_11, (rvar [I 8, I 5] 63), rowAwS_11, rowAwS_12])
noncomputable def L6 : List Value := ([(.bool false), (pt 9 0), I 0, I 4, I 0, (pt 12 0), I 0, (sl 14 0 2 2), I 0, (sl 17 0 3 3), I 0, U, U, U, U, U, U, U, U, U, U, U, U, U, U, U, U, U, U, U, U, U, U, U, U, U, U, U, U, U, (.tuple #[(.agg #[I 1, I 1, I 1, I 1, I 2, I 0, I 1, (I (-1)), I 1, (I (-1)), I 1, (I (-1)), I 2, I 0, I 1, I 1]), I 0]), (sl 8 0 2 2), (.tuple #[(.agg #[I 1, I 1, I 1, I 1, I 2, I 0, I 1, (I (-1)), I 1, (I (-1)), I 1, (I (-1)), I 2, I 0, I 1, I 1]), I 0]), (.agg #[I 1, I 1, I 1, I 1, I 2, I 0, I 1, (I (-1)), I 1, (I (-1)), I 1, (I (-1)), I 2, I 0, I 1, I 1]), I 0, (.tuple #[I 4, I 0]), (sl 10 0 2 2), (.tuple #[I 4, I 0]), I 4, I 0, (.tuple #[(g2 8 5), I 0]), (sl 11 0 2 2), (.tuple #[(g2 8 5), I 0]), (g2 8 5), I 0, (.tuple #[(sl 14 0 2 2), I 0]), (sl 13 0 2 2), (.tuple #[(sl 14 0 2 2), I 0]), (sl 14 0 2 2), I 0, (.tuple #[(sl 17 0 3 3), I 0]), (sl 15 0 0 0), (sl 14 0 2 2), (sl 16 0 2 2), (.tuple #[(sl 17 0 3 3), I 0]), (sl 17 0 3 3), I 0] ++ us 255)
noncomputable def X6 : Heap := (H [rowAwS_11, rowAwS_0, rowAwS_11, rowAwS_11, (rvar [I 8, I 5] 63), rowAwS_11, rowAwS_12, .none, rowAwS_12, rowAwS_14])
noncomputable def L7 : List Value := ([(.bool false), (pt 9 0), I 0, I 4, I 0, (pt 12 0), I 0, (sl 14 0 2 2), I 0, (sl 17 0 3 3), I 0, (sl 19 0 2 2), I 4, I 0, U, U, U, U, U, U, U, U, U, U, U, U, U, U, U, U, U, U, U, U, U, U, U, U, U, U, (.tuple #[(.agg #[I 1, I 1, I 1, I 1, I 2, I 0, I 1, (I (-1)), I 1, (I (-1)), I 1, (I (-1)), I 2, I 0, I 1, I 1]), I 0]), (sl 8 0 2 2), (.tuple #[(.agg #[I 1, I 1, I 1, I 1, I 2, I 0, I 1, (I (-1)), I 1, (I (-1)), I 1, (I (-1)), I 2, I 0, I 1, I 1]), I 0]), (.agg #[I 1, I 1, I 1, I 1, I 2, I 0, I 1, (I (-1)), I 1, (I (-1)), I 1, (I (-1)), I 2, I 0, I 1, I 1]), I 0, (.tuple #[I 4, I 0]), (sl 10 0 2 2), (.tuple #[I 4, I 0]), I 4, I 0, (.tuple #[(g2 8 5), I 0]), (sl 11 0 2 2), (.tuple #[(g2 8 5), I 0]), (g2 8 5), I 0, (.tuple #[(sl 14 0 2 2), I 0]), (sl 13 0 2 2), (.tuple #[(sl 14 0 2 2), I 0]), (sl 14 0 2 2), I 0, (.tuple #[(sl 17 0 3 3), I 0]), (sl 15 0 0 0), (sl 14 0 2 2), (sl 16 0 2 2), (.tuple #[(sl 17 0 3 3), I 0]), (sl 17 0 3 3), I 0, (.tuple #[(sl 19 0 2 2), I 4, I 0]), (sl 18 0 2 2), (.agg #[I 1, I 0, I 0, I 0, (I (-1)), I 0, I 0, I 0]), (.tuple #[(sl 19 0 2 2), I 4, I 0]), (sl 19 0 2 2), I 4, I 0] ++ us 248)
noncomputable def X7 : Heap := (H [rowAwS_11, rowAwS_0, rowAwS_11, rowAwS_11, (rvar [I 8, I 5] 63), rowAwS_11, rowAwS_12, .none, rowAwS_12, rowAwS_14, rowAwS_11, rowAwS_12])
noncomputable def L8 : List Value := ([(.bool false), (pt 9 0), I 0, I 4, I 0, (pt 12 0), I 0, (sl 14 0 2 2), I 0, (sl 17 0 3 3), I 0, (sl 19 0 2 2), I 4, I 0, (pt 20 0), I 0, U, U, U, U, U, U, U, U, U, U, U, U, U, U, U, U, U, U, U, U, U, U, U, U, (.tuple #[(.agg #[I 1, I 1, I 1, I 1, I 2, I 0, I 1, (I (-1)), I 1, (I (-1)), I 1, (I (-1)), I 2, I 0, I 1, I 1]), I 0]), (sl 8 0 2 2), (.tuple #[(.agg #[I 1, I 1, I 1, I 1, I 2, I 0, I 1, (I (-1)), I 1, (I (-1)), I 1, (I (-1)), I 2, I 0, I 1, I 1]), I 0]), (.agg #[I 1, I 1, I 1, I 1, I 2, I 0, I 1, (I (-1)), I 1, (I (-1)), I 1, (I (-1)), I 2, I 0, I 1, I 1]), I 0, (.tuple #[I 4, I 0]), (sl 10 0 2 2), (.tuple #[I 4, I 0]), I 4, I 0, (.tuple #[(g2 8 5), I 0]), (sl 11 0 2 2), (.tuple #[(g2 8 5), I 0]), (g2 8 5), I 0, (.tuple #[(sl 14 0 2 2), I 0]), (sl 13 0 2 2), (.tuple #[(sl 14 0 2 2), I 0]), (sl 14 0 2 2), I 0, (.tuple #[(sl 17 0 3 3), I 0]), (sl 15 0 0 0), (sl 14 0 2 2), (sl 16 0 2 2), (.tuple #[(sl 17 0 3 3), I 0]), (sl 17 0 3 3), I 0, (.tuple #[(sl 19 0 2 2), I 4, I 0]), (sl 18 0 2 2), (.agg #[I 1, I 0, I 0, I 0, (I (-1)), I 0, I 0, I 0]), (.tuple #[(sl 19 0 2 2), I 4, I 0]), (sl 19 0 2 2), I 4, I 0, (.tuple #[(.agg #[I 6, I 0, I 0, I 2, (I (-2)), I 0, I 0, I 2]), I 0]), (pt 9 0), (g2 1 1), (pt 9 4), (g2 2 0), (pt 9 8), (g2 1 (-1)), (pt 9 12), (g2 2 0), (.agg #[I 1, I 1, I 2, I 0, I 1, (I (-1)), I 2, I 0]), (.tuple #[(.agg #[I 6, I 0, I 0, I 2, (I (-2)), I 0, I 0, I 2]), I 0]), (.agg #[I 6, I 0, I 0, I 2, (I (-2)), I 0, I 0, I 2]), I 0] ++ us 235)
noncomputable def X8 : Heap := (H [rowAwS_11, rowAwS_0, rowAwS_11, rowAwS_11, (rvar [I 8, I 5] 63), rowAwS_11, rowAwS_12, .none, rowAwS_12, rowAwS_14, rowAwS_11, rowAwS_12, rowAwS_9])
noncomputable def L9 : List Value := ([(.bool false), (pt 9 0), I 0, I 4, I 0, (pt 12 0), I 0, (sl 14 0 2 2), I 0, (sl 17 0 3 3), I 0, (sl 19 0 2 2), I 4, I 0, (pt 20 0), I 0, U, U, U, U, U, U, U, U, U, U, U, U, U, U, U, U, U, U, U, U, U, U, U, U, (.tuple #[(.agg #[I 1, I 1, I 1, I 1, I 2, I 0, I 1, (I (-1)), I 1, (I (-1)), I 1, (I (-1)), I 2, I 0, I 1, I 1]), I 0]), (sl 8 0 2 2), (.tuple #[(.agg #[I 1, I 1, I 1, I 1, I 2, I 0, I 1, (I (-1)), I 1, (I (-1)), I 1, (I (-1)), I 2, I 0, I 1, I 1]), I 0]), (.agg #[I 1, I 1, I 1, I 1, I 2, I 0, I 1, (I (-1)), I 1, (I (-1)), I 1, (I (-1)), I 2, I 0, I 1, I 1]), I 0, (.tuple #[I 4, I 0]), (sl 10 0 2 2), (.tuple #[I 4, I 0]), I 4, I 0, (.tuple #[(g2 8 5), I 0]), (sl 11 0 2 2), (.tuple #[(g2 8 5), I 0]), (g2 8 5), I 0, (.tuple #[(sl 14 0 2 2), I 0]), (sl 13 0 2 2), (.tuple #[(sl 14 0 2 2), I 0]), (sl 14 0 2 2), I 0, (.tuple #[(sl 17 0 3 3), I 0]), (sl 15 0 0 0), (sl 14 0 2 2), (sl 16 0 2 2), (.tuple #[(sl 17 0 3 3), I 0]), (sl 17 0 3 3), I 0, (.tuple #[(sl 19 0 2 2), I 4, I 0]), (sl 18 0 2 2), (.agg #[I 1, I 0, I 0, I 0, (I (-1)), I 0, I 0, I 0]), (.tuple #[(sl 19 0 2 2), I 4, I 0]), (sl 19 0 2 2), I 4, I 0, (.tuple #[(.agg #[I 6, I 0, I 0, I 2, (I (-2)), I 0, I 0, I 2]), I 0]), (pt 9 0), (g2 1 1), (pt 9 4), (g2 2 0), (pt 9 8), (g2 1 (-1)), (pt 9 12), (g2 2 0), (.agg #[I 1, I 1, I 2, I 0, I 1, (I (-1)), I 2, I 0]), (.tuple #[(.agg #[I 6, I 0, I 0, I 2, (I (-2)), I 0, I 0, I 2]), I 0]), (.agg #[I 6, I 0, I 0, I 2, (I (-2)), I 0, I 0, I 2]), I 0, I 0, I 0, I 0, I 0, I 0, I 0, I 0, I 0, I 0, I 0, I 0, I 0, I 0, (.bool false), (.bool false), (.agg #[I 1, I 1, I 1, I 1, I 2, I 0, I 1, (I (-1)), I 1, (I (-1)), I 1, (I (-1)), I 2, I 0, I 1, I 1]), (g2 1 1), (g2 1 1), (g2 2 0), (g2 1 (-1)), (g2 1 (-1)), (g2 1 (-1)), (g2 2 0), (g2 1 1), (.agg #[I 1, I 1, I 1, I 1, I 2, I 0, I 1, (I (-1)), I 1, (I (-1)), I 1, (I (-1)), I 2, I 0, I 1, I 1]), (.bool false), (.bool false), (.bool false), I 4, (.bool false), (.bool false), (.bool false), (g2 8 5), (g2 8 5), (.bool false), (.bool false), (.bool false), (sl 14 0 2 2), (sl 21 0 2 2), (.agg #[I 0, I 0, I 1, I 0]), (.agg #[I 1, I 0, I 1, I 3]), (sl 22 0 2 2), (.bool true), (.bool false), (.bool false), (.bool false), (sl 17 0 3 3), (sl 23 0 3 3), (.bool true), (.bool false), (.bool false), (.bool false), (sl 19 0 2 2), (sl 24 0 2 2), (sl 14 0 2 2), (sl 25 0 2 2), (.bool true), (.bool false), (.bool false), (.bool false), I 4, (.bool false), (.bool false), (.bool false), (.agg #[I 6, I 0, I 0, I 2, (I (-2)), I 0, I 0, I 2]), (g2 6 0), (g2 0 2), (g2 (-2) 0), (g2 0 2), (.agg #[I 6, I 0, I 0, I 2, (I (-2)), I 0, I 0, I 2]), (.bool false), (.bool false)] ++ us 163)
noncomputable def X9 : Heap := (H [rowAwS_11, rowAwS_0, rowAwS_11, rowAwS_11, (rvar [I 8, I 5] 63), rowAwS_11, rowAwS_12, .none, rowAwS_12, rowAwS_14, rowAwS_11, rowAwS_12, rowAwS_9, rowAwS_13, rowAwS_13, rowAwS_14, rowAwS_13, rowAwS_13])
noncomputable def L10 : List Value := ([(.bool false), (pt 9 0), I 0, I 4, I 0, (pt 12 0), I 0, (sl 14 0 2 2), I 0, (sl 17 0 3 3), I 0, (sl 19 0 2 2), I 4, I 0, (pt 20 0), I 0, (sl 28 0 4 4), I 0, U, U, U, U, U, U, U, U, U, U, U, U, U, U, U, U, U, U, U, U, U, U, (.tuple #[(.agg #[I 1, I 1, I 1, I 1, I 2, I 0, I 1, (I (-1)), I 1, (I (-1)), I 1, (I (-1)), I 2, I 0, I 1, I 1]), I 0]), (sl 8 0 2 2), (.tuple #[(.agg #[I 1, I 1, I 1, I 1, I 2, I 0, I 1, (I (-1)), I 1, (I (-1)), I 1, (I (-1)), I 2, I 0, I 1, I 1]), I 0]), (.agg #[I 1, I 1, I 1, I 1, I 2, I 0, I 1, (I (-1)), I 1, (I (-1)), I 1, (I (-1)), I 2, I 0, I 1, I 1]), I 0, (.tuple #[I 4, I 0]), (sl 10 0 2 2), (.tuple #[I 4, I 0]), I 4, I 0, (.tuple #[(g2 8 5), I 0]), (sl 11 0 2 2), (.tuple #[(g2 8 5), I 0]), (g2 8 5), I 0, (.tuple #[(sl 14 0 2 2), I 0]), (sl 13 0 2 2), (.tuple #[(sl 14 0 2 2), I 0]), (sl 14 0 2 2), I 0, (.tuple #[(sl 17 0 3 3), I 0]), (sl 15 0 0 0), (sl 14 0 2 2), (sl 16 0 2 2), (.tuple #[(sl 17 0 3 3), I 0]), (sl 17 0 3 3), I 0, (.tuple #[(sl 19 0 2 2), I 4, I 0]), (sl 18 0 2 2), (.agg #[I 1, I 0, I 0, I 0, (I (-1)), I 0, I 0, I 0]), (.tuple #[(sl 19 0 2 2), I 4, I 0]), (sl 19 0 2 2), I 4, I 0, (.tuple #[(.agg #[I 6, I 0, I 0, I 2, (I (-2)), I 0, I 0, I 2]), I 0]), (pt 9 0), (g2 1 1), (pt 9 4), (g2 2 0), (pt 9 8), (g2 1 (-1)), (pt 9 12), (g2 2 0), (.agg #[I 1, I 1, I 2, I 0, I 1, (I (-1)), I 2, I 0]), (.tuple #[(.agg #[I 6, I 0, I 0, I 2, (I (-2)), I 0, I 0, I 2]), I 0]), (.agg #[I 6, I 0, I 0, I 2, (I (-2)), I 0, I 0, I 2]), I 0, I 0, I 0, I 0, I 0, I 0, I 0, I 0, I 0, I 0, I 0, I 0, I 0, I 0, (.bool false), (.bool false), (.agg #[I 1, I 1, I 1, I 1, I 2, I 0, I 1, (I (-1)), I 1, (I (-1)), I 1, (I (-1)), I 2, I 0, I 1, I 1]), (g2 1 1), (g2 1 1), (g2 2 0), (g2 1 (-1)), (g2 1 (-1)), (g2 1 (-1)), (g2 2 0), (g2 1 1), (.agg #[I 1, I 1, I 1, I 1, I 2, I 0, I 1, (I (-1)), I 1, (I (-1)), I 1, (I (-1)), I 2, I 0, I 1, I 1]), (.bool false), (.bool false), (.bool false), I 4, (.bool false), (.bool false), (.bool false), (g2 8 5), (g2 8 5), (.bool false), (.bool false), (.bool false), (sl 14 0 2 2), (sl 21 0 2 2), (.agg #[I 0, I 0, I 1, I 0]), (.agg #[I 1, I 0, I 1, I 3]), (sl 22 0 2 2), (.bool true), (.bool false), (.bool false), (.bool false), (sl 17 0 3 3), (sl 23 0 3 3), (.bool true), (.bool false), (.bool false), (.bool false), (sl 19 0 2 2), (sl 24 0 2 2), (sl 14 0 2 2), (sl 25 0 2 2), (.bool true), (.bool false), (.bool false), (.bool false), I 4, (.bool false), (.bool false), (.bool false), (.agg #[I 6, I 0, I 0, I 2, (I (-2)), I 0, I 0, I 2]), (g2 6 0), (g2 0 2), (g2 (-2) 0), (g2 0 2), (.agg #[I 6, I 0, I 0, I 2, (I (-2)), I 0, I 0, I 2]), (.bool false), (.bool false), (.tuple #[(sl 28 0 4 4), I 0]), (sl 26 0 2 2), (sl 27 0 2 2), (.tuple #[(sl 28 0 4 4), I 0]), (sl 28 0 4 4), I 0] ++ us 157)
noncomputable def X10 : Heap := (H [rowAwS_11, rowAwS_0, rowAwS_11, rowAwS_11, (rvar [I 8, I 5] 63), rowAwS_11, rowAwS_12, .none, rowAwS_12, rowAwS_14, rowAwS_11, rowAwS_12, rowAwS_9, rowAwS_13, rowAwS_13, rowAwS_14, rowAwS_13, rowAwS_13, rowAwS_11, rowAwS_11, rowAwS_2])
noncomputable def L11 : List Value := ([(.bool false), (pt 9 0), I 0, I 4, I 0, (pt 12 0), I 0, (sl 14 0 2 2), I 0, (sl 17 0 3 3), I 0, (sl 19 0 2 2), I 4, I 0, (pt 20 0), I 0, (sl 28 0 4 4), I 0, (sl 29 0 3 3), I 0, U, U, U, U, U, U, U, U, U, U, U, U, U, U, U, U, U, U, U, U, (.tuple #[(.agg #[I 1, I 1, I 1, I 1, I 2, I 0, I 1, (I (-1)), I 1, (I (-1)), I 1, (I (-1)), I 2, I 0, I 1, I 1]), I 0]), (sl 8 0 2 2), (.tuple #[(.agg #[I 1, I 1, I 1, I 1, I 2, I 0, I 1, (I (-1)), I 1, (I (-1)), I 1, (I (-1)), I 2, I 0, I 1, I 1]), I 0]), (.agg #[I 1, I 1, I 1, I 1, I 2, I 0, I 1, (I (-1)), I 1, (I (-1)), I 1, (I (-1)), I 2, I 0, I 1, I 1]), I 0, (.tuple #[I 4, I 0]), (sl 10 0 2 2), (.tuple #[I 4, I 0]), I 4, I 0, (.tuple #[(g2 8 5), I 0]), (sl 11 0 2 2), (.tuple #[(g2 8 5), I 0]), (g2 8 5), I 0, (.tuple #[(sl 14 0 2 2), I 0]), (sl 13 0 2 2), (.tuple #[(sl 14 0 2 2), I 0]), (sl 14 0 2 2), I 0, (.tuple #[(sl 17 0 3 3), I 0]), (sl 15 0 0 0), (sl 14 0 2 2), (sl 16 0 2 2), (.tuple #[(sl 17 0 3 3), I 0]), (sl 17 0 3 3), I 0, (.tuple #[(sl 19 0 2 2), I 4, I 0]), (sl 18 0 2 2), (.agg #[I 1, I 0, I 0, I 0, (I (-1)), I 0, I 0, I 0]), (.tuple #[(sl 19 0 2 2), I 4, I 0]), (sl 19 0 2 2), I 4, I 0, (.tuple #[(.agg #[I 6, I 0, I 0, I 2, (I (-2)), I 0, I 0, I 2]), I 0]), (pt 9 0), (g2 1 1), (pt 9 4), (g2 2 0), (pt 9 8), (g2 1 (-1)), (pt 9 12), (g2 2 0), (.agg #[I 1, I 1, I 2, I 0, I 1, (I (-1)), I 2, I 0]), (.tuple #[(.agg #[I 6, I 0, I 0, I 2, (I (-2)), I 0, I 0, I 2]), I 0]), (.agg #[I 6, I 0, I 0, I 2, (I (-2)), I 0, I 0, I 2]), I 0, I 0, I 0, I 0, I 0, I 0, I 0, I 0, I 0, I 0, I 0, I 0, I 0, I 0, (.bool false), (.bool false), (.agg #[I 1, I 1, I 1, I 1, I 2, I 0, I 1, (I (-1)), I 1, (I (-1)), I 1, (I (-1)), I 2, I 0, I 1, I 1]), (g2 1 1), (g2 1 1), (g2 2 0), (g2 1 (-1)), (g2 1 (-1)), (g2 1 (-1)), (g2 2 0), (g2 1 1), (.agg #[I 1, I 1, I 1, I 1, I 2, I 0, I 1, (I (-1)), I 1, (I (-1)), I 1, (I (-1)), I 2, I 0, I 1, I 1]), (.bool false), (.bool false), (.bool false), I 4, (.bool false), (.bool false), (.bool false), (g2 8 5), (g2 8 5), (.bool false), (.bool false), (.bool false), (sl 14 0 2 2), (sl 21 0 2 2), (.agg #[I 0, I 0, I 1, I 0]), (.agg #[I 1, I 0, I 1, I 3]), (sl 22 0 2 2), (.bool true), (.bool false), (.bool false), (.bool false), (sl 17 0 3 3), (sl 23 0 3 3), (.bool true), (.bool false), (.bool false), (.bool false), (sl 19 0 2 2), (sl 24 0 2 2), (sl 14 0 2 2), (sl 25 0 2 2), (.bool true), (.bool false), (.bool false), (.bool false), I 4, (.bool false), (.bool false), (.bool false), (.agg #[I 6, I 0, I 0, I 2, (I (-2)), I 0, I 0, I 2]), (g2 6 0), (g2 0 2), (g2 (-2) 0), (g2 0 2), (.agg #[I 6, I 0, I 0, I 2, (I (-2)), I 0, I 0, I 2]), (.bool false), (.bool false), (.tuple #[(sl 28 0 4 4), I 0]), (sl 26 0 2 2), (sl 27 0 2 2), (.tuple #[(sl 28 0 4 4), I 0]), (sl 28 0 4 4), I 0, (.tuple #[(sl 29 0 3 3), I 0]), (.tuple #[(sl 29 0 3 3), I 0]), (sl 29 0 3 3), I 0] ++ us 153)
noncomputable def X11 : Heap := (H [rowAwS_11, rowAwS_0, rowAwS_11, rowAwS_11, (rvar [I 8, I 5] 63), rowAwS_11, rowAwS_12, .none, rowAwS_12, rowAwS_14, rowAwS_11, rowAwS_12, rowAwS_9, rowAwS_13, rowAwS_13, rowAwS_14, rowAwS_13, rowAwS_13, rowAwS_11, rowAwS_11, rowAwS_2, rowAwS_7])
noncomputable def L12 : List Value := ([(.bool false), (pt 9 0), I 0, I 4, I 0, (pt 12 0), I 0, (sl 14 0 2 2), I 0, (sl 17 0 3 3), I 0, (sl 19 0 2 2), I 4, I 0, (pt 20 0), I 0, (sl 28 0 4 4), I 0, (sl 29 0 3 3), I 0, (sl 32 0 3 3), I 0, U, U, U, U, U, U, U, U, U, U, U, U, U, U, U, U, U, U, (.tuple #[(.agg #[I 1, I 1, I 1, I 1, I 2, I 0, I 1, (I (-1)), I 1, (I (-1)), I 1, (I (-1)), I 2, I 0, I 1, I 1]), I 0]), (sl 8 0 2 2), (.tuple #[(.agg #[I 1, I 1, I 1, I 1, I 2, I 0, I 1, (I (-1)), I 1, (I (-1)), I 1, (I (-1)), I 2, I 0, I 1, I 1]), I 0]), (.agg #[I 1, I 1, I 1, I 1, I 2, I 0, I 1, (I (-1)), I 1, (I (-1)), I 1, (I (-1)), I 2, I 0, I 1, I 1]), I 0, (.tuple #[I 4, I 0]), (sl 10 0 2 2), (.tuple #[I 4, I 0]), I 4, I 0, (.tuple #[(g2 8 5), I 0]), (sl 11 0 2 2), (.tuple #[(g2 8 5), I 0]), (g2 8 5), I 0, (.tuple #[(sl 14 0 2 2), I 0]), (sl 13 0 2 2), (.tuple #[(sl 14 0 2 2), I 0]), (sl 14 0 2 2), I 0, (.tuple #[(sl 17 0 3 3), I 0]), (sl 15 0 0 0), (sl 14 0 2 2), (sl 16 0 2 2), (.tuple #[(sl 17 0 3 3), I 0]), (sl 17 0 3 3), I 0, (.tuple #[(sl 19 0 2 2), I 4, I 0]), (sl 18 0 2 2), (.agg #[I 1, I 0, I 0, I 0, (I (-1)), I 0, I 0, I 0]), (.tuple #[(sl 19 0 2 2), I 4, I 0]), (sl 19 0 2 2), I 4, I 0, (.tuple #[(.agg #[I 6, I 0, I 0, I 2, (I (-2)), I 0, I 0, I 2]), I 0]), (pt 9 0), (g2 1 1), (pt 9 4), (g2 2 0), (pt 9 8), (g2 1 (-1)), (pt 9 12), (g2 2 0), (.agg #[I 1, I 1, I 2, I 0, I 1, (I (-1)), I 2, I 0]), (.tuple #[(.agg #[I 6, I 0, I 0, I 2, (I (-2)), I 0, I 0, I 2]), I 0]), (.agg #[I 6, I 0, I 0, I 2, (I (-2)), I 0, I 0, I 2]), I 0, I 0, I 0, I 0, I 0, I 0, I 0, I 0, I 0, I 0, I 0, I 0, I 0, I 0, (.bool false), (.bool false), (.agg #[I 1, I 1, I 1, I 1, I 2, I 0, I 1, (I (-1)), I 1, (I (-1)), I 1, (I (-1)), I 2, I 0, I 1, I 1]), (g2 1 1), (g2 1 1), (g2 2 0), (g2 1 (-1)), (g2 1 (-1)), (g2 1 (-1)), (g2 2 0), (g2 1 1), (.agg #[I 1, I 1, I 1, I 1, I 2, I 0, I 1, (I (-1)), I 1, (I (-1)), I 1, (I (-1)), I 2, I 0, I 1, I 1]), (.bool false), (.bool false), (.bool false), I 4, (.bool false), (.bool false), (.bool false), (g2 8 5), (g2 8 5), (.bool false), (.bool false), (.bool false), (sl 14 0 2 2), (sl 21 0 2 2), (.agg #[I 0, I 0, I 1, I 0]), (.agg #[I 1, I 0, I 1, I 3]), (sl 22 0 2 2), (.bool true), (.bool false), (.bool false), (.bool false), (sl 17 0 3 3), (sl 23 0 3 3), (.bool true), (.bool false), (.bool false), (.bool false), (sl 19 0 2 2), (sl 24 0 2 2), (sl 14 0 2 2), (sl 25 0 2 2), (.bool true), (.bool false), (.bool false), (.bool false), I 4, (.bool false), (.bool false), (.bool false), (.agg #[I 6, I 0, I 0, I 2, (I (-2)), I 0, I 0, I 2]), (g2 6 0), (g2 0 2), (g2 (-2) 0), (g2 0 2), (.agg #[I 6, I 0, I 0, I 2, (I (-2)), I 0, I 0, I 2]), (.bool false), (.bool false), (.tuple #[(sl 28 0 4 4), I 0]), (sl 26 0 2 2), (sl 27 0 2 2), (.tuple #[(sl 28 0 4 4), I 0]), (sl 28 0 4 4), I 0, (.tuple #[(sl 29 0 3 3), I 0]), (.tuple #[(sl 29 0 3 3), I 0]), (sl 29 0 3 3), I 0, (.tuple #[(sl 32 0 3 3), I 0]), (sl 30 0 0 0), (sl 28 0 4 4), (sl 31 0 4 4), (.tuple #[(sl 32 0 3 3), I 0]), (sl 32 0 3 3), I 0] ++ us 146)
noncomputable def X12 : Heap := (H [rowAwS_11, rowAwS_0, rowAwS_11, rowAwS_11, (rvar [I 8, I 5] 63), rowAwS_11, rowAwS_12, .none, rowAwS_12, rowAwS_14, rowAwS_11, rowAwS_12, rowAwS_9, rowAwS_13, rowAwS_13, rowAwS_14, rowAwS_13, rowAwS_13, rowAwS_11, rowAwS_11, rowAwS_2, rowAwS_7, .none, rowAwS_2, rowAwS_5])
noncomputable def L13 : List Value := ([(.bool false), (pt 9 0), I 0, I 4, I 0, (pt 12 0), I 0, (sl 14 0 2 2), I 0, (sl 17 0 3 3), I 0, (sl 19 0 2 2), I 4, I 0, (pt 20 0), I 0, (sl 28 0 4 4), I 0, (sl 29 0 3 3), I 0, (sl 32 0 3 3), I 0, (sl 35 0 3 3), I 0, U, U, U, U, U, U, U, U, U, U, U, U, U, U, U, U, (.tuple #[(.agg #[I 1, I 1, I 1, I 1, I 2, I 0, I 1, (I (-1)), I 1, (I (-1)), I 1, (I (-1)), I 2, I 0, I 1, I 1]), I 0]), (sl 8 0 2 2), (.tuple #[(.agg #[I 1, I 1, I 1, I 1, I 2, I 0, I 1, (I (-1)), I 1, (I (-1)), I 1, (I (-1)), I 2, I 0, I 1, I 1]), I 0]), (.agg #[I 1, I 1, I 1, I 1, I 2, I 0, I 1, (I (-1)), I 1, (I (-1)), I 1, (I (-1)), I 2, I 0, I 1, I 1]), I 0, (.tuple #[I 4, I 0]), (sl 10 0 2 2), (.tuple #[I 4, I 0]), I 4, I 0, (.tuple #[(g2 8 5), I 0]), (sl 11 0 2 2), (.tuple #[(g2 8 5), I 0]), (g2 8 5), I 0, (.tuple #[(sl 14 0 2 2), I 0]), (sl 13 0 2 2), (.tuple #[(sl 14 0 2 2), I 0]), (sl 14 0 2 2), I 0, (.tuple #[(sl 17 0 3 3), I 0]), (sl 15 0 0 0), (sl 14 0 2 2), (sl 16 0 2 2), (.tuple #[(sl 17 0 3 3), I 0]), (sl 17 0 3 3), I 0, (.tuple #[(sl 19 0 2 2), I 4, I 0]), (sl 18 0 2 2), (.agg #[I 1, I 0, I 0, I 0, (I (-1)), I 0, I 0, I 0]), (.tuple #[(sl 19 0 2 2), I 4, I 0]), (sl 19 0 2 2), I 4, I 0, (.tuple #[(.agg #[I 6, I 0, I 0, I 2, (I (-2)), I 0, I 0, I 2]), I 0]), (pt 9 0), (g2 1 1), (pt 9 4), (g2 2 0), (pt 9 8), (g2 1 (-1)), (pt 9 12), (g2 2 0), (.agg #[I 1, I 1, I 2, I 0, I 1, (I (-1)), I 2, I 0]), (.tuple #[(.agg #[I 6, I 0, I 0, I 2, (I (-2)), I 0, I 0, I 2]), I 0]), (.agg #[I 6, I 0, I 0, I 2, (I (-2)), I 0, I 0, I 2]), I 0, I 0, I 0, I 0, I 0, I 0, I 0, I 0, I 0, I 0, I 0, I 0, I 0, I 0, (.bool false), (.bool false), (.agg #[I 1, I 1, I 1, I 1, I 2, I 0, I 1, (I (-1)), I 1, (I (-1)), I 1, (I (-1)), I 2, I 0, I 1, I 1]), (g2 1 1), (g2 1 1), (g2 2 0), (g2 1 (-1)), (g2 1 (-1)), (g2 1 (-1)), (g2 2 0), (g2 1 1), (.agg #[I 1, I 1, I 1, I 1, I 2, I 0, I 1, (I (-1)), I 1, (I (-1)), I 1, (I (-1)), I 2, I 0, I 1, I 1]), (.bool false), (.bool false), (.bool false), I 4, (.bool false), (.bool false), (.bool false), (g2 8 5), (g2 8 5), (.bool false), (.bool false), (.bool false), (sl 14 0 2 2), (sl 21 0 2 2), (.agg #[I 0, I 0, I 1, I 0]), (.agg #[I 1, I 0, I 1, I 3]), (sl 22 0 2 2), (.bool true), (.bool false), (.bool false), (.bool false), (sl 17 0 3 3), (sl 23 0 3 3), (.bool true), (.bool false), (.bool false), (.bool false), (sl 19 0 2 2), (sl 24 0 2 2), (sl 14 0 2 2), (sl 25 0 2 2), (.bool true), (.bool false), (.bool false), (.bool false), I 4, (.bool false), (.bool false), (.bool false), (.agg #[I 6, I 0, I 0, I 2, (I (-2)), I 0, I 0, I 2]), (g2 6 0), (g2 0 2), (g2 (-2) 0), (g2 0 2), (.agg #[I 6, I 0, I 0, I 2, (I (-2)), I 0, I 0, I 2]), (.bool false), (.bool false), (.tuple #[(sl 28 0 4 4), I 0]), (sl 26 0 2 2), (sl 27 0 2 2), (.tuple #[(sl 28 0 4 4), I 0]), (sl 28 0 4 4), I 0, (.tuple #[(sl 29 0 3 3), I 0]), (.tuple #[(sl 29 0 3 3), I 0]), (sl 29 0 3 3), I 0, (.tuple #[(sl 32 0 3 3), I 0]), (sl 30 0 0 0), (sl 28 0 4 4), (sl 31 0 4 4), (.tuple #[(sl 32 0 3 3), I 0]), (sl 32 0 3 3), I 0, (.tuple #[(sl 35 0 3 3), I 0]), (sl 33 0 0 0), (sl 29 0 3 3), (sl 34 0 3 3), (.tuple #[(sl 35 0 3 3), I 0]), (sl 35 0 3 3), I 0] ++ us 139)
noncomputable def X13 : Heap := (H [rowAwS_11, rowAwS_0, rowAwS_11, rowAwS_11, (rvar [I 8, I 5] 63), rowAwS_11, rowAwS_12, .none, rowAwS_12, rowAwS_14, rowAwS_11, rowAwS_12, rowAwS_9, rowAwS_13, rowAwS_13, rowAwS_14, rowAwS_13, rowAwS_13, rowAwS_11, rowAwS_11, rowAwS_2, rowAwS_7, .none, rowAwS_2, rowAwS_5, .none, rowAwS_7, rowAwS_5])
noncomputable def L14 : List Value := ([(.bool false), (pt 9 0), I 0, I 4, I 0, (pt 12 0), I 0, (sl 14 0 2 2), I 0, (sl 17 0 3 3), I 0, (sl 19 0 2 2), I 4, I 0, (pt 20 0), I 0, (sl 28 0 4 4), I 0, (sl 29 0 3 3), I 0, (sl 32 0 3 3), I 0, (sl 35 0 3 3), I 0, (pt 38 0), I 0, U, U, U, U, U, U, U, U, U, U, U, U, U, U, (.tuple #[(.agg #[I 1, I 1, I 1, I 1, I 2, I 0, I 1, (I (-1)), I 1, (I (-1)), I 1, (I (-1)), I 2, I 0, I 1, I 1]), I 0]), (sl 8 0 2 2), (.tuple #[(.agg #[I 1, I 1, I 1, I 1, I 2, I 0, I 1, (I (-1)), I 1, (I (-1)), I 1, (I (-1)), I 2, I 0, I 1, I 1]), I 0]), (.agg #[I 1, I 1, I 1, I 1, I 2, I 0, I 1, (I (-1)), I 1, (I (-1)), I 1, (I (-1)), I 2, I 0, I 1, I 1]), I 0, (.tuple #[I 4, I 0]), (sl 10 0 2 2), (.tuple #[I 4, I 0]), I 4, I 0, (.tuple #[(g2 8 5), I 0]), (sl 11 0 2 2), (.tuple #[(g2 8 5), I 0]), (g2 8 5), I 0, (.tuple #[(sl 14 0 2 2), I 0]), (sl 13 0 2 2), (.tuple #[(sl 14 0 2 2), I 0]), (sl 14 0 2 2), I 0, (.tuple #[(sl 17 0 3 3), I 0]), (sl 15 0 0 0), (sl 14 0 2 2), (sl 16 0 2 2), (.tuple #[(sl 17 0 3 3), I 0]), (sl 17 0 3 3), I 0, (.tuple #[(sl 19 0 2 2), I 4, I 0]), (sl 18 0 2 2), (.agg #[I 1, I 0, I 0, I 0, (I (-1)), I 0, I 0, I 0]), (.tuple #[(sl 19 0 2 2), I 4, I 0]), (sl 19 0 2 2), I 4, I 0, (.tuple #[(.agg #[I 6, I 0, I 0, I 2, (I (-2)), I 0, I 0, I 2]), I 0]), (pt 9 0), (g2 1 1), (pt 9 4), (g2 2 0), (pt 9 8), (g2 1 (-1)), (pt 9 12), (g2 2 0), (.agg #[I 1, I 1, I 2, I 0, I 1, (I (-1)), I 2, I 0]), (.tuple #[(.agg #[I 6, I 0, I 0, I 2, (I (-2)), I 0, I 0, I 2]), I 0]), (.agg #[I 6, I 0, I 0, I 2, (I (-2)), I 0, I 0, I 2]), I 0, I 0, I 0, I 0, I 0, I 0, I 0, I 0, I 0, I 0, I 0, I 0, I 0, I 0, (.bool false), (.bool false), (.agg #[I 1, I 1, I 1, I 1, I 2, I 0, I 1, (I (-1)), I 1, (I (-1)), I 1, (I (-1)), I 2, I 0, I 1, I 1]), (g2 1 1), (g2 1 1), (g2 2 0), (g2 1 (-1)), (g2 1 (-1)), (g2 1 (-1)), (g2 2 0), (g2 1 1), (.agg #[I 1, I 1, I 1, I 1, I 2, I 0, I 1, (I (-1)), I 1, (I (-1)), I 1, (I (-1)), I 2, I 0, I 1, I 1]), (.bool false), (.bool false), (.bool false), I 4, (.bool false), (.bool false), (.bool false), (g2 8 5), (g2 8 5), (.bool false), (.bool false), (.bool false), (sl 14 0 2 2), (sl 21 0 2 2), (.agg #[I 0, I 0, I 1, I 0]), (.agg #[I 1, I 0, I 1, I 3]), (sl 22 0 2 2), (.bool true), (.bool false), (.bool false), (.bool false), (sl 17 0 3 3), (sl 23 0 3 3), (.bool true), (.bool false), (.bool false), (.bool false), (sl 19 0 2 2), (sl 24 0 2 2), (sl 14 0 2 2), (sl 25 0 2 2), (.bool true), (.bool false), (.bool false), (.bool false), I 4, (.bool false), (.bool false), (.bool false), (.agg #[I 6, I 0, I 0, I 2, (I (-2)), I 0, I 0, I 2]), (g2 6 0), (g2 0 2), (g2 (-2) 0), (g2 0 2), (.agg #[I 6, I 0, I 0, I 2, (I (-2)), I 0, I 0, I 2]), (.bool false), (.bool false), (.tuple #[(sl 28 0 4 4), I 0]), (sl 26 0 2 2), (sl 27 0 2 2), (.tuple #[(sl 28 0 4 4), I 0]), (sl 28 0 4 4), I 0, (.tuple #[(sl 29 0 3 3), I 0]), (.tuple #[(sl 29 0 3 3), I 0]), (sl 29 0 3 3), I 0, (.tuple #[(sl 32 0 3 3), I 0]), (sl 30 0 0 0), (sl 28 0 4 4), (sl 31 0 4 4), (.tuple #[(sl 32 0 3 3), I 0]), (sl 32 0 3 3), I 0, (.tuple #[(sl 35 0 3 3), I 0]), (sl 33 0 0 0), (sl 29 0 3 3), (sl 34 0 3 3), (.tuple #[(sl 35 0 3 3), I 0]), (sl 35 0 3 3), I 0, (.tuple #[(g2 0 2), I 0]), (sl 36 0 0 0), (sl 29 0 3 3), (sl 37 0 3 3), (.tuple #[(g2 0 2), I 0]), (g2 0 2), I 0] ++ us 132)
noncomputable def X14 : Heap := (H [rowAwS_11, rowAwS_0, rowAwS_11, rowAwS_11, (rvar [I 8, I 5] 63), rowAwS_11, rowAwS_12, .none, rowAwS_12, rowAwS_14, rowAwS_11, rowAwS_12, rowAwS_9, rowAwS_13, rowAwS_13, rowAwS_14, rowAwS_13, rowAwS_13, rowAwS_11, rowAwS_11, rowAwS_2, rowAwS_7, .none, rowAwS_2, rowAwS_5, .none, rowAwS_7, rowAwS_5, .none, rowAwS_7, (rvar [I 0, I 2] 34)])
noncomputable def L15 : List Value := ([(.bool false), (pt 9 0), I 0, I 4, I 0, (pt 12 0), I 0, (sl 14 0 2 2), I 0, (sl 17 0 3 3), I 0, (sl 19 0 2 2), I 4, I 0, (pt 20 0), I 0, (sl 28 0 4 4), I 0, (sl 29 0 3 3), I 0, (sl 32 0 3 3), I 0, (sl 35 0 3 3), I 0, (pt 38 0), I 0, (sl 40 0 4 4), I 0, U, U, U, U, U, U, U, U, U, U, U, U, (.tuple #[(.agg #[I 1, I 1, I 1, I 1, I 2, I 0, I 1, (I (-1)), I 1, (I (-1)), I 1, (I (-1)), I 2, I 0, I 1, I 1]), I 0]), (sl 8 0 2 2), (.tuple #[(.agg #[I 1, I 1, I 1, I 1, I 2, I 0, I 1, (I (-1)), I 1, (I (-1)), I 1, (I (-1)), I 2, I 0, I 1, I 1]), I 0]), (.agg #[I 1, I 1, I 1, I 1, I 2, I 0, I 1, (I (-1)), I 1, (I (-1)), I 1, (I (-1)), I 2, I 0, I 1, I 1]), I 0, (.tuple #[I 4, I 0]), (sl 10 0 2 2), (.tuple #[I 4, I 0]), I 4, I 0, (.tuple #[(g2 8 5), I 0]), (sl 11 0 2 2), (.tuple #[(g2 8 5), I 0]), (g2 8 5), I 0, (.tuple #[(sl 14 0 2 2), I 0]), (sl 13 0 2 2), (.tuple #[(sl 14 0 2 2), I 0]), (sl 14 0 2 2), I 0, (.tuple #[(sl 17 0 3 3), I 0]), (sl 15 0 0 0), (sl 14 0 2 2), (sl 16 0 2 2), (.tuple #[(sl 17 0 3 3), I 0]), (sl 17 0 3 3), I 0, (.tuple #[(sl 19 0 2 2), I 4, I 0]), (sl 18 0 2 2), (.agg #[I 1, I 0, I 0, I 0, (I (-1)), I 0, I 0, I 0]), (.tuple #[(sl 19 0 2 2), I 4, I 0]), (sl 19 0 2 2), I 4, I 0, (.tuple #[(.agg #[I 6, I 0, I 0, I 2, (I (-2)), I 0, I 0, I 2]), I 0]), (pt 9 0), (g2 1 1), (pt 9 4), (g2 2 0), (pt 9 8), (g2 1 (-1)), (pt 9 12), (g2 2 0), (.agg #[I 1, I 1, I 2, I 0, I 1, (I (-1)), I 2, I 0]), (.tuple #[(.agg #[I 6, I 0, I 0, I 2, (I (-2)), I 0, I 0, I 2]), I 0]), (.agg #[I 6, I 0, I 0, I 2, (I (-2)), I 0, I 0, I 2]), I 0, I 0, I 0, I 0, I 0, I 0, I 0, I 0, I 0, I 0, I 0, I 0, I 0, I 0, (.bool false), (.bool false), (.agg #[I 1, I 1, I 1, I 1, I 2, I 0, I 1, (I (-1)), I 1, (I (-1)), I 1, (I (-1)), I 2, I 0, I 1, I 1]), (g2 1 1), (g2 1 1), (g2 2 0), (g2 1 (-1)), (g2 1 (-1)), (g2 1 (-1)), (g2 2 0), (g2 1 1), (.agg #[I 1, I 1, I 1, I 1, I 2, I 0, I 1, (I (-1)), I 1, (I (-1)), I 1, (I (-1)), I 2, I 0, I 1, I 1]), (.bool false), (.bool false), (.bool false), I 4, (.bool false), (.bool false), (.bool false), (g2 8 5), (g2 8 5), (.bool false), (.bool false), (.bool false), (sl 14 0 2 2), (sl 21 0 2 2), (.agg #[I 0, I 0, I 1, I 0]), (.agg #[I 1, I 0, I 1, I 3]), (sl 22 0 2 2), (.bool true), (.bool false), (.bool false), (.bool false), (sl 17 0 3 3), (sl 23 0 3 3), (.bool true), (.bool false), (.bool false), (.bool false), (sl 19 0 2 2), (sl 24 0 2 2), (sl 14 0 2 2), (sl 25 0 2 2), (.bool true), (.bool false), (.bool false), (.bool false), I 4, (.bool false), (.bool false), (.bool false), (.agg #[I 6, I 0, I 0, I 2, (I (-2)), I 0, I 0, I 2]), (g2 6 0), (g2 0 2), (g2 (-2) 0), (g2 0 2), (.agg #[I 6, I 0, I 0, I 2, (I (-2)), I 0, I 0, I 2]), (.bool false), (.bool false), (.tuple #[(sl 28 0 4 4), I 0]), (sl 26 0 2 2), (sl 27 0 2 2), (.tuple #[(sl 28 0 4 4), I 0]), (sl 28 0 4 4), I 0, (.tuple #[(sl 29 0 3 3), I 0]), (.tuple #[(sl 29 0 3 3), I 0]), (sl 29 0 3 3), I 0, (.tuple #[(sl 32 0 3 3), I 0]), (sl 30 0 0 0), (sl 28 0 4 4), (sl 31 0 4 4), (.tuple #[(sl 32 0 3 3), I 0]), (sl 32 0 3 3), I 0, (.tuple #[(sl 35 0 3 3), I 0]), (sl 33 0 0 0), (sl 29 0 3 3), (sl 34 0 3 3), (.tuple #[(sl 35 0 3 3), I 0]), (sl 35 0 3 3), I 0, (.tuple #[(g2 0 2), I 0]), (sl 36 0 0 0), (sl 29 0 3 3), (sl 37 0 3 3), (.tuple #[(g2 0 2), I 0]), (g2 0 2), I 0, (.tuple #[(sl 40 0 4 4), I 0]), (sl 39 0 2 2), (.tuple #[(sl 40 0 4 4), I 0]), (sl 40 0 4 4), I 0] ++ us 127)
noncomputable def X15 : Heap := (H [rowAwS_11, rowAwS_0, rowAwS_11, rowAwS_11, (rvar [I 8, I 5] 63), rowAwS_11, rowAwS_12, .none, rowAwS_12, rowAwS_14, rowAwS_11, rowAwS_12, rowAwS_9, rowAwS_13, rowAwS_13, rowAwS_14, rowAwS_13, rowAwS_13, rowAwS_11, rowAwS_11, rowAwS_2, rowAwS_7, .none, rowAwS_2, rowAwS_5, .none, rowAwS_7, rowAwS_5, .none, rowAwS_7, (rvar [I 0, I 2] 34), rowAwS_11, rowAwS_3])
noncomputable def L16 : List Value := ([(.bool false), (pt 9 0), I 0, I 4, I 0, (pt 12 0), I 0, (sl 14 0 2 2), I 0, (sl 17 0 3 3), I 0, (sl 19 0 2 2), I 4, I 0, (pt 20 0), I 0, (sl 28 0 4 4), I 0, (sl 29 0 3 3), I 0, (sl 32 0 3 3), I 0, (sl 35 0 3 3), I 0, (pt 38 0), I 0, (sl 40 0 4 4), I 0, (sl 42 0 4 4), I 0, U, U, U, U, U, U, U, U, U, U, (.tuple #[(.agg #[I 1, I 1, I 1, I 1, I 2, I 0, I 1, (I (-1)), I 1, (I (-1)), I 1, (I (-1)), I 2, I 0, I 1, I 1]), I 0]), (sl 8 0 2 2), (.tuple #[(.agg #[I 1, I 1, I 1, I 1, I 2, I 0, I 1, (I (-1)), I 1, (I (-1)), I 1, (I (-1)), I 2, I 0, I 1, I 1]), I 0]), (.agg #[I 1, I 1, I 1, I 1, I 2, I 0, I 1, (I (-1)), I 1, (I (-1)), I 1, (I (-1)), I 2, I 0, I 1, I 1]), I 0, (.tuple #[I 4, I 0]), (sl 10 0 2 2), (.tuple #[I 4, I 0]), I 4, I 0, (.tuple #[(g2 8 5), I 0]), (sl 11 0 2 2), (.tuple #[(g2 8 5), I 0]), (g2 8 5), I 0, (.tuple #[(sl 14 0 2 2), I 0]), (sl 13 0 2 2), (.tuple #[(sl 14 0 2 2), I 0]), (sl 14 0 2 2), I 0, (.tuple #[(sl 17 0 3 3), I 0]), (sl 15 0 0 0), (sl 14 0 2 2), (sl 16 0 2 2), (.tuple #[(sl 17 0 3 3), I 0]), (sl 17 0 3 3), I 0, (.tuple #[(sl 19 0 2 2), I 4, I 0]), (sl 18 0 2 2), (.agg #[I 1, I 0, I 0, I 0, (I (-1)), I 0, I 0, I 0]), (.tuple #[(sl 19 0 2 2), I 4, I 0]), (sl 19 0 2 2), I 4, I 0, (.tuple #[(.agg #[I 6, I 0, I 0, I 2, (I (-2)), I 0, I 0, I 2]), I 0]), (pt 9 0), (g2 1 1), (pt 9 4), (g2 2 0), (pt 9 8), (g2 1 (-1)), (pt 9 12), (g2 2 0), (.agg #[I 1, I 1, I 2, I 0, I 1, (I (-1)), I 2, I 0]), (.tuple #[(.agg #[I 6, I 0, I 0, I 2, (I (-2)), I 0, I 0, I 2]), I 0]), (.agg #[I 6, I 0, I 0, I 2, (I (-2)), I 0, I 0, I 2]), I 0, I 0, I 0, I 0, I 0, I 0, I 0, I 0, I 0, I 0, I 0, I 0, I 0, I 0, (.bool false), (.bool false), (.agg #[I 1, I 1, I 1, I 1, I 2, I 0, I 1, (I (-1)), I 1, (I (-1)), I 1, (I (-1)), I 2, I 0, I 1, I 1]), (g2 1 1), (g2 1 1), (g2 2 0), (g2 1 (-1)), (g2 1 (-1)), (g2 1 (-1)), (g2 2 0), (g2 1 1), (.agg #[I 1, I 1, I 1, I 1, I 2, I 0, I 1, (I (-1)), I 1, (I (-1)), I 1, (I (-1)), I 2, I 0, I 1, I 1]), (.bool false), (.bool false), (.bool false), I 4, (.bool false), (.bool false), (.bool false), (g2 8 5), (g2 8 5), (.bool false), (.bool false), (.bool false), (sl 14 0 2 2), (sl 21 0 2 2), (.agg #[I 0, I 0, I 1, I 0]), (.agg #[I 1, I 0, I 1, I 3]), (sl 22 0 2 2), (.bool true), (.bool false), (.bool false), (.bool false), (sl 17 0 3 3), (sl 23 0 3 3), (.bool true), (.bool false), (.bool false), (.bool false), (sl 19 0 2 2), (sl 24 0 2 2), (sl 14 0 2 2), (sl 25 0 2 2), (.bool true), (.bool false), (.bool false), (.bool false), I 4, (.bool false), (.bool false), (.bool false), (.agg #[I 6, I 0, I 0, I 2, (I (-2)), I 0, I 0, I 2]), (g2 6 0), (g2 0 2), (g2 (-2) 0), (g2 0 2), (.agg #[I 6, I 0, I 0, I 2, (I (-2)), I 0, I 0, I 2]), (.bool false), (.bool false), (.tuple #[(sl 28 0 4 4), I 0]), (sl 26 0 2 2), (sl 27 0 2 2), (.tuple #[(sl 28 0 4 4), I 0]), (sl 28 0 4 4), I 0, (.tuple #[(sl 29 0 3 3), I 0]), (.tuple #[(sl 29 0 3 3), I 0]), (sl 29 0 3 3), I 0, (.tuple #[(sl 32 0 3 3), I 0]), (sl 30 0 0 0), (sl 28 0 4 4), (sl 31 0 4 4), (.tuple #[(sl 32 0 3 3), I 0]), (sl 32 0 3 3), I 0, (.tuple #[(sl 35 0 3 3), I 0]), (sl 33 0 0 0), (sl 29 0 3 3), (sl 34 0 3 3), (.tuple #[(sl 35 0 3 3), I 0]), (sl 35 0 3 3), I 0, (.tuple #[(g2 0 2), I 0]), (sl 36 0 0 0), (sl 29 0 3 3), (sl 37 0 3 3), (.tuple #[(g2 0 2), I 0]), (g2 0 2), I 0, (.tuple #[(sl 40 0 4 4), I 0]), (sl 39 0 2 2), (.tuple #[(sl 40 0 4 4), I 0]), (sl 40 0 4 4), I 0, (.tuple #[(sl 42 0 4 4), I 0]), (sl 41 0 2 2), (.tuple #[(sl 42 0 4 4), I 0]), (sl 42 0 4 4), I 0] ++ us 122)
noncomputable def X16 : Heap := (H [rowAwS_11, rowAwS_0, rowAwS_11, rowAwS_11, (rvar [I 8, I 5] 63), rowAwS_11, rowAwS_12, .none, rowAwS_12, rowAwS_14, rowAwS_11, rowAwS_12, rowAwS_9, rowAwS_13, rowAwS_13, rowAwS_14, rowAwS_13, rowAwS_13, rowAwS_11, rowAwS_11, rowAwS_2, rowAwS_7, .none, rowAwS_2, rowAwS_5, .none, rowAwS_7, rowAwS_5, .none, rowAwS_7, (rvar [I 0, I 2] 34), rowAwS_11, rowAwS_3, rowAwS_11, rowAwS_1])
noncomputable def L17 : List Value := ([(.bool false), (pt 9 0), I 0, I 4, I 0, (pt 12 0), I 0, (sl 14 0 2 2), I 0, (sl 17 0 3 3), I 0, (sl 19 0 2 2), I 4, I 0, (pt 20 0), I 0, (sl 28 0 4 4), I 0, (sl 29 0 3 3), I 0, (sl 32 0 3 3), I 0, (sl 35 0 3 3), I 0, (pt 38 0), I 0, (sl 40 0 4 4), I 0, (sl 42 0 4 4), I 0, (pt 45 0), I 0, U, U, U, U, U, U, U, U, (.tuple #[(.agg #[I 1, I 1, I 1, I 1, I 2, I 0, I 1, (I (-1)), I 1, (I (-1)), I 1, (I (-1)), I 2, I 0, I 1, I 1]), I 0]), (sl 8 0 2 2), (.tuple #[(.agg #[I 1, I 1, I 1, I 1, I 2, I 0, I 1, (I (-1)), I 1, (I (-1)), I 1, (I (-1)), I 2, I 0, I 1, I 1]), I 0]), (.agg #[I 1, I 1, I 1, I 1, I 2, I 0, I 1, (I (-1)), I 1, (I (-1)), I 1, (I (-1)), I 2, I 0, I 1, I 1]), I 0, (.tuple #[I 4, I 0]), (sl 10 0 2 2), (.tuple #[I 4, I 0]), I 4, I 0, (.tuple #[(g2 8 5), I 0]), (sl 11 0 2 2), (.tuple #[(g2 8 5), I 0]), (g2 8 5), I 0, (.tuple #[(sl 14 0 2 2), I 0]), (sl 13 0 2 2), (.tuple #[(sl 14 0 2 2), I 0]), (sl 14 0 2 2), I 0, (.tuple #[(sl 17 0 3 3), I 0]), (sl 15 0 0 0), (sl 14 0 2 2), (sl 16 0 2 2), (.tuple #[(sl 17 0 3 3), I 0]), (sl 17 0 3 3), I 0, (.tuple #[(sl 19 0 2 2), I 4, I 0]), (sl 18 0 2 2), (.agg #[I 1, I 0, I 0, I 0, (I (-1)), I 0, I 0, I 0]), (.tuple #[(sl 19 0 2 2), I 4, I 0]), (sl 19 0 2 2), I 4, I 0, (.tuple #[(.agg #[I 6, I 0, I 0, I 2, (I (-2)), I 0, I 0, I 2]), I 0]), (pt 9 0), (g2 1 1), (pt 9 4), (g2 2 0), (pt 9 8), (g2 1 (-1)), (pt 9 12), (g2 2 0), (.agg #[I 1, I 1, I 2, I 0, I 1, (I (-1)), I 2, I 0]), (.tuple #[(.agg #[I 6, I 0, I 0, I 2, (I (-2)), I 0, I 0, I 2]), I 0]), (.agg #[I 6, I 0, I 0, I 2, (I (-2)), I 0, I 0, I 2]), I 0, I 0, I 0, I 0, I 0, I 0, I 0, I 0, I 0, I 0, I 0, I 0, I 0, I 0, (.bool false), (.bool false), (.agg #[I 1, I 1, I 1, I 1, I 2, I 0, I 1, (I (-1)), I 1, (I (-1)), I 1, (I (-1)), I 2, I 0, I 1, I 1]), (g2 1 1), (g2 1 1), (g2 2 0), (g2 1 (-1)), (g2 1 (-1)), (g2 1 (-1)), (g2 2 0), (g2 1 1), (.agg #[I 1, I 1, I 1, I 1, I 2, I 0, I 1, (I (-1)), I 1, (I (-1)), I 1, (I (-1)), I 2, I 0, I 1, I 1]), (.bool false), (.bool false), (.bool false), I 4, (.bool false), (.bool false), (.bool false), (g2 8 5), (g2 8 5), (.bool false), (.bool false), (.bool false), (sl 14 0 2 2), (sl 21 0 2 2), (.agg #[I 0, I 0, I 1, I 0]), (.agg #[I 1, I 0, I 1, I 3]), (sl 22 0 2 2), (.bool true), (.bool false), (.bool false), (.bool false), (sl 17 0 3 3), (sl 23 0 3 3), (.bool true), (.bool false), (.bool false), (.bool false), (sl 19 0 2 2), (sl 24 0 2 2), (sl 14 0 2 2), (sl 25 0 2 2), (.bool true), (.bool false), (.bool false), (.bool false), I 4, (.bool false), (.bool false), (.bool false), (.agg #[I 6, I 0, I 0, I 2, (I (-2)), I 0, I 0, I 2]), (g2 6 0), (g2 0 2), (g2 (-2) 0), (g2 0 2), (.agg #[I 6, I 0, I 0, I 2, (I (-2)), I 0, I 0, I 2]), (.bool false), (.bool false), (.tuple #[(sl 28 0 4 4), I 0]), (sl 26 0 2 2), (sl 27 0 2 2), (.tuple #[(sl 28 0 4 4), I 0]), (sl 28 0 4 4), I 0, (.tuple #[(sl 29 0 3 3), I 0]), (.tuple #[(sl 29 0 3 3), I 0]), (sl 29 0 3 3), I 0, (.tuple #[(sl 32 0 3 3), I 0]), (sl 30 0 0 0), (sl 28 0 4 4), (sl 31 0 4 4), (.tuple #[(sl 32 0 3 3), I 0]), (sl 32 0 3 3), I 0, (.tuple #[(sl 35 0 3 3), I 0]), (sl 33 0 0 0), (sl 29 0 3 3), (sl 34 0 3 3), (.tuple #[(sl 35 0 3 3), I 0]), (sl 35 0 3 3), I 0, (.tuple #[(g2 0 2), I 0]), (sl 36 0 0 0), (sl 29 0 3 3), (sl 37 0 3 3), (.tuple #[(g2 0 2), I 0]), (g2 0 2), I 0, (.tuple #[(sl 40 0 4 4), I 0]), (sl 39 0 2 2), (.tuple #[(sl 40 0 4 4), I 0]), (sl 40 0 4 4), I 0, (.tuple #[(sl 42 0 4 4), I 0]), (sl 41 0 2 2), (.tuple #[(sl 42 0 4 4), I 0]), (sl 42 0 4 4), I 0, (.tuple #[(g2 4 0), I 0]), (sl 43 0 0 0), (sl 40 0 4 4), (sl 44 0 4 4), (.tuple #[(g2 4 0), I 0]), (g2 4 0), I 0] ++ us 115)
noncomputable def X17 : Heap := (H [rowAwS_11, rowAwS_0, rowAwS_11, rowAwS_11, (rvar [I 8, I 5] 63), rowAwS_11, rowAwS_12, .none, rowAwS_12, rowAwS_14, rowAwS_11, rowAwS_12, rowAwS_9, rowAwS_13, rowAwS_13, rowAwS_14, rowAwS_13, rowAwS_13, rowAwS_11, rowAwS_11, rowAwS_2, rowAwS_7, .none, rowAwS_2, rowAwS_5, .none, rowAwS_7, rowAwS_5, .none, rowAwS_7, (rvar [I 0, I 2] 34), rowAwS_11, rowAwS_3, rowAwS_11, rowAwS_1, .none, rowAwS_3, (rvar [I 4, I 0] 34)])
noncomputable def L18 : List Value := ([(.bool false), (pt 9 0), I 0, I 4, I 0, (pt 12 0), I 0, (sl 14 0 2 2), I 0, (sl 17 0 3 3), I 0, (sl 19 0 2 2), I 4, I 0, (pt 20 0), I 0, (sl 28 0 4 4), I 0, (sl 29 0 3 3), I 0, (sl 32 0 3 3), I 0, (sl 35 0 3 3), I 0, (pt 38 0), I 0, (sl 40 0 4 4), I 0, (sl 42 0 4 4), I 0, (pt 45 0), I 0, (pt 48 0), I 0, U, U, U, U, U, U, (.tuple #[(.agg #[I 1, I 1, I 1, I 1, I 2, I 0, I 1, (I (-1)), I 1, (I (-1)), I 1, (I (-1)), I 2, I 0, I 1, I 1]), I 0]), (sl 8 0 2 2), (.tuple #[(.agg #[I 1, I 1, I 1, I 1, I 2, I 0, I 1, (I (-1)), I 1, (I (-1)), I 1, (I (-1)), I 2, I 0, I 1, I 1]), I 0]), (.agg #[I 1, I 1, I 1, I 1, I 2, I 0, I 1, (I (-1)), I 1, (I (-1)), I 1, (I (-1)), I 2, I 0, I 1, I 1]), I 0, (.tuple #[I 4, I 0]), (sl 10 0 2 2), (.tuple #[I 4, I 0]), I 4, I 0, (.tuple #[(g2 8 5), I 0]), (sl 11 0 2 2), (.tuple #[(g2 8 5), I 0]), (g2 8 5), I 0, (.tuple #[(sl 14 0 2 2), I 0]), (sl 13 0 2 2), (.tuple #[(sl 14 0 2 2), I 0]), (sl 14 0 2 2), I 0, (.tuple #[(sl 17 0 3 3), I 0]), (sl 15 0 0 0), (sl 14 0 2 2), (sl 16 0 2 2), (.tuple #[(sl 17 0 3 3), I 0]), (sl 17 0 3 3), I 0, (.tuple #[(sl 19 0 2 2), I 4, I 0]), (sl 18 0 2 2), (.agg #[I 1, I 0, I 0, I 0, (I (-1)), I 0, I 0, I 0]), (.tuple #[(sl 19 0 2 2), I 4, I 0]), (sl 19 0 2 2), I 4, I 0, (.tuple #[(.agg #[I 6, I 0, I 0, I 2, (I (-2)), I 0, I 0, I 2]), I 0]), (pt 9 0), (g2 1 1), (pt 9 4), (g2 2 0), (pt 9 8), (g2 1 (-1)), (pt 9 12), (g2 2 0), (.agg #[I 1, I 1, I 2, I 0, I 1, (I (-1)), I 2, I 0]), (.tuple #[(.agg #[I 6, I 0, I 0, I 2, (I (-2)), I 0, I 0, I 2]), I 0]), (.agg #[I 6, I 0, I 0, I 2, (I (-2)), I 0, I 0, I 2]), I 0, I 0, I 0, I 0, I 0, I 0, I 0, I 0, I 0, I 0, I 0, I 0, I 0, I 0, (.bool false), (.bool false), (.agg #[I 1, I 1, I 1, I 1, I 2, I 0, I 1, (I (-1)), I 1, (I (-1)), I 1, (I (-1)), I 2, I 0, I 1, I 1]), (g2 1 1), (g2 1 1), (g2 2 0), (g2 1 (-1)), (g2 1 (-1)), (g2 1 (-1)), (g2 2 0), (g2 1 1), (.agg #[I 1, I 1, I 1, I 1, I 2, I 0, I 1, (I (-1)), I 1, (I (-1)), I 1, (I (-1)), I 2, I 0, I 1, I 1]), (.bool false), (.bool false), (.bool false), I 4, (.bool false), (.bool false), (.bool false), (g2 8 5), (g2 8 5), (.bool false), (.bool false), (.bool false), (sl 14 0 2 2), (sl 21 0 2 2), (.agg #[I 0, I 0, I 1, I 0]), (.agg #[I 1, I 0, I 1, I 3]), (sl 22 0 2 2), (.bool true), (.bool false), (.bool false), (.bool false), (sl 17 0 3 3), (sl 23 0 3 3), (.bool true), (.bool false), (.bool false), (.bool false), (sl 19 0 2 2), (sl 24 0 2 2), (sl 14 0 2 2), (sl 25 0 2 2), (.bool true), (.bool false), (.bool false), (.bool false), I 4, (.bool false), (.bool false), (.bool false), (.agg #[I 6, I 0, I 0, I 2, (I (-2)), I 0, I 0, I 2]), (g2 6 0), (g2 0 2), (g2 (-2) 0), (g2 0 2), (.agg #[I 6, I 0, I 0, I 2, (I (-2)), I 0, I 0, I 2]), (.bool false), (.bool false), (.tuple #[(sl 28 0 4 4), I 0]), (sl 26 0 2 2), (sl 27 0 2 2), (.tuple #[(sl 28 0 4 4), I 0]), (sl 28 0 4 4), I 0, (.tuple #[(sl 29 0 3 3), I 0]), (.tuple #[(sl 29 0 3 3), I 0]), (sl 29 0 3 3), I 0, (.tuple #[(sl 32 0 3 3), I 0]), (sl 30 0 0 0), (sl 28 0 4 4), (sl 31 0 4 4), (.tuple #[(sl 32 0 3 3), I 0]), (sl 32 0 3 3), I 0, (.tuple #[(sl 35 0 3 3), I 0]), (sl 33 0 0 0), (sl 29 0 3 3), (sl 34 0 3 3), (.tuple #[(sl 35 0 3 3), I 0]), (sl 35 0 3 3), I 0, (.tuple #[(g2 0 2), I 0]), (sl 36 0 0 0), (sl 29 0 3 3), (sl 37 0 3 3), (.tuple #[(g2 0 2), I 0]), (g2 0 2), I 0, (.tuple #[(sl 40 0 4 4), I 0]), (sl 39 0 2 2), (.tuple #[(sl 40 0 4 4), I 0]), (sl 40 0 4 4), I 0, (.tuple #[(sl 42 0 4 4), I 0]), (sl 41 0 2 2), (.tuple #[(sl 42 0 4 4), I 0]), (sl 42 0 4 4), I 0, (.tuple #[(g2 4 0), I 0]), (sl 43 0 0 0), (sl 40 0 4 4), (sl 44 0 4 4), (.tuple #[(g2 4 0), I 0]), (g2 4 0), I 0, (.tuple #[(g2 0 0), I 0]), (sl 46 0 0 0), (sl 42 0 4 4), (sl 47 0 4 4), (.tuple #[(g2 0 0), I 0]), (g2 0 0), I 0] ++ us 108)
noncomputable def X18 : Heap := (H [rowAwS_11, rowAwS_0, rowAwS_11, rowAwS_11, (rvar [I 8, I 5] 63), rowAwS_11, rowAwS_12, .none, rowAwS_12, rowAwS_14, rowAwS_11, rowAwS_12, rowAwS_9, rowAwS_13, rowAwS_13, rowAwS_14, rowAwS_13, rowAwS_13, rowAwS_11, rowAwS_11, rowAwS_2, rowAwS_7, .none, rowAwS_2, rowAwS_5, .none, rowAwS_7, rowAwS_5, .none, rowAwS_7, (rvar [I 0, I 2] 34), rowAwS_11, rowAwS_3, rowAwS_11, rowAwS_1, .none, rowAwS_3, (rvar [I 4, I 0] 34), .none, rowAwS_1, (rvar [I 0, I 0] 34)])
noncomputable def L19 : List Value := ([(.bool false), (pt 9 0), I 0, I 4, I 0, (pt 12 0), I 0, (sl 14 0 2 2), I 0, (sl 17 0 3 3), I 0, (sl 19 0 2 2), I 4, I 0, (pt 20 0), I 0, (sl 28 0 4 4), I 0, (sl 29 0 3 3), I 0, (sl 32 0 3 3), I 0, (sl 35 0 3 3), I 0, (pt 38 0), I 0, (sl 40 0 4 4), I 0, (sl 42 0 4 4), I 0, (pt 45 0), I 0, (pt 48 0), I 0, (sl 50 0 1 1), I 0, U, U, U, U, (.tuple #[(.agg #[I 1, I 1, I 1, I 1, I 2, I 0, I 1, (I (-1)), I 1, (I (-1)), I 1, (I (-1)), I 2, I 0, I 1, I 1]), I 0]), (sl 8 0 2 2), (.tuple #[(.agg #[I 1, I 1, I 1, I 1, I 2, I 0, I 1, (I (-1)), I 1, (I (-1)), I 1, (I (-1)), I 2, I 0, I 1, I 1]), I 0]), (.agg #[I 1, I 1, I 1, I 1, I 2, I 0, I 1, (I (-1)), I 1, (I (-1)), I 1, (I (-1)), I 2, I 0, I 1, I 1]), I 0, (.tuple #[I 4, I 0]), (sl 10 0 2 2), (.tuple #[I 4, I 0]), I 4, I 0, (.tuple #[(g2 8 5), I 0]), (sl 11 0 2 2), (.tuple #[(g2 8 5), I 0]), (g2 8 5), I 0, (.tuple #[(sl 14 0 2 2), I 0]), (sl 13 0 2 2), (.tuple #[(sl 14 0 2 2), I 0]), (sl 14 0 2 2), I 0, (.tuple #[(sl 17 0 3 3), I 0]), (sl 15 0 0 0), (sl 14 0 2 2), (sl 16 0 2 2), (.tuple #[(sl 17 0 3 3), I 0]), (sl 17 0 3 3), I 0, (.tuple #[(sl 19 0 2 2), I 4, I 0]), (sl 18 0 2 2), (.agg #[I 1, I 0, I 0, I 0, (I (-1)), I 0, I 0, I 0]), (.tuple #[(sl 19 0 2 2), I 4, I 0]), (sl 19 0 2 2), I 4, I 0, (.tuple #[(.agg #[I 6, I 0, I 0, I 2, (I (-2)), I 0, I 0, I 2]), I 0]), (pt 9 0), (g2 1 1), (pt 9 4), (g2 2 0), (pt 9 8), (g2 1 (-1)), (pt 9 12), (g2 2 0), (.agg #[I 1, I 1, I 2, I 0, I 1, (I (-1)), I 2, I 0]), (.tuple #[(.agg #[I 6, I 0, I 0, I 2, (I (-2)), I 0, I 0, I 2]), I 0]), (.agg #[I 6, I 0, I 0, I 2, (I (-2)), I 0, I 0, I 2]), I 0, I 0, I 0, I 0, I 0, I 0, I 0, I 0, I 0, I 0, I 0, I 0, I 0, I 0, (.bool false), (.bool false), (.agg #[I 1, I 1, I 1, I 1, I 2, I 0, I 1, (I (-1)), I 1, (I (-1)), I 1, (I (-1)), I 2, I 0, I 1, I 1]), (g2 1 1), (g2 1 1), (g2 2 0), (g2 1 (-1)), (g2 1 (-1)), (g2 1 (-1)), (g2 2 0), (g2 1 1), (.agg #[I 1, I 1, I 1, I 1, I 2, I 0, I 1, (I (-1)), I 1, (I (-1)), I 1, (I (-1)), I 2, I 0, I 1, I 1]), (.bool false), (.bool false), (.bool false), I 4, (.bool false), (.bool false), (.bool false), (g2 8 5), (g2 8 5), (.bool false), (.bool false), (.bool false), (sl 14 0 2 2), (sl 21 0 2 2), (.agg #[I 0, I 0, I 1, I 0]), (.agg #[I 1, I 0, I 1, I 3]), (sl 22 0 2 2), (.bool true), (.bool false), (.bool false), (.bool false), (sl 17 0 3 3), (sl 23 0 3 3), (.bool true), (.bool false), (.bool false), (.bool false), (sl 19 0 2 2), (sl 24 0 2 2), (sl 14 0 2 2), (sl 25 0 2 2), (.bool true), (.bool false), (.bool false), (.bool false), I 4, (.bool false), (.bool false), (.bool false), (.agg #[I 6, I 0, I 0, I 2, (I (-2)), I 0, I 0, I 2]), (g2 6 0), (g2 0 2), (g2 (-2) 0), (g2 0 2), (.agg #[I 6, I 0, I 0, I 2, (I (-2)), I 0, I 0, I 2]), (.bool false), (.bool false), (.tuple #[(sl 28 0 4 4), I 0]), (sl 26 0 2 2), (sl 27 0 2 2), (.tuple #[(sl 28 0 4 4), I 0]), (sl 28 0 4 4), I 0, (.tuple #[(sl 29 0 3 3), I 0]), (.tuple #[(sl 29 0 3 3), I 0]), (sl 29 0 3 3), I 0, (.tuple #[(sl 32 0 3 3), I 0]), (sl 30 0 0 0), (sl 28 0 4 4), (sl 31 0 4 4), (.tuple #[(sl 32 0 3 3), I 0]), (sl 32 0 3 3), I 0, (.tuple #[(sl 35 0 3 3), I 0]), (sl 33 0 0 0), (sl 29 0 3 3), (sl 34 0 3 3), (.tuple #[(sl 35 0 3 3), I 0]), (sl 35 0 3 3), I 0, (.tuple #[(g2 0 2), I 0]), (sl 36 0 0 0), (sl 29 0 3 3), (sl 37 0 3 3), (.tuple #[(g2 0 2), I 0]), (g2 0 2), I 0, (.tuple #[(sl 40 0 4 4), I 0]), (sl 39 0 2 2), (.tuple #[(sl 40 0 4 4), I 0]), (sl 40 0 4 4), I 0, (.tuple #[(sl 42 0 4 4), I 0]), (sl 41 0 2 2), (.tuple #[(sl 42 0 4 4), I 0]), (sl 42 0 4 4), I 0, (.tuple #[(g2 4 0), I 0]), (sl 43 0 0 0), (sl 40 0 4 4), (sl 44 0 4 4), (.tuple #[(g2 4 0), I 0]), (g2 4 0), I 0, (.tuple #[(g2 0 0), I 0]), (sl 46 0 0 0), (sl 42 0 4 4), (sl 47 0 4 4), (.tuple #[(g2 0 0), I 0]), (g2 0 0), I 0, (.tuple #[(sl 50 0 1 1), I 0]), (sl 49 0 2 2), (.tuple #[(sl 50 0 1 1), I 0]), (sl 50 0 1 1), I 0] ++ us 103)
noncomputable def X19 : Heap := (H [rowAwS_11, rowAwS_0, rowAwS_11, rowAwS_11, (rvar [I 8, I 5] 63), rowAwS_11, rowAwS_12, .none, rowAwS_12, rowAwS_14, rowAwS_11, rowAwS_12, rowAwS_9, rowAwS_13, rowAwS_13, rowAwS_14, rowAwS_13, rowAwS_13, rowAwS_11, rowAwS_11, rowAwS_2, rowAwS_7, .none, rowAwS_2, rowAwS_5, .none, rowAwS_7, rowAwS_5, .none, rowAwS_7, (rvar [I 0, I 2] 34), rowAwS_11, rowAwS_3, rowAwS_11, rowAwS_1, .none, rowAwS_3, (rvar [I 4, I 0] 34), .none, rowAwS_1, (rvar [I 0, I 0] 34), rowAwS_11, (rrow [I 0] 3)])
noncomputable def L20 : List Value := ([(.bool false), (pt 9 0), I 0, I 4, I 0, (pt 12 0), I 0, (sl 14 0 2 2), I 0, (sl 17 0 3 3), I 0, (sl 19 0 2 2), I 4, I 0, (pt 20 0), I 0, (sl 28 0 4 4), I 0, (sl 29 0 3 3), I 0, (sl 32 0 3 3), I 0, (sl 35 0 3 3), I 0, (pt 38 0), I 0, (sl 40 0 4 4), I 0, (sl 42 0 4 4), I 0, (pt 45 0), I 0, (pt 48 0), I 0, (sl 50 0 1 1), I 0, (sl 52 0 2 2), I 0, U, U, (.tuple #[(.agg #[I 1, I 1, I 1, I 1, I 2, I 0, I 1, (I (-1)), I 1, (I (-1)), I 1, (I (-1)), I 2, I 0, I 1, I 1]), I 0]), (sl 8 0 2 2), (.tuple #[(.agg #[I 1, I 1, I 1, I 1, I 2, I 0, I 1, (I (-1)), I 1, (I (-1)), I 1, (I (-1)), I 2, I 0, I 1, I 1]), I 0]), (.agg #[I 1, I 1, I 1, I 1, I 2, I 0, I 1, (I (-1)), I 1, (I (-1)), I 1, (I (-1)), I 2, I 0, I 1, I 1]), I 0, (.tuple #[I 4, I 0]), (sl 10 0 2 2), (.tuple #[I 4, I 0]), I 4, I 0, (.tuple #[(g2 8 5), I 0]), (sl 11 0 2 2), (.tuple #[(g2 8 5), I 0]), (g2 8 5), I 0, (.tuple #[(sl 14 0 2 2), I 0]), (sl 13 0 2 2), (.tuple #[(sl 14 0 2 2), I 0]), (sl 14 0 2 2), I 0, (.tuple #[(sl 17 0 3 3), I 0]), (sl 15 0 0 0), (sl 14 0 2 2), (sl 16 0 2 2), (.tuple #[(sl 17 0 3 3), I 0]), (sl 17 0 3 3), I 0, (.tuple #[(sl 19 0 2 2), I 4, I 0]), (sl 18 0 2 2), (.agg #[I 1, I 0, I 0, I 0, (I (-1)), I 0, I 0, I 0]), (.tuple #[(sl 19 0 2 2), I 4, I 0]), (sl 19 0 2 2), I 4, I 0, (.tuple #[(.agg #[I 6, I 0, I 0, I 2, (I (-2)), I 0, I 0, I 2]), I 0]), (pt 9 0), (g2 1 1), (pt 9 4), (g2 2 0), (pt 9 8), (g2 1 (-1)), (pt 9 12), (g2 2 0), (.agg #[I 1, I 1, I 2, I 0, I 1, (I (-1)), I 2, I 0]), (.tuple #[(.agg #[I 6, I 0, I 0, I 2, (I (-2)), I 0, I 0, I 2]), I 0]), (.agg #[I 6, I 0, I 0, I 2, (I (-2)), I 0, I 0, I 2]), I 0, I 0, I 0, I 0, I 0, I 0, I 0, I 0, I 0, I 0, I 0, I 0, I 0, I 0, (.bool false), (.bool false), (.agg #[I 1, I 1, I 1, I 1, I 2, I 0, I 1, (I (-1)), I 1, (I (-1)), I 1, (I (-1)), I 2, I 0, I 1, I 1]), (g2 1 1), (g2 1 1), (g2 2 0), (g2 1 (-1)), (g2 1 (-1)), (g2 1 (-1)), (g2 2 0), (g2 1 1), (.agg #[I 1, I 1, I 1, I 1, I 2, I 0, I 1, (I (-1)), I 1, (I (-1)), I 1, (I (-1)), I 2, I 0, I 1, I 1]), (.bool false), (.bool false), (.bool false), I 4, (.bool false), (.bool false), (.bool false), (g2 8 5), (g2 8 5), (.bool false), (.bool false), (.bool false), (sl 14 0 2 2), (sl 21 0 2 2), (.agg #[I 0, I 0, I 1, I 0]), (.agg #[I 1, I 0, I 1, I 3]), (sl 22 0 2 2), (.bool true), (.bool false), (.bool false), (.bool false), (sl 17 0 3 3), (sl 23 0 3 3), (.bool true), (.bool false), (.bool false), (.bool false), (sl 19 0 2 2), (sl 24 0 2 2), (sl 14 0 2 2), (sl 25 0 2 2), (.bool true), (.bool false), (.bool false), (.bool false), I 4, (.bool false), (.bool false), (.bool false), (.agg #[I 6, I 0, I 0, I 2, (I (-2)), I 0, I 0, I 2]), (g2 6 0), (g2 0 2), (g2 (-2) 0), (g2 0 2), (.agg #[I 6, I 0, I 0, I 2, (I (-2)), I 0, I 0, I 2]), (.bool false), (.bool false), (.tuple #[(sl 28 0 4 4), I 0]), (sl 26 0 2 2), (sl 27 0 2 2), (.tuple #[(sl 28 0 4 4), I 0]), (sl 28 0 4 4), I 0, (.tuple #[(sl 29 0 3 3), I 0]), (.tuple #[(sl 29 0 3 3), I 0]), (sl 29 0 3 3), I 0, (.tuple #[(sl 32 0 3 3), I 0]), (sl 30 0 0 0), (sl 28 0 4 4), (sl 31 0 4 4), (.tuple #[(sl 32 0 3 3), I 0]), (sl 32 0 3 3), I 0, (.tuple #[(sl 35 0 3 3), I 0]), (sl 33 0 0 0), (sl 29 0 3 3), (sl 34 0 3 3), (.tuple #[(sl 35 0 3 3), I 0]), (sl 35 0 3 3), I 0, (.tuple #[(g2 0 2), I 0]), (sl 36 0 0 0), (sl 29 0 3 3), (sl 37 0 3 3), (.tuple #[(g2 0 2), I 0]), (g2 0 2), I 0, (.tuple #[(sl 40 0 4 4), I 0]), (sl 39 0 2 2), (.tuple #[(sl 40 0 4 4), I 0]), (sl 40 0 4 4), I 0, (.tuple #[(sl 42 0 4 4), I 0]), (sl 41 0 2 2), (.tuple #[(sl 42 0 4 4), I 0]), (sl 42 0 4 4), I 0, (.tuple #[(g2 4 0), I 0]), (sl 43 0 0 0), (sl 40 0 4 4), (sl 44 0 4 4), (.tuple #[(g2 4 0), I 0]), (g2 4 0), I 0, (.tuple #[(g2 0 0), I 0]), (sl 46 0 0 0), (sl 42 0 4 4), (sl 47 0 4 4), (.tuple #[(g2 0 0), I 0]), (g2 0 0), I 0, (.tuple #[(sl 50 0 1 1), I 0]), (sl 49 0 2 2), (.tuple #[(sl 50 0 1 1), I 0]), (sl 50 0 1 1), I 0, (.tuple #[(sl 52 0 2 2), I 0]), (.agg #[I 1, I 0, I 1, I 0]), (.agg #[(I (-1)), I 0, I 1, I 0]), (sl 51 0 2 2), (.tuple #[(sl 52 0 2 2), I 0]), (sl 52 0 2 2), I 0] ++ us 96)
noncomputable def X20 : Heap := (H [rowAwS_11, rowAwS_0, rowAwS_11, rowAwS_11, (rvar [I 8, I 5] 63), rowAwS_11, rowAwS_12, .none, rowAwS_12, rowAwS_14, rowAwS_11, rowAwS_12, rowAwS_9, rowAwS_13, rowAwS_13, rowAwS_14, rowAwS_13, rowAwS_13, rowAwS_11, rowAwS_11, rowAwS_2, rowAwS_7, .none, rowAwS_2, rowAwS_5, .none, rowAwS_7, rowAwS_5, .none, rowAwS_7, (rvar [I 0, I 2] 34), rowAwS_11, rowAwS_3, rowAwS_11, rowAwS_1, .none, rowAwS_3, (rvar [I 4, I 0] 34), .none, rowAwS_1, (rvar [I 0, I 0] 34), rowAwS_11, (rrow [I 0] 3), rowAwS_10, (rrow [I 0, I 2] 3)])
noncomputable def L21 : List Value := ([(.bool false), (pt 9 0), I 0, I 4, I 0, (pt 12 0), I 0, (sl 14 0 2 2), I 0, (sl 17 0 3 3), I 0, (sl 19 0 2 2), I 4, I 0, (pt 20 0), I 0, (sl 28 0 4 4), I 0, (sl 29 0 3 3), I 0, (sl 32 0 3 3), I 0, (sl 35 0 3 3), I 0, (pt 38 0), I 0, (sl 40 0 4 4), I 0, (sl 42 0 4 4), I 0, (pt 45 0), I 0, (pt 48 0), I 0, (sl 50 0 1 1), I 0, (sl 52 0 2 2), I 0, (.string (ByteArray.mk #[(UInt8.ofNat 115), (UInt8.ofNat 111), (UInt8.ofNat 117), (UInt8.ofNat 114), (UInt8.ofNat 99), (UInt8.ofNat 101), (UInt8.ofNat 32), (UInt8.ofNat 48), (UInt8.ofNat 32), (UInt8.ofNat 48), (UInt8.ofNat 32), (UInt8.ofNat 49), (UInt8.ofNat 32), (UInt8.ofNat 48), (UInt8.ofNat 10), (UInt8.ofNat 115), (UInt8.ofNat 111), (UInt8.ofNat 117), (UInt8.ofNat 114), (UInt8.ofNat 99), (UInt8.ofNat 101), (UInt8.ofNat 32), (UInt8.ofNat 49), (UInt8.ofNat 32), (UInt8.ofNat 48), (UInt8.ofNat 32), (UInt8.ofNat 49), (UInt8.ofNat 32), (UInt8.ofNat 48), (UInt8.ofNat 10)])), I 0, (.tuple #[(.agg #[I 1, I 1, I 1, I 1, I 2, I 0, I 1, (I (-1)), I 1, (I (-1)), I 1, (I (-1)), I 2, I 0, I 1, I 1]), I 0]), (sl 8 0 2 2), (.tuple #[(.agg #[I 1, I 1, I 1, I 1, I 2, I 0, I 1, (I (-1)), I 1, (I (-1)), I 1, (I (-1)), I 2, I 0, I 1, I 1]), I 0]), (.agg #[I 1, I 1, I 1, I 1, I 2, I 0, I 1, (I (-1)), I 1, (I (-1)), I 1, (I (-1)), I 2, I 0, I 1, I 1]), I 0, (.tuple #[I 4, I 0]), (sl 10 0 2 2), (.tuple #[I 4, I 0]), I 4, I 0, (.tuple #[(g2 8 5), I 0]), (sl 11 0 2 2), (.tuple #[(g2 8 5), I 0]), (g2 8 5), I 0, (.tuple #[(sl 14 0 2 2), I 0]), (sl 13 0 2 2), (.tuple #[(sl 14 0 2 2), I 0]), (sl 14 0 2 2), I 0, (.tuple #[(sl 17 0 3 3), I 0]), (sl 15 0 0 0), (sl 14 0 2 2), (sl 16 0 2 2), (.tuple #[(sl 17 0 3 3), I 0]), (sl 17 0 3 3), I 0, (.tuple #[(sl 19 0 2 2), I 4, I 0]), (sl 18 0 2 2), (.agg #[I 1, I 0, I 0, I 0, (I (-1)), I 0, I 0, I 0]), (.tuple #[(sl 19 0 2 2), I 4, I 0]), (sl 19 0 2 2), I 4, I 0, (.tuple #[(.agg #[I 6, I 0, I 0, I 2, (I (-2)), I 0, I 0, I 2]), I 0]), (pt 9 0), (g2 1 1), (pt 9 4), (g2 2 0), (pt 9 8), (g2 1 (-1)), (pt 9 12), (g2 2 0), (.agg #[I 1, I 1, I 2, I 0, I 1, (I (-1)), I 2, I 0]), (.tuple #[(.agg #[I 6, I 0, I 0, I 2, (I (-2)), I 0, I 0, I 2]), I 0]), (.agg #[I 6, I 0, I 0, I 2, (I (-2)), I 0, I 0, I 2]), I 0, I 0, I 0, I 0, I 0, I 0, I 0, I 0, I 0, I 0, I 0, I 0, I 0, I 0, (.bool false), (.bool false), (.agg #[I 1, I 1, I 1, I 1, I 2, I 0, I 1, (I (-1)), I 1, (I (-1)), I 1, (I (-1)), I 2, I 0, I 1, I 1]), (g2 1 1), (g2 1 1), (g2 2 0), (g2 1 (-1)), (g2 1 (-1)), (g2 1 (-1)), (g2 2 0), (g2 1 1), (.agg #[I 1, I 1, I 1, I 1, I 2, I 0, I 1, (I (-1)), I 1, (I (-1)), I 1, (I (-1)), I 2, I 0, I 1, I 1]), (.bool false), (.bool false), (.bool false), I 4, (.bool false), (.bool false), (.bool false), (g2 8 5), (g2 8 5), (.bool false), (.bool false), (.bool false), (sl 14 0 2 2), (sl 21 0 2 2), (.agg #[I 0, I 0, I 1, I 0]), (.agg #[I 1, I 0, I 1, I 3]), (sl 22 0 2 2), (.bool true), (.bool false), (.bool false), (.bool false), (sl 17 0 3 3), (sl 23 0 3 3), (.bool true), (.bool false), (.bool false), (.bool false), (sl 19 0 2 2), (sl 24 0 2 2), (sl 14 0 2 2), (sl 25 0 2 2), (.bool true), (.bool false), (.bool false), (.bool false), I 4, (.bool false), (.bool false), (.bool false), (.agg #[I 6, I 0, I 0, I 2, (I (-2)), I 0, I 0, I 2]), (g2 6 0), (g2 0 2), (g2 (-2) 0), (g2 0 2), (.agg #[I 6, I 0, I 0, I 2, (I (-2)), I 0, I 0, I 2]), (.bool false), (.bool false), (.tuple #[(sl 28 0 4 4), I 0]), (sl 26 0 2 2), (sl 27 0 2 2), (.tuple #[(sl 28 0 4 4), I 0]), (sl 28 0 4 4), I 0, (.tuple #[(sl 29 0 3 3), I 0]), (.tuple #[(sl 29 0 3 3), I 0]), (sl 29 0 3 3), I 0, (.tuple #[(sl 32 0 3 3), I 0]), (sl 30 0 0 0), (sl 28 0 4 4), (sl 31 0 4 4), (.tuple #[(sl 32 0 3 3), I 0]), (sl 32 0 3 3), I 0, (.tuple #[(sl 35 0 3 3), I 0]), (sl 33 0 0 0), (sl 29 0 3 3), (sl 34 0 3 3), (.tuple #[(sl 35 0 3 3), I 0]), (sl 35 0 3 3), I 0, (.tuple #[(g2 0 2), I 0]), (sl 36 0 0 0), (sl 29 0 3 3), (sl 37 0 3 3), (.tuple #[(g2 0 2), I 0]), (g2 0 2), I 0, (.tuple #[(sl 40 0 4 4), I 0]), (sl 39 0 2 2), (.tuple #[(sl 40 0 4 4), I 0]), (sl 40 0 4 4), I 0, (.tuple #[(sl 42 0 4 4), I 0]), (sl 41 0 2 2), (.tuple #[(sl 42 0 4 4), I 0]), (sl 42 0 4 4), I 0, (.tuple #[(g2 4 0), I 0]), (sl 43 0 0 0), (sl 40 0 4 4), (sl 44 0 4 4), (.tuple #[(g2 4 0), I 0]), (g2 4 0), I 0, (.tuple #[(g2 0 0), I 0]), (sl 46 0 0 0), (sl 42 0 4 4), (sl 47 0 4 4), (.tuple #[(g2 0 0), I 0]), (g2 0 0), I 0, (.tuple #[(sl 50 0 1 1), I 0]), (sl 49 0 2 2), (.tuple #[(sl 50 0 1 1), I 0]), (sl 50 0 1 1), I 0, (.tuple #[(sl 52 0 2 2), I 0]), (.agg #[I 1, I 0, I 1, I 0]), (.agg #[(I (-1)), I 0, I 1, I 0]), (sl 51 0 2 2), (.tuple #[(sl 52 0 2 2), I 0]), (sl 52 0 2 2), I 0, (.tuple #[(.string (ByteArray.mk #[(UInt8.ofNat 115), (UInt8.ofNat 111), (UInt8.ofNat 117), (UInt8.ofNat 114), (UInt8.ofNat 99), (UInt8.ofNat 101), (UInt8.ofNat 32), (UInt8.ofNat 48), (UInt8.ofNat 32), (UInt8.ofNat 48), (UInt8.ofNat 32), (UInt8.ofNat 49), (UInt8.ofNat 32), (UInt8.ofNat 48), (UInt8.ofNat 10), (UInt8.ofNat 115), (UInt8.ofNat 111), (UInt8.ofNat 117), (UInt8.ofNat 114), (UInt8.ofNat 99), (UInt8.ofNat 101), (UInt8.ofNat 32), (UInt8.ofNat 49), (UInt8.ofNat 32), (UInt8.ofNat 48), (UInt8.ofNat 32), (UInt8.ofNat 49), (UInt8.ofNat 32), (UInt8.ofNat 48), (UInt8.ofNat 10)])), I 0]), (sl 53 0 2 2), (.tuple #[(.string (ByteArray.mk #[(UInt8.ofNat 115), (UInt8.ofNat 111), (UInt8.ofNat 117), (UInt8.ofNat 114), (UInt8.ofNat 99), (UInt8.ofNat 101), (UInt8.ofNat 32), (UInt8.ofNat 48), (UInt8.ofNat 32), (UInt8.ofNat 48), (UInt8.ofNat 32), (UInt8.ofNat 49), (UInt8.ofNat 32), (UInt8.ofNat 48), (UInt8.ofNat 10), (UInt8.ofNat 115), (UInt8.ofNat 111), (UInt8.ofNat 117), (UInt8.ofNat 114), (UInt8.ofNat 99), (UInt8.ofNat 101), (UInt8.ofNat 32), (UInt8.ofNat 49), (UInt8.ofNat 32), (UInt8.ofNat 48), (UInt8.ofNat 32), (UInt8.ofNat 49), (UInt8.ofNat 32), (UInt8.ofNat 48), (UInt8.ofNat 10)])), I 0]), (.string (ByteArray.mk #[(UInt8.ofNat 115), (UInt8.ofNat 111), (UInt8.ofNat 117), (UInt8.ofNat 114), (UInt8.ofNat 99), (UInt8.ofNat 101), (UInt8.ofNat 32), (UInt8.ofNat 48), (UInt8.ofNat 32), (UInt8.ofNat 48), (UInt8.ofNat 32), (UInt8.ofNat 49), (UInt8.ofNat 32), (UInt8.ofNat 48), (UInt8.ofNat 10), (UInt8.ofNat 115), (UInt8.ofNat 111), (UInt8.ofNat 117), (UInt8.ofNat 114), (UInt8.ofNat 99), (UInt8.ofNat 101), (UInt8.ofNat 32), (UInt8.ofNat 49), (UInt8.ofNat 32), (UInt8.ofNat 48), (UInt8.ofNat 32), (UInt8.ofNat 49), (UInt8.ofNat 32), (UInt8.ofNat 48), (UInt8.ofNat 10)])), I 0] ++ us 91)
noncomputable def X21 : Heap := (H [rowAwS_11, rowAwS_0, rowAwS_11, rowAwS_11, (rvar [I 8, I 5] 63), rowAwS_11, rowAwS_12, .none, rowAwS_12, rowAwS_14, rowAwS_11, rowAwS_12, rowAwS_9, rowAwS_13, rowAwS_13, rowAwS_14, rowAwS_13, rowAwS_13, rowAwS_11, rowAwS_11, rowAwS_2, rowAwS_7, .none, rowAwS_2, rowAwS_5, .none, rowAwS_7, rowAwS_5, .none, rowAwS_7, (rvar [I 0, I 2] 34), rowAwS_11, rowAwS_3, rowAwS_11, rowAwS_1, .none, rowAwS_3, (rvar [I 4, I 0] 34), .none, rowAwS_1, (rvar [I 0, I 0] 34), rowAwS_11, (rrow [I 0] 3), rowAwS_10, (rrow [I 0, I 2] 3), rowAwS_11])
noncomputable def L22 : List Value := [(.bool true), (pt 9 0), I 0, I 4, I 0, (pt 12 0), I 0, (sl 14 0 2 2), I 0, (sl 17 0 3 3), I 0, (sl 19 0 2 2), I 4, I 0, (pt 20 0), I 0, (sl 28 0 4 4), I 0, (sl 29 0 3 3), I 0, (sl 32 0 3 3), I 0, (sl 35 0 3 3), I 0, (pt 38 0), I 0, (sl 40 0 4 4), I 0, (sl 42 0 4 4), I 0, (pt 45 0), I 0, (pt 48 0), I 0, (sl 50 0 1 1), I 0, (sl 52 0 2 2), I 0, (.string (ByteArray.mk #[(UInt8.ofNat 115), (UInt8.ofNat 111), (UInt8.ofNat 117), (UInt8.ofNat 114), (UInt8.ofNat 99), (UInt8.ofNat 101), (UInt8.ofNat 32), (UInt8.ofNat 48), (UInt8.ofNat 32), (UInt8.ofNat 48), (UInt8.ofNat 32), (UInt8.ofNat 49), (UInt8.ofNat 32), (UInt8.ofNat 48), (UInt8.ofNat 10), (UInt8.ofNat 115), (UInt8.ofNat 111), (UInt8.ofNat 117), (UInt8.ofNat 114), (UInt8.ofNat 99), (UInt8.ofNat 101), (UInt8.ofNat 32), (UInt8.ofNat 49), (UInt8.ofNat 32), (UInt8.ofNat 48), (UInt8.ofNat 32), (UInt8.ofNat 49), (UInt8.ofNat 32), (UInt8.ofNat 48), (UInt8.ofNat 10)])), I 0, (.tuple #[(.agg #[I 1, I 1, I 1, I 1, I 2, I 0, I 1, (I (-1)), I 1, (I (-1)), I 1, (I (-1)), I 2, I 0, I 1, I 1]), I 0]), (sl 8 0 2 2), (.tuple #[(.agg #[I 1, I 1, I 1, I 1, I 2, I 0, I 1, (I (-1)), I 1, (I (-1)), I 1, (I (-1)), I 2, I 0, I 1, I 1]), I 0]), (.agg #[I 1, I 1, I 1, I 1, I 2, I 0, I 1, (I (-1)), I 1, (I (-1)), I 1, (I (-1)), I 2, I 0, I 1, I 1]), I 0, (.tuple #[I 4, I 0]), (sl 10 0 2 2), (.tuple #[I 4, I 0]), I 4, I 0, (.tuple #[(g2 8 5), I 0]), (sl 11 0 2 2), (.tuple #[(g2 8 5), I 0]), (g2 8 5), I 0, (.tuple #[(sl 14 0 2 2), I 0]), (sl 13 0 2 2), (.tuple #[(sl 14 0 2 2), I 0]), (sl 14 0 2 2), I 0, (.tuple #[(sl 17 0 3 3), I 0]), (sl 15 0 0 0), (sl 14 0 2 2), (sl 16 0 2 2), (.tuple #[(sl 17 0 3 3), I 0]), (sl 17 0 3 3), I 0, (.tuple #[(sl 19 0 2 2), I 4, I 0]), (sl 18 0 2 2), (.agg #[I 1, I 0, I 0, I 0, (I (-1)), I 0, I 0, I 0]), (.tuple #[(sl 19 0 2 2), I 4, I 0]), (sl 19 0 2 2), I 4, I 0, (.tuple #[(.agg #[I 6, I 0, I 0, I 2, (I (-2)), I 0, I 0, I 2]), I 0]), (pt 9 0), (g2 1 1), (pt 9 4), (g2 2 0), (pt 9 8), (g2 1 (-1)), (pt 9 12), (g2 2 0), (.agg #[I 1, I 1, I 2, I 0, I 1, (I (-1)), I 2, I 0]), (.tuple #[(.agg #[I 6, I 0, I 0, I 2, (I (-2)), I 0, I 0, I 2]), I 0]), (.agg #[I 6, I 0, I 0, I 2, (I (-2)), I 0, I 0, I 2]), I 0, I 0, I 0, I 0, I 0, I 0, I 0, I 0, I 0, I 0, I 0, I 0, I 0, I 0, (.bool false), (.bool false), (.agg #[I 1, I 1, I 1, I 1, I 2, I 0, I 1, (I (-1)), I 1, (I (-1)), I 1, (I (-1)), I 2, I 0, I 1, I 1]), (g2 1 1), (g2 1 1), (g2 2 0), (g2 1 (-1)), (g2 1 (-1)), (g2 1 (-1)), (g2 2 0), (g2 1 1), (.agg #[I 1, I 1, I 1, I 1, I 2, I 0, I 1, (I (-1)), I 1, (I (-1)), I 1, (I (-1)), I 2, I 0, I 1, I 1]), (.bool false), (.bool false), (.bool false), I 4, (.bool false), (.bool false), (.bool false), (g2 8 5), (g2 8 5), (.bool false), (.bool false), (.bool false), (sl 14 0 2 2), (sl 21 0 2 2), (.agg #[I 0, I 0, I 1, I 0]), (.agg #[I 1, I 0, I 1, I 3]), (sl 22 0 2 2), (.bool true), (.bool false), (.bool false), (.bool false), (sl 17 0 3 3), (sl 23 0 3 3), (.bool true), (.bool false), (.bool false), (.bool false), (sl 19 0 2 2), (sl 24 0 2 2), (sl 14 0 2 2), (sl 25 0 2 2), (.bool true), (.bool false), (.bool false), (.bool false), I 4, (.bool false), (.bool false), (.bool false), (.agg #[I 6, I 0, I 0, I 2, (I (-2)), I 0, I 0, I 2]), (g2 6 0), (g2 0 2), (g2 (-2) 0), (g2 0 2), (.agg #[I 6, I 0, I 0, I 2, (I (-2)), I 0, I 0, I 2]), (.bool false), (.bool false), (.tuple #[(sl 28 0 4 4), I 0]), (sl 26 0 2 2), (sl 27 0 2 2), (.tuple #[(sl 28 0 4 4), I 0]), (sl 28 0 4 4), I 0, (.tuple #[(sl 29 0 3 3), I 0]), (.tuple #[(sl 29 0 3 3), I 0]), (sl 29 0 3 3), I 0, (.tuple #[(sl 32 0 3 3), I 0]), (sl 30 0 0 0), (sl 28 0 4 4), (sl 31 0 4 4), (.tuple #[(sl 32 0 3 3), I 0]), (sl 32 0 3 3), I 0, (.tuple #[(sl 35 0 3 3), I 0]), (sl 33 0 0 0), (sl 29 0 3 3), (sl 34 0 3 3), (.tuple #[(sl 35 0 3 3), I 0]), (sl 35 0 3 3), I 0, (.tuple #[(g2 0 2), I 0]), (sl 36 0 0 0), (sl 29 0 3 3), (sl 37 0 3 3), (.tuple #[(g2 0 2), I 0]), (g2 0 2), I 0, (.tuple #[(sl 40 0 4 4), I 0]), (sl 39 0 2 2), (.tuple #[(sl 40 0 4 4), I 0]), (sl 40 0 4 4), I 0, (.tuple #[(sl 42 0 4 4), I 0]), (sl 41 0 2 2), (.tuple #[(sl 42 0 4 4), I 0]), (sl 42 0 4 4), I 0, (.tuple #[(g2 4 0), I 0]), (sl 43 0 0 0), (sl 40 0 4 4), (sl 44 0 4 4), (.tuple #[(g2 4 0), I 0]), (g2 4 0), I 0, (.tuple #[(g2 0 0), I 0]), (sl 46 0 0 0), (sl 42 0 4 4), (sl 47 0 4 4), (.tuple #[(g2 0 0), I 0]), (g2 0 0), I 0, (.tuple #[(sl 50 0 1 1), I 0]), (sl 49 0 2 2), (.tuple #[(sl 50 0 1 1), I 0]), (sl 50 0 1 1), I 0, (.tuple #[(sl 52 0 2 2), I 0]), (.agg #[I 1, I 0, I 1, I 0]), (.agg #[(I (-1)), I 0, I 1, I 0]), (sl 51 0 2 2), (.tuple #[(sl 52 0 2 2), I 0]), (sl 52 0 2 2), I 0, (.tuple #[(.string (ByteArray.mk #[(UInt8.ofNat 115), (UInt8.ofNat 111), (UInt8.ofNat 117), (UInt8.ofNat 114), (UInt8.ofNat 99), (UInt8.ofNat 101), (UInt8.ofNat 32), (UInt8.ofNat 48), (UInt8.ofNat 32), (UInt8.ofNat 48), (UInt8.ofNat 32), (UInt8.ofNat 49), (UInt8.ofNat 32), (UInt8.ofNat 48), (UInt8.ofNat 10), (UInt8.ofNat 115), (UInt8.ofNat 111), (UInt8.ofNat 117), (UInt8.ofNat 114), (UInt8.ofNat 99), (UInt8.ofNat 101), (UInt8.ofNat 32), (UInt8.ofNat 49), (UInt8.ofNat 32), (UInt8.ofNat 48), (UInt8.ofNat 32), (UInt8.ofNat 49), (UInt8.ofNat 32), (UInt8.ofNat 48), (UInt8.ofNat 10)])), I 0]), (sl 53 0 2 2), (.tuple #[(.string (ByteArray.mk #[(UInt8.ofNat 115), (UInt8.ofNat 111), (UInt8.ofNat 117), (UInt8.ofNat 114), (UInt8.ofNat 99), (UInt8.ofNat 101), (UInt8.ofNat 32), (UInt8.ofNat 48), (UInt8.ofNat 32), (UInt8.ofNat 48), (UInt8.ofNat 32), (UInt8.ofNat 49), (UInt8.ofNat 32), (UInt8.ofNat 48), (UInt8.ofNat 10), (UInt8.ofNat 115), (UInt8.ofNat 111), (UInt8.ofNat 117), (UInt8.ofNat 114), (UInt8.ofNat 99), (UInt8.ofNat 101), (UInt8.ofNat 32), (UInt8.ofNat 49), (UInt8.ofNat 32), (UInt8.ofNat 48), (UInt8.ofNat 32), (UInt8.ofNat 49), (UInt8.ofNat 32), (UInt8.ofNat 48), (UInt8.ofNat 10)])), I 0]), (.string (ByteArray.mk #[(UInt8.ofNat 115), (UInt8.ofNat 111), (UInt8.ofNat 117), (UInt8.ofNat 114), (UInt8.ofNat 99), (UInt8.ofNat 101), (UInt8.ofNat 32), (UInt8.ofNat 48), (UInt8.ofNat 32), (UInt8.ofNat 48), (UInt8.ofNat 32), (UInt8.ofNat 49), (UInt8.ofNat 32), (UInt8.ofNat 48), (UInt8.ofNat 10), (UInt8.ofNat 115), (UInt8.ofNat 111), (UInt8.ofNat 117), (UInt8.ofNat 114), (UInt8.ofNat 99), (UInt8.ofNat 101), (UInt8.ofNat 32), (UInt8.ofNat 49), (UInt8.ofNat 32), (UInt8.ofNat 48), (UInt8.ofNat 32), (UInt8.ofNat 49), (UInt8.ofNat 32), (UInt8.ofNat 48), (UInt8.ofNat 10)])), I 0, I 0, I 0, I 0, I 0, I 0, I 0, I 0, I 0, I 0, I 0, I 0, I 0, I 0, I 0, I 0, I 0, I 0, I 0, I 0, I 0, I 0, I 0, I 0, (.bool true), (.bool true), (sl 28 0 4 4), (sl 54 0 4 4), (.agg #[I 0, I 0, I 1, I 0]), (.agg #[I 1, I 0, I 1, I 0]), (.agg #[I 1, I 0, I 1, I 0]), (.agg #[I 2, I 0, I 1, I 0]), (sl 55 0 4 4), (.bool true), (.bool true), (.bool true), (sl 29 0 3 3), (sl 56 0 3 3), (.agg #[I 0, I 0, I 1, I 0]), (.agg #[I 1, I 0, I 2, I 0]), (.agg #[I 2, I 0, I 1, I 0]), (sl 57 0 3 3), (.bool true), (.bool true), (.bool true), (sl 32 0 3 3), (sl 58 0 3 3), (sl 35 0 3 3), (sl 59 0 3 3), (.bool true), (.bool true), (.bool true), (g2 0 2), (g2 0 2), (.bool true), (.bool true), (.bool true), (sl 40 0 4 4), I 4, (.bool true), (.bool true), (.bool true), (sl 40 0 4 4), (pt 40 8), (.agg #[I 4, I 0, I 1, I 0]), (.agg #[I 4, I 0, I 1, I 0]), (.bool true), (.bool true), (.bool true), (g2 4 0), (g2 4 0), (.bool true), (.bool true), (.bool true), (g2 0 0), (g2 0 0), (.bool true), (.bool true), (.bool true), (sl 50 0 1 1), (sl 60 0 1 1), (.bool true), (.bool true), (.bool true), (sl 52 0 2 2), (sl 61 0 2 2), (.bool true), (.bool true), (.bool true), (.string (ByteArray.mk #[(UInt8.ofNat 115), (UInt8.ofNat 111), (UInt8.ofNat 117), (UInt8.ofNat 114), (UInt8.ofNat 99), (UInt8.ofNat 101), (UInt8.ofNat 32), (UInt8.ofNat 48), (UInt8.ofNat 32), (UInt8.ofNat 48), (UInt8.ofNat 32), (UInt8.ofNat 49), (UInt8.ofNat 32), (UInt8.ofNat 48), (UInt8.ofNat 10), (UInt8.ofNat 115), (UInt8.ofNat 111), (UInt8.ofNat 117), (UInt8.ofNat 114), (UInt8.ofNat 99), (UInt8.ofNat 101), (UInt8.ofNat 32), (UInt8.ofNat 49), (UInt8.ofNat 32), (UInt8.ofNat 48), (UInt8.ofNat 32), (UInt8.ofNat 49), (UInt8.ofNat 32), (UInt8.ofNat 48), (UInt8.ofNat 10)])), (.bool true), (.bool true)]
noncomputable def X22 : Heap := (H [rowAwS_11, rowAwS_0, rowAwS_11, rowAwS_11, (rvar [I 8, I 5] 63), rowAwS_11, rowAwS_12, .none, rowAwS_12, rowAwS_14, rowAwS_11, rowAwS_12, rowAwS_9, rowAwS_13, rowAwS_13, rowAwS_14, rowAwS_13, rowAwS_13, rowAwS_11, rowAwS_11, rowAwS_2, rowAwS_7, .none, rowAwS_2, rowAwS_5, .none, rowAwS_7, rowAwS_5, .none, rowAwS_7, (rvar [I 0, I 2] 34), rowAwS_11, rowAwS_3, rowAwS_11, rowAwS_1, .none, rowAwS_3, (rvar [I 4, I 0] 34), .none, rowAwS_1, (rvar [I 0, I 0] 34), rowAwS_11, (rrow [I 0] 3), rowAwS_10, (rrow [I 0, I 2] 3), rowAwS_11, rowAwS_4, rowAwS_4, rowAwS_8, rowAwS_8, rowAwS_6, rowAwS_6, (rrow [I 0] 3), (rrow [I 0, I 2] 3)])
noncomputable def L23 : List Value := [(.bool true), (pt 9 0), I 0, I 4, I 0, (pt 12 0), I 0, (sl 14 0 2 2), I 0, (sl 17 0 3 3), I 0, (sl 19 0 2 2), I 4, I 0, (pt 20 0), I 0, (sl 28 0 4 4), I 0, (sl 29 0 3 3), I 0, (sl 32 0 3 3), I 0, (sl 35 0 3 3), I 0, (pt 38 0), I 0, (sl 40 0 4 4), I 0, (sl 42 0 4 4), I 0, (pt 45 0), I 0, (pt 48 0), I 0, (sl 50 0 1 1), I 0, (sl 52 0 2 2), I 0, (.string (ByteArray.mk #[(UInt8.ofNat 115), (UInt8.ofNat 111), (UInt8.ofNat 117), (UInt8.ofNat 114), (UInt8.ofNat 99), (UInt8.ofNat 101), (UInt8.ofNat 32), (UInt8.ofNat 48), (UInt8.ofNat 32), (UInt8.ofNat 48), (UInt8.ofNat 32), (UInt8.ofNat 49), (UInt8.ofNat 32), (UInt8.ofNat 48), (UInt8.ofNat 10), (UInt8.ofNat 115), (UInt8.ofNat 111), (UInt8.ofNat 117), (UInt8.ofNat 114), (UInt8.ofNat 99), (UInt8.ofNat 101), (UInt8.ofNat 32), (UInt8.ofNat 49), (UInt8.ofNat 32), (UInt8.ofNat 48), (UInt8.ofNat 32), (UInt8.ofNat 49), (UInt8.ofNat 32), (UInt8.ofNat 48), (UInt8.ofNat 10)])), I 0, (.tuple #[(.agg #[I 1, I 1, I 1, I 1, I 2, I 0, I 1, (I (-1)), I 1, (I (-1)), I 1, (I (-1)), I 2, I 0, I 1, I 1]), I 0]), (sl 8 0 2 2), (.tuple #[(.agg #[I 1, I 1, I 1, I 1, I 2, I 0, I 1, (I (-1)), I 1, (I (-1)), I 1, (I (-1)), I 2, I 0, I 1, I 1]), I 0]), (.agg #[I 1, I 1, I 1, I 1, I 2, I 0, I 1, (I (-1)), I 1, (I (-1)), I 1, (I (-1)), I 2, I 0, I 1, I 1]), I 0, (.tuple #[I 4, I 0]), (sl 10 0 2 2), (.tuple #[I 4, I 0]), I 4, I 0, (.tuple #[(g2 8 5), I 0]), (sl 11 0 2 2), (.tuple #[(g2 8 5), I 0]), (g2 8 5), I 0, (.tuple #[(sl 14 0 2 2), I 0]), (sl 13 0 2 2), (.tuple #[(sl 14 0 2 2), I 0]), (sl 14 0 2 2), I 0, (.tuple #[(sl 17 0 3 3), I 0]), (sl 15 0 0 0), (sl 14 0 2 2), (sl 16 0 2 2), (.tuple #[(sl 17 0 3 3), I 0]), (sl 17 0 3 3), I 0, (.tuple #[(sl 19 0 2 2), I 4, I 0]), (sl 18 0 2 2), (.agg #[I 1, I 0, I 0, I 0, (I (-1)), I 0, I 0, I 0]), (.tuple #[(sl 19 0 2 2), I 4, I 0]), (sl 19 0 2 2), I 4, I 0, (.tuple #[(.agg #[I 6, I 0, I 0, I 2, (I (-2)), I 0, I 0, I 2]), I 0]), (pt 9 0), (g2 1 1), (pt 9 4), (g2 2 0), (pt 9 8), (g2 1 (-1)), (pt 9 12), (g2 2 0), (.agg #[I 1, I 1, I 2, I 0, I 1, (I (-1)), I 2, I 0]), (.tuple #[(.agg #[I 6, I 0, I 0, I 2, (I (-2)), I 0, I 0, I 2]), I 0]), (.agg #[I 6, I 0, I 0, I 2, (I (-2)), I 0, I 0, I 2]), I 0, I 0, I 0, I 0, I 0, I 0, I 0, I 0, I 0, I 0, I 0, I 0, I 0, I 0, (.bool false), (.bool false), (.agg #[I 1, I 1, I 1, I 1, I 2, I 0, I 1, (I (-1)), I 1, (I (-1)), I 1, (I (-1)), I 2, I 0, I 1, I 1]), (g2 1 1), (g2 1 1), (g2 2 0), (g2 1 (-1)), (g2 1 (-1)), (g2 1 (-1)), (g2 2 0), (g2 1 1), (.agg #[I 1, I 1, I 1, I 1, I 2, I 0, I 1, (I (-1)), I 1, (I (-1)), I 1, (I (-1)), I 2, I 0, I 1, I 1]), (.bool false), (.bool false), (.bool false), I 4, (.bool false), (.bool false), (.bool false), (g2 8 5), (g2 8 5), (.bool false), (.bool false), (.bool false), (sl 14 0 2 2), (sl 21 0 2 2), (.agg #[I 0, I 0, I 1, I 0]), (.agg #[I 1, I 0, I 1, I 3]), (sl 22 0 2 2), (.bool true), (.bool false), (.bool false), (.bool false), (sl 17 0 3 3), (sl 23 0 3 3), (.bool true), (.bool false), (.bool false), (.bool false), (sl 19 0 2 2), (sl 24 0 2 2), (sl 14 0 2 2), (sl 25 0 2 2), (.bool true), (.bool false), (.bool false), (.bool false), I 4, (.bool false), (.bool false), (.bool false), (.agg #[I 6, I 0, I 0, I 2, (I (-2)), I 0, I 0, I 2]), (g2 6 0), (g2 0 2), (g2 (-2) 0), (g2 0 2), (.agg #[I 6, I 0, I 0, I 2, (I (-2)), I 0, I 0, I 2]), (.bool false), (.bool false), (.tuple #[(sl 28 0 4 4), I 0]), (sl 26 0 2 2), (sl 27 0 2 2), (.tuple #[(sl 28 0 4 4), I 0]), (sl 28 0 4 4), I 0, (.tuple #[(sl 29 0 3 3), I 0]), (.tuple #[(sl 29 0 3 3), I 0]), (sl 29 0 3 3), I 0, (.tuple #[(sl 32 0 3 3), I 0]), (sl 30 0 0 0), (sl 28 0 4 4), (sl 31 0 4 4), (.tuple #[(sl 32 0 3 3), I 0]), (sl 32 0 3 3), I 0, (.tuple #[(sl 35 0 3 3), I 0]), (sl 33 0 0 0), (sl 29 0 3 3), (sl 34 0 3 3), (.tuple #[(sl 35 0 3 3), I 0]), (sl 35 0 3 3), I 0, (.tuple #[(g2 0 2), I 0]), (sl 36 0 0 0), (sl 29 0 3 3), (sl 37 0 3 3), (.tuple #[(g2 0 2), I 0]), (g2 0 2), I 0, (.tuple #[(sl 40 0 4 4), I 0]), (sl 39 0 2 2), (.tuple #[(sl 40 0 4 4), I 0]), (sl 40 0 4 4), I 0, (.tuple #[(sl 42 0 4 4), I 0]), (sl 41 0 2 2), (.tuple #[(sl 42 0 4 4), I 0]), (sl 42 0 4 4), I 0, (.tuple #[(g2 4 0), I 0]), (sl 43 0 0 0), (sl 40 0 4 4), (sl 44 0 4 4), (.tuple #[(g2 4 0), I 0]), (g2 4 0), I 0, (.tuple #[(g2 0 0), I 0]), (sl 46 0 0 0), (sl 42 0 4 4), (sl 47 0 4 4), (.tuple #[(g2 0 0), I 0]), (g2 0 0), I 0, (.tuple #[(sl 50 0 1 1), I 0]), (sl 49 0 2 2), (.tuple #[(sl 50 0 1 1), I 0]), (sl 50 0 1 1), I 0, (.tuple #[(sl 52 0 2 2), I 0]), (.agg #[I 1, I 0, I 1, I 0]), (.agg #[(I (-1)), I 0, I 1, I 0]), (sl 51 0 2 2), (.tuple #[(sl 52 0 2 2), I 0]), (sl 52 0 2 2), I 0, (.tuple #[(.string (ByteArray.mk #[(UInt8.ofNat 115), (UInt8.ofNat 111), (UInt8.ofNat 117), (UInt8.ofNat 114), (UInt8.ofNat 99), (UInt8.ofNat 101), (UInt8.ofNat 32), (UInt8.ofNat 48), (UInt8.ofNat 32), (UInt8.ofNat 48), (UInt8.ofNat 32), (UInt8.ofNat 49), (UInt8.ofNat 32), (UInt8.ofNat 48), (UInt8.ofNat 10), (UInt8.ofNat 115), (UInt8.ofNat 111), (UInt8.ofNat 117), (UInt8.ofNat 114), (UInt8.ofNat 99), (UInt8.ofNat 101), (UInt8.ofNat 32), (UInt8.ofNat 49), (UInt8.ofNat 32), (UInt8.ofNat 48), (UInt8.ofNat 32), (UInt8.ofNat 49), (UInt8.ofNat 32), (UInt8.ofNat 48), (UInt8.ofNat 10)])), I 0]), (sl 53 0 2 2), (.tuple #[(.string (ByteArray.mk #[(UInt8.ofNat 115), (UInt8.ofNat 111), (UInt8.ofNat 117), (UInt8.ofNat 114), (UInt8.ofNat 99), (UInt8.ofNat 101), (UInt8.ofNat 32), (UInt8.ofNat 48), (UInt8.ofNat 32), (UInt8.ofNat 48), (UInt8.ofNat 32), (UInt8.ofNat 49), (UInt8.ofNat 32), (UInt8.ofNat 48), (UInt8.ofNat 10), (UInt8.ofNat 115), (UInt8.ofNat 111), (UInt8.ofNat 117), (UInt8.ofNat 114), (UInt8.ofNat 99), (UInt8.ofNat 101), (UInt8.ofNat 32), (UInt8.ofNat 49), (UInt8.ofNat 32), (UInt8.ofNat 48), (UInt8.ofNat 32), (UInt8.ofNat 49), (UInt8.ofNat 32), (UInt8.ofNat 48), (UInt8.ofNat 10)])), I 0]), (.string (ByteArray.mk #[(UInt8.ofNat 115), (UInt8.ofNat 111), (UInt8.ofNat 117), (UInt8.ofNat 114), (UInt8.ofNat 99), (UInt8.ofNat 101), (UInt8.ofNat 32), (UInt8.ofNat 48), (UInt8.ofNat 32), (UInt8.ofNat 48), (UInt8.ofNat 32), (UInt8.ofNat 49), (UInt8.ofNat 32), (UInt8.ofNat 48), (UInt8.ofNat 10), (UInt8.ofNat 115), (UInt8.ofNat 111), (UInt8.ofNat 117), (UInt8.ofNat 114), (UInt8.ofNat 99), (UInt8.ofNat 101), (UInt8.ofNat 32), (UInt8.ofNat 49), (UInt8.ofNat 32), (UInt8.ofNat 48), (UInt8.ofNat 32), (UInt8.ofNat 49), (UInt8.ofNat 32), (UInt8.ofNat 48), (UInt8.ofNat 10)])), I 0, I 0, I 0, I 0, I 0, I 0, I 0, I 0, I 0, I 0, I 0, I 0, I 0, I 0, I 0, I 0, I 0, I 0, I 0, I 0, I 0, I 0, I 0, I 0, (.bool true), (.bool true), (sl 28 0 4 4), (sl 54 0 4 4), (.agg #[I 0, I 0, I 1, I 0]), (.agg #[I 1, I 0, I 1, I 0]), (.agg #[I 1, I 0, I 1, I 0]), (.agg #[I 2, I 0, I 1, I 0]), (sl 55 0 4 4), (.bool true), (.bool true), (.bool true), (sl 29 0 3 3), (sl 56 0 3 3), (.agg #[I 0, I 0, I 1, I 0]), (.agg #[I 1, I 0, I 2, I 0]), (.agg #[I 2, I 0, I 1, I 0]), (sl 57 0 3 3), (.bool true), (.bool true), (.bool true), (sl 32 0 3 3), (sl 58 0 3 3), (sl 35 0 3 3), (sl 59 0 3 3), (.bool true), (.bool true), (.bool true), (g2 0 2), (g2 0 2), (.bool true), (.bool true), (.bool true), (sl 40 0 4 4), I 4, (.bool true), (.bool true), (.bool true), (sl 40 0 4 4), (pt 40 8), (.agg #[I 4, I 0, I 1, I 0]), (.agg #[I 4, I 0, I 1, I 0]), (.bool true), (.bool true), (.bool true), (g2 4 0), (g2 4 0), (.bool true), (.bool true), (.bool true), (g2 0 0), (g2 0 0), (.bool true), (.bool true), (.bool true), (sl 50 0 1 1), (sl 60 0 1 1), (.bool true), (.bool true), (.bool true), (sl 52 0 2 2), (sl 61 0 2 2), (.bool true), (.bool true), (.bool true), (.string (ByteArray.mk #[(UInt8.ofNat 115), (UInt8.ofNat 111), (UInt8.ofNat 117), (UInt8.ofNat 114), (UInt8.ofNat 99), (UInt8.ofNat 101), (UInt8.ofNat 32), (UInt8.ofNat 48), (UInt8.ofNat 32), (UInt8.ofNat 48), (UInt8.ofNat 32), (UInt8.ofNat 49), (UInt8.ofNat 32), (UInt8.ofNat 48), (UInt8.ofNat 10), (UInt8.ofNat 115), (UInt8.ofNat 111), (UInt8.ofNat 117), (UInt8.ofNat 114), (UInt8.ofNat 99), (UInt8.ofNat 101), (UInt8.ofNat 32), (UInt8.ofNat 49), (UInt8.ofNat 32), (UInt8.ofNat 48), (UInt8.ofNat 32), (UInt8.ofNat 49), (UInt8.ofNat 32), (UInt8.ofNat 48), (UInt8.ofNat 10)])), (.bool true), (.bool true)]
noncomputable def X23 : Heap := (H [rowAwS_11, rowAwS_0, rowAwS_11, rowAwS_11, (rvar [I 8, I 5] 63), rowAwS_11, rowAwS_12, .none, rowAwS_12, rowAwS_14, rowAwS_11, rowAwS_12, rowAwS_9, rowAwS_13, rowAwS_13, rowAwS_14, rowAwS_13, rowAwS_13, rowAwS_11, rowAwS_11, rowAwS_2, rowAwS_7, .none, rowAwS_2, rowAwS_5, .none, rowAwS_7, rowAwS_5, .none, rowAwS_7, (rvar [I 0, I 2] 34), rowAwS_11, rowAwS_3, rowAwS_11, rowAwS_1, .none, rowAwS_3, (rvar [I 4, I 0] 34), .none, rowAwS_1, (rvar [I 0, I 0] 34), rowAwS_11, (rrow [I 0] 3), rowAwS_10, (rrow [I 0, I 2] 3), rowAwS_11, rowAwS_4, rowAwS_4, rowAwS_8, rowAwS_8, rowAwS_6, rowAwS_6, (rrow [I 0] 3), (rrow [I 0, I 2] 3)])
end Go.Proofs.YtpdiaiccnaoaiaaGreatDoor
/-
The document's examples, run: statements 0 to 5 of awake.
-/
namespace Go.Proofs.YtpdiaiccnaoaiaaGreatDoor
open Go Go.Abs
theorem c0 : aRun Tryz.prog envGa 100000 8 [.code (seqAt 0 (bodyOf 15))] L0 X0 = some (L1, X1, none) := by kernel_rfl
theorem c1 : aRun Tryz.prog envGa 100000 8 [.code (seqAt 1 (bodyOf 15))] L1 X1 = some (L2, X2, none) := by kernel_rfl
theorem c2 : aRun Tryz.prog envGa 100000 8 [.code (seqAt 2 (bodyOf 15))] L2 X2 = some (L3, X3, none) := by kernel_rfl
theorem c3 : aRun Tryz.prog envGa 100000 8 [.code (seqAt 3 (bodyOf 15))] L3 X3 = some (L4, X4, none) := by kernel_rfl
theorem c4 : aRun Tryz.prog envGa 100000 8 [.code (seqAt 4 (bodyOf 15))] L4 X4 = some (L5, X5, none) := by kernel_rfl
theorem c5 : aRun Tryz.prog envGa 100000 8 [.code (seqAt 5 (bodyOf 15))] L5 X5 = some (L6, X6, none) := by kernel_rfl
end Go.Proofs.YtpdiaiccnaoaiaaGreatDoor
/-
The document's examples, run: statements 6 to 6 of awake.
-/
namespace Go.Proofs.YtpdiaiccnaoaiaaGreatDoor
open Go Go.Abs
theorem c6 : aRun Tryz.prog envGa 100000 8 [.code (seqAt 6 (bodyOf 15))] L6 X6 = some (L7, X7, none) := by kernel_rfl
end Go.Proofs.YtpdiaiccnaoaiaaGreatDoor
/-
The document's examples, run: statements 7 to 13 of awake.
-/
namespace Go.Proofs.YtpdiaiccnaoaiaaGreatDoor
open Go Go.Abs
theorem c7 : aRun Tryz.prog envGa 100000 8 [.code (seqAt 7 (bodyOf 15))] L7 X7 = some (L8, X8, none) := by kernel_rfl
theorem c8 : aRun Tryz.prog envGa 100000 8 [.code (seqAt 8 (bodyOf 15))] L8 X8 = some (L9, X9, none) := by kernel_rfl
theorem c9 : aRun Tryz.prog envGa 100000 8 [.code (seqAt 9 (bodyOf 15))] L9 X9 = some (L10, X10, none) := by kernel_rfl
theorem c10 : aRun Tryz.prog envGa 100000 8 [.code (seqAt 10 (bodyOf 15))] L10 X10 = some (L11, X11, none) := by kernel_rfl
theorem c11 : aRun Tryz.prog envGa 100000 8 [.code (seqAt 11 (bodyOf 15))] L11 X11 = some (L12, X12, none) := by kernel_rfl
theorem c12 : aRun Tryz.prog envGa 100000 8 [.code (seqAt 12 (bodyOf 15))] L12 X12 = some (L13, X13, none) := by kernel_rfl
theorem c13 : aRun Tryz.prog envGa 100000 8 [.code (seqAt 13 (bodyOf 15))] L13 X13 = some (L14, X14, none) := by kernel_rfl
end Go.Proofs.YtpdiaiccnaoaiaaGreatDoor
/-
The document's examples, run: statements 14 to 22 of awake.
-/
namespace Go.Proofs.YtpdiaiccnaoaiaaGreatDoor
open Go Go.Abs
theorem c14 : aRun Tryz.prog envGa 100000 8 [.code (seqAt 14 (bodyOf 15))] L14 X14 = some (L15, X15, none) := by kernel_rfl
theorem c15 : aRun Tryz.prog envGa 100000 8 [.code (seqAt 15 (bodyOf 15))] L15 X15 = some (L16, X16, none) := by kernel_rfl
theorem c16 : aRun Tryz.prog envGa 100000 8 [.code (seqAt 16 (bodyOf 15))] L16 X16 = some (L17, X17, none) := by kernel_rfl
theorem c17 : aRun Tryz.prog envGa 100000 8 [.code (seqAt 17 (bodyOf 15))] L17 X17 = some (L18, X18, none) := by kernel_rfl
theorem c18 : aRun Tryz.prog envGa 100000 8 [.code (seqAt 18 (bodyOf 15))] L18 X18 = some (L19, X19, none) := by kernel_rfl
theorem c19 : aRun Tryz.prog envGa 100000 8 [.code (seqAt 19 (bodyOf 15))] L19 X19 = some (L20, X20, none) := by kernel_rfl
theorem c20 : aRun Tryz.prog envGa 100000 8 [.code (seqAt 20 (bodyOf 15))] L20 X20 = some (L21, X21, none) := by kernel_rfl
theorem c21 : aRun Tryz.prog envGa 100000 8 [.code (seqAt 21 (bodyOf 15))] L21 X21 = some (L22, X22, none) := by kernel_rfl
theorem c22 : aRun Tryz.prog envGa 100000 8 [.code (seqAt 22 (bodyOf 15))] L22 X22 = some (L23, X23, some .ret) := by kernel_rfl
end Go.Proofs.YtpdiaiccnaoaiaaGreatDoor
/-
The document's examples, run: awake gives true, and is known from here on.
-/
namespace Go.Proofs.YtpdiaiccnaoaiaaGreatDoor
open Go Go.Abs
theorem awake_runs : Runs Tryz.prog envGa 8 [.code (dropS 0 (bodyOf 15))] L0 X0 (L23, X23, some .ret) := by
  refine runs_drop (by kernel_rfl) ⟨_, c0⟩ ?_
  refine runs_drop (by kernel_rfl) ⟨_, c1⟩ ?_
  refine runs_drop (by kernel_rfl) ⟨_, c2⟩ ?_
  refine runs_drop (by kernel_rfl) ⟨_, c3⟩ ?_
  refine runs_drop (by kernel_rfl) ⟨_, c4⟩ ?_
  refine runs_drop (by kernel_rfl) ⟨_, c5⟩ ?_
  refine runs_drop (by kernel_rfl) ⟨_, c6⟩ ?_
  refine runs_drop (by kernel_rfl) ⟨_, c7⟩ ?_
  refine runs_drop (by kernel_rfl) ⟨_, c8⟩ ?_
  refine runs_drop (by kernel_rfl) ⟨_, c9⟩ ?_
  refine runs_drop (by kernel_rfl) ⟨_, c10⟩ ?_
  refine runs_drop (by kernel_rfl) ⟨_, c11⟩ ?_
  refine runs_drop (by kernel_rfl) ⟨_, c12⟩ ?_
  refine runs_drop (by kernel_rfl) ⟨_, c13⟩ ?_
  refine runs_drop (by kernel_rfl) ⟨_, c14⟩ ?_
  refine runs_drop (by kernel_rfl) ⟨_, c15⟩ ?_
  refine runs_drop (by kernel_rfl) ⟨_, c16⟩ ?_
  refine runs_drop (by kernel_rfl) ⟨_, c17⟩ ?_
  refine runs_drop (by kernel_rfl) ⟨_, c18⟩ ?_
  refine runs_drop (by kernel_rfl) ⟨_, c19⟩ ?_
  refine runs_drop (by kernel_rfl) ⟨_, c20⟩ ?_
  refine runs_drop (by kernel_rfl) ⟨_, c21⟩ ?_
  exact runs_last (by kernel_rfl) ⟨_, c22⟩
/-- The examples are as the document says. -/
theorem awake_gives : Gives Tryz.prog envGa 0 15 [] heap0 (.bool true, heap0) :=
  Gives.of_body (c := bodyOf 15) (j := some .ret) (v := .bool true) (l1 := L23) (A1 := X23) (fun _ _ => by kernel_rfl) Tryz.func15 (by kernel_rfl) (by kernel_rfl) (by kernel_rfl) (runs_eq awake_runs (by kernel_rfl) (by kernel_rfl) (by kernel_rfl) (by kernel_rfl)) rfl (by kernel_rfl)
theorem awake_says : SaysAt Tryz.prog 8 15 [] heap0 (.bool true) heap0 := SaysAt.of_gives prog_ok envGa_ok awake_gives
end Go.Proofs.YtpdiaiccnaoaiaaGreatDoor
/-
Awake is known.
-/
namespace Go.Proofs.YtpdiaiccnaoaiaaGreatDoor
open Go Go.Abs
def BA (f : FuncId) (args : List Value) : Option (Heap × Value) :=
  if f == 15 then
    match args with
    | [] => some (heap0, .bool true)
    | _ => none
  else none
noncomputable def envL : Env := envGe.with (baseKnown BA)
theorem envL_ok : EnvOK Tryz.prog 8 envL := env_base' envGe_ok fun f args H v h => by
  unfold BA at h
  split at h
  · rename_i hf
    have hf : f = 15 := by simpa using hf
    subst hf
    split at h
    · cases h; exact ⟨by decide, by decide, awake_says⟩
    · cases h
  · cases h
end Go.Proofs.YtpdiaiccnaoaiaaGreatDoor
/-
Arguments of whole numbers alone: structs and arrays of them, cell by cell.
-/
namespace Go.Abs
open Go

/-- Cells that are whole numbers of these kinds. -/
inductive IntsAs : List IntKind → List Value → Prop
  | nil : IntsAs [] []
  | cons {k : IntKind} {a : Int} {ks : List IntKind} {cs : List Value} (h : (Lit.int k a).wf = true) (t : IntsAs ks cs) : IntsAs (k :: ks) (.int k a :: cs)
theorem IntsAs.append {ks ls : List IntKind} {cs ds : List Value} (h : IntsAs ks cs) (h' : IntsAs ls ds) : IntsAs (ks ++ ls) (cs ++ ds) := by
  induction h with
  | nil => exact h'
  | cons h _ ih => exact .cons h ih
theorem IntsAs.inv {k : IntKind} {ks : List IntKind} {cs : List Value} (h : IntsAs (k :: ks) cs) : ∃ a cs', cs = .int k a :: cs' ∧ (Lit.int k a).wf = true ∧ IntsAs ks cs' := by
  cases h with
  | cons h t => exact ⟨_, _, rfl, h, t⟩
theorem IntsAs.end {cs : List Value} (h : IntsAs [] cs) : cs = [] := by cases h; rfl

def flatKinds (F : TypeId → Option (List IntKind)) (P : Program) : List Field → Nat → Option (List IntKind)
  | [], _ => some []
  | f :: fs, off => match F f.type with
    | some l => if f.offset == off && P.cellsOf f.type == l.length then (flatKinds F P fs (off + l.length)).map (l ++ ·) else none
    | none => none
/-- The kinds of the cells of a type that has whole numbers alone. -/
def flatInts (P : Program) : Nat → TypeId → Option (List IntKind)
  | 0, _ => none
  | n + 1, t => match P.underlying t with
    | some (.int k) => some [k]
    | some (.struct fs) => match flatKinds (flatInts P n) P fs.toList 0 with
      | some l => if P.cellsOf t == l.length then some l else none
      | none => none
    | some (.array m e) => match flatInts P n e with
      | some l => if P.cellsOf e == l.length && P.cellsOf t == m * l.length then some (List.replicate m l).flatten else none
      | none => none
    | _ => none

section
variable {H : Type} {enc : TypeId × Value → H} {P : Program} {w : World} {base : Nat} {spare : Nat → Bool} {held : Bool}
theorem flat_row {F : TypeId → Option (List IntKind)} {T : TypeId → List Value → Option (DataW H × List MemPlace)} (hT : ∀ t l c x, F t = some l → T t c = some x → IntsAs l c ∧ x.2 = []) :
    ∀ (fs : List Field) (off : Nat) (ks : List IntKind) (cs : List Value) (xs : List (DataW H × List MemPlace)), flatKinds F P fs off = some ks → fs.mapM (fun f => T f.type ((cs.drop f.offset).take (P.cellsOf f.type))) = some xs → off + ks.length = cs.length →
      IntsAs ks (cs.drop off) ∧ xs.flatMap (·.2) = []
  | [], off, ks, cs, xs, h, hm, hl => by
    cases h
    simp at hm hl
    subst hm
    rw [List.drop_eq_nil_of_le (by omega)]
    exact ⟨.nil, rfl⟩
  | f :: fs, off, ks, cs, xs, h, hm, hl => by
    unfold flatKinds at h
    split at h
    · rename_i l hF
      split at h
      · rename_i hc
        simp only [Bool.and_eq_true, beq_iff_eq] at hc
        cases hr : flatKinds F P fs (off + l.length) with
        | none => rw [hr] at h; cases h
        | some r =>
          rw [hr] at h
          simp only [Option.map_some, Option.some.injEq] at h
          subst h
          rw [List.mapM_cons] at hm
          cases h1 : T f.type ((cs.drop f.offset).take (P.cellsOf f.type)) with
          | none => rw [h1] at hm; simp at hm
          | some x =>
            cases h2 : fs.mapM (fun f => T f.type ((cs.drop f.offset).take (P.cellsOf f.type))) with
            | none => rw [h1, h2] at hm; simp at hm
            | some ys =>
              rw [h1, h2] at hm
              simp at hm
              subst hm
              simp only [List.length_append] at hl
              obtain ⟨g1, g2⟩ := flat_row hT fs (off + l.length) r cs ys hr h2 (by omega)
              obtain ⟨g3, g4⟩ := hT _ _ _ _ hF h1
              rw [hc.1, hc.2] at g3
              refine ⟨?_, by simp [g4, g2]⟩
              have := g3.append g1
              rwa [← List.drop_drop, List.take_append_drop] at this
      · cases h
    · cases h
theorem flat_arr {l : List IntKind} {n : Nat} {cs : List Value} {xs : List (DataW H × List MemPlace)} (hlen : cs.length = n * l.length) (hx : xs.length = n)
    (hT : ∀ i, i < n → ∃ x, xs[i]? = some x ∧ IntsAs l ((cs.drop (i * l.length)).take l.length) ∧ x.2 = []) : ∀ (m k : Nat), k + m = n → IntsAs (List.replicate m l).flatten (cs.drop (k * l.length)) ∧ (xs.drop k).flatMap (·.2) = []
  | 0, k, h => by
    have : k = n := by omega
    subst this
    rw [List.drop_eq_nil_of_le (by omega), List.drop_eq_nil_of_le (by omega)]
    exact ⟨.nil, rfl⟩
  | m + 1, k, h => by
    obtain ⟨x, h1, h2, h3⟩ := hT k (by omega)
    obtain ⟨g1, g2⟩ := flat_arr hlen hx hT m (k + 1) (by omega)
    constructor
    · rw [List.replicate_succ, List.flatten_cons]
      have := h2.append g1
      rwa [Nat.succ_mul, ← List.drop_drop, List.take_append_drop] at this
    · have hk : k < xs.length := by omega
      rw [List.getElem?_eq_getElem hk] at h1
      cases h1
      rw [List.drop_eq_getElem_cons hk, List.flatMap_cons, h3]
      exact g2
/-- WHAT IS READ AS SUCH A TYPE: whole numbers, and no place in memory. -/
theorem flat_of : ∀ (n : Nat) (t : TypeId) (ks : List IntKind) (fuel : Nat) (cs : List Value) (x : DataW H × List MemPlace), flatInts P n t = some ks → DataW.trod enc P w base spare held fuel t cs = some x → IntsAs ks cs ∧ x.2 = []
  | 0, t, ks, fuel, cs, x, h, _ => by cases h
  | n + 1, t, ks, 0, cs, x, h, hx => by simp [DataW.trod] at hx
  | n + 1, t, ks, fuel + 1, cs, x, h, hx => by
    have ih := fun t ks cs x => flat_of n t ks fuel cs x
    unfold flatInts at h
    split at h
    · rename_i k ht
      cases h
      obtain ⟨a, rfl, rfl, hw⟩ := DataW.trod_int ht hx
      exact ⟨.cons hw .nil, rfl⟩
    · rename_i fs ht
      split at h
      · rename_i l hl
        split at h
        · rename_i hc
          cases h
          have hc : P.cellsOf t = ks.length := by simpa using hc
          unfold DataW.trod at hx
          rw [ht] at hx
          have hx' : (if cs.length = P.cellsOf t then (fs.toList.mapM fun f => DataW.trod enc P w base spare held fuel f.type ((cs.drop f.offset).take (P.cellsOf f.type))).map fun xs => ((.agg (xs.map (·.1)), xs.flatMap (·.2)) : DataW H × List MemPlace) else none) = some x := by
            split at hx <;> simp_all
          split at hx'
          · rename_i hcs
            cases hm : fs.toList.mapM fun f => DataW.trod enc P w base spare held fuel f.type ((cs.drop f.offset).take (P.cellsOf f.type)) with
            | none => rw [hm] at hx'; cases hx'
            | some xs =>
              rw [hm] at hx'
              cases hx'
              have := flat_row (T := DataW.trod enc P w base spare held fuel) ih fs.toList 0 ks cs xs hl hm (by omega)
              simpa using this
          · cases hx'
        · cases h
      · cases h
    · rename_i m e ht
      split at h
      · rename_i l hl
        split at h
        · rename_i hc
          cases h
          simp only [Bool.and_eq_true, beq_iff_eq] at hc
          obtain ⟨xs, f', hf, rfl, h1, h2, h3⟩ := DataW.trod_array ht hx
          cases hf
          have := flat_arr (l := l) (n := m) (cs := cs) (xs := xs) (by rw [h1, hc.2]) h2 (fun i hi => by
            have h4 := h3 i hi
            have hi' : i < xs.length := by omega
            rw [List.getElem?_eq_getElem hi'] at h4
            obtain ⟨g1, g2⟩ := ih _ _ _ _ hl h4
            rw [hc.1] at g1
            exact ⟨_, List.getElem?_eq_getElem hi', g1, g2⟩) m 0 (by omega)
          simpa using this
        · cases h
      · cases h
    · cases h
end
end Go.Abs
/-
The abstract machine: the tables that a row lists, as rows of the first heap; and behind a call that leaves all old blocks, what a row asks.
-/
namespace Go.Abs
open Go

/-- Where the parts begin. -/
def offs (ls : List (List Value)) : List Nat := (List.range ls.length).map fun i => (ls.take i).flatten.length
/-- The cells of a datum of plain parts, in their order. -/
def flatRow {H : Type} (P : Program) : Nat → TypeId → DataW H → Option (List Value)
  | 0, _, _ => none
  | fuel + 1, t, d =>
    match P.underlying t, d with
    | some .bool, .lit (.bool b) => some [.bool b]
    | some (.int k), .lit (.int k' n) => if k' = k then some [.int k n] else none
    | some (.array n e), .agg ds => (ds.mapM fun d => flatRow P fuel e d).bind fun ls => if ds.length = n ∧ offs ls = (List.range n).map (· * P.cellsOf e) then some ls.flatten else none
    | some (.struct fs), .agg ds => ((fs.toList.zip ds).mapM fun x => flatRow P fuel x.1.type x.2).bind fun ls => if ds.length = fs.size ∧ offs ls = fs.toList.map (·.offset) then some ls.flatten else none
    | _, _ => none

theorem flat_get : ∀ {ls : List (List Value)} {o : Nat} {v : Value}, ls.flatten[o]? = some v → ∃ (i : Nat) (a : List Value) (j : Nat), ls[i]? = some a ∧ a[j]? = some v ∧ o = (ls.take i).flatten.length + j
  | [], o, v, h => by simp at h
  | a :: ls, o, v, h => by
    rw [List.flatten_cons, List.getElem?_append] at h
    split at h
    · exact ⟨0, a, o, rfl, h, by simp⟩
    · rename_i hn
      obtain ⟨i, b, j, h1, h2, h3⟩ := flat_get h
      refine ⟨i + 1, b, j, by simpa using h1, h2, ?_⟩
      simp only [List.take_succ_cons, List.flatten_cons, List.length_append]
      omega
theorem offs_at {ls : List (List Value)} {i : Nat} {a : List Value} (h : ls[i]? = some a) : (offs ls)[i]? = some (ls.take i).flatten.length := by
  have hi : i < ls.length := (List.getElem?_eq_some_iff.1 h).1
  simp [offs, hi]
theorem mapM_back {α β : Type} {f : α → Option β} {l : List α} {r : List β} (h : l.mapM f = some r) {i : Nat} {b : β} (hb : r[i]? = some b) : ∃ a, l[i]? = some a ∧ f a = some b := by
  have hi : i < r.length := (List.getElem?_eq_some_iff.1 hb).1
  have hl : i < l.length := by rw [← Lib.mapM_length h]; exact hi
  obtain ⟨b', h1, h2⟩ := Lib.mapM_at h i l[i] (List.getElem?_eq_getElem hl)
  rw [hb] at h1
  cases h1
  exact ⟨l[i], List.getElem?_eq_getElem hl, h2⟩
theorem cut_get {cs : List Value} {o n j : Nat} {v : Value} (h : ((cs.drop o).take n)[j]? = some v) : cs[o + j]? = some v := by
  rw [List.getElem?_take] at h
  split at h
  · simpa [List.getElem?_drop] using h
  · cases h

theorem flatRow_spec {H : Type} {enc : TypeId × Value → H} {P : Program} {w : World} {base : Nat} {sp : Nat → Bool} {hd : Bool} : ∀ (n m : Nat) (t : TypeId) (d : DataW H) (l cs : List Value) (p : List MemPlace), flatRow P n t d = some l →
    DataW.trod enc P w base sp hd m t cs = some (d, p) → ∀ (o : Nat) (v : Value), l[o]? = some v → cs[o]? = some v
  | 0, _, _, _, _, _, _, h, _ => by cases h
  | n + 1, m, t, d, l, cs, p, h, ht => by
    intro o v ho
    unfold flatRow at h
    split at h
    · rename_i hu
      obtain ⟨b, rfl, e⟩ := DataW.trod_bool hu ht
      cases e; cases h; exact ho
    · rename_i k k' z hu
      obtain ⟨b, rfl, e, _⟩ := DataW.trod_int hu ht
      cases e
      simp only [if_true, Option.some.injEq] at h
      subst h; exact ho
    · rename_i na e ds hu
      obtain ⟨xs, m', rfl, ex, hlen, hxl, hx⟩ := DataW.trod_array hu ht
      obtain ⟨ls, hls, h⟩ := Option.bind_eq_some_iff.1 h
      split at h
      · rename_i hc
        cases h
        obtain ⟨i, a, j, h1, h2, rfl⟩ := flat_get ho
        obtain ⟨d', hd', hf⟩ := mapM_back hls h1
        cases ex
        simp only [List.getElem?_map, Option.map_eq_some_iff] at hd'
        obtain ⟨x, hx1, rfl⟩ := hd'
        have hi : i < na := by rw [← hxl]; exact (List.getElem?_eq_some_iff.1 hx1).1
        have hr := hx i hi
        rw [hx1] at hr
        have := flatRow_spec n m' e x.1 a _ x.2 hf hr j v h2
        have ho' := offs_at h1
        rw [hc.2] at ho'
        simp only [List.getElem?_map, List.getElem?_range hi, Option.map_some, Option.some.injEq] at ho'
        rw [← ho']
        exact cut_get this
      · cases h
    · rename_i fs ds hu
      obtain ⟨xs, m', rfl, ex, hlen, hxl, hx⟩ := DataW.trod_struct hu ht
      obtain ⟨ls, hls, h⟩ := Option.bind_eq_some_iff.1 h
      split at h
      · rename_i hc
        cases h
        obtain ⟨i, a, j, h1, h2, rfl⟩ := flat_get ho
        obtain ⟨fd, hd', hf⟩ := mapM_back hls h1
        cases ex
        obtain ⟨hf1, hd1⟩ := List.getElem?_zip_eq_some.1 hd'
        simp only [List.getElem?_map, Option.map_eq_some_iff] at hd1
        obtain ⟨x, hx1, hx2⟩ := hd1
        have hr := hx i fd.1 (by simpa using hf1)
        rw [hx1] at hr
        rw [← hx2] at hf
        have := flatRow_spec n m' fd.1.type x.1 a _ x.2 hf hr j v h2
        have ho' := offs_at h1
        rw [hc.2] at ho'
        simp only [List.getElem?_map, hf1, Option.map_some, Option.some.injEq] at ho'
        rw [← ho']
        exact cut_get this
      · cases h
    · cases h

/-- The tables of the list, as rows; other variables have none. -/
def tabRow (P : Program) (laid : List (String × DataW Unit)) (g : Nat) : Option ARow :=
  laid.findSome? fun x => if P.globalNamed x.1 = some g then (P.globals[g]?).bind fun v => (flatRow P 9 v.type x.2).bind fun cs => if cs.all atomB = true then some (.cells cs 0 .ro) else none else none
def tabRows (P : Program) (laid : List (String × DataW Unit)) (G : Nat) : Heap := (List.range G).map (tabRow P laid)
def tabLoc (G : Nat) : Loc := fun i => if i < G then some ⟨i, 0, 0, 0⟩ else none
theorem tabLoc_globs (G : Nat) : Globs (tabLoc G) G := fun g hg => ⟨0, 0, by simp [tabLoc, hg]⟩

theorem laidVars_mem {P : Program} {w : World} : ∀ {l : List (String × DataW Unit)} {ps : List MemPlace}, DataW.LaidVars P w l ps → ∀ x ∈ l, ∃ g t cs fuel p, P.globalNamed x.1 = some g ∧ (P.globals[g]?).map (·.type) = some t ∧ w.var? P x.1 = some cs ∧
    DataW.trod (fun _ => ()) P w 0 (fun _ => true) false fuel t cs.toList = some (x.2, p)
  | [], _, _, x, hx => by cases hx
  | y :: l, _, ⟨g, t, cs, fuel, p, q, h1, h2, h3, h4, h5, _⟩, x, hx => by
    rcases List.mem_cons.1 hx with rfl | hx
    · exact ⟨g, t, cs, fuel, p, h1, h2, h3, h4⟩
    · exact laidVars_mem h5 x hx

theorem tabRows_rel {P : Program} {laid : List (String × DataW Unit)} {G : Nat} {w : World} (h : laidMet P laid w) : Rel P (tabLoc G) (tabRows P laid G) w := by
  have get : ∀ i r, hget (tabRows P laid G) i = some r → i < G ∧ tabRow P laid i = some r := by
    intro i r hi
    rw [hget_eq] at hi
    simp only [tabRows, List.getElem?_map, Option.map_eq_some_iff] at hi
    obtain ⟨j, hj, hr⟩ := hi
    have hlt : i < G := by have := (List.getElem?_eq_some_iff.1 hj).1; simpa using this
    simp [hlt] at hj
    subst hj
    exact ⟨hlt, hr⟩
  have row : ∀ i r, tabRow P laid i = some r → ∃ cs, r = .cells cs 0 .ro ∧ ∃ cs' e' fz, w.heap[i]? = some (.cells cs' e' fz) ∧ cs.all atomB = true ∧ ∀ (o : Nat) (v : Value), cs[o]? = some v → cs'[o]? = some v := by
    intro i r hr
    obtain ⟨x, hx, hr⟩ := List.exists_of_findSome?_eq_some hr
    split at hr
    · rename_i hn
      obtain ⟨v, hv, hr⟩ := Option.bind_eq_some_iff.1 hr
      obtain ⟨cs, hcs, hr⟩ := Option.bind_eq_some_iff.1 hr
      by_cases hat : cs.all atomB = true
      case neg => rw [if_neg hat] at hr; cases hr
      rw [if_pos hat] at hr; cases hr
      obtain ⟨ps, hl, _⟩ := h
      obtain ⟨g, t, cs', fuel, p, h1, h2, h3, h4⟩ := laidVars_mem hl x hx
      rw [hn] at h1; cases h1
      rw [hv] at h2; cases h2
      refine ⟨cs, rfl, ?_⟩
      simp only [World.var?, hn, Option.bind_some] at h3
      split at h3
      · rename_i c e fz hw
        cases h3
        exact ⟨_, _, _, hw, hat, fun o v ho => by simpa using flatRow_spec 9 fuel _ _ cs _ p hcs h4 o v ho⟩
      · cases h3
    · cases hr
  have loc : ∀ i, i < G → tabLoc G i = some ⟨i, 0, 0, 0⟩ := fun i hi => by simp [tabLoc, hi]
  refine ⟨fun i hi => ?_, fun i r hi => ⟨_, loc i (get i r hi).1⟩, fun i r L hi hL => ?_, fun i j r s L M hi hj hL hM _ ho => ?_⟩
  · simp [tabRows] at hi
    simp [tabLoc, Nat.not_lt.2 hi]
  · obtain ⟨hlt, hr⟩ := get i r hi
    rw [loc i hlt] at hL; cases hL
    obtain ⟨cs, rfl, cs', e', fz, hw, hat, hc⟩ := row i r hr
    refine ⟨cs', e', fz, hw, fun o v hv => ⟨v, by simpa using hc o v hv, ?_⟩, fun _ => rfl, fun h => absurd rfl h⟩
    exact .atom (List.all_eq_true.1 hat v (List.mem_of_getElem? hv))
  · obtain ⟨hlt, hr⟩ := get i r hi
    obtain ⟨cs, rfl, _⟩ := row i r hr
    cases ho

open Go.ChangeShapes in
theorem post_of_still {H : Type} {enc : TypeId × Value → H} {P : Program} {f : Func} {s : ChangeSpec} {apart fresh handsOn again : Bool} {W W' : World} {args : Array Value} {v : Value} {ds gs : List (DataW H)} {before pa pv : List MemPlace}
    (hW : DataW.Whole enc P f.params.toList s.vars apart W args.toList ds gs before)
    (hres : ∀ (b : Nat) (sp : Nat → Bool) (hd : Bool), DataW.TrodAll enc P W' b sp hd f.resultTypes.toList (v.resultList f.resultTypes.size) (s.fn H (ds ++ gs)).results [])
    (hargs : ∀ sp : Nat → Bool, (∀ p ∈ before, sp p.block = true) → DataW.TrodAll enc P W' 0 sp true f.params.toList args.toList (s.fn H (ds ++ gs)).args pa)
    (hvars : ∀ sp : Nat → Bool, (∀ p ∈ before, sp p.block = true) → DataW.TrodVars enc P W' sp s.vars (s.fn H (ds ++ gs)).vars pv)
    (hps : before = pa ++ pv) (ho : W'.os = W.os ∧ W'.output = W.output) (hb : ∀ b, b < W.heap.size → W'.heap[b]? = W.heap[b]?)
    (hok : ∀ (j : Nat) (t : TypeId) (r : Value), f.resultTypes[j]? = some t → (v.resultList f.resultTypes.size)[j]? = some r → Value.okWide P W' .any 0 t r) :
    s.post enc P f apart fresh handsOn again W args v W' := by
  have hlt := hW.lt
  have hold : ∀ p ∈ before, (fun b => decide (b < W.heap.size)) p.block = true := fun p hp => by simpa using hlt p hp
  refine ⟨ds, gs, before, [], pa, pv, hW, hres _ _ _, hargs _ hold, hvars _ hold, kept_of_same ho hb _, fun _ => ?_⟩
  obtain ⟨_, _, _, _, _, hz, hn⟩ := hW
  refine ⟨hok, _, _, ([] ++ pa) ++ pv, ⟨[] ++ pa, pv, trodAll_append (hargs _ (fun _ _ => rfl)) (hres _ _ _), hvars _ (fun _ _ => rfl), rfl, ?_, ?_⟩, ?_⟩
  · intro b off hp
    have hp' : MemPlace.cell b off ∈ before := by rw [hps]; simpa using hp
    rw [frozen_of_same hb (hlt _ hp')]
    exact hz b off hp'
  · intro ha
    have := hn ha
    rw [hps] at this
    simpa using this
  · intro p hp _
    rw [hps]
    simpa using hp

/-- Behind a call that leaves all old blocks the arguments read as before. -/
theorem trodAll_still {H : Type} {enc : TypeId × Value → H} {P : Program} {W W' : World} (hb : ∀ b, b < W.heap.size → W'.heap[b]? = W.heap[b]?) : ∀ {ts : List TypeId} {vs : List Value} {ds : List (DataW H)} {ps : List MemPlace} {sp : Nat → Bool} {hd : Bool}, (∀ p ∈ ps, p.block < W.heap.size) → DataW.TrodAll enc P W 0 sp hd ts vs ds ps → DataW.TrodAll enc P W' 0 sp hd ts vs ds ps
  | [], [], [], _, _, _, _, h => h
  | _ :: _, _ :: _, _ :: _, _, _, _, hl, ⟨p, q, ⟨n, h1⟩, h2, e⟩ => ⟨p, q, ⟨n, DataW.trod_carry n _ _ _ h1 fun x hx => by
      have := hl x (by rw [e]; exact List.mem_append_left _ hx)
      cases x with
      | cell b off => simp only [World.sameAt, World.cell?, hb b this]
      | map b => exact hb b this⟩, trodAll_still hb (fun x hx => hl x (by rw [e]; exact List.mem_append_right _ hx)) h2, e⟩
  | [], _ :: _, _, _, _, _, _, h => h.elim
  | [], [], _ :: _, _, _, _, _, h => h.elim
  | _ :: _, [], _, _, _, _, _, h => h.elim
  | _ :: _, _ :: _, [], _, _, _, _, h => h.elim

/-- What is asked of the program's types, that arguments read again. -/
structure Reads (P : Program) : Prop where
  out : laidOutB P = true
  maps : mapsRowed P = true
  full : ((List.range P.types.size).all fun t => match P.underlying t with | some (.slice e) => decide (0 < P.cellsOf e) | _ => true) = true

open Go.ChangeShapes Go.RowKit in
/-- WHAT A LAW's ROW ASKS: true came back, all old blocks are as they were. -/
theorem law_post {H : Type} {enc : TypeId × Value → H} {P : Program} (hP : Reads P) {f : Func} {s : ChangeSpec} {apart fresh handsOn again : Bool} {W W' : World} {args : Array Value} {ds gs : List (DataW H)} {before : List MemPlace} {bt : TypeId}
    (hv : s.vars = []) (hfn : ∀ ds : List (DataW H), ds.length = f.params.size → s.fn H ds = { results := [.lit (.bool true)], args := ds }) (hr : f.resultTypes = #[bt]) (hu : P.underlying bt = some .bool) (hts : f.params.toList.all (fun t => decide (t < P.types.size)) = true)
    (hW : DataW.Whole enc P f.params.toList s.vars apart W args.toList ds gs before) (ho : W'.os = W.os ∧ W'.output = W.output) (hb : ∀ b, b < W.heap.size → W'.heap[b]? = W.heap[b]?) :
    s.post enc P f apart fresh handsOn again W args (.bool true) W' := by
  have hW0 := hW
  have hlt := hW.lt
  obtain ⟨p, q, hA, hV, rfl, hz, hn⟩ := hW
  rw [hv] at hV
  obtain ⟨rfl, rfl⟩ : gs = [] ∧ q = [] := by
    cases gs with
    | nil => exact ⟨rfl, hV⟩
    | cons => exact hV.elim
  have hlen : ds.length = f.params.size := by simpa using (Go.trodAll_length hA).2
  have hf := hfn ds hlen
  refine post_of_still (pa := p) (pv := []) hW0 (fun b sp hd => ?_) (fun sp hs => ?_) (fun sp _ => ?_) rfl ho hb ?_
  · rw [List.append_nil, hf, hr]
    exact trodAll_cons_mk (shut_bool hu true) trodAll_mk0
  · rw [List.append_nil, hf]
    refine trodAll_still hb (fun x hx => hlt x (by simpa using hx)) ?_
    exact DataW.TrodAll.respare (kids_rows hP.out hP.maps) (fun t e ht => slices_full_of P hP.full t e ht) (fun t ht => by simpa using List.all_eq_true.1 hts t ht) hA (fun x hx => hs x (by simpa using hx))
  · rw [List.append_nil, hf, hv]
    exact rfl
  · exact ok_one hr rfl (okWide_bool_mk hu true)
end Go.Abs
