/-
ArrayBacks of the package wooferlaw06 returns true for every input, whatever the world: proved for all arguments, under the conditions that the row and its card name (the package-level tables as laid).
-/
import Derived.Test.YtpdiaiccnaoaiaaGreatDoorMb6
import Derived.Test.YtpdiaiccnaoaiaaGreatDoorCards
import Derived.Test.YtpdiaiccnaoaiaaGreatDoorTie
import Derived.WalkKit
import Derived.ProofKit
import Derived.OpenShut
import Derived.Deep.DeepHandedRow
import Derived.Lib.LaidTab
import Derived.MakeChecks
set_option linter.unusedVariables false
set_option linter.unusedSimpArgs false
set_option linter.unusedSectionVars false
/-
What functions give.
-/
namespace Go.Proofs.YtpdiaiccnaoaiaaGreatDoor
open Go Go.Abs
def lb_c0 (x0 : Int) (x1 : Int) (x2 : Int) (x3 : Int) (x4 : Int) (x5 : Int) (x6 : Int) (x7 : Int) : Bool := decide (x0 > 100000000)
def lb_c1 (x0 : Int) (x1 : Int) (x2 : Int) (x3 : Int) (x4 : Int) (x5 : Int) (x6 : Int) (x7 : Int) : Bool := decide (x0 < -100000000)
def lb_c2 (x0 : Int) (x1 : Int) (x2 : Int) (x3 : Int) (x4 : Int) (x5 : Int) (x6 : Int) (x7 : Int) : Bool := decide (x1 > 100000000)
def lb_c3 (x0 : Int) (x1 : Int) (x2 : Int) (x3 : Int) (x4 : Int) (x5 : Int) (x6 : Int) (x7 : Int) : Bool := decide (x1 < -100000000)
def lb_c4 (x0 : Int) (x1 : Int) (x2 : Int) (x3 : Int) (x4 : Int) (x5 : Int) (x6 : Int) (x7 : Int) : Bool := decide (x2 > 100000000)
def lb_c5 (x0 : Int) (x1 : Int) (x2 : Int) (x3 : Int) (x4 : Int) (x5 : Int) (x6 : Int) (x7 : Int) : Bool := decide (x2 < -100000000)
def lb_c6 (x0 : Int) (x1 : Int) (x2 : Int) (x3 : Int) (x4 : Int) (x5 : Int) (x6 : Int) (x7 : Int) : Bool := decide (x3 > 100000000)
def lb_c7 (x0 : Int) (x1 : Int) (x2 : Int) (x3 : Int) (x4 : Int) (x5 : Int) (x6 : Int) (x7 : Int) : Bool := decide (x3 < -100000000)
def lb_c8 (x0 : Int) (x1 : Int) (x2 : Int) (x3 : Int) (x4 : Int) (x5 : Int) (x6 : Int) (x7 : Int) : Bool := decide (x4 > 100000000)
def lb_c9 (x0 : Int) (x1 : Int) (x2 : Int) (x3 : Int) (x4 : Int) (x5 : Int) (x6 : Int) (x7 : Int) : Bool := decide (x4 < -100000000)
def lb_c10 (x0 : Int) (x1 : Int) (x2 : Int) (x3 : Int) (x4 : Int) (x5 : Int) (x6 : Int) (x7 : Int) : Bool := decide (x5 > 100000000)
def lb_c11 (x0 : Int) (x1 : Int) (x2 : Int) (x3 : Int) (x4 : Int) (x5 : Int) (x6 : Int) (x7 : Int) : Bool := decide (x5 < -100000000)
def lb_c12 (x0 : Int) (x1 : Int) (x2 : Int) (x3 : Int) (x4 : Int) (x5 : Int) (x6 : Int) (x7 : Int) : Bool := decide (x6 > 100000000)
def lb_c13 (x0 : Int) (x1 : Int) (x2 : Int) (x3 : Int) (x4 : Int) (x5 : Int) (x6 : Int) (x7 : Int) : Bool := decide (x6 < -100000000)
def lb_c14 (x0 : Int) (x1 : Int) (x2 : Int) (x3 : Int) (x4 : Int) (x5 : Int) (x6 : Int) (x7 : Int) : Bool := decide (x7 > 100000000)
def lb_c15 (x0 : Int) (x1 : Int) (x2 : Int) (x3 : Int) (x4 : Int) (x5 : Int) (x6 : Int) (x7 : Int) : Bool := decide (x7 < -100000000)
def lb_c16 (x0 : Int) (x1 : Int) (x2 : Int) (x3 : Int) (x4 : Int) (x5 : Int) (x6 : Int) (x7 : Int) : Bool := ha_r8 x0 x1 x2 x3 x4 x5 x6 x7 != 0
def lb_c17 (x0 : Int) (x1 : Int) (x2 : Int) (x3 : Int) (x4 : Int) (x5 : Int) (x6 : Int) (x7 : Int) : Bool := ba_r8 (ha_r0 x0 x1 x2 x3 x4 x5 x6 x7) (ha_r1 x0 x1 x2 x3 x4 x5 x6 x7) (ha_r2 x0 x1 x2 x3 x4 x5 x6 x7) (ha_r3 x0 x1 x2 x3 x4 x5 x6 x7) (ha_r4 x0 x1 x2 x3 x4 x5 x6 x7) (ha_r5 x0 x1 x2 x3 x4 x5 x6 x7) (ha_r6 x0 x1 x2 x3 x4 x5 x6 x7) (ha_r7 x0 x1 x2 x3 x4 x5 x6 x7) != 0
def lb_c18 (x0 : Int) (x1 : Int) (x2 : Int) (x3 : Int) (x4 : Int) (x5 : Int) (x6 : Int) (x7 : Int) : Bool := ha_r8 x6 x7 x0 x1 x2 x3 x4 x5 != 0
def lb_c19 (x0 : Int) (x1 : Int) (x2 : Int) (x3 : Int) (x4 : Int) (x5 : Int) (x6 : Int) (x7 : Int) : Bool := !(ba_r0 (ha_r0 x0 x1 x2 x3 x4 x5 x6 x7) (ha_r1 x0 x1 x2 x3 x4 x5 x6 x7) (ha_r2 x0 x1 x2 x3 x4 x5 x6 x7) (ha_r3 x0 x1 x2 x3 x4 x5 x6 x7) (ha_r4 x0 x1 x2 x3 x4 x5 x6 x7) (ha_r5 x0 x1 x2 x3 x4 x5 x6 x7) (ha_r6 x0 x1 x2 x3 x4 x5 x6 x7) (ha_r7 x0 x1 x2 x3 x4 x5 x6 x7) == x0 && (ba_r1 (ha_r0 x0 x1 x2 x3 x4 x5 x6 x7) (ha_r1 x0 x1 x2 x3 x4 x5 x6 x7) (ha_r2 x0 x1 x2 x3 x4 x5 x6 x7) (ha_r3 x0 x1 x2 x3 x4 x5 x6 x7) (ha_r4 x0 x1 x2 x3 x4 x5 x6 x7) (ha_r5 x0 x1 x2 x3 x4 x5 x6 x7) (ha_r6 x0 x1 x2 x3 x4 x5 x6 x7) (ha_r7 x0 x1 x2 x3 x4 x5 x6 x7) == x1 && true) && (ba_r2 (ha_r0 x0 x1 x2 x3 x4 x5 x6 x7) (ha_r1 x0 x1 x2 x3 x4 x5 x6 x7) (ha_r2 x0 x1 x2 x3 x4 x5 x6 x7) (ha_r3 x0 x1 x2 x3 x4 x5 x6 x7) (ha_r4 x0 x1 x2 x3 x4 x5 x6 x7) (ha_r5 x0 x1 x2 x3 x4 x5 x6 x7) (ha_r6 x0 x1 x2 x3 x4 x5 x6 x7) (ha_r7 x0 x1 x2 x3 x4 x5 x6 x7) == x2 && (ba_r3 (ha_r0 x0 x1 x2 x3 x4 x5 x6 x7) (ha_r1 x0 x1 x2 x3 x4 x5 x6 x7) (ha_r2 x0 x1 x2 x3 x4 x5 x6 x7) (ha_r3 x0 x1 x2 x3 x4 x5 x6 x7) (ha_r4 x0 x1 x2 x3 x4 x5 x6 x7) (ha_r5 x0 x1 x2 x3 x4 x5 x6 x7) (ha_r6 x0 x1 x2 x3 x4 x5 x6 x7) (ha_r7 x0 x1 x2 x3 x4 x5 x6 x7) == x3 && true) && (ba_r4 (ha_r0 x0 x1 x2 x3 x4 x5 x6 x7) (ha_r1 x0 x1 x2 x3 x4 x5 x6 x7) (ha_r2 x0 x1 x2 x3 x4 x5 x6 x7) (ha_r3 x0 x1 x2 x3 x4 x5 x6 x7) (ha_r4 x0 x1 x2 x3 x4 x5 x6 x7) (ha_r5 x0 x1 x2 x3 x4 x5 x6 x7) (ha_r6 x0 x1 x2 x3 x4 x5 x6 x7) (ha_r7 x0 x1 x2 x3 x4 x5 x6 x7) == x4 && (ba_r5 (ha_r0 x0 x1 x2 x3 x4 x5 x6 x7) (ha_r1 x0 x1 x2 x3 x4 x5 x6 x7) (ha_r2 x0 x1 x2 x3 x4 x5 x6 x7) (ha_r3 x0 x1 x2 x3 x4 x5 x6 x7) (ha_r4 x0 x1 x2 x3 x4 x5 x6 x7) (ha_r5 x0 x1 x2 x3 x4 x5 x6 x7) (ha_r6 x0 x1 x2 x3 x4 x5 x6 x7) (ha_r7 x0 x1 x2 x3 x4 x5 x6 x7) == x5 && true) && (ba_r6 (ha_r0 x0 x1 x2 x3 x4 x5 x6 x7) (ha_r1 x0 x1 x2 x3 x4 x5 x6 x7) (ha_r2 x0 x1 x2 x3 x4 x5 x6 x7) (ha_r3 x0 x1 x2 x3 x4 x5 x6 x7) (ha_r4 x0 x1 x2 x3 x4 x5 x6 x7) (ha_r5 x0 x1 x2 x3 x4 x5 x6 x7) (ha_r6 x0 x1 x2 x3 x4 x5 x6 x7) (ha_r7 x0 x1 x2 x3 x4 x5 x6 x7) == x6 && (ba_r7 (ha_r0 x0 x1 x2 x3 x4 x5 x6 x7) (ha_r1 x0 x1 x2 x3 x4 x5 x6 x7) (ha_r2 x0 x1 x2 x3 x4 x5 x6 x7) (ha_r3 x0 x1 x2 x3 x4 x5 x6 x7) (ha_r4 x0 x1 x2 x3 x4 x5 x6 x7) (ha_r5 x0 x1 x2 x3 x4 x5 x6 x7) (ha_r6 x0 x1 x2 x3 x4 x5 x6 x7) (ha_r7 x0 x1 x2 x3 x4 x5 x6 x7) == x7 && true) && true))))
def lb_c20 (x0 : Int) (x1 : Int) (x2 : Int) (x3 : Int) (x4 : Int) (x5 : Int) (x6 : Int) (x7 : Int) : Bool := !(ha_r0 x6 x7 x0 x1 x2 x3 x4 x5 == ha_r0 x0 x1 x2 x3 x4 x5 x6 x7 && (ha_r1 x6 x7 x0 x1 x2 x3 x4 x5 == ha_r1 x0 x1 x2 x3 x4 x5 x6 x7 && true))
def lb_c21 (x0 : Int) (x1 : Int) (x2 : Int) (x3 : Int) (x4 : Int) (x5 : Int) (x6 : Int) (x7 : Int) : Bool := !(ha_r2 x6 x7 x0 x1 x2 x3 x4 x5 == rtm1_r0 (ha_r2 x0 x1 x2 x3 x4 x5 x6 x7) (ha_r3 x0 x1 x2 x3 x4 x5 x6 x7) && (ha_r3 x6 x7 x0 x1 x2 x3 x4 x5 == rtm1_r1 (ha_r2 x0 x1 x2 x3 x4 x5 x6 x7) (ha_r3 x0 x1 x2 x3 x4 x5 x6 x7) && true))
def lb_c22 (x0 : Int) (x1 : Int) (x2 : Int) (x3 : Int) (x4 : Int) (x5 : Int) (x6 : Int) (x7 : Int) : Bool := !(ha_r4 x6 x7 x0 x1 x2 x3 x4 x5 == rtm2_r0 (ha_r4 x0 x1 x2 x3 x4 x5 x6 x7) (ha_r5 x0 x1 x2 x3 x4 x5 x6 x7) && (ha_r5 x6 x7 x0 x1 x2 x3 x4 x5 == rtm2_r1 (ha_r4 x0 x1 x2 x3 x4 x5 x6 x7) (ha_r5 x0 x1 x2 x3 x4 x5 x6 x7) && true))
def lb_c23 (x0 : Int) (x1 : Int) (x2 : Int) (x3 : Int) (x4 : Int) (x5 : Int) (x6 : Int) (x7 : Int) : Bool := !(ha_r6 x6 x7 x0 x1 x2 x3 x4 x5 == rtm3_r0 (ha_r6 x0 x1 x2 x3 x4 x5 x6 x7) (ha_r7 x0 x1 x2 x3 x4 x5 x6 x7) && (ha_r7 x6 x7 x0 x1 x2 x3 x4 x5 == ha_r6 x0 x1 x2 x3 x4 x5 x6 x7 && true))
def lb_c24 (x0 : Int) (x1 : Int) (x2 : Int) (x3 : Int) (x4 : Int) (x5 : Int) (x6 : Int) (x7 : Int) : Bool := ha_r0 x0 x1 x2 x3 x4 x5 x6 x7 == rpl_r0 (rpl_r0 x0 x1 x2 x3) (rpl_r1 x0 x1 x2 x3) (rpl_r0 x4 x5 x6 x7) (rpl_r1 x4 x5 x6 x7) && (ha_r1 x0 x1 x2 x3 x4 x5 x6 x7 == rpl_r1 (rpl_r0 x0 x1 x2 x3) (rpl_r1 x0 x1 x2 x3) (rpl_r0 x4 x5 x6 x7) (rpl_r1 x4 x5 x6 x7) && true)
theorem lb_p0 (x0 : Int) (x1 : Int) (x2 : Int) (x3 : Int) (x4 : Int) (x5 : Int) (x6 : Int) (x7 : Int) (h0 : lb_c0 x0 x1 x2 x3 x4 x5 x6 x7 = true) : Gives Tryz.prog envL 0 13 [(.agg #[(.int .i64 (x0)), (.int .i64 (x1)), (.int .i64 (x2)), (.int .i64 (x3)), (.int .i64 (x4)), (.int .i64 (x5)), (.int .i64 (x6)), (.int .i64 (x7))])] heap0 ((.bool true), heap0) :=
  Gives.by (n := 1000) (os := [.br 13 48 true, .br 13 48 true, .br 13 48 true, .br 13 57 true]) (os' := []) (by kernel_rfl) (ObsOK.cond h0 (ObsOK.cond h0 (ObsOK.cond h0 (ObsOK.cond h0 (ObsOK.nil)))))
theorem lb_p1 (x0 : Int) (x1 : Int) (x2 : Int) (x3 : Int) (x4 : Int) (x5 : Int) (x6 : Int) (x7 : Int) (h0 : lb_c0 x0 x1 x2 x3 x4 x5 x6 x7 = false) (h1 : lb_c1 x0 x1 x2 x3 x4 x5 x6 x7 = true) : Gives Tryz.prog envL 0 13 [(.agg #[(.int .i64 (x0)), (.int .i64 (x1)), (.int .i64 (x2)), (.int .i64 (x3)), (.int .i64 (x4)), (.int .i64 (x5)), (.int .i64 (x6)), (.int .i64 (x7))])] heap0 ((.bool true), heap0) :=
  Gives.by (n := 1000) (os := [.br 13 48 false, .br 13 48 false, .br 13 48 false, .br 13 57 false, .br 13 58 true, .br 13 58 true, .br 13 58 true, .br 13 67 true]) (os' := []) (by kernel_rfl) (ObsOK.cond h0 (ObsOK.cond h0 (ObsOK.cond h0 (ObsOK.cond h0 (ObsOK.cond h1 (ObsOK.cond h1 (ObsOK.cond h1 (ObsOK.cond h1 (ObsOK.nil)))))))))
theorem lb_p2 (x0 : Int) (x1 : Int) (x2 : Int) (x3 : Int) (x4 : Int) (x5 : Int) (x6 : Int) (x7 : Int) (h0 : lb_c0 x0 x1 x2 x3 x4 x5 x6 x7 = false) (h1 : lb_c1 x0 x1 x2 x3 x4 x5 x6 x7 = false) (h2 : lb_c2 x0 x1 x2 x3 x4 x5 x6 x7 = true) : Gives Tryz.prog envL 0 13 [(.agg #[(.int .i64 (x0)), (.int .i64 (x1)), (.int .i64 (x2)), (.int .i64 (x3)), (.int .i64 (x4)), (.int .i64 (x5)), (.int .i64 (x6)), (.int .i64 (x7))])] heap0 ((.bool true), heap0) :=
  Gives.by (n := 1000) (os := [.br 13 48 false, .br 13 48 false, .br 13 48 false, .br 13 57 false, .br 13 58 false, .br 13 58 false, .br 13 58 false, .br 13 67 false, .br 13 68 true, .br 13 68 true, .br 13 68 true, .br 13 77 true]) (os' := []) (by kernel_rfl) (ObsOK.cond h0 (ObsOK.cond h0 (ObsOK.cond h0 (ObsOK.cond h0 (ObsOK.cond h1 (ObsOK.cond h1 (ObsOK.cond h1 (ObsOK.cond h1 (ObsOK.cond h2 (ObsOK.cond h2 (ObsOK.cond h2 (ObsOK.cond h2 (ObsOK.nil)))))))))))))
theorem lb_p3 (x0 : Int) (x1 : Int) (x2 : Int) (x3 : Int) (x4 : Int) (x5 : Int) (x6 : Int) (x7 : Int) (h0 : lb_c0 x0 x1 x2 x3 x4 x5 x6 x7 = false) (h1 : lb_c1 x0 x1 x2 x3 x4 x5 x6 x7 = false) (h2 : lb_c2 x0 x1 x2 x3 x4 x5 x6 x7 = false) (h3 : lb_c3 x0 x1 x2 x3 x4 x5 x6 x7 = true) : Gives Tryz.prog envL 0 13 [(.agg #[(.int .i64 (x0)), (.int .i64 (x1)), (.int .i64 (x2)), (.int .i64 (x3)), (.int .i64 (x4)), (.int .i64 (x5)), (.int .i64 (x6)), (.int .i64 (x7))])] heap0 ((.bool true), heap0) :=
  Gives.by (n := 1000) (os := [.br 13 48 false, .br 13 48 false, .br 13 48 false, .br 13 57 false, .br 13 58 false, .br 13 58 false, .br 13 58 false, .br 13 67 false, .br 13 68 false, .br 13 68 false, .br 13 68 false, .br 13 77 false, .br 13 76 true]) (os' := []) (by kernel_rfl) (ObsOK.cond h0 (ObsOK.cond h0 (ObsOK.cond h0 (ObsOK.cond h0 (ObsOK.cond h1 (ObsOK.cond h1 (ObsOK.cond h1 (ObsOK.cond h1 (ObsOK.cond h2 (ObsOK.cond h2 (ObsOK.cond h2 (ObsOK.cond h2 (ObsOK.cond h3 (ObsOK.nil))))))))))))))
theorem lb_p4 (x0 : Int) (x1 : Int) (x2 : Int) (x3 : Int) (x4 : Int) (x5 : Int) (x6 : Int) (x7 : Int) (h0 : lb_c0 x0 x1 x2 x3 x4 x5 x6 x7 = false) (h1 : lb_c1 x0 x1 x2 x3 x4 x5 x6 x7 = false) (h2 : lb_c2 x0 x1 x2 x3 x4 x5 x6 x7 = false) (h3 : lb_c3 x0 x1 x2 x3 x4 x5 x6 x7 = false) (h4 : lb_c4 x0 x1 x2 x3 x4 x5 x6 x7 = true) : Gives Tryz.prog envL 0 13 [(.agg #[(.int .i64 (x0)), (.int .i64 (x1)), (.int .i64 (x2)), (.int .i64 (x3)), (.int .i64 (x4)), (.int .i64 (x5)), (.int .i64 (x6)), (.int .i64 (x7))])] heap0 ((.bool true), heap0) :=
  Gives.by (n := 1000) (os := [.br 13 48 false, .br 13 48 false, .br 13 48 false, .br 13 57 false, .br 13 58 false, .br 13 58 false, .br 13 58 false, .br 13 67 false, .br 13 68 false, .br 13 68 false, .br 13 68 false, .br 13 77 false, .br 13 76 false, .br 13 48 true, .br 13 48 true, .br 13 48 true, .br 13 57 true]) (os' := []) (by kernel_rfl) (ObsOK.cond h0 (ObsOK.cond h0 (ObsOK.cond h0 (ObsOK.cond h0 (ObsOK.cond h1 (ObsOK.cond h1 (ObsOK.cond h1 (ObsOK.cond h1 (ObsOK.cond h2 (ObsOK.cond h2 (ObsOK.cond h2 (ObsOK.cond h2 (ObsOK.cond h3 (ObsOK.cond h4 (ObsOK.cond h4 (ObsOK.cond h4 (ObsOK.cond h4 (ObsOK.nil))))))))))))))))))
theorem lb_p5 (x0 : Int) (x1 : Int) (x2 : Int) (x3 : Int) (x4 : Int) (x5 : Int) (x6 : Int) (x7 : Int) (h0 : lb_c0 x0 x1 x2 x3 x4 x5 x6 x7 = false) (h1 : lb_c1 x0 x1 x2 x3 x4 x5 x6 x7 = false) (h2 : lb_c2 x0 x1 x2 x3 x4 x5 x6 x7 = false) (h3 : lb_c3 x0 x1 x2 x3 x4 x5 x6 x7 = false) (h4 : lb_c4 x0 x1 x2 x3 x4 x5 x6 x7 = false) (h5 : lb_c5 x0 x1 x2 x3 x4 x5 x6 x7 = true) : Gives Tryz.prog envL 0 13 [(.agg #[(.int .i64 (x0)), (.int .i64 (x1)), (.int .i64 (x2)), (.int .i64 (x3)), (.int .i64 (x4)), (.int .i64 (x5)), (.int .i64 (x6)), (.int .i64 (x7))])] heap0 ((.bool true), heap0) :=
  Gives.by (n := 1000) (os := [.br 13 48 false, .br 13 48 false, .br 13 48 false, .br 13 57 false, .br 13 58 false, .br 13 58 false, .br 13 58 false, .br 13 67 false, .br 13 68 false, .br 13 68 false, .br 13 68 false, .br 13 77 false, .br 13 76 false, .br 13 48 false, .br 13 48 false, .br 13 48 false, .br 13 57 false, .br 13 58 true, .br 13 58 true, .br 13 58 true, .br 13 67 true]) (os' := []) (by kernel_rfl) (ObsOK.cond h0 (ObsOK.cond h0 (ObsOK.cond h0 (ObsOK.cond h0 (ObsOK.cond h1 (ObsOK.cond h1 (ObsOK.cond h1 (ObsOK.cond h1 (ObsOK.cond h2 (ObsOK.cond h2 (ObsOK.cond h2 (ObsOK.cond h2 (ObsOK.cond h3 (ObsOK.cond h4 (ObsOK.cond h4 (ObsOK.cond h4 (ObsOK.cond h4 (ObsOK.cond h5 (ObsOK.cond h5 (ObsOK.cond h5 (ObsOK.cond h5 (ObsOK.nil))))))))))))))))))))))
theorem lb_p6 (x0 : Int) (x1 : Int) (x2 : Int) (x3 : Int) (x4 : Int) (x5 : Int) (x6 : Int) (x7 : Int) (h0 : lb_c0 x0 x1 x2 x3 x4 x5 x6 x7 = false) (h1 : lb_c1 x0 x1 x2 x3 x4 x5 x6 x7 = false) (h2 : lb_c2 x0 x1 x2 x3 x4 x5 x6 x7 = false) (h3 : lb_c3 x0 x1 x2 x3 x4 x5 x6 x7 = false) (h4 : lb_c4 x0 x1 x2 x3 x4 x5 x6 x7 = false) (h5 : lb_c5 x0 x1 x2 x3 x4 x5 x6 x7 = false) (h6 : lb_c6 x0 x1 x2 x3 x4 x5 x6 x7 = true) : Gives Tryz.prog envL 0 13 [(.agg #[(.int .i64 (x0)), (.int .i64 (x1)), (.int .i64 (x2)), (.int .i64 (x3)), (.int .i64 (x4)), (.int .i64 (x5)), (.int .i64 (x6)), (.int .i64 (x7))])] heap0 ((.bool true), heap0) :=
  Gives.by (n := 1000) (os := [.br 13 48 false, .br 13 48 false, .br 13 48 false, .br 13 57 false, .br 13 58 false, .br 13 58 false, .br 13 58 false, .br 13 67 false, .br 13 68 false, .br 13 68 false, .br 13 68 false, .br 13 77 false, .br 13 76 false, .br 13 48 false, .br 13 48 false, .br 13 48 false, .br 13 57 false, .br 13 58 false, .br 13 58 false, .br 13 58 false, .br 13 67 false, .br 13 68 true, .br 13 68 true, .br 13 68 true, .br 13 77 true]) (os' := []) (by kernel_rfl) (ObsOK.cond h0 (ObsOK.cond h0 (ObsOK.cond h0 (ObsOK.cond h0 (ObsOK.cond h1 (ObsOK.cond h1 (ObsOK.cond h1 (ObsOK.cond h1 (ObsOK.cond h2 (ObsOK.cond h2 (ObsOK.cond h2 (ObsOK.cond h2 (ObsOK.cond h3 (ObsOK.cond h4 (ObsOK.cond h4 (ObsOK.cond h4 (ObsOK.cond h4 (ObsOK.cond h5 (ObsOK.cond h5 (ObsOK.cond h5 (ObsOK.cond h5 (ObsOK.cond h6 (ObsOK.cond h6 (ObsOK.cond h6 (ObsOK.cond h6 (ObsOK.nil))))))))))))))))))))))))))
theorem lb_p7 (x0 : Int) (x1 : Int) (x2 : Int) (x3 : Int) (x4 : Int) (x5 : Int) (x6 : Int) (x7 : Int) (h0 : lb_c0 x0 x1 x2 x3 x4 x5 x6 x7 = false) (h1 : lb_c1 x0 x1 x2 x3 x4 x5 x6 x7 = false) (h2 : lb_c2 x0 x1 x2 x3 x4 x5 x6 x7 = false) (h3 : lb_c3 x0 x1 x2 x3 x4 x5 x6 x7 = false) (h4 : lb_c4 x0 x1 x2 x3 x4 x5 x6 x7 = false) (h5 : lb_c5 x0 x1 x2 x3 x4 x5 x6 x7 = false) (h6 : lb_c6 x0 x1 x2 x3 x4 x5 x6 x7 = false) (h7 : lb_c7 x0 x1 x2 x3 x4 x5 x6 x7 = true) : Gives Tryz.prog envL 0 13 [(.agg #[(.int .i64 (x0)), (.int .i64 (x1)), (.int .i64 (x2)), (.int .i64 (x3)), (.int .i64 (x4)), (.int .i64 (x5)), (.int .i64 (x6)), (.int .i64 (x7))])] heap0 ((.bool true), heap0) :=
  Gives.by (n := 1000) (os := [.br 13 48 false, .br 13 48 false, .br 13 48 false, .br 13 57 false, .br 13 58 false, .br 13 58 false, .br 13 58 false, .br 13 67 false, .br 13 68 false, .br 13 68 false, .br 13 68 false, .br 13 77 false, .br 13 76 false, .br 13 48 false, .br 13 48 false, .br 13 48 false, .br 13 57 false, .br 13 58 false, .br 13 58 false, .br 13 58 false, .br 13 67 false, .br 13 68 false, .br 13 68 false, .br 13 68 false, .br 13 77 false, .br 13 76 true]) (os' := []) (by kernel_rfl) (ObsOK.cond h0 (ObsOK.cond h0 (ObsOK.cond h0 (ObsOK.cond h0 (ObsOK.cond h1 (ObsOK.cond h1 (ObsOK.cond h1 (ObsOK.cond h1 (ObsOK.cond h2 (ObsOK.cond h2 (ObsOK.cond h2 (ObsOK.cond h2 (ObsOK.cond h3 (ObsOK.cond h4 (ObsOK.cond h4 (ObsOK.cond h4 (ObsOK.cond h4 (ObsOK.cond h5 (ObsOK.cond h5 (ObsOK.cond h5 (ObsOK.cond h5 (ObsOK.cond h6 (ObsOK.cond h6 (ObsOK.cond h6 (ObsOK.cond h6 (ObsOK.cond h7 (ObsOK.nil)))))))))))))))))))))))))))
theorem lb_p8 (x0 : Int) (x1 : Int) (x2 : Int) (x3 : Int) (x4 : Int) (x5 : Int) (x6 : Int) (x7 : Int) (h0 : lb_c0 x0 x1 x2 x3 x4 x5 x6 x7 = false) (h1 : lb_c1 x0 x1 x2 x3 x4 x5 x6 x7 = false) (h2 : lb_c2 x0 x1 x2 x3 x4 x5 x6 x7 = false) (h3 : lb_c3 x0 x1 x2 x3 x4 x5 x6 x7 = false) (h4 : lb_c4 x0 x1 x2 x3 x4 x5 x6 x7 = false) (h5 : lb_c5 x0 x1 x2 x3 x4 x5 x6 x7 = false) (h6 : lb_c6 x0 x1 x2 x3 x4 x5 x6 x7 = false) (h7 : lb_c7 x0 x1 x2 x3 x4 x5 x6 x7 = false) (h8 : lb_c8 x0 x1 x2 x3 x4 x5 x6 x7 = true) : Gives Tryz.prog envL 0 13 [(.agg #[(.int .i64 (x0)), (.int .i64 (x1)), (.int .i64 (x2)), (.int .i64 (x3)), (.int .i64 (x4)), (.int .i64 (x5)), (.int .i64 (x6)), (.int .i64 (x7))])] heap0 ((.bool true), heap0) :=
  Gives.by (n := 1000) (os := [.br 13 48 false, .br 13 48 false, .br 13 48 false, .br 13 57 false, .br 13 58 false, .br 13 58 false, .br 13 58 false, .br 13 67 false, .br 13 68 false, .br 13 68 false, .br 13 68 false, .br 13 77 false, .br 13 76 false, .br 13 48 false, .br 13 48 false, .br 13 48 false, .br 13 57 false, .br 13 58 false, .br 13 58 false, .br 13 58 false, .br 13 67 false, .br 13 68 false, .br 13 68 false, .br 13 68 false, .br 13 77 false, .br 13 76 false, .br 13 48 true, .br 13 48 true, .br 13 48 true, .br 13 57 true]) (os' := []) (by kernel_rfl) (ObsOK.cond h0 (ObsOK.cond h0 (ObsOK.cond h0 (ObsOK.cond h0 (ObsOK.cond h1 (ObsOK.cond h1 (ObsOK.cond h1 (ObsOK.cond h1 (ObsOK.cond h2 (ObsOK.cond h2 (ObsOK.cond h2 (ObsOK.cond h2 (ObsOK.cond h3 (ObsOK.cond h4 (ObsOK.cond h4 (ObsOK.cond h4 (ObsOK.cond h4 (ObsOK.cond h5 (ObsOK.cond h5 (ObsOK.cond h5 (ObsOK.cond h5 (ObsOK.cond h6 (ObsOK.cond h6 (ObsOK.cond h6 (ObsOK.cond h6 (ObsOK.cond h7 (ObsOK.cond h8 (ObsOK.cond h8 (ObsOK.cond h8 (ObsOK.cond h8 (ObsOK.nil)))))))))))))))))))))))))))))))
theorem lb_p9 (x0 : Int) (x1 : Int) (x2 : Int) (x3 : Int) (x4 : Int) (x5 : Int) (x6 : Int) (x7 : Int) (h0 : lb_c0 x0 x1 x2 x3 x4 x5 x6 x7 = false) (h1 : lb_c1 x0 x1 x2 x3 x4 x5 x6 x7 = false) (h2 : lb_c2 x0 x1 x2 x3 x4 x5 x6 x7 = false) (h3 : lb_c3 x0 x1 x2 x3 x4 x5 x6 x7 = false) (h4 : lb_c4 x0 x1 x2 x3 x4 x5 x6 x7 = false) (h5 : lb_c5 x0 x1 x2 x3 x4 x5 x6 x7 = false) (h6 : lb_c6 x0 x1 x2 x3 x4 x5 x6 x7 = false) (h7 : lb_c7 x0 x1 x2 x3 x4 x5 x6 x7 = false) (h8 : lb_c8 x0 x1 x2 x3 x4 x5 x6 x7 = false) (h9 : lb_c9 x0 x1 x2 x3 x4 x5 x6 x7 = true) : Gives Tryz.prog envL 0 13 [(.agg #[(.int .i64 (x0)), (.int .i64 (x1)), (.int .i64 (x2)), (.int .i64 (x3)), (.int .i64 (x4)), (.int .i64 (x5)), (.int .i64 (x6)), (.int .i64 (x7))])] heap0 ((.bool true), heap0) :=
  Gives.by (n := 1000) (os := [.br 13 48 false, .br 13 48 false, .br 13 48 false, .br 13 57 false, .br 13 58 false, .br 13 58 false, .br 13 58 false, .br 13 67 false, .br 13 68 false, .br 13 68 false, .br 13 68 false, .br 13 77 false, .br 13 76 false, .br 13 48 false, .br 13 48 false, .br 13 48 false, .br 13 57 false, .br 13 58 false, .br 13 58 false, .br 13 58 false, .br 13 67 false, .br 13 68 false, .br 13 68 false, .br 13 68 false, .br 13 77 false, .br 13 76 false, .br 13 48 false, .br 13 48 false, .br 13 48 false, .br 13 57 false, .br 13 58 true, .br 13 58 true, .br 13 58 true, .br 13 67 true]) (os' := []) (by kernel_rfl) (ObsOK.cond h0 (ObsOK.cond h0 (ObsOK.cond h0 (ObsOK.cond h0 (ObsOK.cond h1 (ObsOK.cond h1 (ObsOK.cond h1 (ObsOK.cond h1 (ObsOK.cond h2 (ObsOK.cond h2 (ObsOK.cond h2 (ObsOK.cond h2 (ObsOK.cond h3 (ObsOK.cond h4 (ObsOK.cond h4 (ObsOK.cond h4 (ObsOK.cond h4 (ObsOK.cond h5 (ObsOK.cond h5 (ObsOK.cond h5 (ObsOK.cond h5 (ObsOK.cond h6 (ObsOK.cond h6 (ObsOK.cond h6 (ObsOK.cond h6 (ObsOK.cond h7 (ObsOK.cond h8 (ObsOK.cond h8 (ObsOK.cond h8 (ObsOK.cond h8 (ObsOK.cond h9 (ObsOK.cond h9 (ObsOK.cond h9 (ObsOK.cond h9 (ObsOK.nil)))))))))))))))))))))))))))))))))))
theorem lb_p10 (x0 : Int) (x1 : Int) (x2 : Int) (x3 : Int) (x4 : Int) (x5 : Int) (x6 : Int) (x7 : Int) (h0 : lb_c0 x0 x1 x2 x3 x4 x5 x6 x7 = false) (h1 : lb_c1 x0 x1 x2 x3 x4 x5 x6 x7 = false) (h2 : lb_c2 x0 x1 x2 x3 x4 x5 x6 x7 = false) (h3 : lb_c3 x0 x1 x2 x3 x4 x5 x6 x7 = false) (h4 : lb_c4 x0 x1 x2 x3 x4 x5 x6 x7 = false) (h5 : lb_c5 x0 x1 x2 x3 x4 x5 x6 x7 = false) (h6 : lb_c6 x0 x1 x2 x3 x4 x5 x6 x7 = false) (h7 : lb_c7 x0 x1 x2 x3 x4 x5 x6 x7 = false) (h8 : lb_c8 x0 x1 x2 x3 x4 x5 x6 x7 = false) (h9 : lb_c9 x0 x1 x2 x3 x4 x5 x6 x7 = false) (h10 : lb_c10 x0 x1 x2 x3 x4 x5 x6 x7 = true) : Gives Tryz.prog envL 0 13 [(.agg #[(.int .i64 (x0)), (.int .i64 (x1)), (.int .i64 (x2)), (.int .i64 (x3)), (.int .i64 (x4)), (.int .i64 (x5)), (.int .i64 (x6)), (.int .i64 (x7))])] heap0 ((.bool true), heap0) :=
  Gives.by (n := 1000) (os := [.br 13 48 false, .br 13 48 false, .br 13 48 false, .br 13 57 false, .br 13 58 false, .br 13 58 false, .br 13 58 false, .br 13 67 false, .br 13 68 false, .br 13 68 false, .br 13 68 false, .br 13 77 false, .br 13 76 false, .br 13 48 false, .br 13 48 false, .br 13 48 false, .br 13 57 false, .br 13 58 false, .br 13 58 false, .br 13 58 false, .br 13 67 false, .br 13 68 false, .br 13 68 false, .br 13 68 false, .br 13 77 false, .br 13 76 false, .br 13 48 false, .br 13 48 false, .br 13 48 false, .br 13 57 false, .br 13 58 false, .br 13 58 false, .br 13 58 false, .br 13 67 false, .br 13 68 true, .br 13 68 true, .br 13 68 true, .br 13 77 true]) (os' := []) (by kernel_rfl) (ObsOK.cond h0 (ObsOK.cond h0 (ObsOK.cond h0 (ObsOK.cond h0 (ObsOK.cond h1 (ObsOK.cond h1 (ObsOK.cond h1 (ObsOK.cond h1 (ObsOK.cond h2 (ObsOK.cond h2 (ObsOK.cond h2 (ObsOK.cond h2 (ObsOK.cond h3 (ObsOK.cond h4 (ObsOK.cond h4 (ObsOK.cond h4 (ObsOK.cond h4 (ObsOK.cond h5 (ObsOK.cond h5 (ObsOK.cond h5 (ObsOK.cond h5 (ObsOK.cond h6 (ObsOK.cond h6 (ObsOK.cond h6 (ObsOK.cond h6 (ObsOK.cond h7 (ObsOK.cond h8 (ObsOK.cond h8 (ObsOK.cond h8 (ObsOK.cond h8 (ObsOK.cond h9 (ObsOK.cond h9 (ObsOK.cond h9 (ObsOK.cond h9 (ObsOK.cond h10 (ObsOK.cond h10 (ObsOK.cond h10 (ObsOK.cond h10 (ObsOK.nil)))))))))))))))))))))))))))))))))))))))
theorem lb_p11 (x0 : Int) (x1 : Int) (x2 : Int) (x3 : Int) (x4 : Int) (x5 : Int) (x6 : Int) (x7 : Int) (h0 : lb_c0 x0 x1 x2 x3 x4 x5 x6 x7 = false) (h1 : lb_c1 x0 x1 x2 x3 x4 x5 x6 x7 = false) (h2 : lb_c2 x0 x1 x2 x3 x4 x5 x6 x7 = false) (h3 : lb_c3 x0 x1 x2 x3 x4 x5 x6 x7 = false) (h4 : lb_c4 x0 x1 x2 x3 x4 x5 x6 x7 = false) (h5 : lb_c5 x0 x1 x2 x3 x4 x5 x6 x7 = false) (h6 : lb_c6 x0 x1 x2 x3 x4 x5 x6 x7 = false) (h7 : lb_c7 x0 x1 x2 x3 x4 x5 x6 x7 = false) (h8 : lb_c8 x0 x1 x2 x3 x4 x5 x6 x7 = false) (h9 : lb_c9 x0 x1 x2 x3 x4 x5 x6 x7 = false) (h10 : lb_c10 x0 x1 x2 x3 x4 x5 x6 x7 = false) (h11 : lb_c11 x0 x1 x2 x3 x4 x5 x6 x7 = true) : Gives Tryz.prog envL 0 13 [(.agg #[(.int .i64 (x0)), (.int .i64 (x1)), (.int .i64 (x2)), (.int .i64 (x3)), (.int .i64 (x4)), (.int .i64 (x5)), (.int .i64 (x6)), (.int .i64 (x7))])] heap0 ((.bool true), heap0) :=
  Gives.by (n := 1000) (os := [.br 13 48 false, .br 13 48 false, .br 13 48 false, .br 13 57 false, .br 13 58 false, .br 13 58 false, .br 13 58 false, .br 13 67 false, .br 13 68 false, .br 13 68 false, .br 13 68 false, .br 13 77 false, .br 13 76 false, .br 13 48 false, .br 13 48 false, .br 13 48 false, .br 13 57 false, .br 13 58 false, .br 13 58 false, .br 13 58 false, .br 13 67 false, .br 13 68 false, .br 13 68 false, .br 13 68 false, .br 13 77 false, .br 13 76 false, .br 13 48 false, .br 13 48 false, .br 13 48 false, .br 13 57 false, .br 13 58 false, .br 13 58 false, .br 13 58 false, .br 13 67 false, .br 13 68 false, .br 13 68 false, .br 13 68 false, .br 13 77 false, .br 13 76 true]) (os' := []) (by kernel_rfl) (ObsOK.cond h0 (ObsOK.cond h0 (ObsOK.cond h0 (ObsOK.cond h0 (ObsOK.cond h1 (ObsOK.cond h1 (ObsOK.cond h1 (ObsOK.cond h1 (ObsOK.cond h2 (ObsOK.cond h2 (ObsOK.cond h2 (ObsOK.cond h2 (ObsOK.cond h3 (ObsOK.cond h4 (ObsOK.cond h4 (ObsOK.cond h4 (ObsOK.cond h4 (ObsOK.cond h5 (ObsOK.cond h5 (ObsOK.cond h5 (ObsOK.cond h5 (ObsOK.cond h6 (ObsOK.cond h6 (ObsOK.cond h6 (ObsOK.cond h6 (ObsOK.cond h7 (ObsOK.cond h8 (ObsOK.cond h8 (ObsOK.cond h8 (ObsOK.cond h8 (ObsOK.cond h9 (ObsOK.cond h9 (ObsOK.cond h9 (ObsOK.cond h9 (ObsOK.cond h10 (ObsOK.cond h10 (ObsOK.cond h10 (ObsOK.cond h10 (ObsOK.cond h11 (ObsOK.nil))))))))))))))))))))))))))))))))))))))))
theorem lb_p12 (x0 : Int) (x1 : Int) (x2 : Int) (x3 : Int) (x4 : Int) (x5 : Int) (x6 : Int) (x7 : Int) (h0 : lb_c0 x0 x1 x2 x3 x4 x5 x6 x7 = false) (h1 : lb_c1 x0 x1 x2 x3 x4 x5 x6 x7 = false) (h2 : lb_c2 x0 x1 x2 x3 x4 x5 x6 x7 = false) (h3 : lb_c3 x0 x1 x2 x3 x4 x5 x6 x7 = false) (h4 : lb_c4 x0 x1 x2 x3 x4 x5 x6 x7 = false) (h5 : lb_c5 x0 x1 x2 x3 x4 x5 x6 x7 = false) (h6 : lb_c6 x0 x1 x2 x3 x4 x5 x6 x7 = false) (h7 : lb_c7 x0 x1 x2 x3 x4 x5 x6 x7 = false) (h8 : lb_c8 x0 x1 x2 x3 x4 x5 x6 x7 = false) (h9 : lb_c9 x0 x1 x2 x3 x4 x5 x6 x7 = false) (h10 : lb_c10 x0 x1 x2 x3 x4 x5 x6 x7 = false) (h11 : lb_c11 x0 x1 x2 x3 x4 x5 x6 x7 = false) (h12 : lb_c12 x0 x1 x2 x3 x4 x5 x6 x7 = true) : Gives Tryz.prog envL 0 13 [(.agg #[(.int .i64 (x0)), (.int .i64 (x1)), (.int .i64 (x2)), (.int .i64 (x3)), (.int .i64 (x4)), (.int .i64 (x5)), (.int .i64 (x6)), (.int .i64 (x7))])] heap0 ((.bool true), heap0) :=
  Gives.by (n := 1000) (os := [.br 13 48 false, .br 13 48 false, .br 13 48 false, .br 13 57 false, .br 13 58 false, .br 13 58 false, .br 13 58 false, .br 13 67 false, .br 13 68 false, .br 13 68 false, .br 13 68 false, .br 13 77 false, .br 13 76 false, .br 13 48 false, .br 13 48 false, .br 13 48 false, .br 13 57 false, .br 13 58 false, .br 13 58 false, .br 13 58 false, .br 13 67 false, .br 13 68 false, .br 13 68 false, .br 13 68 false, .br 13 77 false, .br 13 76 false, .br 13 48 false, .br 13 48 false, .br 13 48 false, .br 13 57 false, .br 13 58 false, .br 13 58 false, .br 13 58 false, .br 13 67 false, .br 13 68 false, .br 13 68 false, .br 13 68 false, .br 13 77 false, .br 13 76 false, .br 13 48 true, .br 13 48 true, .br 13 48 true, .br 13 57 true]) (os' := []) (by kernel_rfl) (ObsOK.cond h0 (ObsOK.cond h0 (ObsOK.cond h0 (ObsOK.cond h0 (ObsOK.cond h1 (ObsOK.cond h1 (ObsOK.cond h1 (ObsOK.cond h1 (ObsOK.cond h2 (ObsOK.cond h2 (ObsOK.cond h2 (ObsOK.cond h2 (ObsOK.cond h3 (ObsOK.cond h4 (ObsOK.cond h4 (ObsOK.cond h4 (ObsOK.cond h4 (ObsOK.cond h5 (ObsOK.cond h5 (ObsOK.cond h5 (ObsOK.cond h5 (ObsOK.cond h6 (ObsOK.cond h6 (ObsOK.cond h6 (ObsOK.cond h6 (ObsOK.cond h7 (ObsOK.cond h8 (ObsOK.cond h8 (ObsOK.cond h8 (ObsOK.cond h8 (ObsOK.cond h9 (ObsOK.cond h9 (ObsOK.cond h9 (ObsOK.cond h9 (ObsOK.cond h10 (ObsOK.cond h10 (ObsOK.cond h10 (ObsOK.cond h10 (ObsOK.cond h11 (ObsOK.cond h12 (ObsOK.cond h12 (ObsOK.cond h12 (ObsOK.cond h12 (ObsOK.nil))))))))))))))))))))))))))))))))))))))))))))
theorem lb_p13 (x0 : Int) (x1 : Int) (x2 : Int) (x3 : Int) (x4 : Int) (x5 : Int) (x6 : Int) (x7 : Int) (h0 : lb_c0 x0 x1 x2 x3 x4 x5 x6 x7 = false) (h1 : lb_c1 x0 x1 x2 x3 x4 x5 x6 x7 = false) (h2 : lb_c2 x0 x1 x2 x3 x4 x5 x6 x7 = false) (h3 : lb_c3 x0 x1 x2 x3 x4 x5 x6 x7 = false) (h4 : lb_c4 x0 x1 x2 x3 x4 x5 x6 x7 = false) (h5 : lb_c5 x0 x1 x2 x3 x4 x5 x6 x7 = false) (h6 : lb_c6 x0 x1 x2 x3 x4 x5 x6 x7 = false) (h7 : lb_c7 x0 x1 x2 x3 x4 x5 x6 x7 = false) (h8 : lb_c8 x0 x1 x2 x3 x4 x5 x6 x7 = false) (h9 : lb_c9 x0 x1 x2 x3 x4 x5 x6 x7 = false) (h10 : lb_c10 x0 x1 x2 x3 x4 x5 x6 x7 = false) (h11 : lb_c11 x0 x1 x2 x3 x4 x5 x6 x7 = false) (h12 : lb_c12 x0 x1 x2 x3 x4 x5 x6 x7 = false) (h13 : lb_c13 x0 x1 x2 x3 x4 x5 x6 x7 = true) : Gives Tryz.prog envL 0 13 [(.agg #[(.int .i64 (x0)), (.int .i64 (x1)), (.int .i64 (x2)), (.int .i64 (x3)), (.int .i64 (x4)), (.int .i64 (x5)), (.int .i64 (x6)), (.int .i64 (x7))])] heap0 ((.bool true), heap0) :=
  Gives.by (n := 1000) (os := [.br 13 48 false, .br 13 48 false, .br 13 48 false, .br 13 57 false, .br 13 58 false, .br 13 58 false, .br 13 58 false, .br 13 67 false, .br 13 68 false, .br 13 68 false, .br 13 68 false, .br 13 77 false, .br 13 76 false, .br 13 48 false, .br 13 48 false, .br 13 48 false, .br 13 57 false, .br 13 58 false, .br 13 58 false, .br 13 58 false, .br 13 67 false, .br 13 68 false, .br 13 68 false, .br 13 68 false, .br 13 77 false, .br 13 76 false, .br 13 48 false, .br 13 48 false, .br 13 48 false, .br 13 57 false, .br 13 58 false, .br 13 58 false, .br 13 58 false, .br 13 67 false, .br 13 68 false, .br 13 68 false, .br 13 68 false, .br 13 77 false, .br 13 76 false, .br 13 48 false, .br 13 48 false, .br 13 48 false, .br 13 57 false, .br 13 58 true, .br 13 58 true, .br 13 58 true, .br 13 67 true]) (os' := []) (by kernel_rfl) (ObsOK.cond h0 (ObsOK.cond h0 (ObsOK.cond h0 (ObsOK.cond h0 (ObsOK.cond h1 (ObsOK.cond h1 (ObsOK.cond h1 (ObsOK.cond h1 (ObsOK.cond h2 (ObsOK.cond h2 (ObsOK.cond h2 (ObsOK.cond h2 (ObsOK.cond h3 (ObsOK.cond h4 (ObsOK.cond h4 (ObsOK.cond h4 (ObsOK.cond h4 (ObsOK.cond h5 (ObsOK.cond h5 (ObsOK.cond h5 (ObsOK.cond h5 (ObsOK.cond h6 (ObsOK.cond h6 (ObsOK.cond h6 (ObsOK.cond h6 (ObsOK.cond h7 (ObsOK.cond h8 (ObsOK.cond h8 (ObsOK.cond h8 (ObsOK.cond h8 (ObsOK.cond h9 (ObsOK.cond h9 (ObsOK.cond h9 (ObsOK.cond h9 (ObsOK.cond h10 (ObsOK.cond h10 (ObsOK.cond h10 (ObsOK.cond h10 (ObsOK.cond h11 (ObsOK.cond h12 (ObsOK.cond h12 (ObsOK.cond h12 (ObsOK.cond h12 (ObsOK.cond h13 (ObsOK.cond h13 (ObsOK.cond h13 (ObsOK.cond h13 (ObsOK.nil))))))))))))))))))))))))))))))))))))))))))))))))
theorem lb_p14 (x0 : Int) (x1 : Int) (x2 : Int) (x3 : Int) (x4 : Int) (x5 : Int) (x6 : Int) (x7 : Int) (h0 : lb_c0 x0 x1 x2 x3 x4 x5 x6 x7 = false) (h1 : lb_c1 x0 x1 x2 x3 x4 x5 x6 x7 = false) (h2 : lb_c2 x0 x1 x2 x3 x4 x5 x6 x7 = false) (h3 : lb_c3 x0 x1 x2 x3 x4 x5 x6 x7 = false) (h4 : lb_c4 x0 x1 x2 x3 x4 x5 x6 x7 = false) (h5 : lb_c5 x0 x1 x2 x3 x4 x5 x6 x7 = false) (h6 : lb_c6 x0 x1 x2 x3 x4 x5 x6 x7 = false) (h7 : lb_c7 x0 x1 x2 x3 x4 x5 x6 x7 = false) (h8 : lb_c8 x0 x1 x2 x3 x4 x5 x6 x7 = false) (h9 : lb_c9 x0 x1 x2 x3 x4 x5 x6 x7 = false) (h10 : lb_c10 x0 x1 x2 x3 x4 x5 x6 x7 = false) (h11 : lb_c11 x0 x1 x2 x3 x4 x5 x6 x7 = false) (h12 : lb_c12 x0 x1 x2 x3 x4 x5 x6 x7 = false) (h13 : lb_c13 x0 x1 x2 x3 x4 x5 x6 x7 = false) (h14 : lb_c14 x0 x1 x2 x3 x4 x5 x6 x7 = true) : Gives Tryz.prog envL 0 13 [(.agg #[(.int .i64 (x0)), (.int .i64 (x1)), (.int .i64 (x2)), (.int .i64 (x3)), (.int .i64 (x4)), (.int .i64 (x5)), (.int .i64 (x6)), (.int .i64 (x7))])] heap0 ((.bool true), heap0) :=
  Gives.by (n := 1000) (os := [.br 13 48 false, .br 13 48 false, .br 13 48 false, .br 13 57 false, .br 13 58 false, .br 13 58 false, .br 13 58 false, .br 13 67 false, .br 13 68 false, .br 13 68 false, .br 13 68 false, .br 13 77 false, .br 13 76 false, .br 13 48 false, .br 13 48 false, .br 13 48 false, .br 13 57 false, .br 13 58 false, .br 13 58 false, .br 13 58 false, .br 13 67 false, .br 13 68 false, .br 13 68 false, .br 13 68 false, .br 13 77 false, .br 13 76 false, .br 13 48 false, .br 13 48 false, .br 13 48 false, .br 13 57 false, .br 13 58 false, .br 13 58 false, .br 13 58 false, .br 13 67 false, .br 13 68 false, .br 13 68 false, .br 13 68 false, .br 13 77 false, .br 13 76 false, .br 13 48 false, .br 13 48 false, .br 13 48 false, .br 13 57 false, .br 13 58 false, .br 13 58 false, .br 13 58 false, .br 13 67 false, .br 13 68 true, .br 13 68 true, .br 13 68 true, .br 13 77 true]) (os' := []) (by kernel_rfl) (ObsOK.cond h0 (ObsOK.cond h0 (ObsOK.cond h0 (ObsOK.cond h0 (ObsOK.cond h1 (ObsOK.cond h1 (ObsOK.cond h1 (ObsOK.cond h1 (ObsOK.cond h2 (ObsOK.cond h2 (ObsOK.cond h2 (ObsOK.cond h2 (ObsOK.cond h3 (ObsOK.cond h4 (ObsOK.cond h4 (ObsOK.cond h4 (ObsOK.cond h4 (ObsOK.cond h5 (ObsOK.cond h5 (ObsOK.cond h5 (ObsOK.cond h5 (ObsOK.cond h6 (ObsOK.cond h6 (ObsOK.cond h6 (ObsOK.cond h6 (ObsOK.cond h7 (ObsOK.cond h8 (ObsOK.cond h8 (ObsOK.cond h8 (ObsOK.cond h8 (ObsOK.cond h9 (ObsOK.cond h9 (ObsOK.cond h9 (ObsOK.cond h9 (ObsOK.cond h10 (ObsOK.cond h10 (ObsOK.cond h10 (ObsOK.cond h10 (ObsOK.cond h11 (ObsOK.cond h12 (ObsOK.cond h12 (ObsOK.cond h12 (ObsOK.cond h12 (ObsOK.cond h13 (ObsOK.cond h13 (ObsOK.cond h13 (ObsOK.cond h13 (ObsOK.cond h14 (ObsOK.cond h14 (ObsOK.cond h14 (ObsOK.cond h14 (ObsOK.nil))))))))))))))))))))))))))))))))))))))))))))))))))))
theorem lb_p15 (x0 : Int) (x1 : Int) (x2 : Int) (x3 : Int) (x4 : Int) (x5 : Int) (x6 : Int) (x7 : Int) (h0 : lb_c0 x0 x1 x2 x3 x4 x5 x6 x7 = false) (h1 : lb_c1 x0 x1 x2 x3 x4 x5 x6 x7 = false) (h2 : lb_c2 x0 x1 x2 x3 x4 x5 x6 x7 = false) (h3 : lb_c3 x0 x1 x2 x3 x4 x5 x6 x7 = false) (h4 : lb_c4 x0 x1 x2 x3 x4 x5 x6 x7 = false) (h5 : lb_c5 x0 x1 x2 x3 x4 x5 x6 x7 = false) (h6 : lb_c6 x0 x1 x2 x3 x4 x5 x6 x7 = false) (h7 : lb_c7 x0 x1 x2 x3 x4 x5 x6 x7 = false) (h8 : lb_c8 x0 x1 x2 x3 x4 x5 x6 x7 = false) (h9 : lb_c9 x0 x1 x2 x3 x4 x5 x6 x7 = false) (h10 : lb_c10 x0 x1 x2 x3 x4 x5 x6 x7 = false) (h11 : lb_c11 x0 x1 x2 x3 x4 x5 x6 x7 = false) (h12 : lb_c12 x0 x1 x2 x3 x4 x5 x6 x7 = false) (h13 : lb_c13 x0 x1 x2 x3 x4 x5 x6 x7 = false) (h14 : lb_c14 x0 x1 x2 x3 x4 x5 x6 x7 = false) (h15 : lb_c15 x0 x1 x2 x3 x4 x5 x6 x7 = true) : Gives Tryz.prog envL 0 13 [(.agg #[(.int .i64 (x0)), (.int .i64 (x1)), (.int .i64 (x2)), (.int .i64 (x3)), (.int .i64 (x4)), (.int .i64 (x5)), (.int .i64 (x6)), (.int .i64 (x7))])] heap0 ((.bool true), heap0) :=
  Gives.by (n := 1000) (os := [.br 13 48 false, .br 13 48 false, .br 13 48 false, .br 13 57 false, .br 13 58 false, .br 13 58 false, .br 13 58 false, .br 13 67 false, .br 13 68 false, .br 13 68 false, .br 13 68 false, .br 13 77 false, .br 13 76 false, .br 13 48 false, .br 13 48 false, .br 13 48 false, .br 13 57 false, .br 13 58 false, .br 13 58 false, .br 13 58 false, .br 13 67 false, .br 13 68 false, .br 13 68 false, .br 13 68 false, .br 13 77 false, .br 13 76 false, .br 13 48 false, .br 13 48 false, .br 13 48 false, .br 13 57 false, .br 13 58 false, .br 13 58 false, .br 13 58 false, .br 13 67 false, .br 13 68 false, .br 13 68 false, .br 13 68 false, .br 13 77 false, .br 13 76 false, .br 13 48 false, .br 13 48 false, .br 13 48 false, .br 13 57 false, .br 13 58 false, .br 13 58 false, .br 13 58 false, .br 13 67 false, .br 13 68 false, .br 13 68 false, .br 13 68 false, .br 13 77 false, .br 13 76 true]) (os' := []) (by kernel_rfl) (ObsOK.cond h0 (ObsOK.cond h0 (ObsOK.cond h0 (ObsOK.cond h0 (ObsOK.cond h1 (ObsOK.cond h1 (ObsOK.cond h1 (ObsOK.cond h1 (ObsOK.cond h2 (ObsOK.cond h2 (ObsOK.cond h2 (ObsOK.cond h2 (ObsOK.cond h3 (ObsOK.cond h4 (ObsOK.cond h4 (ObsOK.cond h4 (ObsOK.cond h4 (ObsOK.cond h5 (ObsOK.cond h5 (ObsOK.cond h5 (ObsOK.cond h5 (ObsOK.cond h6 (ObsOK.cond h6 (ObsOK.cond h6 (ObsOK.cond h6 (ObsOK.cond h7 (ObsOK.cond h8 (ObsOK.cond h8 (ObsOK.cond h8 (ObsOK.cond h8 (ObsOK.cond h9 (ObsOK.cond h9 (ObsOK.cond h9 (ObsOK.cond h9 (ObsOK.cond h10 (ObsOK.cond h10 (ObsOK.cond h10 (ObsOK.cond h10 (ObsOK.cond h11 (ObsOK.cond h12 (ObsOK.cond h12 (ObsOK.cond h12 (ObsOK.cond h12 (ObsOK.cond h13 (ObsOK.cond h13 (ObsOK.cond h13 (ObsOK.cond h13 (ObsOK.cond h14 (ObsOK.cond h14 (ObsOK.cond h14 (ObsOK.cond h14 (ObsOK.cond h15 (ObsOK.nil)))))))))))))))))))))))))))))))))))))))))))))))))))))
theorem lb_p16 (x0 : Int) (x1 : Int) (x2 : Int) (x3 : Int) (x4 : Int) (x5 : Int) (x6 : Int) (x7 : Int) (h0 : lb_c0 x0 x1 x2 x3 x4 x5 x6 x7 = false) (h1 : lb_c1 x0 x1 x2 x3 x4 x5 x6 x7 = false) (h2 : lb_c2 x0 x1 x2 x3 x4 x5 x6 x7 = false) (h3 : lb_c3 x0 x1 x2 x3 x4 x5 x6 x7 = false) (h4 : lb_c4 x0 x1 x2 x3 x4 x5 x6 x7 = false) (h5 : lb_c5 x0 x1 x2 x3 x4 x5 x6 x7 = false) (h6 : lb_c6 x0 x1 x2 x3 x4 x5 x6 x7 = false) (h7 : lb_c7 x0 x1 x2 x3 x4 x5 x6 x7 = false) (h8 : lb_c8 x0 x1 x2 x3 x4 x5 x6 x7 = false) (h9 : lb_c9 x0 x1 x2 x3 x4 x5 x6 x7 = false) (h10 : lb_c10 x0 x1 x2 x3 x4 x5 x6 x7 = false) (h11 : lb_c11 x0 x1 x2 x3 x4 x5 x6 x7 = false) (h12 : lb_c12 x0 x1 x2 x3 x4 x5 x6 x7 = false) (h13 : lb_c13 x0 x1 x2 x3 x4 x5 x6 x7 = false) (h14 : lb_c14 x0 x1 x2 x3 x4 x5 x6 x7 = false) (h15 : lb_c15 x0 x1 x2 x3 x4 x5 x6 x7 = false) (h16 : lb_c16 x0 x1 x2 x3 x4 x5 x6 x7 = true) : Gives Tryz.prog envL 0 13 [(.agg #[(.int .i64 (x0)), (.int .i64 (x1)), (.int .i64 (x2)), (.int .i64 (x3)), (.int .i64 (x4)), (.int .i64 (x5)), (.int .i64 (x6)), (.int .i64 (x7))])] heap0 ((.bool false), heap0) :=
  Gives.by (n := 1000) (os := [.br 13 48 false, .br 13 48 false, .br 13 48 false, .br 13 57 false, .br 13 58 false, .br 13 58 false, .br 13 58 false, .br 13 67 false, .br 13 68 false, .br 13 68 false, .br 13 68 false, .br 13 77 false, .br 13 76 false, .br 13 48 false, .br 13 48 false, .br 13 48 false, .br 13 57 false, .br 13 58 false, .br 13 58 false, .br 13 58 false, .br 13 67 false, .br 13 68 false, .br 13 68 false, .br 13 68 false, .br 13 77 false, .br 13 76 false, .br 13 48 false, .br 13 48 false, .br 13 48 false, .br 13 57 false, .br 13 58 false, .br 13 58 false, .br 13 58 false, .br 13 67 false, .br 13 68 false, .br 13 68 false, .br 13 68 false, .br 13 77 false, .br 13 76 false, .br 13 48 false, .br 13 48 false, .br 13 48 false, .br 13 57 false, .br 13 58 false, .br 13 58 false, .br 13 58 false, .br 13 67 false, .br 13 68 false, .br 13 68 false, .br 13 68 false, .br 13 77 false, .br 13 76 false, .br 13 138 true, .br 13 138 true, .br 13 145 true]) (os' := []) (by kernel_rfl) (ObsOK.cond h0 (ObsOK.cond h0 (ObsOK.cond h0 (ObsOK.cond h0 (ObsOK.cond h1 (ObsOK.cond h1 (ObsOK.cond h1 (ObsOK.cond h1 (ObsOK.cond h2 (ObsOK.cond h2 (ObsOK.cond h2 (ObsOK.cond h2 (ObsOK.cond h3 (ObsOK.cond h4 (ObsOK.cond h4 (ObsOK.cond h4 (ObsOK.cond h4 (ObsOK.cond h5 (ObsOK.cond h5 (ObsOK.cond h5 (ObsOK.cond h5 (ObsOK.cond h6 (ObsOK.cond h6 (ObsOK.cond h6 (ObsOK.cond h6 (ObsOK.cond h7 (ObsOK.cond h8 (ObsOK.cond h8 (ObsOK.cond h8 (ObsOK.cond h8 (ObsOK.cond h9 (ObsOK.cond h9 (ObsOK.cond h9 (ObsOK.cond h9 (ObsOK.cond h10 (ObsOK.cond h10 (ObsOK.cond h10 (ObsOK.cond h10 (ObsOK.cond h11 (ObsOK.cond h12 (ObsOK.cond h12 (ObsOK.cond h12 (ObsOK.cond h12 (ObsOK.cond h13 (ObsOK.cond h13 (ObsOK.cond h13 (ObsOK.cond h13 (ObsOK.cond h14 (ObsOK.cond h14 (ObsOK.cond h14 (ObsOK.cond h14 (ObsOK.cond h15 (ObsOK.cond h16 (ObsOK.cond h16 (ObsOK.cond h16 (ObsOK.nil))))))))))))))))))))))))))))))))))))))))))))))))))))))))
theorem lb_p17 (x0 : Int) (x1 : Int) (x2 : Int) (x3 : Int) (x4 : Int) (x5 : Int) (x6 : Int) (x7 : Int) (h0 : lb_c0 x0 x1 x2 x3 x4 x5 x6 x7 = false) (h1 : lb_c1 x0 x1 x2 x3 x4 x5 x6 x7 = false) (h2 : lb_c2 x0 x1 x2 x3 x4 x5 x6 x7 = false) (h3 : lb_c3 x0 x1 x2 x3 x4 x5 x6 x7 = false) (h4 : lb_c4 x0 x1 x2 x3 x4 x5 x6 x7 = false) (h5 : lb_c5 x0 x1 x2 x3 x4 x5 x6 x7 = false) (h6 : lb_c6 x0 x1 x2 x3 x4 x5 x6 x7 = false) (h7 : lb_c7 x0 x1 x2 x3 x4 x5 x6 x7 = false) (h8 : lb_c8 x0 x1 x2 x3 x4 x5 x6 x7 = false) (h9 : lb_c9 x0 x1 x2 x3 x4 x5 x6 x7 = false) (h10 : lb_c10 x0 x1 x2 x3 x4 x5 x6 x7 = false) (h11 : lb_c11 x0 x1 x2 x3 x4 x5 x6 x7 = false) (h12 : lb_c12 x0 x1 x2 x3 x4 x5 x6 x7 = false) (h13 : lb_c13 x0 x1 x2 x3 x4 x5 x6 x7 = false) (h14 : lb_c14 x0 x1 x2 x3 x4 x5 x6 x7 = false) (h15 : lb_c15 x0 x1 x2 x3 x4 x5 x6 x7 = false) (h16 : lb_c16 x0 x1 x2 x3 x4 x5 x6 x7 = false) (h17 : lb_c17 x0 x1 x2 x3 x4 x5 x6 x7 = true) : Gives Tryz.prog envL 0 13 [(.agg #[(.int .i64 (x0)), (.int .i64 (x1)), (.int .i64 (x2)), (.int .i64 (x3)), (.int .i64 (x4)), (.int .i64 (x5)), (.int .i64 (x6)), (.int .i64 (x7))])] heap0 ((.bool false), heap0) :=
  Gives.by (n := 1000) (os := [.br 13 48 false, .br 13 48 false, .br 13 48 false, .br 13 57 false, .br 13 58 false, .br 13 58 false, .br 13 58 false, .br 13 67 false, .br 13 68 false, .br 13 68 false, .br 13 68 false, .br 13 77 false, .br 13 76 false, .br 13 48 false, .br 13 48 false, .br 13 48 false, .br 13 57 false, .br 13 58 false, .br 13 58 false, .br 13 58 false, .br 13 67 false, .br 13 68 false, .br 13 68 false, .br 13 68 false, .br 13 77 false, .br 13 76 false, .br 13 48 false, .br 13 48 false, .br 13 48 false, .br 13 57 false, .br 13 58 false, .br 13 58 false, .br 13 58 false, .br 13 67 false, .br 13 68 false, .br 13 68 false, .br 13 68 false, .br 13 77 false, .br 13 76 false, .br 13 48 false, .br 13 48 false, .br 13 48 false, .br 13 57 false, .br 13 58 false, .br 13 58 false, .br 13 58 false, .br 13 67 false, .br 13 68 false, .br 13 68 false, .br 13 68 false, .br 13 77 false, .br 13 76 false, .br 13 138 false, .br 13 138 false, .br 13 145 false, .br 13 146 true, .br 13 146 true, .br 13 153 true]) (os' := []) (by kernel_rfl) (ObsOK.cond h0 (ObsOK.cond h0 (ObsOK.cond h0 (ObsOK.cond h0 (ObsOK.cond h1 (ObsOK.cond h1 (ObsOK.cond h1 (ObsOK.cond h1 (ObsOK.cond h2 (ObsOK.cond h2 (ObsOK.cond h2 (ObsOK.cond h2 (ObsOK.cond h3 (ObsOK.cond h4 (ObsOK.cond h4 (ObsOK.cond h4 (ObsOK.cond h4 (ObsOK.cond h5 (ObsOK.cond h5 (ObsOK.cond h5 (ObsOK.cond h5 (ObsOK.cond h6 (ObsOK.cond h6 (ObsOK.cond h6 (ObsOK.cond h6 (ObsOK.cond h7 (ObsOK.cond h8 (ObsOK.cond h8 (ObsOK.cond h8 (ObsOK.cond h8 (ObsOK.cond h9 (ObsOK.cond h9 (ObsOK.cond h9 (ObsOK.cond h9 (ObsOK.cond h10 (ObsOK.cond h10 (ObsOK.cond h10 (ObsOK.cond h10 (ObsOK.cond h11 (ObsOK.cond h12 (ObsOK.cond h12 (ObsOK.cond h12 (ObsOK.cond h12 (ObsOK.cond h13 (ObsOK.cond h13 (ObsOK.cond h13 (ObsOK.cond h13 (ObsOK.cond h14 (ObsOK.cond h14 (ObsOK.cond h14 (ObsOK.cond h14 (ObsOK.cond h15 (ObsOK.cond h16 (ObsOK.cond h16 (ObsOK.cond h16 (ObsOK.cond h17 (ObsOK.cond h17 (ObsOK.cond h17 (ObsOK.nil)))))))))))))))))))))))))))))))))))))))))))))))))))))))))))
theorem lb_p18 (x0 : Int) (x1 : Int) (x2 : Int) (x3 : Int) (x4 : Int) (x5 : Int) (x6 : Int) (x7 : Int) (h0 : lb_c0 x0 x1 x2 x3 x4 x5 x6 x7 = false) (h1 : lb_c1 x0 x1 x2 x3 x4 x5 x6 x7 = false) (h2 : lb_c2 x0 x1 x2 x3 x4 x5 x6 x7 = false) (h3 : lb_c3 x0 x1 x2 x3 x4 x5 x6 x7 = false) (h4 : lb_c4 x0 x1 x2 x3 x4 x5 x6 x7 = false) (h5 : lb_c5 x0 x1 x2 x3 x4 x5 x6 x7 = false) (h6 : lb_c6 x0 x1 x2 x3 x4 x5 x6 x7 = false) (h7 : lb_c7 x0 x1 x2 x3 x4 x5 x6 x7 = false) (h8 : lb_c8 x0 x1 x2 x3 x4 x5 x6 x7 = false) (h9 : lb_c9 x0 x1 x2 x3 x4 x5 x6 x7 = false) (h10 : lb_c10 x0 x1 x2 x3 x4 x5 x6 x7 = false) (h11 : lb_c11 x0 x1 x2 x3 x4 x5 x6 x7 = false) (h12 : lb_c12 x0 x1 x2 x3 x4 x5 x6 x7 = false) (h13 : lb_c13 x0 x1 x2 x3 x4 x5 x6 x7 = false) (h14 : lb_c14 x0 x1 x2 x3 x4 x5 x6 x7 = false) (h15 : lb_c15 x0 x1 x2 x3 x4 x5 x6 x7 = false) (h16 : lb_c16 x0 x1 x2 x3 x4 x5 x6 x7 = false) (h17 : lb_c17 x0 x1 x2 x3 x4 x5 x6 x7 = false) (h18 : lb_c18 x0 x1 x2 x3 x4 x5 x6 x7 = true) : Gives Tryz.prog envL 0 13 [(.agg #[(.int .i64 (x0)), (.int .i64 (x1)), (.int .i64 (x2)), (.int .i64 (x3)), (.int .i64 (x4)), (.int .i64 (x5)), (.int .i64 (x6)), (.int .i64 (x7))])] heap0 ((.bool false), heap0) :=
  Gives.by (n := 1000) (os := [.br 13 48 false, .br 13 48 false, .br 13 48 false, .br 13 57 false, .br 13 58 false, .br 13 58 false, .br 13 58 false, .br 13 67 false, .br 13 68 false, .br 13 68 false, .br 13 68 false, .br 13 77 false, .br 13 76 false, .br 13 48 false, .br 13 48 false, .br 13 48 false, .br 13 57 false, .br 13 58 false, .br 13 58 false, .br 13 58 false, .br 13 67 false, .br 13 68 false, .br 13 68 false, .br 13 68 false, .br 13 77 false, .br 13 76 false, .br 13 48 false, .br 13 48 false, .br 13 48 false, .br 13 57 false, .br 13 58 false, .br 13 58 false, .br 13 58 false, .br 13 67 false, .br 13 68 false, .br 13 68 false, .br 13 68 false, .br 13 77 false, .br 13 76 false, .br 13 48 false, .br 13 48 false, .br 13 48 false, .br 13 57 false, .br 13 58 false, .br 13 58 false, .br 13 58 false, .br 13 67 false, .br 13 68 false, .br 13 68 false, .br 13 68 false, .br 13 77 false, .br 13 76 false, .br 13 138 false, .br 13 138 false, .br 13 145 false, .br 13 146 false, .br 13 146 false, .br 13 153 false, .br 13 154 true, .br 13 154 true, .br 13 154 true, .br 13 163 true]) (os' := []) (by kernel_rfl) (ObsOK.cond h0 (ObsOK.cond h0 (ObsOK.cond h0 (ObsOK.cond h0 (ObsOK.cond h1 (ObsOK.cond h1 (ObsOK.cond h1 (ObsOK.cond h1 (ObsOK.cond h2 (ObsOK.cond h2 (ObsOK.cond h2 (ObsOK.cond h2 (ObsOK.cond h3 (ObsOK.cond h4 (ObsOK.cond h4 (ObsOK.cond h4 (ObsOK.cond h4 (ObsOK.cond h5 (ObsOK.cond h5 (ObsOK.cond h5 (ObsOK.cond h5 (ObsOK.cond h6 (ObsOK.cond h6 (ObsOK.cond h6 (ObsOK.cond h6 (ObsOK.cond h7 (ObsOK.cond h8 (ObsOK.cond h8 (ObsOK.cond h8 (ObsOK.cond h8 (ObsOK.cond h9 (ObsOK.cond h9 (ObsOK.cond h9 (ObsOK.cond h9 (ObsOK.cond h10 (ObsOK.cond h10 (ObsOK.cond h10 (ObsOK.cond h10 (ObsOK.cond h11 (ObsOK.cond h12 (ObsOK.cond h12 (ObsOK.cond h12 (ObsOK.cond h12 (ObsOK.cond h13 (ObsOK.cond h13 (ObsOK.cond h13 (ObsOK.cond h13 (ObsOK.cond h14 (ObsOK.cond h14 (ObsOK.cond h14 (ObsOK.cond h14 (ObsOK.cond h15 (ObsOK.cond h16 (ObsOK.cond h16 (ObsOK.cond h16 (ObsOK.cond h17 (ObsOK.cond h17 (ObsOK.cond h17 (ObsOK.cond h18 (ObsOK.cond h18 (ObsOK.cond h18 (ObsOK.cond h18 (ObsOK.nil)))))))))))))))))))))))))))))))))))))))))))))))))))))))))))))))
theorem lb_p19 (x0 : Int) (x1 : Int) (x2 : Int) (x3 : Int) (x4 : Int) (x5 : Int) (x6 : Int) (x7 : Int) (h0 : lb_c0 x0 x1 x2 x3 x4 x5 x6 x7 = false) (h1 : lb_c1 x0 x1 x2 x3 x4 x5 x6 x7 = false) (h2 : lb_c2 x0 x1 x2 x3 x4 x5 x6 x7 = false) (h3 : lb_c3 x0 x1 x2 x3 x4 x5 x6 x7 = false) (h4 : lb_c4 x0 x1 x2 x3 x4 x5 x6 x7 = false) (h5 : lb_c5 x0 x1 x2 x3 x4 x5 x6 x7 = false) (h6 : lb_c6 x0 x1 x2 x3 x4 x5 x6 x7 = false) (h7 : lb_c7 x0 x1 x2 x3 x4 x5 x6 x7 = false) (h8 : lb_c8 x0 x1 x2 x3 x4 x5 x6 x7 = false) (h9 : lb_c9 x0 x1 x2 x3 x4 x5 x6 x7 = false) (h10 : lb_c10 x0 x1 x2 x3 x4 x5 x6 x7 = false) (h11 : lb_c11 x0 x1 x2 x3 x4 x5 x6 x7 = false) (h12 : lb_c12 x0 x1 x2 x3 x4 x5 x6 x7 = false) (h13 : lb_c13 x0 x1 x2 x3 x4 x5 x6 x7 = false) (h14 : lb_c14 x0 x1 x2 x3 x4 x5 x6 x7 = false) (h15 : lb_c15 x0 x1 x2 x3 x4 x5 x6 x7 = false) (h16 : lb_c16 x0 x1 x2 x3 x4 x5 x6 x7 = false) (h17 : lb_c17 x0 x1 x2 x3 x4 x5 x6 x7 = false) (h18 : lb_c18 x0 x1 x2 x3 x4 x5 x6 x7 = false) (h19 : lb_c19 x0 x1 x2 x3 x4 x5 x6 x7 = true) : Gives Tryz.prog envL 0 13 [(.agg #[(.int .i64 (x0)), (.int .i64 (x1)), (.int .i64 (x2)), (.int .i64 (x3)), (.int .i64 (x4)), (.int .i64 (x5)), (.int .i64 (x6)), (.int .i64 (x7))])] heap0 ((.bool false), heap0) :=
  Gives.by (n := 1000) (os := [.br 13 48 false, .br 13 48 false, .br 13 48 false, .br 13 57 false, .br 13 58 false, .br 13 58 false, .br 13 58 false, .br 13 67 false, .br 13 68 false, .br 13 68 false, .br 13 68 false, .br 13 77 false, .br 13 76 false, .br 13 48 false, .br 13 48 false, .br 13 48 false, .br 13 57 false, .br 13 58 false, .br 13 58 false, .br 13 58 false, .br 13 67 false, .br 13 68 false, .br 13 68 false, .br 13 68 false, .br 13 77 false, .br 13 76 false, .br 13 48 false, .br 13 48 false, .br 13 48 false, .br 13 57 false, .br 13 58 false, .br 13 58 false, .br 13 58 false, .br 13 67 false, .br 13 68 false, .br 13 68 false, .br 13 68 false, .br 13 77 false, .br 13 76 false, .br 13 48 false, .br 13 48 false, .br 13 48 false, .br 13 57 false, .br 13 58 false, .br 13 58 false, .br 13 58 false, .br 13 67 false, .br 13 68 false, .br 13 68 false, .br 13 68 false, .br 13 77 false, .br 13 76 false, .br 13 138 false, .br 13 138 false, .br 13 145 false, .br 13 146 false, .br 13 146 false, .br 13 153 false, .br 13 154 false, .br 13 154 false, .br 13 154 false, .br 13 163 false, .br 13 162 true]) (os' := []) (by kernel_rfl) (ObsOK.cond h0 (ObsOK.cond h0 (ObsOK.cond h0 (ObsOK.cond h0 (ObsOK.cond h1 (ObsOK.cond h1 (ObsOK.cond h1 (ObsOK.cond h1 (ObsOK.cond h2 (ObsOK.cond h2 (ObsOK.cond h2 (ObsOK.cond h2 (ObsOK.cond h3 (ObsOK.cond h4 (ObsOK.cond h4 (ObsOK.cond h4 (ObsOK.cond h4 (ObsOK.cond h5 (ObsOK.cond h5 (ObsOK.cond h5 (ObsOK.cond h5 (ObsOK.cond h6 (ObsOK.cond h6 (ObsOK.cond h6 (ObsOK.cond h6 (ObsOK.cond h7 (ObsOK.cond h8 (ObsOK.cond h8 (ObsOK.cond h8 (ObsOK.cond h8 (ObsOK.cond h9 (ObsOK.cond h9 (ObsOK.cond h9 (ObsOK.cond h9 (ObsOK.cond h10 (ObsOK.cond h10 (ObsOK.cond h10 (ObsOK.cond h10 (ObsOK.cond h11 (ObsOK.cond h12 (ObsOK.cond h12 (ObsOK.cond h12 (ObsOK.cond h12 (ObsOK.cond h13 (ObsOK.cond h13 (ObsOK.cond h13 (ObsOK.cond h13 (ObsOK.cond h14 (ObsOK.cond h14 (ObsOK.cond h14 (ObsOK.cond h14 (ObsOK.cond h15 (ObsOK.cond h16 (ObsOK.cond h16 (ObsOK.cond h16 (ObsOK.cond h17 (ObsOK.cond h17 (ObsOK.cond h17 (ObsOK.cond h18 (ObsOK.cond h18 (ObsOK.cond h18 (ObsOK.cond h18 (ObsOK.cond h19 (ObsOK.nil))))))))))))))))))))))))))))))))))))))))))))))))))))))))))))))))
theorem lb_p20 (x0 : Int) (x1 : Int) (x2 : Int) (x3 : Int) (x4 : Int) (x5 : Int) (x6 : Int) (x7 : Int) (h0 : lb_c0 x0 x1 x2 x3 x4 x5 x6 x7 = false) (h1 : lb_c1 x0 x1 x2 x3 x4 x5 x6 x7 = false) (h2 : lb_c2 x0 x1 x2 x3 x4 x5 x6 x7 = false) (h3 : lb_c3 x0 x1 x2 x3 x4 x5 x6 x7 = false) (h4 : lb_c4 x0 x1 x2 x3 x4 x5 x6 x7 = false) (h5 : lb_c5 x0 x1 x2 x3 x4 x5 x6 x7 = false) (h6 : lb_c6 x0 x1 x2 x3 x4 x5 x6 x7 = false) (h7 : lb_c7 x0 x1 x2 x3 x4 x5 x6 x7 = false) (h8 : lb_c8 x0 x1 x2 x3 x4 x5 x6 x7 = false) (h9 : lb_c9 x0 x1 x2 x3 x4 x5 x6 x7 = false) (h10 : lb_c10 x0 x1 x2 x3 x4 x5 x6 x7 = false) (h11 : lb_c11 x0 x1 x2 x3 x4 x5 x6 x7 = false) (h12 : lb_c12 x0 x1 x2 x3 x4 x5 x6 x7 = false) (h13 : lb_c13 x0 x1 x2 x3 x4 x5 x6 x7 = false) (h14 : lb_c14 x0 x1 x2 x3 x4 x5 x6 x7 = false) (h15 : lb_c15 x0 x1 x2 x3 x4 x5 x6 x7 = false) (h16 : lb_c16 x0 x1 x2 x3 x4 x5 x6 x7 = false) (h17 : lb_c17 x0 x1 x2 x3 x4 x5 x6 x7 = false) (h18 : lb_c18 x0 x1 x2 x3 x4 x5 x6 x7 = false) (h19 : lb_c19 x0 x1 x2 x3 x4 x5 x6 x7 = false) (h20 : lb_c20 x0 x1 x2 x3 x4 x5 x6 x7 = true) : Gives Tryz.prog envL 0 13 [(.agg #[(.int .i64 (x0)), (.int .i64 (x1)), (.int .i64 (x2)), (.int .i64 (x3)), (.int .i64 (x4)), (.int .i64 (x5)), (.int .i64 (x6)), (.int .i64 (x7))])] heap0 ((.bool false), heap0) :=
  Gives.by (n := 1000) (os := [.br 13 48 false, .br 13 48 false, .br 13 48 false, .br 13 57 false, .br 13 58 false, .br 13 58 false, .br 13 58 false, .br 13 67 false, .br 13 68 false, .br 13 68 false, .br 13 68 false, .br 13 77 false, .br 13 76 false, .br 13 48 false, .br 13 48 false, .br 13 48 false, .br 13 57 false, .br 13 58 false, .br 13 58 false, .br 13 58 false, .br 13 67 false, .br 13 68 false, .br 13 68 false, .br 13 68 false, .br 13 77 false, .br 13 76 false, .br 13 48 false, .br 13 48 false, .br 13 48 false, .br 13 57 false, .br 13 58 false, .br 13 58 false, .br 13 58 false, .br 13 67 false, .br 13 68 false, .br 13 68 false, .br 13 68 false, .br 13 77 false, .br 13 76 false, .br 13 48 false, .br 13 48 false, .br 13 48 false, .br 13 57 false, .br 13 58 false, .br 13 58 false, .br 13 58 false, .br 13 67 false, .br 13 68 false, .br 13 68 false, .br 13 68 false, .br 13 77 false, .br 13 76 false, .br 13 138 false, .br 13 138 false, .br 13 145 false, .br 13 146 false, .br 13 146 false, .br 13 153 false, .br 13 154 false, .br 13 154 false, .br 13 154 false, .br 13 163 false, .br 13 162 false, .br 13 210 true]) (os' := []) (by kernel_rfl) (ObsOK.cond h0 (ObsOK.cond h0 (ObsOK.cond h0 (ObsOK.cond h0 (ObsOK.cond h1 (ObsOK.cond h1 (ObsOK.cond h1 (ObsOK.cond h1 (ObsOK.cond h2 (ObsOK.cond h2 (ObsOK.cond h2 (ObsOK.cond h2 (ObsOK.cond h3 (ObsOK.cond h4 (ObsOK.cond h4 (ObsOK.cond h4 (ObsOK.cond h4 (ObsOK.cond h5 (ObsOK.cond h5 (ObsOK.cond h5 (ObsOK.cond h5 (ObsOK.cond h6 (ObsOK.cond h6 (ObsOK.cond h6 (ObsOK.cond h6 (ObsOK.cond h7 (ObsOK.cond h8 (ObsOK.cond h8 (ObsOK.cond h8 (ObsOK.cond h8 (ObsOK.cond h9 (ObsOK.cond h9 (ObsOK.cond h9 (ObsOK.cond h9 (ObsOK.cond h10 (ObsOK.cond h10 (ObsOK.cond h10 (ObsOK.cond h10 (ObsOK.cond h11 (ObsOK.cond h12 (ObsOK.cond h12 (ObsOK.cond h12 (ObsOK.cond h12 (ObsOK.cond h13 (ObsOK.cond h13 (ObsOK.cond h13 (ObsOK.cond h13 (ObsOK.cond h14 (ObsOK.cond h14 (ObsOK.cond h14 (ObsOK.cond h14 (ObsOK.cond h15 (ObsOK.cond h16 (ObsOK.cond h16 (ObsOK.cond h16 (ObsOK.cond h17 (ObsOK.cond h17 (ObsOK.cond h17 (ObsOK.cond h18 (ObsOK.cond h18 (ObsOK.cond h18 (ObsOK.cond h18 (ObsOK.cond h19 (ObsOK.cond h20 (ObsOK.nil)))))))))))))))))))))))))))))))))))))))))))))))))))))))))))))))))
theorem lb_p21 (x0 : Int) (x1 : Int) (x2 : Int) (x3 : Int) (x4 : Int) (x5 : Int) (x6 : Int) (x7 : Int) (h0 : lb_c0 x0 x1 x2 x3 x4 x5 x6 x7 = false) (h1 : lb_c1 x0 x1 x2 x3 x4 x5 x6 x7 = false) (h2 : lb_c2 x0 x1 x2 x3 x4 x5 x6 x7 = false) (h3 : lb_c3 x0 x1 x2 x3 x4 x5 x6 x7 = false) (h4 : lb_c4 x0 x1 x2 x3 x4 x5 x6 x7 = false) (h5 : lb_c5 x0 x1 x2 x3 x4 x5 x6 x7 = false) (h6 : lb_c6 x0 x1 x2 x3 x4 x5 x6 x7 = false) (h7 : lb_c7 x0 x1 x2 x3 x4 x5 x6 x7 = false) (h8 : lb_c8 x0 x1 x2 x3 x4 x5 x6 x7 = false) (h9 : lb_c9 x0 x1 x2 x3 x4 x5 x6 x7 = false) (h10 : lb_c10 x0 x1 x2 x3 x4 x5 x6 x7 = false) (h11 : lb_c11 x0 x1 x2 x3 x4 x5 x6 x7 = false) (h12 : lb_c12 x0 x1 x2 x3 x4 x5 x6 x7 = false) (h13 : lb_c13 x0 x1 x2 x3 x4 x5 x6 x7 = false) (h14 : lb_c14 x0 x1 x2 x3 x4 x5 x6 x7 = false) (h15 : lb_c15 x0 x1 x2 x3 x4 x5 x6 x7 = false) (h16 : lb_c16 x0 x1 x2 x3 x4 x5 x6 x7 = false) (h17 : lb_c17 x0 x1 x2 x3 x4 x5 x6 x7 = false) (h18 : lb_c18 x0 x1 x2 x3 x4 x5 x6 x7 = false) (h19 : lb_c19 x0 x1 x2 x3 x4 x5 x6 x7 = false) (h20 : lb_c20 x0 x1 x2 x3 x4 x5 x6 x7 = false) (h21 : lb_c21 x0 x1 x2 x3 x4 x5 x6 x7 = true) : Gives Tryz.prog envL 0 13 [(.agg #[(.int .i64 (x0)), (.int .i64 (x1)), (.int .i64 (x2)), (.int .i64 (x3)), (.int .i64 (x4)), (.int .i64 (x5)), (.int .i64 (x6)), (.int .i64 (x7))])] heap0 ((.bool false), heap0) :=
  Gives.by (n := 1000) (os := [.br 13 48 false, .br 13 48 false, .br 13 48 false, .br 13 57 false, .br 13 58 false, .br 13 58 false, .br 13 58 false, .br 13 67 false, .br 13 68 false, .br 13 68 false, .br 13 68 false, .br 13 77 false, .br 13 76 false, .br 13 48 false, .br 13 48 false, .br 13 48 false, .br 13 57 false, .br 13 58 false, .br 13 58 false, .br 13 58 false, .br 13 67 false, .br 13 68 false, .br 13 68 false, .br 13 68 false, .br 13 77 false, .br 13 76 false, .br 13 48 false, .br 13 48 false, .br 13 48 false, .br 13 57 false, .br 13 58 false, .br 13 58 false, .br 13 58 false, .br 13 67 false, .br 13 68 false, .br 13 68 false, .br 13 68 false, .br 13 77 false, .br 13 76 false, .br 13 48 false, .br 13 48 false, .br 13 48 false, .br 13 57 false, .br 13 58 false, .br 13 58 false, .br 13 58 false, .br 13 67 false, .br 13 68 false, .br 13 68 false, .br 13 68 false, .br 13 77 false, .br 13 76 false, .br 13 138 false, .br 13 138 false, .br 13 145 false, .br 13 146 false, .br 13 146 false, .br 13 153 false, .br 13 154 false, .br 13 154 false, .br 13 154 false, .br 13 163 false, .br 13 162 false, .br 13 210 false, .br 13 210 true]) (os' := []) (by kernel_rfl) (ObsOK.cond h0 (ObsOK.cond h0 (ObsOK.cond h0 (ObsOK.cond h0 (ObsOK.cond h1 (ObsOK.cond h1 (ObsOK.cond h1 (ObsOK.cond h1 (ObsOK.cond h2 (ObsOK.cond h2 (ObsOK.cond h2 (ObsOK.cond h2 (ObsOK.cond h3 (ObsOK.cond h4 (ObsOK.cond h4 (ObsOK.cond h4 (ObsOK.cond h4 (ObsOK.cond h5 (ObsOK.cond h5 (ObsOK.cond h5 (ObsOK.cond h5 (ObsOK.cond h6 (ObsOK.cond h6 (ObsOK.cond h6 (ObsOK.cond h6 (ObsOK.cond h7 (ObsOK.cond h8 (ObsOK.cond h8 (ObsOK.cond h8 (ObsOK.cond h8 (ObsOK.cond h9 (ObsOK.cond h9 (ObsOK.cond h9 (ObsOK.cond h9 (ObsOK.cond h10 (ObsOK.cond h10 (ObsOK.cond h10 (ObsOK.cond h10 (ObsOK.cond h11 (ObsOK.cond h12 (ObsOK.cond h12 (ObsOK.cond h12 (ObsOK.cond h12 (ObsOK.cond h13 (ObsOK.cond h13 (ObsOK.cond h13 (ObsOK.cond h13 (ObsOK.cond h14 (ObsOK.cond h14 (ObsOK.cond h14 (ObsOK.cond h14 (ObsOK.cond h15 (ObsOK.cond h16 (ObsOK.cond h16 (ObsOK.cond h16 (ObsOK.cond h17 (ObsOK.cond h17 (ObsOK.cond h17 (ObsOK.cond h18 (ObsOK.cond h18 (ObsOK.cond h18 (ObsOK.cond h18 (ObsOK.cond h19 (ObsOK.cond h20 (ObsOK.cond h21 (ObsOK.nil))))))))))))))))))))))))))))))))))))))))))))))))))))))))))))))))))
theorem lb_p22 (x0 : Int) (x1 : Int) (x2 : Int) (x3 : Int) (x4 : Int) (x5 : Int) (x6 : Int) (x7 : Int) (h0 : lb_c0 x0 x1 x2 x3 x4 x5 x6 x7 = false) (h1 : lb_c1 x0 x1 x2 x3 x4 x5 x6 x7 = false) (h2 : lb_c2 x0 x1 x2 x3 x4 x5 x6 x7 = false) (h3 : lb_c3 x0 x1 x2 x3 x4 x5 x6 x7 = false) (h4 : lb_c4 x0 x1 x2 x3 x4 x5 x6 x7 = false) (h5 : lb_c5 x0 x1 x2 x3 x4 x5 x6 x7 = false) (h6 : lb_c6 x0 x1 x2 x3 x4 x5 x6 x7 = false) (h7 : lb_c7 x0 x1 x2 x3 x4 x5 x6 x7 = false) (h8 : lb_c8 x0 x1 x2 x3 x4 x5 x6 x7 = false) (h9 : lb_c9 x0 x1 x2 x3 x4 x5 x6 x7 = false) (h10 : lb_c10 x0 x1 x2 x3 x4 x5 x6 x7 = false) (h11 : lb_c11 x0 x1 x2 x3 x4 x5 x6 x7 = false) (h12 : lb_c12 x0 x1 x2 x3 x4 x5 x6 x7 = false) (h13 : lb_c13 x0 x1 x2 x3 x4 x5 x6 x7 = false) (h14 : lb_c14 x0 x1 x2 x3 x4 x5 x6 x7 = false) (h15 : lb_c15 x0 x1 x2 x3 x4 x5 x6 x7 = false) (h16 : lb_c16 x0 x1 x2 x3 x4 x5 x6 x7 = false) (h17 : lb_c17 x0 x1 x2 x3 x4 x5 x6 x7 = false) (h18 : lb_c18 x0 x1 x2 x3 x4 x5 x6 x7 = false) (h19 : lb_c19 x0 x1 x2 x3 x4 x5 x6 x7 = false) (h20 : lb_c20 x0 x1 x2 x3 x4 x5 x6 x7 = false) (h21 : lb_c21 x0 x1 x2 x3 x4 x5 x6 x7 = false) (h22 : lb_c22 x0 x1 x2 x3 x4 x5 x6 x7 = true) : Gives Tryz.prog envL 0 13 [(.agg #[(.int .i64 (x0)), (.int .i64 (x1)), (.int .i64 (x2)), (.int .i64 (x3)), (.int .i64 (x4)), (.int .i64 (x5)), (.int .i64 (x6)), (.int .i64 (x7))])] heap0 ((.bool false), heap0) :=
  Gives.by (n := 1000) (os := [.br 13 48 false, .br 13 48 false, .br 13 48 false, .br 13 57 false, .br 13 58 false, .br 13 58 false, .br 13 58 false, .br 13 67 false, .br 13 68 false, .br 13 68 false, .br 13 68 false, .br 13 77 false, .br 13 76 false, .br 13 48 false, .br 13 48 false, .br 13 48 false, .br 13 57 false, .br 13 58 false, .br 13 58 false, .br 13 58 false, .br 13 67 false, .br 13 68 false, .br 13 68 false, .br 13 68 false, .br 13 77 false, .br 13 76 false, .br 13 48 false, .br 13 48 false, .br 13 48 false, .br 13 57 false, .br 13 58 false, .br 13 58 false, .br 13 58 false, .br 13 67 false, .br 13 68 false, .br 13 68 false, .br 13 68 false, .br 13 77 false, .br 13 76 false, .br 13 48 false, .br 13 48 false, .br 13 48 false, .br 13 57 false, .br 13 58 false, .br 13 58 false, .br 13 58 false, .br 13 67 false, .br 13 68 false, .br 13 68 false, .br 13 68 false, .br 13 77 false, .br 13 76 false, .br 13 138 false, .br 13 138 false, .br 13 145 false, .br 13 146 false, .br 13 146 false, .br 13 153 false, .br 13 154 false, .br 13 154 false, .br 13 154 false, .br 13 163 false, .br 13 162 false, .br 13 210 false, .br 13 210 false, .br 13 210 true]) (os' := []) (by kernel_rfl) (ObsOK.cond h0 (ObsOK.cond h0 (ObsOK.cond h0 (ObsOK.cond h0 (ObsOK.cond h1 (ObsOK.cond h1 (ObsOK.cond h1 (ObsOK.cond h1 (ObsOK.cond h2 (ObsOK.cond h2 (ObsOK.cond h2 (ObsOK.cond h2 (ObsOK.cond h3 (ObsOK.cond h4 (ObsOK.cond h4 (ObsOK.cond h4 (ObsOK.cond h4 (ObsOK.cond h5 (ObsOK.cond h5 (ObsOK.cond h5 (ObsOK.cond h5 (ObsOK.cond h6 (ObsOK.cond h6 (ObsOK.cond h6 (ObsOK.cond h6 (ObsOK.cond h7 (ObsOK.cond h8 (ObsOK.cond h8 (ObsOK.cond h8 (ObsOK.cond h8 (ObsOK.cond h9 (ObsOK.cond h9 (ObsOK.cond h9 (ObsOK.cond h9 (ObsOK.cond h10 (ObsOK.cond h10 (ObsOK.cond h10 (ObsOK.cond h10 (ObsOK.cond h11 (ObsOK.cond h12 (ObsOK.cond h12 (ObsOK.cond h12 (ObsOK.cond h12 (ObsOK.cond h13 (ObsOK.cond h13 (ObsOK.cond h13 (ObsOK.cond h13 (ObsOK.cond h14 (ObsOK.cond h14 (ObsOK.cond h14 (ObsOK.cond h14 (ObsOK.cond h15 (ObsOK.cond h16 (ObsOK.cond h16 (ObsOK.cond h16 (ObsOK.cond h17 (ObsOK.cond h17 (ObsOK.cond h17 (ObsOK.cond h18 (ObsOK.cond h18 (ObsOK.cond h18 (ObsOK.cond h18 (ObsOK.cond h19 (ObsOK.cond h20 (ObsOK.cond h21 (ObsOK.cond h22 (ObsOK.nil)))))))))))))))))))))))))))))))))))))))))))))))))))))))))))))))))))
theorem lb_p23 (x0 : Int) (x1 : Int) (x2 : Int) (x3 : Int) (x4 : Int) (x5 : Int) (x6 : Int) (x7 : Int) (h0 : lb_c0 x0 x1 x2 x3 x4 x5 x6 x7 = false) (h1 : lb_c1 x0 x1 x2 x3 x4 x5 x6 x7 = false) (h2 : lb_c2 x0 x1 x2 x3 x4 x5 x6 x7 = false) (h3 : lb_c3 x0 x1 x2 x3 x4 x5 x6 x7 = false) (h4 : lb_c4 x0 x1 x2 x3 x4 x5 x6 x7 = false) (h5 : lb_c5 x0 x1 x2 x3 x4 x5 x6 x7 = false) (h6 : lb_c6 x0 x1 x2 x3 x4 x5 x6 x7 = false) (h7 : lb_c7 x0 x1 x2 x3 x4 x5 x6 x7 = false) (h8 : lb_c8 x0 x1 x2 x3 x4 x5 x6 x7 = false) (h9 : lb_c9 x0 x1 x2 x3 x4 x5 x6 x7 = false) (h10 : lb_c10 x0 x1 x2 x3 x4 x5 x6 x7 = false) (h11 : lb_c11 x0 x1 x2 x3 x4 x5 x6 x7 = false) (h12 : lb_c12 x0 x1 x2 x3 x4 x5 x6 x7 = false) (h13 : lb_c13 x0 x1 x2 x3 x4 x5 x6 x7 = false) (h14 : lb_c14 x0 x1 x2 x3 x4 x5 x6 x7 = false) (h15 : lb_c15 x0 x1 x2 x3 x4 x5 x6 x7 = false) (h16 : lb_c16 x0 x1 x2 x3 x4 x5 x6 x7 = false) (h17 : lb_c17 x0 x1 x2 x3 x4 x5 x6 x7 = false) (h18 : lb_c18 x0 x1 x2 x3 x4 x5 x6 x7 = false) (h19 : lb_c19 x0 x1 x2 x3 x4 x5 x6 x7 = false) (h20 : lb_c20 x0 x1 x2 x3 x4 x5 x6 x7 = false) (h21 : lb_c21 x0 x1 x2 x3 x4 x5 x6 x7 = false) (h22 : lb_c22 x0 x1 x2 x3 x4 x5 x6 x7 = false) (h23 : lb_c23 x0 x1 x2 x3 x4 x5 x6 x7 = true) : Gives Tryz.prog envL 0 13 [(.agg #[(.int .i64 (x0)), (.int .i64 (x1)), (.int .i64 (x2)), (.int .i64 (x3)), (.int .i64 (x4)), (.int .i64 (x5)), (.int .i64 (x6)), (.int .i64 (x7))])] heap0 ((.bool false), heap0) :=
  Gives.by (n := 1000) (os := [.br 13 48 false, .br 13 48 false, .br 13 48 false, .br 13 57 false, .br 13 58 false, .br 13 58 false, .br 13 58 false, .br 13 67 false, .br 13 68 false, .br 13 68 false, .br 13 68 false, .br 13 77 false, .br 13 76 false, .br 13 48 false, .br 13 48 false, .br 13 48 false, .br 13 57 false, .br 13 58 false, .br 13 58 false, .br 13 58 false, .br 13 67 false, .br 13 68 false, .br 13 68 false, .br 13 68 false, .br 13 77 false, .br 13 76 false, .br 13 48 false, .br 13 48 false, .br 13 48 false, .br 13 57 false, .br 13 58 false, .br 13 58 false, .br 13 58 false, .br 13 67 false, .br 13 68 false, .br 13 68 false, .br 13 68 false, .br 13 77 false, .br 13 76 false, .br 13 48 false, .br 13 48 false, .br 13 48 false, .br 13 57 false, .br 13 58 false, .br 13 58 false, .br 13 58 false, .br 13 67 false, .br 13 68 false, .br 13 68 false, .br 13 68 false, .br 13 77 false, .br 13 76 false, .br 13 138 false, .br 13 138 false, .br 13 145 false, .br 13 146 false, .br 13 146 false, .br 13 153 false, .br 13 154 false, .br 13 154 false, .br 13 154 false, .br 13 163 false, .br 13 162 false, .br 13 210 false, .br 13 210 false, .br 13 210 false, .br 13 210 true]) (os' := []) (by kernel_rfl) (ObsOK.cond h0 (ObsOK.cond h0 (ObsOK.cond h0 (ObsOK.cond h0 (ObsOK.cond h1 (ObsOK.cond h1 (ObsOK.cond h1 (ObsOK.cond h1 (ObsOK.cond h2 (ObsOK.cond h2 (ObsOK.cond h2 (ObsOK.cond h2 (ObsOK.cond h3 (ObsOK.cond h4 (ObsOK.cond h4 (ObsOK.cond h4 (ObsOK.cond h4 (ObsOK.cond h5 (ObsOK.cond h5 (ObsOK.cond h5 (ObsOK.cond h5 (ObsOK.cond h6 (ObsOK.cond h6 (ObsOK.cond h6 (ObsOK.cond h6 (ObsOK.cond h7 (ObsOK.cond h8 (ObsOK.cond h8 (ObsOK.cond h8 (ObsOK.cond h8 (ObsOK.cond h9 (ObsOK.cond h9 (ObsOK.cond h9 (ObsOK.cond h9 (ObsOK.cond h10 (ObsOK.cond h10 (ObsOK.cond h10 (ObsOK.cond h10 (ObsOK.cond h11 (ObsOK.cond h12 (ObsOK.cond h12 (ObsOK.cond h12 (ObsOK.cond h12 (ObsOK.cond h13 (ObsOK.cond h13 (ObsOK.cond h13 (ObsOK.cond h13 (ObsOK.cond h14 (ObsOK.cond h14 (ObsOK.cond h14 (ObsOK.cond h14 (ObsOK.cond h15 (ObsOK.cond h16 (ObsOK.cond h16 (ObsOK.cond h16 (ObsOK.cond h17 (ObsOK.cond h17 (ObsOK.cond h17 (ObsOK.cond h18 (ObsOK.cond h18 (ObsOK.cond h18 (ObsOK.cond h18 (ObsOK.cond h19 (ObsOK.cond h20 (ObsOK.cond h21 (ObsOK.cond h22 (ObsOK.cond h23 (ObsOK.nil))))))))))))))))))))))))))))))))))))))))))))))))))))))))))))))))))))
theorem lb_p24 (x0 : Int) (x1 : Int) (x2 : Int) (x3 : Int) (x4 : Int) (x5 : Int) (x6 : Int) (x7 : Int) (h0 : lb_c0 x0 x1 x2 x3 x4 x5 x6 x7 = false) (h1 : lb_c1 x0 x1 x2 x3 x4 x5 x6 x7 = false) (h2 : lb_c2 x0 x1 x2 x3 x4 x5 x6 x7 = false) (h3 : lb_c3 x0 x1 x2 x3 x4 x5 x6 x7 = false) (h4 : lb_c4 x0 x1 x2 x3 x4 x5 x6 x7 = false) (h5 : lb_c5 x0 x1 x2 x3 x4 x5 x6 x7 = false) (h6 : lb_c6 x0 x1 x2 x3 x4 x5 x6 x7 = false) (h7 : lb_c7 x0 x1 x2 x3 x4 x5 x6 x7 = false) (h8 : lb_c8 x0 x1 x2 x3 x4 x5 x6 x7 = false) (h9 : lb_c9 x0 x1 x2 x3 x4 x5 x6 x7 = false) (h10 : lb_c10 x0 x1 x2 x3 x4 x5 x6 x7 = false) (h11 : lb_c11 x0 x1 x2 x3 x4 x5 x6 x7 = false) (h12 : lb_c12 x0 x1 x2 x3 x4 x5 x6 x7 = false) (h13 : lb_c13 x0 x1 x2 x3 x4 x5 x6 x7 = false) (h14 : lb_c14 x0 x1 x2 x3 x4 x5 x6 x7 = false) (h15 : lb_c15 x0 x1 x2 x3 x4 x5 x6 x7 = false) (h16 : lb_c16 x0 x1 x2 x3 x4 x5 x6 x7 = false) (h17 : lb_c17 x0 x1 x2 x3 x4 x5 x6 x7 = false) (h18 : lb_c18 x0 x1 x2 x3 x4 x5 x6 x7 = false) (h19 : lb_c19 x0 x1 x2 x3 x4 x5 x6 x7 = false) (h20 : lb_c20 x0 x1 x2 x3 x4 x5 x6 x7 = false) (h21 : lb_c21 x0 x1 x2 x3 x4 x5 x6 x7 = false) (h22 : lb_c22 x0 x1 x2 x3 x4 x5 x6 x7 = false) (h23 : lb_c23 x0 x1 x2 x3 x4 x5 x6 x7 = false) (h24 : lb_c24 x0 x1 x2 x3 x4 x5 x6 x7 = true) : Gives Tryz.prog envL 0 13 [(.agg #[(.int .i64 (x0)), (.int .i64 (x1)), (.int .i64 (x2)), (.int .i64 (x3)), (.int .i64 (x4)), (.int .i64 (x5)), (.int .i64 (x6)), (.int .i64 (x7))])] heap0 ((.bool (IntKind.i64.wrap (IntKind.i64.wrap (IntKind.i64.wrap (IntKind.i64.wrap (0 + rsq_r0 (ha_r0 x0 x1 x2 x3 x4 x5 x6 x7) (ha_r1 x0 x1 x2 x3 x4 x5 x6 x7)) + rsq_r0 (ha_r2 x0 x1 x2 x3 x4 x5 x6 x7) (ha_r3 x0 x1 x2 x3 x4 x5 x6 x7)) + rsq_r0 (ha_r4 x0 x1 x2 x3 x4 x5 x6 x7) (ha_r5 x0 x1 x2 x3 x4 x5 x6 x7)) + rsq_r0 (ha_r6 x0 x1 x2 x3 x4 x5 x6 x7) (ha_r7 x0 x1 x2 x3 x4 x5 x6 x7)) == IntKind.i64.wrap (4 * IntKind.i64.wrap (IntKind.i64.wrap (IntKind.i64.wrap (IntKind.i64.wrap (0 + rsq_r0 x0 x1) + rsq_r0 x2 x3) + rsq_r0 x4 x5) + rsq_r0 x6 x7)))), heap0) :=
  Gives.by (n := 1000) (os := [.br 13 48 false, .br 13 48 false, .br 13 48 false, .br 13 57 false, .br 13 58 false, .br 13 58 false, .br 13 58 false, .br 13 67 false, .br 13 68 false, .br 13 68 false, .br 13 68 false, .br 13 77 false, .br 13 76 false, .br 13 48 false, .br 13 48 false, .br 13 48 false, .br 13 57 false, .br 13 58 false, .br 13 58 false, .br 13 58 false, .br 13 67 false, .br 13 68 false, .br 13 68 false, .br 13 68 false, .br 13 77 false, .br 13 76 false, .br 13 48 false, .br 13 48 false, .br 13 48 false, .br 13 57 false, .br 13 58 false, .br 13 58 false, .br 13 58 false, .br 13 67 false, .br 13 68 false, .br 13 68 false, .br 13 68 false, .br 13 77 false, .br 13 76 false, .br 13 48 false, .br 13 48 false, .br 13 48 false, .br 13 57 false, .br 13 58 false, .br 13 58 false, .br 13 58 false, .br 13 67 false, .br 13 68 false, .br 13 68 false, .br 13 68 false, .br 13 77 false, .br 13 76 false, .br 13 138 false, .br 13 138 false, .br 13 145 false, .br 13 146 false, .br 13 146 false, .br 13 153 false, .br 13 154 false, .br 13 154 false, .br 13 154 false, .br 13 163 false, .br 13 162 false, .br 13 210 false, .br 13 210 false, .br 13 210 false, .br 13 210 false, .br 13 246 true, .br 13 246 true, .br 13 246 true, .br 13 246 true, .br 13 257 true]) (os' := []) (by kernel_rfl) (ObsOK.cond h0 (ObsOK.cond h0 (ObsOK.cond h0 (ObsOK.cond h0 (ObsOK.cond h1 (ObsOK.cond h1 (ObsOK.cond h1 (ObsOK.cond h1 (ObsOK.cond h2 (ObsOK.cond h2 (ObsOK.cond h2 (ObsOK.cond h2 (ObsOK.cond h3 (ObsOK.cond h4 (ObsOK.cond h4 (ObsOK.cond h4 (ObsOK.cond h4 (ObsOK.cond h5 (ObsOK.cond h5 (ObsOK.cond h5 (ObsOK.cond h5 (ObsOK.cond h6 (ObsOK.cond h6 (ObsOK.cond h6 (ObsOK.cond h6 (ObsOK.cond h7 (ObsOK.cond h8 (ObsOK.cond h8 (ObsOK.cond h8 (ObsOK.cond h8 (ObsOK.cond h9 (ObsOK.cond h9 (ObsOK.cond h9 (ObsOK.cond h9 (ObsOK.cond h10 (ObsOK.cond h10 (ObsOK.cond h10 (ObsOK.cond h10 (ObsOK.cond h11 (ObsOK.cond h12 (ObsOK.cond h12 (ObsOK.cond h12 (ObsOK.cond h12 (ObsOK.cond h13 (ObsOK.cond h13 (ObsOK.cond h13 (ObsOK.cond h13 (ObsOK.cond h14 (ObsOK.cond h14 (ObsOK.cond h14 (ObsOK.cond h14 (ObsOK.cond h15 (ObsOK.cond h16 (ObsOK.cond h16 (ObsOK.cond h16 (ObsOK.cond h17 (ObsOK.cond h17 (ObsOK.cond h17 (ObsOK.cond h18 (ObsOK.cond h18 (ObsOK.cond h18 (ObsOK.cond h18 (ObsOK.cond h19 (ObsOK.cond h20 (ObsOK.cond h21 (ObsOK.cond h22 (ObsOK.cond h23 (ObsOK.cond h24 (ObsOK.cond h24 (ObsOK.cond h24 (ObsOK.cond h24 (ObsOK.cond h24 (ObsOK.nil)))))))))))))))))))))))))))))))))))))))))))))))))))))))))))))))))))))))))
theorem lb_p25 (x0 : Int) (x1 : Int) (x2 : Int) (x3 : Int) (x4 : Int) (x5 : Int) (x6 : Int) (x7 : Int) (h0 : lb_c0 x0 x1 x2 x3 x4 x5 x6 x7 = false) (h1 : lb_c1 x0 x1 x2 x3 x4 x5 x6 x7 = false) (h2 : lb_c2 x0 x1 x2 x3 x4 x5 x6 x7 = false) (h3 : lb_c3 x0 x1 x2 x3 x4 x5 x6 x7 = false) (h4 : lb_c4 x0 x1 x2 x3 x4 x5 x6 x7 = false) (h5 : lb_c5 x0 x1 x2 x3 x4 x5 x6 x7 = false) (h6 : lb_c6 x0 x1 x2 x3 x4 x5 x6 x7 = false) (h7 : lb_c7 x0 x1 x2 x3 x4 x5 x6 x7 = false) (h8 : lb_c8 x0 x1 x2 x3 x4 x5 x6 x7 = false) (h9 : lb_c9 x0 x1 x2 x3 x4 x5 x6 x7 = false) (h10 : lb_c10 x0 x1 x2 x3 x4 x5 x6 x7 = false) (h11 : lb_c11 x0 x1 x2 x3 x4 x5 x6 x7 = false) (h12 : lb_c12 x0 x1 x2 x3 x4 x5 x6 x7 = false) (h13 : lb_c13 x0 x1 x2 x3 x4 x5 x6 x7 = false) (h14 : lb_c14 x0 x1 x2 x3 x4 x5 x6 x7 = false) (h15 : lb_c15 x0 x1 x2 x3 x4 x5 x6 x7 = false) (h16 : lb_c16 x0 x1 x2 x3 x4 x5 x6 x7 = false) (h17 : lb_c17 x0 x1 x2 x3 x4 x5 x6 x7 = false) (h18 : lb_c18 x0 x1 x2 x3 x4 x5 x6 x7 = false) (h19 : lb_c19 x0 x1 x2 x3 x4 x5 x6 x7 = false) (h20 : lb_c20 x0 x1 x2 x3 x4 x5 x6 x7 = false) (h21 : lb_c21 x0 x1 x2 x3 x4 x5 x6 x7 = false) (h22 : lb_c22 x0 x1 x2 x3 x4 x5 x6 x7 = false) (h23 : lb_c23 x0 x1 x2 x3 x4 x5 x6 x7 = false) (h24 : lb_c24 x0 x1 x2 x3 x4 x5 x6 x7 = false) : Gives Tryz.prog envL 0 13 [(.agg #[(.int .i64 (x0)), (.int .i64 (x1)), (.int .i64 (x2)), (.int .i64 (x3)), (.int .i64 (x4)), (.int .i64 (x5)), (.int .i64 (x6)), (.int .i64 (x7))])] heap0 ((.bool false), heap0) :=
  Gives.by (n := 1000) (os := [.br 13 48 false, .br 13 48 false, .br 13 48 false, .br 13 57 false, .br 13 58 false, .br 13 58 false, .br 13 58 false, .br 13 67 false, .br 13 68 false, .br 13 68 false, .br 13 68 false, .br 13 77 false, .br 13 76 false, .br 13 48 false, .br 13 48 false, .br 13 48 false, .br 13 57 false, .br 13 58 false, .br 13 58 false, .br 13 58 false, .br 13 67 false, .br 13 68 false, .br 13 68 false, .br 13 68 false, .br 13 77 false, .br 13 76 false, .br 13 48 false, .br 13 48 false, .br 13 48 false, .br 13 57 false, .br 13 58 false, .br 13 58 false, .br 13 58 false, .br 13 67 false, .br 13 68 false, .br 13 68 false, .br 13 68 false, .br 13 77 false, .br 13 76 false, .br 13 48 false, .br 13 48 false, .br 13 48 false, .br 13 57 false, .br 13 58 false, .br 13 58 false, .br 13 58 false, .br 13 67 false, .br 13 68 false, .br 13 68 false, .br 13 68 false, .br 13 77 false, .br 13 76 false, .br 13 138 false, .br 13 138 false, .br 13 145 false, .br 13 146 false, .br 13 146 false, .br 13 153 false, .br 13 154 false, .br 13 154 false, .br 13 154 false, .br 13 163 false, .br 13 162 false, .br 13 210 false, .br 13 210 false, .br 13 210 false, .br 13 210 false, .br 13 246 false, .br 13 246 false, .br 13 246 false, .br 13 246 false, .br 13 257 false]) (os' := []) (by kernel_rfl) (ObsOK.cond h0 (ObsOK.cond h0 (ObsOK.cond h0 (ObsOK.cond h0 (ObsOK.cond h1 (ObsOK.cond h1 (ObsOK.cond h1 (ObsOK.cond h1 (ObsOK.cond h2 (ObsOK.cond h2 (ObsOK.cond h2 (ObsOK.cond h2 (ObsOK.cond h3 (ObsOK.cond h4 (ObsOK.cond h4 (ObsOK.cond h4 (ObsOK.cond h4 (ObsOK.cond h5 (ObsOK.cond h5 (ObsOK.cond h5 (ObsOK.cond h5 (ObsOK.cond h6 (ObsOK.cond h6 (ObsOK.cond h6 (ObsOK.cond h6 (ObsOK.cond h7 (ObsOK.cond h8 (ObsOK.cond h8 (ObsOK.cond h8 (ObsOK.cond h8 (ObsOK.cond h9 (ObsOK.cond h9 (ObsOK.cond h9 (ObsOK.cond h9 (ObsOK.cond h10 (ObsOK.cond h10 (ObsOK.cond h10 (ObsOK.cond h10 (ObsOK.cond h11 (ObsOK.cond h12 (ObsOK.cond h12 (ObsOK.cond h12 (ObsOK.cond h12 (ObsOK.cond h13 (ObsOK.cond h13 (ObsOK.cond h13 (ObsOK.cond h13 (ObsOK.cond h14 (ObsOK.cond h14 (ObsOK.cond h14 (ObsOK.cond h14 (ObsOK.cond h15 (ObsOK.cond h16 (ObsOK.cond h16 (ObsOK.cond h16 (ObsOK.cond h17 (ObsOK.cond h17 (ObsOK.cond h17 (ObsOK.cond h18 (ObsOK.cond h18 (ObsOK.cond h18 (ObsOK.cond h18 (ObsOK.cond h19 (ObsOK.cond h20 (ObsOK.cond h21 (ObsOK.cond h22 (ObsOK.cond h23 (ObsOK.cond h24 (ObsOK.cond h24 (ObsOK.cond h24 (ObsOK.cond h24 (ObsOK.cond h24 (ObsOK.nil)))))))))))))))))))))))))))))))))))))))))))))))))))))))))))))))))))))))))
def lb_r0 (x0 : Int) (x1 : Int) (x2 : Int) (x3 : Int) (x4 : Int) (x5 : Int) (x6 : Int) (x7 : Int) : Bool := (cond (lb_c0 x0 x1 x2 x3 x4 x5 x6 x7) (true) (cond (lb_c1 x0 x1 x2 x3 x4 x5 x6 x7) (true) (cond (lb_c2 x0 x1 x2 x3 x4 x5 x6 x7) (true) (cond (lb_c3 x0 x1 x2 x3 x4 x5 x6 x7) (true) (cond (lb_c4 x0 x1 x2 x3 x4 x5 x6 x7) (true) (cond (lb_c5 x0 x1 x2 x3 x4 x5 x6 x7) (true) (cond (lb_c6 x0 x1 x2 x3 x4 x5 x6 x7) (true) (cond (lb_c7 x0 x1 x2 x3 x4 x5 x6 x7) (true) (cond (lb_c8 x0 x1 x2 x3 x4 x5 x6 x7) (true) (cond (lb_c9 x0 x1 x2 x3 x4 x5 x6 x7) (true) (cond (lb_c10 x0 x1 x2 x3 x4 x5 x6 x7) (true) (cond (lb_c11 x0 x1 x2 x3 x4 x5 x6 x7) (true) (cond (lb_c12 x0 x1 x2 x3 x4 x5 x6 x7) (true) (cond (lb_c13 x0 x1 x2 x3 x4 x5 x6 x7) (true) (cond (lb_c14 x0 x1 x2 x3 x4 x5 x6 x7) (true) (cond (lb_c15 x0 x1 x2 x3 x4 x5 x6 x7) (true) (cond (lb_c16 x0 x1 x2 x3 x4 x5 x6 x7) (false) (cond (lb_c17 x0 x1 x2 x3 x4 x5 x6 x7) (false) (cond (lb_c18 x0 x1 x2 x3 x4 x5 x6 x7) (false) (cond (lb_c19 x0 x1 x2 x3 x4 x5 x6 x7) (false) (cond (lb_c20 x0 x1 x2 x3 x4 x5 x6 x7) (false) (cond (lb_c21 x0 x1 x2 x3 x4 x5 x6 x7) (false) (cond (lb_c22 x0 x1 x2 x3 x4 x5 x6 x7) (false) (cond (lb_c23 x0 x1 x2 x3 x4 x5 x6 x7) (false) (cond (lb_c24 x0 x1 x2 x3 x4 x5 x6 x7) (IntKind.i64.wrap (IntKind.i64.wrap (IntKind.i64.wrap (IntKind.i64.wrap (0 + rsq_r0 (ha_r0 x0 x1 x2 x3 x4 x5 x6 x7) (ha_r1 x0 x1 x2 x3 x4 x5 x6 x7)) + rsq_r0 (ha_r2 x0 x1 x2 x3 x4 x5 x6 x7) (ha_r3 x0 x1 x2 x3 x4 x5 x6 x7)) + rsq_r0 (ha_r4 x0 x1 x2 x3 x4 x5 x6 x7) (ha_r5 x0 x1 x2 x3 x4 x5 x6 x7)) + rsq_r0 (ha_r6 x0 x1 x2 x3 x4 x5 x6 x7) (ha_r7 x0 x1 x2 x3 x4 x5 x6 x7)) == IntKind.i64.wrap (4 * IntKind.i64.wrap (IntKind.i64.wrap (IntKind.i64.wrap (IntKind.i64.wrap (0 + rsq_r0 x0 x1) + rsq_r0 x2 x3) + rsq_r0 x4 x5) + rsq_r0 x6 x7))) (false))))))))))))))))))))))))))
theorem lb_gives (x0 : Int) (x1 : Int) (x2 : Int) (x3 : Int) (x4 : Int) (x5 : Int) (x6 : Int) (x7 : Int) : Gives Tryz.prog envL 0 13 [(.agg #[(.int .i64 (x0)), (.int .i64 (x1)), (.int .i64 (x2)), (.int .i64 (x3)), (.int .i64 (x4)), (.int .i64 (x5)), (.int .i64 (x6)), (.int .i64 (x7))])] heap0 ((.bool (lb_r0 x0 x1 x2 x3 x4 x5 x6 x7)), heap0) := by
  cases g0 : lb_c0 x0 x1 x2 x3 x4 x5 x6 x7
  · skip
    cases g1 : lb_c1 x0 x1 x2 x3 x4 x5 x6 x7
    · skip
      cases g2 : lb_c2 x0 x1 x2 x3 x4 x5 x6 x7
      · skip
        cases g3 : lb_c3 x0 x1 x2 x3 x4 x5 x6 x7
        · skip
          cases g4 : lb_c4 x0 x1 x2 x3 x4 x5 x6 x7
          · skip
            cases g5 : lb_c5 x0 x1 x2 x3 x4 x5 x6 x7
            · skip
              cases g6 : lb_c6 x0 x1 x2 x3 x4 x5 x6 x7
              · skip
                cases g7 : lb_c7 x0 x1 x2 x3 x4 x5 x6 x7
                · skip
                  cases g8 : lb_c8 x0 x1 x2 x3 x4 x5 x6 x7
                  · skip
                    cases g9 : lb_c9 x0 x1 x2 x3 x4 x5 x6 x7
                    · skip
                      cases g10 : lb_c10 x0 x1 x2 x3 x4 x5 x6 x7
                      · skip
                        cases g11 : lb_c11 x0 x1 x2 x3 x4 x5 x6 x7
                        · skip
                          cases g12 : lb_c12 x0 x1 x2 x3 x4 x5 x6 x7
                          · skip
                            cases g13 : lb_c13 x0 x1 x2 x3 x4 x5 x6 x7
                            · skip
                              cases g14 : lb_c14 x0 x1 x2 x3 x4 x5 x6 x7
                              · skip
                                cases g15 : lb_c15 x0 x1 x2 x3 x4 x5 x6 x7
                                · skip
                                  cases g16 : lb_c16 x0 x1 x2 x3 x4 x5 x6 x7
                                  · skip
                                    cases g17 : lb_c17 x0 x1 x2 x3 x4 x5 x6 x7
                                    · skip
                                      cases g18 : lb_c18 x0 x1 x2 x3 x4 x5 x6 x7
                                      · skip
                                        cases g19 : lb_c19 x0 x1 x2 x3 x4 x5 x6 x7
                                        · skip
                                          cases g20 : lb_c20 x0 x1 x2 x3 x4 x5 x6 x7
                                          · skip
                                            cases g21 : lb_c21 x0 x1 x2 x3 x4 x5 x6 x7
                                            · skip
                                              cases g22 : lb_c22 x0 x1 x2 x3 x4 x5 x6 x7
                                              · skip
                                                cases g23 : lb_c23 x0 x1 x2 x3 x4 x5 x6 x7
                                                · skip
                                                  cases g24 : lb_c24 x0 x1 x2 x3 x4 x5 x6 x7
                                                  · skip
                                                    simp only [lb_r0, g0, g1, g2, g3, g4, g5, g6, g7, g8, g9, g10, g11, g12, g13, g14, g15, g16, g17, g18, g19, g20, g21, g22, g23, g24, cond_true, cond_false]; exact lb_p25 x0 x1 x2 x3 x4 x5 x6 x7 g0 g1 g2 g3 g4 g5 g6 g7 g8 g9 g10 g11 g12 g13 g14 g15 g16 g17 g18 g19 g20 g21 g22 g23 g24
                                                  · skip
                                                    simp only [lb_r0, g0, g1, g2, g3, g4, g5, g6, g7, g8, g9, g10, g11, g12, g13, g14, g15, g16, g17, g18, g19, g20, g21, g22, g23, g24, cond_true, cond_false]; exact lb_p24 x0 x1 x2 x3 x4 x5 x6 x7 g0 g1 g2 g3 g4 g5 g6 g7 g8 g9 g10 g11 g12 g13 g14 g15 g16 g17 g18 g19 g20 g21 g22 g23 g24
                                                · skip
                                                  simp only [lb_r0, g0, g1, g2, g3, g4, g5, g6, g7, g8, g9, g10, g11, g12, g13, g14, g15, g16, g17, g18, g19, g20, g21, g22, g23, cond_true, cond_false]; exact lb_p23 x0 x1 x2 x3 x4 x5 x6 x7 g0 g1 g2 g3 g4 g5 g6 g7 g8 g9 g10 g11 g12 g13 g14 g15 g16 g17 g18 g19 g20 g21 g22 g23
                                              · skip
                                                simp only [lb_r0, g0, g1, g2, g3, g4, g5, g6, g7, g8, g9, g10, g11, g12, g13, g14, g15, g16, g17, g18, g19, g20, g21, g22, cond_true, cond_false]; exact lb_p22 x0 x1 x2 x3 x4 x5 x6 x7 g0 g1 g2 g3 g4 g5 g6 g7 g8 g9 g10 g11 g12 g13 g14 g15 g16 g17 g18 g19 g20 g21 g22
                                            · skip
                                              simp only [lb_r0, g0, g1, g2, g3, g4, g5, g6, g7, g8, g9, g10, g11, g12, g13, g14, g15, g16, g17, g18, g19, g20, g21, cond_true, cond_false]; exact lb_p21 x0 x1 x2 x3 x4 x5 x6 x7 g0 g1 g2 g3 g4 g5 g6 g7 g8 g9 g10 g11 g12 g13 g14 g15 g16 g17 g18 g19 g20 g21
                                          · skip
                                            simp only [lb_r0, g0, g1, g2, g3, g4, g5, g6, g7, g8, g9, g10, g11, g12, g13, g14, g15, g16, g17, g18, g19, g20, cond_true, cond_false]; exact lb_p20 x0 x1 x2 x3 x4 x5 x6 x7 g0 g1 g2 g3 g4 g5 g6 g7 g8 g9 g10 g11 g12 g13 g14 g15 g16 g17 g18 g19 g20
                                        · skip
                                          simp only [lb_r0, g0, g1, g2, g3, g4, g5, g6, g7, g8, g9, g10, g11, g12, g13, g14, g15, g16, g17, g18, g19, cond_true, cond_false]; exact lb_p19 x0 x1 x2 x3 x4 x5 x6 x7 g0 g1 g2 g3 g4 g5 g6 g7 g8 g9 g10 g11 g12 g13 g14 g15 g16 g17 g18 g19
                                      · skip
                                        simp only [lb_r0, g0, g1, g2, g3, g4, g5, g6, g7, g8, g9, g10, g11, g12, g13, g14, g15, g16, g17, g18, cond_true, cond_false]; exact lb_p18 x0 x1 x2 x3 x4 x5 x6 x7 g0 g1 g2 g3 g4 g5 g6 g7 g8 g9 g10 g11 g12 g13 g14 g15 g16 g17 g18
                                    · skip
                                      simp only [lb_r0, g0, g1, g2, g3, g4, g5, g6, g7, g8, g9, g10, g11, g12, g13, g14, g15, g16, g17, cond_true, cond_false]; exact lb_p17 x0 x1 x2 x3 x4 x5 x6 x7 g0 g1 g2 g3 g4 g5 g6 g7 g8 g9 g10 g11 g12 g13 g14 g15 g16 g17
                                  · skip
                                    simp only [lb_r0, g0, g1, g2, g3, g4, g5, g6, g7, g8, g9, g10, g11, g12, g13, g14, g15, g16, cond_true, cond_false]; exact lb_p16 x0 x1 x2 x3 x4 x5 x6 x7 g0 g1 g2 g3 g4 g5 g6 g7 g8 g9 g10 g11 g12 g13 g14 g15 g16
                                · skip
                                  simp only [lb_r0, g0, g1, g2, g3, g4, g5, g6, g7, g8, g9, g10, g11, g12, g13, g14, g15, cond_true, cond_false]; exact lb_p15 x0 x1 x2 x3 x4 x5 x6 x7 g0 g1 g2 g3 g4 g5 g6 g7 g8 g9 g10 g11 g12 g13 g14 g15
                              · skip
                                simp only [lb_r0, g0, g1, g2, g3, g4, g5, g6, g7, g8, g9, g10, g11, g12, g13, g14, cond_true, cond_false]; exact lb_p14 x0 x1 x2 x3 x4 x5 x6 x7 g0 g1 g2 g3 g4 g5 g6 g7 g8 g9 g10 g11 g12 g13 g14
                            · skip
                              simp only [lb_r0, g0, g1, g2, g3, g4, g5, g6, g7, g8, g9, g10, g11, g12, g13, cond_true, cond_false]; exact lb_p13 x0 x1 x2 x3 x4 x5 x6 x7 g0 g1 g2 g3 g4 g5 g6 g7 g8 g9 g10 g11 g12 g13
                          · skip
                            simp only [lb_r0, g0, g1, g2, g3, g4, g5, g6, g7, g8, g9, g10, g11, g12, cond_true, cond_false]; exact lb_p12 x0 x1 x2 x3 x4 x5 x6 x7 g0 g1 g2 g3 g4 g5 g6 g7 g8 g9 g10 g11 g12
                        · skip
                          simp only [lb_r0, g0, g1, g2, g3, g4, g5, g6, g7, g8, g9, g10, g11, cond_true, cond_false]; exact lb_p11 x0 x1 x2 x3 x4 x5 x6 x7 g0 g1 g2 g3 g4 g5 g6 g7 g8 g9 g10 g11
                      · skip
                        simp only [lb_r0, g0, g1, g2, g3, g4, g5, g6, g7, g8, g9, g10, cond_true, cond_false]; exact lb_p10 x0 x1 x2 x3 x4 x5 x6 x7 g0 g1 g2 g3 g4 g5 g6 g7 g8 g9 g10
                    · skip
                      simp only [lb_r0, g0, g1, g2, g3, g4, g5, g6, g7, g8, g9, cond_true, cond_false]; exact lb_p9 x0 x1 x2 x3 x4 x5 x6 x7 g0 g1 g2 g3 g4 g5 g6 g7 g8 g9
                  · skip
                    simp only [lb_r0, g0, g1, g2, g3, g4, g5, g6, g7, g8, cond_true, cond_false]; exact lb_p8 x0 x1 x2 x3 x4 x5 x6 x7 g0 g1 g2 g3 g4 g5 g6 g7 g8
                · skip
                  simp only [lb_r0, g0, g1, g2, g3, g4, g5, g6, g7, cond_true, cond_false]; exact lb_p7 x0 x1 x2 x3 x4 x5 x6 x7 g0 g1 g2 g3 g4 g5 g6 g7
              · skip
                simp only [lb_r0, g0, g1, g2, g3, g4, g5, g6, cond_true, cond_false]; exact lb_p6 x0 x1 x2 x3 x4 x5 x6 x7 g0 g1 g2 g3 g4 g5 g6
            · skip
              simp only [lb_r0, g0, g1, g2, g3, g4, g5, cond_true, cond_false]; exact lb_p5 x0 x1 x2 x3 x4 x5 x6 x7 g0 g1 g2 g3 g4 g5
          · skip
            simp only [lb_r0, g0, g1, g2, g3, g4, cond_true, cond_false]; exact lb_p4 x0 x1 x2 x3 x4 x5 x6 x7 g0 g1 g2 g3 g4
        · skip
          simp only [lb_r0, g0, g1, g2, g3, cond_true, cond_false]; exact lb_p3 x0 x1 x2 x3 x4 x5 x6 x7 g0 g1 g2 g3
      · skip
        simp only [lb_r0, g0, g1, g2, cond_true, cond_false]; exact lb_p2 x0 x1 x2 x3 x4 x5 x6 x7 g0 g1 g2
    · skip
      simp only [lb_r0, g0, g1, cond_true, cond_false]; exact lb_p1 x0 x1 x2 x3 x4 x5 x6 x7 g0 g1
  · skip
    simp only [lb_r0, g0, cond_true, cond_false]; exact lb_p0 x0 x1 x2 x3 x4 x5 x6 x7 g0
def B_envBk_13 (args : List Value) : Option (Heap × Value) :=
    match args with
    | [(.agg ⟨[(.int .i64 (x0)), (.int .i64 (x1)), (.int .i64 (x2)), (.int .i64 (x3)), (.int .i64 (x4)), (.int .i64 (x5)), (.int .i64 (x6)), (.int .i64 (x7))]⟩)] => some (heap0, (.bool (lb_r0 x0 x1 x2 x3 x4 x5 x6 x7)))
    | _ => none
theorem B_envBk_13_ok {args : List Value} {H : Heap} {v : Value} (h : B_envBk_13 args = some (H, v)) : 8 ≤ H.length ∧ H.all tableRow = true ∧ Gives Tryz.prog envL 0 13 args H (v, H) := by
  unfold B_envBk_13 at h
  split at h
  · cases h; exact heap0_ok (lb_gives _ _ _ _ _ _ _ _)
  · cases h
def B_envBk (f : FuncId) (args : List Value) : Option (Heap × Value) :=
  if f == 13 then B_envBk_13 args else
  none
noncomputable def envBk : Env := envL.with (baseKnown B_envBk)
theorem envBk_ok : EnvOK Tryz.prog 8 envBk := env_base prog_ok envL_ok fun f args H v h => by
  unfold B_envBk at h
  split at h
  · rename_i hf
    have hf : f = 13 := by simpa using hf
    subst hf
    exact B_envBk_13_ok h
  · skip
    cases h
end Go.Proofs.YtpdiaiccnaoaiaaGreatDoor
/-
What functions give.
-/
namespace Go.Proofs.YtpdiaiccnaoaiaaGreatDoor
open Go Go.Abs
def la_c0 (x0 : Int) (x1 : Int) (x2 : Int) (x3 : Int) (x4 : Int) (x5 : Int) (x6 : Int) (x7 : Int) : Bool := tc_r0 x0 x1 x2 x3 x4 x5 x6 x7 == 0
def la_c1 (x0 : Int) (x1 : Int) (x2 : Int) (x3 : Int) (x4 : Int) (x5 : Int) (x6 : Int) (x7 : Int) : Bool := ha_r0 x0 x1 x2 x3 x4 x5 x6 x7 == rsN_r0 x0 x1 x2 x3 x4 x5 x6 x7 && (ha_r1 x0 x1 x2 x3 x4 x5 x6 x7 == rsN_r1 x0 x1 x2 x3 x4 x5 x6 x7 && true) && (ha_r2 x0 x1 x2 x3 x4 x5 x6 x7 == rsN_r2 x0 x1 x2 x3 x4 x5 x6 x7 && (ha_r3 x0 x1 x2 x3 x4 x5 x6 x7 == rsN_r3 x0 x1 x2 x3 x4 x5 x6 x7 && true) && (ha_r4 x0 x1 x2 x3 x4 x5 x6 x7 == rsN_r4 x0 x1 x2 x3 x4 x5 x6 x7 && (ha_r5 x0 x1 x2 x3 x4 x5 x6 x7 == rsN_r5 x0 x1 x2 x3 x4 x5 x6 x7 && true) && (ha_r6 x0 x1 x2 x3 x4 x5 x6 x7 == rsN_r6 x0 x1 x2 x3 x4 x5 x6 x7 && (ha_r7 x0 x1 x2 x3 x4 x5 x6 x7 == rsN_r7 x0 x1 x2 x3 x4 x5 x6 x7 && true) && true)))
def la_c2 (x0 : Int) (x1 : Int) (x2 : Int) (x3 : Int) (x4 : Int) (x5 : Int) (x6 : Int) (x7 : Int) : Bool := ha_r8 x0 x1 x2 x3 x4 x5 x6 x7 == tc_r0 x0 x1 x2 x3 x4 x5 x6 x7
def la_c3 (x0 : Int) (x1 : Int) (x2 : Int) (x3 : Int) (x4 : Int) (x5 : Int) (x6 : Int) (x7 : Int) : Bool := ba_r0 x0 x1 x2 x3 x4 x5 x6 x7 == rb_r0 x0 x1 x2 x3 x4 x5 x6 x7 && (ba_r1 x0 x1 x2 x3 x4 x5 x6 x7 == rb_r1 x0 x1 x2 x3 x4 x5 x6 x7 && true) && (ba_r2 x0 x1 x2 x3 x4 x5 x6 x7 == rb_r2 x0 x1 x2 x3 x4 x5 x6 x7 && (ba_r3 x0 x1 x2 x3 x4 x5 x6 x7 == rb_r3 x0 x1 x2 x3 x4 x5 x6 x7 && true) && (ba_r4 x0 x1 x2 x3 x4 x5 x6 x7 == rb_r4 x0 x1 x2 x3 x4 x5 x6 x7 && (ba_r5 x0 x1 x2 x3 x4 x5 x6 x7 == rb_r5 x0 x1 x2 x3 x4 x5 x6 x7 && true) && (ba_r6 x0 x1 x2 x3 x4 x5 x6 x7 == rb_r6 x0 x1 x2 x3 x4 x5 x6 x7 && (ba_r7 x0 x1 x2 x3 x4 x5 x6 x7 == rb_r7 x0 x1 x2 x3 x4 x5 x6 x7 && true) && true)))
def la_c4 (x0 : Int) (x1 : Int) (x2 : Int) (x3 : Int) (x4 : Int) (x5 : Int) (x6 : Int) (x7 : Int) : Bool := ha_r0 x0 x1 x2 x3 x4 x5 x6 x7 == 0 && (ha_r1 x0 x1 x2 x3 x4 x5 x6 x7 == 0 && true) && (ha_r2 x0 x1 x2 x3 x4 x5 x6 x7 == 0 && (ha_r3 x0 x1 x2 x3 x4 x5 x6 x7 == 0 && true) && (ha_r4 x0 x1 x2 x3 x4 x5 x6 x7 == 0 && (ha_r5 x0 x1 x2 x3 x4 x5 x6 x7 == 0 && true) && (ha_r6 x0 x1 x2 x3 x4 x5 x6 x7 == 0 && (ha_r7 x0 x1 x2 x3 x4 x5 x6 x7 == 0 && true) && true)))
def la_c5 (x0 : Int) (x1 : Int) (x2 : Int) (x3 : Int) (x4 : Int) (x5 : Int) (x6 : Int) (x7 : Int) : Bool := ba_r0 x0 x1 x2 x3 x4 x5 x6 x7 == 0 && (ba_r1 x0 x1 x2 x3 x4 x5 x6 x7 == 0 && true) && (ba_r2 x0 x1 x2 x3 x4 x5 x6 x7 == 0 && (ba_r3 x0 x1 x2 x3 x4 x5 x6 x7 == 0 && true) && (ba_r4 x0 x1 x2 x3 x4 x5 x6 x7 == 0 && (ba_r5 x0 x1 x2 x3 x4 x5 x6 x7 == 0 && true) && (ba_r6 x0 x1 x2 x3 x4 x5 x6 x7 == 0 && (ba_r7 x0 x1 x2 x3 x4 x5 x6 x7 == 0 && true) && true)))
theorem la_p0 (x0 : Int) (x1 : Int) (x2 : Int) (x3 : Int) (x4 : Int) (x5 : Int) (x6 : Int) (x7 : Int) (h0 : la_c0 x0 x1 x2 x3 x4 x5 x6 x7 = true) (h1 : la_c1 x0 x1 x2 x3 x4 x5 x6 x7 = true) (h2 : la_c2 x0 x1 x2 x3 x4 x5 x6 x7 = true) (h3 : la_c3 x0 x1 x2 x3 x4 x5 x6 x7 = true) : Gives Tryz.prog envL 0 5 [(.agg #[(.int .i64 (x0)), (.int .i64 (x1)), (.int .i64 (x2)), (.int .i64 (x3)), (.int .i64 (x4)), (.int .i64 (x5)), (.int .i64 (x6)), (.int .i64 (x7))])] heap0 ((.bool (ba_r8 x0 x1 x2 x3 x4 x5 x6 x7 == rb_r8 x0 x1 x2 x3 x4 x5 x6 x7)), heap0) :=
  Gives.by (n := 1000) (os := [.br 5 56 true, .br 5 78 true, .br 5 78 true, .br 5 78 true, .br 5 87 true, .br 5 88 true, .br 5 88 true, .br 5 88 true, .br 5 97 true, .br 5 98 true, .br 5 98 true, .br 5 98 true, .br 5 107 true]) (os' := []) (by kernel_rfl) (ObsOK.cond h0 (ObsOK.cond h1 (ObsOK.cond h1 (ObsOK.cond h1 (ObsOK.cond h1 (ObsOK.cond h2 (ObsOK.cond h2 (ObsOK.cond h2 (ObsOK.cond h2 (ObsOK.cond h3 (ObsOK.cond h3 (ObsOK.cond h3 (ObsOK.cond h3 (ObsOK.nil))))))))))))))
theorem la_p1 (x0 : Int) (x1 : Int) (x2 : Int) (x3 : Int) (x4 : Int) (x5 : Int) (x6 : Int) (x7 : Int) (h0 : la_c0 x0 x1 x2 x3 x4 x5 x6 x7 = true) (h1 : la_c1 x0 x1 x2 x3 x4 x5 x6 x7 = true) (h2 : la_c2 x0 x1 x2 x3 x4 x5 x6 x7 = true) (h3 : la_c3 x0 x1 x2 x3 x4 x5 x6 x7 = false) : Gives Tryz.prog envL 0 5 [(.agg #[(.int .i64 (x0)), (.int .i64 (x1)), (.int .i64 (x2)), (.int .i64 (x3)), (.int .i64 (x4)), (.int .i64 (x5)), (.int .i64 (x6)), (.int .i64 (x7))])] heap0 ((.bool false), heap0) :=
  Gives.by (n := 1000) (os := [.br 5 56 true, .br 5 78 true, .br 5 78 true, .br 5 78 true, .br 5 87 true, .br 5 88 true, .br 5 88 true, .br 5 88 true, .br 5 97 true, .br 5 98 false, .br 5 98 false, .br 5 98 false, .br 5 107 false]) (os' := []) (by kernel_rfl) (ObsOK.cond h0 (ObsOK.cond h1 (ObsOK.cond h1 (ObsOK.cond h1 (ObsOK.cond h1 (ObsOK.cond h2 (ObsOK.cond h2 (ObsOK.cond h2 (ObsOK.cond h2 (ObsOK.cond h3 (ObsOK.cond h3 (ObsOK.cond h3 (ObsOK.cond h3 (ObsOK.nil))))))))))))))
theorem la_p2 (x0 : Int) (x1 : Int) (x2 : Int) (x3 : Int) (x4 : Int) (x5 : Int) (x6 : Int) (x7 : Int) (h0 : la_c0 x0 x1 x2 x3 x4 x5 x6 x7 = true) (h1 : la_c1 x0 x1 x2 x3 x4 x5 x6 x7 = true) (h2 : la_c2 x0 x1 x2 x3 x4 x5 x6 x7 = false) : Gives Tryz.prog envL 0 5 [(.agg #[(.int .i64 (x0)), (.int .i64 (x1)), (.int .i64 (x2)), (.int .i64 (x3)), (.int .i64 (x4)), (.int .i64 (x5)), (.int .i64 (x6)), (.int .i64 (x7))])] heap0 ((.bool false), heap0) :=
  Gives.by (n := 1000) (os := [.br 5 56 true, .br 5 78 true, .br 5 78 true, .br 5 78 true, .br 5 87 true, .br 5 88 false, .br 5 88 false, .br 5 88 false, .br 5 97 false]) (os' := []) (by kernel_rfl) (ObsOK.cond h0 (ObsOK.cond h1 (ObsOK.cond h1 (ObsOK.cond h1 (ObsOK.cond h1 (ObsOK.cond h2 (ObsOK.cond h2 (ObsOK.cond h2 (ObsOK.cond h2 (ObsOK.nil))))))))))
theorem la_p3 (x0 : Int) (x1 : Int) (x2 : Int) (x3 : Int) (x4 : Int) (x5 : Int) (x6 : Int) (x7 : Int) (h0 : la_c0 x0 x1 x2 x3 x4 x5 x6 x7 = true) (h1 : la_c1 x0 x1 x2 x3 x4 x5 x6 x7 = false) : Gives Tryz.prog envL 0 5 [(.agg #[(.int .i64 (x0)), (.int .i64 (x1)), (.int .i64 (x2)), (.int .i64 (x3)), (.int .i64 (x4)), (.int .i64 (x5)), (.int .i64 (x6)), (.int .i64 (x7))])] heap0 ((.bool false), heap0) :=
  Gives.by (n := 1000) (os := [.br 5 56 true, .br 5 78 false, .br 5 78 false, .br 5 78 false, .br 5 87 false]) (os' := []) (by kernel_rfl) (ObsOK.cond h0 (ObsOK.cond h1 (ObsOK.cond h1 (ObsOK.cond h1 (ObsOK.cond h1 (ObsOK.nil))))))
theorem la_p4 (x0 : Int) (x1 : Int) (x2 : Int) (x3 : Int) (x4 : Int) (x5 : Int) (x6 : Int) (x7 : Int) (h0 : la_c0 x0 x1 x2 x3 x4 x5 x6 x7 = false) (h1 : la_c4 x0 x1 x2 x3 x4 x5 x6 x7 = true) (h2 : la_c2 x0 x1 x2 x3 x4 x5 x6 x7 = true) (h3 : la_c5 x0 x1 x2 x3 x4 x5 x6 x7 = true) : Gives Tryz.prog envL 0 5 [(.agg #[(.int .i64 (x0)), (.int .i64 (x1)), (.int .i64 (x2)), (.int .i64 (x3)), (.int .i64 (x4)), (.int .i64 (x5)), (.int .i64 (x6)), (.int .i64 (x7))])] heap0 ((.bool (ba_r8 x0 x1 x2 x3 x4 x5 x6 x7 == tc_r0 x0 x1 x2 x3 x4 x5 x6 x7)), heap0) :=
  Gives.by (n := 1000) (os := [.br 5 56 false, .br 5 78 true, .br 5 78 true, .br 5 78 true, .br 5 87 true, .br 5 88 true, .br 5 88 true, .br 5 88 true, .br 5 97 true, .br 5 98 true, .br 5 98 true, .br 5 98 true, .br 5 107 true]) (os' := []) (by kernel_rfl) (ObsOK.cond h0 (ObsOK.cond h1 (ObsOK.cond h1 (ObsOK.cond h1 (ObsOK.cond h1 (ObsOK.cond h2 (ObsOK.cond h2 (ObsOK.cond h2 (ObsOK.cond h2 (ObsOK.cond h3 (ObsOK.cond h3 (ObsOK.cond h3 (ObsOK.cond h3 (ObsOK.nil))))))))))))))
theorem la_p5 (x0 : Int) (x1 : Int) (x2 : Int) (x3 : Int) (x4 : Int) (x5 : Int) (x6 : Int) (x7 : Int) (h0 : la_c0 x0 x1 x2 x3 x4 x5 x6 x7 = false) (h1 : la_c4 x0 x1 x2 x3 x4 x5 x6 x7 = true) (h2 : la_c2 x0 x1 x2 x3 x4 x5 x6 x7 = true) (h3 : la_c5 x0 x1 x2 x3 x4 x5 x6 x7 = false) : Gives Tryz.prog envL 0 5 [(.agg #[(.int .i64 (x0)), (.int .i64 (x1)), (.int .i64 (x2)), (.int .i64 (x3)), (.int .i64 (x4)), (.int .i64 (x5)), (.int .i64 (x6)), (.int .i64 (x7))])] heap0 ((.bool false), heap0) :=
  Gives.by (n := 1000) (os := [.br 5 56 false, .br 5 78 true, .br 5 78 true, .br 5 78 true, .br 5 87 true, .br 5 88 true, .br 5 88 true, .br 5 88 true, .br 5 97 true, .br 5 98 false, .br 5 98 false, .br 5 98 false, .br 5 107 false]) (os' := []) (by kernel_rfl) (ObsOK.cond h0 (ObsOK.cond h1 (ObsOK.cond h1 (ObsOK.cond h1 (ObsOK.cond h1 (ObsOK.cond h2 (ObsOK.cond h2 (ObsOK.cond h2 (ObsOK.cond h2 (ObsOK.cond h3 (ObsOK.cond h3 (ObsOK.cond h3 (ObsOK.cond h3 (ObsOK.nil))))))))))))))
theorem la_p6 (x0 : Int) (x1 : Int) (x2 : Int) (x3 : Int) (x4 : Int) (x5 : Int) (x6 : Int) (x7 : Int) (h0 : la_c0 x0 x1 x2 x3 x4 x5 x6 x7 = false) (h1 : la_c4 x0 x1 x2 x3 x4 x5 x6 x7 = true) (h2 : la_c2 x0 x1 x2 x3 x4 x5 x6 x7 = false) : Gives Tryz.prog envL 0 5 [(.agg #[(.int .i64 (x0)), (.int .i64 (x1)), (.int .i64 (x2)), (.int .i64 (x3)), (.int .i64 (x4)), (.int .i64 (x5)), (.int .i64 (x6)), (.int .i64 (x7))])] heap0 ((.bool false), heap0) :=
  Gives.by (n := 1000) (os := [.br 5 56 false, .br 5 78 true, .br 5 78 true, .br 5 78 true, .br 5 87 true, .br 5 88 false, .br 5 88 false, .br 5 88 false, .br 5 97 false]) (os' := []) (by kernel_rfl) (ObsOK.cond h0 (ObsOK.cond h1 (ObsOK.cond h1 (ObsOK.cond h1 (ObsOK.cond h1 (ObsOK.cond h2 (ObsOK.cond h2 (ObsOK.cond h2 (ObsOK.cond h2 (ObsOK.nil))))))))))
theorem la_p7 (x0 : Int) (x1 : Int) (x2 : Int) (x3 : Int) (x4 : Int) (x5 : Int) (x6 : Int) (x7 : Int) (h0 : la_c0 x0 x1 x2 x3 x4 x5 x6 x7 = false) (h1 : la_c4 x0 x1 x2 x3 x4 x5 x6 x7 = false) : Gives Tryz.prog envL 0 5 [(.agg #[(.int .i64 (x0)), (.int .i64 (x1)), (.int .i64 (x2)), (.int .i64 (x3)), (.int .i64 (x4)), (.int .i64 (x5)), (.int .i64 (x6)), (.int .i64 (x7))])] heap0 ((.bool false), heap0) :=
  Gives.by (n := 1000) (os := [.br 5 56 false, .br 5 78 false, .br 5 78 false, .br 5 78 false, .br 5 87 false]) (os' := []) (by kernel_rfl) (ObsOK.cond h0 (ObsOK.cond h1 (ObsOK.cond h1 (ObsOK.cond h1 (ObsOK.cond h1 (ObsOK.nil))))))
def la_r0 (x0 : Int) (x1 : Int) (x2 : Int) (x3 : Int) (x4 : Int) (x5 : Int) (x6 : Int) (x7 : Int) : Bool := (cond (la_c0 x0 x1 x2 x3 x4 x5 x6 x7) (cond (la_c1 x0 x1 x2 x3 x4 x5 x6 x7) (cond (la_c2 x0 x1 x2 x3 x4 x5 x6 x7) (cond (la_c3 x0 x1 x2 x3 x4 x5 x6 x7) (ba_r8 x0 x1 x2 x3 x4 x5 x6 x7 == rb_r8 x0 x1 x2 x3 x4 x5 x6 x7) (false)) (false)) (false)) (cond (la_c4 x0 x1 x2 x3 x4 x5 x6 x7) (cond (la_c2 x0 x1 x2 x3 x4 x5 x6 x7) (cond (la_c5 x0 x1 x2 x3 x4 x5 x6 x7) (ba_r8 x0 x1 x2 x3 x4 x5 x6 x7 == tc_r0 x0 x1 x2 x3 x4 x5 x6 x7) (false)) (false)) (false)))
theorem la_gives (x0 : Int) (x1 : Int) (x2 : Int) (x3 : Int) (x4 : Int) (x5 : Int) (x6 : Int) (x7 : Int) : Gives Tryz.prog envL 0 5 [(.agg #[(.int .i64 (x0)), (.int .i64 (x1)), (.int .i64 (x2)), (.int .i64 (x3)), (.int .i64 (x4)), (.int .i64 (x5)), (.int .i64 (x6)), (.int .i64 (x7))])] heap0 ((.bool (la_r0 x0 x1 x2 x3 x4 x5 x6 x7)), heap0) := by
  cases g0 : la_c0 x0 x1 x2 x3 x4 x5 x6 x7
  · skip
    cases g4 : la_c4 x0 x1 x2 x3 x4 x5 x6 x7
    · skip
      simp only [la_r0, g0, g4, cond_true, cond_false]; exact la_p7 x0 x1 x2 x3 x4 x5 x6 x7 g0 g4
    · skip
      cases g2 : la_c2 x0 x1 x2 x3 x4 x5 x6 x7
      · skip
        simp only [la_r0, g0, g4, g2, cond_true, cond_false]; exact la_p6 x0 x1 x2 x3 x4 x5 x6 x7 g0 g4 g2
      · skip
        cases g5 : la_c5 x0 x1 x2 x3 x4 x5 x6 x7
        · skip
          simp only [la_r0, g0, g4, g2, g5, cond_true, cond_false]; exact la_p5 x0 x1 x2 x3 x4 x5 x6 x7 g0 g4 g2 g5
        · skip
          simp only [la_r0, g0, g4, g2, g5, cond_true, cond_false]; exact la_p4 x0 x1 x2 x3 x4 x5 x6 x7 g0 g4 g2 g5
  · skip
    cases g1 : la_c1 x0 x1 x2 x3 x4 x5 x6 x7
    · skip
      simp only [la_r0, g0, g1, cond_true, cond_false]; exact la_p3 x0 x1 x2 x3 x4 x5 x6 x7 g0 g1
    · skip
      cases g2 : la_c2 x0 x1 x2 x3 x4 x5 x6 x7
      · skip
        simp only [la_r0, g0, g1, g2, cond_true, cond_false]; exact la_p2 x0 x1 x2 x3 x4 x5 x6 x7 g0 g1 g2
      · skip
        cases g3 : la_c3 x0 x1 x2 x3 x4 x5 x6 x7
        · skip
          simp only [la_r0, g0, g1, g2, g3, cond_true, cond_false]; exact la_p1 x0 x1 x2 x3 x4 x5 x6 x7 g0 g1 g2 g3
        · skip
          simp only [la_r0, g0, g1, g2, g3, cond_true, cond_false]; exact la_p0 x0 x1 x2 x3 x4 x5 x6 x7 g0 g1 g2 g3
def B_envGg_5 (args : List Value) : Option (Heap × Value) :=
    match args with
    | [(.agg ⟨[(.int .i64 (x0)), (.int .i64 (x1)), (.int .i64 (x2)), (.int .i64 (x3)), (.int .i64 (x4)), (.int .i64 (x5)), (.int .i64 (x6)), (.int .i64 (x7))]⟩)] => some (heap0, (.bool (la_r0 x0 x1 x2 x3 x4 x5 x6 x7)))
    | _ => none
theorem B_envGg_5_ok {args : List Value} {H : Heap} {v : Value} (h : B_envGg_5 args = some (H, v)) : 8 ≤ H.length ∧ H.all tableRow = true ∧ Gives Tryz.prog envL 0 5 args H (v, H) := by
  unfold B_envGg_5 at h
  split at h
  · cases h; exact heap0_ok (la_gives _ _ _ _ _ _ _ _)
  · cases h
def B_envGg (f : FuncId) (args : List Value) : Option (Heap × Value) :=
  if f == 5 then B_envGg_5 args else
  none
noncomputable def envGg : Env := envL.with (baseKnown B_envGg)
theorem envGg_ok : EnvOK Tryz.prog 8 envGg := env_base prog_ok envL_ok fun f args H v h => by
  unfold B_envGg at h
  split at h
  · rename_i hf
    have hf : f = 5 := by simpa using hf
    subst hf
    exact B_envGg_5_ok h
  · skip
    cases h
end Go.Proofs.YtpdiaiccnaoaiaaGreatDoor
/-
ArrayHarmonics: the law is true, by arithmetic.
-/
namespace Go.Proofs.YtpdiaiccnaoaiaaGreatDoor
open Go Go.Abs
theorem w_id {n : Int} (h1 : -9223372036854775808 ≤ n) (h2 : n ≤ 9223372036854775807) : IntKind.i64.wrap n = n := by
  simp [IntKind.wrap, IntKind.bits, IntKind.signed]
  omega
theorem td4 (S : Int) : S = 4 * S.tdiv 4 + S.tmod 4 ∧ -4 < S.tmod 4 ∧ S.tmod 4 < 4 := by
  have h1 := Int.mul_tdiv_add_tmod S 4
  have h2 := Int.tmod_lt_of_pos S (show (0 : Int) < 4 by decide)
  have h3 := Int.lt_tmod_of_pos S (show (0 : Int) < 4 by decide)
  omega
def inR (x : Int) : Prop := -999999999 ≤ x ∧ x ≤ 999999999
theorem cr_in (x : Int) : (cr_r0 x (-999999999) 999999999 = 0 ∧ inR x) ∨ (cr_r0 x (-999999999) 999999999 = 3 ∧ ¬ inR x) := by
  unfold cr_r0 cr_c0 cr_c1 inR
  by_cases h1 : x < -999999999
  · right; simp [h1]; omega
  · by_cases h2 : x > 999999999
    · right; simp [h1, h2]
    · left; simp [h1, h2]; omega
theorem cn_in (x y : Int) : (cn_r0 x y = 0 ∧ inR x ∧ inR y) ∨ (cn_r0 x y = 3 ∧ ¬ (inR x ∧ inR y)) := by
  have key : ∀ x : Int, (x != if 999999999 < if -999999999 > x then -999999999 else x then 999999999 else if -999999999 > x then -999999999 else x) = true ↔ ¬ inR x := by
    intro x
    unfold inR
    rw [bne_iff_ne]
    split
    · split at * <;> constructor <;> intro _ <;> omega
    · split at * <;> constructor <;> intro _ <;> omega
  unfold cn_r0 cn_c0 cn_c1
  by_cases gx : inR x
  · rw [show (x != if 999999999 < if -999999999 > x then -999999999 else x then 999999999 else if -999999999 > x then -999999999 else x) = false from Bool.eq_false_iff.2 fun h => (key x).1 h gx]
    by_cases gy : inR y
    · rw [show (y != if 999999999 < if -999999999 > y then -999999999 else y then 999999999 else if -999999999 > y then -999999999 else y) = false from Bool.eq_false_iff.2 fun h => (key y).1 h gy]
      exact .inl ⟨rfl, gx, gy⟩
    · rw [(key y).2 gy]
      exact .inr ⟨rfl, fun h => gy h.2⟩
  · rw [(key x).2 gx]
    exact .inr ⟨rfl, fun h => gx h.1⟩
section
variable (x0 x1 x2 x3 x4 x5 x6 x7 : Int)
def allR : Prop := inR x0 ∧ inR x1 ∧ inR x2 ∧ inR x3 ∧ inR x4 ∧ inR x5 ∧ inR x6 ∧ inR x7
theorem tc_in : (tc_r0 x0 x1 x2 x3 x4 x5 x6 x7 = 0 ∧ allR x0 x1 x2 x3 x4 x5 x6 x7) ∨ (tc_r0 x0 x1 x2 x3 x4 x5 x6 x7 = 3 ∧ ¬ allR x0 x1 x2 x3 x4 x5 x6 x7) := by
  unfold tc_r0 tc_c0 tc_c1 tc_c2 tc_c3 tc_c4 tc_c5 tc_c6 tc_c7 allR
  rcases cr_in x0 with ⟨h0, g0⟩ | ⟨h0, g0⟩
  · rcases cr_in x1 with ⟨h1, g1⟩ | ⟨h1, g1⟩
    · rcases cr_in x2 with ⟨h2, g2⟩ | ⟨h2, g2⟩
      · rcases cr_in x3 with ⟨h3, g3⟩ | ⟨h3, g3⟩
        · rcases cr_in x4 with ⟨h4, g4⟩ | ⟨h4, g4⟩
          · rcases cr_in x5 with ⟨h5, g5⟩ | ⟨h5, g5⟩
            · rcases cr_in x6 with ⟨h6, g6⟩ | ⟨h6, g6⟩
              · rcases cr_in x7 with ⟨h7, g7⟩ | ⟨h7, g7⟩
                · left; simp [h0, h1, h2, h3, h4, h5, h6, h7, g0, g1, g2, g3, g4, g5, g6, g7]
                · right; simp [h0, h1, h2, h3, h4, h5, h6, h7, g7]
              · right; simp [h0, h1, h2, h3, h4, h5, h6, g6]
            · right; simp [h0, h1, h2, h3, h4, h5, g5]
          · right; simp [h0, h1, h2, h3, h4, g4]
        · right; simp [h0, h1, h2, h3, g3]
      · right; simp [h0, h1, h2, g2]
    · right; simp [h0, h1, g1]
  · right; simp [h0, g0]
theorem cv_in : (cv_r0 x0 x1 x2 x3 x4 x5 x6 x7 = 0 ∧ allR x0 x1 x2 x3 x4 x5 x6 x7) ∨ (cv_r0 x0 x1 x2 x3 x4 x5 x6 x7 = 3 ∧ ¬ allR x0 x1 x2 x3 x4 x5 x6 x7) := by
  unfold cv_r0 cv_c0 cv_c1 cv_c2 cv_c3 allR
  rcases cn_in x0 x1 with ⟨h0, g0⟩ | ⟨h0, g0⟩
  · rcases cn_in x2 x3 with ⟨h1, g1⟩ | ⟨h1, g1⟩
    · rcases cn_in x4 x5 with ⟨h2, g2⟩ | ⟨h2, g2⟩
      · rcases cn_in x6 x7 with ⟨h3, g3⟩ | ⟨h3, g3⟩
        · left; simp [h0, h1, h2, h3, g0, g1, g2, g3]
        · right; simp only [h0, h1, h2, h3]; exact ⟨rfl, fun h => g3 ⟨h.2.2.2.2.2.2.1, h.2.2.2.2.2.2.2⟩⟩
      · right; simp only [h0, h1, h2]; exact ⟨rfl, fun h => g2 ⟨h.2.2.2.2.1, h.2.2.2.2.2.1⟩⟩
    · right; simp only [h0, h1]; exact ⟨rfl, fun h => g1 ⟨h.2.2.1, h.2.2.2.1⟩⟩
  · right; simp only [h0]; exact ⟨rfl, fun h => g0 ⟨h.1, h.2.1⟩⟩
end
def big (x : Int) : Prop := -100000000000 ≤ x ∧ x ≤ 100000000000
section
variable {x0 x1 x2 x3 x4 x5 x6 x7 : Int} (h0 : big x0) (h1 : big x1) (h2 : big x2) (h3 : big x3) (h4 : big x4) (h5 : big x5) (h6 : big x6) (h7 : big x7)
include h0 h1 h2 h3 h4 h5 h6 h7
theorem sN_0 : sN_r0 x0 x1 x2 x3 x4 x5 x6 x7 = x0 + x2 + x4 + x6 := by
  unfold big at *
  unfold sN_r0
  try simp only [tm1_r0, tm1_r1, tm2_r0]
  simp (disch := omega) only [w_id]
  omega
theorem sN_1 : sN_r1 x0 x1 x2 x3 x4 x5 x6 x7 = x1 + x3 + x5 + x7 := by
  unfold big at *
  unfold sN_r1
  try simp only [tm1_r0, tm1_r1, tm2_r0]
  simp (disch := omega) only [w_id]
  omega
theorem sN_2 : sN_r2 x0 x1 x2 x3 x4 x5 x6 x7 = x0 + x3 - x4 - x7 := by
  unfold big at *
  unfold sN_r2
  try simp only [tm1_r0, tm1_r1, tm2_r0]
  simp (disch := omega) only [w_id]
  omega
theorem sN_3 : sN_r3 x0 x1 x2 x3 x4 x5 x6 x7 = x1 - x2 - x5 + x6 := by
  unfold big at *
  unfold sN_r3
  try simp only [tm1_r0, tm1_r1, tm2_r0]
  simp (disch := omega) only [w_id]
  omega
theorem sN_4 : sN_r4 x0 x1 x2 x3 x4 x5 x6 x7 = x0 - x2 + x4 - x6 := by
  unfold big at *
  unfold sN_r4
  try simp only [tm1_r0, tm1_r1, tm2_r0]
  simp (disch := omega) only [w_id]
  omega
theorem sN_5 : sN_r5 x0 x1 x2 x3 x4 x5 x6 x7 = x1 - x3 + x5 - x7 := by
  unfold big at *
  unfold sN_r5
  try simp only [tm1_r0, tm1_r1, tm2_r0]
  simp (disch := omega) only [w_id]
  omega
theorem sN_6 : sN_r6 x0 x1 x2 x3 x4 x5 x6 x7 = x0 - x3 - x4 + x7 := by
  unfold big at *
  unfold sN_r6
  try simp only [tm1_r0, tm1_r1, tm2_r0]
  simp (disch := omega) only [w_id]
  omega
theorem sN_7 : sN_r7 x0 x1 x2 x3 x4 x5 x6 x7 = x1 + x2 - x5 - x6 := by
  unfold big at *
  unfold sN_r7
  try simp only [tm1_r0, tm1_r1, tm2_r0]
  simp (disch := omega) only [w_id]
  omega
theorem sP_0 : sP_r0 x0 x1 x2 x3 x4 x5 x6 x7 = x0 + x2 + x4 + x6 := by
  unfold big at *
  unfold sP_r0

  simp (disch := omega) only [w_id]
  omega
theorem sP_1 : sP_r1 x0 x1 x2 x3 x4 x5 x6 x7 = x1 + x3 + x5 + x7 := by
  unfold big at *
  unfold sP_r1

  simp (disch := omega) only [w_id]
  omega
theorem sP_2 : sP_r2 x0 x1 x2 x3 x4 x5 x6 x7 = x0 - x3 - x4 + x7 := by
  unfold big at *
  unfold sP_r2

  simp (disch := omega) only [w_id]
  omega
theorem sP_3 : sP_r3 x0 x1 x2 x3 x4 x5 x6 x7 = x1 + x2 - x5 - x6 := by
  unfold big at *
  unfold sP_r3

  simp (disch := omega) only [w_id]
  omega
theorem sP_4 : sP_r4 x0 x1 x2 x3 x4 x5 x6 x7 = x0 - x2 + x4 - x6 := by
  unfold big at *
  unfold sP_r4

  simp (disch := omega) only [w_id]
  omega
theorem sP_5 : sP_r5 x0 x1 x2 x3 x4 x5 x6 x7 = x1 - x3 + x5 - x7 := by
  unfold big at *
  unfold sP_r5

  simp (disch := omega) only [w_id]
  omega
theorem sP_6 : sP_r6 x0 x1 x2 x3 x4 x5 x6 x7 = x0 + x3 - x4 - x7 := by
  unfold big at *
  unfold sP_r6

  simp (disch := omega) only [w_id]
  omega
theorem sP_7 : sP_r7 x0 x1 x2 x3 x4 x5 x6 x7 = x1 - x2 - x5 + x6 := by
  unfold big at *
  unfold sP_r7

  simp (disch := omega) only [w_id]
  omega
theorem rsN_0 : rsN_r0 x0 x1 x2 x3 x4 x5 x6 x7 = x0 + x2 + x4 + x6 := by
  unfold big at *
  unfold rsN_r0

  simp (disch := omega) only [w_id]
  omega
theorem rsN_1 : rsN_r1 x0 x1 x2 x3 x4 x5 x6 x7 = x1 + x3 + x5 + x7 := by
  unfold big at *
  unfold rsN_r1

  simp (disch := omega) only [w_id]
  omega
theorem rsN_2 : rsN_r2 x0 x1 x2 x3 x4 x5 x6 x7 = x0 + x3 - x4 - x7 := by
  unfold big at *
  unfold rsN_r2

  simp (disch := omega) only [w_id]
  omega
theorem rsN_3 : rsN_r3 x0 x1 x2 x3 x4 x5 x6 x7 = x1 - x2 - x5 + x6 := by
  unfold big at *
  unfold rsN_r3

  simp (disch := omega) only [w_id]
  omega
theorem rsN_4 : rsN_r4 x0 x1 x2 x3 x4 x5 x6 x7 = x0 - x2 + x4 - x6 := by
  unfold big at *
  unfold rsN_r4

  simp (disch := omega) only [w_id]
  omega
theorem rsN_5 : rsN_r5 x0 x1 x2 x3 x4 x5 x6 x7 = x1 - x3 + x5 - x7 := by
  unfold big at *
  unfold rsN_r5

  simp (disch := omega) only [w_id]
  omega
theorem rsN_6 : rsN_r6 x0 x1 x2 x3 x4 x5 x6 x7 = x0 - x3 - x4 + x7 := by
  unfold big at *
  unfold rsN_r6

  simp (disch := omega) only [w_id]
  omega
theorem rsN_7 : rsN_r7 x0 x1 x2 x3 x4 x5 x6 x7 = x1 + x2 - x5 - x6 := by
  unfold big at *
  unfold rsN_r7

  simp (disch := omega) only [w_id]
  omega
theorem rsP_0 : rsP_r0 x0 x1 x2 x3 x4 x5 x6 x7 = x0 + x2 + x4 + x6 := by
  unfold big at *
  unfold rsP_r0

  simp (disch := omega) only [w_id]
  omega
theorem rsP_1 : rsP_r1 x0 x1 x2 x3 x4 x5 x6 x7 = x1 + x3 + x5 + x7 := by
  unfold big at *
  unfold rsP_r1

  simp (disch := omega) only [w_id]
  omega
theorem rsP_2 : rsP_r2 x0 x1 x2 x3 x4 x5 x6 x7 = x0 - x3 - x4 + x7 := by
  unfold big at *
  unfold rsP_r2

  simp (disch := omega) only [w_id]
  omega
theorem rsP_3 : rsP_r3 x0 x1 x2 x3 x4 x5 x6 x7 = x1 + x2 - x5 - x6 := by
  unfold big at *
  unfold rsP_r3

  simp (disch := omega) only [w_id]
  omega
theorem rsP_4 : rsP_r4 x0 x1 x2 x3 x4 x5 x6 x7 = x0 - x2 + x4 - x6 := by
  unfold big at *
  unfold rsP_r4

  simp (disch := omega) only [w_id]
  omega
theorem rsP_5 : rsP_r5 x0 x1 x2 x3 x4 x5 x6 x7 = x1 - x3 + x5 - x7 := by
  unfold big at *
  unfold rsP_r5

  simp (disch := omega) only [w_id]
  omega
theorem rsP_6 : rsP_r6 x0 x1 x2 x3 x4 x5 x6 x7 = x0 + x3 - x4 - x7 := by
  unfold big at *
  unfold rsP_r6

  simp (disch := omega) only [w_id]
  omega
theorem rsP_7 : rsP_r7 x0 x1 x2 x3 x4 x5 x6 x7 = x1 - x2 - x5 + x6 := by
  unfold big at *
  unfold rsP_r7

  simp (disch := omega) only [w_id]
  omega
end
end Go.Proofs.YtpdiaiccnaoaiaaGreatDoor
/-
ArrayHarmonics: the law is true.
-/
namespace Go.Proofs.YtpdiaiccnaoaiaaGreatDoor
open Go Go.Abs
theorem td4b {S : Int} (h1 : -4000000000 ≤ S) (h2 : S ≤ 4000000000) : big (S.tdiv 4) ∧ IntKind.i64.wrap (S.tdiv 4) = S.tdiv 4 := by
  have t := td4 S
  exact ⟨by unfold big; omega, w_id (by omega) (by omega)⟩
theorem ar1_0 {x0 x1 x2 x3 x4 x5 x6 x7 q0 q1 q2 q3 q4 q5 q6 q7 m0 m1 m2 m3 m4 m5 m6 m7 : Int} (t0 : x0 + x2 + x4 + x6 = 4 * q0 + m0) (t1 : x1 + x3 + x5 + x7 = 4 * q1 + m1) (t2 : x0 - x3 - x4 + x7 = 4 * q2 + m2) (t3 : x1 + x2 - x5 - x6 = 4 * q3 + m3) (t4 : x0 - x2 + x4 - x6 = 4 * q4 + m4) (t5 : x1 - x3 + x5 - x7 = 4 * q5 + m5) (t6 : x0 + x3 - x4 - x7 = 4 * q6 + m6) (t7 : x1 - x2 - x5 + x6 = 4 * q7 + m7) (z0 : m0 = 0) (z1 : m1 = 0) (z2 : m2 = 0) (z3 : m3 = 0) (z4 : m4 = 0) (z5 : m5 = 0) (z6 : m6 = 0) (z7 : m7 = 0) : q0 + q2 + q4 + q6 = x0 := by
  subst z0 z1 z2 z3 z4 z5 z6 z7
  omega
theorem ar1_1 {x0 x1 x2 x3 x4 x5 x6 x7 q0 q1 q2 q3 q4 q5 q6 q7 m0 m1 m2 m3 m4 m5 m6 m7 : Int} (t0 : x0 + x2 + x4 + x6 = 4 * q0 + m0) (t1 : x1 + x3 + x5 + x7 = 4 * q1 + m1) (t2 : x0 - x3 - x4 + x7 = 4 * q2 + m2) (t3 : x1 + x2 - x5 - x6 = 4 * q3 + m3) (t4 : x0 - x2 + x4 - x6 = 4 * q4 + m4) (t5 : x1 - x3 + x5 - x7 = 4 * q5 + m5) (t6 : x0 + x3 - x4 - x7 = 4 * q6 + m6) (t7 : x1 - x2 - x5 + x6 = 4 * q7 + m7) (z0 : m0 = 0) (z1 : m1 = 0) (z2 : m2 = 0) (z3 : m3 = 0) (z4 : m4 = 0) (z5 : m5 = 0) (z6 : m6 = 0) (z7 : m7 = 0) : q1 + q3 + q5 + q7 = x1 := by
  subst z0 z1 z2 z3 z4 z5 z6 z7
  omega
theorem ar1_2 {x0 x1 x2 x3 x4 x5 x6 x7 q0 q1 q2 q3 q4 q5 q6 q7 m0 m1 m2 m3 m4 m5 m6 m7 : Int} (t0 : x0 + x2 + x4 + x6 = 4 * q0 + m0) (t1 : x1 + x3 + x5 + x7 = 4 * q1 + m1) (t2 : x0 - x3 - x4 + x7 = 4 * q2 + m2) (t3 : x1 + x2 - x5 - x6 = 4 * q3 + m3) (t4 : x0 - x2 + x4 - x6 = 4 * q4 + m4) (t5 : x1 - x3 + x5 - x7 = 4 * q5 + m5) (t6 : x0 + x3 - x4 - x7 = 4 * q6 + m6) (t7 : x1 - x2 - x5 + x6 = 4 * q7 + m7) (z0 : m0 = 0) (z1 : m1 = 0) (z2 : m2 = 0) (z3 : m3 = 0) (z4 : m4 = 0) (z5 : m5 = 0) (z6 : m6 = 0) (z7 : m7 = 0) : q0 + q3 - q4 - q7 = x2 := by
  subst z0 z1 z2 z3 z4 z5 z6 z7
  omega
theorem ar1_3 {x0 x1 x2 x3 x4 x5 x6 x7 q0 q1 q2 q3 q4 q5 q6 q7 m0 m1 m2 m3 m4 m5 m6 m7 : Int} (t0 : x0 + x2 + x4 + x6 = 4 * q0 + m0) (t1 : x1 + x3 + x5 + x7 = 4 * q1 + m1) (t2 : x0 - x3 - x4 + x7 = 4 * q2 + m2) (t3 : x1 + x2 - x5 - x6 = 4 * q3 + m3) (t4 : x0 - x2 + x4 - x6 = 4 * q4 + m4) (t5 : x1 - x3 + x5 - x7 = 4 * q5 + m5) (t6 : x0 + x3 - x4 - x7 = 4 * q6 + m6) (t7 : x1 - x2 - x5 + x6 = 4 * q7 + m7) (z0 : m0 = 0) (z1 : m1 = 0) (z2 : m2 = 0) (z3 : m3 = 0) (z4 : m4 = 0) (z5 : m5 = 0) (z6 : m6 = 0) (z7 : m7 = 0) : q1 - q2 - q5 + q6 = x3 := by
  subst z0 z1 z2 z3 z4 z5 z6 z7
  omega
theorem ar1_4 {x0 x1 x2 x3 x4 x5 x6 x7 q0 q1 q2 q3 q4 q5 q6 q7 m0 m1 m2 m3 m4 m5 m6 m7 : Int} (t0 : x0 + x2 + x4 + x6 = 4 * q0 + m0) (t1 : x1 + x3 + x5 + x7 = 4 * q1 + m1) (t2 : x0 - x3 - x4 + x7 = 4 * q2 + m2) (t3 : x1 + x2 - x5 - x6 = 4 * q3 + m3) (t4 : x0 - x2 + x4 - x6 = 4 * q4 + m4) (t5 : x1 - x3 + x5 - x7 = 4 * q5 + m5) (t6 : x0 + x3 - x4 - x7 = 4 * q6 + m6) (t7 : x1 - x2 - x5 + x6 = 4 * q7 + m7) (z0 : m0 = 0) (z1 : m1 = 0) (z2 : m2 = 0) (z3 : m3 = 0) (z4 : m4 = 0) (z5 : m5 = 0) (z6 : m6 = 0) (z7 : m7 = 0) : q0 - q2 + q4 - q6 = x4 := by
  subst z0 z1 z2 z3 z4 z5 z6 z7
  omega
theorem ar1_5 {x0 x1 x2 x3 x4 x5 x6 x7 q0 q1 q2 q3 q4 q5 q6 q7 m0 m1 m2 m3 m4 m5 m6 m7 : Int} (t0 : x0 + x2 + x4 + x6 = 4 * q0 + m0) (t1 : x1 + x3 + x5 + x7 = 4 * q1 + m1) (t2 : x0 - x3 - x4 + x7 = 4 * q2 + m2) (t3 : x1 + x2 - x5 - x6 = 4 * q3 + m3) (t4 : x0 - x2 + x4 - x6 = 4 * q4 + m4) (t5 : x1 - x3 + x5 - x7 = 4 * q5 + m5) (t6 : x0 + x3 - x4 - x7 = 4 * q6 + m6) (t7 : x1 - x2 - x5 + x6 = 4 * q7 + m7) (z0 : m0 = 0) (z1 : m1 = 0) (z2 : m2 = 0) (z3 : m3 = 0) (z4 : m4 = 0) (z5 : m5 = 0) (z6 : m6 = 0) (z7 : m7 = 0) : q1 - q3 + q5 - q7 = x5 := by
  subst z0 z1 z2 z3 z4 z5 z6 z7
  omega
theorem ar1_6 {x0 x1 x2 x3 x4 x5 x6 x7 q0 q1 q2 q3 q4 q5 q6 q7 m0 m1 m2 m3 m4 m5 m6 m7 : Int} (t0 : x0 + x2 + x4 + x6 = 4 * q0 + m0) (t1 : x1 + x3 + x5 + x7 = 4 * q1 + m1) (t2 : x0 - x3 - x4 + x7 = 4 * q2 + m2) (t3 : x1 + x2 - x5 - x6 = 4 * q3 + m3) (t4 : x0 - x2 + x4 - x6 = 4 * q4 + m4) (t5 : x1 - x3 + x5 - x7 = 4 * q5 + m5) (t6 : x0 + x3 - x4 - x7 = 4 * q6 + m6) (t7 : x1 - x2 - x5 + x6 = 4 * q7 + m7) (z0 : m0 = 0) (z1 : m1 = 0) (z2 : m2 = 0) (z3 : m3 = 0) (z4 : m4 = 0) (z5 : m5 = 0) (z6 : m6 = 0) (z7 : m7 = 0) : q0 - q3 - q4 + q7 = x6 := by
  subst z0 z1 z2 z3 z4 z5 z6 z7
  omega
theorem ar1_7 {x0 x1 x2 x3 x4 x5 x6 x7 q0 q1 q2 q3 q4 q5 q6 q7 m0 m1 m2 m3 m4 m5 m6 m7 : Int} (t0 : x0 + x2 + x4 + x6 = 4 * q0 + m0) (t1 : x1 + x3 + x5 + x7 = 4 * q1 + m1) (t2 : x0 - x3 - x4 + x7 = 4 * q2 + m2) (t3 : x1 + x2 - x5 - x6 = 4 * q3 + m3) (t4 : x0 - x2 + x4 - x6 = 4 * q4 + m4) (t5 : x1 - x3 + x5 - x7 = 4 * q5 + m5) (t6 : x0 + x3 - x4 - x7 = 4 * q6 + m6) (t7 : x1 - x2 - x5 + x6 = 4 * q7 + m7) (z0 : m0 = 0) (z1 : m1 = 0) (z2 : m2 = 0) (z3 : m3 = 0) (z4 : m4 = 0) (z5 : m5 = 0) (z6 : m6 = 0) (z7 : m7 = 0) : q1 + q2 - q5 - q6 = x7 := by
  subst z0 z1 z2 z3 z4 z5 z6 z7
  omega
theorem ar2_0 {x0 x1 x2 x3 x4 x5 x6 x7 q0 q1 q2 q3 q4 q5 q6 q7 m0 m1 m2 m3 m4 m5 m6 m7 : Int} (t0 : x0 + x2 + x4 + x6 = 4 * q0 + m0) (t1 : x1 + x3 + x5 + x7 = 4 * q1 + m1) (t2 : x0 - x3 - x4 + x7 = 4 * q2 + m2) (t3 : x1 + x2 - x5 - x6 = 4 * q3 + m3) (t4 : x0 - x2 + x4 - x6 = 4 * q4 + m4) (t5 : x1 - x3 + x5 - x7 = 4 * q5 + m5) (t6 : x0 + x3 - x4 - x7 = 4 * q6 + m6) (t7 : x1 - x2 - x5 + x6 = 4 * q7 + m7) (v0 : q0 + q2 + q4 + q6 = x0) (v1 : q1 + q3 + q5 + q7 = x1) (v2 : q0 + q3 - q4 - q7 = x2) (v3 : q1 - q2 - q5 + q6 = x3) (v4 : q0 - q2 + q4 - q6 = x4) (v5 : q1 - q3 + q5 - q7 = x5) (v6 : q0 - q3 - q4 + q7 = x6) (v7 : q1 + q2 - q5 - q6 = x7) : m0 = 0 := by
  subst v0 v1 v2 v3 v4 v5 v6 v7
  clear t1 t2 t3 t4 t5 t6 t7
  omega
theorem ar2_1 {x0 x1 x2 x3 x4 x5 x6 x7 q0 q1 q2 q3 q4 q5 q6 q7 m0 m1 m2 m3 m4 m5 m6 m7 : Int} (t0 : x0 + x2 + x4 + x6 = 4 * q0 + m0) (t1 : x1 + x3 + x5 + x7 = 4 * q1 + m1) (t2 : x0 - x3 - x4 + x7 = 4 * q2 + m2) (t3 : x1 + x2 - x5 - x6 = 4 * q3 + m3) (t4 : x0 - x2 + x4 - x6 = 4 * q4 + m4) (t5 : x1 - x3 + x5 - x7 = 4 * q5 + m5) (t6 : x0 + x3 - x4 - x7 = 4 * q6 + m6) (t7 : x1 - x2 - x5 + x6 = 4 * q7 + m7) (v0 : q0 + q2 + q4 + q6 = x0) (v1 : q1 + q3 + q5 + q7 = x1) (v2 : q0 + q3 - q4 - q7 = x2) (v3 : q1 - q2 - q5 + q6 = x3) (v4 : q0 - q2 + q4 - q6 = x4) (v5 : q1 - q3 + q5 - q7 = x5) (v6 : q0 - q3 - q4 + q7 = x6) (v7 : q1 + q2 - q5 - q6 = x7) : m1 = 0 := by
  subst v0 v1 v2 v3 v4 v5 v6 v7
  clear t0 t2 t3 t4 t5 t6 t7
  omega
theorem ar2_2 {x0 x1 x2 x3 x4 x5 x6 x7 q0 q1 q2 q3 q4 q5 q6 q7 m0 m1 m2 m3 m4 m5 m6 m7 : Int} (t0 : x0 + x2 + x4 + x6 = 4 * q0 + m0) (t1 : x1 + x3 + x5 + x7 = 4 * q1 + m1) (t2 : x0 - x3 - x4 + x7 = 4 * q2 + m2) (t3 : x1 + x2 - x5 - x6 = 4 * q3 + m3) (t4 : x0 - x2 + x4 - x6 = 4 * q4 + m4) (t5 : x1 - x3 + x5 - x7 = 4 * q5 + m5) (t6 : x0 + x3 - x4 - x7 = 4 * q6 + m6) (t7 : x1 - x2 - x5 + x6 = 4 * q7 + m7) (v0 : q0 + q2 + q4 + q6 = x0) (v1 : q1 + q3 + q5 + q7 = x1) (v2 : q0 + q3 - q4 - q7 = x2) (v3 : q1 - q2 - q5 + q6 = x3) (v4 : q0 - q2 + q4 - q6 = x4) (v5 : q1 - q3 + q5 - q7 = x5) (v6 : q0 - q3 - q4 + q7 = x6) (v7 : q1 + q2 - q5 - q6 = x7) : m2 = 0 := by
  subst v0 v1 v2 v3 v4 v5 v6 v7
  clear t0 t1 t3 t4 t5 t6 t7
  omega
theorem ar2_3 {x0 x1 x2 x3 x4 x5 x6 x7 q0 q1 q2 q3 q4 q5 q6 q7 m0 m1 m2 m3 m4 m5 m6 m7 : Int} (t0 : x0 + x2 + x4 + x6 = 4 * q0 + m0) (t1 : x1 + x3 + x5 + x7 = 4 * q1 + m1) (t2 : x0 - x3 - x4 + x7 = 4 * q2 + m2) (t3 : x1 + x2 - x5 - x6 = 4 * q3 + m3) (t4 : x0 - x2 + x4 - x6 = 4 * q4 + m4) (t5 : x1 - x3 + x5 - x7 = 4 * q5 + m5) (t6 : x0 + x3 - x4 - x7 = 4 * q6 + m6) (t7 : x1 - x2 - x5 + x6 = 4 * q7 + m7) (v0 : q0 + q2 + q4 + q6 = x0) (v1 : q1 + q3 + q5 + q7 = x1) (v2 : q0 + q3 - q4 - q7 = x2) (v3 : q1 - q2 - q5 + q6 = x3) (v4 : q0 - q2 + q4 - q6 = x4) (v5 : q1 - q3 + q5 - q7 = x5) (v6 : q0 - q3 - q4 + q7 = x6) (v7 : q1 + q2 - q5 - q6 = x7) : m3 = 0 := by
  subst v0 v1 v2 v3 v4 v5 v6 v7
  clear t0 t1 t2 t4 t5 t6 t7
  omega
theorem ar2_4 {x0 x1 x2 x3 x4 x5 x6 x7 q0 q1 q2 q3 q4 q5 q6 q7 m0 m1 m2 m3 m4 m5 m6 m7 : Int} (t0 : x0 + x2 + x4 + x6 = 4 * q0 + m0) (t1 : x1 + x3 + x5 + x7 = 4 * q1 + m1) (t2 : x0 - x3 - x4 + x7 = 4 * q2 + m2) (t3 : x1 + x2 - x5 - x6 = 4 * q3 + m3) (t4 : x0 - x2 + x4 - x6 = 4 * q4 + m4) (t5 : x1 - x3 + x5 - x7 = 4 * q5 + m5) (t6 : x0 + x3 - x4 - x7 = 4 * q6 + m6) (t7 : x1 - x2 - x5 + x6 = 4 * q7 + m7) (v0 : q0 + q2 + q4 + q6 = x0) (v1 : q1 + q3 + q5 + q7 = x1) (v2 : q0 + q3 - q4 - q7 = x2) (v3 : q1 - q2 - q5 + q6 = x3) (v4 : q0 - q2 + q4 - q6 = x4) (v5 : q1 - q3 + q5 - q7 = x5) (v6 : q0 - q3 - q4 + q7 = x6) (v7 : q1 + q2 - q5 - q6 = x7) : m4 = 0 := by
  subst v0 v1 v2 v3 v4 v5 v6 v7
  clear t0 t1 t2 t3 t5 t6 t7
  omega
theorem ar2_5 {x0 x1 x2 x3 x4 x5 x6 x7 q0 q1 q2 q3 q4 q5 q6 q7 m0 m1 m2 m3 m4 m5 m6 m7 : Int} (t0 : x0 + x2 + x4 + x6 = 4 * q0 + m0) (t1 : x1 + x3 + x5 + x7 = 4 * q1 + m1) (t2 : x0 - x3 - x4 + x7 = 4 * q2 + m2) (t3 : x1 + x2 - x5 - x6 = 4 * q3 + m3) (t4 : x0 - x2 + x4 - x6 = 4 * q4 + m4) (t5 : x1 - x3 + x5 - x7 = 4 * q5 + m5) (t6 : x0 + x3 - x4 - x7 = 4 * q6 + m6) (t7 : x1 - x2 - x5 + x6 = 4 * q7 + m7) (v0 : q0 + q2 + q4 + q6 = x0) (v1 : q1 + q3 + q5 + q7 = x1) (v2 : q0 + q3 - q4 - q7 = x2) (v3 : q1 - q2 - q5 + q6 = x3) (v4 : q0 - q2 + q4 - q6 = x4) (v5 : q1 - q3 + q5 - q7 = x5) (v6 : q0 - q3 - q4 + q7 = x6) (v7 : q1 + q2 - q5 - q6 = x7) : m5 = 0 := by
  subst v0 v1 v2 v3 v4 v5 v6 v7
  clear t0 t1 t2 t3 t4 t6 t7
  omega
theorem ar2_6 {x0 x1 x2 x3 x4 x5 x6 x7 q0 q1 q2 q3 q4 q5 q6 q7 m0 m1 m2 m3 m4 m5 m6 m7 : Int} (t0 : x0 + x2 + x4 + x6 = 4 * q0 + m0) (t1 : x1 + x3 + x5 + x7 = 4 * q1 + m1) (t2 : x0 - x3 - x4 + x7 = 4 * q2 + m2) (t3 : x1 + x2 - x5 - x6 = 4 * q3 + m3) (t4 : x0 - x2 + x4 - x6 = 4 * q4 + m4) (t5 : x1 - x3 + x5 - x7 = 4 * q5 + m5) (t6 : x0 + x3 - x4 - x7 = 4 * q6 + m6) (t7 : x1 - x2 - x5 + x6 = 4 * q7 + m7) (v0 : q0 + q2 + q4 + q6 = x0) (v1 : q1 + q3 + q5 + q7 = x1) (v2 : q0 + q3 - q4 - q7 = x2) (v3 : q1 - q2 - q5 + q6 = x3) (v4 : q0 - q2 + q4 - q6 = x4) (v5 : q1 - q3 + q5 - q7 = x5) (v6 : q0 - q3 - q4 + q7 = x6) (v7 : q1 + q2 - q5 - q6 = x7) : m6 = 0 := by
  subst v0 v1 v2 v3 v4 v5 v6 v7
  clear t0 t1 t2 t3 t4 t5 t7
  omega
theorem ar2_7 {x0 x1 x2 x3 x4 x5 x6 x7 q0 q1 q2 q3 q4 q5 q6 q7 m0 m1 m2 m3 m4 m5 m6 m7 : Int} (t0 : x0 + x2 + x4 + x6 = 4 * q0 + m0) (t1 : x1 + x3 + x5 + x7 = 4 * q1 + m1) (t2 : x0 - x3 - x4 + x7 = 4 * q2 + m2) (t3 : x1 + x2 - x5 - x6 = 4 * q3 + m3) (t4 : x0 - x2 + x4 - x6 = 4 * q4 + m4) (t5 : x1 - x3 + x5 - x7 = 4 * q5 + m5) (t6 : x0 + x3 - x4 - x7 = 4 * q6 + m6) (t7 : x1 - x2 - x5 + x6 = 4 * q7 + m7) (v0 : q0 + q2 + q4 + q6 = x0) (v1 : q1 + q3 + q5 + q7 = x1) (v2 : q0 + q3 - q4 - q7 = x2) (v3 : q1 - q2 - q5 + q6 = x3) (v4 : q0 - q2 + q4 - q6 = x4) (v5 : q1 - q3 + q5 - q7 = x5) (v6 : q0 - q3 - q4 + q7 = x6) (v7 : q1 + q2 - q5 - q6 = x7) : m7 = 0 := by
  subst v0 v1 v2 v3 v4 v5 v6 v7
  clear t0 t1 t2 t3 t4 t5 t6
  omega
theorem back_in (x0 x1 x2 x3 x4 x5 x6 x7 : Int) (h : allR x0 x1 x2 x3 x4 x5 x6 x7) : (ba_c1 x0 x1 x2 x3 x4 x5 x6 x7 = false ∧ rb_c0 x0 x1 x2 x3 x4 x5 x6 x7 = false ∧ rb_c1 x0 x1 x2 x3 x4 x5 x6 x7 = false ∧ rb_c2 x0 x1 x2 x3 x4 x5 x6 x7 = false ∧ rb_c3 x0 x1 x2 x3 x4 x5 x6 x7 = false ∧ rb_c4 x0 x1 x2 x3 x4 x5 x6 x7 = false ∧ rb_c5 x0 x1 x2 x3 x4 x5 x6 x7 = false ∧ rb_c6 x0 x1 x2 x3 x4 x5 x6 x7 = false ∧ rb_c7 x0 x1 x2 x3 x4 x5 x6 x7 = false) ∨ (ba_c1 x0 x1 x2 x3 x4 x5 x6 x7 = true ∧ (rb_c0 x0 x1 x2 x3 x4 x5 x6 x7 || rb_c1 x0 x1 x2 x3 x4 x5 x6 x7 || rb_c2 x0 x1 x2 x3 x4 x5 x6 x7 || rb_c3 x0 x1 x2 x3 x4 x5 x6 x7 || rb_c4 x0 x1 x2 x3 x4 x5 x6 x7 || rb_c5 x0 x1 x2 x3 x4 x5 x6 x7 || rb_c6 x0 x1 x2 x3 x4 x5 x6 x7 || rb_c7 x0 x1 x2 x3 x4 x5 x6 x7) = true) := by
  unfold allR inR at h
  have b0 : big x0 := by unfold big; omega
  have b1 : big x1 := by unfold big; omega
  have b2 : big x2 := by unfold big; omega
  have b3 : big x3 := by unfold big; omega
  have b4 : big x4 := by unfold big; omega
  have b5 : big x5 := by unfold big; omega
  have b6 : big x6 := by unfold big; omega
  have b7 : big x7 := by unfold big; omega
  have e0 := sP_0 b0 b1 b2 b3 b4 b5 b6 b7
  have rs0 : rsP_r0 x0 x1 x2 x3 x4 x5 x6 x7 = sP_r0 x0 x1 x2 x3 x4 x5 x6 x7 := (rsP_0 b0 b1 b2 b3 b4 b5 b6 b7).trans e0.symm
  have t0 := (td4 (sP_r0 x0 x1 x2 x3 x4 x5 x6 x7)).1
  have u0 : big ((sP_r0 x0 x1 x2 x3 x4 x5 x6 x7).tdiv 4) ∧ IntKind.i64.wrap ((sP_r0 x0 x1 x2 x3 x4 x5 x6 x7).tdiv 4) = (sP_r0 x0 x1 x2 x3 x4 x5 x6 x7).tdiv 4 := by rw [e0]; exact td4b (by omega) (by omega)
  have e1 := sP_1 b0 b1 b2 b3 b4 b5 b6 b7
  have rs1 : rsP_r1 x0 x1 x2 x3 x4 x5 x6 x7 = sP_r1 x0 x1 x2 x3 x4 x5 x6 x7 := (rsP_1 b0 b1 b2 b3 b4 b5 b6 b7).trans e1.symm
  have t1 := (td4 (sP_r1 x0 x1 x2 x3 x4 x5 x6 x7)).1
  have u1 : big ((sP_r1 x0 x1 x2 x3 x4 x5 x6 x7).tdiv 4) ∧ IntKind.i64.wrap ((sP_r1 x0 x1 x2 x3 x4 x5 x6 x7).tdiv 4) = (sP_r1 x0 x1 x2 x3 x4 x5 x6 x7).tdiv 4 := by rw [e1]; exact td4b (by omega) (by omega)
  have e2 := sP_2 b0 b1 b2 b3 b4 b5 b6 b7
  have rs2 : rsP_r2 x0 x1 x2 x3 x4 x5 x6 x7 = sP_r2 x0 x1 x2 x3 x4 x5 x6 x7 := (rsP_2 b0 b1 b2 b3 b4 b5 b6 b7).trans e2.symm
  have t2 := (td4 (sP_r2 x0 x1 x2 x3 x4 x5 x6 x7)).1
  have u2 : big ((sP_r2 x0 x1 x2 x3 x4 x5 x6 x7).tdiv 4) ∧ IntKind.i64.wrap ((sP_r2 x0 x1 x2 x3 x4 x5 x6 x7).tdiv 4) = (sP_r2 x0 x1 x2 x3 x4 x5 x6 x7).tdiv 4 := by rw [e2]; exact td4b (by omega) (by omega)
  have e3 := sP_3 b0 b1 b2 b3 b4 b5 b6 b7
  have rs3 : rsP_r3 x0 x1 x2 x3 x4 x5 x6 x7 = sP_r3 x0 x1 x2 x3 x4 x5 x6 x7 := (rsP_3 b0 b1 b2 b3 b4 b5 b6 b7).trans e3.symm
  have t3 := (td4 (sP_r3 x0 x1 x2 x3 x4 x5 x6 x7)).1
  have u3 : big ((sP_r3 x0 x1 x2 x3 x4 x5 x6 x7).tdiv 4) ∧ IntKind.i64.wrap ((sP_r3 x0 x1 x2 x3 x4 x5 x6 x7).tdiv 4) = (sP_r3 x0 x1 x2 x3 x4 x5 x6 x7).tdiv 4 := by rw [e3]; exact td4b (by omega) (by omega)
  have e4 := sP_4 b0 b1 b2 b3 b4 b5 b6 b7
  have rs4 : rsP_r4 x0 x1 x2 x3 x4 x5 x6 x7 = sP_r4 x0 x1 x2 x3 x4 x5 x6 x7 := (rsP_4 b0 b1 b2 b3 b4 b5 b6 b7).trans e4.symm
  have t4 := (td4 (sP_r4 x0 x1 x2 x3 x4 x5 x6 x7)).1
  have u4 : big ((sP_r4 x0 x1 x2 x3 x4 x5 x6 x7).tdiv 4) ∧ IntKind.i64.wrap ((sP_r4 x0 x1 x2 x3 x4 x5 x6 x7).tdiv 4) = (sP_r4 x0 x1 x2 x3 x4 x5 x6 x7).tdiv 4 := by rw [e4]; exact td4b (by omega) (by omega)
  have e5 := sP_5 b0 b1 b2 b3 b4 b5 b6 b7
  have rs5 : rsP_r5 x0 x1 x2 x3 x4 x5 x6 x7 = sP_r5 x0 x1 x2 x3 x4 x5 x6 x7 := (rsP_5 b0 b1 b2 b3 b4 b5 b6 b7).trans e5.symm
  have t5 := (td4 (sP_r5 x0 x1 x2 x3 x4 x5 x6 x7)).1
  have u5 : big ((sP_r5 x0 x1 x2 x3 x4 x5 x6 x7).tdiv 4) ∧ IntKind.i64.wrap ((sP_r5 x0 x1 x2 x3 x4 x5 x6 x7).tdiv 4) = (sP_r5 x0 x1 x2 x3 x4 x5 x6 x7).tdiv 4 := by rw [e5]; exact td4b (by omega) (by omega)
  have e6 := sP_6 b0 b1 b2 b3 b4 b5 b6 b7
  have rs6 : rsP_r6 x0 x1 x2 x3 x4 x5 x6 x7 = sP_r6 x0 x1 x2 x3 x4 x5 x6 x7 := (rsP_6 b0 b1 b2 b3 b4 b5 b6 b7).trans e6.symm
  have t6 := (td4 (sP_r6 x0 x1 x2 x3 x4 x5 x6 x7)).1
  have u6 : big ((sP_r6 x0 x1 x2 x3 x4 x5 x6 x7).tdiv 4) ∧ IntKind.i64.wrap ((sP_r6 x0 x1 x2 x3 x4 x5 x6 x7).tdiv 4) = (sP_r6 x0 x1 x2 x3 x4 x5 x6 x7).tdiv 4 := by rw [e6]; exact td4b (by omega) (by omega)
  have e7 := sP_7 b0 b1 b2 b3 b4 b5 b6 b7
  have rs7 : rsP_r7 x0 x1 x2 x3 x4 x5 x6 x7 = sP_r7 x0 x1 x2 x3 x4 x5 x6 x7 := (rsP_7 b0 b1 b2 b3 b4 b5 b6 b7).trans e7.symm
  have t7 := (td4 (sP_r7 x0 x1 x2 x3 x4 x5 x6 x7)).1
  have u7 : big ((sP_r7 x0 x1 x2 x3 x4 x5 x6 x7).tdiv 4) ∧ IntKind.i64.wrap ((sP_r7 x0 x1 x2 x3 x4 x5 x6 x7).tdiv 4) = (sP_r7 x0 x1 x2 x3 x4 x5 x6 x7).tdiv 4 := by rw [e7]; exact td4b (by omega) (by omega)
  obtain ⟨q0, hq0⟩ : ∃ q, q = (sP_r0 x0 x1 x2 x3 x4 x5 x6 x7).tdiv 4 := ⟨_, rfl⟩
  obtain ⟨m0, hm0⟩ : ∃ m, m = (sP_r0 x0 x1 x2 x3 x4 x5 x6 x7).tmod 4 := ⟨_, rfl⟩
  rw [← hq0, ← hm0, e0] at t0
  rw [← hq0] at u0
  obtain ⟨bq0, w0⟩ := u0
  obtain ⟨q1, hq1⟩ : ∃ q, q = (sP_r1 x0 x1 x2 x3 x4 x5 x6 x7).tdiv 4 := ⟨_, rfl⟩
  obtain ⟨m1, hm1⟩ : ∃ m, m = (sP_r1 x0 x1 x2 x3 x4 x5 x6 x7).tmod 4 := ⟨_, rfl⟩
  rw [← hq1, ← hm1, e1] at t1
  rw [← hq1] at u1
  obtain ⟨bq1, w1⟩ := u1
  obtain ⟨q2, hq2⟩ : ∃ q, q = (sP_r2 x0 x1 x2 x3 x4 x5 x6 x7).tdiv 4 := ⟨_, rfl⟩
  obtain ⟨m2, hm2⟩ : ∃ m, m = (sP_r2 x0 x1 x2 x3 x4 x5 x6 x7).tmod 4 := ⟨_, rfl⟩
  rw [← hq2, ← hm2, e2] at t2
  rw [← hq2] at u2
  obtain ⟨bq2, w2⟩ := u2
  obtain ⟨q3, hq3⟩ : ∃ q, q = (sP_r3 x0 x1 x2 x3 x4 x5 x6 x7).tdiv 4 := ⟨_, rfl⟩
  obtain ⟨m3, hm3⟩ : ∃ m, m = (sP_r3 x0 x1 x2 x3 x4 x5 x6 x7).tmod 4 := ⟨_, rfl⟩
  rw [← hq3, ← hm3, e3] at t3
  rw [← hq3] at u3
  obtain ⟨bq3, w3⟩ := u3
  obtain ⟨q4, hq4⟩ : ∃ q, q = (sP_r4 x0 x1 x2 x3 x4 x5 x6 x7).tdiv 4 := ⟨_, rfl⟩
  obtain ⟨m4, hm4⟩ : ∃ m, m = (sP_r4 x0 x1 x2 x3 x4 x5 x6 x7).tmod 4 := ⟨_, rfl⟩
  rw [← hq4, ← hm4, e4] at t4
  rw [← hq4] at u4
  obtain ⟨bq4, w4⟩ := u4
  obtain ⟨q5, hq5⟩ : ∃ q, q = (sP_r5 x0 x1 x2 x3 x4 x5 x6 x7).tdiv 4 := ⟨_, rfl⟩
  obtain ⟨m5, hm5⟩ : ∃ m, m = (sP_r5 x0 x1 x2 x3 x4 x5 x6 x7).tmod 4 := ⟨_, rfl⟩
  rw [← hq5, ← hm5, e5] at t5
  rw [← hq5] at u5
  obtain ⟨bq5, w5⟩ := u5
  obtain ⟨q6, hq6⟩ : ∃ q, q = (sP_r6 x0 x1 x2 x3 x4 x5 x6 x7).tdiv 4 := ⟨_, rfl⟩
  obtain ⟨m6, hm6⟩ : ∃ m, m = (sP_r6 x0 x1 x2 x3 x4 x5 x6 x7).tmod 4 := ⟨_, rfl⟩
  rw [← hq6, ← hm6, e6] at t6
  rw [← hq6] at u6
  obtain ⟨bq6, w6⟩ := u6
  obtain ⟨q7, hq7⟩ : ∃ q, q = (sP_r7 x0 x1 x2 x3 x4 x5 x6 x7).tdiv 4 := ⟨_, rfl⟩
  obtain ⟨m7, hm7⟩ : ∃ m, m = (sP_r7 x0 x1 x2 x3 x4 x5 x6 x7).tmod 4 := ⟨_, rfl⟩
  rw [← hq7, ← hm7, e7] at t7
  rw [← hq7] at u7
  obtain ⟨bq7, w7⟩ := u7
  have n0 := sN_0 bq0 bq1 bq2 bq3 bq4 bq5 bq6 bq7
  have n1 := sN_1 bq0 bq1 bq2 bq3 bq4 bq5 bq6 bq7
  have n2 := sN_2 bq0 bq1 bq2 bq3 bq4 bq5 bq6 bq7
  have n3 := sN_3 bq0 bq1 bq2 bq3 bq4 bq5 bq6 bq7
  have n4 := sN_4 bq0 bq1 bq2 bq3 bq4 bq5 bq6 bq7
  have n5 := sN_5 bq0 bq1 bq2 bq3 bq4 bq5 bq6 bq7
  have n6 := sN_6 bq0 bq1 bq2 bq3 bq4 bq5 bq6 bq7
  have n7 := sN_7 bq0 bq1 bq2 bq3 bq4 bq5 bq6 bq7
  unfold ba_c1 rb_c0 rb_c1 rb_c2 rb_c3 rb_c4 rb_c5 rb_c6 rb_c7
  simp only [rs0, ← hq0, ← hm0, w0, n0, rs1, ← hq1, ← hm1, w1, n1, rs2, ← hq2, ← hm2, w2, n2, rs3, ← hq3, ← hm3, w3, n3, rs4, ← hq4, ← hm4, w4, n4, rs5, ← hq5, ← hm5, w5, n5, rs6, ← hq6, ← hm6, w6, n6, rs7, ← hq7, ← hm7, w7, n7]
  have orz : (m0 = 0 ∧ m1 = 0 ∧ m2 = 0 ∧ m3 = 0 ∧ m4 = 0 ∧ m5 = 0 ∧ m6 = 0 ∧ m7 = 0) ∨ (m0 != 0 || m1 != 0 || m2 != 0 || m3 != 0 || m4 != 0 || m5 != 0 || m6 != 0 || m7 != 0) := by
    by_cases z0 : m0 = 0
    · skip
      by_cases z1 : m1 = 0
      · skip
        by_cases z2 : m2 = 0
        · skip
          by_cases z3 : m3 = 0
          · skip
            by_cases z4 : m4 = 0
            · skip
              by_cases z5 : m5 = 0
              · skip
                by_cases z6 : m6 = 0
                · skip
                  by_cases z7 : m7 = 0
                  · skip
                    exact .inl ⟨z0, z1, z2, z3, z4, z5, z6, z7⟩
                  · right; simp [z7]
                · right; simp [z6]
              · right; simp [z5]
            · right; simp [z4]
          · right; simp [z3]
        · right; simp [z2]
      · right; simp [z1]
    · right; simp [z0]
  rcases orz with ⟨z0, z1, z2, z3, z4, z5, z6, z7⟩ | hz
  · left
    have v0 := ar1_0 t0 t1 t2 t3 t4 t5 t6 t7 z0 z1 z2 z3 z4 z5 z6 z7
    have v1 := ar1_1 t0 t1 t2 t3 t4 t5 t6 t7 z0 z1 z2 z3 z4 z5 z6 z7
    have v2 := ar1_2 t0 t1 t2 t3 t4 t5 t6 t7 z0 z1 z2 z3 z4 z5 z6 z7
    have v3 := ar1_3 t0 t1 t2 t3 t4 t5 t6 t7 z0 z1 z2 z3 z4 z5 z6 z7
    have v4 := ar1_4 t0 t1 t2 t3 t4 t5 t6 t7 z0 z1 z2 z3 z4 z5 z6 z7
    have v5 := ar1_5 t0 t1 t2 t3 t4 t5 t6 t7 z0 z1 z2 z3 z4 z5 z6 z7
    have v6 := ar1_6 t0 t1 t2 t3 t4 t5 t6 t7 z0 z1 z2 z3 z4 z5 z6 z7
    have v7 := ar1_7 t0 t1 t2 t3 t4 t5 t6 t7 z0 z1 z2 z3 z4 z5 z6 z7
    rw [v0, v1, v2, v3, v4, v5, v6, v7]
    simp only [z0, z1, z2, z3, z4, z5, z6, z7, beq_self_eq_true, Bool.and_self, Bool.and_true, Bool.not_true, bne_self_eq_false, and_self]
  · right
    refine ⟨?_, hz⟩
    rw [Bool.not_eq_true', Bool.eq_false_iff]
    intro hv
    simp only [Bool.and_eq_true, beq_iff_eq, and_true] at hv
    obtain ⟨⟨v0, v1⟩, ⟨v2, v3⟩, ⟨v4, v5⟩, v6, v7⟩ := hv
    rw [ar2_0 t0 t1 t2 t3 t4 t5 t6 t7 v0 v1 v2 v3 v4 v5 v6 v7, ar2_1 t0 t1 t2 t3 t4 t5 t6 t7 v0 v1 v2 v3 v4 v5 v6 v7, ar2_2 t0 t1 t2 t3 t4 t5 t6 t7 v0 v1 v2 v3 v4 v5 v6 v7, ar2_3 t0 t1 t2 t3 t4 t5 t6 t7 v0 v1 v2 v3 v4 v5 v6 v7, ar2_4 t0 t1 t2 t3 t4 t5 t6 t7 v0 v1 v2 v3 v4 v5 v6 v7, ar2_5 t0 t1 t2 t3 t4 t5 t6 t7 v0 v1 v2 v3 v4 v5 v6 v7, ar2_6 t0 t1 t2 t3 t4 t5 t6 t7 v0 v1 v2 v3 v4 v5 v6 v7, ar2_7 t0 t1 t2 t3 t4 t5 t6 t7 v0 v1 v2 v3 v4 v5 v6 v7] at hz
    simp at hz
theorem ladder {α : Type} (c0 c1 c2 c3 c4 c5 c6 c7 : Bool) (a b : α) (h : (c0 || c1 || c2 || c3 || c4 || c5 || c6 || c7) = true) : cond c0 a (cond c1 a (cond c2 a (cond c3 a (cond c4 a (cond c5 a (cond c6 a (cond c7 a b))))))) = a := by
  cases c0 <;> cases c1 <;> cases c2 <;> cases c3 <;> cases c4 <;> cases c5 <;> cases c6 <;> cases c7 <;> first | rfl | cases h
theorem harm_true (x0 x1 x2 x3 x4 x5 x6 x7 : Int) : la_r0 x0 x1 x2 x3 x4 x5 x6 x7 = true := by
  rcases tc_in x0 x1 x2 x3 x4 x5 x6 x7 with ⟨ht, hall⟩ | ⟨ht, hno⟩
  · have hcv : cv_r0 x0 x1 x2 x3 x4 x5 x6 x7 = 0 := by
      rcases cv_in x0 x1 x2 x3 x4 x5 x6 x7 with ⟨h, _⟩ | ⟨_, h⟩
      · exact h
      · exact absurd hall h
    have hbk := back_in x0 x1 x2 x3 x4 x5 x6 x7 hall
    unfold allR inR at hall
    have b0 : big x0 := by unfold big; omega
    have b1 : big x1 := by unfold big; omega
    have b2 : big x2 := by unfold big; omega
    have b3 : big x3 := by unfold big; omega
    have b4 : big x4 := by unfold big; omega
    have b5 : big x5 := by unfold big; omega
    have b6 : big x6 := by unfold big; omega
    have b7 : big x7 := by unfold big; omega
    have hc0 : ha_c0 x0 x1 x2 x3 x4 x5 x6 x7 = false := by unfold ha_c0; rw [hcv]; rfl
    have hb0 : ba_c0 x0 x1 x2 x3 x4 x5 x6 x7 = false := by unfold ba_c0; rw [hcv]; rfl
    have a0 : ha_r0 x0 x1 x2 x3 x4 x5 x6 x7 = rsN_r0 x0 x1 x2 x3 x4 x5 x6 x7 := by unfold ha_r0; rw [hc0]; exact (sN_0 b0 b1 b2 b3 b4 b5 b6 b7).trans (rsN_0 b0 b1 b2 b3 b4 b5 b6 b7).symm
    have a1 : ha_r1 x0 x1 x2 x3 x4 x5 x6 x7 = rsN_r1 x0 x1 x2 x3 x4 x5 x6 x7 := by unfold ha_r1; rw [hc0]; exact (sN_1 b0 b1 b2 b3 b4 b5 b6 b7).trans (rsN_1 b0 b1 b2 b3 b4 b5 b6 b7).symm
    have a2 : ha_r2 x0 x1 x2 x3 x4 x5 x6 x7 = rsN_r2 x0 x1 x2 x3 x4 x5 x6 x7 := by unfold ha_r2; rw [hc0]; exact (sN_2 b0 b1 b2 b3 b4 b5 b6 b7).trans (rsN_2 b0 b1 b2 b3 b4 b5 b6 b7).symm
    have a3 : ha_r3 x0 x1 x2 x3 x4 x5 x6 x7 = rsN_r3 x0 x1 x2 x3 x4 x5 x6 x7 := by unfold ha_r3; rw [hc0]; exact (sN_3 b0 b1 b2 b3 b4 b5 b6 b7).trans (rsN_3 b0 b1 b2 b3 b4 b5 b6 b7).symm
    have a4 : ha_r4 x0 x1 x2 x3 x4 x5 x6 x7 = rsN_r4 x0 x1 x2 x3 x4 x5 x6 x7 := by unfold ha_r4; rw [hc0]; exact (sN_4 b0 b1 b2 b3 b4 b5 b6 b7).trans (rsN_4 b0 b1 b2 b3 b4 b5 b6 b7).symm
    have a5 : ha_r5 x0 x1 x2 x3 x4 x5 x6 x7 = rsN_r5 x0 x1 x2 x3 x4 x5 x6 x7 := by unfold ha_r5; rw [hc0]; exact (sN_5 b0 b1 b2 b3 b4 b5 b6 b7).trans (rsN_5 b0 b1 b2 b3 b4 b5 b6 b7).symm
    have a6 : ha_r6 x0 x1 x2 x3 x4 x5 x6 x7 = rsN_r6 x0 x1 x2 x3 x4 x5 x6 x7 := by unfold ha_r6; rw [hc0]; exact (sN_6 b0 b1 b2 b3 b4 b5 b6 b7).trans (rsN_6 b0 b1 b2 b3 b4 b5 b6 b7).symm
    have a7 : ha_r7 x0 x1 x2 x3 x4 x5 x6 x7 = rsN_r7 x0 x1 x2 x3 x4 x5 x6 x7 := by unfold ha_r7; rw [hc0]; exact (sN_7 b0 b1 b2 b3 b4 b5 b6 b7).trans (rsN_7 b0 b1 b2 b3 b4 b5 b6 b7).symm
    have a8 : ha_r8 x0 x1 x2 x3 x4 x5 x6 x7 = 0 := by unfold ha_r8; rw [hc0]; rfl
    have k0 : la_c0 x0 x1 x2 x3 x4 x5 x6 x7 = true := by unfold la_c0; rw [ht]; rfl
    have k1 : la_c1 x0 x1 x2 x3 x4 x5 x6 x7 = true := by unfold la_c1; simp only [a0, a1, a2, a3, a4, a5, a6, a7, beq_self_eq_true, Bool.and_self, Bool.and_true]
    have k2 : la_c2 x0 x1 x2 x3 x4 x5 x6 x7 = true := by unfold la_c2; rw [a8, ht]; rfl
    have k3 : la_c3 x0 x1 x2 x3 x4 x5 x6 x7 = true ∧ (ba_r8 x0 x1 x2 x3 x4 x5 x6 x7 == rb_r8 x0 x1 x2 x3 x4 x5 x6 x7) = true := by
      rcases hbk with ⟨hc, g0, g1, g2, g3, g4, g5, g6, g7⟩ | ⟨hc, hor⟩
      · have d0 : ba_r0 x0 x1 x2 x3 x4 x5 x6 x7 = rb_r0 x0 x1 x2 x3 x4 x5 x6 x7 := by
          unfold ba_r0 rb_r0
          rw [hb0, hc, g0, g1, g2, g3, g4, g5, g6, g7]
          show IntKind.i64.wrap ((sP_r0 x0 x1 x2 x3 x4 x5 x6 x7).tdiv 4) = IntKind.i64.wrap ((rsP_r0 x0 x1 x2 x3 x4 x5 x6 x7).tdiv 4)
          rw [sP_0 b0 b1 b2 b3 b4 b5 b6 b7, rsP_0 b0 b1 b2 b3 b4 b5 b6 b7]
        have d1 : ba_r1 x0 x1 x2 x3 x4 x5 x6 x7 = rb_r1 x0 x1 x2 x3 x4 x5 x6 x7 := by
          unfold ba_r1 rb_r1
          rw [hb0, hc, g0, g1, g2, g3, g4, g5, g6, g7]
          show IntKind.i64.wrap ((sP_r1 x0 x1 x2 x3 x4 x5 x6 x7).tdiv 4) = IntKind.i64.wrap ((rsP_r1 x0 x1 x2 x3 x4 x5 x6 x7).tdiv 4)
          rw [sP_1 b0 b1 b2 b3 b4 b5 b6 b7, rsP_1 b0 b1 b2 b3 b4 b5 b6 b7]
        have d2 : ba_r2 x0 x1 x2 x3 x4 x5 x6 x7 = rb_r2 x0 x1 x2 x3 x4 x5 x6 x7 := by
          unfold ba_r2 rb_r2
          rw [hb0, hc, g0, g1, g2, g3, g4, g5, g6, g7]
          show IntKind.i64.wrap ((sP_r2 x0 x1 x2 x3 x4 x5 x6 x7).tdiv 4) = IntKind.i64.wrap ((rsP_r2 x0 x1 x2 x3 x4 x5 x6 x7).tdiv 4)
          rw [sP_2 b0 b1 b2 b3 b4 b5 b6 b7, rsP_2 b0 b1 b2 b3 b4 b5 b6 b7]
        have d3 : ba_r3 x0 x1 x2 x3 x4 x5 x6 x7 = rb_r3 x0 x1 x2 x3 x4 x5 x6 x7 := by
          unfold ba_r3 rb_r3
          rw [hb0, hc, g0, g1, g2, g3, g4, g5, g6, g7]
          show IntKind.i64.wrap ((sP_r3 x0 x1 x2 x3 x4 x5 x6 x7).tdiv 4) = IntKind.i64.wrap ((rsP_r3 x0 x1 x2 x3 x4 x5 x6 x7).tdiv 4)
          rw [sP_3 b0 b1 b2 b3 b4 b5 b6 b7, rsP_3 b0 b1 b2 b3 b4 b5 b6 b7]
        have d4 : ba_r4 x0 x1 x2 x3 x4 x5 x6 x7 = rb_r4 x0 x1 x2 x3 x4 x5 x6 x7 := by
          unfold ba_r4 rb_r4
          rw [hb0, hc, g0, g1, g2, g3, g4, g5, g6, g7]
          show IntKind.i64.wrap ((sP_r4 x0 x1 x2 x3 x4 x5 x6 x7).tdiv 4) = IntKind.i64.wrap ((rsP_r4 x0 x1 x2 x3 x4 x5 x6 x7).tdiv 4)
          rw [sP_4 b0 b1 b2 b3 b4 b5 b6 b7, rsP_4 b0 b1 b2 b3 b4 b5 b6 b7]
        have d5 : ba_r5 x0 x1 x2 x3 x4 x5 x6 x7 = rb_r5 x0 x1 x2 x3 x4 x5 x6 x7 := by
          unfold ba_r5 rb_r5
          rw [hb0, hc, g0, g1, g2, g3, g4, g5, g6, g7]
          show IntKind.i64.wrap ((sP_r5 x0 x1 x2 x3 x4 x5 x6 x7).tdiv 4) = IntKind.i64.wrap ((rsP_r5 x0 x1 x2 x3 x4 x5 x6 x7).tdiv 4)
          rw [sP_5 b0 b1 b2 b3 b4 b5 b6 b7, rsP_5 b0 b1 b2 b3 b4 b5 b6 b7]
        have d6 : ba_r6 x0 x1 x2 x3 x4 x5 x6 x7 = rb_r6 x0 x1 x2 x3 x4 x5 x6 x7 := by
          unfold ba_r6 rb_r6
          rw [hb0, hc, g0, g1, g2, g3, g4, g5, g6, g7]
          show IntKind.i64.wrap ((sP_r6 x0 x1 x2 x3 x4 x5 x6 x7).tdiv 4) = IntKind.i64.wrap ((rsP_r6 x0 x1 x2 x3 x4 x5 x6 x7).tdiv 4)
          rw [sP_6 b0 b1 b2 b3 b4 b5 b6 b7, rsP_6 b0 b1 b2 b3 b4 b5 b6 b7]
        have d7 : ba_r7 x0 x1 x2 x3 x4 x5 x6 x7 = rb_r7 x0 x1 x2 x3 x4 x5 x6 x7 := by
          unfold ba_r7 rb_r7
          rw [hb0, hc, g0, g1, g2, g3, g4, g5, g6, g7]
          show IntKind.i64.wrap ((sP_r7 x0 x1 x2 x3 x4 x5 x6 x7).tdiv 4) = IntKind.i64.wrap ((rsP_r7 x0 x1 x2 x3 x4 x5 x6 x7).tdiv 4)
          rw [sP_7 b0 b1 b2 b3 b4 b5 b6 b7, rsP_7 b0 b1 b2 b3 b4 b5 b6 b7]
        refine ⟨by unfold la_c3; simp only [d0, d1, d2, d3, d4, d5, d6, d7, beq_self_eq_true, Bool.and_self, Bool.and_true], ?_⟩
        unfold ba_r8 rb_r8
        rw [hb0, hc, g0, g1, g2, g3, g4, g5, g6, g7]
        rfl
      · have d0 : ba_r0 x0 x1 x2 x3 x4 x5 x6 x7 = rb_r0 x0 x1 x2 x3 x4 x5 x6 x7 := by
          unfold ba_r0 rb_r0
          rw [hb0, hc, ladder _ _ _ _ _ _ _ _ _ _ hor]
          rfl
        have d1 : ba_r1 x0 x1 x2 x3 x4 x5 x6 x7 = rb_r1 x0 x1 x2 x3 x4 x5 x6 x7 := by
          unfold ba_r1 rb_r1
          rw [hb0, hc, ladder _ _ _ _ _ _ _ _ _ _ hor]
          rfl
        have d2 : ba_r2 x0 x1 x2 x3 x4 x5 x6 x7 = rb_r2 x0 x1 x2 x3 x4 x5 x6 x7 := by
          unfold ba_r2 rb_r2
          rw [hb0, hc, ladder _ _ _ _ _ _ _ _ _ _ hor]
          rfl
        have d3 : ba_r3 x0 x1 x2 x3 x4 x5 x6 x7 = rb_r3 x0 x1 x2 x3 x4 x5 x6 x7 := by
          unfold ba_r3 rb_r3
          rw [hb0, hc, ladder _ _ _ _ _ _ _ _ _ _ hor]
          rfl
        have d4 : ba_r4 x0 x1 x2 x3 x4 x5 x6 x7 = rb_r4 x0 x1 x2 x3 x4 x5 x6 x7 := by
          unfold ba_r4 rb_r4
          rw [hb0, hc, ladder _ _ _ _ _ _ _ _ _ _ hor]
          rfl
        have d5 : ba_r5 x0 x1 x2 x3 x4 x5 x6 x7 = rb_r5 x0 x1 x2 x3 x4 x5 x6 x7 := by
          unfold ba_r5 rb_r5
          rw [hb0, hc, ladder _ _ _ _ _ _ _ _ _ _ hor]
          rfl
        have d6 : ba_r6 x0 x1 x2 x3 x4 x5 x6 x7 = rb_r6 x0 x1 x2 x3 x4 x5 x6 x7 := by
          unfold ba_r6 rb_r6
          rw [hb0, hc, ladder _ _ _ _ _ _ _ _ _ _ hor]
          rfl
        have d7 : ba_r7 x0 x1 x2 x3 x4 x5 x6 x7 = rb_r7 x0 x1 x2 x3 x4 x5 x6 x7 := by
          unfold ba_r7 rb_r7
          rw [hb0, hc, ladder _ _ _ _ _ _ _ _ _ _ hor]
          rfl
        refine ⟨by unfold la_c3; simp only [d0, d1, d2, d3, d4, d5, d6, d7, beq_self_eq_true, Bool.and_self, Bool.and_true], ?_⟩
        unfold ba_r8 rb_r8
        rw [hb0, hc, ladder _ _ _ _ _ _ _ _ _ _ hor]
        rfl
    unfold la_r0
    rw [k0, k1, k2, k3.1]
    exact k3.2
  · have hcv : cv_r0 x0 x1 x2 x3 x4 x5 x6 x7 = 3 := by
      rcases cv_in x0 x1 x2 x3 x4 x5 x6 x7 with ⟨_, h⟩ | ⟨h, _⟩
      · exact absurd h hno
      · exact h
    have hc0 : ha_c0 x0 x1 x2 x3 x4 x5 x6 x7 = true := by unfold ha_c0; rw [hcv]; rfl
    have hb0 : ba_c0 x0 x1 x2 x3 x4 x5 x6 x7 = true := by unfold ba_c0; rw [hcv]; rfl
    have a0 : ha_r0 x0 x1 x2 x3 x4 x5 x6 x7 = 0 := by unfold ha_r0; rw [hc0]; rfl
    have d0 : ba_r0 x0 x1 x2 x3 x4 x5 x6 x7 = 0 := by unfold ba_r0; rw [hb0]; rfl
    have a1 : ha_r1 x0 x1 x2 x3 x4 x5 x6 x7 = 0 := by unfold ha_r1; rw [hc0]; rfl
    have d1 : ba_r1 x0 x1 x2 x3 x4 x5 x6 x7 = 0 := by unfold ba_r1; rw [hb0]; rfl
    have a2 : ha_r2 x0 x1 x2 x3 x4 x5 x6 x7 = 0 := by unfold ha_r2; rw [hc0]; rfl
    have d2 : ba_r2 x0 x1 x2 x3 x4 x5 x6 x7 = 0 := by unfold ba_r2; rw [hb0]; rfl
    have a3 : ha_r3 x0 x1 x2 x3 x4 x5 x6 x7 = 0 := by unfold ha_r3; rw [hc0]; rfl
    have d3 : ba_r3 x0 x1 x2 x3 x4 x5 x6 x7 = 0 := by unfold ba_r3; rw [hb0]; rfl
    have a4 : ha_r4 x0 x1 x2 x3 x4 x5 x6 x7 = 0 := by unfold ha_r4; rw [hc0]; rfl
    have d4 : ba_r4 x0 x1 x2 x3 x4 x5 x6 x7 = 0 := by unfold ba_r4; rw [hb0]; rfl
    have a5 : ha_r5 x0 x1 x2 x3 x4 x5 x6 x7 = 0 := by unfold ha_r5; rw [hc0]; rfl
    have d5 : ba_r5 x0 x1 x2 x3 x4 x5 x6 x7 = 0 := by unfold ba_r5; rw [hb0]; rfl
    have a6 : ha_r6 x0 x1 x2 x3 x4 x5 x6 x7 = 0 := by unfold ha_r6; rw [hc0]; rfl
    have d6 : ba_r6 x0 x1 x2 x3 x4 x5 x6 x7 = 0 := by unfold ba_r6; rw [hb0]; rfl
    have a7 : ha_r7 x0 x1 x2 x3 x4 x5 x6 x7 = 0 := by unfold ha_r7; rw [hc0]; rfl
    have d7 : ba_r7 x0 x1 x2 x3 x4 x5 x6 x7 = 0 := by unfold ba_r7; rw [hb0]; rfl
    have a8 : ha_r8 x0 x1 x2 x3 x4 x5 x6 x7 = 3 := by unfold ha_r8; rw [hc0]; exact hcv
    have d8 : ba_r8 x0 x1 x2 x3 x4 x5 x6 x7 = 3 := by unfold ba_r8; rw [hb0]; exact hcv
    have k0 : la_c0 x0 x1 x2 x3 x4 x5 x6 x7 = false := by unfold la_c0; rw [ht]; rfl
    have k4 : la_c4 x0 x1 x2 x3 x4 x5 x6 x7 = true := by unfold la_c4; simp only [a0, a1, a2, a3, a4, a5, a6, a7, beq_self_eq_true, Bool.and_self, Bool.and_true]
    have k5 : la_c5 x0 x1 x2 x3 x4 x5 x6 x7 = true := by unfold la_c5; simp only [d0, d1, d2, d3, d4, d5, d6, d7, beq_self_eq_true, Bool.and_self, Bool.and_true]
    have k2 : la_c2 x0 x1 x2 x3 x4 x5 x6 x7 = true := by unfold la_c2; rw [a8, ht]; rfl
    unfold la_r0
    rw [k0, k4, k2, k5, d8, ht]
    rfl
theorem harm_law (x0 x1 x2 x3 x4 x5 x6 x7 : Int) : Gives Tryz.prog envL 0 5 [.agg #[.int .i64 x0, .int .i64 x1, .int .i64 x2, .int .i64 x3, .int .i64 x4, .int .i64 x5, .int .i64 x6, .int .i64 x7]] heap0 (.bool true, heap0) := by
  have h := la_gives x0 x1 x2 x3 x4 x5 x6 x7
  rw [harm_true] at h
  exact h
end Go.Proofs.YtpdiaiccnaoaiaaGreatDoor
/-
ArrayBacks: the law is true.
-/
namespace Go.Proofs.YtpdiaiccnaoaiaaGreatDoor
open Go Go.Abs
theorem sqb {a : Int} (h1 : -400000000 ≤ a) (h2 : a ≤ 400000000) : 0 ≤ a * a ∧ a * a ≤ 160000000000000000 := by
  rcases Int.le_total 0 a with h | h
  · exact ⟨Int.mul_nonneg h h, by have := Int.mul_le_mul h2 h2 h (by decide : (0 : Int) ≤ 400000000); omega⟩
  · have e : a * a = (-a) * (-a) := by grind
    have h' : 0 ≤ -a := by omega
    rw [e]
    exact ⟨Int.mul_nonneg h' h', by have := Int.mul_le_mul (show -a ≤ 400000000 by omega) (show -a ≤ 400000000 by omega) h' (by decide : (0 : Int) ≤ 400000000); omega⟩
theorem rsq_at {a b : Int} (h1 : -400000000 ≤ a) (h2 : a ≤ 400000000) (h3 : -400000000 ≤ b) (h4 : b ≤ 400000000) : rsq_r0 a b = a * a + b * b ∧ 0 ≤ a * a + b * b ∧ a * a + b * b ≤ 320000000000000000 := by
  have s := sqb h1 h2
  have t := sqb h3 h4
  unfold rsq_r0
  rw [w_id (n := a * a) (by omega) (by omega), w_id (n := b * b) (by omega) (by omega), w_id (n := a * a + b * b) (by omega) (by omega)]
  omega
theorem pars (x0 x1 x2 x3 x4 x5 x6 x7 : Int) : ((x0 + x2 + x4 + x6) * (x0 + x2 + x4 + x6) + (x1 + x3 + x5 + x7) * (x1 + x3 + x5 + x7)) + ((x0 + x3 - x4 - x7) * (x0 + x3 - x4 - x7) + (x1 - x2 - x5 + x6) * (x1 - x2 - x5 + x6)) + ((x0 - x2 + x4 - x6) * (x0 - x2 + x4 - x6) + (x1 - x3 + x5 - x7) * (x1 - x3 + x5 - x7)) + ((x0 - x3 - x4 + x7) * (x0 - x3 - x4 + x7) + (x1 + x2 - x5 - x6) * (x1 + x2 - x5 - x6)) = 4 * ((x0 * x0 + x1 * x1) + (x2 * x2 + x3 * x3) + (x4 * x4 + x5 * x5) + (x6 * x6 + x7 * x7)) := by grind
theorem sum_w {A0 A1 A2 A3 B0 B1 B2 B3 : Int} (a0 : 0 ≤ A0) (b0 : A0 ≤ 320000000000000000) (a1 : 0 ≤ A1) (b1 : A1 ≤ 320000000000000000) (a2 : 0 ≤ A2) (b2 : A2 ≤ 320000000000000000) (a3 : 0 ≤ A3) (b3 : A3 ≤ 320000000000000000)
    (c0 : 0 ≤ B0) (d0 : B0 ≤ 320000000000000000) (c1 : 0 ≤ B1) (d1 : B1 ≤ 320000000000000000) (c2 : 0 ≤ B2) (d2 : B2 ≤ 320000000000000000) (c3 : 0 ≤ B3) (d3 : B3 ≤ 320000000000000000) (key : A0 + A1 + A2 + A3 = 4 * (B0 + B1 + B2 + B3)) :
    (IntKind.i64.wrap (IntKind.i64.wrap (IntKind.i64.wrap (IntKind.i64.wrap (0 + A0) + A1) + A2) + A3) == IntKind.i64.wrap (4 * IntKind.i64.wrap (IntKind.i64.wrap (IntKind.i64.wrap (IntKind.i64.wrap (0 + B0) + B1) + B2) + B3))) = true := by
  rw [beq_iff_eq, w_id (n := 0 + A0) (by omega) (by omega), w_id (n := 0 + A0 + A1) (by omega) (by omega), w_id (n := 0 + A0 + A1 + A2) (by omega) (by omega), w_id (n := 0 + A0 + A1 + A2 + A3) (by omega) (by omega),
    w_id (n := 0 + B0) (by omega) (by omega), w_id (n := 0 + B0 + B1) (by omega) (by omega), w_id (n := 0 + B0 + B1 + B2) (by omega) (by omega), w_id (n := 0 + B0 + B1 + B2 + B3) (by omega) (by omega), w_id (by omega) (by omega)]
  omega
def mid (x : Int) : Prop := -100000000 ≤ x ∧ x ≤ 100000000
theorem cv_zero {x0 x1 x2 x3 x4 x5 x6 x7 : Int} (h : allR x0 x1 x2 x3 x4 x5 x6 x7) : cv_r0 x0 x1 x2 x3 x4 x5 x6 x7 = 0 := by
  rcases cv_in x0 x1 x2 x3 x4 x5 x6 x7 with ⟨h1, _⟩ | ⟨_, h1⟩
  · exact h1
  · exact absurd h h1
section
variable {x0 x1 x2 x3 x4 x5 x6 x7 : Int} (h0 : mid x0) (h1 : mid x1) (h2 : mid x2) (h3 : mid x3) (h4 : mid x4) (h5 : mid x5) (h6 : mid x6) (h7 : mid x7)
include h0 h1 h2 h3 h4 h5 h6 h7
theorem hm_all : ha_c0 x0 x1 x2 x3 x4 x5 x6 x7 = false ∧ ha_r0 x0 x1 x2 x3 x4 x5 x6 x7 = (x0 + x2 + x4 + x6) ∧ ha_r1 x0 x1 x2 x3 x4 x5 x6 x7 = (x1 + x3 + x5 + x7) ∧ ha_r2 x0 x1 x2 x3 x4 x5 x6 x7 = (x0 + x3 - x4 - x7) ∧ ha_r3 x0 x1 x2 x3 x4 x5 x6 x7 = (x1 - x2 - x5 + x6) ∧ ha_r4 x0 x1 x2 x3 x4 x5 x6 x7 = (x0 - x2 + x4 - x6) ∧ ha_r5 x0 x1 x2 x3 x4 x5 x6 x7 = (x1 - x3 + x5 - x7) ∧ ha_r6 x0 x1 x2 x3 x4 x5 x6 x7 = (x0 - x3 - x4 + x7) ∧ ha_r7 x0 x1 x2 x3 x4 x5 x6 x7 = (x1 + x2 - x5 - x6) := by
  unfold mid at *
  have hc : ha_c0 x0 x1 x2 x3 x4 x5 x6 x7 = false := by
    unfold ha_c0
    rw [cv_zero (by unfold allR inR; omega)]
    rfl
  have b0 : big x0 := by unfold big; omega
  have b1 : big x1 := by unfold big; omega
  have b2 : big x2 := by unfold big; omega
  have b3 : big x3 := by unfold big; omega
  have b4 : big x4 := by unfold big; omega
  have b5 : big x5 := by unfold big; omega
  have b6 : big x6 := by unfold big; omega
  have b7 : big x7 := by unfold big; omega
  refine ⟨hc, ?_, ?_, ?_, ?_, ?_, ?_, ?_, ?_⟩
  · unfold ha_r0; rw [hc]; exact sN_0 b0 b1 b2 b3 b4 b5 b6 b7
  · unfold ha_r1; rw [hc]; exact sN_1 b0 b1 b2 b3 b4 b5 b6 b7
  · unfold ha_r2; rw [hc]; exact sN_2 b0 b1 b2 b3 b4 b5 b6 b7
  · unfold ha_r3; rw [hc]; exact sN_3 b0 b1 b2 b3 b4 b5 b6 b7
  · unfold ha_r4; rw [hc]; exact sN_4 b0 b1 b2 b3 b4 b5 b6 b7
  · unfold ha_r5; rw [hc]; exact sN_5 b0 b1 b2 b3 b4 b5 b6 b7
  · unfold ha_r6; rw [hc]; exact sN_6 b0 b1 b2 b3 b4 b5 b6 b7
  · unfold ha_r7; rw [hc]; exact sN_7 b0 b1 b2 b3 b4 b5 b6 b7
theorem bk_all : ba_c0 (x0 + x2 + x4 + x6) (x1 + x3 + x5 + x7) (x0 + x3 - x4 - x7) (x1 - x2 - x5 + x6) (x0 - x2 + x4 - x6) (x1 - x3 + x5 - x7) (x0 - x3 - x4 + x7) (x1 + x2 - x5 - x6) = false ∧ ba_c1 (x0 + x2 + x4 + x6) (x1 + x3 + x5 + x7) (x0 + x3 - x4 - x7) (x1 - x2 - x5 + x6) (x0 - x2 + x4 - x6) (x1 - x3 + x5 - x7) (x0 - x3 - x4 + x7) (x1 + x2 - x5 - x6) = false ∧ ba_r0 (x0 + x2 + x4 + x6) (x1 + x3 + x5 + x7) (x0 + x3 - x4 - x7) (x1 - x2 - x5 + x6) (x0 - x2 + x4 - x6) (x1 - x3 + x5 - x7) (x0 - x3 - x4 + x7) (x1 + x2 - x5 - x6) = x0 ∧ ba_r1 (x0 + x2 + x4 + x6) (x1 + x3 + x5 + x7) (x0 + x3 - x4 - x7) (x1 - x2 - x5 + x6) (x0 - x2 + x4 - x6) (x1 - x3 + x5 - x7) (x0 - x3 - x4 + x7) (x1 + x2 - x5 - x6) = x1 ∧ ba_r2 (x0 + x2 + x4 + x6) (x1 + x3 + x5 + x7) (x0 + x3 - x4 - x7) (x1 - x2 - x5 + x6) (x0 - x2 + x4 - x6) (x1 - x3 + x5 - x7) (x0 - x3 - x4 + x7) (x1 + x2 - x5 - x6) = x2 ∧ ba_r3 (x0 + x2 + x4 + x6) (x1 + x3 + x5 + x7) (x0 + x3 - x4 - x7) (x1 - x2 - x5 + x6) (x0 - x2 + x4 - x6) (x1 - x3 + x5 - x7) (x0 - x3 - x4 + x7) (x1 + x2 - x5 - x6) = x3 ∧ ba_r4 (x0 + x2 + x4 + x6) (x1 + x3 + x5 + x7) (x0 + x3 - x4 - x7) (x1 - x2 - x5 + x6) (x0 - x2 + x4 - x6) (x1 - x3 + x5 - x7) (x0 - x3 - x4 + x7) (x1 + x2 - x5 - x6) = x4 ∧ ba_r5 (x0 + x2 + x4 + x6) (x1 + x3 + x5 + x7) (x0 + x3 - x4 - x7) (x1 - x2 - x5 + x6) (x0 - x2 + x4 - x6) (x1 - x3 + x5 - x7) (x0 - x3 - x4 + x7) (x1 + x2 - x5 - x6) = x5 ∧ ba_r6 (x0 + x2 + x4 + x6) (x1 + x3 + x5 + x7) (x0 + x3 - x4 - x7) (x1 - x2 - x5 + x6) (x0 - x2 + x4 - x6) (x1 - x3 + x5 - x7) (x0 - x3 - x4 + x7) (x1 + x2 - x5 - x6) = x6 ∧ ba_r7 (x0 + x2 + x4 + x6) (x1 + x3 + x5 + x7) (x0 + x3 - x4 - x7) (x1 - x2 - x5 + x6) (x0 - x2 + x4 - x6) (x1 - x3 + x5 - x7) (x0 - x3 - x4 + x7) (x1 + x2 - x5 - x6) = x7 := by
  unfold mid at *
  have hc : ba_c0 (x0 + x2 + x4 + x6) (x1 + x3 + x5 + x7) (x0 + x3 - x4 - x7) (x1 - x2 - x5 + x6) (x0 - x2 + x4 - x6) (x1 - x3 + x5 - x7) (x0 - x3 - x4 + x7) (x1 + x2 - x5 - x6) = false := by
    unfold ba_c0
    rw [cv_zero (by unfold allR inR; omega)]
    rfl
  have b0 : big (x0 + x2 + x4 + x6) := by unfold big; omega
  have c0 : big x0 := by unfold big; omega
  have b1 : big (x1 + x3 + x5 + x7) := by unfold big; omega
  have c1 : big x1 := by unfold big; omega
  have b2 : big (x0 + x3 - x4 - x7) := by unfold big; omega
  have c2 : big x2 := by unfold big; omega
  have b3 : big (x1 - x2 - x5 + x6) := by unfold big; omega
  have c3 : big x3 := by unfold big; omega
  have b4 : big (x0 - x2 + x4 - x6) := by unfold big; omega
  have c4 : big x4 := by unfold big; omega
  have b5 : big (x1 - x3 + x5 - x7) := by unfold big; omega
  have c5 : big x5 := by unfold big; omega
  have b6 : big (x0 - x3 - x4 + x7) := by unfold big; omega
  have c6 : big x6 := by unfold big; omega
  have b7 : big (x1 + x2 - x5 - x6) := by unfold big; omega
  have c7 : big x7 := by unfold big; omega
  have e0 : IntKind.i64.wrap ((sP_r0 (x0 + x2 + x4 + x6) (x1 + x3 + x5 + x7) (x0 + x3 - x4 - x7) (x1 - x2 - x5 + x6) (x0 - x2 + x4 - x6) (x1 - x3 + x5 - x7) (x0 - x3 - x4 + x7) (x1 + x2 - x5 - x6)).tdiv 4) = x0 := by
    rw [sP_0 b0 b1 b2 b3 b4 b5 b6 b7, show (x0 + x2 + x4 + x6) + (x0 + x3 - x4 - x7) + (x0 - x2 + x4 - x6) + (x0 - x3 - x4 + x7) = x0 * 4 from by omega, Int.mul_tdiv_cancel _ (by decide)]
    exact w_id (by omega) (by omega)
  have e1 : IntKind.i64.wrap ((sP_r1 (x0 + x2 + x4 + x6) (x1 + x3 + x5 + x7) (x0 + x3 - x4 - x7) (x1 - x2 - x5 + x6) (x0 - x2 + x4 - x6) (x1 - x3 + x5 - x7) (x0 - x3 - x4 + x7) (x1 + x2 - x5 - x6)).tdiv 4) = x1 := by
    rw [sP_1 b0 b1 b2 b3 b4 b5 b6 b7, show (x1 + x3 + x5 + x7) + (x1 - x2 - x5 + x6) + (x1 - x3 + x5 - x7) + (x1 + x2 - x5 - x6) = x1 * 4 from by omega, Int.mul_tdiv_cancel _ (by decide)]
    exact w_id (by omega) (by omega)
  have e2 : IntKind.i64.wrap ((sP_r2 (x0 + x2 + x4 + x6) (x1 + x3 + x5 + x7) (x0 + x3 - x4 - x7) (x1 - x2 - x5 + x6) (x0 - x2 + x4 - x6) (x1 - x3 + x5 - x7) (x0 - x3 - x4 + x7) (x1 + x2 - x5 - x6)).tdiv 4) = x2 := by
    rw [sP_2 b0 b1 b2 b3 b4 b5 b6 b7, show (x0 + x2 + x4 + x6) - (x1 - x2 - x5 + x6) - (x0 - x2 + x4 - x6) + (x1 + x2 - x5 - x6) = x2 * 4 from by omega, Int.mul_tdiv_cancel _ (by decide)]
    exact w_id (by omega) (by omega)
  have e3 : IntKind.i64.wrap ((sP_r3 (x0 + x2 + x4 + x6) (x1 + x3 + x5 + x7) (x0 + x3 - x4 - x7) (x1 - x2 - x5 + x6) (x0 - x2 + x4 - x6) (x1 - x3 + x5 - x7) (x0 - x3 - x4 + x7) (x1 + x2 - x5 - x6)).tdiv 4) = x3 := by
    rw [sP_3 b0 b1 b2 b3 b4 b5 b6 b7, show (x1 + x3 + x5 + x7) + (x0 + x3 - x4 - x7) - (x1 - x3 + x5 - x7) - (x0 - x3 - x4 + x7) = x3 * 4 from by omega, Int.mul_tdiv_cancel _ (by decide)]
    exact w_id (by omega) (by omega)
  have e4 : IntKind.i64.wrap ((sP_r4 (x0 + x2 + x4 + x6) (x1 + x3 + x5 + x7) (x0 + x3 - x4 - x7) (x1 - x2 - x5 + x6) (x0 - x2 + x4 - x6) (x1 - x3 + x5 - x7) (x0 - x3 - x4 + x7) (x1 + x2 - x5 - x6)).tdiv 4) = x4 := by
    rw [sP_4 b0 b1 b2 b3 b4 b5 b6 b7, show (x0 + x2 + x4 + x6) - (x0 + x3 - x4 - x7) + (x0 - x2 + x4 - x6) - (x0 - x3 - x4 + x7) = x4 * 4 from by omega, Int.mul_tdiv_cancel _ (by decide)]
    exact w_id (by omega) (by omega)
  have e5 : IntKind.i64.wrap ((sP_r5 (x0 + x2 + x4 + x6) (x1 + x3 + x5 + x7) (x0 + x3 - x4 - x7) (x1 - x2 - x5 + x6) (x0 - x2 + x4 - x6) (x1 - x3 + x5 - x7) (x0 - x3 - x4 + x7) (x1 + x2 - x5 - x6)).tdiv 4) = x5 := by
    rw [sP_5 b0 b1 b2 b3 b4 b5 b6 b7, show (x1 + x3 + x5 + x7) - (x1 - x2 - x5 + x6) + (x1 - x3 + x5 - x7) - (x1 + x2 - x5 - x6) = x5 * 4 from by omega, Int.mul_tdiv_cancel _ (by decide)]
    exact w_id (by omega) (by omega)
  have e6 : IntKind.i64.wrap ((sP_r6 (x0 + x2 + x4 + x6) (x1 + x3 + x5 + x7) (x0 + x3 - x4 - x7) (x1 - x2 - x5 + x6) (x0 - x2 + x4 - x6) (x1 - x3 + x5 - x7) (x0 - x3 - x4 + x7) (x1 + x2 - x5 - x6)).tdiv 4) = x6 := by
    rw [sP_6 b0 b1 b2 b3 b4 b5 b6 b7, show (x0 + x2 + x4 + x6) + (x1 - x2 - x5 + x6) - (x0 - x2 + x4 - x6) - (x1 + x2 - x5 - x6) = x6 * 4 from by omega, Int.mul_tdiv_cancel _ (by decide)]
    exact w_id (by omega) (by omega)
  have e7 : IntKind.i64.wrap ((sP_r7 (x0 + x2 + x4 + x6) (x1 + x3 + x5 + x7) (x0 + x3 - x4 - x7) (x1 - x2 - x5 + x6) (x0 - x2 + x4 - x6) (x1 - x3 + x5 - x7) (x0 - x3 - x4 + x7) (x1 + x2 - x5 - x6)).tdiv 4) = x7 := by
    rw [sP_7 b0 b1 b2 b3 b4 b5 b6 b7, show (x1 + x3 + x5 + x7) - (x0 + x3 - x4 - x7) - (x1 - x3 + x5 - x7) + (x0 - x3 - x4 + x7) = x7 * 4 from by omega, Int.mul_tdiv_cancel _ (by decide)]
    exact w_id (by omega) (by omega)
  have n0 := sN_0 c0 c1 c2 c3 c4 c5 c6 c7
  have n1 := sN_1 c0 c1 c2 c3 c4 c5 c6 c7
  have n2 := sN_2 c0 c1 c2 c3 c4 c5 c6 c7
  have n3 := sN_3 c0 c1 c2 c3 c4 c5 c6 c7
  have n4 := sN_4 c0 c1 c2 c3 c4 c5 c6 c7
  have n5 := sN_5 c0 c1 c2 c3 c4 c5 c6 c7
  have n6 := sN_6 c0 c1 c2 c3 c4 c5 c6 c7
  have n7 := sN_7 c0 c1 c2 c3 c4 c5 c6 c7
  have hd : ba_c1 (x0 + x2 + x4 + x6) (x1 + x3 + x5 + x7) (x0 + x3 - x4 - x7) (x1 - x2 - x5 + x6) (x0 - x2 + x4 - x6) (x1 - x3 + x5 - x7) (x0 - x3 - x4 + x7) (x1 + x2 - x5 - x6) = false := by
    unfold ba_c1
    rw [e0, e1, e2, e3, e4, e5, e6, e7, n0, n1, n2, n3, n4, n5, n6, n7]
    simp
  refine ⟨hc, hd, ?_, ?_, ?_, ?_, ?_, ?_, ?_, ?_⟩
  · unfold ba_r0; rw [hc, hd]; exact e0
  · unfold ba_r1; rw [hc, hd]; exact e1
  · unfold ba_r2; rw [hc, hd]; exact e2
  · unfold ba_r3; rw [hc, hd]; exact e3
  · unfold ba_r4; rw [hc, hd]; exact e4
  · unfold ba_r5; rw [hc, hd]; exact e5
  · unfold ba_r6; rw [hc, hd]; exact e6
  · unfold ba_r7; rw [hc, hd]; exact e7
theorem backs_mid : lb_c16 x0 x1 x2 x3 x4 x5 x6 x7 = false ∧ lb_c17 x0 x1 x2 x3 x4 x5 x6 x7 = false ∧ lb_c18 x0 x1 x2 x3 x4 x5 x6 x7 = false ∧ lb_c19 x0 x1 x2 x3 x4 x5 x6 x7 = false ∧ lb_c20 x0 x1 x2 x3 x4 x5 x6 x7 = false ∧ lb_c21 x0 x1 x2 x3 x4 x5 x6 x7 = false ∧ lb_c22 x0 x1 x2 x3 x4 x5 x6 x7 = false ∧ lb_c23 x0 x1 x2 x3 x4 x5 x6 x7 = false ∧ lb_c24 x0 x1 x2 x3 x4 x5 x6 x7 = true := by
  obtain ⟨hc, a0, a1, a2, a3, a4, a5, a6, a7⟩ := hm_all h0 h1 h2 h3 h4 h5 h6 h7
  obtain ⟨pc, p0, p1, p2, p3, p4, p5, p6, p7⟩ := hm_all h6 h7 h0 h1 h2 h3 h4 h5
  obtain ⟨bc, bd, e0, e1, e2, e3, e4, e5, e6, e7⟩ := bk_all h0 h1 h2 h3 h4 h5 h6 h7
  have a8 : ha_r8 x0 x1 x2 x3 x4 x5 x6 x7 = 0 := by unfold ha_r8; rw [hc]; rfl
  have p8 : ha_r8 x6 x7 x0 x1 x2 x3 x4 x5 = 0 := by unfold ha_r8; rw [pc]; rfl
  have e8 : ba_r8 (x0 + x2 + x4 + x6) (x1 + x3 + x5 + x7) (x0 + x3 - x4 - x7) (x1 - x2 - x5 + x6) (x0 - x2 + x4 - x6) (x1 - x3 + x5 - x7) (x0 - x3 - x4 + x7) (x1 + x2 - x5 - x6) = 0 := by unfold ba_r8; rw [bc, bd]; rfl
  unfold mid at *
  refine ⟨by unfold lb_c16; rw [a8]; rfl, by unfold lb_c17; rw [a0, a1, a2, a3, a4, a5, a6, a7, e8]; rfl, by unfold lb_c18; rw [p8]; rfl, by unfold lb_c19; rw [a0, a1, a2, a3, a4, a5, a6, a7, e0, e1, e2, e3, e4, e5, e6, e7]; simp, ?_, ?_, ?_, ?_, ?_⟩
  · unfold lb_c20
    rw [a0, a1, p0, p1]
    clear hc pc bc bd a8 p8 e8 a0 p0 e0 a1 p1 e1 a2 p2 e2 a3 p3 e3 a4 p4 e4 a5 p5 e5 a6 p6 e6 a7 p7 e7
    simp only [Bool.not_eq_false', Bool.and_eq_true, beq_iff_eq, and_true]
    omega
  · unfold lb_c21 rtm1_r0 rtm1_r1
    rw [a2, a3, p2, p3]
    clear hc pc bc bd a8 p8 e8 a0 p0 e0 a1 p1 e1 a2 p2 e2 a3 p3 e3 a4 p4 e4 a5 p5 e5 a6 p6 e6 a7 p7 e7
    simp (disch := omega) only [w_id]
    simp only [Bool.not_eq_false', Bool.and_eq_true, beq_iff_eq, and_true]
    omega
  · unfold lb_c22 rtm2_r0 rtm2_r1
    rw [a4, a5, p4, p5]
    clear hc pc bc bd a8 p8 e8 a0 p0 e0 a1 p1 e1 a2 p2 e2 a3 p3 e3 a4 p4 e4 a5 p5 e5 a6 p6 e6 a7 p7 e7
    simp (disch := omega) only [w_id]
    simp only [Bool.not_eq_false', Bool.and_eq_true, beq_iff_eq, and_true]
    omega
  · unfold lb_c23 rtm3_r0
    rw [a6, a7, p6, p7]
    clear hc pc bc bd a8 p8 e8 a0 p0 e0 a1 p1 e1 a2 p2 e2 a3 p3 e3 a4 p4 e4 a5 p5 e5 a6 p6 e6 a7 p7 e7
    simp (disch := omega) only [w_id]
    simp only [Bool.not_eq_false', Bool.and_eq_true, beq_iff_eq, and_true]
    omega
  · unfold lb_c24
    rw [a0, a1]
    clear hc pc bc bd a8 p8 e8 a0 p0 e0 a1 p1 e1 a2 p2 e2 a3 p3 e3 a4 p4 e4 a5 p5 e5 a6 p6 e6 a7 p7 e7
    have f0 : rpl_r0 x0 x1 x2 x3 = x0 + x2 := by unfold rpl_r0; exact w_id (by omega) (by omega)
    have f1 : rpl_r1 x0 x1 x2 x3 = x1 + x3 := by unfold rpl_r1; exact w_id (by omega) (by omega)
    have f2 : rpl_r0 x4 x5 x6 x7 = x4 + x6 := by unfold rpl_r0; exact w_id (by omega) (by omega)
    have f3 : rpl_r1 x4 x5 x6 x7 = x5 + x7 := by unfold rpl_r1; exact w_id (by omega) (by omega)
    have f4 : rpl_r0 (x0 + x2) (x1 + x3) (x4 + x6) (x5 + x7) = x0 + x2 + x4 + x6 := by unfold rpl_r0; rw [w_id (by omega) (by omega)]; omega
    have f5 : rpl_r1 (x0 + x2) (x1 + x3) (x4 + x6) (x5 + x7) = x1 + x3 + x5 + x7 := by unfold rpl_r1; rw [w_id (by omega) (by omega)]; omega
    rw [f0, f1, f2, f3, f4, f5]
    simp
theorem backs_sum : (IntKind.i64.wrap (IntKind.i64.wrap (IntKind.i64.wrap (IntKind.i64.wrap (0 + rsq_r0 (ha_r0 x0 x1 x2 x3 x4 x5 x6 x7) (ha_r1 x0 x1 x2 x3 x4 x5 x6 x7)) + rsq_r0 (ha_r2 x0 x1 x2 x3 x4 x5 x6 x7) (ha_r3 x0 x1 x2 x3 x4 x5 x6 x7)) + rsq_r0 (ha_r4 x0 x1 x2 x3 x4 x5 x6 x7) (ha_r5 x0 x1 x2 x3 x4 x5 x6 x7)) + rsq_r0 (ha_r6 x0 x1 x2 x3 x4 x5 x6 x7) (ha_r7 x0 x1 x2 x3 x4 x5 x6 x7)) == IntKind.i64.wrap (4 * IntKind.i64.wrap (IntKind.i64.wrap (IntKind.i64.wrap (IntKind.i64.wrap (0 + rsq_r0 x0 x1) + rsq_r0 x2 x3) + rsq_r0 x4 x5) + rsq_r0 x6 x7))) = true := by
  obtain ⟨hc, a0, a1, a2, a3, a4, a5, a6, a7⟩ := hm_all h0 h1 h2 h3 h4 h5 h6 h7
  rw [a0, a1, a2, a3, a4, a5, a6, a7]
  clear hc a0 a1 a2 a3 a4 a5 a6 a7
  unfold mid at *
  have r0 := rsq_at (a := (x0 + x2 + x4 + x6)) (b := (x1 + x3 + x5 + x7)) (by omega) (by omega) (by omega) (by omega)
  have s0 := rsq_at (a := x0) (b := x1) (by omega) (by omega) (by omega) (by omega)
  have r1 := rsq_at (a := (x0 + x3 - x4 - x7)) (b := (x1 - x2 - x5 + x6)) (by omega) (by omega) (by omega) (by omega)
  have s1 := rsq_at (a := x2) (b := x3) (by omega) (by omega) (by omega) (by omega)
  have r2 := rsq_at (a := (x0 - x2 + x4 - x6)) (b := (x1 - x3 + x5 - x7)) (by omega) (by omega) (by omega) (by omega)
  have s2 := rsq_at (a := x4) (b := x5) (by omega) (by omega) (by omega) (by omega)
  have r3 := rsq_at (a := (x0 - x3 - x4 + x7)) (b := (x1 + x2 - x5 - x6)) (by omega) (by omega) (by omega) (by omega)
  have s3 := rsq_at (a := x6) (b := x7) (by omega) (by omega) (by omega) (by omega)
  rw [r0.1, s0.1, r1.1, s1.1, r2.1, s2.1, r3.1, s3.1]
  exact sum_w r0.2.1 r0.2.2 r1.2.1 r1.2.2 r2.2.1 r2.2.2 r3.2.1 r3.2.2 s0.2.1 s0.2.2 s1.2.1 s1.2.2 s2.2.1 s2.2.2 s3.2.1 s3.2.2 (pars x0 x1 x2 x3 x4 x5 x6 x7)
end
theorem backs_true (x0 x1 x2 x3 x4 x5 x6 x7 : Int) : lb_r0 x0 x1 x2 x3 x4 x5 x6 x7 = true := by
  unfold lb_r0
  cases k0 : lb_c0 x0 x1 x2 x3 x4 x5 x6 x7
  · skip
    cases k1 : lb_c1 x0 x1 x2 x3 x4 x5 x6 x7
    · skip
      cases k2 : lb_c2 x0 x1 x2 x3 x4 x5 x6 x7
      · skip
        cases k3 : lb_c3 x0 x1 x2 x3 x4 x5 x6 x7
        · skip
          cases k4 : lb_c4 x0 x1 x2 x3 x4 x5 x6 x7
          · skip
            cases k5 : lb_c5 x0 x1 x2 x3 x4 x5 x6 x7
            · skip
              cases k6 : lb_c6 x0 x1 x2 x3 x4 x5 x6 x7
              · skip
                cases k7 : lb_c7 x0 x1 x2 x3 x4 x5 x6 x7
                · skip
                  cases k8 : lb_c8 x0 x1 x2 x3 x4 x5 x6 x7
                  · skip
                    cases k9 : lb_c9 x0 x1 x2 x3 x4 x5 x6 x7
                    · skip
                      cases k10 : lb_c10 x0 x1 x2 x3 x4 x5 x6 x7
                      · skip
                        cases k11 : lb_c11 x0 x1 x2 x3 x4 x5 x6 x7
                        · skip
                          cases k12 : lb_c12 x0 x1 x2 x3 x4 x5 x6 x7
                          · skip
                            cases k13 : lb_c13 x0 x1 x2 x3 x4 x5 x6 x7
                            · skip
                              cases k14 : lb_c14 x0 x1 x2 x3 x4 x5 x6 x7
                              · skip
                                cases k15 : lb_c15 x0 x1 x2 x3 x4 x5 x6 x7
                                · skip
                                  unfold lb_c0 lb_c1 lb_c2 lb_c3 lb_c4 lb_c5 lb_c6 lb_c7 lb_c8 lb_c9 lb_c10 lb_c11 lb_c12 lb_c13 lb_c14 lb_c15 at *
                                  simp only [decide_eq_false_iff_not] at k0 k1 k2 k3 k4 k5 k6 k7 k8 k9 k10 k11 k12 k13 k14 k15
                                  have h0 : mid x0 := by unfold mid; omega
                                  have h1 : mid x1 := by unfold mid; omega
                                  have h2 : mid x2 := by unfold mid; omega
                                  have h3 : mid x3 := by unfold mid; omega
                                  have h4 : mid x4 := by unfold mid; omega
                                  have h5 : mid x5 := by unfold mid; omega
                                  have h6 : mid x6 := by unfold mid; omega
                                  have h7 : mid x7 := by unfold mid; omega
                                  obtain ⟨g16, g17, g18, g19, g20, g21, g22, g23, g24⟩ := backs_mid h0 h1 h2 h3 h4 h5 h6 h7
                                  rw [g16, g17, g18, g19, g20, g21, g22, g23, g24]
                                  exact backs_sum h0 h1 h2 h3 h4 h5 h6 h7
                                · rfl
                              · rfl
                            · rfl
                          · rfl
                        · rfl
                      · rfl
                    · rfl
                  · rfl
                · rfl
              · rfl
            · rfl
          · rfl
        · rfl
      · rfl
    · rfl
  · rfl
theorem backs_law (x0 x1 x2 x3 x4 x5 x6 x7 : Int) : Gives Tryz.prog envL 0 13 [.agg #[.int .i64 x0, .int .i64 x1, .int .i64 x2, .int .i64 x3, .int .i64 x4, .int .i64 x5, .int .i64 x6, .int .i64 x7]] heap0 (.bool true, heap0) := by
  have h := lb_gives x0 x1 x2 x3 x4 x5 x6 x7
  rw [backs_true] at h
  exact h
end Go.Proofs.YtpdiaiccnaoaiaaGreatDoor
/-
ArrayBacks: from the rows to the statement.
-/
namespace Go.Proofs.YtpdiaiccnaoaiaaGreatDoor.arrayBacks
open Go Go.Abs Go.ChangeShapes Go.WideShapes Go.ChangeAt Go.RowKit

theorem own : ownKnob Tryz.prog.godebug = none := by kernel_rfl
theorem heap0_eq : heap0 = tabRows Tryz.prog Rows.arrayBacksRow.laid 8 := by kernel_rfl
theorem still0 : noOwn heap0 = true := by kernel_rfl
section
variable {H : Type} {enc : TypeId × Value → H} {w : World} {base : Nat} {sp : Nat → Bool} {hd : Bool}
set_option maxRecDepth 100000 in
theorem arg72 {r : Reach} {b0 : Nat} {v : Value} {d : DataW H} {p : List MemPlace} (hv : Value.okWide Tryz.prog w r b0 72 v) (h : DataW.Trod enc Tryz.prog w base sp hd 72 v d p) :
    p = [] ∧ ∃ a0 a1 a2 a3 a4 a5 a6 a7 : Int, v = .agg #[.int .i64 a0, .int .i64 a1, .int .i64 a2, .int .i64 a3, .int .i64 a4, .int .i64 a5, .int .i64 a6, .int .i64 a7] := by
  obtain ⟨fuel, h⟩ := h
  simp only [Value.okWide, Tryz.underlying72] at hv
  obtain ⟨cs, rfl, _, _⟩ := hv
  obtain ⟨hi, hp⟩ := flat_of 9 72 [.i64, .i64, .i64, .i64, .i64, .i64, .i64, .i64] fuel _ _ (by kernel_rfl) h
  refine ⟨hp, ?_⟩
  simp only [Value.cells] at hi
  obtain ⟨a0, l0, e0, _, hi⟩ := hi.inv
  obtain ⟨a1, l1, e1, _, hi⟩ := hi.inv
  obtain ⟨a2, l2, e2, _, hi⟩ := hi.inv
  obtain ⟨a3, l3, e3, _, hi⟩ := hi.inv
  obtain ⟨a4, l4, e4, _, hi⟩ := hi.inv
  obtain ⟨a5, l5, e5, _, hi⟩ := hi.inv
  obtain ⟨a6, l6, e6, _, hi⟩ := hi.inv
  obtain ⟨a7, l7, e7, _, hi⟩ := hi.inv
  have ee := hi.end
  refine ⟨a0, a1, a2, a3, a4, a5, a6, a7, ?_⟩
  rw [← Array.toList_inj.1 (show cs.toList = (#[.int .i64 a0, .int .i64 a1, .int .i64 a2, .int .i64 a3, .int .i64 a4, .int .i64 a5, .int .i64 a6, .int .i64 a7] : Array Value).toList from by rw [e0, e1, e2, e3, e4, e5, e6, e7, ee])]
end

theorem calls (x0 x1 x2 x3 x4 x5 x6 x7 : Int) (W : World) (hL : laidMetH Tryz.prog Rows.arrayBacksRow.laid W) :
    Calls Tryz.prog 13 #[.agg #[.int .i64 x0, .int .i64 x1, .int .i64 x2, .int .i64 x3, .int .i64 x4, .int .i64 x5, .int .i64 x6, .int .i64 x7]] W fun e w' =>
      e = .returned (.bool true) ∧ (w'.os = W.os ∧ w'.output = W.output) ∧ ∀ b, b < W.heap.size → w'.heap[b]? = W.heap[b]? := by
  obtain ⟨n, hn⟩ := backs_law x0 x1 x2 x3 x4 x5 x6 x7
  have hl : laidMet Tryz.prog Rows.arrayBacksRow.laid W := by rw [← MakeChecks.laidMetH_plain _ _ _ (by kernel_rfl)]; exact hL
  have hR : Rel Tryz.prog (tabLoc 8) heap0 W := by rw [heap0_eq]; exact tabRows_rel hl
  have hb : ∃ cd, Tryz.f13.body = some cd := ⟨_, rfl⟩
  obtain ⟨cd, hb⟩ := hb
  have hargs : VRs (tabLoc 8) [.agg #[.int .i64 x0, .int .i64 x1, .int .i64 x2, .int .i64 x3, .int .i64 x4, .int .i64 x5, .int .i64 x6, .int .i64 x7]] [.agg #[.int .i64 x0, .int .i64 x1, .int .i64 x2, .int .i64 x3, .int .i64 x4, .int .i64 x5, .int .i64 x6, .int .i64 x7]] := VRs.cons (VR.refl _ rfl) (VRs.nil _)
  refine (calls_of (call_sound prog_ok envL_ok n) prog_ok Tryz.func13 hb hn hargs (tabLoc_globs 8) hR still0).mono ?_
  rintro e w' ⟨v', ρ', rfl, hv, _, hm, hs⟩
  rw [hv.atom_eq rfl]
  exact ⟨rfl, hm.out, hs⟩

theorem reads_ok : Reads Tryz.prog := ⟨by kernel_rfl, by kernel_rfl, by kernel_rfl⟩
theorem len_1 {α : Type} {l : List α} (h : l.length = 1) : ∃ y0 : α, l = [y0] := by
  match l, h with
  | [y0], _ => exact ⟨y0, rfl⟩

set_option maxRecDepth 100000 in
theorem contract (H : Type) (enc : TypeId × Value → H) (W : World) (base : Nat) (args : Array Value) (ds gs : List (DataW H)) (before : List MemPlace)
    (hval : ∀ (j : Nat) t v, Tryz.f13.params[j]? = some t → args[j]? = some v → Value.okWide Tryz.prog W .any base t v)
    (hW : DataW.Whole enc Tryz.prog Tryz.f13.params.toList Rows.arrayBacksSpec.vars false W args.toList ds gs before) (hL : laidMetH Tryz.prog Rows.arrayBacksRow.laid W) :
    Calls Tryz.prog 13 args W fun e W' => ∃ v, e = .returned v ∧ Rows.arrayBacksSpec.post enc Tryz.prog Tryz.f13 false true false false W args v W' := by
  have hW' := hW
  obtain ⟨p, q, hA, hV, rfl, hfz, hnd⟩ := hW
  have hA0 : DataW.TrodAll enc Tryz.prog W 0 (fun _ => true) true Tryz.f13.params.toList args.toList ds p := hA
  rw [Tryz.params13] at hA0 hval
  obtain ⟨v0, vs0, d0, ds0, p0, q0, hargs0, rfl, rfl, h0, r0⟩ := trodAll_cons hA0
  obtain ⟨rfl, rfl, rfl⟩ := trodAll_nil r0
  obtain rfl : args = #[v0] := by cases args; simp_all
  obtain ⟨_, x0, x1, x2, x3, x4, x5, x6, x7, rfl⟩ := arg72 (hval 0 72 v0 rfl rfl) h0
  refine (calls x0 x1 x2 x3 x4 x5 x6 x7 W hL).mono fun e W' hr => ?_
  obtain ⟨rfl, ho, hb⟩ := hr
  refine ⟨_, rfl, law_post (bt := 4) reads_ok rfl (fun ds hl => ?_) (by kernel_rfl) Tryz.underlying4 (by kernel_rfl) hW' ho hb⟩
  rw [show Tryz.f13.params.size = 1 by kernel_rfl] at hl
  obtain ⟨y0, rfl⟩ := len_1 hl
  rfl
end Go.Proofs.YtpdiaiccnaoaiaaGreatDoor.arrayBacks
/-
ArrayBacks of the package wooferlaw06 returns true for every input, whatever the world: proved for all arguments, under the conditions that the row and its card name (the package-level tables as laid).
-/
namespace Go.Proofs.YtpdiaiccnaoaiaaGreatDoor.arrayBacks
open Go Go.Abs Go.ChangeShapes Go.WideShapes Go.ChangeAt Go.RowKit

/-- The settled world, the tables laid. -/
noncomputable def putTab (A : Heap) (w : World) : World :=
  { w with heap := ((List.range 8).foldl (fun h g => match hget A g with
      | some (.cells cs _ _) => h.modify g fun
        | .cells _ t frozen => .cells cs.toArray t frozen
        | o => o
      | _ => h) w.heap) }
noncomputable def laidWorld (os : Os) : World := putTab heap0 (World.holding Tryz.prog os ⟨#[], #[], []⟩)
theorem laid_met (os : Os) : laidMet Tryz.prog Rows.arrayBacksRow.laid ((laidWorld os).forCall (fun _ _ => 0) ⟨#[], #[.agg #[.int .i64 0, .int .i64 0, .int .i64 0, .int .i64 0, .int .i64 0, .int .i64 0, .int .i64 0, .int .i64 0]], []⟩).memory :=
  laidMet_of_run' 8 (by kernel_rfl) (by kernel_rfl)
theorem reads (os : Os) {H : Type} (enc : TypeId × Value → H) : ∃ places, DataW.whole enc Tryz.prog ((laidWorld os).forCall (fun _ _ => 0) ⟨#[], #[.agg #[.int .i64 0, .int .i64 0, .int .i64 0, .int .i64 0, .int .i64 0, .int .i64 0, .int .i64 0, .int .i64 0]], []⟩).memory Tryz.f13.params.toList Rows.arrayBacksSpec.vars false (#[.agg #[.int .i64 0, .int .i64 0, .int .i64 0, .int .i64 0, .int .i64 0, .int .i64 0, .int .i64 0, .int .i64 0]] : Array Value).toList 8 = some ([.agg [.agg [.lit (.int .i64 0), .lit (.int .i64 0)], .agg [.lit (.int .i64 0), .lit (.int .i64 0)], .agg [.lit (.int .i64 0), .lit (.int .i64 0)], .agg [.lit (.int .i64 0), .lit (.int .i64 0)]]], [], places) :=
  ⟨[], by kernel_rfl⟩

set_option maxRecDepth 100000 in
theorem lifted (os : Os) (started : os.Started) (H : Type) (enc : TypeId × Value → H) (F : Stop.Interp) :
    ReturnsInHanded {} Tryz.checked os 13 .any ((OpenSpec.ofChange Rows.arrayBacksSpec).preRow enc Tryz.prog Tryz.f13 Rows.arrayBacksRow.domain false Rows.arrayBacksRow.laid) (((OpenSpec.ofChange Rows.arrayBacksSpec).at F).post enc Tryz.prog Tryz.f13 false true false false) := by
  obtain ⟨places, hx⟩ := reads os enc
  refine returnsInHanded_of_row (C := Tryz.checked) (s := OpenSpec.ofChange Rows.arrayBacksSpec) own started (by kernel_rfl) Tryz.func13
    (witness_row_at (enc := enc) (C := Tryz.checked) false (laidWorld os) #[.agg #[.int .i64 0, .int .i64 0, .int .i64 0, .int .i64 0, .int .i64 0, .int .i64 0, .int .i64 0, .int .i64 0]] rfl (by kernel_rfl) (by kernel_rfl) (by kernel_rfl)
      (OpenSpec.preRow_of_cond 8 hx (by kernel_rfl) (fun k hk => by cases hk) (by kernel_rfl) (laid_met os))) ?_
  intro W base args ds gs before hval hW _ _ _ hL _ _
  exact contract H enc W base args ds gs before hval hW hL

theorem said : Rows.ArrayBacksSaid :=
  OpenClaim.holds_of_cond 13 Tryz.f13 rfl rfl rfl rfl rfl rfl rfl ⟨rfl, rfl, rfl, rfl, rfl⟩ rfl rfl rfl rfl rfl (by kernel_rfl) Tryz.func13 (by kernel_rfl)
    (of_decide_eq_true (by kernel_rfl)) (by unfold Func.isWrapper; first | (rw [if_pos (by decide +kernel)]; kernel_rfl) | (rw [if_neg (by decide +kernel)]; exact ⟨rfl, rfl⟩))
    (fun os started H enc _ F => by rw [OpenClaim.pre_eq_preRow]; exact lifted os started H enc F)

theorem plain (f : FuncId) (fn : Func) (hf : Tryz.pinned.checked.prog.funcNamed "woofer/wooferlaw06.ArrayBacks" = some f) (hfn : Tryz.pinned.checked.prog.funcs[f]? = some fn) :
    false = Tryz.pinned.checked.prog.looks [] ∧ ∀ (j : Nat) t, fn.params[j]? = some t → Tryz.pinned.checked.prog.wantsStandIn t = false := by
  obtain rfl : f = 13 := Option.some.inj ((show Tryz.prog.funcNamed "woofer/wooferlaw06.ArrayBacks" = some 13 by kernel_rfl).symm.trans hf) |>.symm
  obtain rfl : fn = Tryz.f13 := (Option.some.inj (Tryz.func13.symm.trans hfn)).symm
  refine ⟨by kernel_rfl, fun j t ht => ?_⟩
  rw [Tryz.params13] at ht
  have hm := Array.mem_of_getElem? ht
  simp only [List.mem_toArray, List.mem_cons, List.not_mem_nil, or_false] at hm
  rcases hm with rfl
  · exact (show Tryz.prog.wantsStandIn 72 = false by kernel_rfl)

theorem card : Rows.ArrayBacksCardSaid :=
  Claim7.holds_tied_plain_at .later [] _ _ _ _ said (fun _ h => by cases h) (by kernel_rfl) (fun _ h => by cases h) arrayBacks_row_tie rfl ⟨rfl, rfl⟩ (by kernel_rfl) rfl plain (by kernel_rfl)
end Go.Proofs.YtpdiaiccnaoaiaaGreatDoor.arrayBacks
