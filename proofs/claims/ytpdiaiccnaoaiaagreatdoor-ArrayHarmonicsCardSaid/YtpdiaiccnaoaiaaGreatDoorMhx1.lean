/-
ArrayHarmonics of the package wooferlaw06 returns true for every input, whatever the world: proved for all arguments, under the conditions that the row and its card name (the package-level tables as laid).
-/
import Derived.Test.YtpdiaiccnaoaiaaGreatDoorMb7
import Derived.Test.YtpdiaiccnaoaiaaGreatDoorCards
import Derived.Test.YtpdiaiccnaoaiaaGreatDoorTie
import Derived.WalkKit
import Derived.ProofKit
import Derived.OpenShut
import Derived.Deep.DeepHandedRow
import Derived.Lib.LaidTab
import Derived.MakeChecks
set_option linter.unusedVariables false
set_option linter.unusedSimpArgs false
set_option linter.unusedSectionVars false
/-
What functions give.
-/
namespace Go.Proofs.YtpdiaiccnaoaiaaGreatDoor
open Go Go.Abs
def la_c0 (x0 : Int) (x1 : Int) (x2 : Int) (x3 : Int) (x4 : Int) (x5 : Int) (x6 : Int) (x7 : Int) : Bool := tc_r0 x0 x1 x2 x3 x4 x5 x6 x7 == 0
def la_c1 (x0 : Int) (x1 : Int) (x2 : Int) (x3 : Int) (x4 : Int) (x5 : Int) (x6 : Int) (x7 : Int) : Bool := ha_r0 x0 x1 x2 x3 x4 x5 x6 x7 == rsN_r0 x0 x1 x2 x3 x4 x5 x6 x7 && (ha_r1 x0 x1 x2 x3 x4 x5 x6 x7 == rsN_r1 x0 x1 x2 x3 x4 x5 x6 x7 && true) && (ha_r2 x0 x1 x2 x3 x4 x5 x6 x7 == rsN_r2 x0 x1 x2 x3 x4 x5 x6 x7 && (ha_r3 x0 x1 x2 x3 x4 x5 x6 x7 == rsN_r3 x0 x1 x2 x3 x4 x5 x6 x7 && true) && (ha_r4 x0 x1 x2 x3 x4 x5 x6 x7 == rsN_r4 x0 x1 x2 x3 x4 x5 x6 x7 && (ha_r5 x0 x1 x2 x3 x4 x5 x6 x7 == rsN_r5 x0 x1 x2 x3 x4 x5 x6 x7 && true) && (ha_r6 x0 x1 x2 x3 x4 x5 x6 x7 == rsN_r6 x0 x1 x2 x3 x4 x5 x6 x7 && (ha_r7 x0 x1 x2 x3 x4 x5 x6 x7 == rsN_r7 x0 x1 x2 x3 x4 x5 x6 x7 && true) && true)))
def la_c2 (x0 : Int) (x1 : Int) (x2 : Int) (x3 : Int) (x4 : Int) (x5 : Int) (x6 : Int) (x7 : Int) : Bool := ha_r8 x0 x1 x2 x3 x4 x5 x6 x7 == tc_r0 x0 x1 x2 x3 x4 x5 x6 x7
def la_c3 (x0 : Int) (x1 : Int) (x2 : Int) (x3 : Int) (x4 : Int) (x5 : Int) (x6 : Int) (x7 : Int) : Bool := ba_r0 x0 x1 x2 x3 x4 x5 x6 x7 == rb_r0 x0 x1 x2 x3 x4 x5 x6 x7 && (ba_r1 x0 x1 x2 x3 x4 x5 x6 x7 == rb_r1 x0 x1 x2 x3 x4 x5 x6 x7 && true) && (ba_r2 x0 x1 x2 x3 x4 x5 x6 x7 == rb_r2 x0 x1 x2 x3 x4 x5 x6 x7 && (ba_r3 x0 x1 x2 x3 x4 x5 x6 x7 == rb_r3 x0 x1 x2 x3 x4 x5 x6 x7 && true) && (ba_r4 x0 x1 x2 x3 x4 x5 x6 x7 == rb_r4 x0 x1 x2 x3 x4 x5 x6 x7 && (ba_r5 x0 x1 x2 x3 x4 x5 x6 x7 == rb_r5 x0 x1 x2 x3 x4 x5 x6 x7 && true) && (ba_r6 x0 x1 x2 x3 x4 x5 x6 x7 == rb_r6 x0 x1 x2 x3 x4 x5 x6 x7 && (ba_r7 x0 x1 x2 x3 x4 x5 x6 x7 == rb_r7 x0 x1 x2 x3 x4 x5 x6 x7 && true) && true)))
def la_c4 (x0 : Int) (x1 : Int) (x2 : Int) (x3 : Int) (x4 : Int) (x5 : Int) (x6 : Int) (x7 : Int) : Bool := ha_r0 x0 x1 x2 x3 x4 x5 x6 x7 == 0 && (ha_r1 x0 x1 x2 x3 x4 x5 x6 x7 == 0 && true) && (ha_r2 x0 x1 x2 x3 x4 x5 x6 x7 == 0 && (ha_r3 x0 x1 x2 x3 x4 x5 x6 x7 == 0 && true) && (ha_r4 x0 x1 x2 x3 x4 x5 x6 x7 == 0 && (ha_r5 x0 x1 x2 x3 x4 x5 x6 x7 == 0 && true) && (ha_r6 x0 x1 x2 x3 x4 x5 x6 x7 == 0 && (ha_r7 x0 x1 x2 x3 x4 x5 x6 x7 == 0 && true) && true)))
def la_c5 (x0 : Int) (x1 : Int) (x2 : Int) (x3 : Int) (x4 : Int) (x5 : Int) (x6 : Int) (x7 : Int) : Bool := ba_r0 x0 x1 x2 x3 x4 x5 x6 x7 == 0 && (ba_r1 x0 x1 x2 x3 x4 x5 x6 x7 == 0 && true) && (ba_r2 x0 x1 x2 x3 x4 x5 x6 x7 == 0 && (ba_r3 x0 x1 x2 x3 x4 x5 x6 x7 == 0 && true) && (ba_r4 x0 x1 x2 x3 x4 x5 x6 x7 == 0 && (ba_r5 x0 x1 x2 x3 x4 x5 x6 x7 == 0 && true) && (ba_r6 x0 x1 x2 x3 x4 x5 x6 x7 == 0 && (ba_r7 x0 x1 x2 x3 x4 x5 x6 x7 == 0 && true) && true)))
theorem la_p0 (x0 : Int) (x1 : Int) (x2 : Int) (x3 : Int) (x4 : Int) (x5 : Int) (x6 : Int) (x7 : Int) (h0 : la_c0 x0 x1 x2 x3 x4 x5 x6 x7 = true) (h1 : la_c1 x0 x1 x2 x3 x4 x5 x6 x7 = true) (h2 : la_c2 x0 x1 x2 x3 x4 x5 x6 x7 = true) (h3 : la_c3 x0 x1 x2 x3 x4 x5 x6 x7 = true) : Gives Tryz.prog envL 0 5 [(.agg #[(.int .i64 (x0)), (.int .i64 (x1)), (.int .i64 (x2)), (.int .i64 (x3)), (.int .i64 (x4)), (.int .i64 (x5)), (.int .i64 (x6)), (.int .i64 (x7))])] heap0 ((.bool (ba_r8 x0 x1 x2 x3 x4 x5 x6 x7 == rb_r8 x0 x1 x2 x3 x4 x5 x6 x7)), heap0) :=
  Gives.by (n := 1000) (os := [.br 5 56 true, .br 5 78 true, .br 5 78 true, .br 5 78 true, .br 5 87 true, .br 5 88 true, .br 5 88 true, .br 5 88 true, .br 5 97 true, .br 5 98 true, .br 5 98 true, .br 5 98 true, .br 5 107 true]) (os' := []) (by kernel_rfl) (ObsOK.cond h0 (ObsOK.cond h1 (ObsOK.cond h1 (ObsOK.cond h1 (ObsOK.cond h1 (ObsOK.cond h2 (ObsOK.cond h2 (ObsOK.cond h2 (ObsOK.cond h2 (ObsOK.cond h3 (ObsOK.cond h3 (ObsOK.cond h3 (ObsOK.cond h3 (ObsOK.nil))))))))))))))
theorem la_p1 (x0 : Int) (x1 : Int) (x2 : Int) (x3 : Int) (x4 : Int) (x5 : Int) (x6 : Int) (x7 : Int) (h0 : la_c0 x0 x1 x2 x3 x4 x5 x6 x7 = true) (h1 : la_c1 x0 x1 x2 x3 x4 x5 x6 x7 = true) (h2 : la_c2 x0 x1 x2 x3 x4 x5 x6 x7 = true) (h3 : la_c3 x0 x1 x2 x3 x4 x5 x6 x7 = false) : Gives Tryz.prog envL 0 5 [(.agg #[(.int .i64 (x0)), (.int .i64 (x1)), (.int .i64 (x2)), (.int .i64 (x3)), (.int .i64 (x4)), (.int .i64 (x5)), (.int .i64 (x6)), (.int .i64 (x7))])] heap0 ((.bool false), heap0) :=
  Gives.by (n := 1000) (os := [.br 5 56 true, .br 5 78 true, .br 5 78 true, .br 5 78 true, .br 5 87 true, .br 5 88 true, .br 5 88 true, .br 5 88 true, .br 5 97 true, .br 5 98 false, .br 5 98 false, .br 5 98 false, .br 5 107 false]) (os' := []) (by kernel_rfl) (ObsOK.cond h0 (ObsOK.cond h1 (ObsOK.cond h1 (ObsOK.cond h1 (ObsOK.cond h1 (ObsOK.cond h2 (ObsOK.cond h2 (ObsOK.cond h2 (ObsOK.cond h2 (ObsOK.cond h3 (ObsOK.cond h3 (ObsOK.cond h3 (ObsOK.cond h3 (ObsOK.nil))))))))))))))
theorem la_p2 (x0 : Int) (x1 : Int) (x2 : Int) (x3 : Int) (x4 : Int) (x5 : Int) (x6 : Int) (x7 : Int) (h0 : la_c0 x0 x1 x2 x3 x4 x5 x6 x7 = true) (h1 : la_c1 x0 x1 x2 x3 x4 x5 x6 x7 = true) (h2 : la_c2 x0 x1 x2 x3 x4 x5 x6 x7 = false) : Gives Tryz.prog envL 0 5 [(.agg #[(.int .i64 (x0)), (.int .i64 (x1)), (.int .i64 (x2)), (.int .i64 (x3)), (.int .i64 (x4)), (.int .i64 (x5)), (.int .i64 (x6)), (.int .i64 (x7))])] heap0 ((.bool false), heap0) :=
  Gives.by (n := 1000) (os := [.br 5 56 true, .br 5 78 true, .br 5 78 true, .br 5 78 true, .br 5 87 true, .br 5 88 false, .br 5 88 false, .br 5 88 false, .br 5 97 false]) (os' := []) (by kernel_rfl) (ObsOK.cond h0 (ObsOK.cond h1 (ObsOK.cond h1 (ObsOK.cond h1 (ObsOK.cond h1 (ObsOK.cond h2 (ObsOK.cond h2 (ObsOK.cond h2 (ObsOK.cond h2 (ObsOK.nil))))))))))
theorem la_p3 (x0 : Int) (x1 : Int) (x2 : Int) (x3 : Int) (x4 : Int) (x5 : Int) (x6 : Int) (x7 : Int) (h0 : la_c0 x0 x1 x2 x3 x4 x5 x6 x7 = true) (h1 : la_c1 x0 x1 x2 x3 x4 x5 x6 x7 = false) : Gives Tryz.prog envL 0 5 [(.agg #[(.int .i64 (x0)), (.int .i64 (x1)), (.int .i64 (x2)), (.int .i64 (x3)), (.int .i64 (x4)), (.int .i64 (x5)), (.int .i64 (x6)), (.int .i64 (x7))])] heap0 ((.bool false), heap0) :=
  Gives.by (n := 1000) (os := [.br 5 56 true, .br 5 78 false, .br 5 78 false, .br 5 78 false, .br 5 87 false]) (os' := []) (by kernel_rfl) (ObsOK.cond h0 (ObsOK.cond h1 (ObsOK.cond h1 (ObsOK.cond h1 (ObsOK.cond h1 (ObsOK.nil))))))
theorem la_p4 (x0 : Int) (x1 : Int) (x2 : Int) (x3 : Int) (x4 : Int) (x5 : Int) (x6 : Int) (x7 : Int) (h0 : la_c0 x0 x1 x2 x3 x4 x5 x6 x7 = false) (h1 : la_c4 x0 x1 x2 x3 x4 x5 x6 x7 = true) (h2 : la_c2 x0 x1 x2 x3 x4 x5 x6 x7 = true) (h3 : la_c5 x0 x1 x2 x3 x4 x5 x6 x7 = true) : Gives Tryz.prog envL 0 5 [(.agg #[(.int .i64 (x0)), (.int .i64 (x1)), (.int .i64 (x2)), (.int .i64 (x3)), (.int .i64 (x4)), (.int .i64 (x5)), (.int .i64 (x6)), (.int .i64 (x7))])] heap0 ((.bool (ba_r8 x0 x1 x2 x3 x4 x5 x6 x7 == tc_r0 x0 x1 x2 x3 x4 x5 x6 x7)), heap0) :=
  Gives.by (n := 1000) (os := [.br 5 56 false, .br 5 78 true, .br 5 78 true, .br 5 78 true, .br 5 87 true, .br 5 88 true, .br 5 88 true, .br 5 88 true, .br 5 97 true, .br 5 98 true, .br 5 98 true, .br 5 98 true, .br 5 107 true]) (os' := []) (by kernel_rfl) (ObsOK.cond h0 (ObsOK.cond h1 (ObsOK.cond h1 (ObsOK.cond h1 (ObsOK.cond h1 (ObsOK.cond h2 (ObsOK.cond h2 (ObsOK.cond h2 (ObsOK.cond h2 (ObsOK.cond h3 (ObsOK.cond h3 (ObsOK.cond h3 (ObsOK.cond h3 (ObsOK.nil))))))))))))))
theorem la_p5 (x0 : Int) (x1 : Int) (x2 : Int) (x3 : Int) (x4 : Int) (x5 : Int) (x6 : Int) (x7 : Int) (h0 : la_c0 x0 x1 x2 x3 x4 x5 x6 x7 = false) (h1 : la_c4 x0 x1 x2 x3 x4 x5 x6 x7 = true) (h2 : la_c2 x0 x1 x2 x3 x4 x5 x6 x7 = true) (h3 : la_c5 x0 x1 x2 x3 x4 x5 x6 x7 = false) : Gives Tryz.prog envL 0 5 [(.agg #[(.int .i64 (x0)), (.int .i64 (x1)), (.int .i64 (x2)), (.int .i64 (x3)), (.int .i64 (x4)), (.int .i64 (x5)), (.int .i64 (x6)), (.int .i64 (x7))])] heap0 ((.bool false), heap0) :=
  Gives.by (n := 1000) (os := [.br 5 56 false, .br 5 78 true, .br 5 78 true, .br 5 78 true, .br 5 87 true, .br 5 88 true, .br 5 88 true, .br 5 88 true, .br 5 97 true, .br 5 98 false, .br 5 98 false, .br 5 98 false, .br 5 107 false]) (os' := []) (by kernel_rfl) (ObsOK.cond h0 (ObsOK.cond h1 (ObsOK.cond h1 (ObsOK.cond h1 (ObsOK.cond h1 (ObsOK.cond h2 (ObsOK.cond h2 (ObsOK.cond h2 (ObsOK.cond h2 (ObsOK.cond h3 (ObsOK.cond h3 (ObsOK.cond h3 (ObsOK.cond h3 (ObsOK.nil))))))))))))))
theorem la_p6 (x0 : Int) (x1 : Int) (x2 : Int) (x3 : Int) (x4 : Int) (x5 : Int) (x6 : Int) (x7 : Int) (h0 : la_c0 x0 x1 x2 x3 x4 x5 x6 x7 = false) (h1 : la_c4 x0 x1 x2 x3 x4 x5 x6 x7 = true) (h2 : la_c2 x0 x1 x2 x3 x4 x5 x6 x7 = false) : Gives Tryz.prog envL 0 5 [(.agg #[(.int .i64 (x0)), (.int .i64 (x1)), (.int .i64 (x2)), (.int .i64 (x3)), (.int .i64 (x4)), (.int .i64 (x5)), (.int .i64 (x6)), (.int .i64 (x7))])] heap0 ((.bool false), heap0) :=
  Gives.by (n := 1000) (os := [.br 5 56 false, .br 5 78 true, .br 5 78 true, .br 5 78 true, .br 5 87 true, .br 5 88 false, .br 5 88 false, .br 5 88 false, .br 5 97 false]) (os' := []) (by kernel_rfl) (ObsOK.cond h0 (ObsOK.cond h1 (ObsOK.cond h1 (ObsOK.cond h1 (ObsOK.cond h1 (ObsOK.cond h2 (ObsOK.cond h2 (ObsOK.cond h2 (ObsOK.cond h2 (ObsOK.nil))))))))))
theorem la_p7 (x0 : Int) (x1 : Int) (x2 : Int) (x3 : Int) (x4 : Int) (x5 : Int) (x6 : Int) (x7 : Int) (h0 : la_c0 x0 x1 x2 x3 x4 x5 x6 x7 = false) (h1 : la_c4 x0 x1 x2 x3 x4 x5 x6 x7 = false) : Gives Tryz.prog envL 0 5 [(.agg #[(.int .i64 (x0)), (.int .i64 (x1)), (.int .i64 (x2)), (.int .i64 (x3)), (.int .i64 (x4)), (.int .i64 (x5)), (.int .i64 (x6)), (.int .i64 (x7))])] heap0 ((.bool false), heap0) :=
  Gives.by (n := 1000) (os := [.br 5 56 false, .br 5 78 false, .br 5 78 false, .br 5 78 false, .br 5 87 false]) (os' := []) (by kernel_rfl) (ObsOK.cond h0 (ObsOK.cond h1 (ObsOK.cond h1 (ObsOK.cond h1 (ObsOK.cond h1 (ObsOK.nil))))))
def la_r0 (x0 : Int) (x1 : Int) (x2 : Int) (x3 : Int) (x4 : Int) (x5 : Int) (x6 : Int) (x7 : Int) : Bool := (cond (la_c0 x0 x1 x2 x3 x4 x5 x6 x7) (cond (la_c1 x0 x1 x2 x3 x4 x5 x6 x7) (cond (la_c2 x0 x1 x2 x3 x4 x5 x6 x7) (cond (la_c3 x0 x1 x2 x3 x4 x5 x6 x7) (ba_r8 x0 x1 x2 x3 x4 x5 x6 x7 == rb_r8 x0 x1 x2 x3 x4 x5 x6 x7) (false)) (false)) (false)) (cond (la_c4 x0 x1 x2 x3 x4 x5 x6 x7) (cond (la_c2 x0 x1 x2 x3 x4 x5 x6 x7) (cond (la_c5 x0 x1 x2 x3 x4 x5 x6 x7) (ba_r8 x0 x1 x2 x3 x4 x5 x6 x7 == tc_r0 x0 x1 x2 x3 x4 x5 x6 x7) (false)) (false)) (false)))
theorem la_gives (x0 : Int) (x1 : Int) (x2 : Int) (x3 : Int) (x4 : Int) (x5 : Int) (x6 : Int) (x7 : Int) : Gives Tryz.prog envL 0 5 [(.agg #[(.int .i64 (x0)), (.int .i64 (x1)), (.int .i64 (x2)), (.int .i64 (x3)), (.int .i64 (x4)), (.int .i64 (x5)), (.int .i64 (x6)), (.int .i64 (x7))])] heap0 ((.bool (la_r0 x0 x1 x2 x3 x4 x5 x6 x7)), heap0) := by
  cases g0 : la_c0 x0 x1 x2 x3 x4 x5 x6 x7
  · skip
    cases g4 : la_c4 x0 x1 x2 x3 x4 x5 x6 x7
    · skip
      simp only [la_r0, g0, g4, cond_true, cond_false]; exact la_p7 x0 x1 x2 x3 x4 x5 x6 x7 g0 g4
    · skip
      cases g2 : la_c2 x0 x1 x2 x3 x4 x5 x6 x7
      · skip
        simp only [la_r0, g0, g4, g2, cond_true, cond_false]; exact la_p6 x0 x1 x2 x3 x4 x5 x6 x7 g0 g4 g2
      · skip
        cases g5 : la_c5 x0 x1 x2 x3 x4 x5 x6 x7
        · skip
          simp only [la_r0, g0, g4, g2, g5, cond_true, cond_false]; exact la_p5 x0 x1 x2 x3 x4 x5 x6 x7 g0 g4 g2 g5
        · skip
          simp only [la_r0, g0, g4, g2, g5, cond_true, cond_false]; exact la_p4 x0 x1 x2 x3 x4 x5 x6 x7 g0 g4 g2 g5
  · skip
    cases g1 : la_c1 x0 x1 x2 x3 x4 x5 x6 x7
    · skip
      simp only [la_r0, g0, g1, cond_true, cond_false]; exact la_p3 x0 x1 x2 x3 x4 x5 x6 x7 g0 g1
    · skip
      cases g2 : la_c2 x0 x1 x2 x3 x4 x5 x6 x7
      · skip
        simp only [la_r0, g0, g1, g2, cond_true, cond_false]; exact la_p2 x0 x1 x2 x3 x4 x5 x6 x7 g0 g1 g2
      · skip
        cases g3 : la_c3 x0 x1 x2 x3 x4 x5 x6 x7
        · skip
          simp only [la_r0, g0, g1, g2, g3, cond_true, cond_false]; exact la_p1 x0 x1 x2 x3 x4 x5 x6 x7 g0 g1 g2 g3
        · skip
          simp only [la_r0, g0, g1, g2, g3, cond_true, cond_false]; exact la_p0 x0 x1 x2 x3 x4 x5 x6 x7 g0 g1 g2 g3
def B_envGg_5 (args : List Value) : Option (Heap × Value) :=
    match args with
    | [(.agg ⟨[(.int .i64 (x0)), (.int .i64 (x1)), (.int .i64 (x2)), (.int .i64 (x3)), (.int .i64 (x4)), (.int .i64 (x5)), (.int .i64 (x6)), (.int .i64 (x7))]⟩)] => some (heap0, (.bool (la_r0 x0 x1 x2 x3 x4 x5 x6 x7)))
    | _ => none
theorem B_envGg_5_ok {args : List Value} {H : Heap} {v : Value} (h : B_envGg_5 args = some (H, v)) : 8 ≤ H.length ∧ H.all tableRow = true ∧ Gives Tryz.prog envL 0 5 args H (v, H) := by
  unfold B_envGg_5 at h
  split at h
  · cases h; exact heap0_ok (la_gives _ _ _ _ _ _ _ _)
  · cases h
def B_envGg (f : FuncId) (args : List Value) : Option (Heap × Value) :=
  if f == 5 then B_envGg_5 args else
  none
noncomputable def envGg : Env := envL.with (baseKnown B_envGg)
theorem envGg_ok : EnvOK Tryz.prog 8 envGg := env_base prog_ok envL_ok fun f args H v h => by
  unfold B_envGg at h
  split at h
  · rename_i hf
    have hf : f = 5 := by simpa using hf
    subst hf
    exact B_envGg_5_ok h
  · skip
    cases h
end Go.Proofs.YtpdiaiccnaoaiaaGreatDoor
/-
ArrayHarmonics: the law is true, by arithmetic.
-/
namespace Go.Proofs.YtpdiaiccnaoaiaaGreatDoor
open Go Go.Abs
theorem w_id {n : Int} (h1 : -9223372036854775808 ≤ n) (h2 : n ≤ 9223372036854775807) : IntKind.i64.wrap n = n := by
  simp [IntKind.wrap, IntKind.bits, IntKind.signed]
  omega
theorem td4 (S : Int) : S = 4 * S.tdiv 4 + S.tmod 4 ∧ -4 < S.tmod 4 ∧ S.tmod 4 < 4 := by
  have h1 := Int.mul_tdiv_add_tmod S 4
  have h2 := Int.tmod_lt_of_pos S (show (0 : Int) < 4 by decide)
  have h3 := Int.lt_tmod_of_pos S (show (0 : Int) < 4 by decide)
  omega
def inR (x : Int) : Prop := -999999999 ≤ x ∧ x ≤ 999999999
theorem cr_in (x : Int) : (cr_r0 x (-999999999) 999999999 = 0 ∧ inR x) ∨ (cr_r0 x (-999999999) 999999999 = 3 ∧ ¬ inR x) := by
  unfold cr_r0 cr_c0 cr_c1 inR
  by_cases h1 : x < -999999999
  · right; simp [h1]; omega
  · by_cases h2 : x > 999999999
    · right; simp [h1, h2]
    · left; simp [h1, h2]; omega
theorem cn_in (x y : Int) : (cn_r0 x y = 0 ∧ inR x ∧ inR y) ∨ (cn_r0 x y = 3 ∧ ¬ (inR x ∧ inR y)) := by
  have key : ∀ x : Int, (x != if 999999999 < if -999999999 > x then -999999999 else x then 999999999 else if -999999999 > x then -999999999 else x) = true ↔ ¬ inR x := by
    intro x
    unfold inR
    rw [bne_iff_ne]
    split
    · split at * <;> constructor <;> intro _ <;> omega
    · split at * <;> constructor <;> intro _ <;> omega
  unfold cn_r0 cn_c0 cn_c1
  by_cases gx : inR x
  · rw [show (x != if 999999999 < if -999999999 > x then -999999999 else x then 999999999 else if -999999999 > x then -999999999 else x) = false from Bool.eq_false_iff.2 fun h => (key x).1 h gx]
    by_cases gy : inR y
    · rw [show (y != if 999999999 < if -999999999 > y then -999999999 else y then 999999999 else if -999999999 > y then -999999999 else y) = false from Bool.eq_false_iff.2 fun h => (key y).1 h gy]
      exact .inl ⟨rfl, gx, gy⟩
    · rw [(key y).2 gy]
      exact .inr ⟨rfl, fun h => gy h.2⟩
  · rw [(key x).2 gx]
    exact .inr ⟨rfl, fun h => gx h.1⟩
section
variable (x0 x1 x2 x3 x4 x5 x6 x7 : Int)
def allR : Prop := inR x0 ∧ inR x1 ∧ inR x2 ∧ inR x3 ∧ inR x4 ∧ inR x5 ∧ inR x6 ∧ inR x7
theorem tc_in : (tc_r0 x0 x1 x2 x3 x4 x5 x6 x7 = 0 ∧ allR x0 x1 x2 x3 x4 x5 x6 x7) ∨ (tc_r0 x0 x1 x2 x3 x4 x5 x6 x7 = 3 ∧ ¬ allR x0 x1 x2 x3 x4 x5 x6 x7) := by
  unfold tc_r0 tc_c0 tc_c1 tc_c2 tc_c3 tc_c4 tc_c5 tc_c6 tc_c7 allR
  rcases cr_in x0 with ⟨h0, g0⟩ | ⟨h0, g0⟩
  · rcases cr_in x1 with ⟨h1, g1⟩ | ⟨h1, g1⟩
    · rcases cr_in x2 with ⟨h2, g2⟩ | ⟨h2, g2⟩
      · rcases cr_in x3 with ⟨h3, g3⟩ | ⟨h3, g3⟩
        · rcases cr_in x4 with ⟨h4, g4⟩ | ⟨h4, g4⟩
          · rcases cr_in x5 with ⟨h5, g5⟩ | ⟨h5, g5⟩
            · rcases cr_in x6 with ⟨h6, g6⟩ | ⟨h6, g6⟩
              · rcases cr_in x7 with ⟨h7, g7⟩ | ⟨h7, g7⟩
                · left; simp [h0, h1, h2, h3, h4, h5, h6, h7, g0, g1, g2, g3, g4, g5, g6, g7]
                · right; simp [h0, h1, h2, h3, h4, h5, h6, h7, g7]
              · right; simp [h0, h1, h2, h3, h4, h5, h6, g6]
            · right; simp [h0, h1, h2, h3, h4, h5, g5]
          · right; simp [h0, h1, h2, h3, h4, g4]
        · right; simp [h0, h1, h2, h3, g3]
      · right; simp [h0, h1, h2, g2]
    · right; simp [h0, h1, g1]
  · right; simp [h0, g0]
theorem cv_in : (cv_r0 x0 x1 x2 x3 x4 x5 x6 x7 = 0 ∧ allR x0 x1 x2 x3 x4 x5 x6 x7) ∨ (cv_r0 x0 x1 x2 x3 x4 x5 x6 x7 = 3 ∧ ¬ allR x0 x1 x2 x3 x4 x5 x6 x7) := by
  unfold cv_r0 cv_c0 cv_c1 cv_c2 cv_c3 allR
  rcases cn_in x0 x1 with ⟨h0, g0⟩ | ⟨h0, g0⟩
  · rcases cn_in x2 x3 with ⟨h1, g1⟩ | ⟨h1, g1⟩
    · rcases cn_in x4 x5 with ⟨h2, g2⟩ | ⟨h2, g2⟩
      · rcases cn_in x6 x7 with ⟨h3, g3⟩ | ⟨h3, g3⟩
        · left; simp [h0, h1, h2, h3, g0, g1, g2, g3]
        · right; simp only [h0, h1, h2, h3]; exact ⟨rfl, fun h => g3 ⟨h.2.2.2.2.2.2.1, h.2.2.2.2.2.2.2⟩⟩
      · right; simp only [h0, h1, h2]; exact ⟨rfl, fun h => g2 ⟨h.2.2.2.2.1, h.2.2.2.2.2.1⟩⟩
    · right; simp only [h0, h1]; exact ⟨rfl, fun h => g1 ⟨h.2.2.1, h.2.2.2.1⟩⟩
  · right; simp only [h0]; exact ⟨rfl, fun h => g0 ⟨h.1, h.2.1⟩⟩
end
def big (x : Int) : Prop := -100000000000 ≤ x ∧ x ≤ 100000000000
section
variable {x0 x1 x2 x3 x4 x5 x6 x7 : Int} (h0 : big x0) (h1 : big x1) (h2 : big x2) (h3 : big x3) (h4 : big x4) (h5 : big x5) (h6 : big x6) (h7 : big x7)
include h0 h1 h2 h3 h4 h5 h6 h7
theorem sN_0 : sN_r0 x0 x1 x2 x3 x4 x5 x6 x7 = x0 + x2 + x4 + x6 := by
  unfold big at *
  unfold sN_r0
  try simp only [tm1_r0, tm1_r1, tm2_r0]
  simp (disch := omega) only [w_id]
  omega
theorem sN_1 : sN_r1 x0 x1 x2 x3 x4 x5 x6 x7 = x1 + x3 + x5 + x7 := by
  unfold big at *
  unfold sN_r1
  try simp only [tm1_r0, tm1_r1, tm2_r0]
  simp (disch := omega) only [w_id]
  omega
theorem sN_2 : sN_r2 x0 x1 x2 x3 x4 x5 x6 x7 = x0 + x3 - x4 - x7 := by
  unfold big at *
  unfold sN_r2
  try simp only [tm1_r0, tm1_r1, tm2_r0]
  simp (disch := omega) only [w_id]
  omega
theorem sN_3 : sN_r3 x0 x1 x2 x3 x4 x5 x6 x7 = x1 - x2 - x5 + x6 := by
  unfold big at *
  unfold sN_r3
  try simp only [tm1_r0, tm1_r1, tm2_r0]
  simp (disch := omega) only [w_id]
  omega
theorem sN_4 : sN_r4 x0 x1 x2 x3 x4 x5 x6 x7 = x0 - x2 + x4 - x6 := by
  unfold big at *
  unfold sN_r4
  try simp only [tm1_r0, tm1_r1, tm2_r0]
  simp (disch := omega) only [w_id]
  omega
theorem sN_5 : sN_r5 x0 x1 x2 x3 x4 x5 x6 x7 = x1 - x3 + x5 - x7 := by
  unfold big at *
  unfold sN_r5
  try simp only [tm1_r0, tm1_r1, tm2_r0]
  simp (disch := omega) only [w_id]
  omega
theorem sN_6 : sN_r6 x0 x1 x2 x3 x4 x5 x6 x7 = x0 - x3 - x4 + x7 := by
  unfold big at *
  unfold sN_r6
  try simp only [tm1_r0, tm1_r1, tm2_r0]
  simp (disch := omega) only [w_id]
  omega
theorem sN_7 : sN_r7 x0 x1 x2 x3 x4 x5 x6 x7 = x1 + x2 - x5 - x6 := by
  unfold big at *
  unfold sN_r7
  try simp only [tm1_r0, tm1_r1, tm2_r0]
  simp (disch := omega) only [w_id]
  omega
theorem sP_0 : sP_r0 x0 x1 x2 x3 x4 x5 x6 x7 = x0 + x2 + x4 + x6 := by
  unfold big at *
  unfold sP_r0

  simp (disch := omega) only [w_id]
  omega
theorem sP_1 : sP_r1 x0 x1 x2 x3 x4 x5 x6 x7 = x1 + x3 + x5 + x7 := by
  unfold big at *
  unfold sP_r1

  simp (disch := omega) only [w_id]
  omega
theorem sP_2 : sP_r2 x0 x1 x2 x3 x4 x5 x6 x7 = x0 - x3 - x4 + x7 := by
  unfold big at *
  unfold sP_r2

  simp (disch := omega) only [w_id]
  omega
theorem sP_3 : sP_r3 x0 x1 x2 x3 x4 x5 x6 x7 = x1 + x2 - x5 - x6 := by
  unfold big at *
  unfold sP_r3

  simp (disch := omega) only [w_id]
  omega
theorem sP_4 : sP_r4 x0 x1 x2 x3 x4 x5 x6 x7 = x0 - x2 + x4 - x6 := by
  unfold big at *
  unfold sP_r4

  simp (disch := omega) only [w_id]
  omega
theorem sP_5 : sP_r5 x0 x1 x2 x3 x4 x5 x6 x7 = x1 - x3 + x5 - x7 := by
  unfold big at *
  unfold sP_r5

  simp (disch := omega) only [w_id]
  omega
theorem sP_6 : sP_r6 x0 x1 x2 x3 x4 x5 x6 x7 = x0 + x3 - x4 - x7 := by
  unfold big at *
  unfold sP_r6

  simp (disch := omega) only [w_id]
  omega
theorem sP_7 : sP_r7 x0 x1 x2 x3 x4 x5 x6 x7 = x1 - x2 - x5 + x6 := by
  unfold big at *
  unfold sP_r7

  simp (disch := omega) only [w_id]
  omega
theorem rsN_0 : rsN_r0 x0 x1 x2 x3 x4 x5 x6 x7 = x0 + x2 + x4 + x6 := by
  unfold big at *
  unfold rsN_r0

  simp (disch := omega) only [w_id]
  omega
theorem rsN_1 : rsN_r1 x0 x1 x2 x3 x4 x5 x6 x7 = x1 + x3 + x5 + x7 := by
  unfold big at *
  unfold rsN_r1

  simp (disch := omega) only [w_id]
  omega
theorem rsN_2 : rsN_r2 x0 x1 x2 x3 x4 x5 x6 x7 = x0 + x3 - x4 - x7 := by
  unfold big at *
  unfold rsN_r2

  simp (disch := omega) only [w_id]
  omega
theorem rsN_3 : rsN_r3 x0 x1 x2 x3 x4 x5 x6 x7 = x1 - x2 - x5 + x6 := by
  unfold big at *
  unfold rsN_r3

  simp (disch := omega) only [w_id]
  omega
theorem rsN_4 : rsN_r4 x0 x1 x2 x3 x4 x5 x6 x7 = x0 - x2 + x4 - x6 := by
  unfold big at *
  unfold rsN_r4

  simp (disch := omega) only [w_id]
  omega
theorem rsN_5 : rsN_r5 x0 x1 x2 x3 x4 x5 x6 x7 = x1 - x3 + x5 - x7 := by
  unfold big at *
  unfold rsN_r5

  simp (disch := omega) only [w_id]
  omega
theorem rsN_6 : rsN_r6 x0 x1 x2 x3 x4 x5 x6 x7 = x0 - x3 - x4 + x7 := by
  unfold big at *
  unfold rsN_r6

  simp (disch := omega) only [w_id]
  omega
theorem rsN_7 : rsN_r7 x0 x1 x2 x3 x4 x5 x6 x7 = x1 + x2 - x5 - x6 := by
  unfold big at *
  unfold rsN_r7

  simp (disch := omega) only [w_id]
  omega
theorem rsP_0 : rsP_r0 x0 x1 x2 x3 x4 x5 x6 x7 = x0 + x2 + x4 + x6 := by
  unfold big at *
  unfold rsP_r0

  simp (disch := omega) only [w_id]
  omega
theorem rsP_1 : rsP_r1 x0 x1 x2 x3 x4 x5 x6 x7 = x1 + x3 + x5 + x7 := by
  unfold big at *
  unfold rsP_r1

  simp (disch := omega) only [w_id]
  omega
theorem rsP_2 : rsP_r2 x0 x1 x2 x3 x4 x5 x6 x7 = x0 - x3 - x4 + x7 := by
  unfold big at *
  unfold rsP_r2

  simp (disch := omega) only [w_id]
  omega
theorem rsP_3 : rsP_r3 x0 x1 x2 x3 x4 x5 x6 x7 = x1 + x2 - x5 - x6 := by
  unfold big at *
  unfold rsP_r3

  simp (disch := omega) only [w_id]
  omega
theorem rsP_4 : rsP_r4 x0 x1 x2 x3 x4 x5 x6 x7 = x0 - x2 + x4 - x6 := by
  unfold big at *
  unfold rsP_r4

  simp (disch := omega) only [w_id]
  omega
theorem rsP_5 : rsP_r5 x0 x1 x2 x3 x4 x5 x6 x7 = x1 - x3 + x5 - x7 := by
  unfold big at *
  unfold rsP_r5

  simp (disch := omega) only [w_id]
  omega
theorem rsP_6 : rsP_r6 x0 x1 x2 x3 x4 x5 x6 x7 = x0 + x3 - x4 - x7 := by
  unfold big at *
  unfold rsP_r6

  simp (disch := omega) only [w_id]
  omega
theorem rsP_7 : rsP_r7 x0 x1 x2 x3 x4 x5 x6 x7 = x1 - x2 - x5 + x6 := by
  unfold big at *
  unfold rsP_r7

  simp (disch := omega) only [w_id]
  omega
end
end Go.Proofs.YtpdiaiccnaoaiaaGreatDoor
/-
ArrayHarmonics: the law is true.
-/
namespace Go.Proofs.YtpdiaiccnaoaiaaGreatDoor
open Go Go.Abs
theorem td4b {S : Int} (h1 : -4000000000 ≤ S) (h2 : S ≤ 4000000000) : big (S.tdiv 4) ∧ IntKind.i64.wrap (S.tdiv 4) = S.tdiv 4 := by
  have t := td4 S
  exact ⟨by unfold big; omega, w_id (by omega) (by omega)⟩
theorem ar1_0 {x0 x1 x2 x3 x4 x5 x6 x7 q0 q1 q2 q3 q4 q5 q6 q7 m0 m1 m2 m3 m4 m5 m6 m7 : Int} (t0 : x0 + x2 + x4 + x6 = 4 * q0 + m0) (t1 : x1 + x3 + x5 + x7 = 4 * q1 + m1) (t2 : x0 - x3 - x4 + x7 = 4 * q2 + m2) (t3 : x1 + x2 - x5 - x6 = 4 * q3 + m3) (t4 : x0 - x2 + x4 - x6 = 4 * q4 + m4) (t5 : x1 - x3 + x5 - x7 = 4 * q5 + m5) (t6 : x0 + x3 - x4 - x7 = 4 * q6 + m6) (t7 : x1 - x2 - x5 + x6 = 4 * q7 + m7) (z0 : m0 = 0) (z1 : m1 = 0) (z2 : m2 = 0) (z3 : m3 = 0) (z4 : m4 = 0) (z5 : m5 = 0) (z6 : m6 = 0) (z7 : m7 = 0) : q0 + q2 + q4 + q6 = x0 := by
  subst z0 z1 z2 z3 z4 z5 z6 z7
  omega
theorem ar1_1 {x0 x1 x2 x3 x4 x5 x6 x7 q0 q1 q2 q3 q4 q5 q6 q7 m0 m1 m2 m3 m4 m5 m6 m7 : Int} (t0 : x0 + x2 + x4 + x6 = 4 * q0 + m0) (t1 : x1 + x3 + x5 + x7 = 4 * q1 + m1) (t2 : x0 - x3 - x4 + x7 = 4 * q2 + m2) (t3 : x1 + x2 - x5 - x6 = 4 * q3 + m3) (t4 : x0 - x2 + x4 - x6 = 4 * q4 + m4) (t5 : x1 - x3 + x5 - x7 = 4 * q5 + m5) (t6 : x0 + x3 - x4 - x7 = 4 * q6 + m6) (t7 : x1 - x2 - x5 + x6 = 4 * q7 + m7) (z0 : m0 = 0) (z1 : m1 = 0) (z2 : m2 = 0) (z3 : m3 = 0) (z4 : m4 = 0) (z5 : m5 = 0) (z6 : m6 = 0) (z7 : m7 = 0) : q1 + q3 + q5 + q7 = x1 := by
  subst z0 z1 z2 z3 z4 z5 z6 z7
  omega
theorem ar1_2 {x0 x1 x2 x3 x4 x5 x6 x7 q0 q1 q2 q3 q4 q5 q6 q7 m0 m1 m2 m3 m4 m5 m6 m7 : Int} (t0 : x0 + x2 + x4 + x6 = 4 * q0 + m0) (t1 : x1 + x3 + x5 + x7 = 4 * q1 + m1) (t2 : x0 - x3 - x4 + x7 = 4 * q2 + m2) (t3 : x1 + x2 - x5 - x6 = 4 * q3 + m3) (t4 : x0 - x2 + x4 - x6 = 4 * q4 + m4) (t5 : x1 - x3 + x5 - x7 = 4 * q5 + m5) (t6 : x0 + x3 - x4 - x7 = 4 * q6 + m6) (t7 : x1 - x2 - x5 + x6 = 4 * q7 + m7) (z0 : m0 = 0) (z1 : m1 = 0) (z2 : m2 = 0) (z3 : m3 = 0) (z4 : m4 = 0) (z5 : m5 = 0) (z6 : m6 = 0) (z7 : m7 = 0) : q0 + q3 - q4 - q7 = x2 := by
  subst z0 z1 z2 z3 z4 z5 z6 z7
  omega
theorem ar1_3 {x0 x1 x2 x3 x4 x5 x6 x7 q0 q1 q2 q3 q4 q5 q6 q7 m0 m1 m2 m3 m4 m5 m6 m7 : Int} (t0 : x0 + x2 + x4 + x6 = 4 * q0 + m0) (t1 : x1 + x3 + x5 + x7 = 4 * q1 + m1) (t2 : x0 - x3 - x4 + x7 = 4 * q2 + m2) (t3 : x1 + x2 - x5 - x6 = 4 * q3 + m3) (t4 : x0 - x2 + x4 - x6 = 4 * q4 + m4) (t5 : x1 - x3 + x5 - x7 = 4 * q5 + m5) (t6 : x0 + x3 - x4 - x7 = 4 * q6 + m6) (t7 : x1 - x2 - x5 + x6 = 4 * q7 + m7) (z0 : m0 = 0) (z1 : m1 = 0) (z2 : m2 = 0) (z3 : m3 = 0) (z4 : m4 = 0) (z5 : m5 = 0) (z6 : m6 = 0) (z7 : m7 = 0) : q1 - q2 - q5 + q6 = x3 := by
  subst z0 z1 z2 z3 z4 z5 z6 z7
  omega
theorem ar1_4 {x0 x1 x2 x3 x4 x5 x6 x7 q0 q1 q2 q3 q4 q5 q6 q7 m0 m1 m2 m3 m4 m5 m6 m7 : Int} (t0 : x0 + x2 + x4 + x6 = 4 * q0 + m0) (t1 : x1 + x3 + x5 + x7 = 4 * q1 + m1) (t2 : x0 - x3 - x4 + x7 = 4 * q2 + m2) (t3 : x1 + x2 - x5 - x6 = 4 * q3 + m3) (t4 : x0 - x2 + x4 - x6 = 4 * q4 + m4) (t5 : x1 - x3 + x5 - x7 = 4 * q5 + m5) (t6 : x0 + x3 - x4 - x7 = 4 * q6 + m6) (t7 : x1 - x2 - x5 + x6 = 4 * q7 + m7) (z0 : m0 = 0) (z1 : m1 = 0) (z2 : m2 = 0) (z3 : m3 = 0) (z4 : m4 = 0) (z5 : m5 = 0) (z6 : m6 = 0) (z7 : m7 = 0) : q0 - q2 + q4 - q6 = x4 := by
  subst z0 z1 z2 z3 z4 z5 z6 z7
  omega
theorem ar1_5 {x0 x1 x2 x3 x4 x5 x6 x7 q0 q1 q2 q3 q4 q5 q6 q7 m0 m1 m2 m3 m4 m5 m6 m7 : Int} (t0 : x0 + x2 + x4 + x6 = 4 * q0 + m0) (t1 : x1 + x3 + x5 + x7 = 4 * q1 + m1) (t2 : x0 - x3 - x4 + x7 = 4 * q2 + m2) (t3 : x1 + x2 - x5 - x6 = 4 * q3 + m3) (t4 : x0 - x2 + x4 - x6 = 4 * q4 + m4) (t5 : x1 - x3 + x5 - x7 = 4 * q5 + m5) (t6 : x0 + x3 - x4 - x7 = 4 * q6 + m6) (t7 : x1 - x2 - x5 + x6 = 4 * q7 + m7) (z0 : m0 = 0) (z1 : m1 = 0) (z2 : m2 = 0) (z3 : m3 = 0) (z4 : m4 = 0) (z5 : m5 = 0) (z6 : m6 = 0) (z7 : m7 = 0) : q1 - q3 + q5 - q7 = x5 := by
  subst z0 z1 z2 z3 z4 z5 z6 z7
  omega
theorem ar1_6 {x0 x1 x2 x3 x4 x5 x6 x7 q0 q1 q2 q3 q4 q5 q6 q7 m0 m1 m2 m3 m4 m5 m6 m7 : Int} (t0 : x0 + x2 + x4 + x6 = 4 * q0 + m0) (t1 : x1 + x3 + x5 + x7 = 4 * q1 + m1) (t2 : x0 - x3 - x4 + x7 = 4 * q2 + m2) (t3 : x1 + x2 - x5 - x6 = 4 * q3 + m3) (t4 : x0 - x2 + x4 - x6 = 4 * q4 + m4) (t5 : x1 - x3 + x5 - x7 = 4 * q5 + m5) (t6 : x0 + x3 - x4 - x7 = 4 * q6 + m6) (t7 : x1 - x2 - x5 + x6 = 4 * q7 + m7) (z0 : m0 = 0) (z1 : m1 = 0) (z2 : m2 = 0) (z3 : m3 = 0) (z4 : m4 = 0) (z5 : m5 = 0) (z6 : m6 = 0) (z7 : m7 = 0) : q0 - q3 - q4 + q7 = x6 := by
  subst z0 z1 z2 z3 z4 z5 z6 z7
  omega
theorem ar1_7 {x0 x1 x2 x3 x4 x5 x6 x7 q0 q1 q2 q3 q4 q5 q6 q7 m0 m1 m2 m3 m4 m5 m6 m7 : Int} (t0 : x0 + x2 + x4 + x6 = 4 * q0 + m0) (t1 : x1 + x3 + x5 + x7 = 4 * q1 + m1) (t2 : x0 - x3 - x4 + x7 = 4 * q2 + m2) (t3 : x1 + x2 - x5 - x6 = 4 * q3 + m3) (t4 : x0 - x2 + x4 - x6 = 4 * q4 + m4) (t5 : x1 - x3 + x5 - x7 = 4 * q5 + m5) (t6 : x0 + x3 - x4 - x7 = 4 * q6 + m6) (t7 : x1 - x2 - x5 + x6 = 4 * q7 + m7) (z0 : m0 = 0) (z1 : m1 = 0) (z2 : m2 = 0) (z3 : m3 = 0) (z4 : m4 = 0) (z5 : m5 = 0) (z6 : m6 = 0) (z7 : m7 = 0) : q1 + q2 - q5 - q6 = x7 := by
  subst z0 z1 z2 z3 z4 z5 z6 z7
  omega
theorem ar2_0 {x0 x1 x2 x3 x4 x5 x6 x7 q0 q1 q2 q3 q4 q5 q6 q7 m0 m1 m2 m3 m4 m5 m6 m7 : Int} (t0 : x0 + x2 + x4 + x6 = 4 * q0 + m0) (t1 : x1 + x3 + x5 + x7 = 4 * q1 + m1) (t2 : x0 - x3 - x4 + x7 = 4 * q2 + m2) (t3 : x1 + x2 - x5 - x6 = 4 * q3 + m3) (t4 : x0 - x2 + x4 - x6 = 4 * q4 + m4) (t5 : x1 - x3 + x5 - x7 = 4 * q5 + m5) (t6 : x0 + x3 - x4 - x7 = 4 * q6 + m6) (t7 : x1 - x2 - x5 + x6 = 4 * q7 + m7) (v0 : q0 + q2 + q4 + q6 = x0) (v1 : q1 + q3 + q5 + q7 = x1) (v2 : q0 + q3 - q4 - q7 = x2) (v3 : q1 - q2 - q5 + q6 = x3) (v4 : q0 - q2 + q4 - q6 = x4) (v5 : q1 - q3 + q5 - q7 = x5) (v6 : q0 - q3 - q4 + q7 = x6) (v7 : q1 + q2 - q5 - q6 = x7) : m0 = 0 := by
  subst v0 v1 v2 v3 v4 v5 v6 v7
  clear t1 t2 t3 t4 t5 t6 t7
  omega
theorem ar2_1 {x0 x1 x2 x3 x4 x5 x6 x7 q0 q1 q2 q3 q4 q5 q6 q7 m0 m1 m2 m3 m4 m5 m6 m7 : Int} (t0 : x0 + x2 + x4 + x6 = 4 * q0 + m0) (t1 : x1 + x3 + x5 + x7 = 4 * q1 + m1) (t2 : x0 - x3 - x4 + x7 = 4 * q2 + m2) (t3 : x1 + x2 - x5 - x6 = 4 * q3 + m3) (t4 : x0 - x2 + x4 - x6 = 4 * q4 + m4) (t5 : x1 - x3 + x5 - x7 = 4 * q5 + m5) (t6 : x0 + x3 - x4 - x7 = 4 * q6 + m6) (t7 : x1 - x2 - x5 + x6 = 4 * q7 + m7) (v0 : q0 + q2 + q4 + q6 = x0) (v1 : q1 + q3 + q5 + q7 = x1) (v2 : q0 + q3 - q4 - q7 = x2) (v3 : q1 - q2 - q5 + q6 = x3) (v4 : q0 - q2 + q4 - q6 = x4) (v5 : q1 - q3 + q5 - q7 = x5) (v6 : q0 - q3 - q4 + q7 = x6) (v7 : q1 + q2 - q5 - q6 = x7) : m1 = 0 := by
  subst v0 v1 v2 v3 v4 v5 v6 v7
  clear t0 t2 t3 t4 t5 t6 t7
  omega
theorem ar2_2 {x0 x1 x2 x3 x4 x5 x6 x7 q0 q1 q2 q3 q4 q5 q6 q7 m0 m1 m2 m3 m4 m5 m6 m7 : Int} (t0 : x0 + x2 + x4 + x6 = 4 * q0 + m0) (t1 : x1 + x3 + x5 + x7 = 4 * q1 + m1) (t2 : x0 - x3 - x4 + x7 = 4 * q2 + m2) (t3 : x1 + x2 - x5 - x6 = 4 * q3 + m3) (t4 : x0 - x2 + x4 - x6 = 4 * q4 + m4) (t5 : x1 - x3 + x5 - x7 = 4 * q5 + m5) (t6 : x0 + x3 - x4 - x7 = 4 * q6 + m6) (t7 : x1 - x2 - x5 + x6 = 4 * q7 + m7) (v0 : q0 + q2 + q4 + q6 = x0) (v1 : q1 + q3 + q5 + q7 = x1) (v2 : q0 + q3 - q4 - q7 = x2) (v3 : q1 - q2 - q5 + q6 = x3) (v4 : q0 - q2 + q4 - q6 = x4) (v5 : q1 - q3 + q5 - q7 = x5) (v6 : q0 - q3 - q4 + q7 = x6) (v7 : q1 + q2 - q5 - q6 = x7) : m2 = 0 := by
  subst v0 v1 v2 v3 v4 v5 v6 v7
  clear t0 t1 t3 t4 t5 t6 t7
  omega
theorem ar2_3 {x0 x1 x2 x3 x4 x5 x6 x7 q0 q1 q2 q3 q4 q5 q6 q7 m0 m1 m2 m3 m4 m5 m6 m7 : Int} (t0 : x0 + x2 + x4 + x6 = 4 * q0 + m0) (t1 : x1 + x3 + x5 + x7 = 4 * q1 + m1) (t2 : x0 - x3 - x4 + x7 = 4 * q2 + m2) (t3 : x1 + x2 - x5 - x6 = 4 * q3 + m3) (t4 : x0 - x2 + x4 - x6 = 4 * q4 + m4) (t5 : x1 - x3 + x5 - x7 = 4 * q5 + m5) (t6 : x0 + x3 - x4 - x7 = 4 * q6 + m6) (t7 : x1 - x2 - x5 + x6 = 4 * q7 + m7) (v0 : q0 + q2 + q4 + q6 = x0) (v1 : q1 + q3 + q5 + q7 = x1) (v2 : q0 + q3 - q4 - q7 = x2) (v3 : q1 - q2 - q5 + q6 = x3) (v4 : q0 - q2 + q4 - q6 = x4) (v5 : q1 - q3 + q5 - q7 = x5) (v6 : q0 - q3 - q4 + q7 = x6) (v7 : q1 + q2 - q5 - q6 = x7) : m3 = 0 := by
  subst v0 v1 v2 v3 v4 v5 v6 v7
  clear t0 t1 t2 t4 t5 t6 t7
  omega
theorem ar2_4 {x0 x1 x2 x3 x4 x5 x6 x7 q0 q1 q2 q3 q4 q5 q6 q7 m0 m1 m2 m3 m4 m5 m6 m7 : Int} (t0 : x0 + x2 + x4 + x6 = 4 * q0 + m0) (t1 : x1 + x3 + x5 + x7 = 4 * q1 + m1) (t2 : x0 - x3 - x4 + x7 = 4 * q2 + m2) (t3 : x1 + x2 - x5 - x6 = 4 * q3 + m3) (t4 : x0 - x2 + x4 - x6 = 4 * q4 + m4) (t5 : x1 - x3 + x5 - x7 = 4 * q5 + m5) (t6 : x0 + x3 - x4 - x7 = 4 * q6 + m6) (t7 : x1 - x2 - x5 + x6 = 4 * q7 + m7) (v0 : q0 + q2 + q4 + q6 = x0) (v1 : q1 + q3 + q5 + q7 = x1) (v2 : q0 + q3 - q4 - q7 = x2) (v3 : q1 - q2 - q5 + q6 = x3) (v4 : q0 - q2 + q4 - q6 = x4) (v5 : q1 - q3 + q5 - q7 = x5) (v6 : q0 - q3 - q4 + q7 = x6) (v7 : q1 + q2 - q5 - q6 = x7) : m4 = 0 := by
  subst v0 v1 v2 v3 v4 v5 v6 v7
  clear t0 t1 t2 t3 t5 t6 t7
  omega
theorem ar2_5 {x0 x1 x2 x3 x4 x5 x6 x7 q0 q1 q2 q3 q4 q5 q6 q7 m0 m1 m2 m3 m4 m5 m6 m7 : Int} (t0 : x0 + x2 + x4 + x6 = 4 * q0 + m0) (t1 : x1 + x3 + x5 + x7 = 4 * q1 + m1) (t2 : x0 - x3 - x4 + x7 = 4 * q2 + m2) (t3 : x1 + x2 - x5 - x6 = 4 * q3 + m3) (t4 : x0 - x2 + x4 - x6 = 4 * q4 + m4) (t5 : x1 - x3 + x5 - x7 = 4 * q5 + m5) (t6 : x0 + x3 - x4 - x7 = 4 * q6 + m6) (t7 : x1 - x2 - x5 + x6 = 4 * q7 + m7) (v0 : q0 + q2 + q4 + q6 = x0) (v1 : q1 + q3 + q5 + q7 = x1) (v2 : q0 + q3 - q4 - q7 = x2) (v3 : q1 - q2 - q5 + q6 = x3) (v4 : q0 - q2 + q4 - q6 = x4) (v5 : q1 - q3 + q5 - q7 = x5) (v6 : q0 - q3 - q4 + q7 = x6) (v7 : q1 + q2 - q5 - q6 = x7) : m5 = 0 := by
  subst v0 v1 v2 v3 v4 v5 v6 v7
  clear t0 t1 t2 t3 t4 t6 t7
  omega
theorem ar2_6 {x0 x1 x2 x3 x4 x5 x6 x7 q0 q1 q2 q3 q4 q5 q6 q7 m0 m1 m2 m3 m4 m5 m6 m7 : Int} (t0 : x0 + x2 + x4 + x6 = 4 * q0 + m0) (t1 : x1 + x3 + x5 + x7 = 4 * q1 + m1) (t2 : x0 - x3 - x4 + x7 = 4 * q2 + m2) (t3 : x1 + x2 - x5 - x6 = 4 * q3 + m3) (t4 : x0 - x2 + x4 - x6 = 4 * q4 + m4) (t5 : x1 - x3 + x5 - x7 = 4 * q5 + m5) (t6 : x0 + x3 - x4 - x7 = 4 * q6 + m6) (t7 : x1 - x2 - x5 + x6 = 4 * q7 + m7) (v0 : q0 + q2 + q4 + q6 = x0) (v1 : q1 + q3 + q5 + q7 = x1) (v2 : q0 + q3 - q4 - q7 = x2) (v3 : q1 - q2 - q5 + q6 = x3) (v4 : q0 - q2 + q4 - q6 = x4) (v5 : q1 - q3 + q5 - q7 = x5) (v6 : q0 - q3 - q4 + q7 = x6) (v7 : q1 + q2 - q5 - q6 = x7) : m6 = 0 := by
  subst v0 v1 v2 v3 v4 v5 v6 v7
  clear t0 t1 t2 t3 t4 t5 t7
  omega
theorem ar2_7 {x0 x1 x2 x3 x4 x5 x6 x7 q0 q1 q2 q3 q4 q5 q6 q7 m0 m1 m2 m3 m4 m5 m6 m7 : Int} (t0 : x0 + x2 + x4 + x6 = 4 * q0 + m0) (t1 : x1 + x3 + x5 + x7 = 4 * q1 + m1) (t2 : x0 - x3 - x4 + x7 = 4 * q2 + m2) (t3 : x1 + x2 - x5 - x6 = 4 * q3 + m3) (t4 : x0 - x2 + x4 - x6 = 4 * q4 + m4) (t5 : x1 - x3 + x5 - x7 = 4 * q5 + m5) (t6 : x0 + x3 - x4 - x7 = 4 * q6 + m6) (t7 : x1 - x2 - x5 + x6 = 4 * q7 + m7) (v0 : q0 + q2 + q4 + q6 = x0) (v1 : q1 + q3 + q5 + q7 = x1) (v2 : q0 + q3 - q4 - q7 = x2) (v3 : q1 - q2 - q5 + q6 = x3) (v4 : q0 - q2 + q4 - q6 = x4) (v5 : q1 - q3 + q5 - q7 = x5) (v6 : q0 - q3 - q4 + q7 = x6) (v7 : q1 + q2 - q5 - q6 = x7) : m7 = 0 := by
  subst v0 v1 v2 v3 v4 v5 v6 v7
  clear t0 t1 t2 t3 t4 t5 t6
  omega
theorem back_in (x0 x1 x2 x3 x4 x5 x6 x7 : Int) (h : allR x0 x1 x2 x3 x4 x5 x6 x7) : (ba_c1 x0 x1 x2 x3 x4 x5 x6 x7 = false ∧ rb_c0 x0 x1 x2 x3 x4 x5 x6 x7 = false ∧ rb_c1 x0 x1 x2 x3 x4 x5 x6 x7 = false ∧ rb_c2 x0 x1 x2 x3 x4 x5 x6 x7 = false ∧ rb_c3 x0 x1 x2 x3 x4 x5 x6 x7 = false ∧ rb_c4 x0 x1 x2 x3 x4 x5 x6 x7 = false ∧ rb_c5 x0 x1 x2 x3 x4 x5 x6 x7 = false ∧ rb_c6 x0 x1 x2 x3 x4 x5 x6 x7 = false ∧ rb_c7 x0 x1 x2 x3 x4 x5 x6 x7 = false) ∨ (ba_c1 x0 x1 x2 x3 x4 x5 x6 x7 = true ∧ (rb_c0 x0 x1 x2 x3 x4 x5 x6 x7 || rb_c1 x0 x1 x2 x3 x4 x5 x6 x7 || rb_c2 x0 x1 x2 x3 x4 x5 x6 x7 || rb_c3 x0 x1 x2 x3 x4 x5 x6 x7 || rb_c4 x0 x1 x2 x3 x4 x5 x6 x7 || rb_c5 x0 x1 x2 x3 x4 x5 x6 x7 || rb_c6 x0 x1 x2 x3 x4 x5 x6 x7 || rb_c7 x0 x1 x2 x3 x4 x5 x6 x7) = true) := by
  unfold allR inR at h
  have b0 : big x0 := by unfold big; omega
  have b1 : big x1 := by unfold big; omega
  have b2 : big x2 := by unfold big; omega
  have b3 : big x3 := by unfold big; omega
  have b4 : big x4 := by unfold big; omega
  have b5 : big x5 := by unfold big; omega
  have b6 : big x6 := by unfold big; omega
  have b7 : big x7 := by unfold big; omega
  have e0 := sP_0 b0 b1 b2 b3 b4 b5 b6 b7
  have rs0 : rsP_r0 x0 x1 x2 x3 x4 x5 x6 x7 = sP_r0 x0 x1 x2 x3 x4 x5 x6 x7 := (rsP_0 b0 b1 b2 b3 b4 b5 b6 b7).trans e0.symm
  have t0 := (td4 (sP_r0 x0 x1 x2 x3 x4 x5 x6 x7)).1
  have u0 : big ((sP_r0 x0 x1 x2 x3 x4 x5 x6 x7).tdiv 4) ∧ IntKind.i64.wrap ((sP_r0 x0 x1 x2 x3 x4 x5 x6 x7).tdiv 4) = (sP_r0 x0 x1 x2 x3 x4 x5 x6 x7).tdiv 4 := by rw [e0]; exact td4b (by omega) (by omega)
  have e1 := sP_1 b0 b1 b2 b3 b4 b5 b6 b7
  have rs1 : rsP_r1 x0 x1 x2 x3 x4 x5 x6 x7 = sP_r1 x0 x1 x2 x3 x4 x5 x6 x7 := (rsP_1 b0 b1 b2 b3 b4 b5 b6 b7).trans e1.symm
  have t1 := (td4 (sP_r1 x0 x1 x2 x3 x4 x5 x6 x7)).1
  have u1 : big ((sP_r1 x0 x1 x2 x3 x4 x5 x6 x7).tdiv 4) ∧ IntKind.i64.wrap ((sP_r1 x0 x1 x2 x3 x4 x5 x6 x7).tdiv 4) = (sP_r1 x0 x1 x2 x3 x4 x5 x6 x7).tdiv 4 := by rw [e1]; exact td4b (by omega) (by omega)
  have e2 := sP_2 b0 b1 b2 b3 b4 b5 b6 b7
  have rs2 : rsP_r2 x0 x1 x2 x3 x4 x5 x6 x7 = sP_r2 x0 x1 x2 x3 x4 x5 x6 x7 := (rsP_2 b0 b1 b2 b3 b4 b5 b6 b7).trans e2.symm
  have t2 := (td4 (sP_r2 x0 x1 x2 x3 x4 x5 x6 x7)).1
  have u2 : big ((sP_r2 x0 x1 x2 x3 x4 x5 x6 x7).tdiv 4) ∧ IntKind.i64.wrap ((sP_r2 x0 x1 x2 x3 x4 x5 x6 x7).tdiv 4) = (sP_r2 x0 x1 x2 x3 x4 x5 x6 x7).tdiv 4 := by rw [e2]; exact td4b (by omega) (by omega)
  have e3 := sP_3 b0 b1 b2 b3 b4 b5 b6 b7
  have rs3 : rsP_r3 x0 x1 x2 x3 x4 x5 x6 x7 = sP_r3 x0 x1 x2 x3 x4 x5 x6 x7 := (rsP_3 b0 b1 b2 b3 b4 b5 b6 b7).trans e3.symm
  have t3 := (td4 (sP_r3 x0 x1 x2 x3 x4 x5 x6 x7)).1
  have u3 : big ((sP_r3 x0 x1 x2 x3 x4 x5 x6 x7).tdiv 4) ∧ IntKind.i64.wrap ((sP_r3 x0 x1 x2 x3 x4 x5 x6 x7).tdiv 4) = (sP_r3 x0 x1 x2 x3 x4 x5 x6 x7).tdiv 4 := by rw [e3]; exact td4b (by omega) (by omega)
  have e4 := sP_4 b0 b1 b2 b3 b4 b5 b6 b7
  have rs4 : rsP_r4 x0 x1 x2 x3 x4 x5 x6 x7 = sP_r4 x0 x1 x2 x3 x4 x5 x6 x7 := (rsP_4 b0 b1 b2 b3 b4 b5 b6 b7).trans e4.symm
  have t4 := (td4 (sP_r4 x0 x1 x2 x3 x4 x5 x6 x7)).1
  have u4 : big ((sP_r4 x0 x1 x2 x3 x4 x5 x6 x7).tdiv 4) ∧ IntKind.i64.wrap ((sP_r4 x0 x1 x2 x3 x4 x5 x6 x7).tdiv 4) = (sP_r4 x0 x1 x2 x3 x4 x5 x6 x7).tdiv 4 := by rw [e4]; exact td4b (by omega) (by omega)
  have e5 := sP_5 b0 b1 b2 b3 b4 b5 b6 b7
  have rs5 : rsP_r5 x0 x1 x2 x3 x4 x5 x6 x7 = sP_r5 x0 x1 x2 x3 x4 x5 x6 x7 := (rsP_5 b0 b1 b2 b3 b4 b5 b6 b7).trans e5.symm
  have t5 := (td4 (sP_r5 x0 x1 x2 x3 x4 x5 x6 x7)).1
  have u5 : big ((sP_r5 x0 x1 x2 x3 x4 x5 x6 x7).tdiv 4) ∧ IntKind.i64.wrap ((sP_r5 x0 x1 x2 x3 x4 x5 x6 x7).tdiv 4) = (sP_r5 x0 x1 x2 x3 x4 x5 x6 x7).tdiv 4 := by rw [e5]; exact td4b (by omega) (by omega)
  have e6 := sP_6 b0 b1 b2 b3 b4 b5 b6 b7
  have rs6 : rsP_r6 x0 x1 x2 x3 x4 x5 x6 x7 = sP_r6 x0 x1 x2 x3 x4 x5 x6 x7 := (rsP_6 b0 b1 b2 b3 b4 b5 b6 b7).trans e6.symm
  have t6 := (td4 (sP_r6 x0 x1 x2 x3 x4 x5 x6 x7)).1
  have u6 : big ((sP_r6 x0 x1 x2 x3 x4 x5 x6 x7).tdiv 4) ∧ IntKind.i64.wrap ((sP_r6 x0 x1 x2 x3 x4 x5 x6 x7).tdiv 4) = (sP_r6 x0 x1 x2 x3 x4 x5 x6 x7).tdiv 4 := by rw [e6]; exact td4b (by omega) (by omega)
  have e7 := sP_7 b0 b1 b2 b3 b4 b5 b6 b7
  have rs7 : rsP_r7 x0 x1 x2 x3 x4 x5 x6 x7 = sP_r7 x0 x1 x2 x3 x4 x5 x6 x7 := (rsP_7 b0 b1 b2 b3 b4 b5 b6 b7).trans e7.symm
  have t7 := (td4 (sP_r7 x0 x1 x2 x3 x4 x5 x6 x7)).1
  have u7 : big ((sP_r7 x0 x1 x2 x3 x4 x5 x6 x7).tdiv 4) ∧ IntKind.i64.wrap ((sP_r7 x0 x1 x2 x3 x4 x5 x6 x7).tdiv 4) = (sP_r7 x0 x1 x2 x3 x4 x5 x6 x7).tdiv 4 := by rw [e7]; exact td4b (by omega) (by omega)
  obtain ⟨q0, hq0⟩ : ∃ q, q = (sP_r0 x0 x1 x2 x3 x4 x5 x6 x7).tdiv 4 := ⟨_, rfl⟩
  obtain ⟨m0, hm0⟩ : ∃ m, m = (sP_r0 x0 x1 x2 x3 x4 x5 x6 x7).tmod 4 := ⟨_, rfl⟩
  rw [← hq0, ← hm0, e0] at t0
  rw [← hq0] at u0
  obtain ⟨bq0, w0⟩ := u0
  obtain ⟨q1, hq1⟩ : ∃ q, q = (sP_r1 x0 x1 x2 x3 x4 x5 x6 x7).tdiv 4 := ⟨_, rfl⟩
  obtain ⟨m1, hm1⟩ : ∃ m, m = (sP_r1 x0 x1 x2 x3 x4 x5 x6 x7).tmod 4 := ⟨_, rfl⟩
  rw [← hq1, ← hm1, e1] at t1
  rw [← hq1] at u1
  obtain ⟨bq1, w1⟩ := u1
  obtain ⟨q2, hq2⟩ : ∃ q, q = (sP_r2 x0 x1 x2 x3 x4 x5 x6 x7).tdiv 4 := ⟨_, rfl⟩
  obtain ⟨m2, hm2⟩ : ∃ m, m = (sP_r2 x0 x1 x2 x3 x4 x5 x6 x7).tmod 4 := ⟨_, rfl⟩
  rw [← hq2, ← hm2, e2] at t2
  rw [← hq2] at u2
  obtain ⟨bq2, w2⟩ := u2
  obtain ⟨q3, hq3⟩ : ∃ q, q = (sP_r3 x0 x1 x2 x3 x4 x5 x6 x7).tdiv 4 := ⟨_, rfl⟩
  obtain ⟨m3, hm3⟩ : ∃ m, m = (sP_r3 x0 x1 x2 x3 x4 x5 x6 x7).tmod 4 := ⟨_, rfl⟩
  rw [← hq3, ← hm3, e3] at t3
  rw [← hq3] at u3
  obtain ⟨bq3, w3⟩ := u3
  obtain ⟨q4, hq4⟩ : ∃ q, q = (sP_r4 x0 x1 x2 x3 x4 x5 x6 x7).tdiv 4 := ⟨_, rfl⟩
  obtain ⟨m4, hm4⟩ : ∃ m, m = (sP_r4 x0 x1 x2 x3 x4 x5 x6 x7).tmod 4 := ⟨_, rfl⟩
  rw [← hq4, ← hm4, e4] at t4
  rw [← hq4] at u4
  obtain ⟨bq4, w4⟩ := u4
  obtain ⟨q5, hq5⟩ : ∃ q, q = (sP_r5 x0 x1 x2 x3 x4 x5 x6 x7).tdiv 4 := ⟨_, rfl⟩
  obtain ⟨m5, hm5⟩ : ∃ m, m = (sP_r5 x0 x1 x2 x3 x4 x5 x6 x7).tmod 4 := ⟨_, rfl⟩
  rw [← hq5, ← hm5, e5] at t5
  rw [← hq5] at u5
  obtain ⟨bq5, w5⟩ := u5
  obtain ⟨q6, hq6⟩ : ∃ q, q = (sP_r6 x0 x1 x2 x3 x4 x5 x6 x7).tdiv 4 := ⟨_, rfl⟩
  obtain ⟨m6, hm6⟩ : ∃ m, m = (sP_r6 x0 x1 x2 x3 x4 x5 x6 x7).tmod 4 := ⟨_, rfl⟩
  rw [← hq6, ← hm6, e6] at t6
  rw [← hq6] at u6
  obtain ⟨bq6, w6⟩ := u6
  obtain ⟨q7, hq7⟩ : ∃ q, q = (sP_r7 x0 x1 x2 x3 x4 x5 x6 x7).tdiv 4 := ⟨_, rfl⟩
  obtain ⟨m7, hm7⟩ : ∃ m, m = (sP_r7 x0 x1 x2 x3 x4 x5 x6 x7).tmod 4 := ⟨_, rfl⟩
  rw [← hq7, ← hm7, e7] at t7
  rw [← hq7] at u7
  obtain ⟨bq7, w7⟩ := u7
  have n0 := sN_0 bq0 bq1 bq2 bq3 bq4 bq5 bq6 bq7
  have n1 := sN_1 bq0 bq1 bq2 bq3 bq4 bq5 bq6 bq7
  have n2 := sN_2 bq0 bq1 bq2 bq3 bq4 bq5 bq6 bq7
  have n3 := sN_3 bq0 bq1 bq2 bq3 bq4 bq5 bq6 bq7
  have n4 := sN_4 bq0 bq1 bq2 bq3 bq4 bq5 bq6 bq7
  have n5 := sN_5 bq0 bq1 bq2 bq3 bq4 bq5 bq6 bq7
  have n6 := sN_6 bq0 bq1 bq2 bq3 bq4 bq5 bq6 bq7
  have n7 := sN_7 bq0 bq1 bq2 bq3 bq4 bq5 bq6 bq7
  unfold ba_c1 rb_c0 rb_c1 rb_c2 rb_c3 rb_c4 rb_c5 rb_c6 rb_c7
  simp only [rs0, ← hq0, ← hm0, w0, n0, rs1, ← hq1, ← hm1, w1, n1, rs2, ← hq2, ← hm2, w2, n2, rs3, ← hq3, ← hm3, w3, n3, rs4, ← hq4, ← hm4, w4, n4, rs5, ← hq5, ← hm5, w5, n5, rs6, ← hq6, ← hm6, w6, n6, rs7, ← hq7, ← hm7, w7, n7]
  have orz : (m0 = 0 ∧ m1 = 0 ∧ m2 = 0 ∧ m3 = 0 ∧ m4 = 0 ∧ m5 = 0 ∧ m6 = 0 ∧ m7 = 0) ∨ (m0 != 0 || m1 != 0 || m2 != 0 || m3 != 0 || m4 != 0 || m5 != 0 || m6 != 0 || m7 != 0) := by
    by_cases z0 : m0 = 0
    · skip
      by_cases z1 : m1 = 0
      · skip
        by_cases z2 : m2 = 0
        · skip
          by_cases z3 : m3 = 0
          · skip
            by_cases z4 : m4 = 0
            · skip
              by_cases z5 : m5 = 0
              · skip
                by_cases z6 : m6 = 0
                · skip
                  by_cases z7 : m7 = 0
                  · skip
                    exact .inl ⟨z0, z1, z2, z3, z4, z5, z6, z7⟩
                  · right; simp [z7]
                · right; simp [z6]
              · right; simp [z5]
            · right; simp [z4]
          · right; simp [z3]
        · right; simp [z2]
      · right; simp [z1]
    · right; simp [z0]
  rcases orz with ⟨z0, z1, z2, z3, z4, z5, z6, z7⟩ | hz
  · left
    have v0 := ar1_0 t0 t1 t2 t3 t4 t5 t6 t7 z0 z1 z2 z3 z4 z5 z6 z7
    have v1 := ar1_1 t0 t1 t2 t3 t4 t5 t6 t7 z0 z1 z2 z3 z4 z5 z6 z7
    have v2 := ar1_2 t0 t1 t2 t3 t4 t5 t6 t7 z0 z1 z2 z3 z4 z5 z6 z7
    have v3 := ar1_3 t0 t1 t2 t3 t4 t5 t6 t7 z0 z1 z2 z3 z4 z5 z6 z7
    have v4 := ar1_4 t0 t1 t2 t3 t4 t5 t6 t7 z0 z1 z2 z3 z4 z5 z6 z7
    have v5 := ar1_5 t0 t1 t2 t3 t4 t5 t6 t7 z0 z1 z2 z3 z4 z5 z6 z7
    have v6 := ar1_6 t0 t1 t2 t3 t4 t5 t6 t7 z0 z1 z2 z3 z4 z5 z6 z7
    have v7 := ar1_7 t0 t1 t2 t3 t4 t5 t6 t7 z0 z1 z2 z3 z4 z5 z6 z7
    rw [v0, v1, v2, v3, v4, v5, v6, v7]
    simp only [z0, z1, z2, z3, z4, z5, z6, z7, beq_self_eq_true, Bool.and_self, Bool.and_true, Bool.not_true, bne_self_eq_false, and_self]
  · right
    refine ⟨?_, hz⟩
    rw [Bool.not_eq_true', Bool.eq_false_iff]
    intro hv
    simp only [Bool.and_eq_true, beq_iff_eq, and_true] at hv
    obtain ⟨⟨v0, v1⟩, ⟨v2, v3⟩, ⟨v4, v5⟩, v6, v7⟩ := hv
    rw [ar2_0 t0 t1 t2 t3 t4 t5 t6 t7 v0 v1 v2 v3 v4 v5 v6 v7, ar2_1 t0 t1 t2 t3 t4 t5 t6 t7 v0 v1 v2 v3 v4 v5 v6 v7, ar2_2 t0 t1 t2 t3 t4 t5 t6 t7 v0 v1 v2 v3 v4 v5 v6 v7, ar2_3 t0 t1 t2 t3 t4 t5 t6 t7 v0 v1 v2 v3 v4 v5 v6 v7, ar2_4 t0 t1 t2 t3 t4 t5 t6 t7 v0 v1 v2 v3 v4 v5 v6 v7, ar2_5 t0 t1 t2 t3 t4 t5 t6 t7 v0 v1 v2 v3 v4 v5 v6 v7, ar2_6 t0 t1 t2 t3 t4 t5 t6 t7 v0 v1 v2 v3 v4 v5 v6 v7, ar2_7 t0 t1 t2 t3 t4 t5 t6 t7 v0 v1 v2 v3 v4 v5 v6 v7] at hz
    simp at hz
theorem ladder {α : Type} (c0 c1 c2 c3 c4 c5 c6 c7 : Bool) (a b : α) (h : (c0 || c1 || c2 || c3 || c4 || c5 || c6 || c7) = true) : cond c0 a (cond c1 a (cond c2 a (cond c3 a (cond c4 a (cond c5 a (cond c6 a (cond c7 a b))))))) = a := by
  cases c0 <;> cases c1 <;> cases c2 <;> cases c3 <;> cases c4 <;> cases c5 <;> cases c6 <;> cases c7 <;> first | rfl | cases h
theorem harm_true (x0 x1 x2 x3 x4 x5 x6 x7 : Int) : la_r0 x0 x1 x2 x3 x4 x5 x6 x7 = true := by
  rcases tc_in x0 x1 x2 x3 x4 x5 x6 x7 with ⟨ht, hall⟩ | ⟨ht, hno⟩
  · have hcv : cv_r0 x0 x1 x2 x3 x4 x5 x6 x7 = 0 := by
      rcases cv_in x0 x1 x2 x3 x4 x5 x6 x7 with ⟨h, _⟩ | ⟨_, h⟩
      · exact h
      · exact absurd hall h
    have hbk := back_in x0 x1 x2 x3 x4 x5 x6 x7 hall
    unfold allR inR at hall
    have b0 : big x0 := by unfold big; omega
    have b1 : big x1 := by unfold big; omega
    have b2 : big x2 := by unfold big; omega
    have b3 : big x3 := by unfold big; omega
    have b4 : big x4 := by unfold big; omega
    have b5 : big x5 := by unfold big; omega
    have b6 : big x6 := by unfold big; omega
    have b7 : big x7 := by unfold big; omega
    have hc0 : ha_c0 x0 x1 x2 x3 x4 x5 x6 x7 = false := by unfold ha_c0; rw [hcv]; rfl
    have hb0 : ba_c0 x0 x1 x2 x3 x4 x5 x6 x7 = false := by unfold ba_c0; rw [hcv]; rfl
    have a0 : ha_r0 x0 x1 x2 x3 x4 x5 x6 x7 = rsN_r0 x0 x1 x2 x3 x4 x5 x6 x7 := by unfold ha_r0; rw [hc0]; exact (sN_0 b0 b1 b2 b3 b4 b5 b6 b7).trans (rsN_0 b0 b1 b2 b3 b4 b5 b6 b7).symm
    have a1 : ha_r1 x0 x1 x2 x3 x4 x5 x6 x7 = rsN_r1 x0 x1 x2 x3 x4 x5 x6 x7 := by unfold ha_r1; rw [hc0]; exact (sN_1 b0 b1 b2 b3 b4 b5 b6 b7).trans (rsN_1 b0 b1 b2 b3 b4 b5 b6 b7).symm
    have a2 : ha_r2 x0 x1 x2 x3 x4 x5 x6 x7 = rsN_r2 x0 x1 x2 x3 x4 x5 x6 x7 := by unfold ha_r2; rw [hc0]; exact (sN_2 b0 b1 b2 b3 b4 b5 b6 b7).trans (rsN_2 b0 b1 b2 b3 b4 b5 b6 b7).symm
    have a3 : ha_r3 x0 x1 x2 x3 x4 x5 x6 x7 = rsN_r3 x0 x1 x2 x3 x4 x5 x6 x7 := by unfold ha_r3; rw [hc0]; exact (sN_3 b0 b1 b2 b3 b4 b5 b6 b7).trans (rsN_3 b0 b1 b2 b3 b4 b5 b6 b7).symm
    have a4 : ha_r4 x0 x1 x2 x3 x4 x5 x6 x7 = rsN_r4 x0 x1 x2 x3 x4 x5 x6 x7 := by unfold ha_r4; rw [hc0]; exact (sN_4 b0 b1 b2 b3 b4 b5 b6 b7).trans (rsN_4 b0 b1 b2 b3 b4 b5 b6 b7).symm
    have a5 : ha_r5 x0 x1 x2 x3 x4 x5 x6 x7 = rsN_r5 x0 x1 x2 x3 x4 x5 x6 x7 := by unfold ha_r5; rw [hc0]; exact (sN_5 b0 b1 b2 b3 b4 b5 b6 b7).trans (rsN_5 b0 b1 b2 b3 b4 b5 b6 b7).symm
    have a6 : ha_r6 x0 x1 x2 x3 x4 x5 x6 x7 = rsN_r6 x0 x1 x2 x3 x4 x5 x6 x7 := by unfold ha_r6; rw [hc0]; exact (sN_6 b0 b1 b2 b3 b4 b5 b6 b7).trans (rsN_6 b0 b1 b2 b3 b4 b5 b6 b7).symm
    have a7 : ha_r7 x0 x1 x2 x3 x4 x5 x6 x7 = rsN_r7 x0 x1 x2 x3 x4 x5 x6 x7 := by unfold ha_r7; rw [hc0]; exact (sN_7 b0 b1 b2 b3 b4 b5 b6 b7).trans (rsN_7 b0 b1 b2 b3 b4 b5 b6 b7).symm
    have a8 : ha_r8 x0 x1 x2 x3 x4 x5 x6 x7 = 0 := by unfold ha_r8; rw [hc0]; rfl
    have k0 : la_c0 x0 x1 x2 x3 x4 x5 x6 x7 = true := by unfold la_c0; rw [ht]; rfl
    have k1 : la_c1 x0 x1 x2 x3 x4 x5 x6 x7 = true := by unfold la_c1; simp only [a0, a1, a2, a3, a4, a5, a6, a7, beq_self_eq_true, Bool.and_self, Bool.and_true]
    have k2 : la_c2 x0 x1 x2 x3 x4 x5 x6 x7 = true := by unfold la_c2; rw [a8, ht]; rfl
    have k3 : la_c3 x0 x1 x2 x3 x4 x5 x6 x7 = true ∧ (ba_r8 x0 x1 x2 x3 x4 x5 x6 x7 == rb_r8 x0 x1 x2 x3 x4 x5 x6 x7) = true := by
      rcases hbk with ⟨hc, g0, g1, g2, g3, g4, g5, g6, g7⟩ | ⟨hc, hor⟩
      · have d0 : ba_r0 x0 x1 x2 x3 x4 x5 x6 x7 = rb_r0 x0 x1 x2 x3 x4 x5 x6 x7 := by
          unfold ba_r0 rb_r0
          rw [hb0, hc, g0, g1, g2, g3, g4, g5, g6, g7]
          show IntKind.i64.wrap ((sP_r0 x0 x1 x2 x3 x4 x5 x6 x7).tdiv 4) = IntKind.i64.wrap ((rsP_r0 x0 x1 x2 x3 x4 x5 x6 x7).tdiv 4)
          rw [sP_0 b0 b1 b2 b3 b4 b5 b6 b7, rsP_0 b0 b1 b2 b3 b4 b5 b6 b7]
        have d1 : ba_r1 x0 x1 x2 x3 x4 x5 x6 x7 = rb_r1 x0 x1 x2 x3 x4 x5 x6 x7 := by
          unfold ba_r1 rb_r1
          rw [hb0, hc, g0, g1, g2, g3, g4, g5, g6, g7]
          show IntKind.i64.wrap ((sP_r1 x0 x1 x2 x3 x4 x5 x6 x7).tdiv 4) = IntKind.i64.wrap ((rsP_r1 x0 x1 x2 x3 x4 x5 x6 x7).tdiv 4)
          rw [sP_1 b0 b1 b2 b3 b4 b5 b6 b7, rsP_1 b0 b1 b2 b3 b4 b5 b6 b7]
        have d2 : ba_r2 x0 x1 x2 x3 x4 x5 x6 x7 = rb_r2 x0 x1 x2 x3 x4 x5 x6 x7 := by
          unfold ba_r2 rb_r2
          rw [hb0, hc, g0, g1, g2, g3, g4, g5, g6, g7]
          show IntKind.i64.wrap ((sP_r2 x0 x1 x2 x3 x4 x5 x6 x7).tdiv 4) = IntKind.i64.wrap ((rsP_r2 x0 x1 x2 x3 x4 x5 x6 x7).tdiv 4)
          rw [sP_2 b0 b1 b2 b3 b4 b5 b6 b7, rsP_2 b0 b1 b2 b3 b4 b5 b6 b7]
        have d3 : ba_r3 x0 x1 x2 x3 x4 x5 x6 x7 = rb_r3 x0 x1 x2 x3 x4 x5 x6 x7 := by
          unfold ba_r3 rb_r3
          rw [hb0, hc, g0, g1, g2, g3, g4, g5, g6, g7]
          show IntKind.i64.wrap ((sP_r3 x0 x1 x2 x3 x4 x5 x6 x7).tdiv 4) = IntKind.i64.wrap ((rsP_r3 x0 x1 x2 x3 x4 x5 x6 x7).tdiv 4)
          rw [sP_3 b0 b1 b2 b3 b4 b5 b6 b7, rsP_3 b0 b1 b2 b3 b4 b5 b6 b7]
        have d4 : ba_r4 x0 x1 x2 x3 x4 x5 x6 x7 = rb_r4 x0 x1 x2 x3 x4 x5 x6 x7 := by
          unfold ba_r4 rb_r4
          rw [hb0, hc, g0, g1, g2, g3, g4, g5, g6, g7]
          show IntKind.i64.wrap ((sP_r4 x0 x1 x2 x3 x4 x5 x6 x7).tdiv 4) = IntKind.i64.wrap ((rsP_r4 x0 x1 x2 x3 x4 x5 x6 x7).tdiv 4)
          rw [sP_4 b0 b1 b2 b3 b4 b5 b6 b7, rsP_4 b0 b1 b2 b3 b4 b5 b6 b7]
        have d5 : ba_r5 x0 x1 x2 x3 x4 x5 x6 x7 = rb_r5 x0 x1 x2 x3 x4 x5 x6 x7 := by
          unfold ba_r5 rb_r5
          rw [hb0, hc, g0, g1, g2, g3, g4, g5, g6, g7]
          show IntKind.i64.wrap ((sP_r5 x0 x1 x2 x3 x4 x5 x6 x7).tdiv 4) = IntKind.i64.wrap ((rsP_r5 x0 x1 x2 x3 x4 x5 x6 x7).tdiv 4)
          rw [sP_5 b0 b1 b2 b3 b4 b5 b6 b7, rsP_5 b0 b1 b2 b3 b4 b5 b6 b7]
        have d6 : ba_r6 x0 x1 x2 x3 x4 x5 x6 x7 = rb_r6 x0 x1 x2 x3 x4 x5 x6 x7 := by
          unfold ba_r6 rb_r6
          rw [hb0, hc, g0, g1, g2, g3, g4, g5, g6, g7]
          show IntKind.i64.wrap ((sP_r6 x0 x1 x2 x3 x4 x5 x6 x7).tdiv 4) = IntKind.i64.wrap ((rsP_r6 x0 x1 x2 x3 x4 x5 x6 x7).tdiv 4)
          rw [sP_6 b0 b1 b2 b3 b4 b5 b6 b7, rsP_6 b0 b1 b2 b3 b4 b5 b6 b7]
        have d7 : ba_r7 x0 x1 x2 x3 x4 x5 x6 x7 = rb_r7 x0 x1 x2 x3 x4 x5 x6 x7 := by
          unfold ba_r7 rb_r7
          rw [hb0, hc, g0, g1, g2, g3, g4, g5, g6, g7]
          show IntKind.i64.wrap ((sP_r7 x0 x1 x2 x3 x4 x5 x6 x7).tdiv 4) = IntKind.i64.wrap ((rsP_r7 x0 x1 x2 x3 x4 x5 x6 x7).tdiv 4)
          rw [sP_7 b0 b1 b2 b3 b4 b5 b6 b7, rsP_7 b0 b1 b2 b3 b4 b5 b6 b7]
        refine ⟨by unfold la_c3; simp only [d0, d1, d2, d3, d4, d5, d6, d7, beq_self_eq_true, Bool.and_self, Bool.and_true], ?_⟩
        unfold ba_r8 rb_r8
        rw [hb0, hc, g0, g1, g2, g3, g4, g5, g6, g7]
        rfl
      · have d0 : ba_r0 x0 x1 x2 x3 x4 x5 x6 x7 = rb_r0 x0 x1 x2 x3 x4 x5 x6 x7 := by
          unfold ba_r0 rb_r0
          rw [hb0, hc, ladder _ _ _ _ _ _ _ _ _ _ hor]
          rfl
        have d1 : ba_r1 x0 x1 x2 x3 x4 x5 x6 x7 = rb_r1 x0 x1 x2 x3 x4 x5 x6 x7 := by
          unfold ba_r1 rb_r1
          rw [hb0, hc, ladder _ _ _ _ _ _ _ _ _ _ hor]
          rfl
        have d2 : ba_r2 x0 x1 x2 x3 x4 x5 x6 x7 = rb_r2 x0 x1 x2 x3 x4 x5 x6 x7 := by
          unfold ba_r2 rb_r2
          rw [hb0, hc, ladder _ _ _ _ _ _ _ _ _ _ hor]
          rfl
        have d3 : ba_r3 x0 x1 x2 x3 x4 x5 x6 x7 = rb_r3 x0 x1 x2 x3 x4 x5 x6 x7 := by
          unfold ba_r3 rb_r3
          rw [hb0, hc, ladder _ _ _ _ _ _ _ _ _ _ hor]
          rfl
        have d4 : ba_r4 x0 x1 x2 x3 x4 x5 x6 x7 = rb_r4 x0 x1 x2 x3 x4 x5 x6 x7 := by
          unfold ba_r4 rb_r4
          rw [hb0, hc, ladder _ _ _ _ _ _ _ _ _ _ hor]
          rfl
        have d5 : ba_r5 x0 x1 x2 x3 x4 x5 x6 x7 = rb_r5 x0 x1 x2 x3 x4 x5 x6 x7 := by
          unfold ba_r5 rb_r5
          rw [hb0, hc, ladder _ _ _ _ _ _ _ _ _ _ hor]
          rfl
        have d6 : ba_r6 x0 x1 x2 x3 x4 x5 x6 x7 = rb_r6 x0 x1 x2 x3 x4 x5 x6 x7 := by
          unfold ba_r6 rb_r6
          rw [hb0, hc, ladder _ _ _ _ _ _ _ _ _ _ hor]
          rfl
        have d7 : ba_r7 x0 x1 x2 x3 x4 x5 x6 x7 = rb_r7 x0 x1 x2 x3 x4 x5 x6 x7 := by
          unfold ba_r7 rb_r7
          rw [hb0, hc, ladder _ _ _ _ _ _ _ _ _ _ hor]
          rfl
        refine ⟨by unfold la_c3; simp only [d0, d1, d2, d3, d4, d5, d6, d7, beq_self_eq_true, Bool.and_self, Bool.and_true], ?_⟩
        unfold ba_r8 rb_r8
        rw [hb0, hc, ladder _ _ _ _ _ _ _ _ _ _ hor]
        rfl
    unfold la_r0
    rw [k0, k1, k2, k3.1]
    exact k3.2
  · have hcv : cv_r0 x0 x1 x2 x3 x4 x5 x6 x7 = 3 := by
      rcases cv_in x0 x1 x2 x3 x4 x5 x6 x7 with ⟨_, h⟩ | ⟨h, _⟩
      · exact absurd h hno
      · exact h
    have hc0 : ha_c0 x0 x1 x2 x3 x4 x5 x6 x7 = true := by unfold ha_c0; rw [hcv]; rfl
    have hb0 : ba_c0 x0 x1 x2 x3 x4 x5 x6 x7 = true := by unfold ba_c0; rw [hcv]; rfl
    have a0 : ha_r0 x0 x1 x2 x3 x4 x5 x6 x7 = 0 := by unfold ha_r0; rw [hc0]; rfl
    have d0 : ba_r0 x0 x1 x2 x3 x4 x5 x6 x7 = 0 := by unfold ba_r0; rw [hb0]; rfl
    have a1 : ha_r1 x0 x1 x2 x3 x4 x5 x6 x7 = 0 := by unfold ha_r1; rw [hc0]; rfl
    have d1 : ba_r1 x0 x1 x2 x3 x4 x5 x6 x7 = 0 := by unfold ba_r1; rw [hb0]; rfl
    have a2 : ha_r2 x0 x1 x2 x3 x4 x5 x6 x7 = 0 := by unfold ha_r2; rw [hc0]; rfl
    have d2 : ba_r2 x0 x1 x2 x3 x4 x5 x6 x7 = 0 := by unfold ba_r2; rw [hb0]; rfl
    have a3 : ha_r3 x0 x1 x2 x3 x4 x5 x6 x7 = 0 := by unfold ha_r3; rw [hc0]; rfl
    have d3 : ba_r3 x0 x1 x2 x3 x4 x5 x6 x7 = 0 := by unfold ba_r3; rw [hb0]; rfl
    have a4 : ha_r4 x0 x1 x2 x3 x4 x5 x6 x7 = 0 := by unfold ha_r4; rw [hc0]; rfl
    have d4 : ba_r4 x0 x1 x2 x3 x4 x5 x6 x7 = 0 := by unfold ba_r4; rw [hb0]; rfl
    have a5 : ha_r5 x0 x1 x2 x3 x4 x5 x6 x7 = 0 := by unfold ha_r5; rw [hc0]; rfl
    have d5 : ba_r5 x0 x1 x2 x3 x4 x5 x6 x7 = 0 := by unfold ba_r5; rw [hb0]; rfl
    have a6 : ha_r6 x0 x1 x2 x3 x4 x5 x6 x7 = 0 := by unfold ha_r6; rw [hc0]; rfl
    have d6 : ba_r6 x0 x1 x2 x3 x4 x5 x6 x7 = 0 := by unfold ba_r6; rw [hb0]; rfl
    have a7 : ha_r7 x0 x1 x2 x3 x4 x5 x6 x7 = 0 := by unfold ha_r7; rw [hc0]; rfl
    have d7 : ba_r7 x0 x1 x2 x3 x4 x5 x6 x7 = 0 := by unfold ba_r7; rw [hb0]; rfl
    have a8 : ha_r8 x0 x1 x2 x3 x4 x5 x6 x7 = 3 := by unfold ha_r8; rw [hc0]; exact hcv
    have d8 : ba_r8 x0 x1 x2 x3 x4 x5 x6 x7 = 3 := by unfold ba_r8; rw [hb0]; exact hcv
    have k0 : la_c0 x0 x1 x2 x3 x4 x5 x6 x7 = false := by unfold la_c0; rw [ht]; rfl
    have k4 : la_c4 x0 x1 x2 x3 x4 x5 x6 x7 = true := by unfold la_c4; simp only [a0, a1, a2, a3, a4, a5, a6, a7, beq_self_eq_true, Bool.and_self, Bool.and_true]
    have k5 : la_c5 x0 x1 x2 x3 x4 x5 x6 x7 = true := by unfold la_c5; simp only [d0, d1, d2, d3, d4, d5, d6, d7, beq_self_eq_true, Bool.and_self, Bool.and_true]
    have k2 : la_c2 x0 x1 x2 x3 x4 x5 x6 x7 = true := by unfold la_c2; rw [a8, ht]; rfl
    unfold la_r0
    rw [k0, k4, k2, k5, d8, ht]
    rfl
theorem harm_law (x0 x1 x2 x3 x4 x5 x6 x7 : Int) : Gives Tryz.prog envL 0 5 [.agg #[.int .i64 x0, .int .i64 x1, .int .i64 x2, .int .i64 x3, .int .i64 x4, .int .i64 x5, .int .i64 x6, .int .i64 x7]] heap0 (.bool true, heap0) := by
  have h := la_gives x0 x1 x2 x3 x4 x5 x6 x7
  rw [harm_true] at h
  exact h
end Go.Proofs.YtpdiaiccnaoaiaaGreatDoor
/-
ArrayHarmonics: from the rows to the statement.
-/
namespace Go.Proofs.YtpdiaiccnaoaiaaGreatDoor.arrayHarmonics
open Go Go.Abs Go.ChangeShapes Go.WideShapes Go.ChangeAt Go.RowKit

theorem own : ownKnob Tryz.prog.godebug = none := by kernel_rfl
theorem heap0_eq : heap0 = tabRows Tryz.prog Rows.arrayHarmonicsRow.laid 8 := by kernel_rfl
theorem still0 : noOwn heap0 = true := by kernel_rfl
section
variable {H : Type} {enc : TypeId × Value → H} {w : World} {base : Nat} {sp : Nat → Bool} {hd : Bool}
set_option maxRecDepth 100000 in
theorem arg72 {r : Reach} {b0 : Nat} {v : Value} {d : DataW H} {p : List MemPlace} (hv : Value.okWide Tryz.prog w r b0 72 v) (h : DataW.Trod enc Tryz.prog w base sp hd 72 v d p) :
    p = [] ∧ ∃ a0 a1 a2 a3 a4 a5 a6 a7 : Int, v = .agg #[.int .i64 a0, .int .i64 a1, .int .i64 a2, .int .i64 a3, .int .i64 a4, .int .i64 a5, .int .i64 a6, .int .i64 a7] := by
  obtain ⟨fuel, h⟩ := h
  simp only [Value.okWide, Tryz.underlying72] at hv
  obtain ⟨cs, rfl, _, _⟩ := hv
  obtain ⟨hi, hp⟩ := flat_of 9 72 [.i64, .i64, .i64, .i64, .i64, .i64, .i64, .i64] fuel _ _ (by kernel_rfl) h
  refine ⟨hp, ?_⟩
  simp only [Value.cells] at hi
  obtain ⟨a0, l0, e0, _, hi⟩ := hi.inv
  obtain ⟨a1, l1, e1, _, hi⟩ := hi.inv
  obtain ⟨a2, l2, e2, _, hi⟩ := hi.inv
  obtain ⟨a3, l3, e3, _, hi⟩ := hi.inv
  obtain ⟨a4, l4, e4, _, hi⟩ := hi.inv
  obtain ⟨a5, l5, e5, _, hi⟩ := hi.inv
  obtain ⟨a6, l6, e6, _, hi⟩ := hi.inv
  obtain ⟨a7, l7, e7, _, hi⟩ := hi.inv
  have ee := hi.end
  refine ⟨a0, a1, a2, a3, a4, a5, a6, a7, ?_⟩
  rw [← Array.toList_inj.1 (show cs.toList = (#[.int .i64 a0, .int .i64 a1, .int .i64 a2, .int .i64 a3, .int .i64 a4, .int .i64 a5, .int .i64 a6, .int .i64 a7] : Array Value).toList from by rw [e0, e1, e2, e3, e4, e5, e6, e7, ee])]
end

theorem calls (x0 x1 x2 x3 x4 x5 x6 x7 : Int) (W : World) (hL : laidMetH Tryz.prog Rows.arrayHarmonicsRow.laid W) :
    Calls Tryz.prog 5 #[.agg #[.int .i64 x0, .int .i64 x1, .int .i64 x2, .int .i64 x3, .int .i64 x4, .int .i64 x5, .int .i64 x6, .int .i64 x7]] W fun e w' =>
      e = .returned (.bool true) ∧ (w'.os = W.os ∧ w'.output = W.output) ∧ ∀ b, b < W.heap.size → w'.heap[b]? = W.heap[b]? := by
  obtain ⟨n, hn⟩ := harm_law x0 x1 x2 x3 x4 x5 x6 x7
  have hl : laidMet Tryz.prog Rows.arrayHarmonicsRow.laid W := by rw [← MakeChecks.laidMetH_plain _ _ _ (by kernel_rfl)]; exact hL
  have hR : Rel Tryz.prog (tabLoc 8) heap0 W := by rw [heap0_eq]; exact tabRows_rel hl
  have hb : ∃ cd, Tryz.f5.body = some cd := ⟨_, rfl⟩
  obtain ⟨cd, hb⟩ := hb
  have hargs : VRs (tabLoc 8) [.agg #[.int .i64 x0, .int .i64 x1, .int .i64 x2, .int .i64 x3, .int .i64 x4, .int .i64 x5, .int .i64 x6, .int .i64 x7]] [.agg #[.int .i64 x0, .int .i64 x1, .int .i64 x2, .int .i64 x3, .int .i64 x4, .int .i64 x5, .int .i64 x6, .int .i64 x7]] := VRs.cons (VR.refl _ rfl) (VRs.nil _)
  refine (calls_of (call_sound prog_ok envL_ok n) prog_ok Tryz.func5 hb hn hargs (tabLoc_globs 8) hR still0).mono ?_
  rintro e w' ⟨v', ρ', rfl, hv, _, hm, hs⟩
  rw [hv.atom_eq rfl]
  exact ⟨rfl, hm.out, hs⟩

theorem reads_ok : Reads Tryz.prog := ⟨by kernel_rfl, by kernel_rfl, by kernel_rfl⟩
theorem len_1 {α : Type} {l : List α} (h : l.length = 1) : ∃ y0 : α, l = [y0] := by
  match l, h with
  | [y0], _ => exact ⟨y0, rfl⟩

set_option maxRecDepth 100000 in
theorem contract (H : Type) (enc : TypeId × Value → H) (W : World) (base : Nat) (args : Array Value) (ds gs : List (DataW H)) (before : List MemPlace)
    (hval : ∀ (j : Nat) t v, Tryz.f5.params[j]? = some t → args[j]? = some v → Value.okWide Tryz.prog W .any base t v)
    (hW : DataW.Whole enc Tryz.prog Tryz.f5.params.toList Rows.arrayHarmonicsSpec.vars false W args.toList ds gs before) (hL : laidMetH Tryz.prog Rows.arrayHarmonicsRow.laid W) :
    Calls Tryz.prog 5 args W fun e W' => ∃ v, e = .returned v ∧ Rows.arrayHarmonicsSpec.post enc Tryz.prog Tryz.f5 false true false false W args v W' := by
  have hW' := hW
  obtain ⟨p, q, hA, hV, rfl, hfz, hnd⟩ := hW
  have hA0 : DataW.TrodAll enc Tryz.prog W 0 (fun _ => true) true Tryz.f5.params.toList args.toList ds p := hA
  rw [Tryz.params5] at hA0 hval
  obtain ⟨v0, vs0, d0, ds0, p0, q0, hargs0, rfl, rfl, h0, r0⟩ := trodAll_cons hA0
  obtain ⟨rfl, rfl, rfl⟩ := trodAll_nil r0
  obtain rfl : args = #[v0] := by cases args; simp_all
  obtain ⟨_, x0, x1, x2, x3, x4, x5, x6, x7, rfl⟩ := arg72 (hval 0 72 v0 rfl rfl) h0
  refine (calls x0 x1 x2 x3 x4 x5 x6 x7 W hL).mono fun e W' hr => ?_
  obtain ⟨rfl, ho, hb⟩ := hr
  refine ⟨_, rfl, law_post (bt := 4) reads_ok rfl (fun ds hl => ?_) (by kernel_rfl) Tryz.underlying4 (by kernel_rfl) hW' ho hb⟩
  rw [show Tryz.f5.params.size = 1 by kernel_rfl] at hl
  obtain ⟨y0, rfl⟩ := len_1 hl
  rfl
end Go.Proofs.YtpdiaiccnaoaiaaGreatDoor.arrayHarmonics
/-
ArrayHarmonics of the package wooferlaw06 returns true for every input, whatever the world: proved for all arguments, under the conditions that the row and its card name (the package-level tables as laid).
-/
namespace Go.Proofs.YtpdiaiccnaoaiaaGreatDoor.arrayHarmonics
open Go Go.Abs Go.ChangeShapes Go.WideShapes Go.ChangeAt Go.RowKit

/-- The settled world, the tables laid. -/
noncomputable def putTab (A : Heap) (w : World) : World :=
  { w with heap := ((List.range 8).foldl (fun h g => match hget A g with
      | some (.cells cs _ _) => h.modify g fun
        | .cells _ t frozen => .cells cs.toArray t frozen
        | o => o
      | _ => h) w.heap) }
noncomputable def laidWorld (os : Os) : World := putTab heap0 (World.holding Tryz.prog os ⟨#[], #[], []⟩)
theorem laid_met (os : Os) : laidMet Tryz.prog Rows.arrayHarmonicsRow.laid ((laidWorld os).forCall (fun _ _ => 0) ⟨#[], #[.agg #[.int .i64 0, .int .i64 0, .int .i64 0, .int .i64 0, .int .i64 0, .int .i64 0, .int .i64 0, .int .i64 0]], []⟩).memory :=
  laidMet_of_run' 8 (by kernel_rfl) (by kernel_rfl)
theorem reads (os : Os) {H : Type} (enc : TypeId × Value → H) : ∃ places, DataW.whole enc Tryz.prog ((laidWorld os).forCall (fun _ _ => 0) ⟨#[], #[.agg #[.int .i64 0, .int .i64 0, .int .i64 0, .int .i64 0, .int .i64 0, .int .i64 0, .int .i64 0, .int .i64 0]], []⟩).memory Tryz.f5.params.toList Rows.arrayHarmonicsSpec.vars false (#[.agg #[.int .i64 0, .int .i64 0, .int .i64 0, .int .i64 0, .int .i64 0, .int .i64 0, .int .i64 0, .int .i64 0]] : Array Value).toList 8 = some ([.agg [.agg [.lit (.int .i64 0), .lit (.int .i64 0)], .agg [.lit (.int .i64 0), .lit (.int .i64 0)], .agg [.lit (.int .i64 0), .lit (.int .i64 0)], .agg [.lit (.int .i64 0), .lit (.int .i64 0)]]], [], places) :=
  ⟨[], by kernel_rfl⟩

set_option maxRecDepth 100000 in
theorem lifted (os : Os) (started : os.Started) (H : Type) (enc : TypeId × Value → H) (F : Stop.Interp) :
    ReturnsInHanded {} Tryz.checked os 5 .any ((OpenSpec.ofChange Rows.arrayHarmonicsSpec).preRow enc Tryz.prog Tryz.f5 Rows.arrayHarmonicsRow.domain false Rows.arrayHarmonicsRow.laid) (((OpenSpec.ofChange Rows.arrayHarmonicsSpec).at F).post enc Tryz.prog Tryz.f5 false true false false) := by
  obtain ⟨places, hx⟩ := reads os enc
  refine returnsInHanded_of_row (C := Tryz.checked) (s := OpenSpec.ofChange Rows.arrayHarmonicsSpec) own started (by kernel_rfl) Tryz.func5
    (witness_row_at (enc := enc) (C := Tryz.checked) false (laidWorld os) #[.agg #[.int .i64 0, .int .i64 0, .int .i64 0, .int .i64 0, .int .i64 0, .int .i64 0, .int .i64 0, .int .i64 0]] rfl (by kernel_rfl) (by kernel_rfl) (by kernel_rfl)
      (OpenSpec.preRow_of_cond 8 hx (by kernel_rfl) (fun k hk => by cases hk) (by kernel_rfl) (laid_met os))) ?_
  intro W base args ds gs before hval hW _ _ _ hL _ _
  exact contract H enc W base args ds gs before hval hW hL

theorem said : Rows.ArrayHarmonicsSaid :=
  OpenClaim.holds_of_cond 5 Tryz.f5 rfl rfl rfl rfl rfl rfl rfl ⟨rfl, rfl, rfl, rfl, rfl⟩ rfl rfl rfl rfl rfl (by kernel_rfl) Tryz.func5 (by kernel_rfl)
    (of_decide_eq_true (by kernel_rfl)) (by unfold Func.isWrapper; first | (rw [if_pos (by decide +kernel)]; kernel_rfl) | (rw [if_neg (by decide +kernel)]; exact ⟨rfl, rfl⟩))
    (fun os started H enc _ F => by rw [OpenClaim.pre_eq_preRow]; exact lifted os started H enc F)

theorem plain (f : FuncId) (fn : Func) (hf : Tryz.pinned.checked.prog.funcNamed "woofer/wooferlaw06.ArrayHarmonics" = some f) (hfn : Tryz.pinned.checked.prog.funcs[f]? = some fn) :
    false = Tryz.pinned.checked.prog.looks [] ∧ ∀ (j : Nat) t, fn.params[j]? = some t → Tryz.pinned.checked.prog.wantsStandIn t = false := by
  obtain rfl : f = 5 := Option.some.inj ((show Tryz.prog.funcNamed "woofer/wooferlaw06.ArrayHarmonics" = some 5 by kernel_rfl).symm.trans hf) |>.symm
  obtain rfl : fn = Tryz.f5 := (Option.some.inj (Tryz.func5.symm.trans hfn)).symm
  refine ⟨by kernel_rfl, fun j t ht => ?_⟩
  rw [Tryz.params5] at ht
  have hm := Array.mem_of_getElem? ht
  simp only [List.mem_toArray, List.mem_cons, List.not_mem_nil, or_false] at hm
  rcases hm with rfl
  · exact (show Tryz.prog.wantsStandIn 72 = false by kernel_rfl)

theorem card : Rows.ArrayHarmonicsCardSaid :=
  Claim7.holds_tied_plain_at .later [] _ _ _ _ said (fun _ h => by cases h) (by kernel_rfl) (fun _ h => by cases h) arrayHarmonics_row_tie rfl ⟨rfl, rfl⟩ (by kernel_rfl) rfl plain (by kernel_rfl)
end Go.Proofs.YtpdiaiccnaoaiaaGreatDoor.arrayHarmonics
