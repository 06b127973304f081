/-
DriverLaws of the package wooferlaw03 returns true for every input, whatever the world: proved for all arguments, under the conditions that the row and its card name (the package-level tables as laid).
-/
import Derived.Test.YtkndhhnjgpialaaGreatDoorMb8
import Derived.Test.YtkndhhnjgpialaaGreatDoorMb7
import Derived.Test.YtkndhhnjgpialaaGreatDoorMb6
import Derived.Test.YtkndhhnjgpialaaGreatDoorCards
import Derived.Test.YtkndhhnjgpialaaGreatDoorTie
import Derived.WalkKit
import Derived.ProofKit
import Derived.OpenShut
import Derived.Deep.DeepHandedRow
import Derived.Lib.LaidTab
import Derived.MakeChecks
set_option linter.unusedVariables false
set_option linter.unusedSimpArgs false
set_option linter.unusedSectionVars false
/-
What functions give.
-/
namespace Go.Proofs.YtkndhhnjgpialaaGreatDoor
open Go Go.Abs
def f81_c0 (a : Int) (b : Int) (c : Int) (d : Int) : Bool := decide ((if IntKind.i64.wrap (0 - b) > if b > if IntKind.i64.wrap (0 - a) > a then IntKind.i64.wrap (0 - a) else a then b else if IntKind.i64.wrap (0 - a) > a then IntKind.i64.wrap (0 - a) else a then IntKind.i64.wrap (0 - b) else if b > if IntKind.i64.wrap (0 - a) > a then IntKind.i64.wrap (0 - a) else a then b else if IntKind.i64.wrap (0 - a) > a then IntKind.i64.wrap (0 - a) else a) > 1099511627776)
def f81_c1 (a : Int) (b : Int) (c : Int) (d : Int) : Bool := decide ((if b < a then b else a) < -1099511627776)
def f81_c2 (a : Int) (b : Int) (c : Int) (d : Int) : Bool := decide ((if IntKind.i64.wrap (0 - d) > if d > if IntKind.i64.wrap (0 - c) > c then IntKind.i64.wrap (0 - c) else c then d else if IntKind.i64.wrap (0 - c) > c then IntKind.i64.wrap (0 - c) else c then IntKind.i64.wrap (0 - d) else if d > if IntKind.i64.wrap (0 - c) > c then IntKind.i64.wrap (0 - c) else c then d else if IntKind.i64.wrap (0 - c) > c then IntKind.i64.wrap (0 - c) else c) > 1099511627776)
def f81_c3 (a : Int) (b : Int) (c : Int) (d : Int) : Bool := decide ((if d < c then d else c) < -1099511627776)
theorem f81_p0 (a : Int) (b : Int) (c : Int) (d : Int) (h0 : f81_c0 a b c d = true) : Gives Tryz.prog envFm 0 81 [(.agg #[(.int .i64 (a)), (.int .i64 (b)), (.int .i64 (c)), (.int .i64 (d))])] heapN ((.bool false), heapN) :=
  Gives.by (n := 1000) (os := [.br 81 52 true, .br 81 52 true, .br 81 52 true, .br 81 52 true, .br 81 52 true, .br 81 52 true, .br 81 67 true]) (os' := []) (by kernel_rfl) (ObsOK.cond h0 (ObsOK.cond h0 (ObsOK.cond h0 (ObsOK.cond h0 (ObsOK.cond h0 (ObsOK.cond h0 (ObsOK.cond h0 (ObsOK.nil))))))))
theorem f81_p1 (a : Int) (b : Int) (c : Int) (d : Int) (h0 : f81_c0 a b c d = false) (h1 : f81_c1 a b c d = true) : Gives Tryz.prog envFm 0 81 [(.agg #[(.int .i64 (a)), (.int .i64 (b)), (.int .i64 (c)), (.int .i64 (d))])] heapN ((.bool false), heapN) :=
  Gives.by (n := 1000) (os := [.br 81 52 false, .br 81 52 false, .br 81 52 false, .br 81 52 false, .br 81 52 false, .br 81 52 false, .br 81 67 false, .br 81 66 true]) (os' := []) (by kernel_rfl) (ObsOK.cond h0 (ObsOK.cond h0 (ObsOK.cond h0 (ObsOK.cond h0 (ObsOK.cond h0 (ObsOK.cond h0 (ObsOK.cond h0 (ObsOK.cond h1 (ObsOK.nil)))))))))
theorem f81_p2 (a : Int) (b : Int) (c : Int) (d : Int) (h0 : f81_c0 a b c d = false) (h1 : f81_c1 a b c d = false) (h2 : f81_c2 a b c d = true) : Gives Tryz.prog envFm 0 81 [(.agg #[(.int .i64 (a)), (.int .i64 (b)), (.int .i64 (c)), (.int .i64 (d))])] heapN ((.bool false), heapN) :=
  Gives.by (n := 1000) (os := [.br 81 52 false, .br 81 52 false, .br 81 52 false, .br 81 52 false, .br 81 52 false, .br 81 52 false, .br 81 67 false, .br 81 66 false, .br 81 52 true, .br 81 52 true, .br 81 52 true, .br 81 52 true, .br 81 52 true, .br 81 52 true, .br 81 67 true]) (os' := []) (by kernel_rfl) (ObsOK.cond h0 (ObsOK.cond h0 (ObsOK.cond h0 (ObsOK.cond h0 (ObsOK.cond h0 (ObsOK.cond h0 (ObsOK.cond h0 (ObsOK.cond h1 (ObsOK.cond h2 (ObsOK.cond h2 (ObsOK.cond h2 (ObsOK.cond h2 (ObsOK.cond h2 (ObsOK.cond h2 (ObsOK.cond h2 (ObsOK.nil))))))))))))))))
theorem f81_p3 (a : Int) (b : Int) (c : Int) (d : Int) (h0 : f81_c0 a b c d = false) (h1 : f81_c1 a b c d = false) (h2 : f81_c2 a b c d = false) (h3 : f81_c3 a b c d = true) : Gives Tryz.prog envFm 0 81 [(.agg #[(.int .i64 (a)), (.int .i64 (b)), (.int .i64 (c)), (.int .i64 (d))])] heapN ((.bool false), heapN) :=
  Gives.by (n := 1000) (os := [.br 81 52 false, .br 81 52 false, .br 81 52 false, .br 81 52 false, .br 81 52 false, .br 81 52 false, .br 81 67 false, .br 81 66 false, .br 81 52 false, .br 81 52 false, .br 81 52 false, .br 81 52 false, .br 81 52 false, .br 81 52 false, .br 81 67 false, .br 81 66 true]) (os' := []) (by kernel_rfl) (ObsOK.cond h0 (ObsOK.cond h0 (ObsOK.cond h0 (ObsOK.cond h0 (ObsOK.cond h0 (ObsOK.cond h0 (ObsOK.cond h0 (ObsOK.cond h1 (ObsOK.cond h2 (ObsOK.cond h2 (ObsOK.cond h2 (ObsOK.cond h2 (ObsOK.cond h2 (ObsOK.cond h2 (ObsOK.cond h2 (ObsOK.cond h3 (ObsOK.nil)))))))))))))))))
theorem f81_p4 (a : Int) (b : Int) (c : Int) (d : Int) (h0 : f81_c0 a b c d = false) (h1 : f81_c1 a b c d = false) (h2 : f81_c2 a b c d = false) (h3 : f81_c3 a b c d = false) : Gives Tryz.prog envFm 0 81 [(.agg #[(.int .i64 (a)), (.int .i64 (b)), (.int .i64 (c)), (.int .i64 (d))])] heapN ((.bool true), heapN) :=
  Gives.by (n := 1000) (os := [.br 81 52 false, .br 81 52 false, .br 81 52 false, .br 81 52 false, .br 81 52 false, .br 81 52 false, .br 81 67 false, .br 81 66 false, .br 81 52 false, .br 81 52 false, .br 81 52 false, .br 81 52 false, .br 81 52 false, .br 81 52 false, .br 81 67 false, .br 81 66 false]) (os' := []) (by kernel_rfl) (ObsOK.cond h0 (ObsOK.cond h0 (ObsOK.cond h0 (ObsOK.cond h0 (ObsOK.cond h0 (ObsOK.cond h0 (ObsOK.cond h0 (ObsOK.cond h1 (ObsOK.cond h2 (ObsOK.cond h2 (ObsOK.cond h2 (ObsOK.cond h2 (ObsOK.cond h2 (ObsOK.cond h2 (ObsOK.cond h2 (ObsOK.cond h3 (ObsOK.nil)))))))))))))))))
def f81_r0 (a : Int) (b : Int) (c : Int) (d : Int) : Bool := (cond (f81_c0 a b c d) (false) (cond (f81_c1 a b c d) (false) (cond (f81_c2 a b c d) (false) (cond (f81_c3 a b c d) (false) (true)))))
theorem f81_gives (a : Int) (b : Int) (c : Int) (d : Int) : Gives Tryz.prog envFm 0 81 [(.agg #[(.int .i64 (a)), (.int .i64 (b)), (.int .i64 (c)), (.int .i64 (d))])] heapN ((.bool (f81_r0 a b c d)), heapN) := by
  cases g0 : f81_c0 a b c d
  · skip
    cases g1 : f81_c1 a b c d
    · skip
      cases g2 : f81_c2 a b c d
      · skip
        cases g3 : f81_c3 a b c d
        · skip
          simp only [f81_r0, g0, g1, g2, g3, cond_true, cond_false]; exact f81_p4 a b c d g0 g1 g2 g3
        · skip
          simp only [f81_r0, g0, g1, g2, g3, cond_true, cond_false]; exact f81_p3 a b c d g0 g1 g2 g3
      · skip
        simp only [f81_r0, g0, g1, g2, cond_true, cond_false]; exact f81_p2 a b c d g0 g1 g2
    · skip
      simp only [f81_r0, g0, g1, cond_true, cond_false]; exact f81_p1 a b c d g0 g1
  · skip
    simp only [f81_r0, g0, cond_true, cond_false]; exact f81_p0 a b c d g0
theorem f85_p0 (a : Int) (b : Int) (c : Int) (d : Int) : Gives Tryz.prog envFm 0 85 [(.int .i64 (a)), (.int .i64 (b)), (.int .i64 (c)), (.int .i64 (d))] heapN ((.agg #[(.int .i64 a), (.int .i64 b), (.int .i64 c), (.int .i64 d)]), heapN) :=
  Gives.by (n := 1000) (os := []) (os' := []) (by kernel_rfl) (ObsOK.nil)
theorem f85_gives (a : Int) (b : Int) (c : Int) (d : Int) : Gives Tryz.prog envFm 0 85 [(.int .i64 (a)), (.int .i64 (b)), (.int .i64 (c)), (.int .i64 (d))] heapN ((.agg #[(.int .i64 (a)), (.int .i64 (b)), (.int .i64 (c)), (.int .i64 (d))]), heapN) := by
  exact f85_p0 a b c d
def B_envRa (f : FuncId) (args : List Value) : Option (Heap × Value) :=
  if f == 81 then
    match args with
    | [(.agg ⟨[(.int .i64 (a)), (.int .i64 (b)), (.int .i64 (c)), (.int .i64 (d))]⟩)] => some (heapN, (.bool (f81_r0 a b c d)))
    | _ => none
  else  if f == 85 then
    match args with
    | [(.int .i64 (a)), (.int .i64 (b)), (.int .i64 (c)), (.int .i64 (d))] => some (heapN, (.agg #[(.int .i64 (a)), (.int .i64 (b)), (.int .i64 (c)), (.int .i64 (d))]))
    | _ => none
  else none
noncomputable def envRa : Env := envFm.with (baseKnown B_envRa)
theorem envRa_ok : EnvOK Tryz.prog 9 envRa := env_base prog_ok envFm_ok fun f args H v h => by
  unfold B_envRa at h
  split at h
  · rename_i hf
    have hf : f = 81 := by simpa using hf
    subst hf
    split at h
    · cases h; exact heapN_ok (f81_gives _ _ _ _)
    · cases h
  · skip
    split at h
    · rename_i hf
      have hf : f = 85 := by simpa using hf
      subst hf
      split at h
      · cases h; exact heapN_ok (f85_gives _ _ _ _)
      · cases h
    · skip
      cases h
end Go.Proofs.YtkndhhnjgpialaaGreatDoor
/-
DriverLaws, led through its cases.
-/
namespace Go.Proofs.YtkndhhnjgpialaaGreatDoor
open Go Go.Abs
def laTTT_c0 (a : Int) (b : Int) (c : Int) (d : Int) (e : Int) (f : Int) (g : Int) (h : Int) (i : Int) (j : Int) (w : Int) : Bool := f35_r4 a b c d e f g h i j w == 0 && (f35_r5 a b c d e f g h i j w == 0 && true) && (f35_r6 a b c d e f g h i j w == 1 && (f35_r7 a b c d e f g h i j w == 0 && true) && true)
def laTTT_c1 (a : Int) (b : Int) (c : Int) (d : Int) (e : Int) (f : Int) (g : Int) (h : Int) (i : Int) (j : Int) (w : Int) : Bool := f34_r0 a b c d e f g h i j w == IntKind.i64.wrap (IntKind.i64.wrap (IntKind.i64.wrap (0 - w) * w) * f35_r0 a b c d e f g h i j w) && (f34_r1 a b c d e f g h i j w == IntKind.i64.wrap (IntKind.i64.wrap (IntKind.i64.wrap (0 - w) * w) * f35_r1 a b c d e f g h i j w) && true)
theorem laTTT_p0 (a : Int) (b : Int) (c : Int) (d : Int) (e : Int) (f : Int) (g : Int) (h : Int) (i : Int) (j : Int) (w : Int) (hd : (dErr a b c d e f != 0) = false) (hb : (bErr g h i j != 0) = false) (hw : (wErr w != 0) = false) (kK : (decide (IntKind.i64.wrap (IntKind.i64.wrap (w * w) * d) ≤ 5000)) = true) (kC : (f44_r6 a b c d e f g == 0) = true) (kM : (h == 0) = true) (u0 : (IntKind.i64.wrap (IntKind.i64.wrap (IntKind.i64.wrap (IntKind.i64.wrap (IntKind.i64.wrap (f17_r4 a b c d e f w + f18_r4 a b c d e f w) + f19_r4 a b c d e f w) + f33_r4 a b c d e f g h i j w) + f35_r8 a b c d e f g h i j w) + f34_r4 a b c d e f g h i j w) != 0) = false) (u1 : (!f81_r0 (f17_r0 a b c d e f w) (f17_r1 a b c d e f w) (f17_r2 a b c d e f w) (f17_r3 a b c d e f w)) = false) (u2 : (!f81_r0 (f18_r0 a b c d e f w) (f18_r1 a b c d e f w) (f18_r2 a b c d e f w) (f18_r3 a b c d e f w)) = false) (u3 : (!f81_r0 (f19_r0 a b c d e f w) (f19_r1 a b c d e f w) (f19_r2 a b c d e f w) (f19_r3 a b c d e f w)) = false) (u4 : (!f81_r0 (f33_r0 a b c d e f g h i j w) (f33_r1 a b c d e f g h i j w) (f33_r2 a b c d e f g h i j w) (f33_r3 a b c d e f g h i j w)) = false) (u5 : (!f81_r0 (f35_r0 a b c d e f g h i j w) (f35_r1 a b c d e f g h i j w) (f35_r2 a b c d e f g h i j w) (f35_r3 a b c d e f g h i j w)) = false) (u6 : (!f81_r0 (f35_r4 a b c d e f g h i j w) (f35_r5 a b c d e f g h i j w) (f35_r6 a b c d e f g h i j w) (f35_r7 a b c d e f g h i j w)) = false) (u7 : (!f81_r0 (f34_r0 a b c d e f g h i j w) (f34_r1 a b c d e f g h i j w) (f34_r2 a b c d e f g h i j w) (f34_r3 a b c d e f g h i j w)) = false) (u8 : (f17_r2 a b c d e f w == 0 && (f17_r3 a b c d e f w == 0 && true)) = false) (u9 : (f18_r2 a b c d e f w == 0 && (f18_r3 a b c d e f w == 0 && true)) = false) (u10 : (!(f19_r0 a b c d e f w == IntKind.i64.wrap (IntKind.i64.wrap (IntKind.i64.wrap (0 - w) * w) * f18_r0 a b c d e f w) && (f19_r1 a b c d e f w == IntKind.i64.wrap (IntKind.i64.wrap (IntKind.i64.wrap (0 - w) * w) * f18_r1 a b c d e f w) && true))) = false) (u11 : (!(f19_r2 a b c d e f w == f18_r2 a b c d e f w && (f19_r3 a b c d e f w == f18_r3 a b c d e f w && true))) = false) (u12 : (!(f33_r0 a b c d e f g h i j w == f35_r2 a b c d e f g h i j w && (f33_r1 a b c d e f g h i j w == f35_r3 a b c d e f g h i j w && true))) = false) (u13 : (decide (f82_r0 (f17_r0 a b c d e f w) (f17_r1 a b c d e f w) (f17_r2 a b c d e f w) (f83_r1 (f17_r2 a b c d e f w) (f17_r3 a b c d e f w)) < IntKind.i64.wrap (a * f84_r0 (f17_r2 a b c d e f w) (f17_r3 a b c d e f w)))) = false) (q0 : (f16_r2 a b c d (IntKind.i64.wrap (IntKind.i64.wrap (w * w) * d)) f w != 0) = false) (q1 : (!(f16_r0 a b c d (IntKind.i64.wrap (IntKind.i64.wrap (w * w) * d)) f w == 0 && (f16_r1 a b c d (IntKind.i64.wrap (IntKind.i64.wrap (w * w) * d)) f w == IntKind.i64.wrap (w * f) && true))) = false) (q2 : (f17_r4 (f44_r0 a b c d e f g) (f44_r1 a b c d e f g) (f44_r2 a b c d e f g) (f44_r3 a b c d e f g) (f44_r4 a b c d e f g) (f44_r5 a b c d e f g) w != 0) = false) (q3 : (f33_r4 a b c d e f g 0 0 0 w != 0) = false) (q4 : (!(f17_r0 (f44_r0 a b c d e f g) (f44_r1 a b c d e f g) (f44_r2 a b c d e f g) (f44_r3 a b c d e f g) (f44_r4 a b c d e f g) (f44_r5 a b c d e f g) w == f33_r0 a b c d e f g 0 0 0 w && (f17_r1 (f44_r0 a b c d e f g) (f44_r1 a b c d e f g) (f44_r2 a b c d e f g) (f44_r3 a b c d e f g) (f44_r4 a b c d e f g) (f44_r5 a b c d e f g) w == f33_r1 a b c d e f g 0 0 0 w && true) && (f17_r2 (f44_r0 a b c d e f g) (f44_r1 a b c d e f g) (f44_r2 a b c d e f g) (f44_r3 a b c d e f g) (f44_r4 a b c d e f g) (f44_r5 a b c d e f g) w == f33_r2 a b c d e f g 0 0 0 w && (f17_r3 (f44_r0 a b c d e f g) (f44_r1 a b c d e f g) (f44_r2 a b c d e f g) (f44_r3 a b c d e f g) (f44_r4 a b c d e f g) (f44_r5 a b c d e f g) w == f33_r3 a b c d e f g 0 0 0 w && true) && true))) = false) (h0 : laTTT_c0 a b c d e f g h i j w = true) (h1 : laTTT_c1 a b c d e f g h i j w = true) : Gives Tryz.prog envRa 0 11 [(.agg #[(.int .i64 (a)), (.int .i64 (b)), (.int .i64 (c)), (.int .i64 (d)), (.int .i64 (e)), (.int .i64 (f))]), (.agg #[(.int .i64 (g)), (.int .i64 (h)), (.int .i64 (i)), (.int .i64 (j))]), (.int .i64 (w))] heap0 ((.bool (f34_r2 a b c d e f g h i j w == f35_r2 a b c d e f g h i j w && (f34_r3 a b c d e f g h i j w == f35_r3 a b c d e f g h i j w && true))), heap0) :=
  Gives.by (n := 1000) (os := [.br 11 76 false, .br 11 76 false, .br 11 76 false, .br 11 85 false, .br 11 86 false, .br 11 86 false, .br 11 86 false, .br 11 95 false, .br 11 94 false, .br 11 200 false, .br 11 200 false, .br 11 200 false, .br 11 209 false, .br 11 210 false, .br 11 210 false, .br 11 210 false, .br 11 219 false, .br 11 220 false, .br 11 220 false, .br 11 220 false, .br 11 229 false, .br 11 230 false, .br 11 230 false, .br 11 230 false, .br 11 239 false, .br 11 240 false, .br 11 240 false, .br 11 240 false, .br 11 240 false, .br 11 251 false, .br 11 252 false, .br 11 252 false, .br 11 252 false, .br 11 252 false, .br 11 263 false, .br 11 264 false, .br 11 264 false, .br 11 264 false, .br 11 273 false, .br 11 272 false, .br 11 282 false, .br 11 282 false, .br 11 282 false, .br 11 282 false, .br 11 293 false, .br 11 294 false, .br 11 294 false, .br 11 294 false, .br 11 294 false, .br 11 294 false, .br 11 294 false, .br 11 294 false, .br 11 294 false, .br 11 294 false, .br 11 294 false, .br 11 294 false, .br 11 294 false, .br 11 294 false, .br 11 294 false, .br 11 294 false, .br 11 294 false, .br 11 294 false, .br 11 294 false, .br 11 294 false, .br 11 294 false, .br 11 337 false, .br 11 338 false, .br 11 338 false, .br 11 338 false, .br 11 338 false, .br 11 338 false, .br 11 351 false, .br 11 352 false, .br 11 352 false, .br 11 352 false, .br 11 352 false, .br 11 352 false, .br 11 365 false, .br 11 366 false, .br 11 366 false, .br 11 366 false, .br 11 366 false, .br 11 366 false, .br 11 366 false, .br 11 381 false, .br 11 380 false, .br 11 408 false, .br 11 424 true, .br 11 448 false, .br 11 448 false, .br 11 448 false, .br 11 448 false, .br 11 448 false, .br 11 448 false, .br 11 448 false, .br 11 465 false, .br 11 464 false, .br 11 482 true, .br 11 518 false, .br 11 518 false, .br 11 525 false, .br 11 526 false, .br 11 526 false, .br 11 526 false, .br 11 535 false, .br 11 534 false, .br 11 560 true, .br 11 570 true, .br 11 570 true, .br 11 570 true, .br 11 570 true, .br 11 570 true, .br 11 570 true, .br 11 570 true, .br 11 570 true, .br 11 570 true, .br 11 570 true, .br 11 570 true, .br 11 570 true, .br 11 570 true, .br 11 570 true, .br 11 570 true, .br 11 570 true, .br 11 570 true, .br 11 570 true, .br 11 570 true, .br 11 570 true, .br 11 570 true, .br 11 570 true, .br 11 617 true, .br 11 618 true, .br 11 618 true, .br 11 618 true, .br 11 618 true, .br 11 618 true, .br 11 618 true, .br 11 633 true]) (os' := []) (by kernel_rfl) (ObsOK.cond hd (ObsOK.cond hd (ObsOK.cond hd (ObsOK.cond hd (ObsOK.cond hb (ObsOK.cond hb (ObsOK.cond hb (ObsOK.cond hb (ObsOK.cond hw (ObsOK.cond u0 (ObsOK.cond u0 (ObsOK.cond u0 (ObsOK.cond u0 (ObsOK.cond u1 (ObsOK.cond u1 (ObsOK.cond u1 (ObsOK.cond u1 (ObsOK.cond u2 (ObsOK.cond u2 (ObsOK.cond u2 (ObsOK.cond u2 (ObsOK.cond u3 (ObsOK.cond u3 (ObsOK.cond u3 (ObsOK.cond u3 (ObsOK.cond u4 (ObsOK.cond u4 (ObsOK.cond u4 (ObsOK.cond u4 (ObsOK.cond u4 (ObsOK.cond u5 (ObsOK.cond u5 (ObsOK.cond u5 (ObsOK.cond u5 (ObsOK.cond u5 (ObsOK.cond u6 (ObsOK.cond u6 (ObsOK.cond u6 (ObsOK.cond u6 (ObsOK.cond u7 (ObsOK.cond u8 (ObsOK.cond u8 (ObsOK.cond u8 (ObsOK.cond u8 (ObsOK.cond u8 (ObsOK.cond u9 (ObsOK.cond u9 (ObsOK.cond u9 (ObsOK.cond u9 (ObsOK.cond u9 (ObsOK.cond u9 (ObsOK.cond u9 (ObsOK.cond u9 (ObsOK.cond u9 (ObsOK.cond u9 (ObsOK.cond u9 (ObsOK.cond u9 (ObsOK.cond u9 (ObsOK.cond u9 (ObsOK.cond u9 (ObsOK.cond u9 (ObsOK.cond u9 (ObsOK.cond u9 (ObsOK.cond u9 (ObsOK.cond u9 (ObsOK.cond u9 (ObsOK.cond u10 (ObsOK.cond u10 (ObsOK.cond u10 (ObsOK.cond u10 (ObsOK.cond u10 (ObsOK.cond u10 (ObsOK.cond u11 (ObsOK.cond u11 (ObsOK.cond u11 (ObsOK.cond u11 (ObsOK.cond u11 (ObsOK.cond u11 (ObsOK.cond u11 (ObsOK.cond u11 (ObsOK.cond u11 (ObsOK.cond u11 (ObsOK.cond u11 (ObsOK.cond u11 (ObsOK.cond u11 (ObsOK.cond u12 (ObsOK.cond u13 (ObsOK.cond kK (ObsOK.cond q0 (ObsOK.cond q0 (ObsOK.cond q0 (ObsOK.cond q0 (ObsOK.cond q0 (ObsOK.cond q0 (ObsOK.cond q0 (ObsOK.cond q0 (ObsOK.cond q1 (ObsOK.cond kC (ObsOK.cond q2 (ObsOK.cond q2 (ObsOK.cond q2 (ObsOK.cond q3 (ObsOK.cond q3 (ObsOK.cond q3 (ObsOK.cond q3 (ObsOK.cond q4 (ObsOK.cond kM (ObsOK.cond h0 (ObsOK.cond h0 (ObsOK.cond h0 (ObsOK.cond h0 (ObsOK.cond h0 (ObsOK.cond h0 (ObsOK.cond h0 (ObsOK.cond h0 (ObsOK.cond h0 (ObsOK.cond h0 (ObsOK.cond h0 (ObsOK.cond h0 (ObsOK.cond h0 (ObsOK.cond h0 (ObsOK.cond h0 (ObsOK.cond h0 (ObsOK.cond h0 (ObsOK.cond h0 (ObsOK.cond h0 (ObsOK.cond h0 (ObsOK.cond h0 (ObsOK.cond h0 (ObsOK.cond h0 (ObsOK.cond h1 (ObsOK.cond h1 (ObsOK.cond h1 (ObsOK.cond h1 (ObsOK.cond h1 (ObsOK.cond h1 (ObsOK.cond h1 (ObsOK.nil))))))))))))))))))))))))))))))))))))))))))))))))))))))))))))))))))))))))))))))))))))))))))))))))))))))))))))))))))))))))))))))))))))))))))
def laTTF_c0 (a : Int) (b : Int) (c : Int) (d : Int) (e : Int) (f : Int) (g : Int) (h : Int) (i : Int) (j : Int) (w : Int) : Bool := f35_r6 a b c d e f g h i j w == f35_r2 a b c d e f g h i j w && (f35_r7 a b c d e f g h i j w == f35_r3 a b c d e f g h i j w && true)
def laTTF_c1 (a : Int) (b : Int) (c : Int) (d : Int) (e : Int) (f : Int) (g : Int) (h : Int) (i : Int) (j : Int) (w : Int) : Bool := f34_r2 a b c d e f g h i j w == f35_r2 a b c d e f g h i j w && (f34_r3 a b c d e f g h i j w == f35_r3 a b c d e f g h i j w && true)
theorem laTTF_p0 (a : Int) (b : Int) (c : Int) (d : Int) (e : Int) (f : Int) (g : Int) (h : Int) (i : Int) (j : Int) (w : Int) (hd : (dErr a b c d e f != 0) = false) (hb : (bErr g h i j != 0) = false) (hw : (wErr w != 0) = false) (kK : (decide (IntKind.i64.wrap (IntKind.i64.wrap (w * w) * d) ≤ 5000)) = true) (kC : (f44_r6 a b c d e f g == 0) = true) (kM : (h == 0) = false) (u0 : (IntKind.i64.wrap (IntKind.i64.wrap (IntKind.i64.wrap (IntKind.i64.wrap (IntKind.i64.wrap (f17_r4 a b c d e f w + f18_r4 a b c d e f w) + f19_r4 a b c d e f w) + f33_r4 a b c d e f g h i j w) + f35_r8 a b c d e f g h i j w) + f34_r4 a b c d e f g h i j w) != 0) = false) (u1 : (!f81_r0 (f17_r0 a b c d e f w) (f17_r1 a b c d e f w) (f17_r2 a b c d e f w) (f17_r3 a b c d e f w)) = false) (u2 : (!f81_r0 (f18_r0 a b c d e f w) (f18_r1 a b c d e f w) (f18_r2 a b c d e f w) (f18_r3 a b c d e f w)) = false) (u3 : (!f81_r0 (f19_r0 a b c d e f w) (f19_r1 a b c d e f w) (f19_r2 a b c d e f w) (f19_r3 a b c d e f w)) = false) (u4 : (!f81_r0 (f33_r0 a b c d e f g h i j w) (f33_r1 a b c d e f g h i j w) (f33_r2 a b c d e f g h i j w) (f33_r3 a b c d e f g h i j w)) = false) (u5 : (!f81_r0 (f35_r0 a b c d e f g h i j w) (f35_r1 a b c d e f g h i j w) (f35_r2 a b c d e f g h i j w) (f35_r3 a b c d e f g h i j w)) = false) (u6 : (!f81_r0 (f35_r4 a b c d e f g h i j w) (f35_r5 a b c d e f g h i j w) (f35_r6 a b c d e f g h i j w) (f35_r7 a b c d e f g h i j w)) = false) (u7 : (!f81_r0 (f34_r0 a b c d e f g h i j w) (f34_r1 a b c d e f g h i j w) (f34_r2 a b c d e f g h i j w) (f34_r3 a b c d e f g h i j w)) = false) (u8 : (f17_r2 a b c d e f w == 0 && (f17_r3 a b c d e f w == 0 && true)) = false) (u9 : (f18_r2 a b c d e f w == 0 && (f18_r3 a b c d e f w == 0 && true)) = false) (u10 : (!(f19_r0 a b c d e f w == IntKind.i64.wrap (IntKind.i64.wrap (IntKind.i64.wrap (0 - w) * w) * f18_r0 a b c d e f w) && (f19_r1 a b c d e f w == IntKind.i64.wrap (IntKind.i64.wrap (IntKind.i64.wrap (0 - w) * w) * f18_r1 a b c d e f w) && true))) = false) (u11 : (!(f19_r2 a b c d e f w == f18_r2 a b c d e f w && (f19_r3 a b c d e f w == f18_r3 a b c d e f w && true))) = false) (u12 : (!(f33_r0 a b c d e f g h i j w == f35_r2 a b c d e f g h i j w && (f33_r1 a b c d e f g h i j w == f35_r3 a b c d e f g h i j w && true))) = false) (u13 : (decide (f82_r0 (f17_r0 a b c d e f w) (f17_r1 a b c d e f w) (f17_r2 a b c d e f w) (f83_r1 (f17_r2 a b c d e f w) (f17_r3 a b c d e f w)) < IntKind.i64.wrap (a * f84_r0 (f17_r2 a b c d e f w) (f17_r3 a b c d e f w)))) = false) (q0 : (f16_r2 a b c d (IntKind.i64.wrap (IntKind.i64.wrap (w * w) * d)) f w != 0) = false) (q1 : (!(f16_r0 a b c d (IntKind.i64.wrap (IntKind.i64.wrap (w * w) * d)) f w == 0 && (f16_r1 a b c d (IntKind.i64.wrap (IntKind.i64.wrap (w * w) * d)) f w == IntKind.i64.wrap (w * f) && true))) = false) (q2 : (f17_r4 (f44_r0 a b c d e f g) (f44_r1 a b c d e f g) (f44_r2 a b c d e f g) (f44_r3 a b c d e f g) (f44_r4 a b c d e f g) (f44_r5 a b c d e f g) w != 0) = false) (q3 : (f33_r4 a b c d e f g 0 0 0 w != 0) = false) (q4 : (!(f17_r0 (f44_r0 a b c d e f g) (f44_r1 a b c d e f g) (f44_r2 a b c d e f g) (f44_r3 a b c d e f g) (f44_r4 a b c d e f g) (f44_r5 a b c d e f g) w == f33_r0 a b c d e f g 0 0 0 w && (f17_r1 (f44_r0 a b c d e f g) (f44_r1 a b c d e f g) (f44_r2 a b c d e f g) (f44_r3 a b c d e f g) (f44_r4 a b c d e f g) (f44_r5 a b c d e f g) w == f33_r1 a b c d e f g 0 0 0 w && true) && (f17_r2 (f44_r0 a b c d e f g) (f44_r1 a b c d e f g) (f44_r2 a b c d e f g) (f44_r3 a b c d e f g) (f44_r4 a b c d e f g) (f44_r5 a b c d e f g) w == f33_r2 a b c d e f g 0 0 0 w && (f17_r3 (f44_r0 a b c d e f g) (f44_r1 a b c d e f g) (f44_r2 a b c d e f g) (f44_r3 a b c d e f g) (f44_r4 a b c d e f g) (f44_r5 a b c d e f g) w == f33_r3 a b c d e f g 0 0 0 w && true) && true))) = false) (h0 : laTTF_c0 a b c d e f g h i j w = true) (h1 : laTTF_c1 a b c d e f g h i j w = true) : Gives Tryz.prog envRa 0 11 [(.agg #[(.int .i64 (a)), (.int .i64 (b)), (.int .i64 (c)), (.int .i64 (d)), (.int .i64 (e)), (.int .i64 (f))]), (.agg #[(.int .i64 (g)), (.int .i64 (h)), (.int .i64 (i)), (.int .i64 (j))]), (.int .i64 (w))] heap0 ((.bool (f34_r0 a b c d e f g h i j w == IntKind.i64.wrap (IntKind.i64.wrap (IntKind.i64.wrap (0 - w) * w) * f86_r0 (f35_r0 a b c d e f g h i j w) (f35_r1 a b c d e f g h i j w) (f35_r4 a b c d e f g h i j w) (f35_r5 a b c d e f g h i j w)) && (f34_r1 a b c d e f g h i j w == IntKind.i64.wrap (IntKind.i64.wrap (IntKind.i64.wrap (0 - w) * w) * f86_r1 (f35_r0 a b c d e f g h i j w) (f35_r1 a b c d e f g h i j w) (f35_r4 a b c d e f g h i j w) (f35_r5 a b c d e f g h i j w)) && true))), heap0) :=
  Gives.by (n := 1000) (os := [.br 11 76 false, .br 11 76 false, .br 11 76 false, .br 11 85 false, .br 11 86 false, .br 11 86 false, .br 11 86 false, .br 11 95 false, .br 11 94 false, .br 11 200 false, .br 11 200 false, .br 11 200 false, .br 11 209 false, .br 11 210 false, .br 11 210 false, .br 11 210 false, .br 11 219 false, .br 11 220 false, .br 11 220 false, .br 11 220 false, .br 11 229 false, .br 11 230 false, .br 11 230 false, .br 11 230 false, .br 11 239 false, .br 11 240 false, .br 11 240 false, .br 11 240 false, .br 11 240 false, .br 11 251 false, .br 11 252 false, .br 11 252 false, .br 11 252 false, .br 11 252 false, .br 11 263 false, .br 11 264 false, .br 11 264 false, .br 11 264 false, .br 11 273 false, .br 11 272 false, .br 11 282 false, .br 11 282 false, .br 11 282 false, .br 11 282 false, .br 11 293 false, .br 11 294 false, .br 11 294 false, .br 11 294 false, .br 11 294 false, .br 11 294 false, .br 11 294 false, .br 11 294 false, .br 11 294 false, .br 11 294 false, .br 11 294 false, .br 11 294 false, .br 11 294 false, .br 11 294 false, .br 11 294 false, .br 11 294 false, .br 11 294 false, .br 11 294 false, .br 11 294 false, .br 11 294 false, .br 11 294 false, .br 11 337 false, .br 11 338 false, .br 11 338 false, .br 11 338 false, .br 11 338 false, .br 11 338 false, .br 11 351 false, .br 11 352 false, .br 11 352 false, .br 11 352 false, .br 11 352 false, .br 11 352 false, .br 11 365 false, .br 11 366 false, .br 11 366 false, .br 11 366 false, .br 11 366 false, .br 11 366 false, .br 11 366 false, .br 11 381 false, .br 11 380 false, .br 11 408 false, .br 11 424 true, .br 11 448 false, .br 11 448 false, .br 11 448 false, .br 11 448 false, .br 11 448 false, .br 11 448 false, .br 11 448 false, .br 11 465 false, .br 11 464 false, .br 11 482 true, .br 11 518 false, .br 11 518 false, .br 11 525 false, .br 11 526 false, .br 11 526 false, .br 11 526 false, .br 11 535 false, .br 11 534 false, .br 11 560 false, .br 11 662 true, .br 11 662 true, .br 11 662 true, .br 11 662 true, .br 11 662 true, .br 11 662 true, .br 11 677 true, .br 11 678 true, .br 11 678 true, .br 11 678 true, .br 11 678 true, .br 11 678 true, .br 11 678 true, .br 11 678 true, .br 11 678 true, .br 11 678 true, .br 11 678 true, .br 11 678 true, .br 11 678 true, .br 11 678 true, .br 11 678 true, .br 11 678 true, .br 11 678 true, .br 11 678 true, .br 11 678 true, .br 11 717 true]) (os' := []) (by kernel_rfl) (ObsOK.cond hd (ObsOK.cond hd (ObsOK.cond hd (ObsOK.cond hd (ObsOK.cond hb (ObsOK.cond hb (ObsOK.cond hb (ObsOK.cond hb (ObsOK.cond hw (ObsOK.cond u0 (ObsOK.cond u0 (ObsOK.cond u0 (ObsOK.cond u0 (ObsOK.cond u1 (ObsOK.cond u1 (ObsOK.cond u1 (ObsOK.cond u1 (ObsOK.cond u2 (ObsOK.cond u2 (ObsOK.cond u2 (ObsOK.cond u2 (ObsOK.cond u3 (ObsOK.cond u3 (ObsOK.cond u3 (ObsOK.cond u3 (ObsOK.cond u4 (ObsOK.cond u4 (ObsOK.cond u4 (ObsOK.cond u4 (ObsOK.cond u4 (ObsOK.cond u5 (ObsOK.cond u5 (ObsOK.cond u5 (ObsOK.cond u5 (ObsOK.cond u5 (ObsOK.cond u6 (ObsOK.cond u6 (ObsOK.cond u6 (ObsOK.cond u6 (ObsOK.cond u7 (ObsOK.cond u8 (ObsOK.cond u8 (ObsOK.cond u8 (ObsOK.cond u8 (ObsOK.cond u8 (ObsOK.cond u9 (ObsOK.cond u9 (ObsOK.cond u9 (ObsOK.cond u9 (ObsOK.cond u9 (ObsOK.cond u9 (ObsOK.cond u9 (ObsOK.cond u9 (ObsOK.cond u9 (ObsOK.cond u9 (ObsOK.cond u9 (ObsOK.cond u9 (ObsOK.cond u9 (ObsOK.cond u9 (ObsOK.cond u9 (ObsOK.cond u9 (ObsOK.cond u9 (ObsOK.cond u9 (ObsOK.cond u9 (ObsOK.cond u9 (ObsOK.cond u9 (ObsOK.cond u10 (ObsOK.cond u10 (ObsOK.cond u10 (ObsOK.cond u10 (ObsOK.cond u10 (ObsOK.cond u10 (ObsOK.cond u11 (ObsOK.cond u11 (ObsOK.cond u11 (ObsOK.cond u11 (ObsOK.cond u11 (ObsOK.cond u11 (ObsOK.cond u11 (ObsOK.cond u11 (ObsOK.cond u11 (ObsOK.cond u11 (ObsOK.cond u11 (ObsOK.cond u11 (ObsOK.cond u11 (ObsOK.cond u12 (ObsOK.cond u13 (ObsOK.cond kK (ObsOK.cond q0 (ObsOK.cond q0 (ObsOK.cond q0 (ObsOK.cond q0 (ObsOK.cond q0 (ObsOK.cond q0 (ObsOK.cond q0 (ObsOK.cond q0 (ObsOK.cond q1 (ObsOK.cond kC (ObsOK.cond q2 (ObsOK.cond q2 (ObsOK.cond q2 (ObsOK.cond q3 (ObsOK.cond q3 (ObsOK.cond q3 (ObsOK.cond q3 (ObsOK.cond q4 (ObsOK.cond kM (ObsOK.cond h0 (ObsOK.cond h0 (ObsOK.cond h0 (ObsOK.cond h0 (ObsOK.cond h0 (ObsOK.cond h0 (ObsOK.cond h0 (ObsOK.cond h1 (ObsOK.cond h1 (ObsOK.cond h1 (ObsOK.cond h1 (ObsOK.cond h1 (ObsOK.cond h1 (ObsOK.cond h1 (ObsOK.cond h1 (ObsOK.cond h1 (ObsOK.cond h1 (ObsOK.cond h1 (ObsOK.cond h1 (ObsOK.cond h1 (ObsOK.cond h1 (ObsOK.cond h1 (ObsOK.cond h1 (ObsOK.cond h1 (ObsOK.cond h1 (ObsOK.cond h1 (ObsOK.nil))))))))))))))))))))))))))))))))))))))))))))))))))))))))))))))))))))))))))))))))))))))))))))))))))))))))))))))))))))))))))))))))))))))
def laTFT_c0 (a : Int) (b : Int) (c : Int) (d : Int) (e : Int) (f : Int) (g : Int) (h : Int) (i : Int) (j : Int) (w : Int) : Bool := f35_r4 a b c d e f g h i j w == 0 && (f35_r5 a b c d e f g h i j w == 0 && true) && (f35_r6 a b c d e f g h i j w == 1 && (f35_r7 a b c d e f g h i j w == 0 && true) && true)
def laTFT_c1 (a : Int) (b : Int) (c : Int) (d : Int) (e : Int) (f : Int) (g : Int) (h : Int) (i : Int) (j : Int) (w : Int) : Bool := f34_r0 a b c d e f g h i j w == IntKind.i64.wrap (IntKind.i64.wrap (IntKind.i64.wrap (0 - w) * w) * f35_r0 a b c d e f g h i j w) && (f34_r1 a b c d e f g h i j w == IntKind.i64.wrap (IntKind.i64.wrap (IntKind.i64.wrap (0 - w) * w) * f35_r1 a b c d e f g h i j w) && true)
theorem laTFT_p0 (a : Int) (b : Int) (c : Int) (d : Int) (e : Int) (f : Int) (g : Int) (h : Int) (i : Int) (j : Int) (w : Int) (hd : (dErr a b c d e f != 0) = false) (hb : (bErr g h i j != 0) = false) (hw : (wErr w != 0) = false) (kK : (decide (IntKind.i64.wrap (IntKind.i64.wrap (w * w) * d) ≤ 5000)) = true) (kC : (f44_r6 a b c d e f g == 0) = false) (kM : (h == 0) = true) (u0 : (IntKind.i64.wrap (IntKind.i64.wrap (IntKind.i64.wrap (IntKind.i64.wrap (IntKind.i64.wrap (f17_r4 a b c d e f w + f18_r4 a b c d e f w) + f19_r4 a b c d e f w) + f33_r4 a b c d e f g h i j w) + f35_r8 a b c d e f g h i j w) + f34_r4 a b c d e f g h i j w) != 0) = false) (u1 : (!f81_r0 (f17_r0 a b c d e f w) (f17_r1 a b c d e f w) (f17_r2 a b c d e f w) (f17_r3 a b c d e f w)) = false) (u2 : (!f81_r0 (f18_r0 a b c d e f w) (f18_r1 a b c d e f w) (f18_r2 a b c d e f w) (f18_r3 a b c d e f w)) = false) (u3 : (!f81_r0 (f19_r0 a b c d e f w) (f19_r1 a b c d e f w) (f19_r2 a b c d e f w) (f19_r3 a b c d e f w)) = false) (u4 : (!f81_r0 (f33_r0 a b c d e f g h i j w) (f33_r1 a b c d e f g h i j w) (f33_r2 a b c d e f g h i j w) (f33_r3 a b c d e f g h i j w)) = false) (u5 : (!f81_r0 (f35_r0 a b c d e f g h i j w) (f35_r1 a b c d e f g h i j w) (f35_r2 a b c d e f g h i j w) (f35_r3 a b c d e f g h i j w)) = false) (u6 : (!f81_r0 (f35_r4 a b c d e f g h i j w) (f35_r5 a b c d e f g h i j w) (f35_r6 a b c d e f g h i j w) (f35_r7 a b c d e f g h i j w)) = false) (u7 : (!f81_r0 (f34_r0 a b c d e f g h i j w) (f34_r1 a b c d e f g h i j w) (f34_r2 a b c d e f g h i j w) (f34_r3 a b c d e f g h i j w)) = false) (u8 : (f17_r2 a b c d e f w == 0 && (f17_r3 a b c d e f w == 0 && true)) = false) (u9 : (f18_r2 a b c d e f w == 0 && (f18_r3 a b c d e f w == 0 && true)) = false) (u10 : (!(f19_r0 a b c d e f w == IntKind.i64.wrap (IntKind.i64.wrap (IntKind.i64.wrap (0 - w) * w) * f18_r0 a b c d e f w) && (f19_r1 a b c d e f w == IntKind.i64.wrap (IntKind.i64.wrap (IntKind.i64.wrap (0 - w) * w) * f18_r1 a b c d e f w) && true))) = false) (u11 : (!(f19_r2 a b c d e f w == f18_r2 a b c d e f w && (f19_r3 a b c d e f w == f18_r3 a b c d e f w && true))) = false) (u12 : (!(f33_r0 a b c d e f g h i j w == f35_r2 a b c d e f g h i j w && (f33_r1 a b c d e f g h i j w == f35_r3 a b c d e f g h i j w && true))) = false) (u13 : (decide (f82_r0 (f17_r0 a b c d e f w) (f17_r1 a b c d e f w) (f17_r2 a b c d e f w) (f83_r1 (f17_r2 a b c d e f w) (f17_r3 a b c d e f w)) < IntKind.i64.wrap (a * f84_r0 (f17_r2 a b c d e f w) (f17_r3 a b c d e f w)))) = false) (q0 : (f16_r2 a b c d (IntKind.i64.wrap (IntKind.i64.wrap (w * w) * d)) f w != 0) = false) (q1 : (!(f16_r0 a b c d (IntKind.i64.wrap (IntKind.i64.wrap (w * w) * d)) f w == 0 && (f16_r1 a b c d (IntKind.i64.wrap (IntKind.i64.wrap (w * w) * d)) f w == IntKind.i64.wrap (w * f) && true))) = false) (q2 : (f44_r6 a b c d e f g != 3) = false) (q3 : (decide (IntKind.i64.wrap (e + g) ≤ 5000)) = false) (h0 : laTFT_c0 a b c d e f g h i j w = true) (h1 : laTFT_c1 a b c d e f g h i j w = true) : Gives Tryz.prog envRa 0 11 [(.agg #[(.int .i64 (a)), (.int .i64 (b)), (.int .i64 (c)), (.int .i64 (d)), (.int .i64 (e)), (.int .i64 (f))]), (.agg #[(.int .i64 (g)), (.int .i64 (h)), (.int .i64 (i)), (.int .i64 (j))]), (.int .i64 (w))] heap0 ((.bool (f34_r2 a b c d e f g h i j w == f35_r2 a b c d e f g h i j w && (f34_r3 a b c d e f g h i j w == f35_r3 a b c d e f g h i j w && true))), heap0) :=
  Gives.by (n := 1000) (os := [.br 11 76 false, .br 11 76 false, .br 11 76 false, .br 11 85 false, .br 11 86 false, .br 11 86 false, .br 11 86 false, .br 11 95 false, .br 11 94 false, .br 11 200 false, .br 11 200 false, .br 11 200 false, .br 11 209 false, .br 11 210 false, .br 11 210 false, .br 11 210 false, .br 11 219 false, .br 11 220 false, .br 11 220 false, .br 11 220 false, .br 11 229 false, .br 11 230 false, .br 11 230 false, .br 11 230 false, .br 11 239 false, .br 11 240 false, .br 11 240 false, .br 11 240 false, .br 11 240 false, .br 11 251 false, .br 11 252 false, .br 11 252 false, .br 11 252 false, .br 11 252 false, .br 11 263 false, .br 11 264 false, .br 11 264 false, .br 11 264 false, .br 11 273 false, .br 11 272 false, .br 11 282 false, .br 11 282 false, .br 11 282 false, .br 11 282 false, .br 11 293 false, .br 11 294 false, .br 11 294 false, .br 11 294 false, .br 11 294 false, .br 11 294 false, .br 11 294 false, .br 11 294 false, .br 11 294 false, .br 11 294 false, .br 11 294 false, .br 11 294 false, .br 11 294 false, .br 11 294 false, .br 11 294 false, .br 11 294 false, .br 11 294 false, .br 11 294 false, .br 11 294 false, .br 11 294 false, .br 11 294 false, .br 11 337 false, .br 11 338 false, .br 11 338 false, .br 11 338 false, .br 11 338 false, .br 11 338 false, .br 11 351 false, .br 11 352 false, .br 11 352 false, .br 11 352 false, .br 11 352 false, .br 11 352 false, .br 11 365 false, .br 11 366 false, .br 11 366 false, .br 11 366 false, .br 11 366 false, .br 11 366 false, .br 11 366 false, .br 11 381 false, .br 11 380 false, .br 11 408 false, .br 11 424 true, .br 11 448 false, .br 11 448 false, .br 11 448 false, .br 11 448 false, .br 11 448 false, .br 11 448 false, .br 11 448 false, .br 11 465 false, .br 11 464 false, .br 11 482 false, .br 11 540 false, .br 11 540 false, .br 11 540 false, .br 11 540 false, .br 11 540 false, .br 11 540 false, .br 11 555 false, .br 11 554 false, .br 11 560 true, .br 11 570 true, .br 11 570 true, .br 11 570 true, .br 11 570 true, .br 11 570 true, .br 11 570 true, .br 11 570 true, .br 11 570 true, .br 11 570 true, .br 11 570 true, .br 11 570 true, .br 11 570 true, .br 11 570 true, .br 11 570 true, .br 11 570 true, .br 11 570 true, .br 11 570 true, .br 11 570 true, .br 11 570 true, .br 11 570 true, .br 11 570 true, .br 11 570 true, .br 11 617 true, .br 11 618 true, .br 11 618 true, .br 11 618 true, .br 11 618 true, .br 11 618 true, .br 11 618 true, .br 11 633 true]) (os' := []) (by kernel_rfl) (ObsOK.cond hd (ObsOK.cond hd (ObsOK.cond hd (ObsOK.cond hd (ObsOK.cond hb (ObsOK.cond hb (ObsOK.cond hb (ObsOK.cond hb (ObsOK.cond hw (ObsOK.cond u0 (ObsOK.cond u0 (ObsOK.cond u0 (ObsOK.cond u0 (ObsOK.cond u1 (ObsOK.cond u1 (ObsOK.cond u1 (ObsOK.cond u1 (ObsOK.cond u2 (ObsOK.cond u2 (ObsOK.cond u2 (ObsOK.cond u2 (ObsOK.cond u3 (ObsOK.cond u3 (ObsOK.cond u3 (ObsOK.cond u3 (ObsOK.cond u4 (ObsOK.cond u4 (ObsOK.cond u4 (ObsOK.cond u4 (ObsOK.cond u4 (ObsOK.cond u5 (ObsOK.cond u5 (ObsOK.cond u5 (ObsOK.cond u5 (ObsOK.cond u5 (ObsOK.cond u6 (ObsOK.cond u6 (ObsOK.cond u6 (ObsOK.cond u6 (ObsOK.cond u7 (ObsOK.cond u8 (ObsOK.cond u8 (ObsOK.cond u8 (ObsOK.cond u8 (ObsOK.cond u8 (ObsOK.cond u9 (ObsOK.cond u9 (ObsOK.cond u9 (ObsOK.cond u9 (ObsOK.cond u9 (ObsOK.cond u9 (ObsOK.cond u9 (ObsOK.cond u9 (ObsOK.cond u9 (ObsOK.cond u9 (ObsOK.cond u9 (ObsOK.cond u9 (ObsOK.cond u9 (ObsOK.cond u9 (ObsOK.cond u9 (ObsOK.cond u9 (ObsOK.cond u9 (ObsOK.cond u9 (ObsOK.cond u9 (ObsOK.cond u9 (ObsOK.cond u9 (ObsOK.cond u10 (ObsOK.cond u10 (ObsOK.cond u10 (ObsOK.cond u10 (ObsOK.cond u10 (ObsOK.cond u10 (ObsOK.cond u11 (ObsOK.cond u11 (ObsOK.cond u11 (ObsOK.cond u11 (ObsOK.cond u11 (ObsOK.cond u11 (ObsOK.cond u11 (ObsOK.cond u11 (ObsOK.cond u11 (ObsOK.cond u11 (ObsOK.cond u11 (ObsOK.cond u11 (ObsOK.cond u11 (ObsOK.cond u12 (ObsOK.cond u13 (ObsOK.cond kK (ObsOK.cond q0 (ObsOK.cond q0 (ObsOK.cond q0 (ObsOK.cond q0 (ObsOK.cond q0 (ObsOK.cond q0 (ObsOK.cond q0 (ObsOK.cond q0 (ObsOK.cond q1 (ObsOK.cond kC (ObsOK.cond q2 (ObsOK.cond q2 (ObsOK.cond q2 (ObsOK.cond q2 (ObsOK.cond q2 (ObsOK.cond q2 (ObsOK.cond q2 (ObsOK.cond q3 (ObsOK.cond kM (ObsOK.cond h0 (ObsOK.cond h0 (ObsOK.cond h0 (ObsOK.cond h0 (ObsOK.cond h0 (ObsOK.cond h0 (ObsOK.cond h0 (ObsOK.cond h0 (ObsOK.cond h0 (ObsOK.cond h0 (ObsOK.cond h0 (ObsOK.cond h0 (ObsOK.cond h0 (ObsOK.cond h0 (ObsOK.cond h0 (ObsOK.cond h0 (ObsOK.cond h0 (ObsOK.cond h0 (ObsOK.cond h0 (ObsOK.cond h0 (ObsOK.cond h0 (ObsOK.cond h0 (ObsOK.cond h0 (ObsOK.cond h1 (ObsOK.cond h1 (ObsOK.cond h1 (ObsOK.cond h1 (ObsOK.cond h1 (ObsOK.cond h1 (ObsOK.cond h1 (ObsOK.nil))))))))))))))))))))))))))))))))))))))))))))))))))))))))))))))))))))))))))))))))))))))))))))))))))))))))))))))))))))))))))))))))))))))))))
def laTFF_c0 (a : Int) (b : Int) (c : Int) (d : Int) (e : Int) (f : Int) (g : Int) (h : Int) (i : Int) (j : Int) (w : Int) : Bool := f35_r6 a b c d e f g h i j w == f35_r2 a b c d e f g h i j w && (f35_r7 a b c d e f g h i j w == f35_r3 a b c d e f g h i j w && true)
def laTFF_c1 (a : Int) (b : Int) (c : Int) (d : Int) (e : Int) (f : Int) (g : Int) (h : Int) (i : Int) (j : Int) (w : Int) : Bool := f34_r2 a b c d e f g h i j w == f35_r2 a b c d e f g h i j w && (f34_r3 a b c d e f g h i j w == f35_r3 a b c d e f g h i j w && true)
theorem laTFF_p0 (a : Int) (b : Int) (c : Int) (d : Int) (e : Int) (f : Int) (g : Int) (h : Int) (i : Int) (j : Int) (w : Int) (hd : (dErr a b c d e f != 0) = false) (hb : (bErr g h i j != 0) = false) (hw : (wErr w != 0) = false) (kK : (decide (IntKind.i64.wrap (IntKind.i64.wrap (w * w) * d) ≤ 5000)) = true) (kC : (f44_r6 a b c d e f g == 0) = false) (kM : (h == 0) = false) (u0 : (IntKind.i64.wrap (IntKind.i64.wrap (IntKind.i64.wrap (IntKind.i64.wrap (IntKind.i64.wrap (f17_r4 a b c d e f w + f18_r4 a b c d e f w) + f19_r4 a b c d e f w) + f33_r4 a b c d e f g h i j w) + f35_r8 a b c d e f g h i j w) + f34_r4 a b c d e f g h i j w) != 0) = false) (u1 : (!f81_r0 (f17_r0 a b c d e f w) (f17_r1 a b c d e f w) (f17_r2 a b c d e f w) (f17_r3 a b c d e f w)) = false) (u2 : (!f81_r0 (f18_r0 a b c d e f w) (f18_r1 a b c d e f w) (f18_r2 a b c d e f w) (f18_r3 a b c d e f w)) = false) (u3 : (!f81_r0 (f19_r0 a b c d e f w) (f19_r1 a b c d e f w) (f19_r2 a b c d e f w) (f19_r3 a b c d e f w)) = false) (u4 : (!f81_r0 (f33_r0 a b c d e f g h i j w) (f33_r1 a b c d e f g h i j w) (f33_r2 a b c d e f g h i j w) (f33_r3 a b c d e f g h i j w)) = false) (u5 : (!f81_r0 (f35_r0 a b c d e f g h i j w) (f35_r1 a b c d e f g h i j w) (f35_r2 a b c d e f g h i j w) (f35_r3 a b c d e f g h i j w)) = false) (u6 : (!f81_r0 (f35_r4 a b c d e f g h i j w) (f35_r5 a b c d e f g h i j w) (f35_r6 a b c d e f g h i j w) (f35_r7 a b c d e f g h i j w)) = false) (u7 : (!f81_r0 (f34_r0 a b c d e f g h i j w) (f34_r1 a b c d e f g h i j w) (f34_r2 a b c d e f g h i j w) (f34_r3 a b c d e f g h i j w)) = false) (u8 : (f17_r2 a b c d e f w == 0 && (f17_r3 a b c d e f w == 0 && true)) = false) (u9 : (f18_r2 a b c d e f w == 0 && (f18_r3 a b c d e f w == 0 && true)) = false) (u10 : (!(f19_r0 a b c d e f w == IntKind.i64.wrap (IntKind.i64.wrap (IntKind.i64.wrap (0 - w) * w) * f18_r0 a b c d e f w) && (f19_r1 a b c d e f w == IntKind.i64.wrap (IntKind.i64.wrap (IntKind.i64.wrap (0 - w) * w) * f18_r1 a b c d e f w) && true))) = false) (u11 : (!(f19_r2 a b c d e f w == f18_r2 a b c d e f w && (f19_r3 a b c d e f w == f18_r3 a b c d e f w && true))) = false) (u12 : (!(f33_r0 a b c d e f g h i j w == f35_r2 a b c d e f g h i j w && (f33_r1 a b c d e f g h i j w == f35_r3 a b c d e f g h i j w && true))) = false) (u13 : (decide (f82_r0 (f17_r0 a b c d e f w) (f17_r1 a b c d e f w) (f17_r2 a b c d e f w) (f83_r1 (f17_r2 a b c d e f w) (f17_r3 a b c d e f w)) < IntKind.i64.wrap (a * f84_r0 (f17_r2 a b c d e f w) (f17_r3 a b c d e f w)))) = false) (q0 : (f16_r2 a b c d (IntKind.i64.wrap (IntKind.i64.wrap (w * w) * d)) f w != 0) = false) (q1 : (!(f16_r0 a b c d (IntKind.i64.wrap (IntKind.i64.wrap (w * w) * d)) f w == 0 && (f16_r1 a b c d (IntKind.i64.wrap (IntKind.i64.wrap (w * w) * d)) f w == IntKind.i64.wrap (w * f) && true))) = false) (q2 : (f44_r6 a b c d e f g != 3) = false) (q3 : (decide (IntKind.i64.wrap (e + g) ≤ 5000)) = false) (h0 : laTFF_c0 a b c d e f g h i j w = true) (h1 : laTFF_c1 a b c d e f g h i j w = true) : Gives Tryz.prog envRa 0 11 [(.agg #[(.int .i64 (a)), (.int .i64 (b)), (.int .i64 (c)), (.int .i64 (d)), (.int .i64 (e)), (.int .i64 (f))]), (.agg #[(.int .i64 (g)), (.int .i64 (h)), (.int .i64 (i)), (.int .i64 (j))]), (.int .i64 (w))] heap0 ((.bool (f34_r0 a b c d e f g h i j w == IntKind.i64.wrap (IntKind.i64.wrap (IntKind.i64.wrap (0 - w) * w) * f86_r0 (f35_r0 a b c d e f g h i j w) (f35_r1 a b c d e f g h i j w) (f35_r4 a b c d e f g h i j w) (f35_r5 a b c d e f g h i j w)) && (f34_r1 a b c d e f g h i j w == IntKind.i64.wrap (IntKind.i64.wrap (IntKind.i64.wrap (0 - w) * w) * f86_r1 (f35_r0 a b c d e f g h i j w) (f35_r1 a b c d e f g h i j w) (f35_r4 a b c d e f g h i j w) (f35_r5 a b c d e f g h i j w)) && true))), heap0) :=
  Gives.by (n := 1000) (os := [.br 11 76 false, .br 11 76 false, .br 11 76 false, .br 11 85 false, .br 11 86 false, .br 11 86 false, .br 11 86 false, .br 11 95 false, .br 11 94 false, .br 11 200 false, .br 11 200 false, .br 11 200 false, .br 11 209 false, .br 11 210 false, .br 11 210 false, .br 11 210 false, .br 11 219 false, .br 11 220 false, .br 11 220 false, .br 11 220 false, .br 11 229 false, .br 11 230 false, .br 11 230 false, .br 11 230 false, .br 11 239 false, .br 11 240 false, .br 11 240 false, .br 11 240 false, .br 11 240 false, .br 11 251 false, .br 11 252 false, .br 11 252 false, .br 11 252 false, .br 11 252 false, .br 11 263 false, .br 11 264 false, .br 11 264 false, .br 11 264 false, .br 11 273 false, .br 11 272 false, .br 11 282 false, .br 11 282 false, .br 11 282 false, .br 11 282 false, .br 11 293 false, .br 11 294 false, .br 11 294 false, .br 11 294 false, .br 11 294 false, .br 11 294 false, .br 11 294 false, .br 11 294 false, .br 11 294 false, .br 11 294 false, .br 11 294 false, .br 11 294 false, .br 11 294 false, .br 11 294 false, .br 11 294 false, .br 11 294 false, .br 11 294 false, .br 11 294 false, .br 11 294 false, .br 11 294 false, .br 11 294 false, .br 11 337 false, .br 11 338 false, .br 11 338 false, .br 11 338 false, .br 11 338 false, .br 11 338 false, .br 11 351 false, .br 11 352 false, .br 11 352 false, .br 11 352 false, .br 11 352 false, .br 11 352 false, .br 11 365 false, .br 11 366 false, .br 11 366 false, .br 11 366 false, .br 11 366 false, .br 11 366 false, .br 11 366 false, .br 11 381 false, .br 11 380 false, .br 11 408 false, .br 11 424 true, .br 11 448 false, .br 11 448 false, .br 11 448 false, .br 11 448 false, .br 11 448 false, .br 11 448 false, .br 11 448 false, .br 11 465 false, .br 11 464 false, .br 11 482 false, .br 11 540 false, .br 11 540 false, .br 11 540 false, .br 11 540 false, .br 11 540 false, .br 11 540 false, .br 11 555 false, .br 11 554 false, .br 11 560 false, .br 11 662 true, .br 11 662 true, .br 11 662 true, .br 11 662 true, .br 11 662 true, .br 11 662 true, .br 11 677 true, .br 11 678 true, .br 11 678 true, .br 11 678 true, .br 11 678 true, .br 11 678 true, .br 11 678 true, .br 11 678 true, .br 11 678 true, .br 11 678 true, .br 11 678 true, .br 11 678 true, .br 11 678 true, .br 11 678 true, .br 11 678 true, .br 11 678 true, .br 11 678 true, .br 11 678 true, .br 11 678 true, .br 11 717 true]) (os' := []) (by kernel_rfl) (ObsOK.cond hd (ObsOK.cond hd (ObsOK.cond hd (ObsOK.cond hd (ObsOK.cond hb (ObsOK.cond hb (ObsOK.cond hb (ObsOK.cond hb (ObsOK.cond hw (ObsOK.cond u0 (ObsOK.cond u0 (ObsOK.cond u0 (ObsOK.cond u0 (ObsOK.cond u1 (ObsOK.cond u1 (ObsOK.cond u1 (ObsOK.cond u1 (ObsOK.cond u2 (ObsOK.cond u2 (ObsOK.cond u2 (ObsOK.cond u2 (ObsOK.cond u3 (ObsOK.cond u3 (ObsOK.cond u3 (ObsOK.cond u3 (ObsOK.cond u4 (ObsOK.cond u4 (ObsOK.cond u4 (ObsOK.cond u4 (ObsOK.cond u4 (ObsOK.cond u5 (ObsOK.cond u5 (ObsOK.cond u5 (ObsOK.cond u5 (ObsOK.cond u5 (ObsOK.cond u6 (ObsOK.cond u6 (ObsOK.cond u6 (ObsOK.cond u6 (ObsOK.cond u7 (ObsOK.cond u8 (ObsOK.cond u8 (ObsOK.cond u8 (ObsOK.cond u8 (ObsOK.cond u8 (ObsOK.cond u9 (ObsOK.cond u9 (ObsOK.cond u9 (ObsOK.cond u9 (ObsOK.cond u9 (ObsOK.cond u9 (ObsOK.cond u9 (ObsOK.cond u9 (ObsOK.cond u9 (ObsOK.cond u9 (ObsOK.cond u9 (ObsOK.cond u9 (ObsOK.cond u9 (ObsOK.cond u9 (ObsOK.cond u9 (ObsOK.cond u9 (ObsOK.cond u9 (ObsOK.cond u9 (ObsOK.cond u9 (ObsOK.cond u9 (ObsOK.cond u9 (ObsOK.cond u10 (ObsOK.cond u10 (ObsOK.cond u10 (ObsOK.cond u10 (ObsOK.cond u10 (ObsOK.cond u10 (ObsOK.cond u11 (ObsOK.cond u11 (ObsOK.cond u11 (ObsOK.cond u11 (ObsOK.cond u11 (ObsOK.cond u11 (ObsOK.cond u11 (ObsOK.cond u11 (ObsOK.cond u11 (ObsOK.cond u11 (ObsOK.cond u11 (ObsOK.cond u11 (ObsOK.cond u11 (ObsOK.cond u12 (ObsOK.cond u13 (ObsOK.cond kK (ObsOK.cond q0 (ObsOK.cond q0 (ObsOK.cond q0 (ObsOK.cond q0 (ObsOK.cond q0 (ObsOK.cond q0 (ObsOK.cond q0 (ObsOK.cond q0 (ObsOK.cond q1 (ObsOK.cond kC (ObsOK.cond q2 (ObsOK.cond q2 (ObsOK.cond q2 (ObsOK.cond q2 (ObsOK.cond q2 (ObsOK.cond q2 (ObsOK.cond q2 (ObsOK.cond q3 (ObsOK.cond kM (ObsOK.cond h0 (ObsOK.cond h0 (ObsOK.cond h0 (ObsOK.cond h0 (ObsOK.cond h0 (ObsOK.cond h0 (ObsOK.cond h0 (ObsOK.cond h1 (ObsOK.cond h1 (ObsOK.cond h1 (ObsOK.cond h1 (ObsOK.cond h1 (ObsOK.cond h1 (ObsOK.cond h1 (ObsOK.cond h1 (ObsOK.cond h1 (ObsOK.cond h1 (ObsOK.cond h1 (ObsOK.cond h1 (ObsOK.cond h1 (ObsOK.cond h1 (ObsOK.cond h1 (ObsOK.cond h1 (ObsOK.cond h1 (ObsOK.cond h1 (ObsOK.cond h1 (ObsOK.nil))))))))))))))))))))))))))))))))))))))))))))))))))))))))))))))))))))))))))))))))))))))))))))))))))))))))))))))))))))))))))))))))))))))
def laFTT_c0 (a : Int) (b : Int) (c : Int) (d : Int) (e : Int) (f : Int) (g : Int) (h : Int) (i : Int) (j : Int) (w : Int) : Bool := f35_r4 a b c d e f g h i j w == 0 && (f35_r5 a b c d e f g h i j w == 0 && true) && (f35_r6 a b c d e f g h i j w == 1 && (f35_r7 a b c d e f g h i j w == 0 && true) && true)
def laFTT_c1 (a : Int) (b : Int) (c : Int) (d : Int) (e : Int) (f : Int) (g : Int) (h : Int) (i : Int) (j : Int) (w : Int) : Bool := f34_r0 a b c d e f g h i j w == IntKind.i64.wrap (IntKind.i64.wrap (IntKind.i64.wrap (0 - w) * w) * f35_r0 a b c d e f g h i j w) && (f34_r1 a b c d e f g h i j w == IntKind.i64.wrap (IntKind.i64.wrap (IntKind.i64.wrap (0 - w) * w) * f35_r1 a b c d e f g h i j w) && true)
theorem laFTT_p0 (a : Int) (b : Int) (c : Int) (d : Int) (e : Int) (f : Int) (g : Int) (h : Int) (i : Int) (j : Int) (w : Int) (hd : (dErr a b c d e f != 0) = false) (hb : (bErr g h i j != 0) = false) (hw : (wErr w != 0) = false) (kK : (decide (IntKind.i64.wrap (IntKind.i64.wrap (w * w) * d) ≤ 5000)) = false) (kC : (f44_r6 a b c d e f g == 0) = true) (kM : (h == 0) = true) (u0 : (IntKind.i64.wrap (IntKind.i64.wrap (IntKind.i64.wrap (IntKind.i64.wrap (IntKind.i64.wrap (f17_r4 a b c d e f w + f18_r4 a b c d e f w) + f19_r4 a b c d e f w) + f33_r4 a b c d e f g h i j w) + f35_r8 a b c d e f g h i j w) + f34_r4 a b c d e f g h i j w) != 0) = false) (u1 : (!f81_r0 (f17_r0 a b c d e f w) (f17_r1 a b c d e f w) (f17_r2 a b c d e f w) (f17_r3 a b c d e f w)) = false) (u2 : (!f81_r0 (f18_r0 a b c d e f w) (f18_r1 a b c d e f w) (f18_r2 a b c d e f w) (f18_r3 a b c d e f w)) = false) (u3 : (!f81_r0 (f19_r0 a b c d e f w) (f19_r1 a b c d e f w) (f19_r2 a b c d e f w) (f19_r3 a b c d e f w)) = false) (u4 : (!f81_r0 (f33_r0 a b c d e f g h i j w) (f33_r1 a b c d e f g h i j w) (f33_r2 a b c d e f g h i j w) (f33_r3 a b c d e f g h i j w)) = false) (u5 : (!f81_r0 (f35_r0 a b c d e f g h i j w) (f35_r1 a b c d e f g h i j w) (f35_r2 a b c d e f g h i j w) (f35_r3 a b c d e f g h i j w)) = false) (u6 : (!f81_r0 (f35_r4 a b c d e f g h i j w) (f35_r5 a b c d e f g h i j w) (f35_r6 a b c d e f g h i j w) (f35_r7 a b c d e f g h i j w)) = false) (u7 : (!f81_r0 (f34_r0 a b c d e f g h i j w) (f34_r1 a b c d e f g h i j w) (f34_r2 a b c d e f g h i j w) (f34_r3 a b c d e f g h i j w)) = false) (u8 : (f17_r2 a b c d e f w == 0 && (f17_r3 a b c d e f w == 0 && true)) = false) (u9 : (f18_r2 a b c d e f w == 0 && (f18_r3 a b c d e f w == 0 && true)) = false) (u10 : (!(f19_r0 a b c d e f w == IntKind.i64.wrap (IntKind.i64.wrap (IntKind.i64.wrap (0 - w) * w) * f18_r0 a b c d e f w) && (f19_r1 a b c d e f w == IntKind.i64.wrap (IntKind.i64.wrap (IntKind.i64.wrap (0 - w) * w) * f18_r1 a b c d e f w) && true))) = false) (u11 : (!(f19_r2 a b c d e f w == f18_r2 a b c d e f w && (f19_r3 a b c d e f w == f18_r3 a b c d e f w && true))) = false) (u12 : (!(f33_r0 a b c d e f g h i j w == f35_r2 a b c d e f g h i j w && (f33_r1 a b c d e f g h i j w == f35_r3 a b c d e f g h i j w && true))) = false) (u13 : (decide (f82_r0 (f17_r0 a b c d e f w) (f17_r1 a b c d e f w) (f17_r2 a b c d e f w) (f83_r1 (f17_r2 a b c d e f w) (f17_r3 a b c d e f w)) < IntKind.i64.wrap (a * f84_r0 (f17_r2 a b c d e f w) (f17_r3 a b c d e f w)))) = false) (q0 : (f17_r4 (f44_r0 a b c d e f g) (f44_r1 a b c d e f g) (f44_r2 a b c d e f g) (f44_r3 a b c d e f g) (f44_r4 a b c d e f g) (f44_r5 a b c d e f g) w != 0) = false) (q1 : (f33_r4 a b c d e f g 0 0 0 w != 0) = false) (q2 : (!(f17_r0 (f44_r0 a b c d e f g) (f44_r1 a b c d e f g) (f44_r2 a b c d e f g) (f44_r3 a b c d e f g) (f44_r4 a b c d e f g) (f44_r5 a b c d e f g) w == f33_r0 a b c d e f g 0 0 0 w && (f17_r1 (f44_r0 a b c d e f g) (f44_r1 a b c d e f g) (f44_r2 a b c d e f g) (f44_r3 a b c d e f g) (f44_r4 a b c d e f g) (f44_r5 a b c d e f g) w == f33_r1 a b c d e f g 0 0 0 w && true) && (f17_r2 (f44_r0 a b c d e f g) (f44_r1 a b c d e f g) (f44_r2 a b c d e f g) (f44_r3 a b c d e f g) (f44_r4 a b c d e f g) (f44_r5 a b c d e f g) w == f33_r2 a b c d e f g 0 0 0 w && (f17_r3 (f44_r0 a b c d e f g) (f44_r1 a b c d e f g) (f44_r2 a b c d e f g) (f44_r3 a b c d e f g) (f44_r4 a b c d e f g) (f44_r5 a b c d e f g) w == f33_r3 a b c d e f g 0 0 0 w && true) && true))) = false) (h0 : laFTT_c0 a b c d e f g h i j w = true) (h1 : laFTT_c1 a b c d e f g h i j w = true) : Gives Tryz.prog envRa 0 11 [(.agg #[(.int .i64 (a)), (.int .i64 (b)), (.int .i64 (c)), (.int .i64 (d)), (.int .i64 (e)), (.int .i64 (f))]), (.agg #[(.int .i64 (g)), (.int .i64 (h)), (.int .i64 (i)), (.int .i64 (j))]), (.int .i64 (w))] heap0 ((.bool (f34_r2 a b c d e f g h i j w == f35_r2 a b c d e f g h i j w && (f34_r3 a b c d e f g h i j w == f35_r3 a b c d e f g h i j w && true))), heap0) :=
  Gives.by (n := 1000) (os := [.br 11 76 false, .br 11 76 false, .br 11 76 false, .br 11 85 false, .br 11 86 false, .br 11 86 false, .br 11 86 false, .br 11 95 false, .br 11 94 false, .br 11 200 false, .br 11 200 false, .br 11 200 false, .br 11 209 false, .br 11 210 false, .br 11 210 false, .br 11 210 false, .br 11 219 false, .br 11 220 false, .br 11 220 false, .br 11 220 false, .br 11 229 false, .br 11 230 false, .br 11 230 false, .br 11 230 false, .br 11 239 false, .br 11 240 false, .br 11 240 false, .br 11 240 false, .br 11 240 false, .br 11 251 false, .br 11 252 false, .br 11 252 false, .br 11 252 false, .br 11 252 false, .br 11 263 false, .br 11 264 false, .br 11 264 false, .br 11 264 false, .br 11 273 false, .br 11 272 false, .br 11 282 false, .br 11 282 false, .br 11 282 false, .br 11 282 false, .br 11 293 false, .br 11 294 false, .br 11 294 false, .br 11 294 false, .br 11 294 false, .br 11 294 false, .br 11 294 false, .br 11 294 false, .br 11 294 false, .br 11 294 false, .br 11 294 false, .br 11 294 false, .br 11 294 false, .br 11 294 false, .br 11 294 false, .br 11 294 false, .br 11 294 false, .br 11 294 false, .br 11 294 false, .br 11 294 false, .br 11 294 false, .br 11 337 false, .br 11 338 false, .br 11 338 false, .br 11 338 false, .br 11 338 false, .br 11 338 false, .br 11 351 false, .br 11 352 false, .br 11 352 false, .br 11 352 false, .br 11 352 false, .br 11 352 false, .br 11 365 false, .br 11 366 false, .br 11 366 false, .br 11 366 false, .br 11 366 false, .br 11 366 false, .br 11 366 false, .br 11 381 false, .br 11 380 false, .br 11 408 false, .br 11 424 false, .br 11 482 true, .br 11 518 false, .br 11 518 false, .br 11 525 false, .br 11 526 false, .br 11 526 false, .br 11 526 false, .br 11 535 false, .br 11 534 false, .br 11 560 true, .br 11 570 true, .br 11 570 true, .br 11 570 true, .br 11 570 true, .br 11 570 true, .br 11 570 true, .br 11 570 true, .br 11 570 true, .br 11 570 true, .br 11 570 true, .br 11 570 true, .br 11 570 true, .br 11 570 true, .br 11 570 true, .br 11 570 true, .br 11 570 true, .br 11 570 true, .br 11 570 true, .br 11 570 true, .br 11 570 true, .br 11 570 true, .br 11 570 true, .br 11 617 true, .br 11 618 true, .br 11 618 true, .br 11 618 true, .br 11 618 true, .br 11 618 true, .br 11 618 true, .br 11 633 true]) (os' := []) (by kernel_rfl) (ObsOK.cond hd (ObsOK.cond hd (ObsOK.cond hd (ObsOK.cond hd (ObsOK.cond hb (ObsOK.cond hb (ObsOK.cond hb (ObsOK.cond hb (ObsOK.cond hw (ObsOK.cond u0 (ObsOK.cond u0 (ObsOK.cond u0 (ObsOK.cond u0 (ObsOK.cond u1 (ObsOK.cond u1 (ObsOK.cond u1 (ObsOK.cond u1 (ObsOK.cond u2 (ObsOK.cond u2 (ObsOK.cond u2 (ObsOK.cond u2 (ObsOK.cond u3 (ObsOK.cond u3 (ObsOK.cond u3 (ObsOK.cond u3 (ObsOK.cond u4 (ObsOK.cond u4 (ObsOK.cond u4 (ObsOK.cond u4 (ObsOK.cond u4 (ObsOK.cond u5 (ObsOK.cond u5 (ObsOK.cond u5 (ObsOK.cond u5 (ObsOK.cond u5 (ObsOK.cond u6 (ObsOK.cond u6 (ObsOK.cond u6 (ObsOK.cond u6 (ObsOK.cond u7 (ObsOK.cond u8 (ObsOK.cond u8 (ObsOK.cond u8 (ObsOK.cond u8 (ObsOK.cond u8 (ObsOK.cond u9 (ObsOK.cond u9 (ObsOK.cond u9 (ObsOK.cond u9 (ObsOK.cond u9 (ObsOK.cond u9 (ObsOK.cond u9 (ObsOK.cond u9 (ObsOK.cond u9 (ObsOK.cond u9 (ObsOK.cond u9 (ObsOK.cond u9 (ObsOK.cond u9 (ObsOK.cond u9 (ObsOK.cond u9 (ObsOK.cond u9 (ObsOK.cond u9 (ObsOK.cond u9 (ObsOK.cond u9 (ObsOK.cond u9 (ObsOK.cond u9 (ObsOK.cond u10 (ObsOK.cond u10 (ObsOK.cond u10 (ObsOK.cond u10 (ObsOK.cond u10 (ObsOK.cond u10 (ObsOK.cond u11 (ObsOK.cond u11 (ObsOK.cond u11 (ObsOK.cond u11 (ObsOK.cond u11 (ObsOK.cond u11 (ObsOK.cond u11 (ObsOK.cond u11 (ObsOK.cond u11 (ObsOK.cond u11 (ObsOK.cond u11 (ObsOK.cond u11 (ObsOK.cond u11 (ObsOK.cond u12 (ObsOK.cond u13 (ObsOK.cond kK (ObsOK.cond kC (ObsOK.cond q0 (ObsOK.cond q0 (ObsOK.cond q0 (ObsOK.cond q1 (ObsOK.cond q1 (ObsOK.cond q1 (ObsOK.cond q1 (ObsOK.cond q2 (ObsOK.cond kM (ObsOK.cond h0 (ObsOK.cond h0 (ObsOK.cond h0 (ObsOK.cond h0 (ObsOK.cond h0 (ObsOK.cond h0 (ObsOK.cond h0 (ObsOK.cond h0 (ObsOK.cond h0 (ObsOK.cond h0 (ObsOK.cond h0 (ObsOK.cond h0 (ObsOK.cond h0 (ObsOK.cond h0 (ObsOK.cond h0 (ObsOK.cond h0 (ObsOK.cond h0 (ObsOK.cond h0 (ObsOK.cond h0 (ObsOK.cond h0 (ObsOK.cond h0 (ObsOK.cond h0 (ObsOK.cond h0 (ObsOK.cond h1 (ObsOK.cond h1 (ObsOK.cond h1 (ObsOK.cond h1 (ObsOK.cond h1 (ObsOK.cond h1 (ObsOK.cond h1 (ObsOK.nil)))))))))))))))))))))))))))))))))))))))))))))))))))))))))))))))))))))))))))))))))))))))))))))))))))))))))))))))))))))))))))))))))
def laFTF_c0 (a : Int) (b : Int) (c : Int) (d : Int) (e : Int) (f : Int) (g : Int) (h : Int) (i : Int) (j : Int) (w : Int) : Bool := f35_r6 a b c d e f g h i j w == f35_r2 a b c d e f g h i j w && (f35_r7 a b c d e f g h i j w == f35_r3 a b c d e f g h i j w && true)
def laFTF_c1 (a : Int) (b : Int) (c : Int) (d : Int) (e : Int) (f : Int) (g : Int) (h : Int) (i : Int) (j : Int) (w : Int) : Bool := f34_r2 a b c d e f g h i j w == f35_r2 a b c d e f g h i j w && (f34_r3 a b c d e f g h i j w == f35_r3 a b c d e f g h i j w && true)
theorem laFTF_p0 (a : Int) (b : Int) (c : Int) (d : Int) (e : Int) (f : Int) (g : Int) (h : Int) (i : Int) (j : Int) (w : Int) (hd : (dErr a b c d e f != 0) = false) (hb : (bErr g h i j != 0) = false) (hw : (wErr w != 0) = false) (kK : (decide (IntKind.i64.wrap (IntKind.i64.wrap (w * w) * d) ≤ 5000)) = false) (kC : (f44_r6 a b c d e f g == 0) = true) (kM : (h == 0) = false) (u0 : (IntKind.i64.wrap (IntKind.i64.wrap (IntKind.i64.wrap (IntKind.i64.wrap (IntKind.i64.wrap (f17_r4 a b c d e f w + f18_r4 a b c d e f w) + f19_r4 a b c d e f w) + f33_r4 a b c d e f g h i j w) + f35_r8 a b c d e f g h i j w) + f34_r4 a b c d e f g h i j w) != 0) = false) (u1 : (!f81_r0 (f17_r0 a b c d e f w) (f17_r1 a b c d e f w) (f17_r2 a b c d e f w) (f17_r3 a b c d e f w)) = false) (u2 : (!f81_r0 (f18_r0 a b c d e f w) (f18_r1 a b c d e f w) (f18_r2 a b c d e f w) (f18_r3 a b c d e f w)) = false) (u3 : (!f81_r0 (f19_r0 a b c d e f w) (f19_r1 a b c d e f w) (f19_r2 a b c d e f w) (f19_r3 a b c d e f w)) = false) (u4 : (!f81_r0 (f33_r0 a b c d e f g h i j w) (f33_r1 a b c d e f g h i j w) (f33_r2 a b c d e f g h i j w) (f33_r3 a b c d e f g h i j w)) = false) (u5 : (!f81_r0 (f35_r0 a b c d e f g h i j w) (f35_r1 a b c d e f g h i j w) (f35_r2 a b c d e f g h i j w) (f35_r3 a b c d e f g h i j w)) = false) (u6 : (!f81_r0 (f35_r4 a b c d e f g h i j w) (f35_r5 a b c d e f g h i j w) (f35_r6 a b c d e f g h i j w) (f35_r7 a b c d e f g h i j w)) = false) (u7 : (!f81_r0 (f34_r0 a b c d e f g h i j w) (f34_r1 a b c d e f g h i j w) (f34_r2 a b c d e f g h i j w) (f34_r3 a b c d e f g h i j w)) = false) (u8 : (f17_r2 a b c d e f w == 0 && (f17_r3 a b c d e f w == 0 && true)) = false) (u9 : (f18_r2 a b c d e f w == 0 && (f18_r3 a b c d e f w == 0 && true)) = false) (u10 : (!(f19_r0 a b c d e f w == IntKind.i64.wrap (IntKind.i64.wrap (IntKind.i64.wrap (0 - w) * w) * f18_r0 a b c d e f w) && (f19_r1 a b c d e f w == IntKind.i64.wrap (IntKind.i64.wrap (IntKind.i64.wrap (0 - w) * w) * f18_r1 a b c d e f w) && true))) = false) (u11 : (!(f19_r2 a b c d e f w == f18_r2 a b c d e f w && (f19_r3 a b c d e f w == f18_r3 a b c d e f w && true))) = false) (u12 : (!(f33_r0 a b c d e f g h i j w == f35_r2 a b c d e f g h i j w && (f33_r1 a b c d e f g h i j w == f35_r3 a b c d e f g h i j w && true))) = false) (u13 : (decide (f82_r0 (f17_r0 a b c d e f w) (f17_r1 a b c d e f w) (f17_r2 a b c d e f w) (f83_r1 (f17_r2 a b c d e f w) (f17_r3 a b c d e f w)) < IntKind.i64.wrap (a * f84_r0 (f17_r2 a b c d e f w) (f17_r3 a b c d e f w)))) = false) (q0 : (f17_r4 (f44_r0 a b c d e f g) (f44_r1 a b c d e f g) (f44_r2 a b c d e f g) (f44_r3 a b c d e f g) (f44_r4 a b c d e f g) (f44_r5 a b c d e f g) w != 0) = false) (q1 : (f33_r4 a b c d e f g 0 0 0 w != 0) = false) (q2 : (!(f17_r0 (f44_r0 a b c d e f g) (f44_r1 a b c d e f g) (f44_r2 a b c d e f g) (f44_r3 a b c d e f g) (f44_r4 a b c d e f g) (f44_r5 a b c d e f g) w == f33_r0 a b c d e f g 0 0 0 w && (f17_r1 (f44_r0 a b c d e f g) (f44_r1 a b c d e f g) (f44_r2 a b c d e f g) (f44_r3 a b c d e f g) (f44_r4 a b c d e f g) (f44_r5 a b c d e f g) w == f33_r1 a b c d e f g 0 0 0 w && true) && (f17_r2 (f44_r0 a b c d e f g) (f44_r1 a b c d e f g) (f44_r2 a b c d e f g) (f44_r3 a b c d e f g) (f44_r4 a b c d e f g) (f44_r5 a b c d e f g) w == f33_r2 a b c d e f g 0 0 0 w && (f17_r3 (f44_r0 a b c d e f g) (f44_r1 a b c d e f g) (f44_r2 a b c d e f g) (f44_r3 a b c d e f g) (f44_r4 a b c d e f g) (f44_r5 a b c d e f g) w == f33_r3 a b c d e f g 0 0 0 w && true) && true))) = false) (h0 : laFTF_c0 a b c d e f g h i j w = true) (h1 : laFTF_c1 a b c d e f g h i j w = true) : Gives Tryz.prog envRa 0 11 [(.agg #[(.int .i64 (a)), (.int .i64 (b)), (.int .i64 (c)), (.int .i64 (d)), (.int .i64 (e)), (.int .i64 (f))]), (.agg #[(.int .i64 (g)), (.int .i64 (h)), (.int .i64 (i)), (.int .i64 (j))]), (.int .i64 (w))] heap0 ((.bool (f34_r0 a b c d e f g h i j w == IntKind.i64.wrap (IntKind.i64.wrap (IntKind.i64.wrap (0 - w) * w) * f86_r0 (f35_r0 a b c d e f g h i j w) (f35_r1 a b c d e f g h i j w) (f35_r4 a b c d e f g h i j w) (f35_r5 a b c d e f g h i j w)) && (f34_r1 a b c d e f g h i j w == IntKind.i64.wrap (IntKind.i64.wrap (IntKind.i64.wrap (0 - w) * w) * f86_r1 (f35_r0 a b c d e f g h i j w) (f35_r1 a b c d e f g h i j w) (f35_r4 a b c d e f g h i j w) (f35_r5 a b c d e f g h i j w)) && true))), heap0) :=
  Gives.by (n := 1000) (os := [.br 11 76 false, .br 11 76 false, .br 11 76 false, .br 11 85 false, .br 11 86 false, .br 11 86 false, .br 11 86 false, .br 11 95 false, .br 11 94 false, .br 11 200 false, .br 11 200 false, .br 11 200 false, .br 11 209 false, .br 11 210 false, .br 11 210 false, .br 11 210 false, .br 11 219 false, .br 11 220 false, .br 11 220 false, .br 11 220 false, .br 11 229 false, .br 11 230 false, .br 11 230 false, .br 11 230 false, .br 11 239 false, .br 11 240 false, .br 11 240 false, .br 11 240 false, .br 11 240 false, .br 11 251 false, .br 11 252 false, .br 11 252 false, .br 11 252 false, .br 11 252 false, .br 11 263 false, .br 11 264 false, .br 11 264 false, .br 11 264 false, .br 11 273 false, .br 11 272 false, .br 11 282 false, .br 11 282 false, .br 11 282 false, .br 11 282 false, .br 11 293 false, .br 11 294 false, .br 11 294 false, .br 11 294 false, .br 11 294 false, .br 11 294 false, .br 11 294 false, .br 11 294 false, .br 11 294 false, .br 11 294 false, .br 11 294 false, .br 11 294 false, .br 11 294 false, .br 11 294 false, .br 11 294 false, .br 11 294 false, .br 11 294 false, .br 11 294 false, .br 11 294 false, .br 11 294 false, .br 11 294 false, .br 11 337 false, .br 11 338 false, .br 11 338 false, .br 11 338 false, .br 11 338 false, .br 11 338 false, .br 11 351 false, .br 11 352 false, .br 11 352 false, .br 11 352 false, .br 11 352 false, .br 11 352 false, .br 11 365 false, .br 11 366 false, .br 11 366 false, .br 11 366 false, .br 11 366 false, .br 11 366 false, .br 11 366 false, .br 11 381 false, .br 11 380 false, .br 11 408 false, .br 11 424 false, .br 11 482 true, .br 11 518 false, .br 11 518 false, .br 11 525 false, .br 11 526 false, .br 11 526 false, .br 11 526 false, .br 11 535 false, .br 11 534 false, .br 11 560 false, .br 11 662 true, .br 11 662 true, .br 11 662 true, .br 11 662 true, .br 11 662 true, .br 11 662 true, .br 11 677 true, .br 11 678 true, .br 11 678 true, .br 11 678 true, .br 11 678 true, .br 11 678 true, .br 11 678 true, .br 11 678 true, .br 11 678 true, .br 11 678 true, .br 11 678 true, .br 11 678 true, .br 11 678 true, .br 11 678 true, .br 11 678 true, .br 11 678 true, .br 11 678 true, .br 11 678 true, .br 11 678 true, .br 11 717 true]) (os' := []) (by kernel_rfl) (ObsOK.cond hd (ObsOK.cond hd (ObsOK.cond hd (ObsOK.cond hd (ObsOK.cond hb (ObsOK.cond hb (ObsOK.cond hb (ObsOK.cond hb (ObsOK.cond hw (ObsOK.cond u0 (ObsOK.cond u0 (ObsOK.cond u0 (ObsOK.cond u0 (ObsOK.cond u1 (ObsOK.cond u1 (ObsOK.cond u1 (ObsOK.cond u1 (ObsOK.cond u2 (ObsOK.cond u2 (ObsOK.cond u2 (ObsOK.cond u2 (ObsOK.cond u3 (ObsOK.cond u3 (ObsOK.cond u3 (ObsOK.cond u3 (ObsOK.cond u4 (ObsOK.cond u4 (ObsOK.cond u4 (ObsOK.cond u4 (ObsOK.cond u4 (ObsOK.cond u5 (ObsOK.cond u5 (ObsOK.cond u5 (ObsOK.cond u5 (ObsOK.cond u5 (ObsOK.cond u6 (ObsOK.cond u6 (ObsOK.cond u6 (ObsOK.cond u6 (ObsOK.cond u7 (ObsOK.cond u8 (ObsOK.cond u8 (ObsOK.cond u8 (ObsOK.cond u8 (ObsOK.cond u8 (ObsOK.cond u9 (ObsOK.cond u9 (ObsOK.cond u9 (ObsOK.cond u9 (ObsOK.cond u9 (ObsOK.cond u9 (ObsOK.cond u9 (ObsOK.cond u9 (ObsOK.cond u9 (ObsOK.cond u9 (ObsOK.cond u9 (ObsOK.cond u9 (ObsOK.cond u9 (ObsOK.cond u9 (ObsOK.cond u9 (ObsOK.cond u9 (ObsOK.cond u9 (ObsOK.cond u9 (ObsOK.cond u9 (ObsOK.cond u9 (ObsOK.cond u9 (ObsOK.cond u10 (ObsOK.cond u10 (ObsOK.cond u10 (ObsOK.cond u10 (ObsOK.cond u10 (ObsOK.cond u10 (ObsOK.cond u11 (ObsOK.cond u11 (ObsOK.cond u11 (ObsOK.cond u11 (ObsOK.cond u11 (ObsOK.cond u11 (ObsOK.cond u11 (ObsOK.cond u11 (ObsOK.cond u11 (ObsOK.cond u11 (ObsOK.cond u11 (ObsOK.cond u11 (ObsOK.cond u11 (ObsOK.cond u12 (ObsOK.cond u13 (ObsOK.cond kK (ObsOK.cond kC (ObsOK.cond q0 (ObsOK.cond q0 (ObsOK.cond q0 (ObsOK.cond q1 (ObsOK.cond q1 (ObsOK.cond q1 (ObsOK.cond q1 (ObsOK.cond q2 (ObsOK.cond kM (ObsOK.cond h0 (ObsOK.cond h0 (ObsOK.cond h0 (ObsOK.cond h0 (ObsOK.cond h0 (ObsOK.cond h0 (ObsOK.cond h0 (ObsOK.cond h1 (ObsOK.cond h1 (ObsOK.cond h1 (ObsOK.cond h1 (ObsOK.cond h1 (ObsOK.cond h1 (ObsOK.cond h1 (ObsOK.cond h1 (ObsOK.cond h1 (ObsOK.cond h1 (ObsOK.cond h1 (ObsOK.cond h1 (ObsOK.cond h1 (ObsOK.cond h1 (ObsOK.cond h1 (ObsOK.cond h1 (ObsOK.cond h1 (ObsOK.cond h1 (ObsOK.cond h1 (ObsOK.nil)))))))))))))))))))))))))))))))))))))))))))))))))))))))))))))))))))))))))))))))))))))))))))))))))))))))))))))))))))))))))))))
def laFFT_c0 (a : Int) (b : Int) (c : Int) (d : Int) (e : Int) (f : Int) (g : Int) (h : Int) (i : Int) (j : Int) (w : Int) : Bool := f35_r4 a b c d e f g h i j w == 0 && (f35_r5 a b c d e f g h i j w == 0 && true) && (f35_r6 a b c d e f g h i j w == 1 && (f35_r7 a b c d e f g h i j w == 0 && true) && true)
def laFFT_c1 (a : Int) (b : Int) (c : Int) (d : Int) (e : Int) (f : Int) (g : Int) (h : Int) (i : Int) (j : Int) (w : Int) : Bool := f34_r0 a b c d e f g h i j w == IntKind.i64.wrap (IntKind.i64.wrap (IntKind.i64.wrap (0 - w) * w) * f35_r0 a b c d e f g h i j w) && (f34_r1 a b c d e f g h i j w == IntKind.i64.wrap (IntKind.i64.wrap (IntKind.i64.wrap (0 - w) * w) * f35_r1 a b c d e f g h i j w) && true)
theorem laFFT_p0 (a : Int) (b : Int) (c : Int) (d : Int) (e : Int) (f : Int) (g : Int) (h : Int) (i : Int) (j : Int) (w : Int) (hd : (dErr a b c d e f != 0) = false) (hb : (bErr g h i j != 0) = false) (hw : (wErr w != 0) = false) (kK : (decide (IntKind.i64.wrap (IntKind.i64.wrap (w * w) * d) ≤ 5000)) = false) (kC : (f44_r6 a b c d e f g == 0) = false) (kM : (h == 0) = true) (u0 : (IntKind.i64.wrap (IntKind.i64.wrap (IntKind.i64.wrap (IntKind.i64.wrap (IntKind.i64.wrap (f17_r4 a b c d e f w + f18_r4 a b c d e f w) + f19_r4 a b c d e f w) + f33_r4 a b c d e f g h i j w) + f35_r8 a b c d e f g h i j w) + f34_r4 a b c d e f g h i j w) != 0) = false) (u1 : (!f81_r0 (f17_r0 a b c d e f w) (f17_r1 a b c d e f w) (f17_r2 a b c d e f w) (f17_r3 a b c d e f w)) = false) (u2 : (!f81_r0 (f18_r0 a b c d e f w) (f18_r1 a b c d e f w) (f18_r2 a b c d e f w) (f18_r3 a b c d e f w)) = false) (u3 : (!f81_r0 (f19_r0 a b c d e f w) (f19_r1 a b c d e f w) (f19_r2 a b c d e f w) (f19_r3 a b c d e f w)) = false) (u4 : (!f81_r0 (f33_r0 a b c d e f g h i j w) (f33_r1 a b c d e f g h i j w) (f33_r2 a b c d e f g h i j w) (f33_r3 a b c d e f g h i j w)) = false) (u5 : (!f81_r0 (f35_r0 a b c d e f g h i j w) (f35_r1 a b c d e f g h i j w) (f35_r2 a b c d e f g h i j w) (f35_r3 a b c d e f g h i j w)) = false) (u6 : (!f81_r0 (f35_r4 a b c d e f g h i j w) (f35_r5 a b c d e f g h i j w) (f35_r6 a b c d e f g h i j w) (f35_r7 a b c d e f g h i j w)) = false) (u7 : (!f81_r0 (f34_r0 a b c d e f g h i j w) (f34_r1 a b c d e f g h i j w) (f34_r2 a b c d e f g h i j w) (f34_r3 a b c d e f g h i j w)) = false) (u8 : (f17_r2 a b c d e f w == 0 && (f17_r3 a b c d e f w == 0 && true)) = false) (u9 : (f18_r2 a b c d e f w == 0 && (f18_r3 a b c d e f w == 0 && true)) = false) (u10 : (!(f19_r0 a b c d e f w == IntKind.i64.wrap (IntKind.i64.wrap (IntKind.i64.wrap (0 - w) * w) * f18_r0 a b c d e f w) && (f19_r1 a b c d e f w == IntKind.i64.wrap (IntKind.i64.wrap (IntKind.i64.wrap (0 - w) * w) * f18_r1 a b c d e f w) && true))) = false) (u11 : (!(f19_r2 a b c d e f w == f18_r2 a b c d e f w && (f19_r3 a b c d e f w == f18_r3 a b c d e f w && true))) = false) (u12 : (!(f33_r0 a b c d e f g h i j w == f35_r2 a b c d e f g h i j w && (f33_r1 a b c d e f g h i j w == f35_r3 a b c d e f g h i j w && true))) = false) (u13 : (decide (f82_r0 (f17_r0 a b c d e f w) (f17_r1 a b c d e f w) (f17_r2 a b c d e f w) (f83_r1 (f17_r2 a b c d e f w) (f17_r3 a b c d e f w)) < IntKind.i64.wrap (a * f84_r0 (f17_r2 a b c d e f w) (f17_r3 a b c d e f w)))) = false) (q0 : (f44_r6 a b c d e f g != 3) = false) (q1 : (decide (IntKind.i64.wrap (e + g) ≤ 5000)) = false) (h0 : laFFT_c0 a b c d e f g h i j w = true) (h1 : laFFT_c1 a b c d e f g h i j w = true) : Gives Tryz.prog envRa 0 11 [(.agg #[(.int .i64 (a)), (.int .i64 (b)), (.int .i64 (c)), (.int .i64 (d)), (.int .i64 (e)), (.int .i64 (f))]), (.agg #[(.int .i64 (g)), (.int .i64 (h)), (.int .i64 (i)), (.int .i64 (j))]), (.int .i64 (w))] heap0 ((.bool (f34_r2 a b c d e f g h i j w == f35_r2 a b c d e f g h i j w && (f34_r3 a b c d e f g h i j w == f35_r3 a b c d e f g h i j w && true))), heap0) :=
  Gives.by (n := 1000) (os := [.br 11 76 false, .br 11 76 false, .br 11 76 false, .br 11 85 false, .br 11 86 false, .br 11 86 false, .br 11 86 false, .br 11 95 false, .br 11 94 false, .br 11 200 false, .br 11 200 false, .br 11 200 false, .br 11 209 false, .br 11 210 false, .br 11 210 false, .br 11 210 false, .br 11 219 false, .br 11 220 false, .br 11 220 false, .br 11 220 false, .br 11 229 false, .br 11 230 false, .br 11 230 false, .br 11 230 false, .br 11 239 false, .br 11 240 false, .br 11 240 false, .br 11 240 false, .br 11 240 false, .br 11 251 false, .br 11 252 false, .br 11 252 false, .br 11 252 false, .br 11 252 false, .br 11 263 false, .br 11 264 false, .br 11 264 false, .br 11 264 false, .br 11 273 false, .br 11 272 false, .br 11 282 false, .br 11 282 false, .br 11 282 false, .br 11 282 false, .br 11 293 false, .br 11 294 false, .br 11 294 false, .br 11 294 false, .br 11 294 false, .br 11 294 false, .br 11 294 false, .br 11 294 false, .br 11 294 false, .br 11 294 false, .br 11 294 false, .br 11 294 false, .br 11 294 false, .br 11 294 false, .br 11 294 false, .br 11 294 false, .br 11 294 false, .br 11 294 false, .br 11 294 false, .br 11 294 false, .br 11 294 false, .br 11 337 false, .br 11 338 false, .br 11 338 false, .br 11 338 false, .br 11 338 false, .br 11 338 false, .br 11 351 false, .br 11 352 false, .br 11 352 false, .br 11 352 false, .br 11 352 false, .br 11 352 false, .br 11 365 false, .br 11 366 false, .br 11 366 false, .br 11 366 false, .br 11 366 false, .br 11 366 false, .br 11 366 false, .br 11 381 false, .br 11 380 false, .br 11 408 false, .br 11 424 false, .br 11 482 false, .br 11 540 false, .br 11 540 false, .br 11 540 false, .br 11 540 false, .br 11 540 false, .br 11 540 false, .br 11 555 false, .br 11 554 false, .br 11 560 true, .br 11 570 true, .br 11 570 true, .br 11 570 true, .br 11 570 true, .br 11 570 true, .br 11 570 true, .br 11 570 true, .br 11 570 true, .br 11 570 true, .br 11 570 true, .br 11 570 true, .br 11 570 true, .br 11 570 true, .br 11 570 true, .br 11 570 true, .br 11 570 true, .br 11 570 true, .br 11 570 true, .br 11 570 true, .br 11 570 true, .br 11 570 true, .br 11 570 true, .br 11 617 true, .br 11 618 true, .br 11 618 true, .br 11 618 true, .br 11 618 true, .br 11 618 true, .br 11 618 true, .br 11 633 true]) (os' := []) (by kernel_rfl) (ObsOK.cond hd (ObsOK.cond hd (ObsOK.cond hd (ObsOK.cond hd (ObsOK.cond hb (ObsOK.cond hb (ObsOK.cond hb (ObsOK.cond hb (ObsOK.cond hw (ObsOK.cond u0 (ObsOK.cond u0 (ObsOK.cond u0 (ObsOK.cond u0 (ObsOK.cond u1 (ObsOK.cond u1 (ObsOK.cond u1 (ObsOK.cond u1 (ObsOK.cond u2 (ObsOK.cond u2 (ObsOK.cond u2 (ObsOK.cond u2 (ObsOK.cond u3 (ObsOK.cond u3 (ObsOK.cond u3 (ObsOK.cond u3 (ObsOK.cond u4 (ObsOK.cond u4 (ObsOK.cond u4 (ObsOK.cond u4 (ObsOK.cond u4 (ObsOK.cond u5 (ObsOK.cond u5 (ObsOK.cond u5 (ObsOK.cond u5 (ObsOK.cond u5 (ObsOK.cond u6 (ObsOK.cond u6 (ObsOK.cond u6 (ObsOK.cond u6 (ObsOK.cond u7 (ObsOK.cond u8 (ObsOK.cond u8 (ObsOK.cond u8 (ObsOK.cond u8 (ObsOK.cond u8 (ObsOK.cond u9 (ObsOK.cond u9 (ObsOK.cond u9 (ObsOK.cond u9 (ObsOK.cond u9 (ObsOK.cond u9 (ObsOK.cond u9 (ObsOK.cond u9 (ObsOK.cond u9 (ObsOK.cond u9 (ObsOK.cond u9 (ObsOK.cond u9 (ObsOK.cond u9 (ObsOK.cond u9 (ObsOK.cond u9 (ObsOK.cond u9 (ObsOK.cond u9 (ObsOK.cond u9 (ObsOK.cond u9 (ObsOK.cond u9 (ObsOK.cond u9 (ObsOK.cond u10 (ObsOK.cond u10 (ObsOK.cond u10 (ObsOK.cond u10 (ObsOK.cond u10 (ObsOK.cond u10 (ObsOK.cond u11 (ObsOK.cond u11 (ObsOK.cond u11 (ObsOK.cond u11 (ObsOK.cond u11 (ObsOK.cond u11 (ObsOK.cond u11 (ObsOK.cond u11 (ObsOK.cond u11 (ObsOK.cond u11 (ObsOK.cond u11 (ObsOK.cond u11 (ObsOK.cond u11 (ObsOK.cond u12 (ObsOK.cond u13 (ObsOK.cond kK (ObsOK.cond kC (ObsOK.cond q0 (ObsOK.cond q0 (ObsOK.cond q0 (ObsOK.cond q0 (ObsOK.cond q0 (ObsOK.cond q0 (ObsOK.cond q0 (ObsOK.cond q1 (ObsOK.cond kM (ObsOK.cond h0 (ObsOK.cond h0 (ObsOK.cond h0 (ObsOK.cond h0 (ObsOK.cond h0 (ObsOK.cond h0 (ObsOK.cond h0 (ObsOK.cond h0 (ObsOK.cond h0 (ObsOK.cond h0 (ObsOK.cond h0 (ObsOK.cond h0 (ObsOK.cond h0 (ObsOK.cond h0 (ObsOK.cond h0 (ObsOK.cond h0 (ObsOK.cond h0 (ObsOK.cond h0 (ObsOK.cond h0 (ObsOK.cond h0 (ObsOK.cond h0 (ObsOK.cond h0 (ObsOK.cond h0 (ObsOK.cond h1 (ObsOK.cond h1 (ObsOK.cond h1 (ObsOK.cond h1 (ObsOK.cond h1 (ObsOK.cond h1 (ObsOK.cond h1 (ObsOK.nil)))))))))))))))))))))))))))))))))))))))))))))))))))))))))))))))))))))))))))))))))))))))))))))))))))))))))))))))))))))))))))))))))
def laFFF_c0 (a : Int) (b : Int) (c : Int) (d : Int) (e : Int) (f : Int) (g : Int) (h : Int) (i : Int) (j : Int) (w : Int) : Bool := f35_r6 a b c d e f g h i j w == f35_r2 a b c d e f g h i j w && (f35_r7 a b c d e f g h i j w == f35_r3 a b c d e f g h i j w && true)
def laFFF_c1 (a : Int) (b : Int) (c : Int) (d : Int) (e : Int) (f : Int) (g : Int) (h : Int) (i : Int) (j : Int) (w : Int) : Bool := f34_r2 a b c d e f g h i j w == f35_r2 a b c d e f g h i j w && (f34_r3 a b c d e f g h i j w == f35_r3 a b c d e f g h i j w && true)
theorem laFFF_p0 (a : Int) (b : Int) (c : Int) (d : Int) (e : Int) (f : Int) (g : Int) (h : Int) (i : Int) (j : Int) (w : Int) (hd : (dErr a b c d e f != 0) = false) (hb : (bErr g h i j != 0) = false) (hw : (wErr w != 0) = false) (kK : (decide (IntKind.i64.wrap (IntKind.i64.wrap (w * w) * d) ≤ 5000)) = false) (kC : (f44_r6 a b c d e f g == 0) = false) (kM : (h == 0) = false) (u0 : (IntKind.i64.wrap (IntKind.i64.wrap (IntKind.i64.wrap (IntKind.i64.wrap (IntKind.i64.wrap (f17_r4 a b c d e f w + f18_r4 a b c d e f w) + f19_r4 a b c d e f w) + f33_r4 a b c d e f g h i j w) + f35_r8 a b c d e f g h i j w) + f34_r4 a b c d e f g h i j w) != 0) = false) (u1 : (!f81_r0 (f17_r0 a b c d e f w) (f17_r1 a b c d e f w) (f17_r2 a b c d e f w) (f17_r3 a b c d e f w)) = false) (u2 : (!f81_r0 (f18_r0 a b c d e f w) (f18_r1 a b c d e f w) (f18_r2 a b c d e f w) (f18_r3 a b c d e f w)) = false) (u3 : (!f81_r0 (f19_r0 a b c d e f w) (f19_r1 a b c d e f w) (f19_r2 a b c d e f w) (f19_r3 a b c d e f w)) = false) (u4 : (!f81_r0 (f33_r0 a b c d e f g h i j w) (f33_r1 a b c d e f g h i j w) (f33_r2 a b c d e f g h i j w) (f33_r3 a b c d e f g h i j w)) = false) (u5 : (!f81_r0 (f35_r0 a b c d e f g h i j w) (f35_r1 a b c d e f g h i j w) (f35_r2 a b c d e f g h i j w) (f35_r3 a b c d e f g h i j w)) = false) (u6 : (!f81_r0 (f35_r4 a b c d e f g h i j w) (f35_r5 a b c d e f g h i j w) (f35_r6 a b c d e f g h i j w) (f35_r7 a b c d e f g h i j w)) = false) (u7 : (!f81_r0 (f34_r0 a b c d e f g h i j w) (f34_r1 a b c d e f g h i j w) (f34_r2 a b c d e f g h i j w) (f34_r3 a b c d e f g h i j w)) = false) (u8 : (f17_r2 a b c d e f w == 0 && (f17_r3 a b c d e f w == 0 && true)) = false) (u9 : (f18_r2 a b c d e f w == 0 && (f18_r3 a b c d e f w == 0 && true)) = false) (u10 : (!(f19_r0 a b c d e f w == IntKind.i64.wrap (IntKind.i64.wrap (IntKind.i64.wrap (0 - w) * w) * f18_r0 a b c d e f w) && (f19_r1 a b c d e f w == IntKind.i64.wrap (IntKind.i64.wrap (IntKind.i64.wrap (0 - w) * w) * f18_r1 a b c d e f w) && true))) = false) (u11 : (!(f19_r2 a b c d e f w == f18_r2 a b c d e f w && (f19_r3 a b c d e f w == f18_r3 a b c d e f w && true))) = false) (u12 : (!(f33_r0 a b c d e f g h i j w == f35_r2 a b c d e f g h i j w && (f33_r1 a b c d e f g h i j w == f35_r3 a b c d e f g h i j w && true))) = false) (u13 : (decide (f82_r0 (f17_r0 a b c d e f w) (f17_r1 a b c d e f w) (f17_r2 a b c d e f w) (f83_r1 (f17_r2 a b c d e f w) (f17_r3 a b c d e f w)) < IntKind.i64.wrap (a * f84_r0 (f17_r2 a b c d e f w) (f17_r3 a b c d e f w)))) = false) (q0 : (f44_r6 a b c d e f g != 3) = false) (q1 : (decide (IntKind.i64.wrap (e + g) ≤ 5000)) = false) (h0 : laFFF_c0 a b c d e f g h i j w = true) (h1 : laFFF_c1 a b c d e f g h i j w = true) : Gives Tryz.prog envRa 0 11 [(.agg #[(.int .i64 (a)), (.int .i64 (b)), (.int .i64 (c)), (.int .i64 (d)), (.int .i64 (e)), (.int .i64 (f))]), (.agg #[(.int .i64 (g)), (.int .i64 (h)), (.int .i64 (i)), (.int .i64 (j))]), (.int .i64 (w))] heap0 ((.bool (f34_r0 a b c d e f g h i j w == IntKind.i64.wrap (IntKind.i64.wrap (IntKind.i64.wrap (0 - w) * w) * f86_r0 (f35_r0 a b c d e f g h i j w) (f35_r1 a b c d e f g h i j w) (f35_r4 a b c d e f g h i j w) (f35_r5 a b c d e f g h i j w)) && (f34_r1 a b c d e f g h i j w == IntKind.i64.wrap (IntKind.i64.wrap (IntKind.i64.wrap (0 - w) * w) * f86_r1 (f35_r0 a b c d e f g h i j w) (f35_r1 a b c d e f g h i j w) (f35_r4 a b c d e f g h i j w) (f35_r5 a b c d e f g h i j w)) && true))), heap0) :=
  Gives.by (n := 1000) (os := [.br 11 76 false, .br 11 76 false, .br 11 76 false, .br 11 85 false, .br 11 86 false, .br 11 86 false, .br 11 86 false, .br 11 95 false, .br 11 94 false, .br 11 200 false, .br 11 200 false, .br 11 200 false, .br 11 209 false, .br 11 210 false, .br 11 210 false, .br 11 210 false, .br 11 219 false, .br 11 220 false, .br 11 220 false, .br 11 220 false, .br 11 229 false, .br 11 230 false, .br 11 230 false, .br 11 230 false, .br 11 239 false, .br 11 240 false, .br 11 240 false, .br 11 240 false, .br 11 240 false, .br 11 251 false, .br 11 252 false, .br 11 252 false, .br 11 252 false, .br 11 252 false, .br 11 263 false, .br 11 264 false, .br 11 264 false, .br 11 264 false, .br 11 273 false, .br 11 272 false, .br 11 282 false, .br 11 282 false, .br 11 282 false, .br 11 282 false, .br 11 293 false, .br 11 294 false, .br 11 294 false, .br 11 294 false, .br 11 294 false, .br 11 294 false, .br 11 294 false, .br 11 294 false, .br 11 294 false, .br 11 294 false, .br 11 294 false, .br 11 294 false, .br 11 294 false, .br 11 294 false, .br 11 294 false, .br 11 294 false, .br 11 294 false, .br 11 294 false, .br 11 294 false, .br 11 294 false, .br 11 294 false, .br 11 337 false, .br 11 338 false, .br 11 338 false, .br 11 338 false, .br 11 338 false, .br 11 338 false, .br 11 351 false, .br 11 352 false, .br 11 352 false, .br 11 352 false, .br 11 352 false, .br 11 352 false, .br 11 365 false, .br 11 366 false, .br 11 366 false, .br 11 366 false, .br 11 366 false, .br 11 366 false, .br 11 366 false, .br 11 381 false, .br 11 380 false, .br 11 408 false, .br 11 424 false, .br 11 482 false, .br 11 540 false, .br 11 540 false, .br 11 540 false, .br 11 540 false, .br 11 540 false, .br 11 540 false, .br 11 555 false, .br 11 554 false, .br 11 560 false, .br 11 662 true, .br 11 662 true, .br 11 662 true, .br 11 662 true, .br 11 662 true, .br 11 662 true, .br 11 677 true, .br 11 678 true, .br 11 678 true, .br 11 678 true, .br 11 678 true, .br 11 678 true, .br 11 678 true, .br 11 678 true, .br 11 678 true, .br 11 678 true, .br 11 678 true, .br 11 678 true, .br 11 678 true, .br 11 678 true, .br 11 678 true, .br 11 678 true, .br 11 678 true, .br 11 678 true, .br 11 678 true, .br 11 717 true]) (os' := []) (by kernel_rfl) (ObsOK.cond hd (ObsOK.cond hd (ObsOK.cond hd (ObsOK.cond hd (ObsOK.cond hb (ObsOK.cond hb (ObsOK.cond hb (ObsOK.cond hb (ObsOK.cond hw (ObsOK.cond u0 (ObsOK.cond u0 (ObsOK.cond u0 (ObsOK.cond u0 (ObsOK.cond u1 (ObsOK.cond u1 (ObsOK.cond u1 (ObsOK.cond u1 (ObsOK.cond u2 (ObsOK.cond u2 (ObsOK.cond u2 (ObsOK.cond u2 (ObsOK.cond u3 (ObsOK.cond u3 (ObsOK.cond u3 (ObsOK.cond u3 (ObsOK.cond u4 (ObsOK.cond u4 (ObsOK.cond u4 (ObsOK.cond u4 (ObsOK.cond u4 (ObsOK.cond u5 (ObsOK.cond u5 (ObsOK.cond u5 (ObsOK.cond u5 (ObsOK.cond u5 (ObsOK.cond u6 (ObsOK.cond u6 (ObsOK.cond u6 (ObsOK.cond u6 (ObsOK.cond u7 (ObsOK.cond u8 (ObsOK.cond u8 (ObsOK.cond u8 (ObsOK.cond u8 (ObsOK.cond u8 (ObsOK.cond u9 (ObsOK.cond u9 (ObsOK.cond u9 (ObsOK.cond u9 (ObsOK.cond u9 (ObsOK.cond u9 (ObsOK.cond u9 (ObsOK.cond u9 (ObsOK.cond u9 (ObsOK.cond u9 (ObsOK.cond u9 (ObsOK.cond u9 (ObsOK.cond u9 (ObsOK.cond u9 (ObsOK.cond u9 (ObsOK.cond u9 (ObsOK.cond u9 (ObsOK.cond u9 (ObsOK.cond u9 (ObsOK.cond u9 (ObsOK.cond u9 (ObsOK.cond u10 (ObsOK.cond u10 (ObsOK.cond u10 (ObsOK.cond u10 (ObsOK.cond u10 (ObsOK.cond u10 (ObsOK.cond u11 (ObsOK.cond u11 (ObsOK.cond u11 (ObsOK.cond u11 (ObsOK.cond u11 (ObsOK.cond u11 (ObsOK.cond u11 (ObsOK.cond u11 (ObsOK.cond u11 (ObsOK.cond u11 (ObsOK.cond u11 (ObsOK.cond u11 (ObsOK.cond u11 (ObsOK.cond u12 (ObsOK.cond u13 (ObsOK.cond kK (ObsOK.cond kC (ObsOK.cond q0 (ObsOK.cond q0 (ObsOK.cond q0 (ObsOK.cond q0 (ObsOK.cond q0 (ObsOK.cond q0 (ObsOK.cond q0 (ObsOK.cond q1 (ObsOK.cond kM (ObsOK.cond h0 (ObsOK.cond h0 (ObsOK.cond h0 (ObsOK.cond h0 (ObsOK.cond h0 (ObsOK.cond h0 (ObsOK.cond h0 (ObsOK.cond h1 (ObsOK.cond h1 (ObsOK.cond h1 (ObsOK.cond h1 (ObsOK.cond h1 (ObsOK.cond h1 (ObsOK.cond h1 (ObsOK.cond h1 (ObsOK.cond h1 (ObsOK.cond h1 (ObsOK.cond h1 (ObsOK.cond h1 (ObsOK.cond h1 (ObsOK.cond h1 (ObsOK.cond h1 (ObsOK.cond h1 (ObsOK.cond h1 (ObsOK.cond h1 (ObsOK.cond h1 (ObsOK.nil)))))))))))))))))))))))))))))))))))))))))))))))))))))))))))))))))))))))))))))))))))))))))))))))))))))))))))))))))))))))))))))
theorem laX_p0 (a : Int) (b : Int) (c : Int) (d : Int) (e : Int) (f : Int) (g : Int) (h : Int) (i : Int) (j : Int) (w : Int) (hd : (dErr a b c d e f != 0) = true) : Gives Tryz.prog envRa 0 11 [(.agg #[(.int .i64 (a)), (.int .i64 (b)), (.int .i64 (c)), (.int .i64 (d)), (.int .i64 (e)), (.int .i64 (f))]), (.agg #[(.int .i64 (g)), (.int .i64 (h)), (.int .i64 (i)), (.int .i64 (j))]), (.int .i64 (w))] heap0 ((.bool true), heap0) :=
  Gives.by (n := 1000) (os := [.br 11 76 true, .br 11 76 true, .br 11 76 true, .br 11 85 true]) (os' := []) (by kernel_rfl) (ObsOK.cond hd (ObsOK.cond hd (ObsOK.cond hd (ObsOK.cond hd (ObsOK.nil)))))
theorem laY_p0 (a : Int) (b : Int) (c : Int) (d : Int) (e : Int) (f : Int) (g : Int) (h : Int) (i : Int) (j : Int) (w : Int) (hd : (dErr a b c d e f != 0) = false) (hb : (bErr g h i j != 0) = true) : Gives Tryz.prog envRa 0 11 [(.agg #[(.int .i64 (a)), (.int .i64 (b)), (.int .i64 (c)), (.int .i64 (d)), (.int .i64 (e)), (.int .i64 (f))]), (.agg #[(.int .i64 (g)), (.int .i64 (h)), (.int .i64 (i)), (.int .i64 (j))]), (.int .i64 (w))] heap0 ((.bool true), heap0) :=
  Gives.by (n := 1000) (os := [.br 11 76 false, .br 11 76 false, .br 11 76 false, .br 11 85 false, .br 11 86 true, .br 11 86 true, .br 11 86 true, .br 11 95 true]) (os' := []) (by kernel_rfl) (ObsOK.cond hd (ObsOK.cond hd (ObsOK.cond hd (ObsOK.cond hd (ObsOK.cond hb (ObsOK.cond hb (ObsOK.cond hb (ObsOK.cond hb (ObsOK.nil)))))))))
theorem laZ_p0 (a : Int) (b : Int) (c : Int) (d : Int) (e : Int) (f : Int) (g : Int) (h : Int) (i : Int) (j : Int) (w : Int) (hd : (dErr a b c d e f != 0) = false) (hb : (bErr g h i j != 0) = false) (hw : (wErr w != 0) = true) : Gives Tryz.prog envRa 0 11 [(.agg #[(.int .i64 (a)), (.int .i64 (b)), (.int .i64 (c)), (.int .i64 (d)), (.int .i64 (e)), (.int .i64 (f))]), (.agg #[(.int .i64 (g)), (.int .i64 (h)), (.int .i64 (i)), (.int .i64 (j))]), (.int .i64 (w))] heap0 ((.bool true), heap0) :=
  Gives.by (n := 1000) (os := [.br 11 76 false, .br 11 76 false, .br 11 76 false, .br 11 85 false, .br 11 86 false, .br 11 86 false, .br 11 86 false, .br 11 95 false, .br 11 94 true]) (os' := []) (by kernel_rfl) (ObsOK.cond hd (ObsOK.cond hd (ObsOK.cond hd (ObsOK.cond hd (ObsOK.cond hb (ObsOK.cond hb (ObsOK.cond hb (ObsOK.cond hb (ObsOK.cond hw (ObsOK.nil))))))))))
end Go.Proofs.YtkndhhnjgpialaaGreatDoor
/-
Drivers and boxes that are valid: their numbers without wrapping.
-/
namespace Go.Proofs.YtkndhhnjgpialaaGreatDoor
open Go Go.Abs
theorem wErr_zero {w : Int} (h : (wErr w != 0) = false) : 1 ≤ w ∧ w ≤ 8 := by
  unfold wErr at h
  cases ho : okW w
  · rw [ho] at h; cases h
  · exact of_decide_eq_true ho
def Ae (d e w : Int) : Int := e - w * w * d
def Be (f w : Int) : Int := w * f
def Zr (a b d e f w : Int) : Int := a * Ae d e w - w * b * Be f w
def Zi (a b c d e f w : Int) : Int := a * Be f w + w * b * Ae d e w + w * c * c
/-- A frequency squared times a mass. -/
theorem ww_b {w d : Int} (hw : 1 ≤ w ∧ w ≤ 8) (hd : 0 ≤ d ∧ d ≤ 100) : 0 ≤ w * w * d ∧ w * w * d ≤ 6400 := by
  have h1 := prodB hw hw
  have h2 := mulB (x := w * w) (y := d) (a := 64) (b := 100) (by omega) (by omega)
  have h3 : 0 ≤ w * w * d := Int.mul_nonneg (by omega) (by omega)
  omega
theorem wj_b {w j : Int} (hw : 1 ≤ w ∧ w ≤ 8) (hj : 0 ≤ j ∧ j ≤ 100) : 0 ≤ w * j ∧ w * j ≤ 800 := by
  have h2 := mulB (x := w) (y := j) (a := 8) (b := 100) (by omega) (by omega)
  have h3 : 0 ≤ w * j := Int.mul_nonneg (by omega) (by omega)
  omega
theorem mx {x y m : Int} (h : x ≤ m) (h' : y ≤ m) : (if y > x then y else x) ≤ m := by split <;> assumption
theorem mn {x y m : Int} (h : m ≤ x) (h' : m ≤ y) : m ≤ (if y < x then y else x) := by split <;> assumption
theorem f81_ok {p q r s : Int} (hp : -1099511627776 ≤ p ∧ p ≤ 1099511627776) (hq : -1099511627776 ≤ q ∧ q ≤ 1099511627776) (hr : -1099511627776 ≤ r ∧ r ≤ 1099511627776) (hs : -1099511627776 ≤ s ∧ s ≤ 1099511627776) : f81_r0 p q r s = true := by
  have e0 : f81_c0 p q r s = false := by
    unfold f81_c0
    rw [wSmall (x := 0 - p) (by omega) (by omega), wSmall (x := 0 - q) (by omega) (by omega)]
    exact decide_eq_false (Int.not_lt.2 (mx (mx (mx hp.2 (by omega)) hq.2) (by omega)))
  have e1 : f81_c1 p q r s = false := decide_eq_false (Int.not_lt.2 (mn hp.1 hq.1))
  have e2 : f81_c2 p q r s = false := by
    unfold f81_c2
    rw [wSmall (x := 0 - r) (by omega) (by omega), wSmall (x := 0 - s) (by omega) (by omega)]
    exact decide_eq_false (Int.not_lt.2 (mx (mx (mx hr.2 (by omega)) hs.2) (by omega)))
  have e3 : f81_c3 p q r s = false := decide_eq_false (Int.not_lt.2 (mn hr.1 hs.1))
  simp only [f81_r0, e0, e1, e2, e3, cond_false]
section
variable {a b c d e f g h i j w : Int}
theorem Ae_b (hw : 1 ≤ w ∧ w ≤ 8) (hd : 1 ≤ d ∧ d ≤ 100) (he : 1 ≤ e ∧ e ≤ 10000) : -11400 ≤ Ae d e w ∧ Ae d e w ≤ 11400 := by
  have h1 := ww_b hw (d := d) (by omega)
  unfold Ae; omega
theorem Be_b (hw : 1 ≤ w ∧ w ≤ 8) (hf : 1 ≤ f ∧ f ≤ 100) : 1 ≤ Be f w ∧ Be f w ≤ 800 := by
  have := prodB hw hf
  unfold Be; omega
theorem wcc_b (hw : 1 ≤ w ∧ w ≤ 8) (hc : 1 ≤ c ∧ c ≤ 20) : 1 ≤ w * c * c ∧ w * c * c ≤ 3200 := by
  have h1 := prodB hw hc
  have h2 := prodB h1 hc
  omega
theorem wb_b (hw : 1 ≤ w ∧ w ≤ 8) (hb : 0 ≤ b ∧ b ≤ 10) : 0 ≤ w * b ∧ w * b ≤ 80 := by
  have h2 := mulB (x := w) (y := b) (a := 8) (b := 10) (by omega) (by omega)
  have h3 : 0 ≤ w * b := Int.mul_nonneg (by omega) (by omega)
  omega
theorem wwc_b (hw : 1 ≤ w ∧ w ≤ 8) (hc : 1 ≤ c ∧ c ≤ 20) : 1 ≤ w * w * c ∧ w * w * c ≤ 1280 := by
  have h1 := prodB hw hw
  have h2 := prodB h1 hc
  omega
theorem Z_b (hw : 1 ≤ w ∧ w ≤ 8) (ha : 1 ≤ a ∧ a ≤ 50) (hb : 0 ≤ b ∧ b ≤ 10) (hc : 1 ≤ c ∧ c ≤ 20) (hd : 1 ≤ d ∧ d ≤ 100) (he : 1 ≤ e ∧ e ≤ 10000) (hf : 1 ≤ f ∧ f ≤ 100) : (-10000000 ≤ Zr a b d e f w ∧ Zr a b d e f w ≤ 10000000) ∧ (-10000000 ≤ Zi a b c d e f w ∧ Zi a b c d e f w ≤ 10000000) := by
  have h1 := Ae_b hw hd he
  have h2 := Be_b hw hf
  have h3 := wb_b hw hb
  have h4 := wcc_b hw hc
  have p1 := mulB (x := a) (y := Ae d e w) (a := 50) (b := 11400) (by omega) h1
  have p2 := mulB (x := w * b) (y := Be f w) (a := 80) (b := 800) (by omega) (by omega)
  have p3 := mulB (x := a) (y := Be f w) (a := 50) (b := 800) (by omega) (by omega)
  have p4 := mulB (x := w * b) (y := Ae d e w) (a := 80) (b := 11400) (by omega) h1
  unfold Zr Zi
  omega
end
section
variable {a b c d e f w : Int} (hd : (dErr a b c d e f != 0) = false) (hw : (wErr w != 0) = false)
include hd hw
theorem v16_0 : f16_r0 a b c d e f w = Ae d e w := by
  have hD := dErr_zero hd
  have hW := wErr_zero hw
  have hz := Z_b hW hD.1 hD.2.1 hD.2.2.1 hD.2.2.2.1 (e := e) (by omega) hD.2.2.2.2.2
  have ha := Ae_b hW hD.2.2.2.1 (e := e) (by omega)
  have hB := Be_b hW hD.2.2.2.2.2
  have hc := wwc_b hW hD.2.2.1
  have h1 : f16_r0 a b c d e f w = IntKind.i64.wrap (Ae d e w) := by
    simp only [f16_r0, f90_r0, f90_c0, f90_c1, hd, hw, cond_false, f144_r0, f144_r1, f144_r2, f144_r3, f144_r4, f144_r5, f144_r6, f144_r7, f144_r8, f144_r9, f144_r14, f144_r15, f144_r16, f144_r17, f150_r0, f150_r1, f150_r2, f150_r3, f150_r4, f150_r5, f150_r6, f150_r7, f150_r8, f150_r9, f150_r10, f150_r11, f150_r12, f150_r13, f150_r14, f150_r15, f150_r16, f150_r17, f151_r0, f151_r1, f177_r0, f177_r1, f149_r0, f149_r1, wAdd_l, wAdd_r, wSub_l, wSub_r, wMul_l, wMul_r, wWrap, Ae, Be, Zr, Zi]
    try (congr 1; grind)
  rw [h1, wSmall (by omega) (by omega)]
theorem v16_1 : f16_r1 a b c d e f w = Be f w := by
  have hD := dErr_zero hd
  have hW := wErr_zero hw
  have hz := Z_b hW hD.1 hD.2.1 hD.2.2.1 hD.2.2.2.1 (e := e) (by omega) hD.2.2.2.2.2
  have ha := Ae_b hW hD.2.2.2.1 (e := e) (by omega)
  have hB := Be_b hW hD.2.2.2.2.2
  have hc := wwc_b hW hD.2.2.1
  have h1 : f16_r1 a b c d e f w = IntKind.i64.wrap (Be f w) := by
    simp only [f16_r1, f90_r1, f90_c0, f90_c1, hd, hw, cond_false, f144_r0, f144_r1, f144_r2, f144_r3, f144_r4, f144_r5, f144_r6, f144_r7, f144_r8, f144_r9, f144_r14, f144_r15, f144_r16, f144_r17, f150_r0, f150_r1, f150_r2, f150_r3, f150_r4, f150_r5, f150_r6, f150_r7, f150_r8, f150_r9, f150_r10, f150_r11, f150_r12, f150_r13, f150_r14, f150_r15, f150_r16, f150_r17, f151_r0, f151_r1, f177_r0, f177_r1, f149_r0, f149_r1, wAdd_l, wAdd_r, wSub_l, wSub_r, wMul_l, wMul_r, wWrap, Ae, Be, Zr, Zi]
    try (congr 1; grind)
  rw [h1, wSmall (by omega) (by omega)]
theorem v17_0 : f17_r0 a b c d e f w = Zr a b d e f w := by
  have hD := dErr_zero hd
  have hW := wErr_zero hw
  have hz := Z_b hW hD.1 hD.2.1 hD.2.2.1 hD.2.2.2.1 (e := e) (by omega) hD.2.2.2.2.2
  have ha := Ae_b hW hD.2.2.2.1 (e := e) (by omega)
  have hB := Be_b hW hD.2.2.2.2.2
  have hc := wwc_b hW hD.2.2.1
  have h1 : f17_r0 a b c d e f w = IntKind.i64.wrap (Zr a b d e f w) := by
    simp only [f17_r0, f90_r2, f90_c0, f90_c1, hd, hw, cond_false, f144_r0, f144_r1, f144_r2, f144_r3, f144_r4, f144_r5, f144_r6, f144_r7, f144_r8, f144_r9, f144_r14, f144_r15, f144_r16, f144_r17, f150_r0, f150_r1, f150_r2, f150_r3, f150_r4, f150_r5, f150_r6, f150_r7, f150_r8, f150_r9, f150_r10, f150_r11, f150_r12, f150_r13, f150_r14, f150_r15, f150_r16, f150_r17, f151_r0, f151_r1, f177_r0, f177_r1, f149_r0, f149_r1, wAdd_l, wAdd_r, wSub_l, wSub_r, wMul_l, wMul_r, wWrap, Ae, Be, Zr, Zi]
    try (congr 1; grind)
  rw [h1, wSmall (by omega) (by omega)]
theorem v17_1 : f17_r1 a b c d e f w = Zi a b c d e f w := by
  have hD := dErr_zero hd
  have hW := wErr_zero hw
  have hz := Z_b hW hD.1 hD.2.1 hD.2.2.1 hD.2.2.2.1 (e := e) (by omega) hD.2.2.2.2.2
  have ha := Ae_b hW hD.2.2.2.1 (e := e) (by omega)
  have hB := Be_b hW hD.2.2.2.2.2
  have hc := wwc_b hW hD.2.2.1
  have h1 : f17_r1 a b c d e f w = IntKind.i64.wrap (Zi a b c d e f w) := by
    simp only [f17_r1, f90_r3, f90_c0, f90_c1, hd, hw, cond_false, f144_r0, f144_r1, f144_r2, f144_r3, f144_r4, f144_r5, f144_r6, f144_r7, f144_r8, f144_r9, f144_r14, f144_r15, f144_r16, f144_r17, f150_r0, f150_r1, f150_r2, f150_r3, f150_r4, f150_r5, f150_r6, f150_r7, f150_r8, f150_r9, f150_r10, f150_r11, f150_r12, f150_r13, f150_r14, f150_r15, f150_r16, f150_r17, f151_r0, f151_r1, f177_r0, f177_r1, f149_r0, f149_r1, wAdd_l, wAdd_r, wSub_l, wSub_r, wMul_l, wMul_r, wWrap, Ae, Be, Zr, Zi]
    try (congr 1; grind)
  rw [h1, wSmall (by omega) (by omega)]
theorem v17_2 : f17_r2 a b c d e f w = Ae d e w := by
  have hD := dErr_zero hd
  have hW := wErr_zero hw
  have hz := Z_b hW hD.1 hD.2.1 hD.2.2.1 hD.2.2.2.1 (e := e) (by omega) hD.2.2.2.2.2
  have ha := Ae_b hW hD.2.2.2.1 (e := e) (by omega)
  have hB := Be_b hW hD.2.2.2.2.2
  have hc := wwc_b hW hD.2.2.1
  have h1 : f17_r2 a b c d e f w = IntKind.i64.wrap (Ae d e w) := by
    simp only [f17_r2, f90_r4, f90_c0, f90_c1, hd, hw, cond_false, f144_r0, f144_r1, f144_r2, f144_r3, f144_r4, f144_r5, f144_r6, f144_r7, f144_r8, f144_r9, f144_r14, f144_r15, f144_r16, f144_r17, f150_r0, f150_r1, f150_r2, f150_r3, f150_r4, f150_r5, f150_r6, f150_r7, f150_r8, f150_r9, f150_r10, f150_r11, f150_r12, f150_r13, f150_r14, f150_r15, f150_r16, f150_r17, f151_r0, f151_r1, f177_r0, f177_r1, f149_r0, f149_r1, wAdd_l, wAdd_r, wSub_l, wSub_r, wMul_l, wMul_r, wWrap, Ae, Be, Zr, Zi]
    try (congr 1; grind)
  rw [h1, wSmall (by omega) (by omega)]
theorem v17_3 : f17_r3 a b c d e f w = Be f w := by
  have hD := dErr_zero hd
  have hW := wErr_zero hw
  have hz := Z_b hW hD.1 hD.2.1 hD.2.2.1 hD.2.2.2.1 (e := e) (by omega) hD.2.2.2.2.2
  have ha := Ae_b hW hD.2.2.2.1 (e := e) (by omega)
  have hB := Be_b hW hD.2.2.2.2.2
  have hc := wwc_b hW hD.2.2.1
  have h1 : f17_r3 a b c d e f w = IntKind.i64.wrap (Be f w) := by
    simp only [f17_r3, f90_r5, f90_c0, f90_c1, hd, hw, cond_false, f144_r0, f144_r1, f144_r2, f144_r3, f144_r4, f144_r5, f144_r6, f144_r7, f144_r8, f144_r9, f144_r14, f144_r15, f144_r16, f144_r17, f150_r0, f150_r1, f150_r2, f150_r3, f150_r4, f150_r5, f150_r6, f150_r7, f150_r8, f150_r9, f150_r10, f150_r11, f150_r12, f150_r13, f150_r14, f150_r15, f150_r16, f150_r17, f151_r0, f151_r1, f177_r0, f177_r1, f149_r0, f149_r1, wAdd_l, wAdd_r, wSub_l, wSub_r, wMul_l, wMul_r, wWrap, Ae, Be, Zr, Zi]
    try (congr 1; grind)
  rw [h1, wSmall (by omega) (by omega)]
theorem v18_0 : f18_r0 a b c d e f w = c := by
  have hD := dErr_zero hd
  have hW := wErr_zero hw
  have hz := Z_b hW hD.1 hD.2.1 hD.2.2.1 hD.2.2.2.1 (e := e) (by omega) hD.2.2.2.2.2
  have ha := Ae_b hW hD.2.2.2.1 (e := e) (by omega)
  have hB := Be_b hW hD.2.2.2.2.2
  have hc := wwc_b hW hD.2.2.1
  have h1 : f18_r0 a b c d e f w = IntKind.i64.wrap (c) := by
    simp only [f18_r0, f90_r6, f90_c0, f90_c1, hd, hw, cond_false, f144_r0, f144_r1, f144_r2, f144_r3, f144_r4, f144_r5, f144_r6, f144_r7, f144_r8, f144_r9, f144_r14, f144_r15, f144_r16, f144_r17, f150_r0, f150_r1, f150_r2, f150_r3, f150_r4, f150_r5, f150_r6, f150_r7, f150_r8, f150_r9, f150_r10, f150_r11, f150_r12, f150_r13, f150_r14, f150_r15, f150_r16, f150_r17, f151_r0, f151_r1, f177_r0, f177_r1, f149_r0, f149_r1, wAdd_l, wAdd_r, wSub_l, wSub_r, wMul_l, wMul_r, wWrap, Ae, Be, Zr, Zi]
    try (congr 1; grind)
  rw [h1, wSmall (by omega) (by omega)]
theorem v18_1 : f18_r1 a b c d e f w = (0 : Int) := by
  have hD := dErr_zero hd
  have hW := wErr_zero hw
  have hz := Z_b hW hD.1 hD.2.1 hD.2.2.1 hD.2.2.2.1 (e := e) (by omega) hD.2.2.2.2.2
  have ha := Ae_b hW hD.2.2.2.1 (e := e) (by omega)
  have hB := Be_b hW hD.2.2.2.2.2
  have hc := wwc_b hW hD.2.2.1
  have h1 : f18_r1 a b c d e f w = IntKind.i64.wrap ((0 : Int)) := by
    simp only [f18_r1, f90_r7, f90_c0, f90_c1, hd, hw, cond_false, f144_r0, f144_r1, f144_r2, f144_r3, f144_r4, f144_r5, f144_r6, f144_r7, f144_r8, f144_r9, f144_r14, f144_r15, f144_r16, f144_r17, f150_r0, f150_r1, f150_r2, f150_r3, f150_r4, f150_r5, f150_r6, f150_r7, f150_r8, f150_r9, f150_r10, f150_r11, f150_r12, f150_r13, f150_r14, f150_r15, f150_r16, f150_r17, f151_r0, f151_r1, f177_r0, f177_r1, f149_r0, f149_r1, wAdd_l, wAdd_r, wSub_l, wSub_r, wMul_l, wMul_r, wWrap, Ae, Be, Zr, Zi]
    try (congr 1; grind)
  rw [h1, wSmall (by omega) (by omega)]
theorem v18_2 : f18_r2 a b c d e f w = Zr a b d e f w := by
  have hD := dErr_zero hd
  have hW := wErr_zero hw
  have hz := Z_b hW hD.1 hD.2.1 hD.2.2.1 hD.2.2.2.1 (e := e) (by omega) hD.2.2.2.2.2
  have ha := Ae_b hW hD.2.2.2.1 (e := e) (by omega)
  have hB := Be_b hW hD.2.2.2.2.2
  have hc := wwc_b hW hD.2.2.1
  have h1 : f18_r2 a b c d e f w = IntKind.i64.wrap (Zr a b d e f w) := by
    simp only [f18_r2, f90_r8, f90_c0, f90_c1, hd, hw, cond_false, f144_r0, f144_r1, f144_r2, f144_r3, f144_r4, f144_r5, f144_r6, f144_r7, f144_r8, f144_r9, f144_r14, f144_r15, f144_r16, f144_r17, f150_r0, f150_r1, f150_r2, f150_r3, f150_r4, f150_r5, f150_r6, f150_r7, f150_r8, f150_r9, f150_r10, f150_r11, f150_r12, f150_r13, f150_r14, f150_r15, f150_r16, f150_r17, f151_r0, f151_r1, f177_r0, f177_r1, f149_r0, f149_r1, wAdd_l, wAdd_r, wSub_l, wSub_r, wMul_l, wMul_r, wWrap, Ae, Be, Zr, Zi]
    try (congr 1; grind)
  rw [h1, wSmall (by omega) (by omega)]
theorem v18_3 : f18_r3 a b c d e f w = Zi a b c d e f w := by
  have hD := dErr_zero hd
  have hW := wErr_zero hw
  have hz := Z_b hW hD.1 hD.2.1 hD.2.2.1 hD.2.2.2.1 (e := e) (by omega) hD.2.2.2.2.2
  have ha := Ae_b hW hD.2.2.2.1 (e := e) (by omega)
  have hB := Be_b hW hD.2.2.2.2.2
  have hc := wwc_b hW hD.2.2.1
  have h1 : f18_r3 a b c d e f w = IntKind.i64.wrap (Zi a b c d e f w) := by
    simp only [f18_r3, f90_r9, f90_c0, f90_c1, hd, hw, cond_false, f144_r0, f144_r1, f144_r2, f144_r3, f144_r4, f144_r5, f144_r6, f144_r7, f144_r8, f144_r9, f144_r14, f144_r15, f144_r16, f144_r17, f150_r0, f150_r1, f150_r2, f150_r3, f150_r4, f150_r5, f150_r6, f150_r7, f150_r8, f150_r9, f150_r10, f150_r11, f150_r12, f150_r13, f150_r14, f150_r15, f150_r16, f150_r17, f151_r0, f151_r1, f177_r0, f177_r1, f149_r0, f149_r1, wAdd_l, wAdd_r, wSub_l, wSub_r, wMul_l, wMul_r, wWrap, Ae, Be, Zr, Zi]
    try (congr 1; grind)
  rw [h1, wSmall (by omega) (by omega)]
theorem v19_0 : f19_r0 a b c d e f w = -(w * w * c) := by
  have hD := dErr_zero hd
  have hW := wErr_zero hw
  have hz := Z_b hW hD.1 hD.2.1 hD.2.2.1 hD.2.2.2.1 (e := e) (by omega) hD.2.2.2.2.2
  have ha := Ae_b hW hD.2.2.2.1 (e := e) (by omega)
  have hB := Be_b hW hD.2.2.2.2.2
  have hc := wwc_b hW hD.2.2.1
  have h1 : f19_r0 a b c d e f w = IntKind.i64.wrap (-(w * w * c)) := by
    simp only [f19_r0, f90_r14, f90_c0, f90_c1, hd, hw, cond_false, f144_r0, f144_r1, f144_r2, f144_r3, f144_r4, f144_r5, f144_r6, f144_r7, f144_r8, f144_r9, f144_r14, f144_r15, f144_r16, f144_r17, f150_r0, f150_r1, f150_r2, f150_r3, f150_r4, f150_r5, f150_r6, f150_r7, f150_r8, f150_r9, f150_r10, f150_r11, f150_r12, f150_r13, f150_r14, f150_r15, f150_r16, f150_r17, f151_r0, f151_r1, f177_r0, f177_r1, f149_r0, f149_r1, wAdd_l, wAdd_r, wSub_l, wSub_r, wMul_l, wMul_r, wWrap, Ae, Be, Zr, Zi]
    try (congr 1; grind)
  rw [h1, wSmall (by omega) (by omega)]
theorem v19_1 : f19_r1 a b c d e f w = (0 : Int) := by
  have hD := dErr_zero hd
  have hW := wErr_zero hw
  have hz := Z_b hW hD.1 hD.2.1 hD.2.2.1 hD.2.2.2.1 (e := e) (by omega) hD.2.2.2.2.2
  have ha := Ae_b hW hD.2.2.2.1 (e := e) (by omega)
  have hB := Be_b hW hD.2.2.2.2.2
  have hc := wwc_b hW hD.2.2.1
  have h1 : f19_r1 a b c d e f w = IntKind.i64.wrap ((0 : Int)) := by
    simp only [f19_r1, f90_r15, f90_c0, f90_c1, hd, hw, cond_false, f144_r0, f144_r1, f144_r2, f144_r3, f144_r4, f144_r5, f144_r6, f144_r7, f144_r8, f144_r9, f144_r14, f144_r15, f144_r16, f144_r17, f150_r0, f150_r1, f150_r2, f150_r3, f150_r4, f150_r5, f150_r6, f150_r7, f150_r8, f150_r9, f150_r10, f150_r11, f150_r12, f150_r13, f150_r14, f150_r15, f150_r16, f150_r17, f151_r0, f151_r1, f177_r0, f177_r1, f149_r0, f149_r1, wAdd_l, wAdd_r, wSub_l, wSub_r, wMul_l, wMul_r, wWrap, Ae, Be, Zr, Zi]
    try (congr 1; grind)
  rw [h1, wSmall (by omega) (by omega)]
theorem v19_2 : f19_r2 a b c d e f w = Zr a b d e f w := by
  have hD := dErr_zero hd
  have hW := wErr_zero hw
  have hz := Z_b hW hD.1 hD.2.1 hD.2.2.1 hD.2.2.2.1 (e := e) (by omega) hD.2.2.2.2.2
  have ha := Ae_b hW hD.2.2.2.1 (e := e) (by omega)
  have hB := Be_b hW hD.2.2.2.2.2
  have hc := wwc_b hW hD.2.2.1
  have h1 : f19_r2 a b c d e f w = IntKind.i64.wrap (Zr a b d e f w) := by
    simp only [f19_r2, f90_r16, f90_c0, f90_c1, hd, hw, cond_false, f144_r0, f144_r1, f144_r2, f144_r3, f144_r4, f144_r5, f144_r6, f144_r7, f144_r8, f144_r9, f144_r14, f144_r15, f144_r16, f144_r17, f150_r0, f150_r1, f150_r2, f150_r3, f150_r4, f150_r5, f150_r6, f150_r7, f150_r8, f150_r9, f150_r10, f150_r11, f150_r12, f150_r13, f150_r14, f150_r15, f150_r16, f150_r17, f151_r0, f151_r1, f177_r0, f177_r1, f149_r0, f149_r1, wAdd_l, wAdd_r, wSub_l, wSub_r, wMul_l, wMul_r, wWrap, Ae, Be, Zr, Zi]
    try (congr 1; grind)
  rw [h1, wSmall (by omega) (by omega)]
theorem v19_3 : f19_r3 a b c d e f w = Zi a b c d e f w := by
  have hD := dErr_zero hd
  have hW := wErr_zero hw
  have hz := Z_b hW hD.1 hD.2.1 hD.2.2.1 hD.2.2.2.1 (e := e) (by omega) hD.2.2.2.2.2
  have ha := Ae_b hW hD.2.2.2.1 (e := e) (by omega)
  have hB := Be_b hW hD.2.2.2.2.2
  have hc := wwc_b hW hD.2.2.1
  have h1 : f19_r3 a b c d e f w = IntKind.i64.wrap (Zi a b c d e f w) := by
    simp only [f19_r3, f90_r17, f90_c0, f90_c1, hd, hw, cond_false, f144_r0, f144_r1, f144_r2, f144_r3, f144_r4, f144_r5, f144_r6, f144_r7, f144_r8, f144_r9, f144_r14, f144_r15, f144_r16, f144_r17, f150_r0, f150_r1, f150_r2, f150_r3, f150_r4, f150_r5, f150_r6, f150_r7, f150_r8, f150_r9, f150_r10, f150_r11, f150_r12, f150_r13, f150_r14, f150_r15, f150_r16, f150_r17, f151_r0, f151_r1, f177_r0, f177_r1, f149_r0, f149_r1, wAdd_l, wAdd_r, wSub_l, wSub_r, wMul_l, wMul_r, wWrap, Ae, Be, Zr, Zi]
    try (congr 1; grind)
  rw [h1, wSmall (by omega) (by omega)]
end
end Go.Proofs.YtkndhhnjgpialaaGreatDoor
/-
Drivers in boxes that are valid: their numbers without wrapping.
-/
namespace Go.Proofs.YtkndhhnjgpialaaGreatDoor
open Go Go.Abs
def Dr (d e f g h i j w : Int) : Int := Ae d e w * (g + Ae h i w) - Be f w * Be j w + g * Ae h i w
def Di (d e f g h i j w : Int) : Int := Ae d e w * Be j w + Be f w * (g + Ae h i w) + g * Be j w
def Nr (a b c d e f g h i j w : Int) : Int := a * Dr d e f g h i j w - w * b * Di d e f g h i j w - w * c * c * Be j w
def Ni (a b c d e f g h i j w : Int) : Int := a * Di d e f g h i j w + w * b * Dr d e f g h i j w + w * c * c * (g + Ae h i w)
section
variable {a b c d e f g h i j w : Int}
theorem Pt_b (hw : 1 ≤ w ∧ w ≤ 8) (hh : 1 ≤ h ∧ h ≤ 100) (hi : 0 ≤ i ∧ i ≤ 5000) : -11400 ≤ Ae h i w ∧ Ae h i w ≤ 5000 := by
  have h1 := ww_b hw (d := h) (by omega)
  unfold Ae; omega
theorem D_b (hw : 1 ≤ w ∧ w ≤ 8) (hd : 1 ≤ d ∧ d ≤ 100) (he : 1 ≤ e ∧ e ≤ 10000) (hf : 1 ≤ f ∧ f ≤ 100) (hg : 1 ≤ g ∧ g ≤ 5000) (hh : 1 ≤ h ∧ h ≤ 100) (hi : 0 ≤ i ∧ i ≤ 5000) (hj : 1 ≤ j ∧ j ≤ 100) :
    (-200000000 ≤ Dr d e f g h i j w ∧ Dr d e f g h i j w ≤ 200000000) ∧ (-200000000 ≤ Di d e f g h i j w ∧ Di d e f g h i j w ≤ 200000000) := by
  have h1 := Ae_b hw hd he
  have h2 := Be_b hw hf
  have h3 := Pt_b hw hh hi
  have h4 := Be_b hw hj
  have p1 := mulB (x := Ae d e w) (y := g + Ae h i w) (a := 11400) (b := 11400) h1 (by omega)
  have p2 := mulB (x := Be f w) (y := Be j w) (a := 800) (b := 800) (by omega) (by omega)
  have p3 := mulB (x := g) (y := Ae h i w) (a := 5000) (b := 11400) (by omega) (by omega)
  have p4 := mulB (x := Ae d e w) (y := Be j w) (a := 11400) (b := 800) h1 (by omega)
  have p5 := mulB (x := Be f w) (y := g + Ae h i w) (a := 800) (b := 11400) (by omega) (by omega)
  have p6 := mulB (x := g) (y := Be j w) (a := 5000) (b := 800) (by omega) (by omega)
  unfold Dr Di
  omega
theorem N_b (hw : 1 ≤ w ∧ w ≤ 8) (ha : 1 ≤ a ∧ a ≤ 50) (hb : 0 ≤ b ∧ b ≤ 10) (hc : 1 ≤ c ∧ c ≤ 20) (hd : 1 ≤ d ∧ d ≤ 100) (he : 1 ≤ e ∧ e ≤ 10000) (hf : 1 ≤ f ∧ f ≤ 100) (hg : 1 ≤ g ∧ g ≤ 5000) (hh : 1 ≤ h ∧ h ≤ 100) (hi : 0 ≤ i ∧ i ≤ 5000) (hj : 1 ≤ j ∧ j ≤ 100) :
    (-100000000000 ≤ Nr a b c d e f g h i j w ∧ Nr a b c d e f g h i j w ≤ 100000000000) ∧ (-100000000000 ≤ Ni a b c d e f g h i j w ∧ Ni a b c d e f g h i j w ≤ 100000000000) := by
  obtain ⟨h1, h2⟩ := D_b hw hd he hf hg hh hi hj
  have h3 := wb_b hw hb
  have h4 := wcc_b hw hc
  have h5 := Pt_b hw hh hi
  have h6 := Be_b hw hj
  have p1 := mulB (x := a) (y := Dr d e f g h i j w) (a := 50) (b := 200000000) (by omega) h1
  have p2 := mulB (x := w * b) (y := Di d e f g h i j w) (a := 80) (b := 200000000) (by omega) h2
  have p3 := mulB (x := w * c * c) (y := Be j w) (a := 3200) (b := 800) (by omega) (by omega)
  have p4 := mulB (x := a) (y := Di d e f g h i j w) (a := 50) (b := 200000000) (by omega) h2
  have p5 := mulB (x := w * b) (y := Dr d e f g h i j w) (a := 80) (b := 200000000) (by omega) h1
  have p6 := mulB (x := w * c * c) (y := g + Ae h i w) (a := 3200) (b := 11400) (by omega) (by omega)
  unfold Nr Ni
  omega
end
section
variable {a b c d e f g i j w : Int} (hd : (dErr a b c d e f != 0) = false) (hb : (bErr g 0 i j != 0) = false) (hw : (wErr w != 0) = false)
include hd hb hw
theorem x33_0 : f33_r0 a b c d e f g 0 i j w = Zr a b d (e + g) f w := by
  have hD := dErr_zero hd
  have hW := wErr_zero hw
  have hG := bErr_zero hb
  have hz := Z_b hW hD.1 hD.2.1 hD.2.2.1 hD.2.2.2.1 (e := e + g) (by omega) hD.2.2.2.2.2
  have ha := Ae_b hW hD.2.2.2.1 (e := e + g) (by omega)
  have hB := Be_b hW hD.2.2.2.2.2
  have hc := wwc_b hW hD.2.2.1
  have h1 : f33_r0 a b c d e f g 0 i j w = IntKind.i64.wrap (Zr a b d (e + g) f w) := by
    simp only [f33_r0, f104_r2, f104_c0, f104_c1, f104_c2, f104_c3, hd, hb, hw, show (!(0 : Int) != 0) = true from rfl, cond_true, cond_false, f144_r0, f144_r1, f144_r2, f144_r3, f144_r4, f144_r5, f144_r6, f144_r7, f144_r8, f144_r9, f144_r14, f144_r15, f144_r16, f144_r17, f150_r0, f150_r1, f150_r2, f150_r3, f150_r4, f150_r5, f150_r6, f150_r7, f150_r8, f150_r9, f150_r10, f150_r11, f150_r12, f150_r13, f150_r14, f150_r15, f150_r16, f150_r17, f151_r0, f151_r1, f177_r0, f177_r1, f149_r0, f149_r1, wAdd_l, wAdd_r, wSub_l, wSub_r, wMul_l, wMul_r, wWrap, Ae, Be, Zr, Zi]
    try (congr 1; grind)
  rw [h1, wSmall (by omega) (by omega)]
theorem x33_1 : f33_r1 a b c d e f g 0 i j w = Zi a b c d (e + g) f w := by
  have hD := dErr_zero hd
  have hW := wErr_zero hw
  have hG := bErr_zero hb
  have hz := Z_b hW hD.1 hD.2.1 hD.2.2.1 hD.2.2.2.1 (e := e + g) (by omega) hD.2.2.2.2.2
  have ha := Ae_b hW hD.2.2.2.1 (e := e + g) (by omega)
  have hB := Be_b hW hD.2.2.2.2.2
  have hc := wwc_b hW hD.2.2.1
  have h1 : f33_r1 a b c d e f g 0 i j w = IntKind.i64.wrap (Zi a b c d (e + g) f w) := by
    simp only [f33_r1, f104_r3, f104_c0, f104_c1, f104_c2, f104_c3, hd, hb, hw, show (!(0 : Int) != 0) = true from rfl, cond_true, cond_false, f144_r0, f144_r1, f144_r2, f144_r3, f144_r4, f144_r5, f144_r6, f144_r7, f144_r8, f144_r9, f144_r14, f144_r15, f144_r16, f144_r17, f150_r0, f150_r1, f150_r2, f150_r3, f150_r4, f150_r5, f150_r6, f150_r7, f150_r8, f150_r9, f150_r10, f150_r11, f150_r12, f150_r13, f150_r14, f150_r15, f150_r16, f150_r17, f151_r0, f151_r1, f177_r0, f177_r1, f149_r0, f149_r1, wAdd_l, wAdd_r, wSub_l, wSub_r, wMul_l, wMul_r, wWrap, Ae, Be, Zr, Zi]
    try (congr 1; grind)
  rw [h1, wSmall (by omega) (by omega)]
theorem x33_2 : f33_r2 a b c d e f g 0 i j w = Ae d (e + g) w := by
  have hD := dErr_zero hd
  have hW := wErr_zero hw
  have hG := bErr_zero hb
  have hz := Z_b hW hD.1 hD.2.1 hD.2.2.1 hD.2.2.2.1 (e := e + g) (by omega) hD.2.2.2.2.2
  have ha := Ae_b hW hD.2.2.2.1 (e := e + g) (by omega)
  have hB := Be_b hW hD.2.2.2.2.2
  have hc := wwc_b hW hD.2.2.1
  have h1 : f33_r2 a b c d e f g 0 i j w = IntKind.i64.wrap (Ae d (e + g) w) := by
    simp only [f33_r2, f104_r4, f104_c0, f104_c1, f104_c2, f104_c3, hd, hb, hw, show (!(0 : Int) != 0) = true from rfl, cond_true, cond_false, f144_r0, f144_r1, f144_r2, f144_r3, f144_r4, f144_r5, f144_r6, f144_r7, f144_r8, f144_r9, f144_r14, f144_r15, f144_r16, f144_r17, f150_r0, f150_r1, f150_r2, f150_r3, f150_r4, f150_r5, f150_r6, f150_r7, f150_r8, f150_r9, f150_r10, f150_r11, f150_r12, f150_r13, f150_r14, f150_r15, f150_r16, f150_r17, f151_r0, f151_r1, f177_r0, f177_r1, f149_r0, f149_r1, wAdd_l, wAdd_r, wSub_l, wSub_r, wMul_l, wMul_r, wWrap, Ae, Be, Zr, Zi]
    try (congr 1; grind)
  rw [h1, wSmall (by omega) (by omega)]
theorem x33_3 : f33_r3 a b c d e f g 0 i j w = Be f w := by
  have hD := dErr_zero hd
  have hW := wErr_zero hw
  have hG := bErr_zero hb
  have hz := Z_b hW hD.1 hD.2.1 hD.2.2.1 hD.2.2.2.1 (e := e + g) (by omega) hD.2.2.2.2.2
  have ha := Ae_b hW hD.2.2.2.1 (e := e + g) (by omega)
  have hB := Be_b hW hD.2.2.2.2.2
  have hc := wwc_b hW hD.2.2.1
  have h1 : f33_r3 a b c d e f g 0 i j w = IntKind.i64.wrap (Be f w) := by
    simp only [f33_r3, f104_r5, f104_c0, f104_c1, f104_c2, f104_c3, hd, hb, hw, show (!(0 : Int) != 0) = true from rfl, cond_true, cond_false, f144_r0, f144_r1, f144_r2, f144_r3, f144_r4, f144_r5, f144_r6, f144_r7, f144_r8, f144_r9, f144_r14, f144_r15, f144_r16, f144_r17, f150_r0, f150_r1, f150_r2, f150_r3, f150_r4, f150_r5, f150_r6, f150_r7, f150_r8, f150_r9, f150_r10, f150_r11, f150_r12, f150_r13, f150_r14, f150_r15, f150_r16, f150_r17, f151_r0, f151_r1, f177_r0, f177_r1, f149_r0, f149_r1, wAdd_l, wAdd_r, wSub_l, wSub_r, wMul_l, wMul_r, wWrap, Ae, Be, Zr, Zi]
    try (congr 1; grind)
  rw [h1, wSmall (by omega) (by omega)]
theorem x35_0 : f35_r0 a b c d e f g 0 i j w = c := by
  have hD := dErr_zero hd
  have hW := wErr_zero hw
  have hG := bErr_zero hb
  have hz := Z_b hW hD.1 hD.2.1 hD.2.2.1 hD.2.2.2.1 (e := e + g) (by omega) hD.2.2.2.2.2
  have ha := Ae_b hW hD.2.2.2.1 (e := e + g) (by omega)
  have hB := Be_b hW hD.2.2.2.2.2
  have hc := wwc_b hW hD.2.2.1
  have h1 : f35_r0 a b c d e f g 0 i j w = IntKind.i64.wrap (c) := by
    simp only [f35_r0, f104_r6, f104_c0, f104_c1, f104_c2, f104_c3, hd, hb, hw, show (!(0 : Int) != 0) = true from rfl, cond_true, cond_false, f144_r0, f144_r1, f144_r2, f144_r3, f144_r4, f144_r5, f144_r6, f144_r7, f144_r8, f144_r9, f144_r14, f144_r15, f144_r16, f144_r17, f150_r0, f150_r1, f150_r2, f150_r3, f150_r4, f150_r5, f150_r6, f150_r7, f150_r8, f150_r9, f150_r10, f150_r11, f150_r12, f150_r13, f150_r14, f150_r15, f150_r16, f150_r17, f151_r0, f151_r1, f177_r0, f177_r1, f149_r0, f149_r1, wAdd_l, wAdd_r, wSub_l, wSub_r, wMul_l, wMul_r, wWrap, Ae, Be, Zr, Zi]
    try (congr 1; grind)
  rw [h1, wSmall (by omega) (by omega)]
theorem x35_1 : f35_r1 a b c d e f g 0 i j w = (0 : Int) := by
  have hD := dErr_zero hd
  have hW := wErr_zero hw
  have hG := bErr_zero hb
  have hz := Z_b hW hD.1 hD.2.1 hD.2.2.1 hD.2.2.2.1 (e := e + g) (by omega) hD.2.2.2.2.2
  have ha := Ae_b hW hD.2.2.2.1 (e := e + g) (by omega)
  have hB := Be_b hW hD.2.2.2.2.2
  have hc := wwc_b hW hD.2.2.1
  have h1 : f35_r1 a b c d e f g 0 i j w = IntKind.i64.wrap ((0 : Int)) := by
    simp only [f35_r1, f104_r7, f104_c0, f104_c1, f104_c2, f104_c3, hd, hb, hw, show (!(0 : Int) != 0) = true from rfl, cond_true, cond_false, f144_r0, f144_r1, f144_r2, f144_r3, f144_r4, f144_r5, f144_r6, f144_r7, f144_r8, f144_r9, f144_r14, f144_r15, f144_r16, f144_r17, f150_r0, f150_r1, f150_r2, f150_r3, f150_r4, f150_r5, f150_r6, f150_r7, f150_r8, f150_r9, f150_r10, f150_r11, f150_r12, f150_r13, f150_r14, f150_r15, f150_r16, f150_r17, f151_r0, f151_r1, f177_r0, f177_r1, f149_r0, f149_r1, wAdd_l, wAdd_r, wSub_l, wSub_r, wMul_l, wMul_r, wWrap, Ae, Be, Zr, Zi]
    try (congr 1; grind)
  rw [h1, wSmall (by omega) (by omega)]
theorem x35_2 : f35_r2 a b c d e f g 0 i j w = Zr a b d (e + g) f w := by
  have hD := dErr_zero hd
  have hW := wErr_zero hw
  have hG := bErr_zero hb
  have hz := Z_b hW hD.1 hD.2.1 hD.2.2.1 hD.2.2.2.1 (e := e + g) (by omega) hD.2.2.2.2.2
  have ha := Ae_b hW hD.2.2.2.1 (e := e + g) (by omega)
  have hB := Be_b hW hD.2.2.2.2.2
  have hc := wwc_b hW hD.2.2.1
  have h1 : f35_r2 a b c d e f g 0 i j w = IntKind.i64.wrap (Zr a b d (e + g) f w) := by
    simp only [f35_r2, f104_r8, f104_c0, f104_c1, f104_c2, f104_c3, hd, hb, hw, show (!(0 : Int) != 0) = true from rfl, cond_true, cond_false, f144_r0, f144_r1, f144_r2, f144_r3, f144_r4, f144_r5, f144_r6, f144_r7, f144_r8, f144_r9, f144_r14, f144_r15, f144_r16, f144_r17, f150_r0, f150_r1, f150_r2, f150_r3, f150_r4, f150_r5, f150_r6, f150_r7, f150_r8, f150_r9, f150_r10, f150_r11, f150_r12, f150_r13, f150_r14, f150_r15, f150_r16, f150_r17, f151_r0, f151_r1, f177_r0, f177_r1, f149_r0, f149_r1, wAdd_l, wAdd_r, wSub_l, wSub_r, wMul_l, wMul_r, wWrap, Ae, Be, Zr, Zi]
    try (congr 1; grind)
  rw [h1, wSmall (by omega) (by omega)]
theorem x35_3 : f35_r3 a b c d e f g 0 i j w = Zi a b c d (e + g) f w := by
  have hD := dErr_zero hd
  have hW := wErr_zero hw
  have hG := bErr_zero hb
  have hz := Z_b hW hD.1 hD.2.1 hD.2.2.1 hD.2.2.2.1 (e := e + g) (by omega) hD.2.2.2.2.2
  have ha := Ae_b hW hD.2.2.2.1 (e := e + g) (by omega)
  have hB := Be_b hW hD.2.2.2.2.2
  have hc := wwc_b hW hD.2.2.1
  have h1 : f35_r3 a b c d e f g 0 i j w = IntKind.i64.wrap (Zi a b c d (e + g) f w) := by
    simp only [f35_r3, f104_r9, f104_c0, f104_c1, f104_c2, f104_c3, hd, hb, hw, show (!(0 : Int) != 0) = true from rfl, cond_true, cond_false, f144_r0, f144_r1, f144_r2, f144_r3, f144_r4, f144_r5, f144_r6, f144_r7, f144_r8, f144_r9, f144_r14, f144_r15, f144_r16, f144_r17, f150_r0, f150_r1, f150_r2, f150_r3, f150_r4, f150_r5, f150_r6, f150_r7, f150_r8, f150_r9, f150_r10, f150_r11, f150_r12, f150_r13, f150_r14, f150_r15, f150_r16, f150_r17, f151_r0, f151_r1, f177_r0, f177_r1, f149_r0, f149_r1, wAdd_l, wAdd_r, wSub_l, wSub_r, wMul_l, wMul_r, wWrap, Ae, Be, Zr, Zi]
    try (congr 1; grind)
  rw [h1, wSmall (by omega) (by omega)]
theorem x34_0 : f34_r0 a b c d e f g 0 i j w = -(w * w * c) := by
  have hD := dErr_zero hd
  have hW := wErr_zero hw
  have hG := bErr_zero hb
  have hz := Z_b hW hD.1 hD.2.1 hD.2.2.1 hD.2.2.2.1 (e := e + g) (by omega) hD.2.2.2.2.2
  have ha := Ae_b hW hD.2.2.2.1 (e := e + g) (by omega)
  have hB := Be_b hW hD.2.2.2.2.2
  have hc := wwc_b hW hD.2.2.1
  have h1 : f34_r0 a b c d e f g 0 i j w = IntKind.i64.wrap (-(w * w * c)) := by
    simp only [f34_r0, f104_r14, f104_c0, f104_c1, f104_c2, f104_c3, hd, hb, hw, show (!(0 : Int) != 0) = true from rfl, cond_true, cond_false, f144_r0, f144_r1, f144_r2, f144_r3, f144_r4, f144_r5, f144_r6, f144_r7, f144_r8, f144_r9, f144_r14, f144_r15, f144_r16, f144_r17, f150_r0, f150_r1, f150_r2, f150_r3, f150_r4, f150_r5, f150_r6, f150_r7, f150_r8, f150_r9, f150_r10, f150_r11, f150_r12, f150_r13, f150_r14, f150_r15, f150_r16, f150_r17, f151_r0, f151_r1, f177_r0, f177_r1, f149_r0, f149_r1, wAdd_l, wAdd_r, wSub_l, wSub_r, wMul_l, wMul_r, wWrap, Ae, Be, Zr, Zi]
    try (congr 1; grind)
  rw [h1, wSmall (by omega) (by omega)]
theorem x34_1 : f34_r1 a b c d e f g 0 i j w = (0 : Int) := by
  have hD := dErr_zero hd
  have hW := wErr_zero hw
  have hG := bErr_zero hb
  have hz := Z_b hW hD.1 hD.2.1 hD.2.2.1 hD.2.2.2.1 (e := e + g) (by omega) hD.2.2.2.2.2
  have ha := Ae_b hW hD.2.2.2.1 (e := e + g) (by omega)
  have hB := Be_b hW hD.2.2.2.2.2
  have hc := wwc_b hW hD.2.2.1
  have h1 : f34_r1 a b c d e f g 0 i j w = IntKind.i64.wrap ((0 : Int)) := by
    simp only [f34_r1, f104_r15, f104_c0, f104_c1, f104_c2, f104_c3, hd, hb, hw, show (!(0 : Int) != 0) = true from rfl, cond_true, cond_false, f144_r0, f144_r1, f144_r2, f144_r3, f144_r4, f144_r5, f144_r6, f144_r7, f144_r8, f144_r9, f144_r14, f144_r15, f144_r16, f144_r17, f150_r0, f150_r1, f150_r2, f150_r3, f150_r4, f150_r5, f150_r6, f150_r7, f150_r8, f150_r9, f150_r10, f150_r11, f150_r12, f150_r13, f150_r14, f150_r15, f150_r16, f150_r17, f151_r0, f151_r1, f177_r0, f177_r1, f149_r0, f149_r1, wAdd_l, wAdd_r, wSub_l, wSub_r, wMul_l, wMul_r, wWrap, Ae, Be, Zr, Zi]
    try (congr 1; grind)
  rw [h1, wSmall (by omega) (by omega)]
theorem x34_2 : f34_r2 a b c d e f g 0 i j w = Zr a b d (e + g) f w := by
  have hD := dErr_zero hd
  have hW := wErr_zero hw
  have hG := bErr_zero hb
  have hz := Z_b hW hD.1 hD.2.1 hD.2.2.1 hD.2.2.2.1 (e := e + g) (by omega) hD.2.2.2.2.2
  have ha := Ae_b hW hD.2.2.2.1 (e := e + g) (by omega)
  have hB := Be_b hW hD.2.2.2.2.2
  have hc := wwc_b hW hD.2.2.1
  have h1 : f34_r2 a b c d e f g 0 i j w = IntKind.i64.wrap (Zr a b d (e + g) f w) := by
    simp only [f34_r2, f104_r16, f104_c0, f104_c1, f104_c2, f104_c3, hd, hb, hw, show (!(0 : Int) != 0) = true from rfl, cond_true, cond_false, f144_r0, f144_r1, f144_r2, f144_r3, f144_r4, f144_r5, f144_r6, f144_r7, f144_r8, f144_r9, f144_r14, f144_r15, f144_r16, f144_r17, f150_r0, f150_r1, f150_r2, f150_r3, f150_r4, f150_r5, f150_r6, f150_r7, f150_r8, f150_r9, f150_r10, f150_r11, f150_r12, f150_r13, f150_r14, f150_r15, f150_r16, f150_r17, f151_r0, f151_r1, f177_r0, f177_r1, f149_r0, f149_r1, wAdd_l, wAdd_r, wSub_l, wSub_r, wMul_l, wMul_r, wWrap, Ae, Be, Zr, Zi]
    try (congr 1; grind)
  rw [h1, wSmall (by omega) (by omega)]
theorem x34_3 : f34_r3 a b c d e f g 0 i j w = Zi a b c d (e + g) f w := by
  have hD := dErr_zero hd
  have hW := wErr_zero hw
  have hG := bErr_zero hb
  have hz := Z_b hW hD.1 hD.2.1 hD.2.2.1 hD.2.2.2.1 (e := e + g) (by omega) hD.2.2.2.2.2
  have ha := Ae_b hW hD.2.2.2.1 (e := e + g) (by omega)
  have hB := Be_b hW hD.2.2.2.2.2
  have hc := wwc_b hW hD.2.2.1
  have h1 : f34_r3 a b c d e f g 0 i j w = IntKind.i64.wrap (Zi a b c d (e + g) f w) := by
    simp only [f34_r3, f104_r17, f104_c0, f104_c1, f104_c2, f104_c3, hd, hb, hw, show (!(0 : Int) != 0) = true from rfl, cond_true, cond_false, f144_r0, f144_r1, f144_r2, f144_r3, f144_r4, f144_r5, f144_r6, f144_r7, f144_r8, f144_r9, f144_r14, f144_r15, f144_r16, f144_r17, f150_r0, f150_r1, f150_r2, f150_r3, f150_r4, f150_r5, f150_r6, f150_r7, f150_r8, f150_r9, f150_r10, f150_r11, f150_r12, f150_r13, f150_r14, f150_r15, f150_r16, f150_r17, f151_r0, f151_r1, f177_r0, f177_r1, f149_r0, f149_r1, wAdd_l, wAdd_r, wSub_l, wSub_r, wMul_l, wMul_r, wWrap, Ae, Be, Zr, Zi]
    try (congr 1; grind)
  rw [h1, wSmall (by omega) (by omega)]
theorem x35_4 : f35_r4 a b c d e f g 0 i j w = (0 : Int) := by
  simp only [f35_r4, f104_r10, f104_c0, f104_c1, f104_c2, f104_c3, hd, hb, hw, show (!(0 : Int) != 0) = true from rfl, cond_true, cond_false]
theorem x35_5 : f35_r5 a b c d e f g 0 i j w = (0 : Int) := by
  simp only [f35_r5, f104_r11, f104_c0, f104_c1, f104_c2, f104_c3, hd, hb, hw, show (!(0 : Int) != 0) = true from rfl, cond_true, cond_false]
theorem x35_6 : f35_r6 a b c d e f g 0 i j w = (1 : Int) := by
  simp only [f35_r6, f104_r12, f104_c0, f104_c1, f104_c2, f104_c3, hd, hb, hw, show (!(0 : Int) != 0) = true from rfl, cond_true, cond_false]
theorem x35_7 : f35_r7 a b c d e f g 0 i j w = (0 : Int) := by
  simp only [f35_r7, f104_r13, f104_c0, f104_c1, f104_c2, f104_c3, hd, hb, hw, show (!(0 : Int) != 0) = true from rfl, cond_true, cond_false]
theorem x33_4 : f33_r4 a b c d e f g 0 i j w = (0 : Int) := by
  simp only [f33_r4, f104_r18, f104_c0, f104_c1, f104_c2, f104_c3, hd, hb, hw, show (!(0 : Int) != 0) = true from rfl, cond_true, cond_false]
theorem x34_4 : f34_r4 a b c d e f g 0 i j w = (0 : Int) := by
  simp only [f34_r4, f104_r18, f104_c0, f104_c1, f104_c2, f104_c3, hd, hb, hw, show (!(0 : Int) != 0) = true from rfl, cond_true, cond_false]
theorem x35_8 : f35_r8 a b c d e f g 0 i j w = (0 : Int) := by
  simp only [f35_r8, f104_r18, f104_c0, f104_c1, f104_c2, f104_c3, hd, hb, hw, show (!(0 : Int) != 0) = true from rfl, cond_true, cond_false]
end
section
variable {a b c d e f g h i j w : Int} (hd : (dErr a b c d e f != 0) = false) (hb : (bErr g h i j != 0) = false) (hw : (wErr w != 0) = false) (hh : h ≠ 0)
include hd hb hw hh
theorem y33_0 : f33_r0 a b c d e f g h i j w = Nr a b c d e f g h i j w := by
  have hD := dErr_zero hd
  have hW := wErr_zero hw
  obtain ⟨hG1, hG2, hG3⟩ := bErr_zero hb
  have hG4 : (1 ≤ h ∧ h ≤ 100) ∧ (0 ≤ i ∧ i ≤ 5000) ∧ (1 ≤ j ∧ j ≤ 100) := by omega
  have hN := N_b hW hD.1 hD.2.1 hD.2.2.1 hD.2.2.2.1 (e := e) (by omega) hD.2.2.2.2.2 ⟨hG1, hG2⟩ hG4.1 hG4.2.1 hG4.2.2
  have hDD := D_b hW hD.2.2.2.1 (e := e) (by omega) hD.2.2.2.2.2 ⟨hG1, hG2⟩ hG4.1 hG4.2.1 hG4.2.2
  have hP := Pt_b hW hG4.1 hG4.2.1
  have hQ := Be_b hW hG4.2.2
  have hc := wwc_b hW hD.2.2.1
  have q1 := mulB (x := c) (y := g + Ae h i w) (a := 20) (b := 11400) (by omega) (by omega)
  have q2 := mulB (x := c) (y := Be j w) (a := 20) (b := 800) (by omega) (by omega)
  have q3 := mulB (x := c) (y := g) (a := 20) (b := 5000) (by omega) (by omega)
  have q4 := mulB (x := -(w * w * c)) (y := Ae h i w) (a := 1280) (b := 11400) (by omega) (by omega)
  have q5 := mulB (x := -(w * w * c)) (y := Be j w) (a := 1280) (b := 800) (by omega) (by omega)
  have h2 : (!h != 0) = false := by simpa using hh
  have h1 : f33_r0 a b c d e f g h i j w = IntKind.i64.wrap (Nr a b c d e f g h i j w) := by
    simp only [f33_r0, f104_r2, f104_c0, f104_c1, f104_c2, f104_c3, hd, hb, hw, h2, cond_false, f150_r0, f150_r1, f150_r2, f150_r3, f150_r4, f150_r5, f150_r6, f150_r7, f150_r8, f150_r9, f150_r10, f150_r11, f150_r12, f150_r13, f150_r14, f150_r15, f150_r16, f150_r17, f151_r0, f151_r1, f177_r0, f177_r1, f149_r0, f149_r1, wAdd_l, wAdd_r, wSub_l, wSub_r, wMul_l, wMul_r, wWrap, Ae, Be, Dr, Di, Nr, Ni]
    try (congr 1; grind)
  rw [h1, wSmall (by omega) (by omega)]
theorem y33_1 : f33_r1 a b c d e f g h i j w = Ni a b c d e f g h i j w := by
  have hD := dErr_zero hd
  have hW := wErr_zero hw
  obtain ⟨hG1, hG2, hG3⟩ := bErr_zero hb
  have hG4 : (1 ≤ h ∧ h ≤ 100) ∧ (0 ≤ i ∧ i ≤ 5000) ∧ (1 ≤ j ∧ j ≤ 100) := by omega
  have hN := N_b hW hD.1 hD.2.1 hD.2.2.1 hD.2.2.2.1 (e := e) (by omega) hD.2.2.2.2.2 ⟨hG1, hG2⟩ hG4.1 hG4.2.1 hG4.2.2
  have hDD := D_b hW hD.2.2.2.1 (e := e) (by omega) hD.2.2.2.2.2 ⟨hG1, hG2⟩ hG4.1 hG4.2.1 hG4.2.2
  have hP := Pt_b hW hG4.1 hG4.2.1
  have hQ := Be_b hW hG4.2.2
  have hc := wwc_b hW hD.2.2.1
  have q1 := mulB (x := c) (y := g + Ae h i w) (a := 20) (b := 11400) (by omega) (by omega)
  have q2 := mulB (x := c) (y := Be j w) (a := 20) (b := 800) (by omega) (by omega)
  have q3 := mulB (x := c) (y := g) (a := 20) (b := 5000) (by omega) (by omega)
  have q4 := mulB (x := -(w * w * c)) (y := Ae h i w) (a := 1280) (b := 11400) (by omega) (by omega)
  have q5 := mulB (x := -(w * w * c)) (y := Be j w) (a := 1280) (b := 800) (by omega) (by omega)
  have h2 : (!h != 0) = false := by simpa using hh
  have h1 : f33_r1 a b c d e f g h i j w = IntKind.i64.wrap (Ni a b c d e f g h i j w) := by
    simp only [f33_r1, f104_r3, f104_c0, f104_c1, f104_c2, f104_c3, hd, hb, hw, h2, cond_false, f150_r0, f150_r1, f150_r2, f150_r3, f150_r4, f150_r5, f150_r6, f150_r7, f150_r8, f150_r9, f150_r10, f150_r11, f150_r12, f150_r13, f150_r14, f150_r15, f150_r16, f150_r17, f151_r0, f151_r1, f177_r0, f177_r1, f149_r0, f149_r1, wAdd_l, wAdd_r, wSub_l, wSub_r, wMul_l, wMul_r, wWrap, Ae, Be, Dr, Di, Nr, Ni]
    try (congr 1; grind)
  rw [h1, wSmall (by omega) (by omega)]
theorem y33_2 : f33_r2 a b c d e f g h i j w = Dr d e f g h i j w := by
  have hD := dErr_zero hd
  have hW := wErr_zero hw
  obtain ⟨hG1, hG2, hG3⟩ := bErr_zero hb
  have hG4 : (1 ≤ h ∧ h ≤ 100) ∧ (0 ≤ i ∧ i ≤ 5000) ∧ (1 ≤ j ∧ j ≤ 100) := by omega
  have hN := N_b hW hD.1 hD.2.1 hD.2.2.1 hD.2.2.2.1 (e := e) (by omega) hD.2.2.2.2.2 ⟨hG1, hG2⟩ hG4.1 hG4.2.1 hG4.2.2
  have hDD := D_b hW hD.2.2.2.1 (e := e) (by omega) hD.2.2.2.2.2 ⟨hG1, hG2⟩ hG4.1 hG4.2.1 hG4.2.2
  have hP := Pt_b hW hG4.1 hG4.2.1
  have hQ := Be_b hW hG4.2.2
  have hc := wwc_b hW hD.2.2.1
  have q1 := mulB (x := c) (y := g + Ae h i w) (a := 20) (b := 11400) (by omega) (by omega)
  have q2 := mulB (x := c) (y := Be j w) (a := 20) (b := 800) (by omega) (by omega)
  have q3 := mulB (x := c) (y := g) (a := 20) (b := 5000) (by omega) (by omega)
  have q4 := mulB (x := -(w * w * c)) (y := Ae h i w) (a := 1280) (b := 11400) (by omega) (by omega)
  have q5 := mulB (x := -(w * w * c)) (y := Be j w) (a := 1280) (b := 800) (by omega) (by omega)
  have h2 : (!h != 0) = false := by simpa using hh
  have h1 : f33_r2 a b c d e f g h i j w = IntKind.i64.wrap (Dr d e f g h i j w) := by
    simp only [f33_r2, f104_r4, f104_c0, f104_c1, f104_c2, f104_c3, hd, hb, hw, h2, cond_false, f150_r0, f150_r1, f150_r2, f150_r3, f150_r4, f150_r5, f150_r6, f150_r7, f150_r8, f150_r9, f150_r10, f150_r11, f150_r12, f150_r13, f150_r14, f150_r15, f150_r16, f150_r17, f151_r0, f151_r1, f177_r0, f177_r1, f149_r0, f149_r1, wAdd_l, wAdd_r, wSub_l, wSub_r, wMul_l, wMul_r, wWrap, Ae, Be, Dr, Di, Nr, Ni]
    try (congr 1; grind)
  rw [h1, wSmall (by omega) (by omega)]
theorem y33_3 : f33_r3 a b c d e f g h i j w = Di d e f g h i j w := by
  have hD := dErr_zero hd
  have hW := wErr_zero hw
  obtain ⟨hG1, hG2, hG3⟩ := bErr_zero hb
  have hG4 : (1 ≤ h ∧ h ≤ 100) ∧ (0 ≤ i ∧ i ≤ 5000) ∧ (1 ≤ j ∧ j ≤ 100) := by omega
  have hN := N_b hW hD.1 hD.2.1 hD.2.2.1 hD.2.2.2.1 (e := e) (by omega) hD.2.2.2.2.2 ⟨hG1, hG2⟩ hG4.1 hG4.2.1 hG4.2.2
  have hDD := D_b hW hD.2.2.2.1 (e := e) (by omega) hD.2.2.2.2.2 ⟨hG1, hG2⟩ hG4.1 hG4.2.1 hG4.2.2
  have hP := Pt_b hW hG4.1 hG4.2.1
  have hQ := Be_b hW hG4.2.2
  have hc := wwc_b hW hD.2.2.1
  have q1 := mulB (x := c) (y := g + Ae h i w) (a := 20) (b := 11400) (by omega) (by omega)
  have q2 := mulB (x := c) (y := Be j w) (a := 20) (b := 800) (by omega) (by omega)
  have q3 := mulB (x := c) (y := g) (a := 20) (b := 5000) (by omega) (by omega)
  have q4 := mulB (x := -(w * w * c)) (y := Ae h i w) (a := 1280) (b := 11400) (by omega) (by omega)
  have q5 := mulB (x := -(w * w * c)) (y := Be j w) (a := 1280) (b := 800) (by omega) (by omega)
  have h2 : (!h != 0) = false := by simpa using hh
  have h1 : f33_r3 a b c d e f g h i j w = IntKind.i64.wrap (Di d e f g h i j w) := by
    simp only [f33_r3, f104_r5, f104_c0, f104_c1, f104_c2, f104_c3, hd, hb, hw, h2, cond_false, f150_r0, f150_r1, f150_r2, f150_r3, f150_r4, f150_r5, f150_r6, f150_r7, f150_r8, f150_r9, f150_r10, f150_r11, f150_r12, f150_r13, f150_r14, f150_r15, f150_r16, f150_r17, f151_r0, f151_r1, f177_r0, f177_r1, f149_r0, f149_r1, wAdd_l, wAdd_r, wSub_l, wSub_r, wMul_l, wMul_r, wWrap, Ae, Be, Dr, Di, Nr, Ni]
    try (congr 1; grind)
  rw [h1, wSmall (by omega) (by omega)]
theorem y35_0 : f35_r0 a b c d e f g h i j w = c * (g + Ae h i w) := by
  have hD := dErr_zero hd
  have hW := wErr_zero hw
  obtain ⟨hG1, hG2, hG3⟩ := bErr_zero hb
  have hG4 : (1 ≤ h ∧ h ≤ 100) ∧ (0 ≤ i ∧ i ≤ 5000) ∧ (1 ≤ j ∧ j ≤ 100) := by omega
  have hN := N_b hW hD.1 hD.2.1 hD.2.2.1 hD.2.2.2.1 (e := e) (by omega) hD.2.2.2.2.2 ⟨hG1, hG2⟩ hG4.1 hG4.2.1 hG4.2.2
  have hDD := D_b hW hD.2.2.2.1 (e := e) (by omega) hD.2.2.2.2.2 ⟨hG1, hG2⟩ hG4.1 hG4.2.1 hG4.2.2
  have hP := Pt_b hW hG4.1 hG4.2.1
  have hQ := Be_b hW hG4.2.2
  have hc := wwc_b hW hD.2.2.1
  have q1 := mulB (x := c) (y := g + Ae h i w) (a := 20) (b := 11400) (by omega) (by omega)
  have q2 := mulB (x := c) (y := Be j w) (a := 20) (b := 800) (by omega) (by omega)
  have q3 := mulB (x := c) (y := g) (a := 20) (b := 5000) (by omega) (by omega)
  have q4 := mulB (x := -(w * w * c)) (y := Ae h i w) (a := 1280) (b := 11400) (by omega) (by omega)
  have q5 := mulB (x := -(w * w * c)) (y := Be j w) (a := 1280) (b := 800) (by omega) (by omega)
  have h2 : (!h != 0) = false := by simpa using hh
  have h1 : f35_r0 a b c d e f g h i j w = IntKind.i64.wrap (c * (g + Ae h i w)) := by
    simp only [f35_r0, f104_r6, f104_c0, f104_c1, f104_c2, f104_c3, hd, hb, hw, h2, cond_false, f150_r0, f150_r1, f150_r2, f150_r3, f150_r4, f150_r5, f150_r6, f150_r7, f150_r8, f150_r9, f150_r10, f150_r11, f150_r12, f150_r13, f150_r14, f150_r15, f150_r16, f150_r17, f151_r0, f151_r1, f177_r0, f177_r1, f149_r0, f149_r1, wAdd_l, wAdd_r, wSub_l, wSub_r, wMul_l, wMul_r, wWrap, Ae, Be, Dr, Di, Nr, Ni]
    try (congr 1; grind)
  rw [h1, wSmall (by omega) (by omega)]
theorem y35_1 : f35_r1 a b c d e f g h i j w = c * Be j w := by
  have hD := dErr_zero hd
  have hW := wErr_zero hw
  obtain ⟨hG1, hG2, hG3⟩ := bErr_zero hb
  have hG4 : (1 ≤ h ∧ h ≤ 100) ∧ (0 ≤ i ∧ i ≤ 5000) ∧ (1 ≤ j ∧ j ≤ 100) := by omega
  have hN := N_b hW hD.1 hD.2.1 hD.2.2.1 hD.2.2.2.1 (e := e) (by omega) hD.2.2.2.2.2 ⟨hG1, hG2⟩ hG4.1 hG4.2.1 hG4.2.2
  have hDD := D_b hW hD.2.2.2.1 (e := e) (by omega) hD.2.2.2.2.2 ⟨hG1, hG2⟩ hG4.1 hG4.2.1 hG4.2.2
  have hP := Pt_b hW hG4.1 hG4.2.1
  have hQ := Be_b hW hG4.2.2
  have hc := wwc_b hW hD.2.2.1
  have q1 := mulB (x := c) (y := g + Ae h i w) (a := 20) (b := 11400) (by omega) (by omega)
  have q2 := mulB (x := c) (y := Be j w) (a := 20) (b := 800) (by omega) (by omega)
  have q3 := mulB (x := c) (y := g) (a := 20) (b := 5000) (by omega) (by omega)
  have q4 := mulB (x := -(w * w * c)) (y := Ae h i w) (a := 1280) (b := 11400) (by omega) (by omega)
  have q5 := mulB (x := -(w * w * c)) (y := Be j w) (a := 1280) (b := 800) (by omega) (by omega)
  have h2 : (!h != 0) = false := by simpa using hh
  have h1 : f35_r1 a b c d e f g h i j w = IntKind.i64.wrap (c * Be j w) := by
    simp only [f35_r1, f104_r7, f104_c0, f104_c1, f104_c2, f104_c3, hd, hb, hw, h2, cond_false, f150_r0, f150_r1, f150_r2, f150_r3, f150_r4, f150_r5, f150_r6, f150_r7, f150_r8, f150_r9, f150_r10, f150_r11, f150_r12, f150_r13, f150_r14, f150_r15, f150_r16, f150_r17, f151_r0, f151_r1, f177_r0, f177_r1, f149_r0, f149_r1, wAdd_l, wAdd_r, wSub_l, wSub_r, wMul_l, wMul_r, wWrap, Ae, Be, Dr, Di, Nr, Ni]
    try (congr 1; grind)
  rw [h1, wSmall (by omega) (by omega)]
theorem y35_2 : f35_r2 a b c d e f g h i j w = Nr a b c d e f g h i j w := by
  have hD := dErr_zero hd
  have hW := wErr_zero hw
  obtain ⟨hG1, hG2, hG3⟩ := bErr_zero hb
  have hG4 : (1 ≤ h ∧ h ≤ 100) ∧ (0 ≤ i ∧ i ≤ 5000) ∧ (1 ≤ j ∧ j ≤ 100) := by omega
  have hN := N_b hW hD.1 hD.2.1 hD.2.2.1 hD.2.2.2.1 (e := e) (by omega) hD.2.2.2.2.2 ⟨hG1, hG2⟩ hG4.1 hG4.2.1 hG4.2.2
  have hDD := D_b hW hD.2.2.2.1 (e := e) (by omega) hD.2.2.2.2.2 ⟨hG1, hG2⟩ hG4.1 hG4.2.1 hG4.2.2
  have hP := Pt_b hW hG4.1 hG4.2.1
  have hQ := Be_b hW hG4.2.2
  have hc := wwc_b hW hD.2.2.1
  have q1 := mulB (x := c) (y := g + Ae h i w) (a := 20) (b := 11400) (by omega) (by omega)
  have q2 := mulB (x := c) (y := Be j w) (a := 20) (b := 800) (by omega) (by omega)
  have q3 := mulB (x := c) (y := g) (a := 20) (b := 5000) (by omega) (by omega)
  have q4 := mulB (x := -(w * w * c)) (y := Ae h i w) (a := 1280) (b := 11400) (by omega) (by omega)
  have q5 := mulB (x := -(w * w * c)) (y := Be j w) (a := 1280) (b := 800) (by omega) (by omega)
  have h2 : (!h != 0) = false := by simpa using hh
  have h1 : f35_r2 a b c d e f g h i j w = IntKind.i64.wrap (Nr a b c d e f g h i j w) := by
    simp only [f35_r2, f104_r8, f104_c0, f104_c1, f104_c2, f104_c3, hd, hb, hw, h2, cond_false, f150_r0, f150_r1, f150_r2, f150_r3, f150_r4, f150_r5, f150_r6, f150_r7, f150_r8, f150_r9, f150_r10, f150_r11, f150_r12, f150_r13, f150_r14, f150_r15, f150_r16, f150_r17, f151_r0, f151_r1, f177_r0, f177_r1, f149_r0, f149_r1, wAdd_l, wAdd_r, wSub_l, wSub_r, wMul_l, wMul_r, wWrap, Ae, Be, Dr, Di, Nr, Ni]
    try (congr 1; grind)
  rw [h1, wSmall (by omega) (by omega)]
theorem y35_3 : f35_r3 a b c d e f g h i j w = Ni a b c d e f g h i j w := by
  have hD := dErr_zero hd
  have hW := wErr_zero hw
  obtain ⟨hG1, hG2, hG3⟩ := bErr_zero hb
  have hG4 : (1 ≤ h ∧ h ≤ 100) ∧ (0 ≤ i ∧ i ≤ 5000) ∧ (1 ≤ j ∧ j ≤ 100) := by omega
  have hN := N_b hW hD.1 hD.2.1 hD.2.2.1 hD.2.2.2.1 (e := e) (by omega) hD.2.2.2.2.2 ⟨hG1, hG2⟩ hG4.1 hG4.2.1 hG4.2.2
  have hDD := D_b hW hD.2.2.2.1 (e := e) (by omega) hD.2.2.2.2.2 ⟨hG1, hG2⟩ hG4.1 hG4.2.1 hG4.2.2
  have hP := Pt_b hW hG4.1 hG4.2.1
  have hQ := Be_b hW hG4.2.2
  have hc := wwc_b hW hD.2.2.1
  have q1 := mulB (x := c) (y := g + Ae h i w) (a := 20) (b := 11400) (by omega) (by omega)
  have q2 := mulB (x := c) (y := Be j w) (a := 20) (b := 800) (by omega) (by omega)
  have q3 := mulB (x := c) (y := g) (a := 20) (b := 5000) (by omega) (by omega)
  have q4 := mulB (x := -(w * w * c)) (y := Ae h i w) (a := 1280) (b := 11400) (by omega) (by omega)
  have q5 := mulB (x := -(w * w * c)) (y := Be j w) (a := 1280) (b := 800) (by omega) (by omega)
  have h2 : (!h != 0) = false := by simpa using hh
  have h1 : f35_r3 a b c d e f g h i j w = IntKind.i64.wrap (Ni a b c d e f g h i j w) := by
    simp only [f35_r3, f104_r9, f104_c0, f104_c1, f104_c2, f104_c3, hd, hb, hw, h2, cond_false, f150_r0, f150_r1, f150_r2, f150_r3, f150_r4, f150_r5, f150_r6, f150_r7, f150_r8, f150_r9, f150_r10, f150_r11, f150_r12, f150_r13, f150_r14, f150_r15, f150_r16, f150_r17, f151_r0, f151_r1, f177_r0, f177_r1, f149_r0, f149_r1, wAdd_l, wAdd_r, wSub_l, wSub_r, wMul_l, wMul_r, wWrap, Ae, Be, Dr, Di, Nr, Ni]
    try (congr 1; grind)
  rw [h1, wSmall (by omega) (by omega)]
theorem y35_4 : f35_r4 a b c d e f g h i j w = c * g := by
  have hD := dErr_zero hd
  have hW := wErr_zero hw
  obtain ⟨hG1, hG2, hG3⟩ := bErr_zero hb
  have hG4 : (1 ≤ h ∧ h ≤ 100) ∧ (0 ≤ i ∧ i ≤ 5000) ∧ (1 ≤ j ∧ j ≤ 100) := by omega
  have hN := N_b hW hD.1 hD.2.1 hD.2.2.1 hD.2.2.2.1 (e := e) (by omega) hD.2.2.2.2.2 ⟨hG1, hG2⟩ hG4.1 hG4.2.1 hG4.2.2
  have hDD := D_b hW hD.2.2.2.1 (e := e) (by omega) hD.2.2.2.2.2 ⟨hG1, hG2⟩ hG4.1 hG4.2.1 hG4.2.2
  have hP := Pt_b hW hG4.1 hG4.2.1
  have hQ := Be_b hW hG4.2.2
  have hc := wwc_b hW hD.2.2.1
  have q1 := mulB (x := c) (y := g + Ae h i w) (a := 20) (b := 11400) (by omega) (by omega)
  have q2 := mulB (x := c) (y := Be j w) (a := 20) (b := 800) (by omega) (by omega)
  have q3 := mulB (x := c) (y := g) (a := 20) (b := 5000) (by omega) (by omega)
  have q4 := mulB (x := -(w * w * c)) (y := Ae h i w) (a := 1280) (b := 11400) (by omega) (by omega)
  have q5 := mulB (x := -(w * w * c)) (y := Be j w) (a := 1280) (b := 800) (by omega) (by omega)
  have h2 : (!h != 0) = false := by simpa using hh
  have h1 : f35_r4 a b c d e f g h i j w = IntKind.i64.wrap (c * g) := by
    simp only [f35_r4, f104_r10, f104_c0, f104_c1, f104_c2, f104_c3, hd, hb, hw, h2, cond_false, f150_r0, f150_r1, f150_r2, f150_r3, f150_r4, f150_r5, f150_r6, f150_r7, f150_r8, f150_r9, f150_r10, f150_r11, f150_r12, f150_r13, f150_r14, f150_r15, f150_r16, f150_r17, f151_r0, f151_r1, f177_r0, f177_r1, f149_r0, f149_r1, wAdd_l, wAdd_r, wSub_l, wSub_r, wMul_l, wMul_r, wWrap, Ae, Be, Dr, Di, Nr, Ni]
    try (congr 1; grind)
  rw [h1, wSmall (by omega) (by omega)]
theorem y35_5 : f35_r5 a b c d e f g h i j w = (0 : Int) := by
  have hD := dErr_zero hd
  have hW := wErr_zero hw
  obtain ⟨hG1, hG2, hG3⟩ := bErr_zero hb
  have hG4 : (1 ≤ h ∧ h ≤ 100) ∧ (0 ≤ i ∧ i ≤ 5000) ∧ (1 ≤ j ∧ j ≤ 100) := by omega
  have hN := N_b hW hD.1 hD.2.1 hD.2.2.1 hD.2.2.2.1 (e := e) (by omega) hD.2.2.2.2.2 ⟨hG1, hG2⟩ hG4.1 hG4.2.1 hG4.2.2
  have hDD := D_b hW hD.2.2.2.1 (e := e) (by omega) hD.2.2.2.2.2 ⟨hG1, hG2⟩ hG4.1 hG4.2.1 hG4.2.2
  have hP := Pt_b hW hG4.1 hG4.2.1
  have hQ := Be_b hW hG4.2.2
  have hc := wwc_b hW hD.2.2.1
  have q1 := mulB (x := c) (y := g + Ae h i w) (a := 20) (b := 11400) (by omega) (by omega)
  have q2 := mulB (x := c) (y := Be j w) (a := 20) (b := 800) (by omega) (by omega)
  have q3 := mulB (x := c) (y := g) (a := 20) (b := 5000) (by omega) (by omega)
  have q4 := mulB (x := -(w * w * c)) (y := Ae h i w) (a := 1280) (b := 11400) (by omega) (by omega)
  have q5 := mulB (x := -(w * w * c)) (y := Be j w) (a := 1280) (b := 800) (by omega) (by omega)
  have h2 : (!h != 0) = false := by simpa using hh
  have h1 : f35_r5 a b c d e f g h i j w = IntKind.i64.wrap ((0 : Int)) := by
    simp only [f35_r5, f104_r11, f104_c0, f104_c1, f104_c2, f104_c3, hd, hb, hw, h2, cond_false, f150_r0, f150_r1, f150_r2, f150_r3, f150_r4, f150_r5, f150_r6, f150_r7, f150_r8, f150_r9, f150_r10, f150_r11, f150_r12, f150_r13, f150_r14, f150_r15, f150_r16, f150_r17, f151_r0, f151_r1, f177_r0, f177_r1, f149_r0, f149_r1, wAdd_l, wAdd_r, wSub_l, wSub_r, wMul_l, wMul_r, wWrap, Ae, Be, Dr, Di, Nr, Ni]
    try (congr 1; grind)
  rw [h1, wSmall (by omega) (by omega)]
theorem y35_6 : f35_r6 a b c d e f g h i j w = Nr a b c d e f g h i j w := by
  have hD := dErr_zero hd
  have hW := wErr_zero hw
  obtain ⟨hG1, hG2, hG3⟩ := bErr_zero hb
  have hG4 : (1 ≤ h ∧ h ≤ 100) ∧ (0 ≤ i ∧ i ≤ 5000) ∧ (1 ≤ j ∧ j ≤ 100) := by omega
  have hN := N_b hW hD.1 hD.2.1 hD.2.2.1 hD.2.2.2.1 (e := e) (by omega) hD.2.2.2.2.2 ⟨hG1, hG2⟩ hG4.1 hG4.2.1 hG4.2.2
  have hDD := D_b hW hD.2.2.2.1 (e := e) (by omega) hD.2.2.2.2.2 ⟨hG1, hG2⟩ hG4.1 hG4.2.1 hG4.2.2
  have hP := Pt_b hW hG4.1 hG4.2.1
  have hQ := Be_b hW hG4.2.2
  have hc := wwc_b hW hD.2.2.1
  have q1 := mulB (x := c) (y := g + Ae h i w) (a := 20) (b := 11400) (by omega) (by omega)
  have q2 := mulB (x := c) (y := Be j w) (a := 20) (b := 800) (by omega) (by omega)
  have q3 := mulB (x := c) (y := g) (a := 20) (b := 5000) (by omega) (by omega)
  have q4 := mulB (x := -(w * w * c)) (y := Ae h i w) (a := 1280) (b := 11400) (by omega) (by omega)
  have q5 := mulB (x := -(w * w * c)) (y := Be j w) (a := 1280) (b := 800) (by omega) (by omega)
  have h2 : (!h != 0) = false := by simpa using hh
  have h1 : f35_r6 a b c d e f g h i j w = IntKind.i64.wrap (Nr a b c d e f g h i j w) := by
    simp only [f35_r6, f104_r12, f104_c0, f104_c1, f104_c2, f104_c3, hd, hb, hw, h2, cond_false, f150_r0, f150_r1, f150_r2, f150_r3, f150_r4, f150_r5, f150_r6, f150_r7, f150_r8, f150_r9, f150_r10, f150_r11, f150_r12, f150_r13, f150_r14, f150_r15, f150_r16, f150_r17, f151_r0, f151_r1, f177_r0, f177_r1, f149_r0, f149_r1, wAdd_l, wAdd_r, wSub_l, wSub_r, wMul_l, wMul_r, wWrap, Ae, Be, Dr, Di, Nr, Ni]
    try (congr 1; grind)
  rw [h1, wSmall (by omega) (by omega)]
theorem y35_7 : f35_r7 a b c d e f g h i j w = Ni a b c d e f g h i j w := by
  have hD := dErr_zero hd
  have hW := wErr_zero hw
  obtain ⟨hG1, hG2, hG3⟩ := bErr_zero hb
  have hG4 : (1 ≤ h ∧ h ≤ 100) ∧ (0 ≤ i ∧ i ≤ 5000) ∧ (1 ≤ j ∧ j ≤ 100) := by omega
  have hN := N_b hW hD.1 hD.2.1 hD.2.2.1 hD.2.2.2.1 (e := e) (by omega) hD.2.2.2.2.2 ⟨hG1, hG2⟩ hG4.1 hG4.2.1 hG4.2.2
  have hDD := D_b hW hD.2.2.2.1 (e := e) (by omega) hD.2.2.2.2.2 ⟨hG1, hG2⟩ hG4.1 hG4.2.1 hG4.2.2
  have hP := Pt_b hW hG4.1 hG4.2.1
  have hQ := Be_b hW hG4.2.2
  have hc := wwc_b hW hD.2.2.1
  have q1 := mulB (x := c) (y := g + Ae h i w) (a := 20) (b := 11400) (by omega) (by omega)
  have q2 := mulB (x := c) (y := Be j w) (a := 20) (b := 800) (by omega) (by omega)
  have q3 := mulB (x := c) (y := g) (a := 20) (b := 5000) (by omega) (by omega)
  have q4 := mulB (x := -(w * w * c)) (y := Ae h i w) (a := 1280) (b := 11400) (by omega) (by omega)
  have q5 := mulB (x := -(w * w * c)) (y := Be j w) (a := 1280) (b := 800) (by omega) (by omega)
  have h2 : (!h != 0) = false := by simpa using hh
  have h1 : f35_r7 a b c d e f g h i j w = IntKind.i64.wrap (Ni a b c d e f g h i j w) := by
    simp only [f35_r7, f104_r13, f104_c0, f104_c1, f104_c2, f104_c3, hd, hb, hw, h2, cond_false, f150_r0, f150_r1, f150_r2, f150_r3, f150_r4, f150_r5, f150_r6, f150_r7, f150_r8, f150_r9, f150_r10, f150_r11, f150_r12, f150_r13, f150_r14, f150_r15, f150_r16, f150_r17, f151_r0, f151_r1, f177_r0, f177_r1, f149_r0, f149_r1, wAdd_l, wAdd_r, wSub_l, wSub_r, wMul_l, wMul_r, wWrap, Ae, Be, Dr, Di, Nr, Ni]
    try (congr 1; grind)
  rw [h1, wSmall (by omega) (by omega)]
theorem y34_0 : f34_r0 a b c d e f g h i j w = -(w * w * c) * Ae h i w := by
  have hD := dErr_zero hd
  have hW := wErr_zero hw
  obtain ⟨hG1, hG2, hG3⟩ := bErr_zero hb
  have hG4 : (1 ≤ h ∧ h ≤ 100) ∧ (0 ≤ i ∧ i ≤ 5000) ∧ (1 ≤ j ∧ j ≤ 100) := by omega
  have hN := N_b hW hD.1 hD.2.1 hD.2.2.1 hD.2.2.2.1 (e := e) (by omega) hD.2.2.2.2.2 ⟨hG1, hG2⟩ hG4.1 hG4.2.1 hG4.2.2
  have hDD := D_b hW hD.2.2.2.1 (e := e) (by omega) hD.2.2.2.2.2 ⟨hG1, hG2⟩ hG4.1 hG4.2.1 hG4.2.2
  have hP := Pt_b hW hG4.1 hG4.2.1
  have hQ := Be_b hW hG4.2.2
  have hc := wwc_b hW hD.2.2.1
  have q1 := mulB (x := c) (y := g + Ae h i w) (a := 20) (b := 11400) (by omega) (by omega)
  have q2 := mulB (x := c) (y := Be j w) (a := 20) (b := 800) (by omega) (by omega)
  have q3 := mulB (x := c) (y := g) (a := 20) (b := 5000) (by omega) (by omega)
  have q4 := mulB (x := -(w * w * c)) (y := Ae h i w) (a := 1280) (b := 11400) (by omega) (by omega)
  have q5 := mulB (x := -(w * w * c)) (y := Be j w) (a := 1280) (b := 800) (by omega) (by omega)
  have h2 : (!h != 0) = false := by simpa using hh
  have h1 : f34_r0 a b c d e f g h i j w = IntKind.i64.wrap (-(w * w * c) * Ae h i w) := by
    simp only [f34_r0, f104_r14, f104_c0, f104_c1, f104_c2, f104_c3, hd, hb, hw, h2, cond_false, f150_r0, f150_r1, f150_r2, f150_r3, f150_r4, f150_r5, f150_r6, f150_r7, f150_r8, f150_r9, f150_r10, f150_r11, f150_r12, f150_r13, f150_r14, f150_r15, f150_r16, f150_r17, f151_r0, f151_r1, f177_r0, f177_r1, f149_r0, f149_r1, wAdd_l, wAdd_r, wSub_l, wSub_r, wMul_l, wMul_r, wWrap, Ae, Be, Dr, Di, Nr, Ni]
    try (congr 1; grind)
  rw [h1, wSmall (by omega) (by omega)]
theorem y34_1 : f34_r1 a b c d e f g h i j w = -(w * w * c) * Be j w := by
  have hD := dErr_zero hd
  have hW := wErr_zero hw
  obtain ⟨hG1, hG2, hG3⟩ := bErr_zero hb
  have hG4 : (1 ≤ h ∧ h ≤ 100) ∧ (0 ≤ i ∧ i ≤ 5000) ∧ (1 ≤ j ∧ j ≤ 100) := by omega
  have hN := N_b hW hD.1 hD.2.1 hD.2.2.1 hD.2.2.2.1 (e := e) (by omega) hD.2.2.2.2.2 ⟨hG1, hG2⟩ hG4.1 hG4.2.1 hG4.2.2
  have hDD := D_b hW hD.2.2.2.1 (e := e) (by omega) hD.2.2.2.2.2 ⟨hG1, hG2⟩ hG4.1 hG4.2.1 hG4.2.2
  have hP := Pt_b hW hG4.1 hG4.2.1
  have hQ := Be_b hW hG4.2.2
  have hc := wwc_b hW hD.2.2.1
  have q1 := mulB (x := c) (y := g + Ae h i w) (a := 20) (b := 11400) (by omega) (by omega)
  have q2 := mulB (x := c) (y := Be j w) (a := 20) (b := 800) (by omega) (by omega)
  have q3 := mulB (x := c) (y := g) (a := 20) (b := 5000) (by omega) (by omega)
  have q4 := mulB (x := -(w * w * c)) (y := Ae h i w) (a := 1280) (b := 11400) (by omega) (by omega)
  have q5 := mulB (x := -(w * w * c)) (y := Be j w) (a := 1280) (b := 800) (by omega) (by omega)
  have h2 : (!h != 0) = false := by simpa using hh
  have h1 : f34_r1 a b c d e f g h i j w = IntKind.i64.wrap (-(w * w * c) * Be j w) := by
    simp only [f34_r1, f104_r15, f104_c0, f104_c1, f104_c2, f104_c3, hd, hb, hw, h2, cond_false, f150_r0, f150_r1, f150_r2, f150_r3, f150_r4, f150_r5, f150_r6, f150_r7, f150_r8, f150_r9, f150_r10, f150_r11, f150_r12, f150_r13, f150_r14, f150_r15, f150_r16, f150_r17, f151_r0, f151_r1, f177_r0, f177_r1, f149_r0, f149_r1, wAdd_l, wAdd_r, wSub_l, wSub_r, wMul_l, wMul_r, wWrap, Ae, Be, Dr, Di, Nr, Ni]
    try (congr 1; grind)
  rw [h1, wSmall (by omega) (by omega)]
theorem y34_2 : f34_r2 a b c d e f g h i j w = Nr a b c d e f g h i j w := by
  have hD := dErr_zero hd
  have hW := wErr_zero hw
  obtain ⟨hG1, hG2, hG3⟩ := bErr_zero hb
  have hG4 : (1 ≤ h ∧ h ≤ 100) ∧ (0 ≤ i ∧ i ≤ 5000) ∧ (1 ≤ j ∧ j ≤ 100) := by omega
  have hN := N_b hW hD.1 hD.2.1 hD.2.2.1 hD.2.2.2.1 (e := e) (by omega) hD.2.2.2.2.2 ⟨hG1, hG2⟩ hG4.1 hG4.2.1 hG4.2.2
  have hDD := D_b hW hD.2.2.2.1 (e := e) (by omega) hD.2.2.2.2.2 ⟨hG1, hG2⟩ hG4.1 hG4.2.1 hG4.2.2
  have hP := Pt_b hW hG4.1 hG4.2.1
  have hQ := Be_b hW hG4.2.2
  have hc := wwc_b hW hD.2.2.1
  have q1 := mulB (x := c) (y := g + Ae h i w) (a := 20) (b := 11400) (by omega) (by omega)
  have q2 := mulB (x := c) (y := Be j w) (a := 20) (b := 800) (by omega) (by omega)
  have q3 := mulB (x := c) (y := g) (a := 20) (b := 5000) (by omega) (by omega)
  have q4 := mulB (x := -(w * w * c)) (y := Ae h i w) (a := 1280) (b := 11400) (by omega) (by omega)
  have q5 := mulB (x := -(w * w * c)) (y := Be j w) (a := 1280) (b := 800) (by omega) (by omega)
  have h2 : (!h != 0) = false := by simpa using hh
  have h1 : f34_r2 a b c d e f g h i j w = IntKind.i64.wrap (Nr a b c d e f g h i j w) := by
    simp only [f34_r2, f104_r16, f104_c0, f104_c1, f104_c2, f104_c3, hd, hb, hw, h2, cond_false, f150_r0, f150_r1, f150_r2, f150_r3, f150_r4, f150_r5, f150_r6, f150_r7, f150_r8, f150_r9, f150_r10, f150_r11, f150_r12, f150_r13, f150_r14, f150_r15, f150_r16, f150_r17, f151_r0, f151_r1, f177_r0, f177_r1, f149_r0, f149_r1, wAdd_l, wAdd_r, wSub_l, wSub_r, wMul_l, wMul_r, wWrap, Ae, Be, Dr, Di, Nr, Ni]
    try (congr 1; grind)
  rw [h1, wSmall (by omega) (by omega)]
theorem y34_3 : f34_r3 a b c d e f g h i j w = Ni a b c d e f g h i j w := by
  have hD := dErr_zero hd
  have hW := wErr_zero hw
  obtain ⟨hG1, hG2, hG3⟩ := bErr_zero hb
  have hG4 : (1 ≤ h ∧ h ≤ 100) ∧ (0 ≤ i ∧ i ≤ 5000) ∧ (1 ≤ j ∧ j ≤ 100) := by omega
  have hN := N_b hW hD.1 hD.2.1 hD.2.2.1 hD.2.2.2.1 (e := e) (by omega) hD.2.2.2.2.2 ⟨hG1, hG2⟩ hG4.1 hG4.2.1 hG4.2.2
  have hDD := D_b hW hD.2.2.2.1 (e := e) (by omega) hD.2.2.2.2.2 ⟨hG1, hG2⟩ hG4.1 hG4.2.1 hG4.2.2
  have hP := Pt_b hW hG4.1 hG4.2.1
  have hQ := Be_b hW hG4.2.2
  have hc := wwc_b hW hD.2.2.1
  have q1 := mulB (x := c) (y := g + Ae h i w) (a := 20) (b := 11400) (by omega) (by omega)
  have q2 := mulB (x := c) (y := Be j w) (a := 20) (b := 800) (by omega) (by omega)
  have q3 := mulB (x := c) (y := g) (a := 20) (b := 5000) (by omega) (by omega)
  have q4 := mulB (x := -(w * w * c)) (y := Ae h i w) (a := 1280) (b := 11400) (by omega) (by omega)
  have q5 := mulB (x := -(w * w * c)) (y := Be j w) (a := 1280) (b := 800) (by omega) (by omega)
  have h2 : (!h != 0) = false := by simpa using hh
  have h1 : f34_r3 a b c d e f g h i j w = IntKind.i64.wrap (Ni a b c d e f g h i j w) := by
    simp only [f34_r3, f104_r17, f104_c0, f104_c1, f104_c2, f104_c3, hd, hb, hw, h2, cond_false, f150_r0, f150_r1, f150_r2, f150_r3, f150_r4, f150_r5, f150_r6, f150_r7, f150_r8, f150_r9, f150_r10, f150_r11, f150_r12, f150_r13, f150_r14, f150_r15, f150_r16, f150_r17, f151_r0, f151_r1, f177_r0, f177_r1, f149_r0, f149_r1, wAdd_l, wAdd_r, wSub_l, wSub_r, wMul_l, wMul_r, wWrap, Ae, Be, Dr, Di, Nr, Ni]
    try (congr 1; grind)
  rw [h1, wSmall (by omega) (by omega)]
theorem y33_4 : f33_r4 a b c d e f g h i j w = (0 : Int) := by
  simp only [f33_r4, f104_r18, f104_c0, f104_c1, f104_c2, hd, hb, hw, cond_false]
theorem y34_4 : f34_r4 a b c d e f g h i j w = (0 : Int) := by
  simp only [f34_r4, f104_r18, f104_c0, f104_c1, f104_c2, hd, hb, hw, cond_false]
theorem y35_8 : f35_r8 a b c d e f g h i j w = (0 : Int) := by
  simp only [f35_r8, f104_r18, f104_c0, f104_c1, f104_c2, hd, hb, hw, cond_false]
end
end Go.Proofs.YtkndhhnjgpialaaGreatDoor
/-
DriverLaws gives true.
-/
namespace Go.Proofs.YtkndhhnjgpialaaGreatDoor
open Go Go.Abs
theorem dErr_of {a b c d e f : Int} (h : (1 ≤ a ∧ a ≤ 50) ∧ (0 ≤ b ∧ b ≤ 10) ∧ (1 ≤ c ∧ c ≤ 20) ∧ (1 ≤ d ∧ d ≤ 100) ∧ (1 ≤ e ∧ e ≤ 5000) ∧ (1 ≤ f ∧ f ≤ 100)) : (dErr a b c d e f != 0) = false := by
  unfold dErr okD
  rw [decide_eq_true (by omega)]
  rfl
theorem negww {w x : Int} (h : -1000000000000 ≤ w * w * x ∧ w * w * x ≤ 1000000000000) : IntKind.i64.wrap (IntKind.i64.wrap (IntKind.i64.wrap (0 - w) * w) * x) = -(w * w * x) := by
  simp only [wMul_l]
  rw [show (0 - w) * w * x = -(w * w * x) by grind, wSmall (by omega) (by omega)]
theorem two_t (x a y b : Int) (h : x = a) (h' : y = b) : (x == a && (y == b && true)) = true := by subst h; subst h'; simp
theorem four_t (x a y b z c u d : Int) (h : x = a) (h' : y = b) (h2 : z = c) (h3 : u = d) : (x == a && (y == b && true) && (z == c && (u == d && true) && true)) = true := by subst h; subst h'; subst h2; subst h3; simp
section
variable {a b c d e f g h i j w : Int} (hd : (dErr a b c d e f != 0) = false) (hb : (bErr g h i j != 0) = false) (hw : (wErr w != 0) = false)
include hd hb hw in
theorem U0 : (IntKind.i64.wrap (IntKind.i64.wrap (IntKind.i64.wrap (IntKind.i64.wrap (IntKind.i64.wrap (f17_r4 a b c d e f w + f18_r4 a b c d e f w) + f19_r4 a b c d e f w) + f33_r4 a b c d e f g h i j w) + f35_r8 a b c d e f g h i j w) + f34_r4 a b c d e f g h i j w) != 0) = false := by
  simp only [f17_r4, f18_r4, f19_r4, f33_r4, f34_r4, f35_r8, f90_r18, f90_c0, f90_c1, f104_r18, f104_c0, f104_c1, f104_c2, hd, hb, hw, cond_false]
  rfl
include hd hw in
theorem U1 : (!f81_r0 (f17_r0 a b c d e f w) (f17_r1 a b c d e f w) (f17_r2 a b c d e f w) (f17_r3 a b c d e f w)) = false := by
  have hD := dErr_zero hd
  have hW := wErr_zero hw
  have hA := Ae_b hW hD.2.2.2.1 (e := e) (by omega)
  have hB := Be_b hW hD.2.2.2.2.2
  have hZ := Z_b hW hD.1 hD.2.1 hD.2.2.1 hD.2.2.2.1 (e := e) (by omega) hD.2.2.2.2.2
  have hwc := wwc_b hW hD.2.2.1
  rw [v17_0 hd hw, v17_1 hd hw, v17_2 hd hw, v17_3 hd hw, f81_ok (by omega) (by omega) (by omega) (by omega)]
  rfl
include hd hw in
theorem U2 : (!f81_r0 (f18_r0 a b c d e f w) (f18_r1 a b c d e f w) (f18_r2 a b c d e f w) (f18_r3 a b c d e f w)) = false := by
  have hD := dErr_zero hd
  have hW := wErr_zero hw
  have hA := Ae_b hW hD.2.2.2.1 (e := e) (by omega)
  have hB := Be_b hW hD.2.2.2.2.2
  have hZ := Z_b hW hD.1 hD.2.1 hD.2.2.1 hD.2.2.2.1 (e := e) (by omega) hD.2.2.2.2.2
  have hwc := wwc_b hW hD.2.2.1
  rw [v18_0 hd hw, v18_1 hd hw, v18_2 hd hw, v18_3 hd hw, f81_ok (by omega) (by omega) (by omega) (by omega)]
  rfl
include hd hw in
theorem U3 : (!f81_r0 (f19_r0 a b c d e f w) (f19_r1 a b c d e f w) (f19_r2 a b c d e f w) (f19_r3 a b c d e f w)) = false := by
  have hD := dErr_zero hd
  have hW := wErr_zero hw
  have hA := Ae_b hW hD.2.2.2.1 (e := e) (by omega)
  have hB := Be_b hW hD.2.2.2.2.2
  have hZ := Z_b hW hD.1 hD.2.1 hD.2.2.1 hD.2.2.2.1 (e := e) (by omega) hD.2.2.2.2.2
  have hwc := wwc_b hW hD.2.2.1
  rw [v19_0 hd hw, v19_1 hd hw, v19_2 hd hw, v19_3 hd hw, f81_ok (by omega) (by omega) (by omega) (by omega)]
  rfl
include hd hb hw in
theorem U4 : (!f81_r0 (f33_r0 a b c d e f g h i j w) (f33_r1 a b c d e f g h i j w) (f33_r2 a b c d e f g h i j w) (f33_r3 a b c d e f g h i j w)) = false := by
  have hD := dErr_zero hd
  have hW := wErr_zero hw
  have hA := Ae_b hW hD.2.2.2.1 (e := e) (by omega)
  have hB := Be_b hW hD.2.2.2.2.2
  have hZ := Z_b hW hD.1 hD.2.1 hD.2.2.1 hD.2.2.2.1 (e := e) (by omega) hD.2.2.2.2.2
  have hwc := wwc_b hW hD.2.2.1
  obtain ⟨hG1, hG2, hG3⟩ := bErr_zero hb
  by_cases hh : h = 0
  · subst hh
    have hZ' := Z_b hW hD.1 hD.2.1 hD.2.2.1 hD.2.2.2.1 (e := e + g) (by omega) hD.2.2.2.2.2
    have hA' := Ae_b hW hD.2.2.2.1 (e := e + g) (by omega)
    rw [x33_0 hd hb hw, x33_1 hd hb hw, x33_2 hd hb hw, x33_3 hd hb hw, f81_ok (by omega) (by omega) (by omega) (by omega)]
    try rfl
  · skip
    have hG4 : (1 ≤ h ∧ h ≤ 100) ∧ (0 ≤ i ∧ i ≤ 5000) ∧ (1 ≤ j ∧ j ≤ 100) := by omega
    have hN := N_b hW hD.1 hD.2.1 hD.2.2.1 hD.2.2.2.1 (e := e) (by omega) hD.2.2.2.2.2 ⟨hG1, hG2⟩ hG4.1 hG4.2.1 hG4.2.2
    have hDD := D_b hW hD.2.2.2.1 (e := e) (by omega) hD.2.2.2.2.2 ⟨hG1, hG2⟩ hG4.1 hG4.2.1 hG4.2.2
    have hP := Pt_b hW hG4.1 hG4.2.1
    have hQ := Be_b hW hG4.2.2
    have q1 := mulB (x := c) (y := g + Ae h i w) (a := 20) (b := 11400) (by omega) (by omega)
    have q2 := mulB (x := c) (y := Be j w) (a := 20) (b := 800) (by omega) (by omega)
    have q3 := mulB (x := c) (y := g) (a := 20) (b := 5000) (by omega) (by omega)
    have q4 := mulB (x := -(w * w * c)) (y := Ae h i w) (a := 1280) (b := 11400) (by omega) (by omega)
    have q5 := mulB (x := -(w * w * c)) (y := Be j w) (a := 1280) (b := 800) (by omega) (by omega)
    rw [y33_0 hd hb hw hh, y33_1 hd hb hw hh, y33_2 hd hb hw hh, y33_3 hd hb hw hh, f81_ok (by omega) (by omega) (by omega) (by omega)]
    try rfl
include hd hb hw in
theorem U5 : (!f81_r0 (f35_r0 a b c d e f g h i j w) (f35_r1 a b c d e f g h i j w) (f35_r2 a b c d e f g h i j w) (f35_r3 a b c d e f g h i j w)) = false := by
  have hD := dErr_zero hd
  have hW := wErr_zero hw
  have hA := Ae_b hW hD.2.2.2.1 (e := e) (by omega)
  have hB := Be_b hW hD.2.2.2.2.2
  have hZ := Z_b hW hD.1 hD.2.1 hD.2.2.1 hD.2.2.2.1 (e := e) (by omega) hD.2.2.2.2.2
  have hwc := wwc_b hW hD.2.2.1
  obtain ⟨hG1, hG2, hG3⟩ := bErr_zero hb
  by_cases hh : h = 0
  · subst hh
    have hZ' := Z_b hW hD.1 hD.2.1 hD.2.2.1 hD.2.2.2.1 (e := e + g) (by omega) hD.2.2.2.2.2
    have hA' := Ae_b hW hD.2.2.2.1 (e := e + g) (by omega)
    rw [x35_0 hd hb hw, x35_1 hd hb hw, x35_2 hd hb hw, x35_3 hd hb hw, f81_ok (by omega) (by omega) (by omega) (by omega)]
    try rfl
  · skip
    have hG4 : (1 ≤ h ∧ h ≤ 100) ∧ (0 ≤ i ∧ i ≤ 5000) ∧ (1 ≤ j ∧ j ≤ 100) := by omega
    have hN := N_b hW hD.1 hD.2.1 hD.2.2.1 hD.2.2.2.1 (e := e) (by omega) hD.2.2.2.2.2 ⟨hG1, hG2⟩ hG4.1 hG4.2.1 hG4.2.2
    have hDD := D_b hW hD.2.2.2.1 (e := e) (by omega) hD.2.2.2.2.2 ⟨hG1, hG2⟩ hG4.1 hG4.2.1 hG4.2.2
    have hP := Pt_b hW hG4.1 hG4.2.1
    have hQ := Be_b hW hG4.2.2
    have q1 := mulB (x := c) (y := g + Ae h i w) (a := 20) (b := 11400) (by omega) (by omega)
    have q2 := mulB (x := c) (y := Be j w) (a := 20) (b := 800) (by omega) (by omega)
    have q3 := mulB (x := c) (y := g) (a := 20) (b := 5000) (by omega) (by omega)
    have q4 := mulB (x := -(w * w * c)) (y := Ae h i w) (a := 1280) (b := 11400) (by omega) (by omega)
    have q5 := mulB (x := -(w * w * c)) (y := Be j w) (a := 1280) (b := 800) (by omega) (by omega)
    rw [y35_0 hd hb hw hh, y35_1 hd hb hw hh, y35_2 hd hb hw hh, y35_3 hd hb hw hh, f81_ok (by omega) (by omega) (by omega) (by omega)]
    try rfl
include hd hb hw in
theorem U6 : (!f81_r0 (f35_r4 a b c d e f g h i j w) (f35_r5 a b c d e f g h i j w) (f35_r6 a b c d e f g h i j w) (f35_r7 a b c d e f g h i j w)) = false := by
  have hD := dErr_zero hd
  have hW := wErr_zero hw
  have hA := Ae_b hW hD.2.2.2.1 (e := e) (by omega)
  have hB := Be_b hW hD.2.2.2.2.2
  have hZ := Z_b hW hD.1 hD.2.1 hD.2.2.1 hD.2.2.2.1 (e := e) (by omega) hD.2.2.2.2.2
  have hwc := wwc_b hW hD.2.2.1
  obtain ⟨hG1, hG2, hG3⟩ := bErr_zero hb
  by_cases hh : h = 0
  · subst hh
    have hZ' := Z_b hW hD.1 hD.2.1 hD.2.2.1 hD.2.2.2.1 (e := e + g) (by omega) hD.2.2.2.2.2
    have hA' := Ae_b hW hD.2.2.2.1 (e := e + g) (by omega)
    rw [x35_4 hd hb hw, x35_5 hd hb hw, x35_6 hd hb hw, x35_7 hd hb hw, f81_ok (by omega) (by omega) (by omega) (by omega)]
    try rfl
  · skip
    have hG4 : (1 ≤ h ∧ h ≤ 100) ∧ (0 ≤ i ∧ i ≤ 5000) ∧ (1 ≤ j ∧ j ≤ 100) := by omega
    have hN := N_b hW hD.1 hD.2.1 hD.2.2.1 hD.2.2.2.1 (e := e) (by omega) hD.2.2.2.2.2 ⟨hG1, hG2⟩ hG4.1 hG4.2.1 hG4.2.2
    have hDD := D_b hW hD.2.2.2.1 (e := e) (by omega) hD.2.2.2.2.2 ⟨hG1, hG2⟩ hG4.1 hG4.2.1 hG4.2.2
    have hP := Pt_b hW hG4.1 hG4.2.1
    have hQ := Be_b hW hG4.2.2
    have q1 := mulB (x := c) (y := g + Ae h i w) (a := 20) (b := 11400) (by omega) (by omega)
    have q2 := mulB (x := c) (y := Be j w) (a := 20) (b := 800) (by omega) (by omega)
    have q3 := mulB (x := c) (y := g) (a := 20) (b := 5000) (by omega) (by omega)
    have q4 := mulB (x := -(w * w * c)) (y := Ae h i w) (a := 1280) (b := 11400) (by omega) (by omega)
    have q5 := mulB (x := -(w * w * c)) (y := Be j w) (a := 1280) (b := 800) (by omega) (by omega)
    rw [y35_4 hd hb hw hh, y35_5 hd hb hw hh, y35_6 hd hb hw hh, y35_7 hd hb hw hh, f81_ok (by omega) (by omega) (by omega) (by omega)]
    try rfl
include hd hb hw in
theorem U7 : (!f81_r0 (f34_r0 a b c d e f g h i j w) (f34_r1 a b c d e f g h i j w) (f34_r2 a b c d e f g h i j w) (f34_r3 a b c d e f g h i j w)) = false := by
  have hD := dErr_zero hd
  have hW := wErr_zero hw
  have hA := Ae_b hW hD.2.2.2.1 (e := e) (by omega)
  have hB := Be_b hW hD.2.2.2.2.2
  have hZ := Z_b hW hD.1 hD.2.1 hD.2.2.1 hD.2.2.2.1 (e := e) (by omega) hD.2.2.2.2.2
  have hwc := wwc_b hW hD.2.2.1
  obtain ⟨hG1, hG2, hG3⟩ := bErr_zero hb
  by_cases hh : h = 0
  · subst hh
    have hZ' := Z_b hW hD.1 hD.2.1 hD.2.2.1 hD.2.2.2.1 (e := e + g) (by omega) hD.2.2.2.2.2
    have hA' := Ae_b hW hD.2.2.2.1 (e := e + g) (by omega)
    rw [x34_0 hd hb hw, x34_1 hd hb hw, x34_2 hd hb hw, x34_3 hd hb hw, f81_ok (by omega) (by omega) (by omega) (by omega)]
    try rfl
  · skip
    have hG4 : (1 ≤ h ∧ h ≤ 100) ∧ (0 ≤ i ∧ i ≤ 5000) ∧ (1 ≤ j ∧ j ≤ 100) := by omega
    have hN := N_b hW hD.1 hD.2.1 hD.2.2.1 hD.2.2.2.1 (e := e) (by omega) hD.2.2.2.2.2 ⟨hG1, hG2⟩ hG4.1 hG4.2.1 hG4.2.2
    have hDD := D_b hW hD.2.2.2.1 (e := e) (by omega) hD.2.2.2.2.2 ⟨hG1, hG2⟩ hG4.1 hG4.2.1 hG4.2.2
    have hP := Pt_b hW hG4.1 hG4.2.1
    have hQ := Be_b hW hG4.2.2
    have q1 := mulB (x := c) (y := g + Ae h i w) (a := 20) (b := 11400) (by omega) (by omega)
    have q2 := mulB (x := c) (y := Be j w) (a := 20) (b := 800) (by omega) (by omega)
    have q3 := mulB (x := c) (y := g) (a := 20) (b := 5000) (by omega) (by omega)
    have q4 := mulB (x := -(w * w * c)) (y := Ae h i w) (a := 1280) (b := 11400) (by omega) (by omega)
    have q5 := mulB (x := -(w * w * c)) (y := Be j w) (a := 1280) (b := 800) (by omega) (by omega)
    rw [y34_0 hd hb hw hh, y34_1 hd hb hw hh, y34_2 hd hb hw hh, y34_3 hd hb hw hh, f81_ok (by omega) (by omega) (by omega) (by omega)]
    try rfl
include hd hw in
theorem U8 : (f17_r2 a b c d e f w == 0 && (f17_r3 a b c d e f w == 0 && true)) = false := by
  have hD := dErr_zero hd
  have hW := wErr_zero hw
  have hA := Ae_b hW hD.2.2.2.1 (e := e) (by omega)
  have hB := Be_b hW hD.2.2.2.2.2
  have hZ := Z_b hW hD.1 hD.2.1 hD.2.2.1 hD.2.2.2.1 (e := e) (by omega) hD.2.2.2.2.2
  have hwc := wwc_b hW hD.2.2.1
  rw [v17_2 hd hw, v17_3 hd hw, two_eq]
  exact decide_eq_false (by omega)
omit a b c d e f g h i j w in
theorem Z_id (a b c d e f w : Int) : Zr a b d e f w * Ae d e w + Zi a b c d e f w * Be f w = a * (Ae d e w * Ae d e w + Be f w * Be f w) + w * c * c * Be f w := by
  unfold Zr Zi; grind
omit a b c d e f g h i j w in
theorem sq_nn (x : Int) : 0 ≤ x * x := by
  rcases Int.le_total 0 x with h | h
  · exact Int.mul_nonneg h h
  · have := Int.mul_nonneg (a := -x) (b := -x) (by omega) (by omega)
    rwa [Int.neg_mul_neg] at this
include hd hw in
theorem U9 : (f18_r2 a b c d e f w == 0 && (f18_r3 a b c d e f w == 0 && true)) = false := by
  have hD := dErr_zero hd
  have hW := wErr_zero hw
  have hA := Ae_b hW hD.2.2.2.1 (e := e) (by omega)
  have hB := Be_b hW hD.2.2.2.2.2
  have hZ := Z_b hW hD.1 hD.2.1 hD.2.2.1 hD.2.2.2.1 (e := e) (by omega) hD.2.2.2.2.2
  have hwc := wwc_b hW hD.2.2.1
  rw [v18_2 hd hw, v18_3 hd hw, two_eq]
  refine decide_eq_false fun hz => ?_
  have id := Z_id a b c d e f w
  rw [hz.1, hz.2, Int.zero_mul, Int.zero_mul] at id
  have s1 := sq_nn (Ae d e w)
  have s2 := prodB hB hB
  have s3 := prodB (wcc_b hW hD.2.2.1) hB
  have s4 := Int.mul_nonneg (a := a) (b := Ae d e w * Ae d e w + Be f w * Be f w) (by omega) (by omega)
  omega
include hd hw in
theorem U10 : (!(f19_r0 a b c d e f w == IntKind.i64.wrap (IntKind.i64.wrap (IntKind.i64.wrap (0 - w) * w) * f18_r0 a b c d e f w) && (f19_r1 a b c d e f w == IntKind.i64.wrap (IntKind.i64.wrap (IntKind.i64.wrap (0 - w) * w) * f18_r1 a b c d e f w) && true))) = false := by
  have hD := dErr_zero hd
  have hW := wErr_zero hw
  have hA := Ae_b hW hD.2.2.2.1 (e := e) (by omega)
  have hB := Be_b hW hD.2.2.2.2.2
  have hZ := Z_b hW hD.1 hD.2.1 hD.2.2.1 hD.2.2.2.1 (e := e) (by omega) hD.2.2.2.2.2
  have hwc := wwc_b hW hD.2.2.1
  rw [v19_0 hd hw, v19_1 hd hw, v18_0 hd hw, v18_1 hd hw, negww (by omega), Int.mul_zero, two_t _ _ _ _ rfl (by decide)]
  rfl
include hd hw in
theorem U11 : (!(f19_r2 a b c d e f w == f18_r2 a b c d e f w && (f19_r3 a b c d e f w == f18_r3 a b c d e f w && true))) = false := by
  rw [v19_2 hd hw, v19_3 hd hw, v18_2 hd hw, v18_3 hd hw, two_t _ _ _ _ rfl rfl]
  rfl
include hd hb hw in
theorem U12 : (!(f33_r0 a b c d e f g h i j w == f35_r2 a b c d e f g h i j w && (f33_r1 a b c d e f g h i j w == f35_r3 a b c d e f g h i j w && true))) = false := by
  by_cases hh : h = 0
  · subst hh
    rw [x33_0 hd hb hw, x33_1 hd hb hw, x35_2 hd hb hw, x35_3 hd hb hw, two_t _ _ _ _ rfl rfl]
    rfl
  · rw [y33_0 hd hb hw hh, y33_1 hd hb hw hh, y35_2 hd hb hw hh, y35_3 hd hb hw hh, two_t _ _ _ _ rfl rfl]
    rfl
include hd hw in
theorem U13 : (decide (f82_r0 (f17_r0 a b c d e f w) (f17_r1 a b c d e f w) (f17_r2 a b c d e f w) (f83_r1 (f17_r2 a b c d e f w) (f17_r3 a b c d e f w)) < IntKind.i64.wrap (a * f84_r0 (f17_r2 a b c d e f w) (f17_r3 a b c d e f w)))) = false := by
  have hD := dErr_zero hd
  have hW := wErr_zero hw
  have hA := Ae_b hW hD.2.2.2.1 (e := e) (by omega)
  have hB := Be_b hW hD.2.2.2.2.2
  have hZ := Z_b hW hD.1 hD.2.1 hD.2.2.1 hD.2.2.2.1 (e := e) (by omega) hD.2.2.2.2.2
  have hwc := wwc_b hW hD.2.2.1
  rw [v17_0 hd hw, v17_1 hd hw, v17_2 hd hw, v17_3 hd hw]
  simp only [f82_r0, f83_r1, f84_r0, wAdd_l, wAdd_r, wSub_l, wSub_r, wMul_l, wMul_r, wWrap]
  have id := Z_id a b c d e f w
  have p1 := mulB (x := Zr a b d e f w) (y := Ae d e w) (a := 10000000) (b := 11400) hZ.1 hA
  have p2 := mulB (x := Zi a b c d e f w) (y := Be f w) (a := 10000000) (b := 800) hZ.2 (by omega)
  have p3 := mulB (x := Ae d e w) (y := Ae d e w) (a := 11400) (b := 11400) hA hA
  have p4 := prodB hB hB
  have p5 := mulB (x := a) (y := Ae d e w * Ae d e w + Be f w * Be f w) (a := 50) (b := 200000000) (by omega) (by omega)
  have p6 := prodB (wcc_b hW hD.2.2.1) hB
  rw [show Zi a b c d e f w * (0 - Be f w) = -(Zi a b c d e f w * Be f w) by grind, wSmall (by omega) (by omega), wSmall (by omega) (by omega)]
  exact decide_eq_false (by omega)
include hd hw in
theorem kw_eq : IntKind.i64.wrap (IntKind.i64.wrap (w * w) * d) = w * w * d := by
  have hD := dErr_zero hd
  have hW := wErr_zero hw
  have h1 := ww_b hW (d := d) (by omega)
  simp only [wMul_l]
  exact wSmall (by omega) (by omega)
include hd hw in
theorem kd (kK : (decide (IntKind.i64.wrap (IntKind.i64.wrap (w * w) * d) ≤ 5000)) = true) : (dErr a b c d (IntKind.i64.wrap (IntKind.i64.wrap (w * w) * d)) f != 0) = false := by
  have hD := dErr_zero hd
  have hW := wErr_zero hw
  have h1 := of_decide_eq_true kK
  have h2 := prodB hW hW
  have h3 := prodB h2 hD.2.2.2.1
  rw [kw_eq hd hw] at h1 ⊢
  exact dErr_of (by omega)
include hd hw in
theorem K0 (kK : (decide (IntKind.i64.wrap (IntKind.i64.wrap (w * w) * d) ≤ 5000)) = true) : (f16_r2 a b c d (IntKind.i64.wrap (IntKind.i64.wrap (w * w) * d)) f w != 0) = false := by
  simp only [f16_r2, f90_r18, f90_c0, f90_c1, kd hd hw kK, hw, cond_false]
  rfl
include hd hw in
theorem K1 (kK : (decide (IntKind.i64.wrap (IntKind.i64.wrap (w * w) * d) ≤ 5000)) = true) : (!(f16_r0 a b c d (IntKind.i64.wrap (IntKind.i64.wrap (w * w) * d)) f w == 0 && (f16_r1 a b c d (IntKind.i64.wrap (IntKind.i64.wrap (w * w) * d)) f w == IntKind.i64.wrap (w * f) && true))) = false := by
  rw [v16_0 (kd hd hw kK) hw, v16_1 (kd hd hw kK) hw, two_t _ _ _ _ (by rw [kw_eq hd hw]; unfold Ae; omega) (by have hB := Be_b (wErr_zero hw) (dErr_zero hd).2.2.2.2.2; unfold Be at hB ⊢; rw [wSmall (by omega) (by omega)])]
  rfl
include hd hb in
theorem f44_val : f44_r6 a b c d e f g = (if e + g ≤ 5000 then 0 else 3) := by
  have hD := dErr_zero hd
  obtain ⟨hG1, hG2, hG3⟩ := bErr_zero hb
  have h1 : (f111_r0 g 0 5000 != 0) = false := by rw [f111_eq]; exact nz3 (by omega)
  simp only [f44_r6, f44_c0, f44_c1, f44_c2, hd, h1, cond_false]
  rw [wSmall (by omega) (by omega), f111_eq]
  by_cases h2 : e + g ≤ 5000
  · rw [if_pos (by omega), if_pos h2]; rfl
  · rw [if_neg (by omega), if_neg h2]; rfl
include hd hb in
theorem c_sum (kC : (f44_r6 a b c d e f g == 0) = true) : e + g ≤ 5000 := by
  rw [f44_val hd hb] at kC
  by_cases h2 : e + g ≤ 5000
  · exact h2
  · rw [if_neg h2] at kC; cases kC
include hd hb in
theorem nc_sum (kC : (f44_r6 a b c d e f g == 0) = false) : ¬ e + g ≤ 5000 := fun h2 => by
  rw [f44_val hd hb, if_pos h2] at kC; cases kC
include hd hb in
theorem f44_k (h2 : e + g ≤ 5000) : f44_r0 a b c d e f g = a ∧ f44_r1 a b c d e f g = b ∧ f44_r2 a b c d e f g = c ∧ f44_r3 a b c d e f g = d ∧ f44_r4 a b c d e f g = e + g ∧ f44_r5 a b c d e f g = f := by
  have hD := dErr_zero hd
  obtain ⟨hG1, hG2, hG3⟩ := bErr_zero hb
  have h1 : (f111_r0 g 0 5000 != 0) = false := by rw [f111_eq]; exact nz3 (by omega)
  have h3 : (f111_r0 (e + g) 1 5000 != 0) = false := by rw [f111_eq]; exact nz3 (by omega)
  simp only [f44_r0, f44_r1, f44_r2, f44_r3, f44_r4, f44_r5, f44_c0, f44_c1, f44_c2, hd, h1, wSmall (x := e + g) (by omega) (by omega), h3, cond_false]
  exact ⟨trivial, trivial, trivial, trivial, trivial, trivial⟩
include hd hb in
theorem cd (h2 : e + g ≤ 5000) : (dErr a b c d (e + g) f != 0) = false := by
  have hD := dErr_zero hd
  obtain ⟨hG1, hG2, hG3⟩ := bErr_zero hb
  exact dErr_of (by omega)
include hb in
theorem cb : (bErr g 0 0 0 != 0) = false := by
  obtain ⟨hG1, hG2, hG3⟩ := bErr_zero hb
  unfold bErr
  rw [if_pos ⟨hG1, hG2⟩]
  rfl
include hd hb hw in
theorem C0 (kC : (f44_r6 a b c d e f g == 0) = true) : (f17_r4 (f44_r0 a b c d e f g) (f44_r1 a b c d e f g) (f44_r2 a b c d e f g) (f44_r3 a b c d e f g) (f44_r4 a b c d e f g) (f44_r5 a b c d e f g) w != 0) = false := by
  have hs := c_sum hd hb kC
  obtain ⟨t0, t1, t2, t3, t4, t5⟩ := f44_k hd hb hs
  rw [t0, t1, t2, t3, t4, t5]
  simp only [f17_r4, f90_r18, f90_c0, f90_c1, cd hd hb hs, hw, cond_false]
  rfl
include hd hb hw in
theorem C1 (kC : (f44_r6 a b c d e f g == 0) = true) : (f33_r4 a b c d e f g 0 0 0 w != 0) = false := by
  rw [x33_4 hd (cb hb) hw]
  rfl
include hd hb hw in
theorem C2 (kC : (f44_r6 a b c d e f g == 0) = true) : (!(f17_r0 (f44_r0 a b c d e f g) (f44_r1 a b c d e f g) (f44_r2 a b c d e f g) (f44_r3 a b c d e f g) (f44_r4 a b c d e f g) (f44_r5 a b c d e f g) w == f33_r0 a b c d e f g 0 0 0 w && (f17_r1 (f44_r0 a b c d e f g) (f44_r1 a b c d e f g) (f44_r2 a b c d e f g) (f44_r3 a b c d e f g) (f44_r4 a b c d e f g) (f44_r5 a b c d e f g) w == f33_r1 a b c d e f g 0 0 0 w && true) && (f17_r2 (f44_r0 a b c d e f g) (f44_r1 a b c d e f g) (f44_r2 a b c d e f g) (f44_r3 a b c d e f g) (f44_r4 a b c d e f g) (f44_r5 a b c d e f g) w == f33_r2 a b c d e f g 0 0 0 w && (f17_r3 (f44_r0 a b c d e f g) (f44_r1 a b c d e f g) (f44_r2 a b c d e f g) (f44_r3 a b c d e f g) (f44_r4 a b c d e f g) (f44_r5 a b c d e f g) w == f33_r3 a b c d e f g 0 0 0 w && true) && true))) = false := by
  have hs := c_sum hd hb kC
  obtain ⟨t0, t1, t2, t3, t4, t5⟩ := f44_k hd hb hs
  rw [t0, t1, t2, t3, t4, t5, v17_0 (cd hd hb hs) hw, v17_1 (cd hd hb hs) hw, v17_2 (cd hd hb hs) hw, v17_3 (cd hd hb hs) hw, x33_0 hd (cb hb) hw, x33_1 hd (cb hb) hw, x33_2 hd (cb hb) hw, x33_3 hd (cb hb) hw, four_t _ _ _ _ _ _ _ _ rfl rfl rfl rfl]
  rfl
include hd hb in
theorem N0 (kC : (f44_r6 a b c d e f g == 0) = false) : (f44_r6 a b c d e f g != 3) = false := by
  rw [f44_val hd hb, if_neg (nc_sum hd hb kC)]
  rfl
include hd hb in
theorem N1 (kC : (f44_r6 a b c d e f g == 0) = false) : (decide (IntKind.i64.wrap (e + g) ≤ 5000)) = false := by
  have hD := dErr_zero hd
  obtain ⟨hG1, hG2, hG3⟩ := bErr_zero hb
  have := nc_sum hd hb kC
  rw [wSmall (by omega) (by omega)]
  exact decide_eq_false (by omega)
end
section
variable {a b c d e f g i j w : Int} (hd : (dErr a b c d e f != 0) = false) (hb : (bErr g 0 i j != 0) = false) (hw : (wErr w != 0) = false)
include hd hb hw
theorem M0 : (f35_r4 a b c d e f g 0 i j w == 0 && (f35_r5 a b c d e f g 0 i j w == 0 && true) && (f35_r6 a b c d e f g 0 i j w == 1 && (f35_r7 a b c d e f g 0 i j w == 0 && true) && true)) = true := by rw [x35_4 hd hb hw, x35_5 hd hb hw, x35_6 hd hb hw, x35_7 hd hb hw]; rfl
theorem M1 : (f34_r0 a b c d e f g 0 i j w == IntKind.i64.wrap (IntKind.i64.wrap (IntKind.i64.wrap (0 - w) * w) * f35_r0 a b c d e f g 0 i j w) && (f34_r1 a b c d e f g 0 i j w == IntKind.i64.wrap (IntKind.i64.wrap (IntKind.i64.wrap (0 - w) * w) * f35_r1 a b c d e f g 0 i j w) && true)) = true := by
  have hwc := wwc_b (wErr_zero hw) (dErr_zero hd).2.2.1
  rw [x34_0 hd hb hw, x34_1 hd hb hw, x35_0 hd hb hw, x35_1 hd hb hw, negww (by omega), Int.mul_zero]
  exact two_t _ _ _ _ rfl (by decide)
theorem M2 : (f34_r2 a b c d e f g 0 i j w == f35_r2 a b c d e f g 0 i j w && (f34_r3 a b c d e f g 0 i j w == f35_r3 a b c d e f g 0 i j w && true)) = true := by rw [x34_2 hd hb hw, x34_3 hd hb hw, x35_2 hd hb hw, x35_3 hd hb hw]; exact two_t _ _ _ _ rfl rfl
end
section
variable {a b c d e f g h i j w : Int} (hd : (dErr a b c d e f != 0) = false) (hb : (bErr g h i j != 0) = false) (hw : (wErr w != 0) = false) (hh : h ≠ 0)
include hd hb hw hh
theorem P0 : (f35_r6 a b c d e f g h i j w == f35_r2 a b c d e f g h i j w && (f35_r7 a b c d e f g h i j w == f35_r3 a b c d e f g h i j w && true)) = true := by rw [y35_6 hd hb hw hh, y35_7 hd hb hw hh, y35_2 hd hb hw hh, y35_3 hd hb hw hh]; exact two_t _ _ _ _ rfl rfl
theorem P1 : (f34_r2 a b c d e f g h i j w == f35_r2 a b c d e f g h i j w && (f34_r3 a b c d e f g h i j w == f35_r3 a b c d e f g h i j w && true)) = true := by rw [y34_2 hd hb hw hh, y34_3 hd hb hw hh, y35_2 hd hb hw hh, y35_3 hd hb hw hh]; exact two_t _ _ _ _ rfl rfl
theorem P2 : (f34_r0 a b c d e f g h i j w == IntKind.i64.wrap (IntKind.i64.wrap (IntKind.i64.wrap (0 - w) * w) * f86_r0 (f35_r0 a b c d e f g h i j w) (f35_r1 a b c d e f g h i j w) (f35_r4 a b c d e f g h i j w) (f35_r5 a b c d e f g h i j w)) && (f34_r1 a b c d e f g h i j w == IntKind.i64.wrap (IntKind.i64.wrap (IntKind.i64.wrap (0 - w) * w) * f86_r1 (f35_r0 a b c d e f g h i j w) (f35_r1 a b c d e f g h i j w) (f35_r4 a b c d e f g h i j w) (f35_r5 a b c d e f g h i j w)) && true)) = true := by
  have hD := dErr_zero hd
  have hW := wErr_zero hw
  have hA := Ae_b hW hD.2.2.2.1 (e := e) (by omega)
  have hB := Be_b hW hD.2.2.2.2.2
  have hwc := wwc_b hW hD.2.2.1
  obtain ⟨hG1, hG2, hG3⟩ := bErr_zero hb
  have hG4 : (1 ≤ h ∧ h ≤ 100) ∧ (0 ≤ i ∧ i ≤ 5000) ∧ (1 ≤ j ∧ j ≤ 100) := by omega
  have hN := N_b hW hD.1 hD.2.1 hD.2.2.1 hD.2.2.2.1 (e := e) (by omega) hD.2.2.2.2.2 ⟨hG1, hG2⟩ hG4.1 hG4.2.1 hG4.2.2
  have hDD := D_b hW hD.2.2.2.1 (e := e) (by omega) hD.2.2.2.2.2 ⟨hG1, hG2⟩ hG4.1 hG4.2.1 hG4.2.2
  have hP := Pt_b hW hG4.1 hG4.2.1
  have hQ := Be_b hW hG4.2.2
  have q1 := mulB (x := c) (y := g + Ae h i w) (a := 20) (b := 11400) (by omega) (by omega)
  have q2 := mulB (x := c) (y := Be j w) (a := 20) (b := 800) (by omega) (by omega)
  have q3 := mulB (x := c) (y := g) (a := 20) (b := 5000) (by omega) (by omega)
  have q4 := mulB (x := -(w * w * c)) (y := Ae h i w) (a := 1280) (b := 11400) (by omega) (by omega)
  have q5 := mulB (x := -(w * w * c)) (y := Be j w) (a := 1280) (b := 800) (by omega) (by omega)
  have r1 : f86_r0 (c * (g + Ae h i w)) (c * Be j w) (c * g) 0 = c * Ae h i w := by
    unfold f86_r0
    rw [show c * (g + Ae h i w) - c * g = c * Ae h i w by grind]
    have := mulB (x := c) (y := Ae h i w) (a := 20) (b := 11400) (by omega) (by omega)
    exact wSmall (by omega) (by omega)
  have r2 : f86_r1 (c * (g + Ae h i w)) (c * Be j w) (c * g) 0 = c * Be j w := by
    unfold f86_r1
    rw [Int.sub_zero]
    exact wSmall (by omega) (by omega)
  have e1 : w * w * (c * Ae h i w) = -(-(w * w * c) * Ae h i w) := by grind
  have e2 : w * w * (c * Be j w) = -(-(w * w * c) * Be j w) := by grind
  rw [y34_0 hd hb hw hh, y34_1 hd hb hw hh, y35_0 hd hb hw hh, y35_1 hd hb hw hh, y35_4 hd hb hw hh, y35_5 hd hb hw hh, r1, r2, negww (by omega), negww (by omega)]
  exact two_t _ _ _ _ (by omega) (by omega)
end
/-- DriverLaws gives true. -/
theorem la_law (a b c d e f g h i j w : Int) : Gives Tryz.prog envRa 0 11 [.agg #[.int .i64 a, .int .i64 b, .int .i64 c, .int .i64 d, .int .i64 e, .int .i64 f], .agg #[.int .i64 g, .int .i64 h, .int .i64 i, .int .i64 j], .int .i64 w] heap0 (.bool true, heap0) := by
  cases hd : dErr a b c d e f != 0
  case true => exact laX_p0 a b c d e f g h i j w hd
  cases hb : bErr g h i j != 0
  case true => exact laY_p0 a b c d e f g h i j w hd hb
  cases hw : wErr w != 0
  case true => exact laZ_p0 a b c d e f g h i j w hd hb hw
  cases kK : decide (IntKind.i64.wrap (IntKind.i64.wrap (w * w) * d) ≤ 5000)
  · cases kC : f44_r6 a b c d e f g == 0
    · by_cases kM : h = 0
      · subst kM
        have key := laFFT_p0 a b c d e f g 0 i j w hd hb hw kK kC rfl (U0 hd hb hw) (U1 hd hw) (U2 hd hw) (U3 hd hw) (U4 hd hb hw) (U5 hd hb hw) (U6 hd hb hw) (U7 hd hb hw) (U8 hd hw) (U9 hd hw) (U10 hd hw) (U11 hd hw) (U12 hd hb hw) (U13 hd hw) (N0 hd hb kC) (N1 hd hb kC) (M0 hd hb hw) (M1 hd hb hw)
        rw [M2 hd hb hw] at key
        exact key
      · skip
        have key := laFFF_p0 a b c d e f g h i j w hd hb hw kK kC (by simpa using kM) (U0 hd hb hw) (U1 hd hw) (U2 hd hw) (U3 hd hw) (U4 hd hb hw) (U5 hd hb hw) (U6 hd hb hw) (U7 hd hb hw) (U8 hd hw) (U9 hd hw) (U10 hd hw) (U11 hd hw) (U12 hd hb hw) (U13 hd hw) (N0 hd hb kC) (N1 hd hb kC) (P0 hd hb hw kM) (P1 hd hb hw kM)
        rw [P2 hd hb hw kM] at key
        exact key
    · by_cases kM : h = 0
      · subst kM
        have key := laFTT_p0 a b c d e f g 0 i j w hd hb hw kK kC rfl (U0 hd hb hw) (U1 hd hw) (U2 hd hw) (U3 hd hw) (U4 hd hb hw) (U5 hd hb hw) (U6 hd hb hw) (U7 hd hb hw) (U8 hd hw) (U9 hd hw) (U10 hd hw) (U11 hd hw) (U12 hd hb hw) (U13 hd hw) (C0 hd hb hw kC) (C1 hd hb hw kC) (C2 hd hb hw kC) (M0 hd hb hw) (M1 hd hb hw)
        rw [M2 hd hb hw] at key
        exact key
      · skip
        have key := laFTF_p0 a b c d e f g h i j w hd hb hw kK kC (by simpa using kM) (U0 hd hb hw) (U1 hd hw) (U2 hd hw) (U3 hd hw) (U4 hd hb hw) (U5 hd hb hw) (U6 hd hb hw) (U7 hd hb hw) (U8 hd hw) (U9 hd hw) (U10 hd hw) (U11 hd hw) (U12 hd hb hw) (U13 hd hw) (C0 hd hb hw kC) (C1 hd hb hw kC) (C2 hd hb hw kC) (P0 hd hb hw kM) (P1 hd hb hw kM)
        rw [P2 hd hb hw kM] at key
        exact key
  · cases kC : f44_r6 a b c d e f g == 0
    · by_cases kM : h = 0
      · subst kM
        have key := laTFT_p0 a b c d e f g 0 i j w hd hb hw kK kC rfl (U0 hd hb hw) (U1 hd hw) (U2 hd hw) (U3 hd hw) (U4 hd hb hw) (U5 hd hb hw) (U6 hd hb hw) (U7 hd hb hw) (U8 hd hw) (U9 hd hw) (U10 hd hw) (U11 hd hw) (U12 hd hb hw) (U13 hd hw) (K0 hd hw kK) (K1 hd hw kK) (N0 hd hb kC) (N1 hd hb kC) (M0 hd hb hw) (M1 hd hb hw)
        rw [M2 hd hb hw] at key
        exact key
      · skip
        have key := laTFF_p0 a b c d e f g h i j w hd hb hw kK kC (by simpa using kM) (U0 hd hb hw) (U1 hd hw) (U2 hd hw) (U3 hd hw) (U4 hd hb hw) (U5 hd hb hw) (U6 hd hb hw) (U7 hd hb hw) (U8 hd hw) (U9 hd hw) (U10 hd hw) (U11 hd hw) (U12 hd hb hw) (U13 hd hw) (K0 hd hw kK) (K1 hd hw kK) (N0 hd hb kC) (N1 hd hb kC) (P0 hd hb hw kM) (P1 hd hb hw kM)
        rw [P2 hd hb hw kM] at key
        exact key
    · by_cases kM : h = 0
      · subst kM
        have key := laTTT_p0 a b c d e f g 0 i j w hd hb hw kK kC rfl (U0 hd hb hw) (U1 hd hw) (U2 hd hw) (U3 hd hw) (U4 hd hb hw) (U5 hd hb hw) (U6 hd hb hw) (U7 hd hb hw) (U8 hd hw) (U9 hd hw) (U10 hd hw) (U11 hd hw) (U12 hd hb hw) (U13 hd hw) (K0 hd hw kK) (K1 hd hw kK) (C0 hd hb hw kC) (C1 hd hb hw kC) (C2 hd hb hw kC) (M0 hd hb hw) (M1 hd hb hw)
        rw [M2 hd hb hw] at key
        exact key
      · skip
        have key := laTTF_p0 a b c d e f g h i j w hd hb hw kK kC (by simpa using kM) (U0 hd hb hw) (U1 hd hw) (U2 hd hw) (U3 hd hw) (U4 hd hb hw) (U5 hd hb hw) (U6 hd hb hw) (U7 hd hb hw) (U8 hd hw) (U9 hd hw) (U10 hd hw) (U11 hd hw) (U12 hd hb hw) (U13 hd hw) (K0 hd hw kK) (K1 hd hw kK) (C0 hd hb hw kC) (C1 hd hb hw kC) (C2 hd hb hw kC) (P0 hd hb hw kM) (P1 hd hb hw kM)
        rw [P2 hd hb hw kM] at key
        exact key
end Go.Proofs.YtkndhhnjgpialaaGreatDoor
/-
DriverLaws: from the rows to the statement.
-/
namespace Go.Proofs.YtkndhhnjgpialaaGreatDoor.driverLaws
open Go Go.Abs Go.ChangeShapes Go.WideShapes Go.ChangeAt Go.RowKit

theorem own : ownKnob Tryz.prog.godebug = none := by kernel_rfl
theorem heap0_eq : heap0 = tabRows Tryz.prog Rows.driverLawsRow.laid 9 := by kernel_rfl
theorem still0 : noOwn heap0 = true := by kernel_rfl
section
variable {H : Type} {enc : TypeId × Value → H} {w : World} {base : Nat} {sp : Nat → Bool} {hd : Bool}
set_option maxRecDepth 100000 in
theorem arg23 {r : Reach} {b0 : Nat} {v : Value} {d : DataW H} {p : List MemPlace} (hv : Value.okWide Tryz.prog w r b0 23 v) (h : DataW.Trod enc Tryz.prog w base sp hd 23 v d p) :
    p = [] ∧ ∃ a0 a1 a2 a3 a4 a5 : Int, v = .agg #[.int .i64 a0, .int .i64 a1, .int .i64 a2, .int .i64 a3, .int .i64 a4, .int .i64 a5] := by
  obtain ⟨fuel, h⟩ := h
  simp only [Value.okWide, Tryz.underlying23] at hv
  obtain ⟨cs, rfl, _, _⟩ := hv
  obtain ⟨hi, hp⟩ := flat_of 9 23 [.i64, .i64, .i64, .i64, .i64, .i64] fuel _ _ (by kernel_rfl) h
  refine ⟨hp, ?_⟩
  simp only [Value.cells] at hi
  obtain ⟨a0, l0, e0, _, hi⟩ := hi.inv
  obtain ⟨a1, l1, e1, _, hi⟩ := hi.inv
  obtain ⟨a2, l2, e2, _, hi⟩ := hi.inv
  obtain ⟨a3, l3, e3, _, hi⟩ := hi.inv
  obtain ⟨a4, l4, e4, _, hi⟩ := hi.inv
  obtain ⟨a5, l5, e5, _, hi⟩ := hi.inv
  have ee := hi.end
  refine ⟨a0, a1, a2, a3, a4, a5, ?_⟩
  rw [← Array.toList_inj.1 (show cs.toList = (#[.int .i64 a0, .int .i64 a1, .int .i64 a2, .int .i64 a3, .int .i64 a4, .int .i64 a5] : Array Value).toList from by rw [e0, e1, e2, e3, e4, e5, ee])]
set_option maxRecDepth 100000 in
theorem arg54 {r : Reach} {b0 : Nat} {v : Value} {d : DataW H} {p : List MemPlace} (hv : Value.okWide Tryz.prog w r b0 54 v) (h : DataW.Trod enc Tryz.prog w base sp hd 54 v d p) :
    p = [] ∧ ∃ a0 a1 a2 a3 : Int, v = .agg #[.int .i64 a0, .int .i64 a1, .int .i64 a2, .int .i64 a3] := by
  obtain ⟨fuel, h⟩ := h
  simp only [Value.okWide, Tryz.underlying54] at hv
  obtain ⟨cs, rfl, _, _⟩ := hv
  obtain ⟨hi, hp⟩ := flat_of 9 54 [.i64, .i64, .i64, .i64] fuel _ _ (by kernel_rfl) h
  refine ⟨hp, ?_⟩
  simp only [Value.cells] at hi
  obtain ⟨a0, l0, e0, _, hi⟩ := hi.inv
  obtain ⟨a1, l1, e1, _, hi⟩ := hi.inv
  obtain ⟨a2, l2, e2, _, hi⟩ := hi.inv
  obtain ⟨a3, l3, e3, _, hi⟩ := hi.inv
  have ee := hi.end
  refine ⟨a0, a1, a2, a3, ?_⟩
  rw [← Array.toList_inj.1 (show cs.toList = (#[.int .i64 a0, .int .i64 a1, .int .i64 a2, .int .i64 a3] : Array Value).toList from by rw [e0, e1, e2, e3, ee])]
end

theorem calls (x0 x1 x2 x3 x4 x5 x6 x7 x8 x9 x10 : Int) (W : World) (hL : laidMetH Tryz.prog Rows.driverLawsRow.laid W) :
    Calls Tryz.prog 11 #[.agg #[.int .i64 x0, .int .i64 x1, .int .i64 x2, .int .i64 x3, .int .i64 x4, .int .i64 x5], .agg #[.int .i64 x6, .int .i64 x7, .int .i64 x8, .int .i64 x9], .int .i64 x10] W fun e w' =>
      e = .returned (.bool true) ∧ (w'.os = W.os ∧ w'.output = W.output) ∧ ∀ b, b < W.heap.size → w'.heap[b]? = W.heap[b]? := by
  obtain ⟨n, hn⟩ := la_law x0 x1 x2 x3 x4 x5 x6 x7 x8 x9 x10
  have hl : laidMet Tryz.prog Rows.driverLawsRow.laid W := by rw [← MakeChecks.laidMetH_plain _ _ _ (by kernel_rfl)]; exact hL
  have hR : Rel Tryz.prog (tabLoc 9) heap0 W := by rw [heap0_eq]; exact tabRows_rel hl
  have hb : ∃ cd, Tryz.f11.body = some cd := ⟨_, rfl⟩
  obtain ⟨cd, hb⟩ := hb
  have hargs : VRs (tabLoc 9) [.agg #[.int .i64 x0, .int .i64 x1, .int .i64 x2, .int .i64 x3, .int .i64 x4, .int .i64 x5], .agg #[.int .i64 x6, .int .i64 x7, .int .i64 x8, .int .i64 x9], .int .i64 x10] [.agg #[.int .i64 x0, .int .i64 x1, .int .i64 x2, .int .i64 x3, .int .i64 x4, .int .i64 x5], .agg #[.int .i64 x6, .int .i64 x7, .int .i64 x8, .int .i64 x9], .int .i64 x10] := VRs.cons (VR.refl _ rfl) (VRs.cons (VR.refl _ rfl) (VRs.cons (VR.refl _ rfl) (VRs.nil _)))
  refine (calls_of (call_sound prog_ok envRa_ok n) prog_ok Tryz.func11 hb hn hargs (tabLoc_globs 9) hR still0).mono ?_
  rintro e w' ⟨v', ρ', rfl, hv, _, hm, hs⟩
  rw [hv.atom_eq rfl]
  exact ⟨rfl, hm.out, hs⟩

theorem reads_ok : Reads Tryz.prog := ⟨by kernel_rfl, by kernel_rfl, by kernel_rfl⟩
theorem len_3 {α : Type} {l : List α} (h : l.length = 3) : ∃ y0 y1 y2 : α, l = [y0, y1, y2] := by
  match l, h with
  | [y0, y1, y2], _ => exact ⟨y0, y1, y2, rfl⟩

set_option maxRecDepth 100000 in
theorem contract (H : Type) (enc : TypeId × Value → H) (W : World) (base : Nat) (args : Array Value) (ds gs : List (DataW H)) (before : List MemPlace)
    (hval : ∀ (j : Nat) t v, Tryz.f11.params[j]? = some t → args[j]? = some v → Value.okWide Tryz.prog W .any base t v)
    (hW : DataW.Whole enc Tryz.prog Tryz.f11.params.toList Rows.driverLawsSpec.vars false W args.toList ds gs before) (hL : laidMetH Tryz.prog Rows.driverLawsRow.laid W) :
    Calls Tryz.prog 11 args W fun e W' => ∃ v, e = .returned v ∧ Rows.driverLawsSpec.post enc Tryz.prog Tryz.f11 false true false false W args v W' := by
  have hW' := hW
  obtain ⟨p, q, hA, hV, rfl, hfz, hnd⟩ := hW
  have hA0 : DataW.TrodAll enc Tryz.prog W 0 (fun _ => true) true Tryz.f11.params.toList args.toList ds p := hA
  rw [Tryz.params11] at hA0 hval
  obtain ⟨v0, vs0, d0, ds0, p0, q0, hargs0, rfl, rfl, h0, r0⟩ := trodAll_cons hA0
  obtain ⟨v1, vs1, d1, ds1, p1, q1, hargs1, rfl, rfl, h1, r1⟩ := trodAll_cons r0
  obtain ⟨v2, vs2, d2, ds2, p2, q2, hargs2, rfl, rfl, h2, r2⟩ := trodAll_cons r1
  obtain ⟨rfl, rfl, rfl⟩ := trodAll_nil r2
  obtain rfl : args = #[v0, v1, v2] := by cases args; simp_all
  obtain ⟨_, x0, x1, x2, x3, x4, x5, rfl⟩ := arg23 (hval 0 23 v0 rfl rfl) h0
  obtain ⟨_, x6, x7, x8, x9, rfl⟩ := arg54 (hval 1 54 v1 rfl rfl) h1
  obtain ⟨x10, rfl, _, _, _⟩ := open_int Tryz.underlying3 (hval 2 3 v2 rfl rfl) h2
  refine (calls x0 x1 x2 x3 x4 x5 x6 x7 x8 x9 x10 W hL).mono fun e W' hr => ?_
  obtain ⟨rfl, ho, hb⟩ := hr
  refine ⟨_, rfl, law_post (bt := 4) reads_ok rfl (fun ds hl => ?_) (by kernel_rfl) Tryz.underlying4 (by kernel_rfl) hW' ho hb⟩
  rw [show Tryz.f11.params.size = 3 by kernel_rfl] at hl
  obtain ⟨y0, y1, y2, rfl⟩ := len_3 hl
  rfl
end Go.Proofs.YtkndhhnjgpialaaGreatDoor.driverLaws
/-
DriverLaws of the package wooferlaw03 returns true for every input, whatever the world: proved for all arguments, under the conditions that the row and its card name (the package-level tables as laid).
-/
namespace Go.Proofs.YtkndhhnjgpialaaGreatDoor.driverLaws
open Go Go.Abs Go.ChangeShapes Go.WideShapes Go.ChangeAt Go.RowKit

/-- The settled world, the tables laid. -/
noncomputable def putTab (A : Heap) (w : World) : World :=
  { w with heap := ((List.range 9).foldl (fun h g => match hget A g with
      | some (.cells cs _ _) => h.modify g fun
        | .cells _ t frozen => .cells cs.toArray t frozen
        | o => o
      | _ => h) w.heap) }
noncomputable def laidWorld (os : Os) : World := putTab heap0 (World.holding Tryz.prog os ⟨#[], #[], []⟩)
theorem laid_met (os : Os) : laidMet Tryz.prog Rows.driverLawsRow.laid ((laidWorld os).forCall (fun _ _ => 0) ⟨#[], #[.agg #[.int .i64 0, .int .i64 0, .int .i64 0, .int .i64 0, .int .i64 0, .int .i64 0], .agg #[.int .i64 0, .int .i64 0, .int .i64 0, .int .i64 0], .int .i64 0], []⟩).memory :=
  laidMet_of_run' 8 (by kernel_rfl) (by kernel_rfl)
theorem reads (os : Os) {H : Type} (enc : TypeId × Value → H) : ∃ places, DataW.whole enc Tryz.prog ((laidWorld os).forCall (fun _ _ => 0) ⟨#[], #[.agg #[.int .i64 0, .int .i64 0, .int .i64 0, .int .i64 0, .int .i64 0, .int .i64 0], .agg #[.int .i64 0, .int .i64 0, .int .i64 0, .int .i64 0], .int .i64 0], []⟩).memory Tryz.f11.params.toList Rows.driverLawsSpec.vars false (#[.agg #[.int .i64 0, .int .i64 0, .int .i64 0, .int .i64 0, .int .i64 0, .int .i64 0], .agg #[.int .i64 0, .int .i64 0, .int .i64 0, .int .i64 0], .int .i64 0] : Array Value).toList 8 = some ([.agg [.lit (.int .i64 0), .lit (.int .i64 0), .lit (.int .i64 0), .lit (.int .i64 0), .lit (.int .i64 0), .lit (.int .i64 0)], .agg [.lit (.int .i64 0), .lit (.int .i64 0), .lit (.int .i64 0), .lit (.int .i64 0)], .lit (.int .i64 0)], [], places) :=
  ⟨[], by kernel_rfl⟩

set_option maxRecDepth 100000 in
theorem lifted (os : Os) (started : os.Started) (H : Type) (enc : TypeId × Value → H) (F : Stop.Interp) :
    ReturnsInHanded {} Tryz.checked os 11 .any ((OpenSpec.ofChange Rows.driverLawsSpec).preRow enc Tryz.prog Tryz.f11 Rows.driverLawsRow.domain false Rows.driverLawsRow.laid) (((OpenSpec.ofChange Rows.driverLawsSpec).at F).post enc Tryz.prog Tryz.f11 false true false false) := by
  obtain ⟨places, hx⟩ := reads os enc
  refine returnsInHanded_of_row (C := Tryz.checked) (s := OpenSpec.ofChange Rows.driverLawsSpec) own started (by kernel_rfl) Tryz.func11
    (witness_row_at (enc := enc) (C := Tryz.checked) false (laidWorld os) #[.agg #[.int .i64 0, .int .i64 0, .int .i64 0, .int .i64 0, .int .i64 0, .int .i64 0], .agg #[.int .i64 0, .int .i64 0, .int .i64 0, .int .i64 0], .int .i64 0] rfl (by kernel_rfl) (by kernel_rfl) (by kernel_rfl)
      (OpenSpec.preRow_of_cond 8 hx (by kernel_rfl) (fun k hk => by cases hk) (by kernel_rfl) (laid_met os))) ?_
  intro W base args ds gs before hval hW _ _ _ hL _ _
  exact contract H enc W base args ds gs before hval hW hL

theorem said : Rows.DriverLawsSaid :=
  OpenClaim.holds_of_cond 11 Tryz.f11 rfl rfl rfl rfl rfl rfl rfl ⟨rfl, rfl, rfl, rfl, rfl⟩ rfl rfl rfl rfl rfl (by kernel_rfl) Tryz.func11 (by kernel_rfl)
    (of_decide_eq_true (by kernel_rfl)) (by unfold Func.isWrapper; first | (rw [if_pos (by decide +kernel)]; kernel_rfl) | (rw [if_neg (by decide +kernel)]; exact ⟨rfl, rfl⟩))
    (fun os started H enc _ F => by rw [OpenClaim.pre_eq_preRow]; exact lifted os started H enc F)

theorem plain (f : FuncId) (fn : Func) (hf : Tryz.pinned.checked.prog.funcNamed "woofer/wooferlaw03.DriverLaws" = some f) (hfn : Tryz.pinned.checked.prog.funcs[f]? = some fn) :
    true = Tryz.pinned.checked.prog.looks [] ∧ ∀ (j : Nat) t, fn.params[j]? = some t → Tryz.pinned.checked.prog.wantsStandIn t = false := by
  obtain rfl : f = 11 := Option.some.inj ((show Tryz.prog.funcNamed "woofer/wooferlaw03.DriverLaws" = some 11 by kernel_rfl).symm.trans hf) |>.symm
  obtain rfl : fn = Tryz.f11 := (Option.some.inj (Tryz.func11.symm.trans hfn)).symm
  refine ⟨by kernel_rfl, fun j t ht => ?_⟩
  rw [Tryz.params11] at ht
  have hm := Array.mem_of_getElem? ht
  simp only [List.mem_toArray, List.mem_cons, List.not_mem_nil, or_false] at hm
  rcases hm with rfl | rfl | rfl
  · exact (show Tryz.prog.wantsStandIn 23 = false by kernel_rfl)
  · exact (show Tryz.prog.wantsStandIn 54 = false by kernel_rfl)
  · exact (show Tryz.prog.wantsStandIn 3 = false by kernel_rfl)

theorem card : Rows.DriverLawsCardSaid :=
  Claim7.holds_tied_plain_at .later [] _ _ _ _ said (fun _ h => by cases h) (by kernel_rfl) (fun _ h => by cases h) driverLaws_row_tie rfl ⟨rfl, rfl⟩ (by kernel_rfl) rfl plain (by kernel_rfl)
end Go.Proofs.YtkndhhnjgpialaaGreatDoor.driverLaws
