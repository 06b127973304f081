/-
DriverBoxes of the package wooferlaw03 returns true for every input, whatever the world: proved for all arguments, under the conditions that the row and its card name (the package-level tables as laid).
-/
import Derived.Test.YtkndhhnjgpialaaGreatDoorMb7
import Derived.Test.YtkndhhnjgpialaaGreatDoorMb6
import Derived.Test.YtkndhhnjgpialaaGreatDoorCards
import Derived.Test.YtkndhhnjgpialaaGreatDoorTie
import Derived.WalkKit
import Derived.ProofKit
import Derived.OpenShut
import Derived.Deep.DeepHandedRow
import Derived.Lib.LaidTab
import Derived.MakeChecks
/-
DriverBoxes, led through its cases.
-/
namespace Go.Proofs.YtkndhhnjgpialaaGreatDoor
open Go Go.Abs
def bnA_c0 (a : Int) (b : Int) (c : Int) (d : Int) (e : Int) (f : Int) (g : Int) (h : Int) (i : Int) (j : Int) (w : Int) : Bool := bErr g h i j == bErr g h i j
def bnA_c1 (a : Int) (b : Int) (c : Int) (d : Int) (e : Int) (f : Int) (g : Int) (h : Int) (i : Int) (j : Int) (w : Int) : Bool := f28_r0 (f33_r0 a b c d e f g h i j w) (f33_r1 a b c d e f g h i j w) (f33_r2 a b c d e f g h i j w) (f33_r3 a b c d e f g h i j w) (f33_r4 a b c d e f g h i j w) (dErr a b c d e f) 0 0 0 0
def bnA_c2 (a : Int) (b : Int) (c : Int) (d : Int) (e : Int) (f : Int) (g : Int) (h : Int) (i : Int) (j : Int) (w : Int) : Bool := f28_r0 (f34_r0 a b c d e f g h i j w) (f34_r1 a b c d e f g h i j w) (f34_r2 a b c d e f g h i j w) (f34_r3 a b c d e f g h i j w) (f34_r4 a b c d e f g h i j w) (dErr a b c d e f) 0 0 0 0
def bnA_c3 (a : Int) (b : Int) (c : Int) (d : Int) (e : Int) (f : Int) (g : Int) (h : Int) (i : Int) (j : Int) (w : Int) : Bool := f28_r0 (f35_r0 a b c d e f g h i j w) (f35_r1 a b c d e f g h i j w) (f35_r2 a b c d e f g h i j w) (f35_r3 a b c d e f g h i j w) (f35_r8 a b c d e f g h i j w) (dErr a b c d e f) 0 0 0 0
def bnA_c4 (a : Int) (b : Int) (c : Int) (d : Int) (e : Int) (f : Int) (g : Int) (h : Int) (i : Int) (j : Int) (w : Int) : Bool := f28_r0 (f35_r4 a b c d e f g h i j w) (f35_r5 a b c d e f g h i j w) (f35_r6 a b c d e f g h i j w) (f35_r7 a b c d e f g h i j w) (f35_r8 a b c d e f g h i j w) (dErr a b c d e f) 0 0 0 0
theorem bnA_p0 (a : Int) (b : Int) (c : Int) (d : Int) (e : Int) (f : Int) (g : Int) (h : Int) (i : Int) (j : Int) (w : Int) (hd : (dErr a b c d e f != 0) = true) (hd0 : (dErr a b c d e f == 0) = false) (hb : (bErr g h i j != 0) = true) (hb0 : (bErr g h i j == 0) = false) (h0 : bnA_c0 a b c d e f g h i j w = true) (h1 : bnA_c1 a b c d e f g h i j w = true) (h2 : bnA_c2 a b c d e f g h i j w = true) (h3 : bnA_c3 a b c d e f g h i j w = true) (h4 : bnA_c4 a b c d e f g h i j w = true) : Gives Tryz.prog envT 0 5 [(.agg #[(.int .i64 (a)), (.int .i64 (b)), (.int .i64 (c)), (.int .i64 (d)), (.int .i64 (e)), (.int .i64 (f))]), (.agg #[(.int .i64 (g)), (.int .i64 (h)), (.int .i64 (i)), (.int .i64 (j))]), (.int .i64 (w))] heap0 ((.bool (f43_r0 (tuN g h i j) (tuD g h i j) (tuE g h i j) (bErr g h i j) 0 0)), heap0) :=
  Gives.by (n := 1000) (os := [.br 20 30 true, .br 5 122 false, .br 5 150 false, .br 5 172 true, .br 5 172 true, .br 5 172 true, .br 5 172 true, .br 5 172 true, .br 5 185 true, .br 5 186 true, .br 5 186 true, .br 5 186 true, .br 5 186 true, .br 5 186 true, .br 5 199 true, .br 5 200 true, .br 5 200 true, .br 5 200 true, .br 5 200 true, .br 5 200 true, .br 5 200 true, .br 5 200 true, .br 5 217 true, .br 5 218 true, .br 5 218 true, .br 5 218 true, .br 5 218 true, .br 5 218 true, .br 5 218 true, .br 5 218 true, .br 5 235 true, .br 5 236 true, .br 5 236 true, .br 5 236 true, .br 5 236 true, .br 5 236 true, .br 5 249 true]) (os' := []) (by kernel_rfl) (ObsOK.cond hd (ObsOK.cond hd0 (ObsOK.cond hb0 (ObsOK.cond h0 (ObsOK.cond h0 (ObsOK.cond h0 (ObsOK.cond h0 (ObsOK.cond h0 (ObsOK.cond h0 (ObsOK.cond h1 (ObsOK.cond h1 (ObsOK.cond h1 (ObsOK.cond h1 (ObsOK.cond h1 (ObsOK.cond h1 (ObsOK.cond h2 (ObsOK.cond h2 (ObsOK.cond h2 (ObsOK.cond h2 (ObsOK.cond h2 (ObsOK.cond h2 (ObsOK.cond h2 (ObsOK.cond h2 (ObsOK.cond h3 (ObsOK.cond h3 (ObsOK.cond h3 (ObsOK.cond h3 (ObsOK.cond h3 (ObsOK.cond h3 (ObsOK.cond h3 (ObsOK.cond h3 (ObsOK.cond h4 (ObsOK.cond h4 (ObsOK.cond h4 (ObsOK.cond h4 (ObsOK.cond h4 (ObsOK.cond h4 (ObsOK.nil))))))))))))))))))))))))))))))))))))))
def bnB_c0 (a : Int) (b : Int) (c : Int) (d : Int) (e : Int) (f : Int) (g : Int) (h : Int) (i : Int) (j : Int) (w : Int) : Bool := bErr g h i j == bErr g h i j
def bnB_c1 (a : Int) (b : Int) (c : Int) (d : Int) (e : Int) (f : Int) (g : Int) (h : Int) (i : Int) (j : Int) (w : Int) : Bool := f28_r0 (f33_r0 a b c d e f g h i j w) (f33_r1 a b c d e f g h i j w) (f33_r2 a b c d e f g h i j w) (f33_r3 a b c d e f g h i j w) (f33_r4 a b c d e f g h i j w) (dErr a b c d e f) 0 0 0 0
def bnB_c2 (a : Int) (b : Int) (c : Int) (d : Int) (e : Int) (f : Int) (g : Int) (h : Int) (i : Int) (j : Int) (w : Int) : Bool := f28_r0 (f34_r0 a b c d e f g h i j w) (f34_r1 a b c d e f g h i j w) (f34_r2 a b c d e f g h i j w) (f34_r3 a b c d e f g h i j w) (f34_r4 a b c d e f g h i j w) (dErr a b c d e f) 0 0 0 0
def bnB_c3 (a : Int) (b : Int) (c : Int) (d : Int) (e : Int) (f : Int) (g : Int) (h : Int) (i : Int) (j : Int) (w : Int) : Bool := f28_r0 (f35_r0 a b c d e f g h i j w) (f35_r1 a b c d e f g h i j w) (f35_r2 a b c d e f g h i j w) (f35_r3 a b c d e f g h i j w) (f35_r8 a b c d e f g h i j w) (dErr a b c d e f) 0 0 0 0
def bnB_c4 (a : Int) (b : Int) (c : Int) (d : Int) (e : Int) (f : Int) (g : Int) (h : Int) (i : Int) (j : Int) (w : Int) : Bool := f28_r0 (f35_r4 a b c d e f g h i j w) (f35_r5 a b c d e f g h i j w) (f35_r6 a b c d e f g h i j w) (f35_r7 a b c d e f g h i j w) (f35_r8 a b c d e f g h i j w) (dErr a b c d e f) 0 0 0 0
theorem bnB_p0 (a : Int) (b : Int) (c : Int) (d : Int) (e : Int) (f : Int) (g : Int) (h : Int) (i : Int) (j : Int) (w : Int) (hd : (dErr a b c d e f != 0) = true) (hd0 : (dErr a b c d e f == 0) = false) (hb : (bErr g h i j != 0) = false) (hb0 : (bErr g h i j == 0) = true) (hl : ∀ (lim : Nat) (A : Heap), startsB heapN A = true → Gives Tryz.prog envT lim 41 [.agg #[.int .i64 g, .int .i64 h, .int .i64 i, .int .i64 j]] A (.tuple #[.agg #[.int .i64 (tuN g h i j), .int .i64 (tuD g h i j)], .int .i64 (tuE g h i j)], A)) (h0 : bnB_c0 a b c d e f g h i j w = true) (h1 : bnB_c1 a b c d e f g h i j w = true) (h2 : bnB_c2 a b c d e f g h i j w = true) (h3 : bnB_c3 a b c d e f g h i j w = true) (h4 : bnB_c4 a b c d e f g h i j w = true) : Gives Tryz.prog envT 0 5 [(.agg #[(.int .i64 (a)), (.int .i64 (b)), (.int .i64 (c)), (.int .i64 (d)), (.int .i64 (e)), (.int .i64 (f))]), (.agg #[(.int .i64 (g)), (.int .i64 (h)), (.int .i64 (i)), (.int .i64 (j))]), (.int .i64 (w))] heap0 ((.bool (f43_r0 (tuN g h i j) (tuD g h i j) (tuE g h i j) (tuE g h i j) (tuN g h i j) (tuD g h i j))), heap0) :=
  Gives.by (n := 1000) (os := [.br 20 30 true, .br 5 122 false, .br 5 150 true, .opw 5 78 (.tuple #[(.agg #[(.int .i64 (tuN g h i j)), (.int .i64 (tuD g h i j))]), (.int .i64 (tuE g h i j))]) (H [(.some (.cells [(.int .i64 a), (.int .i64 b), (.int .i64 c), (.int .i64 d), (.int .i64 e), (.int .i64 f)] 23 .var)), (.some (.cells [(.int .i64 g), (.int .i64 h), (.int .i64 i), (.int .i64 j)] 54 .var)), (.some (.cells [(.int .i64 (f33_r0 a b c d e f g h i j w)), (.int .i64 (f33_r1 a b c d e f g h i j w)), (.int .i64 (f33_r2 a b c d e f g h i j w)), (.int .i64 (f33_r3 a b c d e f g h i j w))] 32 .var)), (.some (.cells [(.int .i64 (f34_r0 a b c d e f g h i j w)), (.int .i64 (f34_r1 a b c d e f g h i j w)), (.int .i64 (f34_r2 a b c d e f g h i j w)), (.int .i64 (f34_r3 a b c d e f g h i j w))] 32 .var)), (.some (.cells [(.int .i64 (f35_r0 a b c d e f g h i j w)), (.int .i64 (f35_r1 a b c d e f g h i j w)), (.int .i64 (f35_r2 a b c d e f g h i j w)), (.int .i64 (f35_r3 a b c d e f g h i j w)), (.int .i64 (f35_r4 a b c d e f g h i j w)), (.int .i64 (f35_r5 a b c d e f g h i j w)), (.int .i64 (f35_r6 a b c d e f g h i j w)), (.int .i64 (f35_r7 a b c d e f g h i j w))] 57 .var)), (.some (.cells [(.int .i64 (tuN g h i j)), (.int .i64 (tuD g h i j))] 61 .var)), (.some (.cells [(.int .i64 (dErr a b c d e f)), (.int .i64 (bErr g h i j)), (.int .i64 (wErr w))] 3 .row)), (.some (.cells [(.int .i64 (0)), (.int .i64 (0)), (.int .i64 (0)), (.int .i64 (0))] 39 .var)), (.some (.cells [(.int .i64 (0)), (.int .i64 (0)), (.int .i64 (0)), (.int .i64 (0))] 39 .var)), (.some (.cells [(.int .i64 (0)), (.int .i64 (0)), (.int .i64 (0)), (.int .i64 (0)), (.int .i64 (0)), (.int .i64 (0)), (.int .i64 (0)), (.int .i64 (0))] 65 .var)), (.some (.cells [(.int .i64 (0)), (.int .i64 (0))] 61 .var))]), .br 5 172 true, .br 5 172 true, .br 5 172 true, .br 5 172 true, .br 5 172 true, .br 5 185 true, .br 5 186 true, .br 5 186 true, .br 5 186 true, .br 5 186 true, .br 5 186 true, .br 5 199 true, .br 5 200 true, .br 5 200 true, .br 5 200 true, .br 5 200 true, .br 5 200 true, .br 5 200 true, .br 5 200 true, .br 5 217 true, .br 5 218 true, .br 5 218 true, .br 5 218 true, .br 5 218 true, .br 5 218 true, .br 5 218 true, .br 5 218 true, .br 5 235 true, .br 5 236 true, .br 5 236 true, .br 5 236 true, .br 5 236 true, .br 5 236 true, .br 5 249 true]) (os' := []) (by kernel_rfl) (ObsOK.cond hd (ObsOK.cond hd0 (ObsOK.cond hb0 (ObsOK.call (hl 9 (H [(.some (.cells [(.int .i64 a), (.int .i64 b), (.int .i64 c), (.int .i64 d), (.int .i64 e), (.int .i64 f)] 23 .var)), (.some (.cells [(.int .i64 g), (.int .i64 h), (.int .i64 i), (.int .i64 j)] 54 .var)), (.some (.cells [(.int .i64 (f33_r0 a b c d e f g h i j w)), (.int .i64 (f33_r1 a b c d e f g h i j w)), (.int .i64 (f33_r2 a b c d e f g h i j w)), (.int .i64 (f33_r3 a b c d e f g h i j w))] 32 .var)), (.some (.cells [(.int .i64 (f34_r0 a b c d e f g h i j w)), (.int .i64 (f34_r1 a b c d e f g h i j w)), (.int .i64 (f34_r2 a b c d e f g h i j w)), (.int .i64 (f34_r3 a b c d e f g h i j w))] 32 .var)), (.some (.cells [(.int .i64 (f35_r0 a b c d e f g h i j w)), (.int .i64 (f35_r1 a b c d e f g h i j w)), (.int .i64 (f35_r2 a b c d e f g h i j w)), (.int .i64 (f35_r3 a b c d e f g h i j w)), (.int .i64 (f35_r4 a b c d e f g h i j w)), (.int .i64 (f35_r5 a b c d e f g h i j w)), (.int .i64 (f35_r6 a b c d e f g h i j w)), (.int .i64 (f35_r7 a b c d e f g h i j w))] 57 .var)), (.some (.cells [(.int .i64 (tuN g h i j)), (.int .i64 (tuD g h i j))] 61 .var)), (.some (.cells [(.int .i64 (dErr a b c d e f)), (.int .i64 (bErr g h i j)), (.int .i64 (wErr w))] 3 .row)), (.some (.cells [(.int .i64 (0)), (.int .i64 (0)), (.int .i64 (0)), (.int .i64 (0))] 39 .var)), (.some (.cells [(.int .i64 (0)), (.int .i64 (0)), (.int .i64 (0)), (.int .i64 (0))] 39 .var)), (.some (.cells [(.int .i64 (0)), (.int .i64 (0)), (.int .i64 (0)), (.int .i64 (0)), (.int .i64 (0)), (.int .i64 (0)), (.int .i64 (0)), (.int .i64 (0))] 65 .var)), (.some (.cells [(.int .i64 (0)), (.int .i64 (0))] 61 .var))]) (by kernel_rfl)) (ObsOK.cond h0 (ObsOK.cond h0 (ObsOK.cond h0 (ObsOK.cond h0 (ObsOK.cond h0 (ObsOK.cond h0 (ObsOK.cond h1 (ObsOK.cond h1 (ObsOK.cond h1 (ObsOK.cond h1 (ObsOK.cond h1 (ObsOK.cond h1 (ObsOK.cond h2 (ObsOK.cond h2 (ObsOK.cond h2 (ObsOK.cond h2 (ObsOK.cond h2 (ObsOK.cond h2 (ObsOK.cond h2 (ObsOK.cond h2 (ObsOK.cond h3 (ObsOK.cond h3 (ObsOK.cond h3 (ObsOK.cond h3 (ObsOK.cond h3 (ObsOK.cond h3 (ObsOK.cond h3 (ObsOK.cond h3 (ObsOK.cond h4 (ObsOK.cond h4 (ObsOK.cond h4 (ObsOK.cond h4 (ObsOK.cond h4 (ObsOK.cond h4 (ObsOK.nil)))))))))))))))))))))))))))))))))))))))
def bnC_c0 (a : Int) (b : Int) (c : Int) (d : Int) (e : Int) (f : Int) (g : Int) (h : Int) (i : Int) (j : Int) (w : Int) : Bool := bErr g h i j == bErr g h i j
def bnC_c1 (a : Int) (b : Int) (c : Int) (d : Int) (e : Int) (f : Int) (g : Int) (h : Int) (i : Int) (j : Int) (w : Int) : Bool := f28_r0 (f33_r0 a b c d e f g h i j w) (f33_r1 a b c d e f g h i j w) (f33_r2 a b c d e f g h i j w) (f33_r3 a b c d e f g h i j w) (f33_r4 a b c d e f g h i j w) (bErr g h i j) 0 0 0 0
def bnC_c2 (a : Int) (b : Int) (c : Int) (d : Int) (e : Int) (f : Int) (g : Int) (h : Int) (i : Int) (j : Int) (w : Int) : Bool := f28_r0 (f34_r0 a b c d e f g h i j w) (f34_r1 a b c d e f g h i j w) (f34_r2 a b c d e f g h i j w) (f34_r3 a b c d e f g h i j w) (f34_r4 a b c d e f g h i j w) (bErr g h i j) 0 0 0 0
def bnC_c3 (a : Int) (b : Int) (c : Int) (d : Int) (e : Int) (f : Int) (g : Int) (h : Int) (i : Int) (j : Int) (w : Int) : Bool := f28_r0 (f35_r0 a b c d e f g h i j w) (f35_r1 a b c d e f g h i j w) (f35_r2 a b c d e f g h i j w) (f35_r3 a b c d e f g h i j w) (f35_r8 a b c d e f g h i j w) (bErr g h i j) 0 0 0 0
def bnC_c4 (a : Int) (b : Int) (c : Int) (d : Int) (e : Int) (f : Int) (g : Int) (h : Int) (i : Int) (j : Int) (w : Int) : Bool := f28_r0 (f35_r4 a b c d e f g h i j w) (f35_r5 a b c d e f g h i j w) (f35_r6 a b c d e f g h i j w) (f35_r7 a b c d e f g h i j w) (f35_r8 a b c d e f g h i j w) (bErr g h i j) 0 0 0 0
theorem bnC_p0 (a : Int) (b : Int) (c : Int) (d : Int) (e : Int) (f : Int) (g : Int) (h : Int) (i : Int) (j : Int) (w : Int) (hd : (dErr a b c d e f != 0) = false) (hd0 : (dErr a b c d e f == 0) = true) (hb : (bErr g h i j != 0) = true) (hb0 : (bErr g h i j == 0) = false) (h0 : bnC_c0 a b c d e f g h i j w = true) (h1 : bnC_c1 a b c d e f g h i j w = true) (h2 : bnC_c2 a b c d e f g h i j w = true) (h3 : bnC_c3 a b c d e f g h i j w = true) (h4 : bnC_c4 a b c d e f g h i j w = true) : Gives Tryz.prog envT 0 5 [(.agg #[(.int .i64 (a)), (.int .i64 (b)), (.int .i64 (c)), (.int .i64 (d)), (.int .i64 (e)), (.int .i64 (f))]), (.agg #[(.int .i64 (g)), (.int .i64 (h)), (.int .i64 (i)), (.int .i64 (j))]), (.int .i64 (w))] heap0 ((.bool (f43_r0 (tuN g h i j) (tuD g h i j) (tuE g h i j) (bErr g h i j) 0 0)), heap0) :=
  Gives.by (n := 1000) (os := [.br 20 30 false, .br 20 30 true, .br 5 122 false, .br 5 150 false, .br 5 172 true, .br 5 172 true, .br 5 172 true, .br 5 172 true, .br 5 172 true, .br 5 185 true, .br 5 186 true, .br 5 186 true, .br 5 186 true, .br 5 186 true, .br 5 186 true, .br 5 199 true, .br 5 200 true, .br 5 200 true, .br 5 200 true, .br 5 200 true, .br 5 200 true, .br 5 200 true, .br 5 200 true, .br 5 217 true, .br 5 218 true, .br 5 218 true, .br 5 218 true, .br 5 218 true, .br 5 218 true, .br 5 218 true, .br 5 218 true, .br 5 235 true, .br 5 236 true, .br 5 236 true, .br 5 236 true, .br 5 236 true, .br 5 236 true, .br 5 249 true]) (os' := []) (by kernel_rfl) (ObsOK.cond hd (ObsOK.cond hb (ObsOK.cond hb0 (ObsOK.cond hb0 (ObsOK.cond h0 (ObsOK.cond h0 (ObsOK.cond h0 (ObsOK.cond h0 (ObsOK.cond h0 (ObsOK.cond h0 (ObsOK.cond h1 (ObsOK.cond h1 (ObsOK.cond h1 (ObsOK.cond h1 (ObsOK.cond h1 (ObsOK.cond h1 (ObsOK.cond h2 (ObsOK.cond h2 (ObsOK.cond h2 (ObsOK.cond h2 (ObsOK.cond h2 (ObsOK.cond h2 (ObsOK.cond h2 (ObsOK.cond h2 (ObsOK.cond h3 (ObsOK.cond h3 (ObsOK.cond h3 (ObsOK.cond h3 (ObsOK.cond h3 (ObsOK.cond h3 (ObsOK.cond h3 (ObsOK.cond h3 (ObsOK.cond h4 (ObsOK.cond h4 (ObsOK.cond h4 (ObsOK.cond h4 (ObsOK.cond h4 (ObsOK.cond h4 (ObsOK.nil)))))))))))))))))))))))))))))))))))))))
def bnD_c0 (a : Int) (b : Int) (c : Int) (d : Int) (e : Int) (f : Int) (g : Int) (h : Int) (i : Int) (j : Int) (w : Int) : Bool := bErr g h i j == bErr g h i j
def bnD_c1 (a : Int) (b : Int) (c : Int) (d : Int) (e : Int) (f : Int) (g : Int) (h : Int) (i : Int) (j : Int) (w : Int) : Bool := f28_r0 (f33_r0 a b c d e f g h i j w) (f33_r1 a b c d e f g h i j w) (f33_r2 a b c d e f g h i j w) (f33_r3 a b c d e f g h i j w) (f33_r4 a b c d e f g h i j w) (wErr w) 0 0 0 0
def bnD_c2 (a : Int) (b : Int) (c : Int) (d : Int) (e : Int) (f : Int) (g : Int) (h : Int) (i : Int) (j : Int) (w : Int) : Bool := f28_r0 (f34_r0 a b c d e f g h i j w) (f34_r1 a b c d e f g h i j w) (f34_r2 a b c d e f g h i j w) (f34_r3 a b c d e f g h i j w) (f34_r4 a b c d e f g h i j w) (wErr w) 0 0 0 0
def bnD_c3 (a : Int) (b : Int) (c : Int) (d : Int) (e : Int) (f : Int) (g : Int) (h : Int) (i : Int) (j : Int) (w : Int) : Bool := f28_r0 (f35_r0 a b c d e f g h i j w) (f35_r1 a b c d e f g h i j w) (f35_r2 a b c d e f g h i j w) (f35_r3 a b c d e f g h i j w) (f35_r8 a b c d e f g h i j w) (wErr w) 0 0 0 0
def bnD_c4 (a : Int) (b : Int) (c : Int) (d : Int) (e : Int) (f : Int) (g : Int) (h : Int) (i : Int) (j : Int) (w : Int) : Bool := f28_r0 (f35_r4 a b c d e f g h i j w) (f35_r5 a b c d e f g h i j w) (f35_r6 a b c d e f g h i j w) (f35_r7 a b c d e f g h i j w) (f35_r8 a b c d e f g h i j w) (wErr w) 0 0 0 0
theorem bnD_p0 (a : Int) (b : Int) (c : Int) (d : Int) (e : Int) (f : Int) (g : Int) (h : Int) (i : Int) (j : Int) (w : Int) (hd : (dErr a b c d e f != 0) = false) (hd0 : (dErr a b c d e f == 0) = true) (hb : (bErr g h i j != 0) = false) (hb0 : (bErr g h i j == 0) = true) (hw : (wErr w != 0) = true) (hw0 : (wErr w == 0) = false) (hl : ∀ (lim : Nat) (A : Heap), startsB heapN A = true → Gives Tryz.prog envT lim 41 [.agg #[.int .i64 g, .int .i64 h, .int .i64 i, .int .i64 j]] A (.tuple #[.agg #[.int .i64 (tuN g h i j), .int .i64 (tuD g h i j)], .int .i64 (tuE g h i j)], A)) (h0 : bnD_c0 a b c d e f g h i j w = true) (h1 : bnD_c1 a b c d e f g h i j w = true) (h2 : bnD_c2 a b c d e f g h i j w = true) (h3 : bnD_c3 a b c d e f g h i j w = true) (h4 : bnD_c4 a b c d e f g h i j w = true) : Gives Tryz.prog envT 0 5 [(.agg #[(.int .i64 (a)), (.int .i64 (b)), (.int .i64 (c)), (.int .i64 (d)), (.int .i64 (e)), (.int .i64 (f))]), (.agg #[(.int .i64 (g)), (.int .i64 (h)), (.int .i64 (i)), (.int .i64 (j))]), (.int .i64 (w))] heap0 ((.bool (f43_r0 (tuN g h i j) (tuD g h i j) (tuE g h i j) (tuE g h i j) (tuN g h i j) (tuD g h i j))), heap0) :=
  Gives.by (n := 1000) (os := [.br 20 30 false, .br 20 30 false, .br 20 30 true, .br 5 122 false, .br 5 150 true, .opw 5 78 (.tuple #[(.agg #[(.int .i64 (tuN g h i j)), (.int .i64 (tuD g h i j))]), (.int .i64 (tuE g h i j))]) (H [(.some (.cells [(.int .i64 a), (.int .i64 b), (.int .i64 c), (.int .i64 d), (.int .i64 e), (.int .i64 f)] 23 .var)), (.some (.cells [(.int .i64 g), (.int .i64 h), (.int .i64 i), (.int .i64 j)] 54 .var)), (.some (.cells [(.int .i64 (f33_r0 a b c d e f g h i j w)), (.int .i64 (f33_r1 a b c d e f g h i j w)), (.int .i64 (f33_r2 a b c d e f g h i j w)), (.int .i64 (f33_r3 a b c d e f g h i j w))] 32 .var)), (.some (.cells [(.int .i64 (f34_r0 a b c d e f g h i j w)), (.int .i64 (f34_r1 a b c d e f g h i j w)), (.int .i64 (f34_r2 a b c d e f g h i j w)), (.int .i64 (f34_r3 a b c d e f g h i j w))] 32 .var)), (.some (.cells [(.int .i64 (f35_r0 a b c d e f g h i j w)), (.int .i64 (f35_r1 a b c d e f g h i j w)), (.int .i64 (f35_r2 a b c d e f g h i j w)), (.int .i64 (f35_r3 a b c d e f g h i j w)), (.int .i64 (f35_r4 a b c d e f g h i j w)), (.int .i64 (f35_r5 a b c d e f g h i j w)), (.int .i64 (f35_r6 a b c d e f g h i j w)), (.int .i64 (f35_r7 a b c d e f g h i j w))] 57 .var)), (.some (.cells [(.int .i64 (tuN g h i j)), (.int .i64 (tuD g h i j))] 61 .var)), (.some (.cells [(.int .i64 (dErr a b c d e f)), (.int .i64 (bErr g h i j)), (.int .i64 (wErr w))] 3 .row)), (.some (.cells [(.int .i64 (0)), (.int .i64 (0)), (.int .i64 (0)), (.int .i64 (0))] 39 .var)), (.some (.cells [(.int .i64 (0)), (.int .i64 (0)), (.int .i64 (0)), (.int .i64 (0))] 39 .var)), (.some (.cells [(.int .i64 (0)), (.int .i64 (0)), (.int .i64 (0)), (.int .i64 (0)), (.int .i64 (0)), (.int .i64 (0)), (.int .i64 (0)), (.int .i64 (0))] 65 .var)), (.some (.cells [(.int .i64 (0)), (.int .i64 (0))] 61 .var))]), .br 5 172 true, .br 5 172 true, .br 5 172 true, .br 5 172 true, .br 5 172 true, .br 5 185 true, .br 5 186 true, .br 5 186 true, .br 5 186 true, .br 5 186 true, .br 5 186 true, .br 5 199 true, .br 5 200 true, .br 5 200 true, .br 5 200 true, .br 5 200 true, .br 5 200 true, .br 5 200 true, .br 5 200 true, .br 5 217 true, .br 5 218 true, .br 5 218 true, .br 5 218 true, .br 5 218 true, .br 5 218 true, .br 5 218 true, .br 5 218 true, .br 5 235 true, .br 5 236 true, .br 5 236 true, .br 5 236 true, .br 5 236 true, .br 5 236 true, .br 5 249 true]) (os' := []) (by kernel_rfl) (ObsOK.cond hd (ObsOK.cond hb (ObsOK.cond hw (ObsOK.cond hw0 (ObsOK.cond hb0 (ObsOK.call (hl 9 (H [(.some (.cells [(.int .i64 a), (.int .i64 b), (.int .i64 c), (.int .i64 d), (.int .i64 e), (.int .i64 f)] 23 .var)), (.some (.cells [(.int .i64 g), (.int .i64 h), (.int .i64 i), (.int .i64 j)] 54 .var)), (.some (.cells [(.int .i64 (f33_r0 a b c d e f g h i j w)), (.int .i64 (f33_r1 a b c d e f g h i j w)), (.int .i64 (f33_r2 a b c d e f g h i j w)), (.int .i64 (f33_r3 a b c d e f g h i j w))] 32 .var)), (.some (.cells [(.int .i64 (f34_r0 a b c d e f g h i j w)), (.int .i64 (f34_r1 a b c d e f g h i j w)), (.int .i64 (f34_r2 a b c d e f g h i j w)), (.int .i64 (f34_r3 a b c d e f g h i j w))] 32 .var)), (.some (.cells [(.int .i64 (f35_r0 a b c d e f g h i j w)), (.int .i64 (f35_r1 a b c d e f g h i j w)), (.int .i64 (f35_r2 a b c d e f g h i j w)), (.int .i64 (f35_r3 a b c d e f g h i j w)), (.int .i64 (f35_r4 a b c d e f g h i j w)), (.int .i64 (f35_r5 a b c d e f g h i j w)), (.int .i64 (f35_r6 a b c d e f g h i j w)), (.int .i64 (f35_r7 a b c d e f g h i j w))] 57 .var)), (.some (.cells [(.int .i64 (tuN g h i j)), (.int .i64 (tuD g h i j))] 61 .var)), (.some (.cells [(.int .i64 (dErr a b c d e f)), (.int .i64 (bErr g h i j)), (.int .i64 (wErr w))] 3 .row)), (.some (.cells [(.int .i64 (0)), (.int .i64 (0)), (.int .i64 (0)), (.int .i64 (0))] 39 .var)), (.some (.cells [(.int .i64 (0)), (.int .i64 (0)), (.int .i64 (0)), (.int .i64 (0))] 39 .var)), (.some (.cells [(.int .i64 (0)), (.int .i64 (0)), (.int .i64 (0)), (.int .i64 (0)), (.int .i64 (0)), (.int .i64 (0)), (.int .i64 (0)), (.int .i64 (0))] 65 .var)), (.some (.cells [(.int .i64 (0)), (.int .i64 (0))] 61 .var))]) (by kernel_rfl)) (ObsOK.cond h0 (ObsOK.cond h0 (ObsOK.cond h0 (ObsOK.cond h0 (ObsOK.cond h0 (ObsOK.cond h0 (ObsOK.cond h1 (ObsOK.cond h1 (ObsOK.cond h1 (ObsOK.cond h1 (ObsOK.cond h1 (ObsOK.cond h1 (ObsOK.cond h2 (ObsOK.cond h2 (ObsOK.cond h2 (ObsOK.cond h2 (ObsOK.cond h2 (ObsOK.cond h2 (ObsOK.cond h2 (ObsOK.cond h2 (ObsOK.cond h3 (ObsOK.cond h3 (ObsOK.cond h3 (ObsOK.cond h3 (ObsOK.cond h3 (ObsOK.cond h3 (ObsOK.cond h3 (ObsOK.cond h3 (ObsOK.cond h4 (ObsOK.cond h4 (ObsOK.cond h4 (ObsOK.cond h4 (ObsOK.cond h4 (ObsOK.cond h4 (ObsOK.nil)))))))))))))))))))))))))))))))))))))))))
def bnE_c0 (a : Int) (b : Int) (c : Int) (d : Int) (e : Int) (f : Int) (g : Int) (h : Int) (i : Int) (j : Int) (w : Int) : Bool := bErr g h i j == bErr g h i j
def bnE_c1 (a : Int) (b : Int) (c : Int) (d : Int) (e : Int) (f : Int) (g : Int) (h : Int) (i : Int) (j : Int) (w : Int) : Bool := f28_r0 (f33_r0 a b c d e f g h i j w) (f33_r1 a b c d e f g h i j w) (f33_r2 a b c d e f g h i j w) (f33_r3 a b c d e f g h i j w) (f33_r4 a b c d e f g h i j w) 0 (f38_r0 a b c d e f g h i j w) (f38_r1 a b c d e f g h i j w) (f38_r2 a b c d e f g h i j w) (f38_r3 a b c d e f g h i j w)
def bnE_c2 (a : Int) (b : Int) (c : Int) (d : Int) (e : Int) (f : Int) (g : Int) (h : Int) (i : Int) (j : Int) (w : Int) : Bool := f28_r0 (f34_r0 a b c d e f g h i j w) (f34_r1 a b c d e f g h i j w) (f34_r2 a b c d e f g h i j w) (f34_r3 a b c d e f g h i j w) (f34_r4 a b c d e f g h i j w) 0 (f39_r0 a b c d e f g h i j w) (f39_r1 a b c d e f g h i j w) (f39_r2 a b c d e f g h i j w) (f39_r3 a b c d e f g h i j w)
def bnE_c3 (a : Int) (b : Int) (c : Int) (d : Int) (e : Int) (f : Int) (g : Int) (h : Int) (i : Int) (j : Int) (w : Int) : Bool := f28_r0 (f35_r0 a b c d e f g h i j w) (f35_r1 a b c d e f g h i j w) (f35_r2 a b c d e f g h i j w) (f35_r3 a b c d e f g h i j w) (f35_r8 a b c d e f g h i j w) 0 (f40_r0 a b c d e f g h i j w) (f40_r1 a b c d e f g h i j w) (f40_r2 a b c d e f g h i j w) (f40_r3 a b c d e f g h i j w)
def bnE_c4 (a : Int) (b : Int) (c : Int) (d : Int) (e : Int) (f : Int) (g : Int) (h : Int) (i : Int) (j : Int) (w : Int) : Bool := f28_r0 (f35_r4 a b c d e f g h i j w) (f35_r5 a b c d e f g h i j w) (f35_r6 a b c d e f g h i j w) (f35_r7 a b c d e f g h i j w) (f35_r8 a b c d e f g h i j w) 0 (f40_r4 a b c d e f g h i j w) (f40_r5 a b c d e f g h i j w) (f40_r6 a b c d e f g h i j w) (f40_r7 a b c d e f g h i j w)
theorem bnE_p0 (a : Int) (b : Int) (c : Int) (d : Int) (e : Int) (f : Int) (g : Int) (h : Int) (i : Int) (j : Int) (w : Int) (hd : (dErr a b c d e f != 0) = false) (hd0 : (dErr a b c d e f == 0) = true) (hb : (bErr g h i j != 0) = false) (hb0 : (bErr g h i j == 0) = true) (hw : (wErr w != 0) = false) (hw0 : (wErr w == 0) = true) (hl : ∀ (lim : Nat) (A : Heap), startsB heapN A = true → Gives Tryz.prog envT lim 41 [.agg #[.int .i64 g, .int .i64 h, .int .i64 i, .int .i64 j]] A (.tuple #[.agg #[.int .i64 (tuN g h i j), .int .i64 (tuD g h i j)], .int .i64 (tuE g h i j)], A)) (h0 : bnE_c0 a b c d e f g h i j w = true) (h1 : bnE_c1 a b c d e f g h i j w = true) (h2 : bnE_c2 a b c d e f g h i j w = true) (h3 : bnE_c3 a b c d e f g h i j w = true) (h4 : bnE_c4 a b c d e f g h i j w = true) : Gives Tryz.prog envT 0 5 [(.agg #[(.int .i64 (a)), (.int .i64 (b)), (.int .i64 (c)), (.int .i64 (d)), (.int .i64 (e)), (.int .i64 (f))]), (.agg #[(.int .i64 (g)), (.int .i64 (h)), (.int .i64 (i)), (.int .i64 (j))]), (.int .i64 (w))] heap0 ((.bool (f43_r0 (tuN g h i j) (tuD g h i j) (tuE g h i j) (tuE g h i j) (tuN g h i j) (tuD g h i j))), heap0) :=
  Gives.by (n := 1000) (os := [.br 20 30 false, .br 20 30 false, .br 20 30 false, .br 5 150 true, .opw 5 78 (.tuple #[(.agg #[(.int .i64 (tuN g h i j)), (.int .i64 (tuD g h i j))]), (.int .i64 (tuE g h i j))]) (H [(.some (.cells [(.int .i64 a), (.int .i64 b), (.int .i64 c), (.int .i64 d), (.int .i64 e), (.int .i64 f)] 23 .var)), (.some (.cells [(.int .i64 g), (.int .i64 h), (.int .i64 i), (.int .i64 j)] 54 .var)), (.some (.cells [(.int .i64 (f33_r0 a b c d e f g h i j w)), (.int .i64 (f33_r1 a b c d e f g h i j w)), (.int .i64 (f33_r2 a b c d e f g h i j w)), (.int .i64 (f33_r3 a b c d e f g h i j w))] 32 .var)), (.some (.cells [(.int .i64 (f34_r0 a b c d e f g h i j w)), (.int .i64 (f34_r1 a b c d e f g h i j w)), (.int .i64 (f34_r2 a b c d e f g h i j w)), (.int .i64 (f34_r3 a b c d e f g h i j w))] 32 .var)), (.some (.cells [(.int .i64 (f35_r0 a b c d e f g h i j w)), (.int .i64 (f35_r1 a b c d e f g h i j w)), (.int .i64 (f35_r2 a b c d e f g h i j w)), (.int .i64 (f35_r3 a b c d e f g h i j w)), (.int .i64 (f35_r4 a b c d e f g h i j w)), (.int .i64 (f35_r5 a b c d e f g h i j w)), (.int .i64 (f35_r6 a b c d e f g h i j w)), (.int .i64 (f35_r7 a b c d e f g h i j w))] 57 .var)), (.some (.cells [(.int .i64 (tuN g h i j)), (.int .i64 (tuD g h i j))] 61 .var)), (.some (.cells [(.int .i64 (dErr a b c d e f)), (.int .i64 (bErr g h i j)), (.int .i64 (wErr w))] 3 .row)), (.some (.cells [(.int .i64 (f38_r0 a b c d e f g h i j w)), (.int .i64 (f38_r1 a b c d e f g h i j w)), (.int .i64 (f38_r2 a b c d e f g h i j w)), (.int .i64 (f38_r3 a b c d e f g h i j w))] 39 .var)), (.some (.cells [(.int .i64 (f39_r0 a b c d e f g h i j w)), (.int .i64 (f39_r1 a b c d e f g h i j w)), (.int .i64 (f39_r2 a b c d e f g h i j w)), (.int .i64 (f39_r3 a b c d e f g h i j w))] 39 .var)), (.some (.cells [(.int .i64 (f40_r0 a b c d e f g h i j w)), (.int .i64 (f40_r1 a b c d e f g h i j w)), (.int .i64 (f40_r2 a b c d e f g h i j w)), (.int .i64 (f40_r3 a b c d e f g h i j w)), (.int .i64 (f40_r4 a b c d e f g h i j w)), (.int .i64 (f40_r5 a b c d e f g h i j w)), (.int .i64 (f40_r6 a b c d e f g h i j w)), (.int .i64 (f40_r7 a b c d e f g h i j w))] 65 .var)), (.some (.cells [(.int .i64 (0)), (.int .i64 (0))] 61 .var))]), .br 5 172 true, .br 5 172 true, .br 5 172 true, .br 5 172 true, .br 5 172 true, .br 5 185 true, .br 5 186 true, .br 5 186 true, .br 5 186 true, .br 5 186 true, .br 5 186 true, .br 5 199 true, .br 5 200 true, .br 5 200 true, .br 5 200 true, .br 5 200 true, .br 5 200 true, .br 5 200 true, .br 5 200 true, .br 5 217 true, .br 5 218 true, .br 5 218 true, .br 5 218 true, .br 5 218 true, .br 5 218 true, .br 5 218 true, .br 5 218 true, .br 5 235 true, .br 5 236 true, .br 5 236 true, .br 5 236 true, .br 5 236 true, .br 5 236 true, .br 5 249 true]) (os' := []) (by kernel_rfl) (ObsOK.cond hd (ObsOK.cond hb (ObsOK.cond hw (ObsOK.cond hb0 (ObsOK.call (hl 9 (H [(.some (.cells [(.int .i64 a), (.int .i64 b), (.int .i64 c), (.int .i64 d), (.int .i64 e), (.int .i64 f)] 23 .var)), (.some (.cells [(.int .i64 g), (.int .i64 h), (.int .i64 i), (.int .i64 j)] 54 .var)), (.some (.cells [(.int .i64 (f33_r0 a b c d e f g h i j w)), (.int .i64 (f33_r1 a b c d e f g h i j w)), (.int .i64 (f33_r2 a b c d e f g h i j w)), (.int .i64 (f33_r3 a b c d e f g h i j w))] 32 .var)), (.some (.cells [(.int .i64 (f34_r0 a b c d e f g h i j w)), (.int .i64 (f34_r1 a b c d e f g h i j w)), (.int .i64 (f34_r2 a b c d e f g h i j w)), (.int .i64 (f34_r3 a b c d e f g h i j w))] 32 .var)), (.some (.cells [(.int .i64 (f35_r0 a b c d e f g h i j w)), (.int .i64 (f35_r1 a b c d e f g h i j w)), (.int .i64 (f35_r2 a b c d e f g h i j w)), (.int .i64 (f35_r3 a b c d e f g h i j w)), (.int .i64 (f35_r4 a b c d e f g h i j w)), (.int .i64 (f35_r5 a b c d e f g h i j w)), (.int .i64 (f35_r6 a b c d e f g h i j w)), (.int .i64 (f35_r7 a b c d e f g h i j w))] 57 .var)), (.some (.cells [(.int .i64 (tuN g h i j)), (.int .i64 (tuD g h i j))] 61 .var)), (.some (.cells [(.int .i64 (dErr a b c d e f)), (.int .i64 (bErr g h i j)), (.int .i64 (wErr w))] 3 .row)), (.some (.cells [(.int .i64 (f38_r0 a b c d e f g h i j w)), (.int .i64 (f38_r1 a b c d e f g h i j w)), (.int .i64 (f38_r2 a b c d e f g h i j w)), (.int .i64 (f38_r3 a b c d e f g h i j w))] 39 .var)), (.some (.cells [(.int .i64 (f39_r0 a b c d e f g h i j w)), (.int .i64 (f39_r1 a b c d e f g h i j w)), (.int .i64 (f39_r2 a b c d e f g h i j w)), (.int .i64 (f39_r3 a b c d e f g h i j w))] 39 .var)), (.some (.cells [(.int .i64 (f40_r0 a b c d e f g h i j w)), (.int .i64 (f40_r1 a b c d e f g h i j w)), (.int .i64 (f40_r2 a b c d e f g h i j w)), (.int .i64 (f40_r3 a b c d e f g h i j w)), (.int .i64 (f40_r4 a b c d e f g h i j w)), (.int .i64 (f40_r5 a b c d e f g h i j w)), (.int .i64 (f40_r6 a b c d e f g h i j w)), (.int .i64 (f40_r7 a b c d e f g h i j w))] 65 .var)), (.some (.cells [(.int .i64 (0)), (.int .i64 (0))] 61 .var))]) (by kernel_rfl)) (ObsOK.cond h0 (ObsOK.cond h0 (ObsOK.cond h0 (ObsOK.cond h0 (ObsOK.cond h0 (ObsOK.cond h0 (ObsOK.cond h1 (ObsOK.cond h1 (ObsOK.cond h1 (ObsOK.cond h1 (ObsOK.cond h1 (ObsOK.cond h1 (ObsOK.cond h2 (ObsOK.cond h2 (ObsOK.cond h2 (ObsOK.cond h2 (ObsOK.cond h2 (ObsOK.cond h2 (ObsOK.cond h2 (ObsOK.cond h2 (ObsOK.cond h3 (ObsOK.cond h3 (ObsOK.cond h3 (ObsOK.cond h3 (ObsOK.cond h3 (ObsOK.cond h3 (ObsOK.cond h3 (ObsOK.cond h3 (ObsOK.cond h4 (ObsOK.cond h4 (ObsOK.cond h4 (ObsOK.cond h4 (ObsOK.cond h4 (ObsOK.cond h4 (ObsOK.nil))))))))))))))))))))))))))))))))))))))))
end Go.Proofs.YtkndhhnjgpialaaGreatDoor
/-
What the numbers of the program and of the reference have to do with each other: drivers in boxes.
-/
namespace Go.Proofs.YtkndhhnjgpialaaGreatDoor
open Go Go.Abs
theorem dErr_ok' {a b c d e f : Int} (h : (dErr a b c d e f != 0) = false) : dErr a b c d e f = 0 := by simpa using h
section
variable (a b c d e f g h i j w : Int)
theorem b2_ok (hd : (dErr a b c d e f != 0) = false) (hb : (bErr g h i j != 0) = false) (hw : (wErr w != 0) = false) : f104_r2 a b c d e f g h i j w = f38_r0 a b c d e f g h i j w := by
  simp only [f104_r2, f104_c0, f104_c1, f104_c2, f104_c3, hd, hb, hw, cond_false]
  by_cases h0 : h = 0
  · subst h0
    simp only [show (!(0 : Int) != 0) = true from rfl, cond_true, f144_r2, f144_r3, f144_r4, f144_r5, f144_r6, f144_r7, f144_r8, f144_r9, f144_r14, f144_r15, f144_r16, f144_r17, f150_r2, f150_r3, f150_r4, f150_r5, f150_r6, f150_r7, f150_r8, f150_r9, f150_r10, f150_r11, f150_r12, f150_r13, f150_r14, f150_r15, f150_r16, f150_r17, f151_r0, f151_r1, f177_r0, f177_r1, f149_r0, f149_r1, f38_r0, f38_r1, f38_r2, f38_r3, f39_r0, f39_r1, f39_r2, f39_r3, f40_r0, f40_r1, f40_r2, f40_r3, f40_r4, f40_r5, f40_r6, f40_r7, f40_c0, f108_r0, f108_r1, f108_r2, f108_r3, f108_r4, f108_r5, f108_r6, f108_r8, f108_r9, f108_c0, f152_r0, f152_r1, f82_r0, f82_r1, f91_r0, f91_r1, beq_self_eq_true, wAdd_l, wAdd_r, wSub_l, wSub_r, wMul_l, wMul_r, wWrap]
    try (congr 1; grind)
  · have h1 : (h == 0) = false := by simpa using h0
    have h2 : (!h != 0) = false := by simpa using h0
    simp only [h1, h2, cond_false, f150_r2, f150_r3, f150_r4, f150_r5, f150_r6, f150_r7, f150_r8, f150_r9, f150_r10, f150_r11, f150_r12, f150_r13, f150_r14, f150_r15, f150_r16, f150_r17, f151_r0, f151_r1, f177_r0, f177_r1, f149_r0, f149_r1, f38_r0, f38_r1, f38_r2, f38_r3, f39_r0, f39_r1, f39_r2, f39_r3, f40_r0, f40_r1, f40_r2, f40_r3, f40_r4, f40_r5, f40_r6, f40_r7, f40_c0, f108_r0, f108_r1, f108_r2, f108_r3, f108_r4, f108_r5, f108_r6, f108_r8, f108_r9, f108_c0, f152_r0, f152_r1, f82_r0, f82_r1, f91_r0, f91_r1, wAdd_l, wAdd_r, wSub_l, wSub_r, wMul_l, wMul_r, wWrap]
    try (congr 1; grind)
theorem b2_no (hx : (dErr a b c d e f != 0 || (bErr g h i j != 0 || wErr w != 0)) = true) : f104_r2 a b c d e f g h i j w = 0 := by
  simp only [f104_r2, f104_c0, f104_c1, f104_c2]
  cases hd : dErr a b c d e f != 0
  · cases hb : bErr g h i j != 0
    · simp only [hd, hb, Bool.false_or] at hx
      rw [hx]; rfl
    · rfl
  · rfl
theorem b3_ok (hd : (dErr a b c d e f != 0) = false) (hb : (bErr g h i j != 0) = false) (hw : (wErr w != 0) = false) : f104_r3 a b c d e f g h i j w = f38_r1 a b c d e f g h i j w := by
  simp only [f104_r3, f104_c0, f104_c1, f104_c2, f104_c3, hd, hb, hw, cond_false]
  by_cases h0 : h = 0
  · subst h0
    simp only [show (!(0 : Int) != 0) = true from rfl, cond_true, f144_r2, f144_r3, f144_r4, f144_r5, f144_r6, f144_r7, f144_r8, f144_r9, f144_r14, f144_r15, f144_r16, f144_r17, f150_r2, f150_r3, f150_r4, f150_r5, f150_r6, f150_r7, f150_r8, f150_r9, f150_r10, f150_r11, f150_r12, f150_r13, f150_r14, f150_r15, f150_r16, f150_r17, f151_r0, f151_r1, f177_r0, f177_r1, f149_r0, f149_r1, f38_r0, f38_r1, f38_r2, f38_r3, f39_r0, f39_r1, f39_r2, f39_r3, f40_r0, f40_r1, f40_r2, f40_r3, f40_r4, f40_r5, f40_r6, f40_r7, f40_c0, f108_r0, f108_r1, f108_r2, f108_r3, f108_r4, f108_r5, f108_r6, f108_r8, f108_r9, f108_c0, f152_r0, f152_r1, f82_r0, f82_r1, f91_r0, f91_r1, beq_self_eq_true, wAdd_l, wAdd_r, wSub_l, wSub_r, wMul_l, wMul_r, wWrap]
    try (congr 1; grind)
  · have h1 : (h == 0) = false := by simpa using h0
    have h2 : (!h != 0) = false := by simpa using h0
    simp only [h1, h2, cond_false, f150_r2, f150_r3, f150_r4, f150_r5, f150_r6, f150_r7, f150_r8, f150_r9, f150_r10, f150_r11, f150_r12, f150_r13, f150_r14, f150_r15, f150_r16, f150_r17, f151_r0, f151_r1, f177_r0, f177_r1, f149_r0, f149_r1, f38_r0, f38_r1, f38_r2, f38_r3, f39_r0, f39_r1, f39_r2, f39_r3, f40_r0, f40_r1, f40_r2, f40_r3, f40_r4, f40_r5, f40_r6, f40_r7, f40_c0, f108_r0, f108_r1, f108_r2, f108_r3, f108_r4, f108_r5, f108_r6, f108_r8, f108_r9, f108_c0, f152_r0, f152_r1, f82_r0, f82_r1, f91_r0, f91_r1, wAdd_l, wAdd_r, wSub_l, wSub_r, wMul_l, wMul_r, wWrap]
    try (congr 1; grind)
theorem b3_no (hx : (dErr a b c d e f != 0 || (bErr g h i j != 0 || wErr w != 0)) = true) : f104_r3 a b c d e f g h i j w = 0 := by
  simp only [f104_r3, f104_c0, f104_c1, f104_c2]
  cases hd : dErr a b c d e f != 0
  · cases hb : bErr g h i j != 0
    · simp only [hd, hb, Bool.false_or] at hx
      rw [hx]; rfl
    · rfl
  · rfl
theorem b4_ok (hd : (dErr a b c d e f != 0) = false) (hb : (bErr g h i j != 0) = false) (hw : (wErr w != 0) = false) : f104_r4 a b c d e f g h i j w = f38_r2 a b c d e f g h i j w := by
  simp only [f104_r4, f104_c0, f104_c1, f104_c2, f104_c3, hd, hb, hw, cond_false]
  by_cases h0 : h = 0
  · subst h0
    simp only [show (!(0 : Int) != 0) = true from rfl, cond_true, f144_r2, f144_r3, f144_r4, f144_r5, f144_r6, f144_r7, f144_r8, f144_r9, f144_r14, f144_r15, f144_r16, f144_r17, f150_r2, f150_r3, f150_r4, f150_r5, f150_r6, f150_r7, f150_r8, f150_r9, f150_r10, f150_r11, f150_r12, f150_r13, f150_r14, f150_r15, f150_r16, f150_r17, f151_r0, f151_r1, f177_r0, f177_r1, f149_r0, f149_r1, f38_r0, f38_r1, f38_r2, f38_r3, f39_r0, f39_r1, f39_r2, f39_r3, f40_r0, f40_r1, f40_r2, f40_r3, f40_r4, f40_r5, f40_r6, f40_r7, f40_c0, f108_r0, f108_r1, f108_r2, f108_r3, f108_r4, f108_r5, f108_r6, f108_r8, f108_r9, f108_c0, f152_r0, f152_r1, f82_r0, f82_r1, f91_r0, f91_r1, beq_self_eq_true, wAdd_l, wAdd_r, wSub_l, wSub_r, wMul_l, wMul_r, wWrap]
    try (congr 1; grind)
  · have h1 : (h == 0) = false := by simpa using h0
    have h2 : (!h != 0) = false := by simpa using h0
    simp only [h1, h2, cond_false, f150_r2, f150_r3, f150_r4, f150_r5, f150_r6, f150_r7, f150_r8, f150_r9, f150_r10, f150_r11, f150_r12, f150_r13, f150_r14, f150_r15, f150_r16, f150_r17, f151_r0, f151_r1, f177_r0, f177_r1, f149_r0, f149_r1, f38_r0, f38_r1, f38_r2, f38_r3, f39_r0, f39_r1, f39_r2, f39_r3, f40_r0, f40_r1, f40_r2, f40_r3, f40_r4, f40_r5, f40_r6, f40_r7, f40_c0, f108_r0, f108_r1, f108_r2, f108_r3, f108_r4, f108_r5, f108_r6, f108_r8, f108_r9, f108_c0, f152_r0, f152_r1, f82_r0, f82_r1, f91_r0, f91_r1, wAdd_l, wAdd_r, wSub_l, wSub_r, wMul_l, wMul_r, wWrap]
    try (congr 1; grind)
theorem b4_no (hx : (dErr a b c d e f != 0 || (bErr g h i j != 0 || wErr w != 0)) = true) : f104_r4 a b c d e f g h i j w = 0 := by
  simp only [f104_r4, f104_c0, f104_c1, f104_c2]
  cases hd : dErr a b c d e f != 0
  · cases hb : bErr g h i j != 0
    · simp only [hd, hb, Bool.false_or] at hx
      rw [hx]; rfl
    · rfl
  · rfl
theorem b5_ok (hd : (dErr a b c d e f != 0) = false) (hb : (bErr g h i j != 0) = false) (hw : (wErr w != 0) = false) : f104_r5 a b c d e f g h i j w = f38_r3 a b c d e f g h i j w := by
  simp only [f104_r5, f104_c0, f104_c1, f104_c2, f104_c3, hd, hb, hw, cond_false]
  by_cases h0 : h = 0
  · subst h0
    simp only [show (!(0 : Int) != 0) = true from rfl, cond_true, f144_r2, f144_r3, f144_r4, f144_r5, f144_r6, f144_r7, f144_r8, f144_r9, f144_r14, f144_r15, f144_r16, f144_r17, f150_r2, f150_r3, f150_r4, f150_r5, f150_r6, f150_r7, f150_r8, f150_r9, f150_r10, f150_r11, f150_r12, f150_r13, f150_r14, f150_r15, f150_r16, f150_r17, f151_r0, f151_r1, f177_r0, f177_r1, f149_r0, f149_r1, f38_r0, f38_r1, f38_r2, f38_r3, f39_r0, f39_r1, f39_r2, f39_r3, f40_r0, f40_r1, f40_r2, f40_r3, f40_r4, f40_r5, f40_r6, f40_r7, f40_c0, f108_r0, f108_r1, f108_r2, f108_r3, f108_r4, f108_r5, f108_r6, f108_r8, f108_r9, f108_c0, f152_r0, f152_r1, f82_r0, f82_r1, f91_r0, f91_r1, beq_self_eq_true, wAdd_l, wAdd_r, wSub_l, wSub_r, wMul_l, wMul_r, wWrap]
    try (congr 1; grind)
  · have h1 : (h == 0) = false := by simpa using h0
    have h2 : (!h != 0) = false := by simpa using h0
    simp only [h1, h2, cond_false, f150_r2, f150_r3, f150_r4, f150_r5, f150_r6, f150_r7, f150_r8, f150_r9, f150_r10, f150_r11, f150_r12, f150_r13, f150_r14, f150_r15, f150_r16, f150_r17, f151_r0, f151_r1, f177_r0, f177_r1, f149_r0, f149_r1, f38_r0, f38_r1, f38_r2, f38_r3, f39_r0, f39_r1, f39_r2, f39_r3, f40_r0, f40_r1, f40_r2, f40_r3, f40_r4, f40_r5, f40_r6, f40_r7, f40_c0, f108_r0, f108_r1, f108_r2, f108_r3, f108_r4, f108_r5, f108_r6, f108_r8, f108_r9, f108_c0, f152_r0, f152_r1, f82_r0, f82_r1, f91_r0, f91_r1, wAdd_l, wAdd_r, wSub_l, wSub_r, wMul_l, wMul_r, wWrap]
    try (congr 1; grind)
theorem b5_no (hx : (dErr a b c d e f != 0 || (bErr g h i j != 0 || wErr w != 0)) = true) : f104_r5 a b c d e f g h i j w = 0 := by
  simp only [f104_r5, f104_c0, f104_c1, f104_c2]
  cases hd : dErr a b c d e f != 0
  · cases hb : bErr g h i j != 0
    · simp only [hd, hb, Bool.false_or] at hx
      rw [hx]; rfl
    · rfl
  · rfl
theorem b14_ok (hd : (dErr a b c d e f != 0) = false) (hb : (bErr g h i j != 0) = false) (hw : (wErr w != 0) = false) : f104_r14 a b c d e f g h i j w = f39_r0 a b c d e f g h i j w := by
  simp only [f104_r14, f104_c0, f104_c1, f104_c2, f104_c3, hd, hb, hw, cond_false]
  by_cases h0 : h = 0
  · subst h0
    simp only [show (!(0 : Int) != 0) = true from rfl, cond_true, f144_r2, f144_r3, f144_r4, f144_r5, f144_r6, f144_r7, f144_r8, f144_r9, f144_r14, f144_r15, f144_r16, f144_r17, f150_r2, f150_r3, f150_r4, f150_r5, f150_r6, f150_r7, f150_r8, f150_r9, f150_r10, f150_r11, f150_r12, f150_r13, f150_r14, f150_r15, f150_r16, f150_r17, f151_r0, f151_r1, f177_r0, f177_r1, f149_r0, f149_r1, f38_r0, f38_r1, f38_r2, f38_r3, f39_r0, f39_r1, f39_r2, f39_r3, f40_r0, f40_r1, f40_r2, f40_r3, f40_r4, f40_r5, f40_r6, f40_r7, f40_c0, f108_r0, f108_r1, f108_r2, f108_r3, f108_r4, f108_r5, f108_r6, f108_r8, f108_r9, f108_c0, f152_r0, f152_r1, f82_r0, f82_r1, f91_r0, f91_r1, beq_self_eq_true, wAdd_l, wAdd_r, wSub_l, wSub_r, wMul_l, wMul_r, wWrap]
    try (congr 1; grind)
  · have h1 : (h == 0) = false := by simpa using h0
    have h2 : (!h != 0) = false := by simpa using h0
    simp only [h1, h2, cond_false, f150_r2, f150_r3, f150_r4, f150_r5, f150_r6, f150_r7, f150_r8, f150_r9, f150_r10, f150_r11, f150_r12, f150_r13, f150_r14, f150_r15, f150_r16, f150_r17, f151_r0, f151_r1, f177_r0, f177_r1, f149_r0, f149_r1, f38_r0, f38_r1, f38_r2, f38_r3, f39_r0, f39_r1, f39_r2, f39_r3, f40_r0, f40_r1, f40_r2, f40_r3, f40_r4, f40_r5, f40_r6, f40_r7, f40_c0, f108_r0, f108_r1, f108_r2, f108_r3, f108_r4, f108_r5, f108_r6, f108_r8, f108_r9, f108_c0, f152_r0, f152_r1, f82_r0, f82_r1, f91_r0, f91_r1, wAdd_l, wAdd_r, wSub_l, wSub_r, wMul_l, wMul_r, wWrap]
    try (congr 1; grind)
theorem b14_no (hx : (dErr a b c d e f != 0 || (bErr g h i j != 0 || wErr w != 0)) = true) : f104_r14 a b c d e f g h i j w = 0 := by
  simp only [f104_r14, f104_c0, f104_c1, f104_c2]
  cases hd : dErr a b c d e f != 0
  · cases hb : bErr g h i j != 0
    · simp only [hd, hb, Bool.false_or] at hx
      rw [hx]; rfl
    · rfl
  · rfl
theorem b15_ok (hd : (dErr a b c d e f != 0) = false) (hb : (bErr g h i j != 0) = false) (hw : (wErr w != 0) = false) : f104_r15 a b c d e f g h i j w = f39_r1 a b c d e f g h i j w := by
  simp only [f104_r15, f104_c0, f104_c1, f104_c2, f104_c3, hd, hb, hw, cond_false]
  by_cases h0 : h = 0
  · subst h0
    simp only [show (!(0 : Int) != 0) = true from rfl, cond_true, f144_r2, f144_r3, f144_r4, f144_r5, f144_r6, f144_r7, f144_r8, f144_r9, f144_r14, f144_r15, f144_r16, f144_r17, f150_r2, f150_r3, f150_r4, f150_r5, f150_r6, f150_r7, f150_r8, f150_r9, f150_r10, f150_r11, f150_r12, f150_r13, f150_r14, f150_r15, f150_r16, f150_r17, f151_r0, f151_r1, f177_r0, f177_r1, f149_r0, f149_r1, f38_r0, f38_r1, f38_r2, f38_r3, f39_r0, f39_r1, f39_r2, f39_r3, f40_r0, f40_r1, f40_r2, f40_r3, f40_r4, f40_r5, f40_r6, f40_r7, f40_c0, f108_r0, f108_r1, f108_r2, f108_r3, f108_r4, f108_r5, f108_r6, f108_r8, f108_r9, f108_c0, f152_r0, f152_r1, f82_r0, f82_r1, f91_r0, f91_r1, beq_self_eq_true, wAdd_l, wAdd_r, wSub_l, wSub_r, wMul_l, wMul_r, wWrap]
    try (congr 1; grind)
  · have h1 : (h == 0) = false := by simpa using h0
    have h2 : (!h != 0) = false := by simpa using h0
    simp only [h1, h2, cond_false, f150_r2, f150_r3, f150_r4, f150_r5, f150_r6, f150_r7, f150_r8, f150_r9, f150_r10, f150_r11, f150_r12, f150_r13, f150_r14, f150_r15, f150_r16, f150_r17, f151_r0, f151_r1, f177_r0, f177_r1, f149_r0, f149_r1, f38_r0, f38_r1, f38_r2, f38_r3, f39_r0, f39_r1, f39_r2, f39_r3, f40_r0, f40_r1, f40_r2, f40_r3, f40_r4, f40_r5, f40_r6, f40_r7, f40_c0, f108_r0, f108_r1, f108_r2, f108_r3, f108_r4, f108_r5, f108_r6, f108_r8, f108_r9, f108_c0, f152_r0, f152_r1, f82_r0, f82_r1, f91_r0, f91_r1, wAdd_l, wAdd_r, wSub_l, wSub_r, wMul_l, wMul_r, wWrap]
    try (congr 1; grind)
theorem b15_no (hx : (dErr a b c d e f != 0 || (bErr g h i j != 0 || wErr w != 0)) = true) : f104_r15 a b c d e f g h i j w = 0 := by
  simp only [f104_r15, f104_c0, f104_c1, f104_c2]
  cases hd : dErr a b c d e f != 0
  · cases hb : bErr g h i j != 0
    · simp only [hd, hb, Bool.false_or] at hx
      rw [hx]; rfl
    · rfl
  · rfl
theorem b16_ok (hd : (dErr a b c d e f != 0) = false) (hb : (bErr g h i j != 0) = false) (hw : (wErr w != 0) = false) : f104_r16 a b c d e f g h i j w = f39_r2 a b c d e f g h i j w := by
  simp only [f104_r16, f104_c0, f104_c1, f104_c2, f104_c3, hd, hb, hw, cond_false]
  by_cases h0 : h = 0
  · subst h0
    simp only [show (!(0 : Int) != 0) = true from rfl, cond_true, f144_r2, f144_r3, f144_r4, f144_r5, f144_r6, f144_r7, f144_r8, f144_r9, f144_r14, f144_r15, f144_r16, f144_r17, f150_r2, f150_r3, f150_r4, f150_r5, f150_r6, f150_r7, f150_r8, f150_r9, f150_r10, f150_r11, f150_r12, f150_r13, f150_r14, f150_r15, f150_r16, f150_r17, f151_r0, f151_r1, f177_r0, f177_r1, f149_r0, f149_r1, f38_r0, f38_r1, f38_r2, f38_r3, f39_r0, f39_r1, f39_r2, f39_r3, f40_r0, f40_r1, f40_r2, f40_r3, f40_r4, f40_r5, f40_r6, f40_r7, f40_c0, f108_r0, f108_r1, f108_r2, f108_r3, f108_r4, f108_r5, f108_r6, f108_r8, f108_r9, f108_c0, f152_r0, f152_r1, f82_r0, f82_r1, f91_r0, f91_r1, beq_self_eq_true, wAdd_l, wAdd_r, wSub_l, wSub_r, wMul_l, wMul_r, wWrap]
    try (congr 1; grind)
  · have h1 : (h == 0) = false := by simpa using h0
    have h2 : (!h != 0) = false := by simpa using h0
    simp only [h1, h2, cond_false, f150_r2, f150_r3, f150_r4, f150_r5, f150_r6, f150_r7, f150_r8, f150_r9, f150_r10, f150_r11, f150_r12, f150_r13, f150_r14, f150_r15, f150_r16, f150_r17, f151_r0, f151_r1, f177_r0, f177_r1, f149_r0, f149_r1, f38_r0, f38_r1, f38_r2, f38_r3, f39_r0, f39_r1, f39_r2, f39_r3, f40_r0, f40_r1, f40_r2, f40_r3, f40_r4, f40_r5, f40_r6, f40_r7, f40_c0, f108_r0, f108_r1, f108_r2, f108_r3, f108_r4, f108_r5, f108_r6, f108_r8, f108_r9, f108_c0, f152_r0, f152_r1, f82_r0, f82_r1, f91_r0, f91_r1, wAdd_l, wAdd_r, wSub_l, wSub_r, wMul_l, wMul_r, wWrap]
    try (congr 1; grind)
theorem b16_no (hx : (dErr a b c d e f != 0 || (bErr g h i j != 0 || wErr w != 0)) = true) : f104_r16 a b c d e f g h i j w = 0 := by
  simp only [f104_r16, f104_c0, f104_c1, f104_c2]
  cases hd : dErr a b c d e f != 0
  · cases hb : bErr g h i j != 0
    · simp only [hd, hb, Bool.false_or] at hx
      rw [hx]; rfl
    · rfl
  · rfl
theorem b17_ok (hd : (dErr a b c d e f != 0) = false) (hb : (bErr g h i j != 0) = false) (hw : (wErr w != 0) = false) : f104_r17 a b c d e f g h i j w = f39_r3 a b c d e f g h i j w := by
  simp only [f104_r17, f104_c0, f104_c1, f104_c2, f104_c3, hd, hb, hw, cond_false]
  by_cases h0 : h = 0
  · subst h0
    simp only [show (!(0 : Int) != 0) = true from rfl, cond_true, f144_r2, f144_r3, f144_r4, f144_r5, f144_r6, f144_r7, f144_r8, f144_r9, f144_r14, f144_r15, f144_r16, f144_r17, f150_r2, f150_r3, f150_r4, f150_r5, f150_r6, f150_r7, f150_r8, f150_r9, f150_r10, f150_r11, f150_r12, f150_r13, f150_r14, f150_r15, f150_r16, f150_r17, f151_r0, f151_r1, f177_r0, f177_r1, f149_r0, f149_r1, f38_r0, f38_r1, f38_r2, f38_r3, f39_r0, f39_r1, f39_r2, f39_r3, f40_r0, f40_r1, f40_r2, f40_r3, f40_r4, f40_r5, f40_r6, f40_r7, f40_c0, f108_r0, f108_r1, f108_r2, f108_r3, f108_r4, f108_r5, f108_r6, f108_r8, f108_r9, f108_c0, f152_r0, f152_r1, f82_r0, f82_r1, f91_r0, f91_r1, beq_self_eq_true, wAdd_l, wAdd_r, wSub_l, wSub_r, wMul_l, wMul_r, wWrap]
    try (congr 1; grind)
  · have h1 : (h == 0) = false := by simpa using h0
    have h2 : (!h != 0) = false := by simpa using h0
    simp only [h1, h2, cond_false, f150_r2, f150_r3, f150_r4, f150_r5, f150_r6, f150_r7, f150_r8, f150_r9, f150_r10, f150_r11, f150_r12, f150_r13, f150_r14, f150_r15, f150_r16, f150_r17, f151_r0, f151_r1, f177_r0, f177_r1, f149_r0, f149_r1, f38_r0, f38_r1, f38_r2, f38_r3, f39_r0, f39_r1, f39_r2, f39_r3, f40_r0, f40_r1, f40_r2, f40_r3, f40_r4, f40_r5, f40_r6, f40_r7, f40_c0, f108_r0, f108_r1, f108_r2, f108_r3, f108_r4, f108_r5, f108_r6, f108_r8, f108_r9, f108_c0, f152_r0, f152_r1, f82_r0, f82_r1, f91_r0, f91_r1, wAdd_l, wAdd_r, wSub_l, wSub_r, wMul_l, wMul_r, wWrap]
    try (congr 1; grind)
theorem b17_no (hx : (dErr a b c d e f != 0 || (bErr g h i j != 0 || wErr w != 0)) = true) : f104_r17 a b c d e f g h i j w = 0 := by
  simp only [f104_r17, f104_c0, f104_c1, f104_c2]
  cases hd : dErr a b c d e f != 0
  · cases hb : bErr g h i j != 0
    · simp only [hd, hb, Bool.false_or] at hx
      rw [hx]; rfl
    · rfl
  · rfl
theorem b6_ok (hd : (dErr a b c d e f != 0) = false) (hb : (bErr g h i j != 0) = false) (hw : (wErr w != 0) = false) : f104_r6 a b c d e f g h i j w = f40_r0 a b c d e f g h i j w := by
  simp only [f104_r6, f104_c0, f104_c1, f104_c2, f104_c3, hd, hb, hw, cond_false]
  by_cases h0 : h = 0
  · subst h0
    simp only [show (!(0 : Int) != 0) = true from rfl, cond_true, f144_r2, f144_r3, f144_r4, f144_r5, f144_r6, f144_r7, f144_r8, f144_r9, f144_r14, f144_r15, f144_r16, f144_r17, f150_r2, f150_r3, f150_r4, f150_r5, f150_r6, f150_r7, f150_r8, f150_r9, f150_r10, f150_r11, f150_r12, f150_r13, f150_r14, f150_r15, f150_r16, f150_r17, f151_r0, f151_r1, f177_r0, f177_r1, f149_r0, f149_r1, f38_r0, f38_r1, f38_r2, f38_r3, f39_r0, f39_r1, f39_r2, f39_r3, f40_r0, f40_r1, f40_r2, f40_r3, f40_r4, f40_r5, f40_r6, f40_r7, f40_c0, f108_r0, f108_r1, f108_r2, f108_r3, f108_r4, f108_r5, f108_r6, f108_r8, f108_r9, f108_c0, f152_r0, f152_r1, f82_r0, f82_r1, f91_r0, f91_r1, beq_self_eq_true, wAdd_l, wAdd_r, wSub_l, wSub_r, wMul_l, wMul_r, wWrap]
    try (congr 1; grind)
  · have h1 : (h == 0) = false := by simpa using h0
    have h2 : (!h != 0) = false := by simpa using h0
    simp only [h1, h2, cond_false, f150_r2, f150_r3, f150_r4, f150_r5, f150_r6, f150_r7, f150_r8, f150_r9, f150_r10, f150_r11, f150_r12, f150_r13, f150_r14, f150_r15, f150_r16, f150_r17, f151_r0, f151_r1, f177_r0, f177_r1, f149_r0, f149_r1, f38_r0, f38_r1, f38_r2, f38_r3, f39_r0, f39_r1, f39_r2, f39_r3, f40_r0, f40_r1, f40_r2, f40_r3, f40_r4, f40_r5, f40_r6, f40_r7, f40_c0, f108_r0, f108_r1, f108_r2, f108_r3, f108_r4, f108_r5, f108_r6, f108_r8, f108_r9, f108_c0, f152_r0, f152_r1, f82_r0, f82_r1, f91_r0, f91_r1, wAdd_l, wAdd_r, wSub_l, wSub_r, wMul_l, wMul_r, wWrap]
    try (congr 1; grind)
theorem b6_no (hx : (dErr a b c d e f != 0 || (bErr g h i j != 0 || wErr w != 0)) = true) : f104_r6 a b c d e f g h i j w = 0 := by
  simp only [f104_r6, f104_c0, f104_c1, f104_c2]
  cases hd : dErr a b c d e f != 0
  · cases hb : bErr g h i j != 0
    · simp only [hd, hb, Bool.false_or] at hx
      rw [hx]; rfl
    · rfl
  · rfl
theorem b7_ok (hd : (dErr a b c d e f != 0) = false) (hb : (bErr g h i j != 0) = false) (hw : (wErr w != 0) = false) : f104_r7 a b c d e f g h i j w = f40_r1 a b c d e f g h i j w := by
  simp only [f104_r7, f104_c0, f104_c1, f104_c2, f104_c3, hd, hb, hw, cond_false]
  by_cases h0 : h = 0
  · subst h0
    simp only [show (!(0 : Int) != 0) = true from rfl, cond_true, f144_r2, f144_r3, f144_r4, f144_r5, f144_r6, f144_r7, f144_r8, f144_r9, f144_r14, f144_r15, f144_r16, f144_r17, f150_r2, f150_r3, f150_r4, f150_r5, f150_r6, f150_r7, f150_r8, f150_r9, f150_r10, f150_r11, f150_r12, f150_r13, f150_r14, f150_r15, f150_r16, f150_r17, f151_r0, f151_r1, f177_r0, f177_r1, f149_r0, f149_r1, f38_r0, f38_r1, f38_r2, f38_r3, f39_r0, f39_r1, f39_r2, f39_r3, f40_r0, f40_r1, f40_r2, f40_r3, f40_r4, f40_r5, f40_r6, f40_r7, f40_c0, f108_r0, f108_r1, f108_r2, f108_r3, f108_r4, f108_r5, f108_r6, f108_r8, f108_r9, f108_c0, f152_r0, f152_r1, f82_r0, f82_r1, f91_r0, f91_r1, beq_self_eq_true, wAdd_l, wAdd_r, wSub_l, wSub_r, wMul_l, wMul_r, wWrap]
    try (congr 1; grind)
  · have h1 : (h == 0) = false := by simpa using h0
    have h2 : (!h != 0) = false := by simpa using h0
    simp only [h1, h2, cond_false, f150_r2, f150_r3, f150_r4, f150_r5, f150_r6, f150_r7, f150_r8, f150_r9, f150_r10, f150_r11, f150_r12, f150_r13, f150_r14, f150_r15, f150_r16, f150_r17, f151_r0, f151_r1, f177_r0, f177_r1, f149_r0, f149_r1, f38_r0, f38_r1, f38_r2, f38_r3, f39_r0, f39_r1, f39_r2, f39_r3, f40_r0, f40_r1, f40_r2, f40_r3, f40_r4, f40_r5, f40_r6, f40_r7, f40_c0, f108_r0, f108_r1, f108_r2, f108_r3, f108_r4, f108_r5, f108_r6, f108_r8, f108_r9, f108_c0, f152_r0, f152_r1, f82_r0, f82_r1, f91_r0, f91_r1, wAdd_l, wAdd_r, wSub_l, wSub_r, wMul_l, wMul_r, wWrap]
    try (congr 1; grind)
theorem b7_no (hx : (dErr a b c d e f != 0 || (bErr g h i j != 0 || wErr w != 0)) = true) : f104_r7 a b c d e f g h i j w = 0 := by
  simp only [f104_r7, f104_c0, f104_c1, f104_c2]
  cases hd : dErr a b c d e f != 0
  · cases hb : bErr g h i j != 0
    · simp only [hd, hb, Bool.false_or] at hx
      rw [hx]; rfl
    · rfl
  · rfl
theorem b8_ok (hd : (dErr a b c d e f != 0) = false) (hb : (bErr g h i j != 0) = false) (hw : (wErr w != 0) = false) : f104_r8 a b c d e f g h i j w = f40_r2 a b c d e f g h i j w := by
  simp only [f104_r8, f104_c0, f104_c1, f104_c2, f104_c3, hd, hb, hw, cond_false]
  by_cases h0 : h = 0
  · subst h0
    simp only [show (!(0 : Int) != 0) = true from rfl, cond_true, f144_r2, f144_r3, f144_r4, f144_r5, f144_r6, f144_r7, f144_r8, f144_r9, f144_r14, f144_r15, f144_r16, f144_r17, f150_r2, f150_r3, f150_r4, f150_r5, f150_r6, f150_r7, f150_r8, f150_r9, f150_r10, f150_r11, f150_r12, f150_r13, f150_r14, f150_r15, f150_r16, f150_r17, f151_r0, f151_r1, f177_r0, f177_r1, f149_r0, f149_r1, f38_r0, f38_r1, f38_r2, f38_r3, f39_r0, f39_r1, f39_r2, f39_r3, f40_r0, f40_r1, f40_r2, f40_r3, f40_r4, f40_r5, f40_r6, f40_r7, f40_c0, f108_r0, f108_r1, f108_r2, f108_r3, f108_r4, f108_r5, f108_r6, f108_r8, f108_r9, f108_c0, f152_r0, f152_r1, f82_r0, f82_r1, f91_r0, f91_r1, beq_self_eq_true, wAdd_l, wAdd_r, wSub_l, wSub_r, wMul_l, wMul_r, wWrap]
    try (congr 1; grind)
  · have h1 : (h == 0) = false := by simpa using h0
    have h2 : (!h != 0) = false := by simpa using h0
    simp only [h1, h2, cond_false, f150_r2, f150_r3, f150_r4, f150_r5, f150_r6, f150_r7, f150_r8, f150_r9, f150_r10, f150_r11, f150_r12, f150_r13, f150_r14, f150_r15, f150_r16, f150_r17, f151_r0, f151_r1, f177_r0, f177_r1, f149_r0, f149_r1, f38_r0, f38_r1, f38_r2, f38_r3, f39_r0, f39_r1, f39_r2, f39_r3, f40_r0, f40_r1, f40_r2, f40_r3, f40_r4, f40_r5, f40_r6, f40_r7, f40_c0, f108_r0, f108_r1, f108_r2, f108_r3, f108_r4, f108_r5, f108_r6, f108_r8, f108_r9, f108_c0, f152_r0, f152_r1, f82_r0, f82_r1, f91_r0, f91_r1, wAdd_l, wAdd_r, wSub_l, wSub_r, wMul_l, wMul_r, wWrap]
    try (congr 1; grind)
theorem b8_no (hx : (dErr a b c d e f != 0 || (bErr g h i j != 0 || wErr w != 0)) = true) : f104_r8 a b c d e f g h i j w = 0 := by
  simp only [f104_r8, f104_c0, f104_c1, f104_c2]
  cases hd : dErr a b c d e f != 0
  · cases hb : bErr g h i j != 0
    · simp only [hd, hb, Bool.false_or] at hx
      rw [hx]; rfl
    · rfl
  · rfl
theorem b9_ok (hd : (dErr a b c d e f != 0) = false) (hb : (bErr g h i j != 0) = false) (hw : (wErr w != 0) = false) : f104_r9 a b c d e f g h i j w = f40_r3 a b c d e f g h i j w := by
  simp only [f104_r9, f104_c0, f104_c1, f104_c2, f104_c3, hd, hb, hw, cond_false]
  by_cases h0 : h = 0
  · subst h0
    simp only [show (!(0 : Int) != 0) = true from rfl, cond_true, f144_r2, f144_r3, f144_r4, f144_r5, f144_r6, f144_r7, f144_r8, f144_r9, f144_r14, f144_r15, f144_r16, f144_r17, f150_r2, f150_r3, f150_r4, f150_r5, f150_r6, f150_r7, f150_r8, f150_r9, f150_r10, f150_r11, f150_r12, f150_r13, f150_r14, f150_r15, f150_r16, f150_r17, f151_r0, f151_r1, f177_r0, f177_r1, f149_r0, f149_r1, f38_r0, f38_r1, f38_r2, f38_r3, f39_r0, f39_r1, f39_r2, f39_r3, f40_r0, f40_r1, f40_r2, f40_r3, f40_r4, f40_r5, f40_r6, f40_r7, f40_c0, f108_r0, f108_r1, f108_r2, f108_r3, f108_r4, f108_r5, f108_r6, f108_r8, f108_r9, f108_c0, f152_r0, f152_r1, f82_r0, f82_r1, f91_r0, f91_r1, beq_self_eq_true, wAdd_l, wAdd_r, wSub_l, wSub_r, wMul_l, wMul_r, wWrap]
    try (congr 1; grind)
  · have h1 : (h == 0) = false := by simpa using h0
    have h2 : (!h != 0) = false := by simpa using h0
    simp only [h1, h2, cond_false, f150_r2, f150_r3, f150_r4, f150_r5, f150_r6, f150_r7, f150_r8, f150_r9, f150_r10, f150_r11, f150_r12, f150_r13, f150_r14, f150_r15, f150_r16, f150_r17, f151_r0, f151_r1, f177_r0, f177_r1, f149_r0, f149_r1, f38_r0, f38_r1, f38_r2, f38_r3, f39_r0, f39_r1, f39_r2, f39_r3, f40_r0, f40_r1, f40_r2, f40_r3, f40_r4, f40_r5, f40_r6, f40_r7, f40_c0, f108_r0, f108_r1, f108_r2, f108_r3, f108_r4, f108_r5, f108_r6, f108_r8, f108_r9, f108_c0, f152_r0, f152_r1, f82_r0, f82_r1, f91_r0, f91_r1, wAdd_l, wAdd_r, wSub_l, wSub_r, wMul_l, wMul_r, wWrap]
    try (congr 1; grind)
theorem b9_no (hx : (dErr a b c d e f != 0 || (bErr g h i j != 0 || wErr w != 0)) = true) : f104_r9 a b c d e f g h i j w = 0 := by
  simp only [f104_r9, f104_c0, f104_c1, f104_c2]
  cases hd : dErr a b c d e f != 0
  · cases hb : bErr g h i j != 0
    · simp only [hd, hb, Bool.false_or] at hx
      rw [hx]; rfl
    · rfl
  · rfl
theorem b10_ok (hd : (dErr a b c d e f != 0) = false) (hb : (bErr g h i j != 0) = false) (hw : (wErr w != 0) = false) : f104_r10 a b c d e f g h i j w = f40_r4 a b c d e f g h i j w := by
  simp only [f104_r10, f104_c0, f104_c1, f104_c2, f104_c3, hd, hb, hw, cond_false]
  by_cases h0 : h = 0
  · subst h0
    simp only [show (!(0 : Int) != 0) = true from rfl, cond_true, f144_r2, f144_r3, f144_r4, f144_r5, f144_r6, f144_r7, f144_r8, f144_r9, f144_r14, f144_r15, f144_r16, f144_r17, f150_r2, f150_r3, f150_r4, f150_r5, f150_r6, f150_r7, f150_r8, f150_r9, f150_r10, f150_r11, f150_r12, f150_r13, f150_r14, f150_r15, f150_r16, f150_r17, f151_r0, f151_r1, f177_r0, f177_r1, f149_r0, f149_r1, f38_r0, f38_r1, f38_r2, f38_r3, f39_r0, f39_r1, f39_r2, f39_r3, f40_r0, f40_r1, f40_r2, f40_r3, f40_r4, f40_r5, f40_r6, f40_r7, f40_c0, f108_r0, f108_r1, f108_r2, f108_r3, f108_r4, f108_r5, f108_r6, f108_r8, f108_r9, f108_c0, f152_r0, f152_r1, f82_r0, f82_r1, f91_r0, f91_r1, beq_self_eq_true, wAdd_l, wAdd_r, wSub_l, wSub_r, wMul_l, wMul_r, wWrap]
    try (congr 1; grind)
  · have h1 : (h == 0) = false := by simpa using h0
    have h2 : (!h != 0) = false := by simpa using h0
    simp only [h1, h2, cond_false, f150_r2, f150_r3, f150_r4, f150_r5, f150_r6, f150_r7, f150_r8, f150_r9, f150_r10, f150_r11, f150_r12, f150_r13, f150_r14, f150_r15, f150_r16, f150_r17, f151_r0, f151_r1, f177_r0, f177_r1, f149_r0, f149_r1, f38_r0, f38_r1, f38_r2, f38_r3, f39_r0, f39_r1, f39_r2, f39_r3, f40_r0, f40_r1, f40_r2, f40_r3, f40_r4, f40_r5, f40_r6, f40_r7, f40_c0, f108_r0, f108_r1, f108_r2, f108_r3, f108_r4, f108_r5, f108_r6, f108_r8, f108_r9, f108_c0, f152_r0, f152_r1, f82_r0, f82_r1, f91_r0, f91_r1, wAdd_l, wAdd_r, wSub_l, wSub_r, wMul_l, wMul_r, wWrap]
    try (congr 1; grind)
theorem b10_no (hx : (dErr a b c d e f != 0 || (bErr g h i j != 0 || wErr w != 0)) = true) : f104_r10 a b c d e f g h i j w = 0 := by
  simp only [f104_r10, f104_c0, f104_c1, f104_c2]
  cases hd : dErr a b c d e f != 0
  · cases hb : bErr g h i j != 0
    · simp only [hd, hb, Bool.false_or] at hx
      rw [hx]; rfl
    · rfl
  · rfl
theorem b11_ok (hd : (dErr a b c d e f != 0) = false) (hb : (bErr g h i j != 0) = false) (hw : (wErr w != 0) = false) : f104_r11 a b c d e f g h i j w = f40_r5 a b c d e f g h i j w := by
  simp only [f104_r11, f104_c0, f104_c1, f104_c2, f104_c3, hd, hb, hw, cond_false]
  by_cases h0 : h = 0
  · subst h0
    simp only [show (!(0 : Int) != 0) = true from rfl, cond_true, f144_r2, f144_r3, f144_r4, f144_r5, f144_r6, f144_r7, f144_r8, f144_r9, f144_r14, f144_r15, f144_r16, f144_r17, f150_r2, f150_r3, f150_r4, f150_r5, f150_r6, f150_r7, f150_r8, f150_r9, f150_r10, f150_r11, f150_r12, f150_r13, f150_r14, f150_r15, f150_r16, f150_r17, f151_r0, f151_r1, f177_r0, f177_r1, f149_r0, f149_r1, f38_r0, f38_r1, f38_r2, f38_r3, f39_r0, f39_r1, f39_r2, f39_r3, f40_r0, f40_r1, f40_r2, f40_r3, f40_r4, f40_r5, f40_r6, f40_r7, f40_c0, f108_r0, f108_r1, f108_r2, f108_r3, f108_r4, f108_r5, f108_r6, f108_r8, f108_r9, f108_c0, f152_r0, f152_r1, f82_r0, f82_r1, f91_r0, f91_r1, beq_self_eq_true, wAdd_l, wAdd_r, wSub_l, wSub_r, wMul_l, wMul_r, wWrap]
    try (congr 1; grind)
  · have h1 : (h == 0) = false := by simpa using h0
    have h2 : (!h != 0) = false := by simpa using h0
    simp only [h1, h2, cond_false, f150_r2, f150_r3, f150_r4, f150_r5, f150_r6, f150_r7, f150_r8, f150_r9, f150_r10, f150_r11, f150_r12, f150_r13, f150_r14, f150_r15, f150_r16, f150_r17, f151_r0, f151_r1, f177_r0, f177_r1, f149_r0, f149_r1, f38_r0, f38_r1, f38_r2, f38_r3, f39_r0, f39_r1, f39_r2, f39_r3, f40_r0, f40_r1, f40_r2, f40_r3, f40_r4, f40_r5, f40_r6, f40_r7, f40_c0, f108_r0, f108_r1, f108_r2, f108_r3, f108_r4, f108_r5, f108_r6, f108_r8, f108_r9, f108_c0, f152_r0, f152_r1, f82_r0, f82_r1, f91_r0, f91_r1, wAdd_l, wAdd_r, wSub_l, wSub_r, wMul_l, wMul_r, wWrap]
    try (congr 1; grind)
theorem b11_no (hx : (dErr a b c d e f != 0 || (bErr g h i j != 0 || wErr w != 0)) = true) : f104_r11 a b c d e f g h i j w = 0 := by
  simp only [f104_r11, f104_c0, f104_c1, f104_c2]
  cases hd : dErr a b c d e f != 0
  · cases hb : bErr g h i j != 0
    · simp only [hd, hb, Bool.false_or] at hx
      rw [hx]; rfl
    · rfl
  · rfl
theorem b12_ok (hd : (dErr a b c d e f != 0) = false) (hb : (bErr g h i j != 0) = false) (hw : (wErr w != 0) = false) : f104_r12 a b c d e f g h i j w = f40_r6 a b c d e f g h i j w := by
  simp only [f104_r12, f104_c0, f104_c1, f104_c2, f104_c3, hd, hb, hw, cond_false]
  by_cases h0 : h = 0
  · subst h0
    simp only [show (!(0 : Int) != 0) = true from rfl, cond_true, f144_r2, f144_r3, f144_r4, f144_r5, f144_r6, f144_r7, f144_r8, f144_r9, f144_r14, f144_r15, f144_r16, f144_r17, f150_r2, f150_r3, f150_r4, f150_r5, f150_r6, f150_r7, f150_r8, f150_r9, f150_r10, f150_r11, f150_r12, f150_r13, f150_r14, f150_r15, f150_r16, f150_r17, f151_r0, f151_r1, f177_r0, f177_r1, f149_r0, f149_r1, f38_r0, f38_r1, f38_r2, f38_r3, f39_r0, f39_r1, f39_r2, f39_r3, f40_r0, f40_r1, f40_r2, f40_r3, f40_r4, f40_r5, f40_r6, f40_r7, f40_c0, f108_r0, f108_r1, f108_r2, f108_r3, f108_r4, f108_r5, f108_r6, f108_r8, f108_r9, f108_c0, f152_r0, f152_r1, f82_r0, f82_r1, f91_r0, f91_r1, beq_self_eq_true, wAdd_l, wAdd_r, wSub_l, wSub_r, wMul_l, wMul_r, wWrap]
    try (congr 1; grind)
  · have h1 : (h == 0) = false := by simpa using h0
    have h2 : (!h != 0) = false := by simpa using h0
    simp only [h1, h2, cond_false, f150_r2, f150_r3, f150_r4, f150_r5, f150_r6, f150_r7, f150_r8, f150_r9, f150_r10, f150_r11, f150_r12, f150_r13, f150_r14, f150_r15, f150_r16, f150_r17, f151_r0, f151_r1, f177_r0, f177_r1, f149_r0, f149_r1, f38_r0, f38_r1, f38_r2, f38_r3, f39_r0, f39_r1, f39_r2, f39_r3, f40_r0, f40_r1, f40_r2, f40_r3, f40_r4, f40_r5, f40_r6, f40_r7, f40_c0, f108_r0, f108_r1, f108_r2, f108_r3, f108_r4, f108_r5, f108_r6, f108_r8, f108_r9, f108_c0, f152_r0, f152_r1, f82_r0, f82_r1, f91_r0, f91_r1, wAdd_l, wAdd_r, wSub_l, wSub_r, wMul_l, wMul_r, wWrap]
    try (congr 1; grind)
theorem b12_no (hx : (dErr a b c d e f != 0 || (bErr g h i j != 0 || wErr w != 0)) = true) : f104_r12 a b c d e f g h i j w = 0 := by
  simp only [f104_r12, f104_c0, f104_c1, f104_c2]
  cases hd : dErr a b c d e f != 0
  · cases hb : bErr g h i j != 0
    · simp only [hd, hb, Bool.false_or] at hx
      rw [hx]; rfl
    · rfl
  · rfl
theorem b13_ok (hd : (dErr a b c d e f != 0) = false) (hb : (bErr g h i j != 0) = false) (hw : (wErr w != 0) = false) : f104_r13 a b c d e f g h i j w = f40_r7 a b c d e f g h i j w := by
  simp only [f104_r13, f104_c0, f104_c1, f104_c2, f104_c3, hd, hb, hw, cond_false]
  by_cases h0 : h = 0
  · subst h0
    simp only [show (!(0 : Int) != 0) = true from rfl, cond_true, f144_r2, f144_r3, f144_r4, f144_r5, f144_r6, f144_r7, f144_r8, f144_r9, f144_r14, f144_r15, f144_r16, f144_r17, f150_r2, f150_r3, f150_r4, f150_r5, f150_r6, f150_r7, f150_r8, f150_r9, f150_r10, f150_r11, f150_r12, f150_r13, f150_r14, f150_r15, f150_r16, f150_r17, f151_r0, f151_r1, f177_r0, f177_r1, f149_r0, f149_r1, f38_r0, f38_r1, f38_r2, f38_r3, f39_r0, f39_r1, f39_r2, f39_r3, f40_r0, f40_r1, f40_r2, f40_r3, f40_r4, f40_r5, f40_r6, f40_r7, f40_c0, f108_r0, f108_r1, f108_r2, f108_r3, f108_r4, f108_r5, f108_r6, f108_r8, f108_r9, f108_c0, f152_r0, f152_r1, f82_r0, f82_r1, f91_r0, f91_r1, beq_self_eq_true, wAdd_l, wAdd_r, wSub_l, wSub_r, wMul_l, wMul_r, wWrap]
    try (congr 1; grind)
  · have h1 : (h == 0) = false := by simpa using h0
    have h2 : (!h != 0) = false := by simpa using h0
    simp only [h1, h2, cond_false, f150_r2, f150_r3, f150_r4, f150_r5, f150_r6, f150_r7, f150_r8, f150_r9, f150_r10, f150_r11, f150_r12, f150_r13, f150_r14, f150_r15, f150_r16, f150_r17, f151_r0, f151_r1, f177_r0, f177_r1, f149_r0, f149_r1, f38_r0, f38_r1, f38_r2, f38_r3, f39_r0, f39_r1, f39_r2, f39_r3, f40_r0, f40_r1, f40_r2, f40_r3, f40_r4, f40_r5, f40_r6, f40_r7, f40_c0, f108_r0, f108_r1, f108_r2, f108_r3, f108_r4, f108_r5, f108_r6, f108_r8, f108_r9, f108_c0, f152_r0, f152_r1, f82_r0, f82_r1, f91_r0, f91_r1, wAdd_l, wAdd_r, wSub_l, wSub_r, wMul_l, wMul_r, wWrap]
    try (congr 1; grind)
theorem b13_no (hx : (dErr a b c d e f != 0 || (bErr g h i j != 0 || wErr w != 0)) = true) : f104_r13 a b c d e f g h i j w = 0 := by
  simp only [f104_r13, f104_c0, f104_c1, f104_c2]
  cases hd : dErr a b c d e f != 0
  · cases hb : bErr g h i j != 0
    · simp only [hd, hb, Bool.false_or] at hx
      rw [hx]; rfl
    · rfl
  · rfl
end
theorem q43_same (n d e : Int) (h : (e != 0) = true → n = 0 ∧ d = 0) : f43_r0 n d e e n d = true := by
  cases he : e != 0
  · have h0 : e = 0 := by simpa using he
    subst h0
    simp [f43_r0, f43_c0, f43_c1, f43_c3]
  · obtain ⟨rfl, rfl⟩ := h he
    simp only [f43_r0, f43_c0, f43_c1, f43_c2, he, beq_self_eq_true, cond_true, Bool.and_true]
theorem q28_bad' (e : Int) (h : (e != 0) = true) : f28_r0 0 0 0 0 e e 0 0 0 0 = true := by
  simp only [f28_r0, f28_c0, f28_c1, f28_c2, f28_c3, h, beq_self_eq_true, cond_true, Bool.and_true]
theorem q28_ok' (a b c d : Int) : f28_r0 a b c d 0 0 a b c d = true := by
  simp [f28_r0, f28_c0, f28_c1, f28_c2, f28_c3]
theorem tu_zero (g h i j : Int) (he : (tuE g h i j != 0) = true) : tuN g h i j = 0 ∧ tuD g h i j = 0 := by
  unfold tuE at he
  unfold tuN tuD
  cases hb : bErr g h i j != 0
  · rw [hb] at he
    cases h0 : h == 0
    · rw [h0] at he; cases he
    · exact ⟨rfl, rfl⟩
  · exact ⟨rfl, rfl⟩
theorem tu_bad (g h i j : Int) (hb : (bErr g h i j != 0) = true) : f43_r0 (tuN g h i j) (tuD g h i j) (tuE g h i j) (bErr g h i j) 0 0 = true := by
  have h1 : tuN g h i j = 0 := by unfold tuN; rw [hb]; rfl
  have h2 : tuD g h i j = 0 := by unfold tuD; rw [hb]; rfl
  have h3 : tuE g h i j = bErr g h i j := by unfold tuE; rw [hb]; rfl
  rw [h1, h2, h3]
  exact q43_same 0 0 _ fun _ => ⟨rfl, rfl⟩
theorem neB {x : Int} (h : (x != 0) = true) : (x == 0) = false := by simpa using h
theorem eqB {x : Int} (h : (x != 0) = false) : (x == 0) = true := by simpa using h
/-- DriverBoxes gives true. -/
theorem bn_law (a b c d e f g h i j w : Int) : Gives Tryz.prog envT 0 5 [.agg #[.int .i64 a, .int .i64 b, .int .i64 c, .int .i64 d, .int .i64 e, .int .i64 f], .agg #[.int .i64 g, .int .i64 h, .int .i64 i, .int .i64 j], .int .i64 w] heap0 (.bool true, heap0) := by
  cases hd : dErr a b c d e f != 0
  · cases hb : bErr g h i j != 0
    · cases hw : wErr w != 0
      · skip
        have key := bnE_p0 a b c d e f g h i j w hd (eqB hd) hb (eqB hb) hw (eqB hw) (u41 hb)
        have e18 : f104_r18 a b c d e f g h i j w = 0 := by simp only [f104_r18, f104_c0, f104_c1, f104_c2, hd, hb, hw, cond_true, cond_false]
        simp only [bnE_c0, bnE_c1, bnE_c2, bnE_c3, bnE_c4, f33_r0, f33_r1, f33_r2, f33_r3, f33_r4, f34_r0, f34_r1, f34_r2, f34_r3, f34_r4, f35_r0, f35_r1, f35_r2, f35_r3, f35_r4, f35_r5, f35_r6, f35_r7, f35_r8, b2_ok a b c d e f g h i j w hd hb hw, b3_ok a b c d e f g h i j w hd hb hw, b4_ok a b c d e f g h i j w hd hb hw, b5_ok a b c d e f g h i j w hd hb hw, b14_ok a b c d e f g h i j w hd hb hw, b15_ok a b c d e f g h i j w hd hb hw, b16_ok a b c d e f g h i j w hd hb hw, b17_ok a b c d e f g h i j w hd hb hw, b6_ok a b c d e f g h i j w hd hb hw, b7_ok a b c d e f g h i j w hd hb hw, b8_ok a b c d e f g h i j w hd hb hw, b9_ok a b c d e f g h i j w hd hb hw, b10_ok a b c d e f g h i j w hd hb hw, b11_ok a b c d e f g h i j w hd hb hw, b12_ok a b c d e f g h i j w hd hb hw, b13_ok a b c d e f g h i j w hd hb hw, e18, q28_ok', beq_self_eq_true] at key
        rw [q43_same _ _ _ (tu_zero g h i j)] at key
        exact key trivial trivial trivial trivial trivial
      · have hx : (dErr a b c d e f != 0 || (bErr g h i j != 0 || wErr w != 0)) = true := by rw [hw]; simp
        have key := bnD_p0 a b c d e f g h i j w hd (eqB hd) hb (eqB hb) hw (neB hw) (u41 hb)
        have e18 : f104_r18 a b c d e f g h i j w = wErr w := by simp only [f104_r18, f104_c0, f104_c1, f104_c2, hd, hb, hw, cond_true, cond_false]
        simp only [bnD_c0, bnD_c1, bnD_c2, bnD_c3, bnD_c4, f33_r0, f33_r1, f33_r2, f33_r3, f33_r4, f34_r0, f34_r1, f34_r2, f34_r3, f34_r4, f35_r0, f35_r1, f35_r2, f35_r3, f35_r4, f35_r5, f35_r6, f35_r7, f35_r8, b2_no a b c d e f g h i j w hx, b3_no a b c d e f g h i j w hx, b4_no a b c d e f g h i j w hx, b5_no a b c d e f g h i j w hx, b14_no a b c d e f g h i j w hx, b15_no a b c d e f g h i j w hx, b16_no a b c d e f g h i j w hx, b17_no a b c d e f g h i j w hx, b6_no a b c d e f g h i j w hx, b7_no a b c d e f g h i j w hx, b8_no a b c d e f g h i j w hx, b9_no a b c d e f g h i j w hx, b10_no a b c d e f g h i j w hx, b11_no a b c d e f g h i j w hx, b12_no a b c d e f g h i j w hx, b13_no a b c d e f g h i j w hx, e18, q28_bad' _ hw, beq_self_eq_true] at key
        rw [q43_same _ _ _ (tu_zero g h i j)] at key
        exact key trivial trivial trivial trivial trivial
    · have hx : (dErr a b c d e f != 0 || (bErr g h i j != 0 || wErr w != 0)) = true := by rw [hb]; simp
      have key := bnC_p0 a b c d e f g h i j w hd (eqB hd) hb (neB hb)
      have e18 : f104_r18 a b c d e f g h i j w = bErr g h i j := by simp only [f104_r18, f104_c0, f104_c1, f104_c2, hd, hb, cond_true, cond_false]
      simp only [bnC_c0, bnC_c1, bnC_c2, bnC_c3, bnC_c4, f33_r0, f33_r1, f33_r2, f33_r3, f33_r4, f34_r0, f34_r1, f34_r2, f34_r3, f34_r4, f35_r0, f35_r1, f35_r2, f35_r3, f35_r4, f35_r5, f35_r6, f35_r7, f35_r8, b2_no a b c d e f g h i j w hx, b3_no a b c d e f g h i j w hx, b4_no a b c d e f g h i j w hx, b5_no a b c d e f g h i j w hx, b14_no a b c d e f g h i j w hx, b15_no a b c d e f g h i j w hx, b16_no a b c d e f g h i j w hx, b17_no a b c d e f g h i j w hx, b6_no a b c d e f g h i j w hx, b7_no a b c d e f g h i j w hx, b8_no a b c d e f g h i j w hx, b9_no a b c d e f g h i j w hx, b10_no a b c d e f g h i j w hx, b11_no a b c d e f g h i j w hx, b12_no a b c d e f g h i j w hx, b13_no a b c d e f g h i j w hx, e18, q28_bad' _ hb, beq_self_eq_true] at key
      rw [tu_bad g h i j hb] at key
      exact key trivial trivial trivial trivial trivial
  · have hx : (dErr a b c d e f != 0 || (bErr g h i j != 0 || wErr w != 0)) = true := by rw [hd]; rfl
    cases hb : bErr g h i j != 0
    · skip
      have key := bnB_p0 a b c d e f g h i j w hd (neB hd) hb (eqB hb) (u41 hb)
      have e18 : f104_r18 a b c d e f g h i j w = dErr a b c d e f := by simp only [f104_r18, f104_c0, f104_c1, f104_c2, hd, cond_true, cond_false]
      simp only [bnB_c0, bnB_c1, bnB_c2, bnB_c3, bnB_c4, f33_r0, f33_r1, f33_r2, f33_r3, f33_r4, f34_r0, f34_r1, f34_r2, f34_r3, f34_r4, f35_r0, f35_r1, f35_r2, f35_r3, f35_r4, f35_r5, f35_r6, f35_r7, f35_r8, b2_no a b c d e f g h i j w hx, b3_no a b c d e f g h i j w hx, b4_no a b c d e f g h i j w hx, b5_no a b c d e f g h i j w hx, b14_no a b c d e f g h i j w hx, b15_no a b c d e f g h i j w hx, b16_no a b c d e f g h i j w hx, b17_no a b c d e f g h i j w hx, b6_no a b c d e f g h i j w hx, b7_no a b c d e f g h i j w hx, b8_no a b c d e f g h i j w hx, b9_no a b c d e f g h i j w hx, b10_no a b c d e f g h i j w hx, b11_no a b c d e f g h i j w hx, b12_no a b c d e f g h i j w hx, b13_no a b c d e f g h i j w hx, e18, q28_bad' _ hd, beq_self_eq_true] at key
      rw [q43_same _ _ _ (tu_zero g h i j)] at key
      exact key trivial trivial trivial trivial trivial
    · skip
      have key := bnA_p0 a b c d e f g h i j w hd (neB hd) hb (neB hb)
      have e18 : f104_r18 a b c d e f g h i j w = dErr a b c d e f := by simp only [f104_r18, f104_c0, f104_c1, f104_c2, hd, cond_true, cond_false]
      simp only [bnA_c0, bnA_c1, bnA_c2, bnA_c3, bnA_c4, f33_r0, f33_r1, f33_r2, f33_r3, f33_r4, f34_r0, f34_r1, f34_r2, f34_r3, f34_r4, f35_r0, f35_r1, f35_r2, f35_r3, f35_r4, f35_r5, f35_r6, f35_r7, f35_r8, b2_no a b c d e f g h i j w hx, b3_no a b c d e f g h i j w hx, b4_no a b c d e f g h i j w hx, b5_no a b c d e f g h i j w hx, b14_no a b c d e f g h i j w hx, b15_no a b c d e f g h i j w hx, b16_no a b c d e f g h i j w hx, b17_no a b c d e f g h i j w hx, b6_no a b c d e f g h i j w hx, b7_no a b c d e f g h i j w hx, b8_no a b c d e f g h i j w hx, b9_no a b c d e f g h i j w hx, b10_no a b c d e f g h i j w hx, b11_no a b c d e f g h i j w hx, b12_no a b c d e f g h i j w hx, b13_no a b c d e f g h i j w hx, e18, q28_bad' _ hd, beq_self_eq_true] at key
      rw [tu_bad g h i j hb] at key
      exact key trivial trivial trivial trivial trivial
end Go.Proofs.YtkndhhnjgpialaaGreatDoor
/-
DriverBoxes: from the rows to the statement.
-/
namespace Go.Proofs.YtkndhhnjgpialaaGreatDoor.driverBoxes
open Go Go.Abs Go.ChangeShapes Go.WideShapes Go.ChangeAt Go.RowKit

theorem own : ownKnob Tryz.prog.godebug = none := by kernel_rfl
theorem heap0_eq : heap0 = tabRows Tryz.prog Rows.driverBoxesRow.laid 9 := by kernel_rfl
theorem still0 : noOwn heap0 = true := by kernel_rfl
section
variable {H : Type} {enc : TypeId × Value → H} {w : World} {base : Nat} {sp : Nat → Bool} {hd : Bool}
set_option maxRecDepth 100000 in
theorem arg23 {r : Reach} {b0 : Nat} {v : Value} {d : DataW H} {p : List MemPlace} (hv : Value.okWide Tryz.prog w r b0 23 v) (h : DataW.Trod enc Tryz.prog w base sp hd 23 v d p) :
    p = [] ∧ ∃ a0 a1 a2 a3 a4 a5 : Int, v = .agg #[.int .i64 a0, .int .i64 a1, .int .i64 a2, .int .i64 a3, .int .i64 a4, .int .i64 a5] := by
  obtain ⟨fuel, h⟩ := h
  simp only [Value.okWide, Tryz.underlying23] at hv
  obtain ⟨cs, rfl, _, _⟩ := hv
  obtain ⟨hi, hp⟩ := flat_of 9 23 [.i64, .i64, .i64, .i64, .i64, .i64] fuel _ _ (by kernel_rfl) h
  refine ⟨hp, ?_⟩
  simp only [Value.cells] at hi
  obtain ⟨a0, l0, e0, _, hi⟩ := hi.inv
  obtain ⟨a1, l1, e1, _, hi⟩ := hi.inv
  obtain ⟨a2, l2, e2, _, hi⟩ := hi.inv
  obtain ⟨a3, l3, e3, _, hi⟩ := hi.inv
  obtain ⟨a4, l4, e4, _, hi⟩ := hi.inv
  obtain ⟨a5, l5, e5, _, hi⟩ := hi.inv
  have ee := hi.end
  refine ⟨a0, a1, a2, a3, a4, a5, ?_⟩
  rw [← Array.toList_inj.1 (show cs.toList = (#[.int .i64 a0, .int .i64 a1, .int .i64 a2, .int .i64 a3, .int .i64 a4, .int .i64 a5] : Array Value).toList from by rw [e0, e1, e2, e3, e4, e5, ee])]
set_option maxRecDepth 100000 in
theorem arg54 {r : Reach} {b0 : Nat} {v : Value} {d : DataW H} {p : List MemPlace} (hv : Value.okWide Tryz.prog w r b0 54 v) (h : DataW.Trod enc Tryz.prog w base sp hd 54 v d p) :
    p = [] ∧ ∃ a0 a1 a2 a3 : Int, v = .agg #[.int .i64 a0, .int .i64 a1, .int .i64 a2, .int .i64 a3] := by
  obtain ⟨fuel, h⟩ := h
  simp only [Value.okWide, Tryz.underlying54] at hv
  obtain ⟨cs, rfl, _, _⟩ := hv
  obtain ⟨hi, hp⟩ := flat_of 9 54 [.i64, .i64, .i64, .i64] fuel _ _ (by kernel_rfl) h
  refine ⟨hp, ?_⟩
  simp only [Value.cells] at hi
  obtain ⟨a0, l0, e0, _, hi⟩ := hi.inv
  obtain ⟨a1, l1, e1, _, hi⟩ := hi.inv
  obtain ⟨a2, l2, e2, _, hi⟩ := hi.inv
  obtain ⟨a3, l3, e3, _, hi⟩ := hi.inv
  have ee := hi.end
  refine ⟨a0, a1, a2, a3, ?_⟩
  rw [← Array.toList_inj.1 (show cs.toList = (#[.int .i64 a0, .int .i64 a1, .int .i64 a2, .int .i64 a3] : Array Value).toList from by rw [e0, e1, e2, e3, ee])]
end

theorem calls (x0 x1 x2 x3 x4 x5 x6 x7 x8 x9 x10 : Int) (W : World) (hL : laidMetH Tryz.prog Rows.driverBoxesRow.laid W) :
    Calls Tryz.prog 5 #[.agg #[.int .i64 x0, .int .i64 x1, .int .i64 x2, .int .i64 x3, .int .i64 x4, .int .i64 x5], .agg #[.int .i64 x6, .int .i64 x7, .int .i64 x8, .int .i64 x9], .int .i64 x10] W fun e w' =>
      e = .returned (.bool true) ∧ (w'.os = W.os ∧ w'.output = W.output) ∧ ∀ b, b < W.heap.size → w'.heap[b]? = W.heap[b]? := by
  obtain ⟨n, hn⟩ := bn_law x0 x1 x2 x3 x4 x5 x6 x7 x8 x9 x10
  have hl : laidMet Tryz.prog Rows.driverBoxesRow.laid W := by rw [← MakeChecks.laidMetH_plain _ _ _ (by kernel_rfl)]; exact hL
  have hR : Rel Tryz.prog (tabLoc 9) heap0 W := by rw [heap0_eq]; exact tabRows_rel hl
  have hb : ∃ cd, Tryz.f5.body = some cd := ⟨_, rfl⟩
  obtain ⟨cd, hb⟩ := hb
  have hargs : VRs (tabLoc 9) [.agg #[.int .i64 x0, .int .i64 x1, .int .i64 x2, .int .i64 x3, .int .i64 x4, .int .i64 x5], .agg #[.int .i64 x6, .int .i64 x7, .int .i64 x8, .int .i64 x9], .int .i64 x10] [.agg #[.int .i64 x0, .int .i64 x1, .int .i64 x2, .int .i64 x3, .int .i64 x4, .int .i64 x5], .agg #[.int .i64 x6, .int .i64 x7, .int .i64 x8, .int .i64 x9], .int .i64 x10] := VRs.cons (VR.refl _ rfl) (VRs.cons (VR.refl _ rfl) (VRs.cons (VR.refl _ rfl) (VRs.nil _)))
  refine (calls_of (call_sound prog_ok envT_ok n) prog_ok Tryz.func5 hb hn hargs (tabLoc_globs 9) hR still0).mono ?_
  rintro e w' ⟨v', ρ', rfl, hv, _, hm, hs⟩
  rw [hv.atom_eq rfl]
  exact ⟨rfl, hm.out, hs⟩

theorem reads_ok : Reads Tryz.prog := ⟨by kernel_rfl, by kernel_rfl, by kernel_rfl⟩
theorem len_3 {α : Type} {l : List α} (h : l.length = 3) : ∃ y0 y1 y2 : α, l = [y0, y1, y2] := by
  match l, h with
  | [y0, y1, y2], _ => exact ⟨y0, y1, y2, rfl⟩

set_option maxRecDepth 100000 in
theorem contract (H : Type) (enc : TypeId × Value → H) (W : World) (base : Nat) (args : Array Value) (ds gs : List (DataW H)) (before : List MemPlace)
    (hval : ∀ (j : Nat) t v, Tryz.f5.params[j]? = some t → args[j]? = some v → Value.okWide Tryz.prog W .any base t v)
    (hW : DataW.Whole enc Tryz.prog Tryz.f5.params.toList Rows.driverBoxesSpec.vars false W args.toList ds gs before) (hL : laidMetH Tryz.prog Rows.driverBoxesRow.laid W) :
    Calls Tryz.prog 5 args W fun e W' => ∃ v, e = .returned v ∧ Rows.driverBoxesSpec.post enc Tryz.prog Tryz.f5 false true false false W args v W' := by
  have hW' := hW
  obtain ⟨p, q, hA, hV, rfl, hfz, hnd⟩ := hW
  have hA0 : DataW.TrodAll enc Tryz.prog W 0 (fun _ => true) true Tryz.f5.params.toList args.toList ds p := hA
  rw [Tryz.params5] at hA0 hval
  obtain ⟨v0, vs0, d0, ds0, p0, q0, hargs0, rfl, rfl, h0, r0⟩ := trodAll_cons hA0
  obtain ⟨v1, vs1, d1, ds1, p1, q1, hargs1, rfl, rfl, h1, r1⟩ := trodAll_cons r0
  obtain ⟨v2, vs2, d2, ds2, p2, q2, hargs2, rfl, rfl, h2, r2⟩ := trodAll_cons r1
  obtain ⟨rfl, rfl, rfl⟩ := trodAll_nil r2
  obtain rfl : args = #[v0, v1, v2] := by cases args; simp_all
  obtain ⟨_, x0, x1, x2, x3, x4, x5, rfl⟩ := arg23 (hval 0 23 v0 rfl rfl) h0
  obtain ⟨_, x6, x7, x8, x9, rfl⟩ := arg54 (hval 1 54 v1 rfl rfl) h1
  obtain ⟨x10, rfl, _, _, _⟩ := open_int Tryz.underlying3 (hval 2 3 v2 rfl rfl) h2
  refine (calls x0 x1 x2 x3 x4 x5 x6 x7 x8 x9 x10 W hL).mono fun e W' hr => ?_
  obtain ⟨rfl, ho, hb⟩ := hr
  refine ⟨_, rfl, law_post (bt := 4) reads_ok rfl (fun ds hl => ?_) (by kernel_rfl) Tryz.underlying4 (by kernel_rfl) hW' ho hb⟩
  rw [show Tryz.f5.params.size = 3 by kernel_rfl] at hl
  obtain ⟨y0, y1, y2, rfl⟩ := len_3 hl
  rfl
end Go.Proofs.YtkndhhnjgpialaaGreatDoor.driverBoxes
/-
DriverBoxes of the package wooferlaw03 returns true for every input, whatever the world: proved for all arguments, under the conditions that the row and its card name (the package-level tables as laid).
-/
namespace Go.Proofs.YtkndhhnjgpialaaGreatDoor.driverBoxes
open Go Go.Abs Go.ChangeShapes Go.WideShapes Go.ChangeAt Go.RowKit

/-- The settled world, the tables laid. -/
noncomputable def putTab (A : Heap) (w : World) : World :=
  { w with heap := ((List.range 9).foldl (fun h g => match hget A g with
      | some (.cells cs _ _) => h.modify g fun
        | .cells _ t frozen => .cells cs.toArray t frozen
        | o => o
      | _ => h) w.heap) }
noncomputable def laidWorld (os : Os) : World := putTab heap0 (World.holding Tryz.prog os ⟨#[], #[], []⟩)
theorem laid_met (os : Os) : laidMet Tryz.prog Rows.driverBoxesRow.laid ((laidWorld os).forCall (fun _ _ => 0) ⟨#[], #[.agg #[.int .i64 0, .int .i64 0, .int .i64 0, .int .i64 0, .int .i64 0, .int .i64 0], .agg #[.int .i64 0, .int .i64 0, .int .i64 0, .int .i64 0], .int .i64 0], []⟩).memory :=
  laidMet_of_run' 8 (by kernel_rfl) (by kernel_rfl)
theorem reads (os : Os) {H : Type} (enc : TypeId × Value → H) : ∃ places, DataW.whole enc Tryz.prog ((laidWorld os).forCall (fun _ _ => 0) ⟨#[], #[.agg #[.int .i64 0, .int .i64 0, .int .i64 0, .int .i64 0, .int .i64 0, .int .i64 0], .agg #[.int .i64 0, .int .i64 0, .int .i64 0, .int .i64 0], .int .i64 0], []⟩).memory Tryz.f5.params.toList Rows.driverBoxesSpec.vars false (#[.agg #[.int .i64 0, .int .i64 0, .int .i64 0, .int .i64 0, .int .i64 0, .int .i64 0], .agg #[.int .i64 0, .int .i64 0, .int .i64 0, .int .i64 0], .int .i64 0] : Array Value).toList 8 = some ([.agg [.lit (.int .i64 0), .lit (.int .i64 0), .lit (.int .i64 0), .lit (.int .i64 0), .lit (.int .i64 0), .lit (.int .i64 0)], .agg [.lit (.int .i64 0), .lit (.int .i64 0), .lit (.int .i64 0), .lit (.int .i64 0)], .lit (.int .i64 0)], [], places) :=
  ⟨[], by kernel_rfl⟩

set_option maxRecDepth 100000 in
theorem lifted (os : Os) (started : os.Started) (H : Type) (enc : TypeId × Value → H) (F : Stop.Interp) :
    ReturnsInHanded {} Tryz.checked os 5 .any ((OpenSpec.ofChange Rows.driverBoxesSpec).preRow enc Tryz.prog Tryz.f5 Rows.driverBoxesRow.domain false Rows.driverBoxesRow.laid) (((OpenSpec.ofChange Rows.driverBoxesSpec).at F).post enc Tryz.prog Tryz.f5 false true false false) := by
  obtain ⟨places, hx⟩ := reads os enc
  refine returnsInHanded_of_row (C := Tryz.checked) (s := OpenSpec.ofChange Rows.driverBoxesSpec) own started (by kernel_rfl) Tryz.func5
    (witness_row_at (enc := enc) (C := Tryz.checked) false (laidWorld os) #[.agg #[.int .i64 0, .int .i64 0, .int .i64 0, .int .i64 0, .int .i64 0, .int .i64 0], .agg #[.int .i64 0, .int .i64 0, .int .i64 0, .int .i64 0], .int .i64 0] rfl (by kernel_rfl) (by kernel_rfl) (by kernel_rfl)
      (OpenSpec.preRow_of_cond 8 hx (by kernel_rfl) (fun k hk => by cases hk) (by kernel_rfl) (laid_met os))) ?_
  intro W base args ds gs before hval hW _ _ _ hL _ _
  exact contract H enc W base args ds gs before hval hW hL

theorem said : Rows.DriverBoxesSaid :=
  OpenClaim.holds_of_cond 5 Tryz.f5 rfl rfl rfl rfl rfl rfl rfl ⟨rfl, rfl, rfl, rfl, rfl⟩ rfl rfl rfl rfl rfl (by kernel_rfl) Tryz.func5 (by kernel_rfl)
    (of_decide_eq_true (by kernel_rfl)) (by unfold Func.isWrapper; first | (rw [if_pos (by decide +kernel)]; kernel_rfl) | (rw [if_neg (by decide +kernel)]; exact ⟨rfl, rfl⟩))
    (fun os started H enc _ F => by rw [OpenClaim.pre_eq_preRow]; exact lifted os started H enc F)

theorem plain (f : FuncId) (fn : Func) (hf : Tryz.pinned.checked.prog.funcNamed "woofer/wooferlaw03.DriverBoxes" = some f) (hfn : Tryz.pinned.checked.prog.funcs[f]? = some fn) :
    true = Tryz.pinned.checked.prog.looks [] ∧ ∀ (j : Nat) t, fn.params[j]? = some t → Tryz.pinned.checked.prog.wantsStandIn t = false := by
  obtain rfl : f = 5 := Option.some.inj ((show Tryz.prog.funcNamed "woofer/wooferlaw03.DriverBoxes" = some 5 by kernel_rfl).symm.trans hf) |>.symm
  obtain rfl : fn = Tryz.f5 := (Option.some.inj (Tryz.func5.symm.trans hfn)).symm
  refine ⟨by kernel_rfl, fun j t ht => ?_⟩
  rw [Tryz.params5] at ht
  have hm := Array.mem_of_getElem? ht
  simp only [List.mem_toArray, List.mem_cons, List.not_mem_nil, or_false] at hm
  rcases hm with rfl | rfl | rfl
  · exact (show Tryz.prog.wantsStandIn 23 = false by kernel_rfl)
  · exact (show Tryz.prog.wantsStandIn 54 = false by kernel_rfl)
  · exact (show Tryz.prog.wantsStandIn 3 = false by kernel_rfl)

theorem card : Rows.DriverBoxesCardSaid :=
  Claim7.holds_tied_plain_at .later [] _ _ _ _ said (fun _ h => by cases h) (by kernel_rfl) (fun _ h => by cases h) driverBoxes_row_tie rfl ⟨rfl, rfl⟩ (by kernel_rfl) rfl plain (by kernel_rfl)
end Go.Proofs.YtkndhhnjgpialaaGreatDoor.driverBoxes
