/-
Joined: Sd, AwS, AwA, AwB, AwC, AwD, AwZ, Lx, Af, AbF, Ab29.
-/
import Derived.Test.YtfnmpdmfpfhjnaaDoorMb4
import Derived.OpenShut
import Derived.KernelRfl
import Derived.Test.YtfnmpdmfpfhjnaaDoorMb2
import Derived.Lib.LaidTab
import Derived.ReadAgain
import Derived.ChangeCalls
import Derived.RowKit
set_option linter.unusedVariables false
set_option linter.unusedSimpArgs false
set_option linter.unusedSectionVars false
/-
What functions give.
-/
namespace Go.Proofs.YtfnmpdmfpfhjnaaDoor
open Go Go.Abs
def de_c0 (a : Int) (b : Int) (c : Int) (d : Int) (e : Int) (s : Int) : Bool := cs_r0 a b c d e s != 0
def de_c1 (a : Int) (b : Int) (c : Int) (d : Int) (e : Int) (s : Int) : Bool := a == 0 && (b == 0 && (c == 0 && true))
def de_c2 (a : Int) (b : Int) (c : Int) (d : Int) (e : Int) (s : Int) : Bool := !(d == 0 && (e == 0 && true))
def de_c3 (a : Int) (b : Int) (c : Int) (d : Int) (e : Int) (s : Int) : Bool := a == c && (b == b && (c == a && true))
def de_c4 (a : Int) (b : Int) (c : Int) (d : Int) (e : Int) (s : Int) : Bool := a == b && (b == a && (c == 0 && true))
theorem de_p0 (a : Int) (b : Int) (c : Int) (d : Int) (e : Int) (s : Int) (h0 : de_c0 a b c d e s = true) : Gives Tryd.prog envSc 0 18 [(.agg #[(.int .i64 (a)), (.int .i64 (b)), (.int .i64 (c)), (.int .i64 (d)), (.int .i64 (e)), (.int .i64 (s))])] heapN ((.tuple #[(.agg #[(.int .i64 (0)), (.int .i64 (0))]), (.int .i64 (cs_r0 a b c d e s))]), heapN) :=
  Gives.by (n := 1000) (os := [.br 18 22 true]) (os' := []) (by kernel_rfl) (ObsOK.cond h0 (ObsOK.nil))
theorem de_p1 (a : Int) (b : Int) (c : Int) (d : Int) (e : Int) (s : Int) (h0 : de_c0 a b c d e s = false) (h1 : de_c1 a b c d e s = true) : Gives Tryd.prog envSc 0 18 [(.agg #[(.int .i64 (a)), (.int .i64 (b)), (.int .i64 (c)), (.int .i64 (d)), (.int .i64 (e)), (.int .i64 (s))])] heapN ((.tuple #[(.agg #[(.int .i64 (0)), (.int .i64 (0))]), (.int .i64 (7))]), heapN) :=
  Gives.by (n := 1000) (os := [.br 18 22 false, .br 18 46 true, .br 18 46 true, .br 18 46 true, .br 18 55 true]) (os' := []) (by kernel_rfl) (ObsOK.cond h0 (ObsOK.cond h1 (ObsOK.cond h1 (ObsOK.cond h1 (ObsOK.cond h1 (ObsOK.nil))))))
theorem de_p2 (a : Int) (b : Int) (c : Int) (d : Int) (e : Int) (s : Int) (h0 : de_c0 a b c d e s = false) (h1 : de_c1 a b c d e s = false) (h2 : de_c2 a b c d e s = true) : Gives Tryd.prog envSc 0 18 [(.agg #[(.int .i64 (a)), (.int .i64 (b)), (.int .i64 (c)), (.int .i64 (d)), (.int .i64 (e)), (.int .i64 (s))])] heapN ((.tuple #[(.agg #[(.int .i64 (0)), (.int .i64 (0))]), (.int .i64 (7))]), heapN) :=
  Gives.by (n := 1000) (os := [.br 18 22 false, .br 18 46 false, .br 18 46 false, .br 18 46 false, .br 18 55 false, .br 18 54 true]) (os' := []) (by kernel_rfl) (ObsOK.cond h0 (ObsOK.cond h1 (ObsOK.cond h1 (ObsOK.cond h1 (ObsOK.cond h1 (ObsOK.cond h2 (ObsOK.nil)))))))
theorem de_p3 (a : Int) (b : Int) (c : Int) (d : Int) (e : Int) (s : Int) (h0 : de_c0 a b c d e s = false) (h1 : de_c1 a b c d e s = false) (h2 : de_c2 a b c d e s = false) (h3 : de_c3 a b c d e s = true) : Gives Tryd.prog envSc 0 18 [(.agg #[(.int .i64 (a)), (.int .i64 (b)), (.int .i64 (c)), (.int .i64 (d)), (.int .i64 (e)), (.int .i64 (s))])] heapN ((.tuple #[(.agg #[(.int .i64 (1)), (.int .i64 (1))]), (.int .i64 (0))]), heapN) :=
  Gives.by (n := 1000) (os := [.br 18 22 false, .br 18 46 false, .br 18 46 false, .br 18 46 false, .br 18 55 false, .br 18 54 false, .br 18 58 true]) (os' := []) (by kernel_rfl) (ObsOK.cond h0 (ObsOK.cond h1 (ObsOK.cond h1 (ObsOK.cond h1 (ObsOK.cond h1 (ObsOK.cond h2 (ObsOK.cond h3 (ObsOK.nil))))))))
theorem de_p4 (a : Int) (b : Int) (c : Int) (d : Int) (e : Int) (s : Int) (h0 : de_c0 a b c d e s = false) (h1 : de_c1 a b c d e s = false) (h2 : de_c2 a b c d e s = false) (h3 : de_c3 a b c d e s = false) (h4 : de_c4 a b c d e s = true) : Gives Tryd.prog envSc 0 18 [(.agg #[(.int .i64 (a)), (.int .i64 (b)), (.int .i64 (c)), (.int .i64 (d)), (.int .i64 (e)), (.int .i64 (s))])] heapN ((.tuple #[(.agg #[(.int .i64 (1)), (.int .i64 (2))]), (.int .i64 (0))]), heapN) :=
  Gives.by (n := 1000) (os := [.br 18 22 false, .br 18 46 false, .br 18 46 false, .br 18 46 false, .br 18 55 false, .br 18 54 false, .br 18 58 false, .br 18 80 true]) (os' := []) (by kernel_rfl) (ObsOK.cond h0 (ObsOK.cond h1 (ObsOK.cond h1 (ObsOK.cond h1 (ObsOK.cond h1 (ObsOK.cond h2 (ObsOK.cond h3 (ObsOK.cond h4 (ObsOK.nil)))))))))
theorem de_p5 (a : Int) (b : Int) (c : Int) (d : Int) (e : Int) (s : Int) (h0 : de_c0 a b c d e s = false) (h1 : de_c1 a b c d e s = false) (h2 : de_c2 a b c d e s = false) (h3 : de_c3 a b c d e s = false) (h4 : de_c4 a b c d e s = false) : Gives Tryd.prog envSc 0 18 [(.agg #[(.int .i64 (a)), (.int .i64 (b)), (.int .i64 (c)), (.int .i64 (d)), (.int .i64 (e)), (.int .i64 (s))])] heapN ((.tuple #[(.agg #[(.int .i64 (0)), (.int .i64 (0))]), (.int .i64 (7))]), heapN) :=
  Gives.by (n := 1000) (os := [.br 18 22 false, .br 18 46 false, .br 18 46 false, .br 18 46 false, .br 18 55 false, .br 18 54 false, .br 18 58 false, .br 18 80 false]) (os' := []) (by kernel_rfl) (ObsOK.cond h0 (ObsOK.cond h1 (ObsOK.cond h1 (ObsOK.cond h1 (ObsOK.cond h1 (ObsOK.cond h2 (ObsOK.cond h3 (ObsOK.cond h4 (ObsOK.nil)))))))))
def de_r0 (a : Int) (b : Int) (c : Int) (d : Int) (e : Int) (s : Int) : Int := (cond (de_c0 a b c d e s) (0) (cond (de_c1 a b c d e s) (0) (cond (de_c2 a b c d e s) (0) (cond (de_c3 a b c d e s) (1) (cond (de_c4 a b c d e s) (1) (0))))))
def de_r1 (a : Int) (b : Int) (c : Int) (d : Int) (e : Int) (s : Int) : Int := (cond (de_c0 a b c d e s) (0) (cond (de_c1 a b c d e s) (0) (cond (de_c2 a b c d e s) (0) (cond (de_c3 a b c d e s) (1) (cond (de_c4 a b c d e s) (2) (0))))))
def de_r2 (a : Int) (b : Int) (c : Int) (d : Int) (e : Int) (s : Int) : Int := (cond (de_c0 a b c d e s) (cs_r0 a b c d e s) (cond (de_c1 a b c d e s) (7) (cond (de_c2 a b c d e s) (7) (cond (de_c3 a b c d e s) (0) (cond (de_c4 a b c d e s) (0) (7))))))
theorem de_gives (a : Int) (b : Int) (c : Int) (d : Int) (e : Int) (s : Int) : Gives Tryd.prog envSc 0 18 [(.agg #[(.int .i64 (a)), (.int .i64 (b)), (.int .i64 (c)), (.int .i64 (d)), (.int .i64 (e)), (.int .i64 (s))])] heapN ((.tuple #[(.agg #[(.int .i64 (de_r0 a b c d e s)), (.int .i64 (de_r1 a b c d e s))]), (.int .i64 (de_r2 a b c d e s))]), heapN) := by
  cases g0 : de_c0 a b c d e s
  · skip
    cases g1 : de_c1 a b c d e s
    · skip
      cases g2 : de_c2 a b c d e s
      · skip
        cases g3 : de_c3 a b c d e s
        · skip
          cases g4 : de_c4 a b c d e s
          · skip
            simp only [de_r0, de_r1, de_r2, g0, g1, g2, g3, g4, cond_true, cond_false]; exact de_p5 a b c d e s g0 g1 g2 g3 g4
          · skip
            simp only [de_r0, de_r1, de_r2, g0, g1, g2, g3, g4, cond_true, cond_false]; exact de_p4 a b c d e s g0 g1 g2 g3 g4
        · skip
          simp only [de_r0, de_r1, de_r2, g0, g1, g2, g3, cond_true, cond_false]; exact de_p3 a b c d e s g0 g1 g2 g3
      · skip
        simp only [de_r0, de_r1, de_r2, g0, g1, g2, cond_true, cond_false]; exact de_p2 a b c d e s g0 g1 g2
    · skip
      simp only [de_r0, de_r1, de_r2, g0, g1, cond_true, cond_false]; exact de_p1 a b c d e s g0 g1
  · skip
    simp only [de_r0, de_r1, de_r2, g0, cond_true, cond_false]; exact de_p0 a b c d e s g0
def rde_c0 (a : Int) (b : Int) (c : Int) (d : Int) (e : Int) (s : Int) : Bool := d != 0
def rde_c1 (a : Int) (b : Int) (c : Int) (d : Int) (e : Int) (s : Int) : Bool := e != 0
def rde_c2 (a : Int) (b : Int) (c : Int) (d : Int) (e : Int) (s : Int) : Bool := a == 0
def rde_c3 (a : Int) (b : Int) (c : Int) (d : Int) (e : Int) (s : Int) : Bool := b == 0
def rde_c4 (a : Int) (b : Int) (c : Int) (d : Int) (e : Int) (s : Int) : Bool := c == 0
def rde_c5 (a : Int) (b : Int) (c : Int) (d : Int) (e : Int) (s : Int) : Bool := a == c
def rde_c6 (a : Int) (b : Int) (c : Int) (d : Int) (e : Int) (s : Int) : Bool := a == b
theorem rde_p0 (a : Int) (b : Int) (c : Int) (d : Int) (e : Int) (s : Int) (h0 : rde_c0 a b c d e s = true) : Gives Tryd.prog envSc 0 23 [(.agg #[(.int .i64 (a)), (.int .i64 (b)), (.int .i64 (c)), (.int .i64 (d)), (.int .i64 (e)), (.int .i64 (s))])] heapN ((.tuple #[(.agg #[(.int .i64 (0)), (.int .i64 (0))]), (.int .i64 (7))]), heapN) :=
  Gives.by (n := 1000) (os := [.br 23 16 true, .br 23 16 true, .br 23 16 true, .br 23 25 true]) (os' := []) (by kernel_rfl) (ObsOK.cond h0 (ObsOK.cond h0 (ObsOK.cond h0 (ObsOK.cond h0 (ObsOK.nil)))))
theorem rde_p1 (a : Int) (b : Int) (c : Int) (d : Int) (e : Int) (s : Int) (h0 : rde_c0 a b c d e s = false) (h1 : rde_c1 a b c d e s = true) : Gives Tryd.prog envSc 0 23 [(.agg #[(.int .i64 (a)), (.int .i64 (b)), (.int .i64 (c)), (.int .i64 (d)), (.int .i64 (e)), (.int .i64 (s))])] heapN ((.tuple #[(.agg #[(.int .i64 (0)), (.int .i64 (0))]), (.int .i64 (7))]), heapN) :=
  Gives.by (n := 1000) (os := [.br 23 16 false, .br 23 16 false, .br 23 16 false, .br 23 25 false, .br 23 26 true, .br 23 26 true, .br 23 26 true, .br 23 26 true, .br 23 26 true, .br 23 26 true, .br 23 26 true, .br 23 55 true]) (os' := []) (by kernel_rfl) (ObsOK.cond h0 (ObsOK.cond h0 (ObsOK.cond h0 (ObsOK.cond h0 (ObsOK.cond h1 (ObsOK.cond h1 (ObsOK.cond h1 (ObsOK.cond h1 (ObsOK.cond h1 (ObsOK.cond h1 (ObsOK.cond h1 (ObsOK.cond h1 (ObsOK.nil)))))))))))))
theorem rde_p2 (a : Int) (b : Int) (c : Int) (d : Int) (e : Int) (s : Int) (h0 : rde_c0 a b c d e s = false) (h1 : rde_c1 a b c d e s = false) (h2 : rde_c2 a b c d e s = true) (h3 : rde_c3 a b c d e s = true) (h4 : rde_c4 a b c d e s = true) : Gives Tryd.prog envSc 0 23 [(.agg #[(.int .i64 (a)), (.int .i64 (b)), (.int .i64 (c)), (.int .i64 (d)), (.int .i64 (e)), (.int .i64 (s))])] heapN ((.tuple #[(.agg #[(.int .i64 (0)), (.int .i64 (0))]), (.int .i64 (7))]), heapN) :=
  Gives.by (n := 1000) (os := [.br 23 16 false, .br 23 16 false, .br 23 16 false, .br 23 25 false, .br 23 26 false, .br 23 26 false, .br 23 26 false, .br 23 26 false, .br 23 34 true, .br 23 34 true, .br 23 34 true, .br 23 26 false, .br 23 43 true, .br 23 26 false, .br 23 44 true, .br 23 44 true, .br 23 44 true, .br 23 26 false, .br 23 53 true, .br 23 55 false, .br 23 54 true]) (os' := []) (by kernel_rfl) (ObsOK.cond h0 (ObsOK.cond h0 (ObsOK.cond h0 (ObsOK.cond h0 (ObsOK.cond h1 (ObsOK.cond h1 (ObsOK.cond h1 (ObsOK.cond h1 (ObsOK.cond h2 (ObsOK.cond h2 (ObsOK.cond h2 (ObsOK.cond h1 (ObsOK.cond h2 (ObsOK.cond h1 (ObsOK.cond h3 (ObsOK.cond h3 (ObsOK.cond h3 (ObsOK.cond h1 (ObsOK.cond h3 (ObsOK.cond h1 (ObsOK.cond h4 (ObsOK.nil))))))))))))))))))))))
theorem rde_p3 (a : Int) (b : Int) (c : Int) (d : Int) (e : Int) (s : Int) (h0 : rde_c0 a b c d e s = false) (h1 : rde_c1 a b c d e s = false) (h2 : rde_c2 a b c d e s = true) (h3 : rde_c3 a b c d e s = true) (h4 : rde_c4 a b c d e s = false) (h5 : rde_c5 a b c d e s = true) : Gives Tryd.prog envSc 0 23 [(.agg #[(.int .i64 (a)), (.int .i64 (b)), (.int .i64 (c)), (.int .i64 (d)), (.int .i64 (e)), (.int .i64 (s))])] heapN ((.tuple #[(.agg #[(.int .i64 (1)), (.int .i64 (1))]), (.int .i64 (0))]), heapN) :=
  Gives.by (n := 1000) (os := [.br 23 16 false, .br 23 16 false, .br 23 16 false, .br 23 25 false, .br 23 26 false, .br 23 26 false, .br 23 26 false, .br 23 26 false, .br 23 34 true, .br 23 34 true, .br 23 34 true, .br 23 26 false, .br 23 43 true, .br 23 26 false, .br 23 44 true, .br 23 44 true, .br 23 44 true, .br 23 26 false, .br 23 53 true, .br 23 55 false, .br 23 54 false, .br 23 66 true]) (os' := []) (by kernel_rfl) (ObsOK.cond h0 (ObsOK.cond h0 (ObsOK.cond h0 (ObsOK.cond h0 (ObsOK.cond h1 (ObsOK.cond h1 (ObsOK.cond h1 (ObsOK.cond h1 (ObsOK.cond h2 (ObsOK.cond h2 (ObsOK.cond h2 (ObsOK.cond h1 (ObsOK.cond h2 (ObsOK.cond h1 (ObsOK.cond h3 (ObsOK.cond h3 (ObsOK.cond h3 (ObsOK.cond h1 (ObsOK.cond h3 (ObsOK.cond h1 (ObsOK.cond h4 (ObsOK.cond h5 (ObsOK.nil)))))))))))))))))))))))
theorem rde_p4 (a : Int) (b : Int) (c : Int) (d : Int) (e : Int) (s : Int) (h0 : rde_c0 a b c d e s = false) (h1 : rde_c1 a b c d e s = false) (h2 : rde_c2 a b c d e s = true) (h3 : rde_c3 a b c d e s = true) (h4 : rde_c4 a b c d e s = false) (h5 : rde_c5 a b c d e s = false) : Gives Tryd.prog envSc 0 23 [(.agg #[(.int .i64 (a)), (.int .i64 (b)), (.int .i64 (c)), (.int .i64 (d)), (.int .i64 (e)), (.int .i64 (s))])] heapN ((.tuple #[(.agg #[(.int .i64 (0)), (.int .i64 (0))]), (.int .i64 (7))]), heapN) :=
  Gives.by (n := 1000) (os := [.br 23 16 false, .br 23 16 false, .br 23 16 false, .br 23 25 false, .br 23 26 false, .br 23 26 false, .br 23 26 false, .br 23 26 false, .br 23 34 true, .br 23 34 true, .br 23 34 true, .br 23 26 false, .br 23 43 true, .br 23 26 false, .br 23 44 true, .br 23 44 true, .br 23 44 true, .br 23 26 false, .br 23 53 true, .br 23 55 false, .br 23 54 false, .br 23 66 false, .br 23 76 false, .br 23 76 false, .br 23 76 false, .br 23 76 false, .br 23 76 false, .br 23 89 false]) (os' := []) (by kernel_rfl) (ObsOK.cond h0 (ObsOK.cond h0 (ObsOK.cond h0 (ObsOK.cond h0 (ObsOK.cond h1 (ObsOK.cond h1 (ObsOK.cond h1 (ObsOK.cond h1 (ObsOK.cond h2 (ObsOK.cond h2 (ObsOK.cond h2 (ObsOK.cond h1 (ObsOK.cond h2 (ObsOK.cond h1 (ObsOK.cond h3 (ObsOK.cond h3 (ObsOK.cond h3 (ObsOK.cond h1 (ObsOK.cond h3 (ObsOK.cond h1 (ObsOK.cond h4 (ObsOK.cond h5 (ObsOK.cond h4 (ObsOK.cond h4 (ObsOK.cond h4 (ObsOK.cond h4 (ObsOK.cond h4 (ObsOK.cond h4 (ObsOK.nil)))))))))))))))))))))))))))))
theorem rde_p5 (a : Int) (b : Int) (c : Int) (d : Int) (e : Int) (s : Int) (h0 : rde_c0 a b c d e s = false) (h1 : rde_c1 a b c d e s = false) (h2 : rde_c2 a b c d e s = true) (h3 : rde_c3 a b c d e s = false) (h4 : rde_c5 a b c d e s = true) : Gives Tryd.prog envSc 0 23 [(.agg #[(.int .i64 (a)), (.int .i64 (b)), (.int .i64 (c)), (.int .i64 (d)), (.int .i64 (e)), (.int .i64 (s))])] heapN ((.tuple #[(.agg #[(.int .i64 (1)), (.int .i64 (1))]), (.int .i64 (0))]), heapN) :=
  Gives.by (n := 1000) (os := [.br 23 16 false, .br 23 16 false, .br 23 16 false, .br 23 25 false, .br 23 26 false, .br 23 26 false, .br 23 26 false, .br 23 26 false, .br 23 34 true, .br 23 34 true, .br 23 34 true, .br 23 26 false, .br 23 43 true, .br 23 26 false, .br 23 44 false, .br 23 44 false, .br 23 44 false, .br 23 26 false, .br 23 53 false, .br 23 55 false, .br 23 66 true]) (os' := []) (by kernel_rfl) (ObsOK.cond h0 (ObsOK.cond h0 (ObsOK.cond h0 (ObsOK.cond h0 (ObsOK.cond h1 (ObsOK.cond h1 (ObsOK.cond h1 (ObsOK.cond h1 (ObsOK.cond h2 (ObsOK.cond h2 (ObsOK.cond h2 (ObsOK.cond h1 (ObsOK.cond h2 (ObsOK.cond h1 (ObsOK.cond h3 (ObsOK.cond h3 (ObsOK.cond h3 (ObsOK.cond h1 (ObsOK.cond h3 (ObsOK.cond h1 (ObsOK.cond h4 (ObsOK.nil))))))))))))))))))))))
theorem rde_p6 (a : Int) (b : Int) (c : Int) (d : Int) (e : Int) (s : Int) (h0 : rde_c0 a b c d e s = false) (h1 : rde_c1 a b c d e s = false) (h2 : rde_c2 a b c d e s = true) (h3 : rde_c3 a b c d e s = false) (h4 : rde_c5 a b c d e s = false) (h5 : rde_c4 a b c d e s = true) (h6 : rde_c6 a b c d e s = true) : Gives Tryd.prog envSc 0 23 [(.agg #[(.int .i64 (a)), (.int .i64 (b)), (.int .i64 (c)), (.int .i64 (d)), (.int .i64 (e)), (.int .i64 (s))])] heapN ((.tuple #[(.agg #[(.int .i64 (1)), (.int .i64 (2))]), (.int .i64 (0))]), heapN) :=
  Gives.by (n := 1000) (os := [.br 23 16 false, .br 23 16 false, .br 23 16 false, .br 23 25 false, .br 23 26 false, .br 23 26 false, .br 23 26 false, .br 23 26 false, .br 23 34 true, .br 23 34 true, .br 23 34 true, .br 23 26 false, .br 23 43 true, .br 23 26 false, .br 23 44 false, .br 23 44 false, .br 23 44 false, .br 23 26 false, .br 23 53 false, .br 23 55 false, .br 23 66 false, .br 23 76 true, .br 23 76 true, .br 23 76 true, .br 23 76 true, .br 23 76 true, .br 23 89 true, .br 23 88 true]) (os' := []) (by kernel_rfl) (ObsOK.cond h0 (ObsOK.cond h0 (ObsOK.cond h0 (ObsOK.cond h0 (ObsOK.cond h1 (ObsOK.cond h1 (ObsOK.cond h1 (ObsOK.cond h1 (ObsOK.cond h2 (ObsOK.cond h2 (ObsOK.cond h2 (ObsOK.cond h1 (ObsOK.cond h2 (ObsOK.cond h1 (ObsOK.cond h3 (ObsOK.cond h3 (ObsOK.cond h3 (ObsOK.cond h1 (ObsOK.cond h3 (ObsOK.cond h1 (ObsOK.cond h4 (ObsOK.cond h5 (ObsOK.cond h5 (ObsOK.cond h5 (ObsOK.cond h5 (ObsOK.cond h5 (ObsOK.cond h5 (ObsOK.cond h6 (ObsOK.nil)))))))))))))))))))))))))))))
theorem rde_p7 (a : Int) (b : Int) (c : Int) (d : Int) (e : Int) (s : Int) (h0 : rde_c0 a b c d e s = false) (h1 : rde_c1 a b c d e s = false) (h2 : rde_c2 a b c d e s = true) (h3 : rde_c3 a b c d e s = false) (h4 : rde_c5 a b c d e s = false) (h5 : rde_c4 a b c d e s = true) (h6 : rde_c6 a b c d e s = false) : Gives Tryd.prog envSc 0 23 [(.agg #[(.int .i64 (a)), (.int .i64 (b)), (.int .i64 (c)), (.int .i64 (d)), (.int .i64 (e)), (.int .i64 (s))])] heapN ((.tuple #[(.agg #[(.int .i64 (0)), (.int .i64 (0))]), (.int .i64 (7))]), heapN) :=
  Gives.by (n := 1000) (os := [.br 23 16 false, .br 23 16 false, .br 23 16 false, .br 23 25 false, .br 23 26 false, .br 23 26 false, .br 23 26 false, .br 23 26 false, .br 23 34 true, .br 23 34 true, .br 23 34 true, .br 23 26 false, .br 23 43 true, .br 23 26 false, .br 23 44 false, .br 23 44 false, .br 23 44 false, .br 23 26 false, .br 23 53 false, .br 23 55 false, .br 23 66 false, .br 23 76 true, .br 23 76 true, .br 23 76 true, .br 23 76 true, .br 23 76 true, .br 23 89 true, .br 23 88 false]) (os' := []) (by kernel_rfl) (ObsOK.cond h0 (ObsOK.cond h0 (ObsOK.cond h0 (ObsOK.cond h0 (ObsOK.cond h1 (ObsOK.cond h1 (ObsOK.cond h1 (ObsOK.cond h1 (ObsOK.cond h2 (ObsOK.cond h2 (ObsOK.cond h2 (ObsOK.cond h1 (ObsOK.cond h2 (ObsOK.cond h1 (ObsOK.cond h3 (ObsOK.cond h3 (ObsOK.cond h3 (ObsOK.cond h1 (ObsOK.cond h3 (ObsOK.cond h1 (ObsOK.cond h4 (ObsOK.cond h5 (ObsOK.cond h5 (ObsOK.cond h5 (ObsOK.cond h5 (ObsOK.cond h5 (ObsOK.cond h5 (ObsOK.cond h6 (ObsOK.nil)))))))))))))))))))))))))))))
theorem rde_p8 (a : Int) (b : Int) (c : Int) (d : Int) (e : Int) (s : Int) (h0 : rde_c0 a b c d e s = false) (h1 : rde_c1 a b c d e s = false) (h2 : rde_c2 a b c d e s = true) (h3 : rde_c3 a b c d e s = false) (h4 : rde_c5 a b c d e s = false) (h5 : rde_c4 a b c d e s = false) : Gives Tryd.prog envSc 0 23 [(.agg #[(.int .i64 (a)), (.int .i64 (b)), (.int .i64 (c)), (.int .i64 (d)), (.int .i64 (e)), (.int .i64 (s))])] heapN ((.tuple #[(.agg #[(.int .i64 (0)), (.int .i64 (0))]), (.int .i64 (7))]), heapN) :=
  Gives.by (n := 1000) (os := [.br 23 16 false, .br 23 16 false, .br 23 16 false, .br 23 25 false, .br 23 26 false, .br 23 26 false, .br 23 26 false, .br 23 26 false, .br 23 34 true, .br 23 34 true, .br 23 34 true, .br 23 26 false, .br 23 43 true, .br 23 26 false, .br 23 44 false, .br 23 44 false, .br 23 44 false, .br 23 26 false, .br 23 53 false, .br 23 55 false, .br 23 66 false, .br 23 76 false, .br 23 76 false, .br 23 76 false, .br 23 76 false, .br 23 76 false, .br 23 89 false]) (os' := []) (by kernel_rfl) (ObsOK.cond h0 (ObsOK.cond h0 (ObsOK.cond h0 (ObsOK.cond h0 (ObsOK.cond h1 (ObsOK.cond h1 (ObsOK.cond h1 (ObsOK.cond h1 (ObsOK.cond h2 (ObsOK.cond h2 (ObsOK.cond h2 (ObsOK.cond h1 (ObsOK.cond h2 (ObsOK.cond h1 (ObsOK.cond h3 (ObsOK.cond h3 (ObsOK.cond h3 (ObsOK.cond h1 (ObsOK.cond h3 (ObsOK.cond h1 (ObsOK.cond h4 (ObsOK.cond h5 (ObsOK.cond h5 (ObsOK.cond h5 (ObsOK.cond h5 (ObsOK.cond h5 (ObsOK.cond h5 (ObsOK.nil))))))))))))))))))))))))))))
theorem rde_p9 (a : Int) (b : Int) (c : Int) (d : Int) (e : Int) (s : Int) (h0 : rde_c0 a b c d e s = false) (h1 : rde_c1 a b c d e s = false) (h2 : rde_c2 a b c d e s = false) (h3 : rde_c5 a b c d e s = true) : Gives Tryd.prog envSc 0 23 [(.agg #[(.int .i64 (a)), (.int .i64 (b)), (.int .i64 (c)), (.int .i64 (d)), (.int .i64 (e)), (.int .i64 (s))])] heapN ((.tuple #[(.agg #[(.int .i64 (1)), (.int .i64 (1))]), (.int .i64 (0))]), heapN) :=
  Gives.by (n := 1000) (os := [.br 23 16 false, .br 23 16 false, .br 23 16 false, .br 23 25 false, .br 23 26 false, .br 23 26 false, .br 23 26 false, .br 23 26 false, .br 23 34 false, .br 23 34 false, .br 23 34 false, .br 23 26 false, .br 23 43 false, .br 23 26 false, .br 23 26 false, .br 23 55 false, .br 23 66 true]) (os' := []) (by kernel_rfl) (ObsOK.cond h0 (ObsOK.cond h0 (ObsOK.cond h0 (ObsOK.cond h0 (ObsOK.cond h1 (ObsOK.cond h1 (ObsOK.cond h1 (ObsOK.cond h1 (ObsOK.cond h2 (ObsOK.cond h2 (ObsOK.cond h2 (ObsOK.cond h1 (ObsOK.cond h2 (ObsOK.cond h1 (ObsOK.cond h1 (ObsOK.cond h1 (ObsOK.cond h3 (ObsOK.nil))))))))))))))))))
theorem rde_p10 (a : Int) (b : Int) (c : Int) (d : Int) (e : Int) (s : Int) (h0 : rde_c0 a b c d e s = false) (h1 : rde_c1 a b c d e s = false) (h2 : rde_c2 a b c d e s = false) (h3 : rde_c5 a b c d e s = false) (h4 : rde_c4 a b c d e s = true) (h5 : rde_c6 a b c d e s = true) : Gives Tryd.prog envSc 0 23 [(.agg #[(.int .i64 (a)), (.int .i64 (b)), (.int .i64 (c)), (.int .i64 (d)), (.int .i64 (e)), (.int .i64 (s))])] heapN ((.tuple #[(.agg #[(.int .i64 (1)), (.int .i64 (2))]), (.int .i64 (0))]), heapN) :=
  Gives.by (n := 1000) (os := [.br 23 16 false, .br 23 16 false, .br 23 16 false, .br 23 25 false, .br 23 26 false, .br 23 26 false, .br 23 26 false, .br 23 26 false, .br 23 34 false, .br 23 34 false, .br 23 34 false, .br 23 26 false, .br 23 43 false, .br 23 26 false, .br 23 26 false, .br 23 55 false, .br 23 66 false, .br 23 76 true, .br 23 76 true, .br 23 76 true, .br 23 76 true, .br 23 76 true, .br 23 89 true, .br 23 88 true]) (os' := []) (by kernel_rfl) (ObsOK.cond h0 (ObsOK.cond h0 (ObsOK.cond h0 (ObsOK.cond h0 (ObsOK.cond h1 (ObsOK.cond h1 (ObsOK.cond h1 (ObsOK.cond h1 (ObsOK.cond h2 (ObsOK.cond h2 (ObsOK.cond h2 (ObsOK.cond h1 (ObsOK.cond h2 (ObsOK.cond h1 (ObsOK.cond h1 (ObsOK.cond h1 (ObsOK.cond h3 (ObsOK.cond h4 (ObsOK.cond h4 (ObsOK.cond h4 (ObsOK.cond h4 (ObsOK.cond h4 (ObsOK.cond h4 (ObsOK.cond h5 (ObsOK.nil)))))))))))))))))))))))))
theorem rde_p11 (a : Int) (b : Int) (c : Int) (d : Int) (e : Int) (s : Int) (h0 : rde_c0 a b c d e s = false) (h1 : rde_c1 a b c d e s = false) (h2 : rde_c2 a b c d e s = false) (h3 : rde_c5 a b c d e s = false) (h4 : rde_c4 a b c d e s = true) (h5 : rde_c6 a b c d e s = false) : Gives Tryd.prog envSc 0 23 [(.agg #[(.int .i64 (a)), (.int .i64 (b)), (.int .i64 (c)), (.int .i64 (d)), (.int .i64 (e)), (.int .i64 (s))])] heapN ((.tuple #[(.agg #[(.int .i64 (0)), (.int .i64 (0))]), (.int .i64 (7))]), heapN) :=
  Gives.by (n := 1000) (os := [.br 23 16 false, .br 23 16 false, .br 23 16 false, .br 23 25 false, .br 23 26 false, .br 23 26 false, .br 23 26 false, .br 23 26 false, .br 23 34 false, .br 23 34 false, .br 23 34 false, .br 23 26 false, .br 23 43 false, .br 23 26 false, .br 23 26 false, .br 23 55 false, .br 23 66 false, .br 23 76 true, .br 23 76 true, .br 23 76 true, .br 23 76 true, .br 23 76 true, .br 23 89 true, .br 23 88 false]) (os' := []) (by kernel_rfl) (ObsOK.cond h0 (ObsOK.cond h0 (ObsOK.cond h0 (ObsOK.cond h0 (ObsOK.cond h1 (ObsOK.cond h1 (ObsOK.cond h1 (ObsOK.cond h1 (ObsOK.cond h2 (ObsOK.cond h2 (ObsOK.cond h2 (ObsOK.cond h1 (ObsOK.cond h2 (ObsOK.cond h1 (ObsOK.cond h1 (ObsOK.cond h1 (ObsOK.cond h3 (ObsOK.cond h4 (ObsOK.cond h4 (ObsOK.cond h4 (ObsOK.cond h4 (ObsOK.cond h4 (ObsOK.cond h4 (ObsOK.cond h5 (ObsOK.nil)))))))))))))))))))))))))
theorem rde_p12 (a : Int) (b : Int) (c : Int) (d : Int) (e : Int) (s : Int) (h0 : rde_c0 a b c d e s = false) (h1 : rde_c1 a b c d e s = false) (h2 : rde_c2 a b c d e s = false) (h3 : rde_c5 a b c d e s = false) (h4 : rde_c4 a b c d e s = false) : Gives Tryd.prog envSc 0 23 [(.agg #[(.int .i64 (a)), (.int .i64 (b)), (.int .i64 (c)), (.int .i64 (d)), (.int .i64 (e)), (.int .i64 (s))])] heapN ((.tuple #[(.agg #[(.int .i64 (0)), (.int .i64 (0))]), (.int .i64 (7))]), heapN) :=
  Gives.by (n := 1000) (os := [.br 23 16 false, .br 23 16 false, .br 23 16 false, .br 23 25 false, .br 23 26 false, .br 23 26 false, .br 23 26 false, .br 23 26 false, .br 23 34 false, .br 23 34 false, .br 23 34 false, .br 23 26 false, .br 23 43 false, .br 23 26 false, .br 23 26 false, .br 23 55 false, .br 23 66 false, .br 23 76 false, .br 23 76 false, .br 23 76 false, .br 23 76 false, .br 23 76 false, .br 23 89 false]) (os' := []) (by kernel_rfl) (ObsOK.cond h0 (ObsOK.cond h0 (ObsOK.cond h0 (ObsOK.cond h0 (ObsOK.cond h1 (ObsOK.cond h1 (ObsOK.cond h1 (ObsOK.cond h1 (ObsOK.cond h2 (ObsOK.cond h2 (ObsOK.cond h2 (ObsOK.cond h1 (ObsOK.cond h2 (ObsOK.cond h1 (ObsOK.cond h1 (ObsOK.cond h1 (ObsOK.cond h3 (ObsOK.cond h4 (ObsOK.cond h4 (ObsOK.cond h4 (ObsOK.cond h4 (ObsOK.cond h4 (ObsOK.cond h4 (ObsOK.nil))))))))))))))))))))))))
def rde_r0 (a : Int) (b : Int) (c : Int) (d : Int) (e : Int) (s : Int) : Int := (cond (rde_c0 a b c d e s) (0) (cond (rde_c1 a b c d e s) (0) (cond (rde_c2 a b c d e s) (cond (rde_c3 a b c d e s) (cond (rde_c4 a b c d e s) (0) (cond (rde_c5 a b c d e s) (1) (0))) (cond (rde_c5 a b c d e s) (1) (cond (rde_c4 a b c d e s) (cond (rde_c6 a b c d e s) (1) (0)) (0)))) (cond (rde_c5 a b c d e s) (1) (cond (rde_c4 a b c d e s) (cond (rde_c6 a b c d e s) (1) (0)) (0))))))
def rde_r1 (a : Int) (b : Int) (c : Int) (d : Int) (e : Int) (s : Int) : Int := (cond (rde_c0 a b c d e s) (0) (cond (rde_c1 a b c d e s) (0) (cond (rde_c2 a b c d e s) (cond (rde_c3 a b c d e s) (cond (rde_c4 a b c d e s) (0) (cond (rde_c5 a b c d e s) (1) (0))) (cond (rde_c5 a b c d e s) (1) (cond (rde_c4 a b c d e s) (cond (rde_c6 a b c d e s) (2) (0)) (0)))) (cond (rde_c5 a b c d e s) (1) (cond (rde_c4 a b c d e s) (cond (rde_c6 a b c d e s) (2) (0)) (0))))))
def rde_r2 (a : Int) (b : Int) (c : Int) (d : Int) (e : Int) (s : Int) : Int := (cond (rde_c0 a b c d e s) (7) (cond (rde_c1 a b c d e s) (7) (cond (rde_c2 a b c d e s) (cond (rde_c3 a b c d e s) (cond (rde_c4 a b c d e s) (7) (cond (rde_c5 a b c d e s) (0) (7))) (cond (rde_c5 a b c d e s) (0) (cond (rde_c4 a b c d e s) (cond (rde_c6 a b c d e s) (0) (7)) (7)))) (cond (rde_c5 a b c d e s) (0) (cond (rde_c4 a b c d e s) (cond (rde_c6 a b c d e s) (0) (7)) (7))))))
theorem rde_gives (a : Int) (b : Int) (c : Int) (d : Int) (e : Int) (s : Int) : Gives Tryd.prog envSc 0 23 [(.agg #[(.int .i64 (a)), (.int .i64 (b)), (.int .i64 (c)), (.int .i64 (d)), (.int .i64 (e)), (.int .i64 (s))])] heapN ((.tuple #[(.agg #[(.int .i64 (rde_r0 a b c d e s)), (.int .i64 (rde_r1 a b c d e s))]), (.int .i64 (rde_r2 a b c d e s))]), heapN) := by
  cases g0 : rde_c0 a b c d e s
  · skip
    cases g1 : rde_c1 a b c d e s
    · skip
      cases g2 : rde_c2 a b c d e s
      · skip
        cases g5 : rde_c5 a b c d e s
        · skip
          cases g4 : rde_c4 a b c d e s
          · skip
            simp only [rde_r0, rde_r1, rde_r2, g0, g1, g2, g5, g4, cond_true, cond_false]; exact rde_p12 a b c d e s g0 g1 g2 g5 g4
          · skip
            cases g6 : rde_c6 a b c d e s
            · skip
              simp only [rde_r0, rde_r1, rde_r2, g0, g1, g2, g5, g4, g6, cond_true, cond_false]; exact rde_p11 a b c d e s g0 g1 g2 g5 g4 g6
            · skip
              simp only [rde_r0, rde_r1, rde_r2, g0, g1, g2, g5, g4, g6, cond_true, cond_false]; exact rde_p10 a b c d e s g0 g1 g2 g5 g4 g6
        · skip
          simp only [rde_r0, rde_r1, rde_r2, g0, g1, g2, g5, cond_true, cond_false]; exact rde_p9 a b c d e s g0 g1 g2 g5
      · skip
        cases g3 : rde_c3 a b c d e s
        · skip
          cases g5 : rde_c5 a b c d e s
          · skip
            cases g4 : rde_c4 a b c d e s
            · skip
              simp only [rde_r0, rde_r1, rde_r2, g0, g1, g2, g3, g5, g4, cond_true, cond_false]; exact rde_p8 a b c d e s g0 g1 g2 g3 g5 g4
            · skip
              cases g6 : rde_c6 a b c d e s
              · skip
                simp only [rde_r0, rde_r1, rde_r2, g0, g1, g2, g3, g5, g4, g6, cond_true, cond_false]; exact rde_p7 a b c d e s g0 g1 g2 g3 g5 g4 g6
              · skip
                simp only [rde_r0, rde_r1, rde_r2, g0, g1, g2, g3, g5, g4, g6, cond_true, cond_false]; exact rde_p6 a b c d e s g0 g1 g2 g3 g5 g4 g6
          · skip
            simp only [rde_r0, rde_r1, rde_r2, g0, g1, g2, g3, g5, cond_true, cond_false]; exact rde_p5 a b c d e s g0 g1 g2 g3 g5
        · skip
          cases g4 : rde_c4 a b c d e s
          · skip
            cases g5 : rde_c5 a b c d e s
            · skip
              simp only [rde_r0, rde_r1, rde_r2, g0, g1, g2, g3, g4, g5, cond_true, cond_false]; exact rde_p4 a b c d e s g0 g1 g2 g3 g4 g5
            · skip
              simp only [rde_r0, rde_r1, rde_r2, g0, g1, g2, g3, g4, g5, cond_true, cond_false]; exact rde_p3 a b c d e s g0 g1 g2 g3 g4 g5
          · skip
            simp only [rde_r0, rde_r1, rde_r2, g0, g1, g2, g3, g4, cond_true, cond_false]; exact rde_p2 a b c d e s g0 g1 g2 g3 g4
    · skip
      simp only [rde_r0, rde_r1, rde_r2, g0, g1, cond_true, cond_false]; exact rde_p1 a b c d e s g0 g1
  · skip
    simp only [rde_r0, rde_r1, rde_r2, g0, cond_true, cond_false]; exact rde_p0 a b c d e s g0
theorem va0_p0 (x : Int) (y : Int) (z : Int) : Gives Tryd.prog envSc 0 48 [(.int .i64 (0)), (.agg #[(.int .i64 (x)), (.int .i64 (y)), (.int .i64 (z))])] heap0 ((.agg #[(.int .i64 (IntKind.i64.wrap (IntKind.i64.wrap (IntKind.i64.wrap (0 + IntKind.i64.wrap (IntKind.i64.wrap (x * 1) - 0)) + IntKind.i64.wrap (IntKind.i64.wrap (y * 1) - 0)) + IntKind.i64.wrap (IntKind.i64.wrap (z * 1) - 0)))), (.int .i64 (IntKind.i64.wrap (IntKind.i64.wrap (IntKind.i64.wrap (0 + IntKind.i64.wrap (IntKind.i64.wrap (x * 0) + 0)) + IntKind.i64.wrap (IntKind.i64.wrap (y * 0) + 0)) + IntKind.i64.wrap (IntKind.i64.wrap (z * 0) + 0))))]), heap0) :=
  Gives.by (n := 1000) (os := []) (os' := []) (by kernel_rfl) (ObsOK.nil)
def va0_r0 (x : Int) (y : Int) (z : Int) : Int := (IntKind.i64.wrap (IntKind.i64.wrap (IntKind.i64.wrap (0 + IntKind.i64.wrap (IntKind.i64.wrap (x * 1) - 0)) + IntKind.i64.wrap (IntKind.i64.wrap (y * 1) - 0)) + IntKind.i64.wrap (IntKind.i64.wrap (z * 1) - 0)))
def va0_r1 (x : Int) (y : Int) (z : Int) : Int := (IntKind.i64.wrap (IntKind.i64.wrap (IntKind.i64.wrap (0 + IntKind.i64.wrap (IntKind.i64.wrap (x * 0) + 0)) + IntKind.i64.wrap (IntKind.i64.wrap (y * 0) + 0)) + IntKind.i64.wrap (IntKind.i64.wrap (z * 0) + 0)))
theorem va0_gives (x : Int) (y : Int) (z : Int) : Gives Tryd.prog envSc 0 48 [(.int .i64 (0)), (.agg #[(.int .i64 (x)), (.int .i64 (y)), (.int .i64 (z))])] heap0 ((.agg #[(.int .i64 (va0_r0 x y z)), (.int .i64 (va0_r1 x y z))]), heap0) := by
  simp only [va0_r0, va0_r1, cond_true, cond_false]; exact va0_p0 x y z
theorem ra0_p0 (x : Int) (y : Int) (z : Int) : Gives Tryd.prog envSc 0 54 [(.int .i64 (x)), (.int .i64 (y)), (.int .i64 (z)), (.int .i64 (0))] heapN ((.agg #[(.int .i64 (IntKind.i64.wrap (x + IntKind.i64.wrap (y + z)))), (.int .i64 (0))]), heapN) :=
  Gives.by (n := 1000) (os := []) (os' := []) (by kernel_rfl) (ObsOK.nil)
def ra0_r0 (x : Int) (y : Int) (z : Int) : Int := (IntKind.i64.wrap (x + IntKind.i64.wrap (y + z)))
theorem ra0_gives (x : Int) (y : Int) (z : Int) : Gives Tryd.prog envSc 0 54 [(.int .i64 (x)), (.int .i64 (y)), (.int .i64 (z)), (.int .i64 (0))] heapN ((.agg #[(.int .i64 (ra0_r0 x y z)), (.int .i64 (0))]), heapN) := by
  simp only [ra0_r0, cond_true, cond_false]; exact ra0_p0 x y z
theorem va1_p0 (x : Int) (y : Int) (z : Int) : Gives Tryd.prog envSc 0 48 [(.int .i64 (1)), (.agg #[(.int .i64 (x)), (.int .i64 (y)), (.int .i64 (z))])] heap0 ((.agg #[(.int .i64 (IntKind.i64.wrap (IntKind.i64.wrap (IntKind.i64.wrap (0 + IntKind.i64.wrap (IntKind.i64.wrap (x * 1) - 0)) + IntKind.i64.wrap (IntKind.i64.wrap (y * 0) - 0)) + IntKind.i64.wrap (IntKind.i64.wrap (z * -1) - 0)))), (.int .i64 (IntKind.i64.wrap (IntKind.i64.wrap (IntKind.i64.wrap (0 + IntKind.i64.wrap (IntKind.i64.wrap (x * 0) + 0)) + IntKind.i64.wrap (IntKind.i64.wrap (y * -1) + 0)) + IntKind.i64.wrap (IntKind.i64.wrap (z * 0) + 0))))]), heap0) :=
  Gives.by (n := 1000) (os := []) (os' := []) (by kernel_rfl) (ObsOK.nil)
def va1_r0 (x : Int) (y : Int) (z : Int) : Int := (IntKind.i64.wrap (IntKind.i64.wrap (IntKind.i64.wrap (0 + IntKind.i64.wrap (IntKind.i64.wrap (x * 1) - 0)) + IntKind.i64.wrap (IntKind.i64.wrap (y * 0) - 0)) + IntKind.i64.wrap (IntKind.i64.wrap (z * -1) - 0)))
def va1_r1 (x : Int) (y : Int) (z : Int) : Int := (IntKind.i64.wrap (IntKind.i64.wrap (IntKind.i64.wrap (0 + IntKind.i64.wrap (IntKind.i64.wrap (x * 0) + 0)) + IntKind.i64.wrap (IntKind.i64.wrap (y * -1) + 0)) + IntKind.i64.wrap (IntKind.i64.wrap (z * 0) + 0)))
theorem va1_gives (x : Int) (y : Int) (z : Int) : Gives Tryd.prog envSc 0 48 [(.int .i64 (1)), (.agg #[(.int .i64 (x)), (.int .i64 (y)), (.int .i64 (z))])] heap0 ((.agg #[(.int .i64 (va1_r0 x y z)), (.int .i64 (va1_r1 x y z))]), heap0) := by
  simp only [va1_r0, va1_r1, cond_true, cond_false]; exact va1_p0 x y z
theorem ra1_p0 (x : Int) (y : Int) (z : Int) : Gives Tryd.prog envSc 0 54 [(.int .i64 (x)), (.int .i64 (y)), (.int .i64 (z)), (.int .i64 (1))] heapN ((.agg #[(.int .i64 (IntKind.i64.wrap (x + IntKind.i64.wrap (0 + IntKind.i64.wrap (0 - z))))), (.int .i64 (IntKind.i64.wrap (0 + IntKind.i64.wrap (IntKind.i64.wrap (0 - y) + 0))))]), heapN) :=
  Gives.by (n := 1000) (os := []) (os' := []) (by kernel_rfl) (ObsOK.nil)
def ra1_r0 (x : Int) (y : Int) (z : Int) : Int := (IntKind.i64.wrap (x + IntKind.i64.wrap (0 + IntKind.i64.wrap (0 - z))))
def ra1_r1 (x : Int) (y : Int) (z : Int) : Int := (IntKind.i64.wrap (0 + IntKind.i64.wrap (IntKind.i64.wrap (0 - y) + 0)))
theorem ra1_gives (x : Int) (y : Int) (z : Int) : Gives Tryd.prog envSc 0 54 [(.int .i64 (x)), (.int .i64 (y)), (.int .i64 (z)), (.int .i64 (1))] heapN ((.agg #[(.int .i64 (ra1_r0 x y z)), (.int .i64 (ra1_r1 x y z))]), heapN) := by
  simp only [ra1_r0, ra1_r1, cond_true, cond_false]; exact ra1_p0 x y z
theorem va2_p0 (x : Int) (y : Int) (z : Int) : Gives Tryd.prog envSc 0 48 [(.int .i64 (2)), (.agg #[(.int .i64 (x)), (.int .i64 (y)), (.int .i64 (z))])] heap0 ((.agg #[(.int .i64 (IntKind.i64.wrap (IntKind.i64.wrap (IntKind.i64.wrap (0 + IntKind.i64.wrap (IntKind.i64.wrap (x * 1) - 0)) + IntKind.i64.wrap (IntKind.i64.wrap (y * -1) - 0)) + IntKind.i64.wrap (IntKind.i64.wrap (z * 1) - 0)))), (.int .i64 (IntKind.i64.wrap (IntKind.i64.wrap (IntKind.i64.wrap (0 + IntKind.i64.wrap (IntKind.i64.wrap (x * 0) + 0)) + IntKind.i64.wrap (IntKind.i64.wrap (y * 0) + 0)) + IntKind.i64.wrap (IntKind.i64.wrap (z * 0) + 0))))]), heap0) :=
  Gives.by (n := 1000) (os := []) (os' := []) (by kernel_rfl) (ObsOK.nil)
def va2_r0 (x : Int) (y : Int) (z : Int) : Int := (IntKind.i64.wrap (IntKind.i64.wrap (IntKind.i64.wrap (0 + IntKind.i64.wrap (IntKind.i64.wrap (x * 1) - 0)) + IntKind.i64.wrap (IntKind.i64.wrap (y * -1) - 0)) + IntKind.i64.wrap (IntKind.i64.wrap (z * 1) - 0)))
def va2_r1 (x : Int) (y : Int) (z : Int) : Int := (IntKind.i64.wrap (IntKind.i64.wrap (IntKind.i64.wrap (0 + IntKind.i64.wrap (IntKind.i64.wrap (x * 0) + 0)) + IntKind.i64.wrap (IntKind.i64.wrap (y * 0) + 0)) + IntKind.i64.wrap (IntKind.i64.wrap (z * 0) + 0)))
theorem va2_gives (x : Int) (y : Int) (z : Int) : Gives Tryd.prog envSc 0 48 [(.int .i64 (2)), (.agg #[(.int .i64 (x)), (.int .i64 (y)), (.int .i64 (z))])] heap0 ((.agg #[(.int .i64 (va2_r0 x y z)), (.int .i64 (va2_r1 x y z))]), heap0) := by
  simp only [va2_r0, va2_r1, cond_true, cond_false]; exact va2_p0 x y z
theorem ra2_p0 (x : Int) (y : Int) (z : Int) : Gives Tryd.prog envSc 0 54 [(.int .i64 (x)), (.int .i64 (y)), (.int .i64 (z)), (.int .i64 (2))] heapN ((.agg #[(.int .i64 (IntKind.i64.wrap (x + IntKind.i64.wrap (IntKind.i64.wrap (0 - y) + z)))), (.int .i64 (0))]), heapN) :=
  Gives.by (n := 1000) (os := []) (os' := []) (by kernel_rfl) (ObsOK.nil)
def ra2_r0 (x : Int) (y : Int) (z : Int) : Int := (IntKind.i64.wrap (x + IntKind.i64.wrap (IntKind.i64.wrap (0 - y) + z)))
theorem ra2_gives (x : Int) (y : Int) (z : Int) : Gives Tryd.prog envSc 0 54 [(.int .i64 (x)), (.int .i64 (y)), (.int .i64 (z)), (.int .i64 (2))] heapN ((.agg #[(.int .i64 (ra2_r0 x y z)), (.int .i64 (0))]), heapN) := by
  simp only [ra2_r0, cond_true, cond_false]; exact ra2_p0 x y z
theorem va3_p0 (x : Int) (y : Int) (z : Int) : Gives Tryd.prog envSc 0 48 [(.int .i64 (3)), (.agg #[(.int .i64 (x)), (.int .i64 (y)), (.int .i64 (z))])] heap0 ((.agg #[(.int .i64 (IntKind.i64.wrap (IntKind.i64.wrap (IntKind.i64.wrap (0 + IntKind.i64.wrap (IntKind.i64.wrap (x * 1) - 0)) + IntKind.i64.wrap (IntKind.i64.wrap (y * 0) - 0)) + IntKind.i64.wrap (IntKind.i64.wrap (z * -1) - 0)))), (.int .i64 (IntKind.i64.wrap (IntKind.i64.wrap (IntKind.i64.wrap (0 + IntKind.i64.wrap (IntKind.i64.wrap (x * 0) + 0)) + IntKind.i64.wrap (IntKind.i64.wrap (y * 1) + 0)) + IntKind.i64.wrap (IntKind.i64.wrap (z * 0) + 0))))]), heap0) :=
  Gives.by (n := 1000) (os := []) (os' := []) (by kernel_rfl) (ObsOK.nil)
def va3_r0 (x : Int) (y : Int) (z : Int) : Int := (IntKind.i64.wrap (IntKind.i64.wrap (IntKind.i64.wrap (0 + IntKind.i64.wrap (IntKind.i64.wrap (x * 1) - 0)) + IntKind.i64.wrap (IntKind.i64.wrap (y * 0) - 0)) + IntKind.i64.wrap (IntKind.i64.wrap (z * -1) - 0)))
def va3_r1 (x : Int) (y : Int) (z : Int) : Int := (IntKind.i64.wrap (IntKind.i64.wrap (IntKind.i64.wrap (0 + IntKind.i64.wrap (IntKind.i64.wrap (x * 0) + 0)) + IntKind.i64.wrap (IntKind.i64.wrap (y * 1) + 0)) + IntKind.i64.wrap (IntKind.i64.wrap (z * 0) + 0)))
theorem va3_gives (x : Int) (y : Int) (z : Int) : Gives Tryd.prog envSc 0 48 [(.int .i64 (3)), (.agg #[(.int .i64 (x)), (.int .i64 (y)), (.int .i64 (z))])] heap0 ((.agg #[(.int .i64 (va3_r0 x y z)), (.int .i64 (va3_r1 x y z))]), heap0) := by
  simp only [va3_r0, va3_r1, cond_true, cond_false]; exact va3_p0 x y z
theorem ra3_p0 (x : Int) (y : Int) (z : Int) : Gives Tryd.prog envSc 0 54 [(.int .i64 (x)), (.int .i64 (y)), (.int .i64 (z)), (.int .i64 (3))] heapN ((.agg #[(.int .i64 (IntKind.i64.wrap (x + IntKind.i64.wrap (0 + IntKind.i64.wrap (0 - z))))), (.int .i64 (IntKind.i64.wrap (0 + IntKind.i64.wrap (y + 0))))]), heapN) :=
  Gives.by (n := 1000) (os := []) (os' := []) (by kernel_rfl) (ObsOK.nil)
def ra3_r0 (x : Int) (y : Int) (z : Int) : Int := (IntKind.i64.wrap (x + IntKind.i64.wrap (0 + IntKind.i64.wrap (0 - z))))
def ra3_r1 (x : Int) (y : Int) (z : Int) : Int := (IntKind.i64.wrap (0 + IntKind.i64.wrap (y + 0)))
theorem ra3_gives (x : Int) (y : Int) (z : Int) : Gives Tryd.prog envSc 0 54 [(.int .i64 (x)), (.int .i64 (y)), (.int .i64 (z)), (.int .i64 (3))] heapN ((.agg #[(.int .i64 (ra3_r0 x y z)), (.int .i64 (ra3_r1 x y z))]), heapN) := by
  simp only [ra3_r0, ra3_r1, cond_true, cond_false]; exact ra3_p0 x y z
def B_envSd_18 (args : List Value) : Option (Heap × Value) :=
    match args with
    | [(.agg ⟨[(.int .i64 (a)), (.int .i64 (b)), (.int .i64 (c)), (.int .i64 (d)), (.int .i64 (e)), (.int .i64 (s))]⟩)] => some (heapN, (.tuple #[(.agg #[(.int .i64 (de_r0 a b c d e s)), (.int .i64 (de_r1 a b c d e s))]), (.int .i64 (de_r2 a b c d e s))]))
    | _ => none
theorem B_envSd_18_ok {args : List Value} {H : Heap} {v : Value} (h : B_envSd_18 args = some (H, v)) : 5 ≤ H.length ∧ H.all tableRow = true ∧ Gives Tryd.prog envSc 0 18 args H (v, H) := by
  unfold B_envSd_18 at h
  split at h
  · cases h; exact heapN_ok (de_gives _ _ _ _ _ _)
  · cases h
def B_envSd_23 (args : List Value) : Option (Heap × Value) :=
    match args with
    | [(.agg ⟨[(.int .i64 (a)), (.int .i64 (b)), (.int .i64 (c)), (.int .i64 (d)), (.int .i64 (e)), (.int .i64 (s))]⟩)] => some (heapN, (.tuple #[(.agg #[(.int .i64 (rde_r0 a b c d e s)), (.int .i64 (rde_r1 a b c d e s))]), (.int .i64 (rde_r2 a b c d e s))]))
    | _ => none
theorem B_envSd_23_ok {args : List Value} {H : Heap} {v : Value} (h : B_envSd_23 args = some (H, v)) : 5 ≤ H.length ∧ H.all tableRow = true ∧ Gives Tryd.prog envSc 0 23 args H (v, H) := by
  unfold B_envSd_23 at h
  split at h
  · cases h; exact heapN_ok (rde_gives _ _ _ _ _ _)
  · cases h
def B_envSd_48 (args : List Value) : Option (Heap × Value) :=
    match args with
    | [(.int .i64 (q0)), (.agg ⟨[(.int .i64 (x)), (.int .i64 (y)), (.int .i64 (z))]⟩)] =>
      if q0 == 0 then some (heap0, (.agg #[(.int .i64 (va0_r0 x y z)), (.int .i64 (va0_r1 x y z))])) else
      if q0 == 1 then some (heap0, (.agg #[(.int .i64 (va1_r0 x y z)), (.int .i64 (va1_r1 x y z))])) else
      if q0 == 2 then some (heap0, (.agg #[(.int .i64 (va2_r0 x y z)), (.int .i64 (va2_r1 x y z))])) else
      if q0 == 3 then some (heap0, (.agg #[(.int .i64 (va3_r0 x y z)), (.int .i64 (va3_r1 x y z))])) else
      none
    | _ => none
theorem B_envSd_48_ok {args : List Value} {H : Heap} {v : Value} (h : B_envSd_48 args = some (H, v)) : 5 ≤ H.length ∧ H.all tableRow = true ∧ Gives Tryd.prog envSc 0 48 args H (v, H) := by
  unfold B_envSd_48 at h
  split at h
  · skip
    rcases ite_or h with ⟨hf, h⟩ | h
    · obtain rfl := eq_of_beq hf; cases h; exact heap0_ok (va0_gives _ _ _)
    rcases ite_or h with ⟨hf, h⟩ | h
    · obtain rfl := eq_of_beq hf; cases h; exact heap0_ok (va1_gives _ _ _)
    rcases ite_or h with ⟨hf, h⟩ | h
    · obtain rfl := eq_of_beq hf; cases h; exact heap0_ok (va2_gives _ _ _)
    rcases ite_or h with ⟨hf, h⟩ | h
    · obtain rfl := eq_of_beq hf; cases h; exact heap0_ok (va3_gives _ _ _)
    cases h
  · cases h
def B_envSd_54 (args : List Value) : Option (Heap × Value) :=
    match args with
    | [(.int .i64 (x)), (.int .i64 (y)), (.int .i64 (z)), (.int .i64 (q0))] =>
      if q0 == 0 then some (heapN, (.agg #[(.int .i64 (ra0_r0 x y z)), (.int .i64 (0))])) else
      if q0 == 1 then some (heapN, (.agg #[(.int .i64 (ra1_r0 x y z)), (.int .i64 (ra1_r1 x y z))])) else
      if q0 == 2 then some (heapN, (.agg #[(.int .i64 (ra2_r0 x y z)), (.int .i64 (0))])) else
      if q0 == 3 then some (heapN, (.agg #[(.int .i64 (ra3_r0 x y z)), (.int .i64 (ra3_r1 x y z))])) else
      none
    | _ => none
theorem B_envSd_54_ok {args : List Value} {H : Heap} {v : Value} (h : B_envSd_54 args = some (H, v)) : 5 ≤ H.length ∧ H.all tableRow = true ∧ Gives Tryd.prog envSc 0 54 args H (v, H) := by
  unfold B_envSd_54 at h
  split at h
  · skip
    rcases ite_or h with ⟨hf, h⟩ | h
    · obtain rfl := eq_of_beq hf; cases h; exact heapN_ok (ra0_gives _ _ _)
    rcases ite_or h with ⟨hf, h⟩ | h
    · obtain rfl := eq_of_beq hf; cases h; exact heapN_ok (ra1_gives _ _ _)
    rcases ite_or h with ⟨hf, h⟩ | h
    · obtain rfl := eq_of_beq hf; cases h; exact heapN_ok (ra2_gives _ _ _)
    rcases ite_or h with ⟨hf, h⟩ | h
    · obtain rfl := eq_of_beq hf; cases h; exact heapN_ok (ra3_gives _ _ _)
    cases h
  · cases h
def B_envSd (f : FuncId) (args : List Value) : Option (Heap × Value) :=
  if f == 18 then B_envSd_18 args else
  if f == 23 then B_envSd_23 args else
  if f == 48 then B_envSd_48 args else
  if f == 54 then B_envSd_54 args else
  none
noncomputable def envSd : Env := envSc.with (baseKnown B_envSd)
theorem envSd_ok : EnvOK Tryd.prog 5 envSd := env_base prog_ok envSc_ok fun f args H v h => by
  unfold B_envSd at h
  rcases ite_or h with ⟨hf, h⟩ | h
  · obtain rfl : f = 18 := eq_of_beq hf
    exact B_envSd_18_ok h
  rcases ite_or h with ⟨hf, h⟩ | h
  · obtain rfl : f = 23 := eq_of_beq hf
    exact B_envSd_23_ok h
  rcases ite_or h with ⟨hf, h⟩ | h
  · obtain rfl : f = 48 := eq_of_beq hf
    exact B_envSd_48_ok h
  rcases ite_or h with ⟨hf, h⟩ | h
  · obtain rfl : f = 54 := eq_of_beq hf
    exact B_envSd_54_ok h
  cases h
end Go.Proofs.YtfnmpdmfpfhjnaaDoor
/-
The document's examples, run: the states between the statements of awake.
-/
namespace Go.Proofs.YtfnmpdmfpfhjnaaDoor
open Go Go.Abs
noncomputable def L0 : List Value := List.replicate 243 undef
noncomputable def X0 : Heap := heap0
noncomputable def L1 : List Value := [(.bool false), U, U, U, U, U, U, U, U, U, U, U, U, U, U, U, U, U, U, U, U, U, U, U, U, U, U, U, U, U, U, U, U, U, U, U, U, U, U, U, U, U, U, U, U, U, U, U, U, U, U, U, U, U, U, U, U, U, U, U, U, U, U, U, U, U, U, U, U, U, U, U, U, U, U, U, U, U, U, U, U, U, U, U, U, U, U, U, U, U, U, U, U, U, U, U, U, U, U, U, U, U, U, U, U, U, U, U, U, U, U, U, U, U, U, U, U, U, U, U, U, U, U, U, U, U, U, U, U, U, U, U, U, U, U, U, U, U, U, U, U, U, U, U, U, U, U, U, U, U, U, U, U, U, U, U, U, U, U, U, U, U, U, U, U, U, U, U, U, U, U, U, U, U, U, U, U, U, U, U, U, U, U, U, U, U, U, U, U, U, U, U, U, U, U, U, U, U, U, U, U, U, U, U, U, U, U, U, U, U, U, U, U, U, U, U, U, U, U, U, U, U, U, U, U, U, U, U, U, U, U, U, U, U, U, U, U, U, U, U, U, U, U]
noncomputable def X1 : Heap := (H [])
noncomputable def L2 : List Value := [(.bool false), (.slice (.some (.mk 5 0 .none)) 6 6), (.int .i64 (0)), U, U, U, U, U, U, U, U, U, U, U, U, U, U, U, U, U, U, U, U, U, U, U, U, U, U, U, U, U, U, U, U, (.tuple #[(.slice (.some (.mk 5 0 .none)) 6 6), (.int .i64 (0))]), (.agg #[(.int .i64 (4)), (.int .i64 (0)), (.int .i64 (0)), (.int .i64 (-2)), (.int .i64 (0)), (.int .i64 (2))]), (.tuple #[(.slice (.some (.mk 5 0 .none)) 6 6), (.int .i64 (0))]), (.slice (.some (.mk 5 0 .none)) 6 6), (.int .i64 (0)), U, U, U, U, U, U, U, U, U, U, U, U, U, U, U, U, U, U, U, U, U, U, U, U, U, U, U, U, U, U, U, U, U, U, U, U, U, U, U, U, U, U, U, U, U, U, U, U, U, U, U, U, U, U, U, U, U, U, U, U, U, U, U, U, U, U, U, U, U, U, U, U, U, U, U, U, U, U, U, U, U, U, U, U, U, U, U, U, U, U, U, U, U, U, U, U, U, U, U, U, U, U, U, U, U, U, U, U, U, U, U, U, U, U, U, U, U, U, U, U, U, U, U, U, U, U, U, U, U, U, U, U, U, U, U, U, U, U, U, U, U, U, U, U, U, U, U, U, U, U, U, U, U, U, U, U, U, U, U, U, U, U, U, U, U, U, U, U, U, U, U, U, U, U, U, U, U, U, U, U, U, U, U, U, U, U, U, U, U, U, U, U, U, U, U, U, U, U, U, U, U, U, U]
noncomputable def X2 : Heap := (H [(.some (.cells [(.int .i64 (8)), (.int .i64 (4)), (.int .i64 (2)), (.int .i64 (1)), (.int .i64 (0)), (.int .i64 (0))] 3 .row))])
noncomputable def L3 : List Value := [(.bool false), (.slice (.some (.mk 5 0 .none)) 6 6), (.int .i64 (0)), (.slice (.some (.mk 6 0 .none)) 6 6), (.int .i64 (0)), U, U, U, U, U, U, U, U, U, U, U, U, U, U, U, U, U, U, U, U, U, U, U, U, U, U, U, U, U, U, (.tuple #[(.slice (.some (.mk 5 0 .none)) 6 6), (.int .i64 (0))]), (.agg #[(.int .i64 (4)), (.int .i64 (0)), (.int .i64 (0)), (.int .i64 (-2)), (.int .i64 (0)), (.int .i64 (2))]), (.tuple #[(.slice (.some (.mk 5 0 .none)) 6 6), (.int .i64 (0))]), (.slice (.some (.mk 5 0 .none)) 6 6), (.int .i64 (0)), (.tuple #[(.slice (.some (.mk 6 0 .none)) 6 6), (.int .i64 (0))]), (.agg #[(.int .i64 (4)), (.int .i64 (0)), (.int .i64 (0)), (.int .i64 (-2)), (.int .i64 (0)), (.int .i64 (2))]), (.tuple #[(.slice (.some (.mk 6 0 .none)) 6 6), (.int .i64 (0))]), (.slice (.some (.mk 6 0 .none)) 6 6), (.int .i64 (0)), U, U, U, U, U, U, U, U, U, U, U, U, U, U, U, U, U, U, U, U, U, U, U, U, U, U, U, U, U, U, U, U, U, U, U, U, U, U, U, U, U, U, U, U, U, U, U, U, U, U, U, U, U, U, U, U, U, U, U, U, U, U, U, U, U, U, U, U, U, U, U, U, U, U, U, U, U, U, U, U, U, U, U, U, U, U, U, U, U, U, U, U, U, U, U, U, U, U, U, U, U, U, U, U, U, U, U, U, U, U, U, U, U, U, U, U, U, U, U, U, U, U, U, U, U, U, U, U, U, U, U, U, U, U, U, U, U, U, U, U, U, U, U, U, U, U, U, U, U, U, U, U, U, U, U, U, U, U, U, U, U, U, U, U, U, U, U, U, U, U, U, U, U, U, U, U, U, U, U, U, U, U, U, U, U, U, U, U, U, U, U, U, U, U, U, U, U, U]
noncomputable def X3 : Heap := (H [(.some (.cells [(.int .i64 (8)), (.int .i64 (4)), (.int .i64 (2)), (.int .i64 (1)), (.int .i64 (0)), (.int .i64 (0))] 3 .row)), (.some (.cells [(.int .i64 (-8)), (.int .i64 (-4)), (.int .i64 (-2)), (.int .i64 (-1)), (.int .i64 (-1)), (.int .i64 (-1))] 3 .row))])
noncomputable def L4 : List Value := [(.bool false), (.slice (.some (.mk 5 0 .none)) 6 6), (.int .i64 (0)), (.slice (.some (.mk 6 0 .none)) 6 6), (.int .i64 (0)), (.int .i64 (2)), (.int .i64 (1)), (.int .i64 (0)), U, U, U, U, U, U, U, U, U, U, U, U, U, U, U, U, U, U, U, U, U, U, U, U, U, U, U, (.tuple #[(.slice (.some (.mk 5 0 .none)) 6 6), (.int .i64 (0))]), (.agg #[(.int .i64 (4)), (.int .i64 (0)), (.int .i64 (0)), (.int .i64 (-2)), (.int .i64 (0)), (.int .i64 (2))]), (.tuple #[(.slice (.some (.mk 5 0 .none)) 6 6), (.int .i64 (0))]), (.slice (.some (.mk 5 0 .none)) 6 6), (.int .i64 (0)), (.tuple #[(.slice (.some (.mk 6 0 .none)) 6 6), (.int .i64 (0))]), (.agg #[(.int .i64 (4)), (.int .i64 (0)), (.int .i64 (0)), (.int .i64 (-2)), (.int .i64 (0)), (.int .i64 (2))]), (.tuple #[(.slice (.some (.mk 6 0 .none)) 6 6), (.int .i64 (0))]), (.slice (.some (.mk 6 0 .none)) 6 6), (.int .i64 (0)), (.tuple #[(.int .i64 (2)), (.int .i64 (1)), (.int .i64 (0))]), (.agg #[(.int .i64 (4)), (.int .i64 (0)), (.int .i64 (0)), (.int .i64 (-2)), (.int .i64 (0)), (.int .i64 (2))]), (.agg #[(.int .i64 (0)), (.int .i64 (0)), (.int .i64 (1)), (.int .i64 (2))]), (.tuple #[(.int .i64 (2)), (.int .i64 (1)), (.int .i64 (0))]), (.int .i64 (2)), (.int .i64 (1)), (.int .i64 (0)), U, U, U, U, U, U, U, U, U, U, U, U, U, U, U, U, U, U, U, U, U, U, U, U, U, U, U, U, U, U, U, U, U, U, U, U, U, U, U, U, U, U, U, U, U, U, U, U, U, U, U, U, U, U, U, U, U, U, U, U, U, U, U, U, U, U, U, U, U, U, U, U, U, U, U, U, U, U, U, U, U, U, U, U, U, U, U, U, U, U, U, U, U, U, U, U, U, U, U, U, U, U, U, U, U, U, U, U, U, U, U, U, U, U, U, U, U, U, U, U, U, U, U, U, U, U, U, U, U, U, U, U, U, U, U, U, U, U, U, U, U, U, U, U, U, U, U, U, U, U, U, U, U, U, U, U, U, U, U, U, U, U, U, U, U, U, U, U, U, U, U, U, U, U, U, U, U, U, U, U, U, U, U, U, U, U, U, U, U, U, U]
noncomputable def X4 : Heap := (H [(.some (.cells [(.int .i64 (8)), (.int .i64 (4)), (.int .i64 (2)), (.int .i64 (1)), (.int .i64 (0)), (.int .i64 (0))] 3 .row)), (.some (.cells [(.int .i64 (-8)), (.int .i64 (-4)), (.int .i64 (-2)), (.int .i64 (-1)), (.int .i64 (-1)), (.int .i64 (-1))] 3 .row))])
noncomputable def L5 : List Value := [(.bool false), (.slice (.some (.mk 5 0 .none)) 6 6), (.int .i64 (0)), (.slice (.some (.mk 6 0 .none)) 6 6), (.int .i64 (0)), (.int .i64 (2)), (.int .i64 (1)), (.int .i64 (0)), (.int .i64 (0)), (.int .i64 (1)), (.int .i64 (0)), U, U, U, U, U, U, U, U, U, U, U, U, U, U, U, U, U, U, U, U, U, U, U, U, (.tuple #[(.slice (.some (.mk 5 0 .none)) 6 6), (.int .i64 (0))]), (.agg #[(.int .i64 (4)), (.int .i64 (0)), (.int .i64 (0)), (.int .i64 (-2)), (.int .i64 (0)), (.int .i64 (2))]), (.tuple #[(.slice (.some (.mk 5 0 .none)) 6 6), (.int .i64 (0))]), (.slice (.some (.mk 5 0 .none)) 6 6), (.int .i64 (0)), (.tuple #[(.slice (.some (.mk 6 0 .none)) 6 6), (.int .i64 (0))]), (.agg #[(.int .i64 (4)), (.int .i64 (0)), (.int .i64 (0)), (.int .i64 (-2)), (.int .i64 (0)), (.int .i64 (2))]), (.tuple #[(.slice (.some (.mk 6 0 .none)) 6 6), (.int .i64 (0))]), (.slice (.some (.mk 6 0 .none)) 6 6), (.int .i64 (0)), (.tuple #[(.int .i64 (2)), (.int .i64 (1)), (.int .i64 (0))]), (.agg #[(.int .i64 (4)), (.int .i64 (0)), (.int .i64 (0)), (.int .i64 (-2)), (.int .i64 (0)), (.int .i64 (2))]), (.agg #[(.int .i64 (0)), (.int .i64 (0)), (.int .i64 (1)), (.int .i64 (2))]), (.tuple #[(.int .i64 (2)), (.int .i64 (1)), (.int .i64 (0))]), (.int .i64 (2)), (.int .i64 (1)), (.int .i64 (0)), (.tuple #[(.int .i64 (0)), (.int .i64 (1)), (.int .i64 (0))]), (.agg #[(.int .i64 (4)), (.int .i64 (0)), (.int .i64 (0)), (.int .i64 (-2)), (.int .i64 (0)), (.int .i64 (2))]), (.agg #[(.int .i64 (0)), (.int .i64 (0)), (.int .i64 (-1)), (.int .i64 (-1))]), (.tuple #[(.int .i64 (0)), (.int .i64 (1)), (.int .i64 (0))]), (.int .i64 (0)), (.int .i64 (1)), (.int .i64 (0)), U, U, U, U, U, U, U, U, U, U, U, U, U, U, U, U, U, U, U, U, U, U, U, U, U, U, U, U, U, U, U, U, U, U, U, U, U, U, U, U, U, U, U, U, U, U, U, U, U, U, U, U, U, U, U, U, U, U, U, U, U, U, U, U, U, U, U, U, U, U, U, U, U, U, U, U, U, U, U, U, U, U, U, U, U, U, U, U, U, U, U, U, U, U, U, U, U, U, U, U, U, U, U, U, U, U, U, U, U, U, U, U, U, U, U, U, U, U, U, U, U, U, U, U, U, U, U, U, U, U, U, U, U, U, U, U, U, U, U, U, U, U, U, U, U, U, U, U, U, U, U, U, U, U, U, U, U, U, U, U, U, U, U, U, U, U, U, U, U, U, U, U, U, U, U, U, U, U, U, U, U, U, U, U]
noncomputable def X5 : Heap := (H [(.some (.cells [(.int .i64 (8)), (.int .i64 (4)), (.int .i64 (2)), (.int .i64 (1)), (.int .i64 (0)), (.int .i64 (0))] 3 .row)), (.some (.cells [(.int .i64 (-8)), (.int .i64 (-4)), (.int .i64 (-2)), (.int .i64 (-1)), (.int .i64 (-1)), (.int .i64 (-1))] 3 .row))])
noncomputable def L6 : List Value := [(.bool false), (.slice (.some (.mk 5 0 .none)) 6 6), (.int .i64 (0)), (.slice (.some (.mk 6 0 .none)) 6 6), (.int .i64 (0)), (.int .i64 (2)), (.int .i64 (1)), (.int .i64 (0)), (.int .i64 (0)), (.int .i64 (1)), (.int .i64 (0)), (.bool true), (.int .i64 (0)), U, U, U, U, U, U, U, U, U, U, U, U, U, U, U, U, U, U, U, U, U, U, (.tuple #[(.slice (.some (.mk 5 0 .none)) 6 6), (.int .i64 (0))]), (.agg #[(.int .i64 (4)), (.int .i64 (0)), (.int .i64 (0)), (.int .i64 (-2)), (.int .i64 (0)), (.int .i64 (2))]), (.tuple #[(.slice (.some (.mk 5 0 .none)) 6 6), (.int .i64 (0))]), (.slice (.some (.mk 5 0 .none)) 6 6), (.int .i64 (0)), (.tuple #[(.slice (.some (.mk 6 0 .none)) 6 6), (.int .i64 (0))]), (.agg #[(.int .i64 (4)), (.int .i64 (0)), (.int .i64 (0)), (.int .i64 (-2)), (.int .i64 (0)), (.int .i64 (2))]), (.tuple #[(.slice (.some (.mk 6 0 .none)) 6 6), (.int .i64 (0))]), (.slice (.some (.mk 6 0 .none)) 6 6), (.int .i64 (0)), (.tuple #[(.int .i64 (2)), (.int .i64 (1)), (.int .i64 (0))]), (.agg #[(.int .i64 (4)), (.int .i64 (0)), (.int .i64 (0)), (.int .i64 (-2)), (.int .i64 (0)), (.int .i64 (2))]), (.agg #[(.int .i64 (0)), (.int .i64 (0)), (.int .i64 (1)), (.int .i64 (2))]), (.tuple #[(.int .i64 (2)), (.int .i64 (1)), (.int .i64 (0))]), (.int .i64 (2)), (.int .i64 (1)), (.int .i64 (0)), (.tuple #[(.int .i64 (0)), (.int .i64 (1)), (.int .i64 (0))]), (.agg #[(.int .i64 (4)), (.int .i64 (0)), (.int .i64 (0)), (.int .i64 (-2)), (.int .i64 (0)), (.int .i64 (2))]), (.agg #[(.int .i64 (0)), (.int .i64 (0)), (.int .i64 (-1)), (.int .i64 (-1))]), (.tuple #[(.int .i64 (0)), (.int .i64 (1)), (.int .i64 (0))]), (.int .i64 (0)), (.int .i64 (1)), (.int .i64 (0)), (.tuple #[(.bool true), (.int .i64 (0))]), (.agg #[(.int .i64 (4)), (.int .i64 (0)), (.int .i64 (0)), (.int .i64 (-2)), (.int .i64 (0)), (.int .i64 (2))]), (.tuple #[(.bool true), (.int .i64 (0))]), (.bool true), (.int .i64 (0)), U, U, U, U, U, U, U, U, U, U, U, U, U, U, U, U, U, U, U, U, U, U, U, U, U, U, U, U, U, U, U, U, U, U, U, U, U, U, U, U, U, U, U, U, U, U, U, U, U, U, U, U, U, U, U, U, U, U, U, U, U, U, U, U, U, U, U, U, U, U, U, U, U, U, U, U, U, U, U, U, U, U, U, U, U, U, U, U, U, U, U, U, U, U, U, U, U, U, U, U, U, U, U, U, U, U, U, U, U, U, U, U, U, U, U, U, U, U, U, U, U, U, U, U, U, U, U, U, U, U, U, U, U, U, U, U, U, U, U, U, U, U, U, U, U, U, U, U, U, U, U, U, U, U, U, U, U, U, U, U, U, U, U, U, U, U, U, U, U, U, U, U, U, U, U, U, U, U, U]
noncomputable def X6 : Heap := (H [(.some (.cells [(.int .i64 (8)), (.int .i64 (4)), (.int .i64 (2)), (.int .i64 (1)), (.int .i64 (0)), (.int .i64 (0))] 3 .row)), (.some (.cells [(.int .i64 (-8)), (.int .i64 (-4)), (.int .i64 (-2)), (.int .i64 (-1)), (.int .i64 (-1)), (.int .i64 (-1))] 3 .row))])
noncomputable def L7 : List Value := [(.bool false), (.slice (.some (.mk 5 0 .none)) 6 6), (.int .i64 (0)), (.slice (.some (.mk 6 0 .none)) 6 6), (.int .i64 (0)), (.int .i64 (2)), (.int .i64 (1)), (.int .i64 (0)), (.int .i64 (0)), (.int .i64 (1)), (.int .i64 (0)), (.bool true), (.int .i64 (0)), (.bool true), (.int .i64 (0)), U, U, U, U, U, U, U, U, U, U, U, U, U, U, U, U, U, U, U, U, (.tuple #[(.slice (.some (.mk 5 0 .none)) 6 6), (.int .i64 (0))]), (.agg #[(.int .i64 (4)), (.int .i64 (0)), (.int .i64 (0)), (.int .i64 (-2)), (.int .i64 (0)), (.int .i64 (2))]), (.tuple #[(.slice (.some (.mk 5 0 .none)) 6 6), (.int .i64 (0))]), (.slice (.some (.mk 5 0 .none)) 6 6), (.int .i64 (0)), (.tuple #[(.slice (.some (.mk 6 0 .none)) 6 6), (.int .i64 (0))]), (.agg #[(.int .i64 (4)), (.int .i64 (0)), (.int .i64 (0)), (.int .i64 (-2)), (.int .i64 (0)), (.int .i64 (2))]), (.tuple #[(.slice (.some (.mk 6 0 .none)) 6 6), (.int .i64 (0))]), (.slice (.some (.mk 6 0 .none)) 6 6), (.int .i64 (0)), (.tuple #[(.int .i64 (2)), (.int .i64 (1)), (.int .i64 (0))]), (.agg #[(.int .i64 (4)), (.int .i64 (0)), (.int .i64 (0)), (.int .i64 (-2)), (.int .i64 (0)), (.int .i64 (2))]), (.agg #[(.int .i64 (0)), (.int .i64 (0)), (.int .i64 (1)), (.int .i64 (2))]), (.tuple #[(.int .i64 (2)), (.int .i64 (1)), (.int .i64 (0))]), (.int .i64 (2)), (.int .i64 (1)), (.int .i64 (0)), (.tuple #[(.int .i64 (0)), (.int .i64 (1)), (.int .i64 (0))]), (.agg #[(.int .i64 (4)), (.int .i64 (0)), (.int .i64 (0)), (.int .i64 (-2)), (.int .i64 (0)), (.int .i64 (2))]), (.agg #[(.int .i64 (0)), (.int .i64 (0)), (.int .i64 (-1)), (.int .i64 (-1))]), (.tuple #[(.int .i64 (0)), (.int .i64 (1)), (.int .i64 (0))]), (.int .i64 (0)), (.int .i64 (1)), (.int .i64 (0)), (.tuple #[(.bool true), (.int .i64 (0))]), (.agg #[(.int .i64 (4)), (.int .i64 (0)), (.int .i64 (0)), (.int .i64 (-2)), (.int .i64 (0)), (.int .i64 (2))]), (.tuple #[(.bool true), (.int .i64 (0))]), (.bool true), (.int .i64 (0)), (.tuple #[(.bool true), (.int .i64 (0))]), (.agg #[(.int .i64 (4)), (.int .i64 (0)), (.int .i64 (0)), (.int .i64 (-2)), (.int .i64 (0)), (.int .i64 (2))]), (.tuple #[(.bool true), (.int .i64 (0))]), (.bool true), (.int .i64 (0)), U, U, U, U, U, U, U, U, U, U, U, U, U, U, U, U, U, U, U, U, U, U, U, U, U, U, U, U, U, U, U, U, U, U, U, U, U, U, U, U, U, U, U, U, U, U, U, U, U, U, U, U, U, U, U, U, U, U, U, U, U, U, U, U, U, U, U, U, U, U, U, U, U, U, U, U, U, U, U, U, U, U, U, U, U, U, U, U, U, U, U, U, U, U, U, U, U, U, U, U, U, U, U, U, U, U, U, U, U, U, U, U, U, U, U, U, U, U, U, U, U, U, U, U, U, U, U, U, U, U, U, U, U, U, U, U, U, U, U, U, U, U, U, U, U, U, U, U, U, U, U, U, U, U, U, U, U, U, U, U, U, U, U, U, U, U, U, U, U, U, U, U, U, U]
noncomputable def X7 : Heap := (H [(.some (.cells [(.int .i64 (8)), (.int .i64 (4)), (.int .i64 (2)), (.int .i64 (1)), (.int .i64 (0)), (.int .i64 (0))] 3 .row)), (.some (.cells [(.int .i64 (-8)), (.int .i64 (-4)), (.int .i64 (-2)), (.int .i64 (-1)), (.int .i64 (-1)), (.int .i64 (-1))] 3 .row))])
noncomputable def L8 : List Value := [(.bool false), (.slice (.some (.mk 5 0 .none)) 6 6), (.int .i64 (0)), (.slice (.some (.mk 6 0 .none)) 6 6), (.int .i64 (0)), (.int .i64 (2)), (.int .i64 (1)), (.int .i64 (0)), (.int .i64 (0)), (.int .i64 (1)), (.int .i64 (0)), (.bool true), (.int .i64 (0)), (.bool true), (.int .i64 (0)), (.int .i64 (16)), (.int .i64 (0)), U, U, U, U, U, U, U, U, U, U, U, U, U, U, U, U, U, U, (.tuple #[(.slice (.some (.mk 5 0 .none)) 6 6), (.int .i64 (0))]), (.agg #[(.int .i64 (4)), (.int .i64 (0)), (.int .i64 (0)), (.int .i64 (-2)), (.int .i64 (0)), (.int .i64 (2))]), (.tuple #[(.slice (.some (.mk 5 0 .none)) 6 6), (.int .i64 (0))]), (.slice (.some (.mk 5 0 .none)) 6 6), (.int .i64 (0)), (.tuple #[(.slice (.some (.mk 6 0 .none)) 6 6), (.int .i64 (0))]), (.agg #[(.int .i64 (4)), (.int .i64 (0)), (.int .i64 (0)), (.int .i64 (-2)), (.int .i64 (0)), (.int .i64 (2))]), (.tuple #[(.slice (.some (.mk 6 0 .none)) 6 6), (.int .i64 (0))]), (.slice (.some (.mk 6 0 .none)) 6 6), (.int .i64 (0)), (.tuple #[(.int .i64 (2)), (.int .i64 (1)), (.int .i64 (0))]), (.agg #[(.int .i64 (4)), (.int .i64 (0)), (.int .i64 (0)), (.int .i64 (-2)), (.int .i64 (0)), (.int .i64 (2))]), (.agg #[(.int .i64 (0)), (.int .i64 (0)), (.int .i64 (1)), (.int .i64 (2))]), (.tuple #[(.int .i64 (2)), (.int .i64 (1)), (.int .i64 (0))]), (.int .i64 (2)), (.int .i64 (1)), (.int .i64 (0)), (.tuple #[(.int .i64 (0)), (.int .i64 (1)), (.int .i64 (0))]), (.agg #[(.int .i64 (4)), (.int .i64 (0)), (.int .i64 (0)), (.int .i64 (-2)), (.int .i64 (0)), (.int .i64 (2))]), (.agg #[(.int .i64 (0)), (.int .i64 (0)), (.int .i64 (-1)), (.int .i64 (-1))]), (.tuple #[(.int .i64 (0)), (.int .i64 (1)), (.int .i64 (0))]), (.int .i64 (0)), (.int .i64 (1)), (.int .i64 (0)), (.tuple #[(.bool true), (.int .i64 (0))]), (.agg #[(.int .i64 (4)), (.int .i64 (0)), (.int .i64 (0)), (.int .i64 (-2)), (.int .i64 (0)), (.int .i64 (2))]), (.tuple #[(.bool true), (.int .i64 (0))]), (.bool true), (.int .i64 (0)), (.tuple #[(.bool true), (.int .i64 (0))]), (.agg #[(.int .i64 (4)), (.int .i64 (0)), (.int .i64 (0)), (.int .i64 (-2)), (.int .i64 (0)), (.int .i64 (2))]), (.tuple #[(.bool true), (.int .i64 (0))]), (.bool true), (.int .i64 (0)), (.tuple #[(.int .i64 (16)), (.int .i64 (0))]), (.agg #[(.int .i64 (4)), (.int .i64 (0)), (.int .i64 (0)), (.int .i64 (-2)), (.int .i64 (0)), (.int .i64 (2))]), (.tuple #[(.int .i64 (16)), (.int .i64 (0))]), (.int .i64 (16)), (.int .i64 (0)), U, U, U, U, U, U, U, U, U, U, U, U, U, U, U, U, U, U, U, U, U, U, U, U, U, U, U, U, U, U, U, U, U, U, U, U, U, U, U, U, U, U, U, U, U, U, U, U, U, U, U, U, U, U, U, U, U, U, U, U, U, U, U, U, U, U, U, U, U, U, U, U, U, U, U, U, U, U, U, U, U, U, U, U, U, U, U, U, U, U, U, U, U, U, U, U, U, U, U, U, U, U, U, U, U, U, U, U, U, U, U, U, U, U, U, U, U, U, U, U, U, U, U, U, U, U, U, U, U, U, U, U, U, U, U, U, U, U, U, U, U, U, U, U, U, U, U, U, U, U, U, U, U, U, U, U, U, U, U, U, U, U, U, U, U, U, U, U, U]
noncomputable def X8 : Heap := (H [(.some (.cells [(.int .i64 (8)), (.int .i64 (4)), (.int .i64 (2)), (.int .i64 (1)), (.int .i64 (0)), (.int .i64 (0))] 3 .row)), (.some (.cells [(.int .i64 (-8)), (.int .i64 (-4)), (.int .i64 (-2)), (.int .i64 (-1)), (.int .i64 (-1)), (.int .i64 (-1))] 3 .row))])
noncomputable def L9 : List Value := [(.bool false), (.slice (.some (.mk 5 0 .none)) 6 6), (.int .i64 (0)), (.slice (.some (.mk 6 0 .none)) 6 6), (.int .i64 (0)), (.int .i64 (2)), (.int .i64 (1)), (.int .i64 (0)), (.int .i64 (0)), (.int .i64 (1)), (.int .i64 (0)), (.bool true), (.int .i64 (0)), (.bool true), (.int .i64 (0)), (.int .i64 (16)), (.int .i64 (0)), (.pointer (.some (.mk 7 0 .none))), (.int .i64 (0)), U, U, U, U, U, U, U, U, U, U, U, U, U, U, U, U, (.tuple #[(.slice (.some (.mk 5 0 .none)) 6 6), (.int .i64 (0))]), (.agg #[(.int .i64 (4)), (.int .i64 (0)), (.int .i64 (0)), (.int .i64 (-2)), (.int .i64 (0)), (.int .i64 (2))]), (.tuple #[(.slice (.some (.mk 5 0 .none)) 6 6), (.int .i64 (0))]), (.slice (.some (.mk 5 0 .none)) 6 6), (.int .i64 (0)), (.tuple #[(.slice (.some (.mk 6 0 .none)) 6 6), (.int .i64 (0))]), (.agg #[(.int .i64 (4)), (.int .i64 (0)), (.int .i64 (0)), (.int .i64 (-2)), (.int .i64 (0)), (.int .i64 (2))]), (.tuple #[(.slice (.some (.mk 6 0 .none)) 6 6), (.int .i64 (0))]), (.slice (.some (.mk 6 0 .none)) 6 6), (.int .i64 (0)), (.tuple #[(.int .i64 (2)), (.int .i64 (1)), (.int .i64 (0))]), (.agg #[(.int .i64 (4)), (.int .i64 (0)), (.int .i64 (0)), (.int .i64 (-2)), (.int .i64 (0)), (.int .i64 (2))]), (.agg #[(.int .i64 (0)), (.int .i64 (0)), (.int .i64 (1)), (.int .i64 (2))]), (.tuple #[(.int .i64 (2)), (.int .i64 (1)), (.int .i64 (0))]), (.int .i64 (2)), (.int .i64 (1)), (.int .i64 (0)), (.tuple #[(.int .i64 (0)), (.int .i64 (1)), (.int .i64 (0))]), (.agg #[(.int .i64 (4)), (.int .i64 (0)), (.int .i64 (0)), (.int .i64 (-2)), (.int .i64 (0)), (.int .i64 (2))]), (.agg #[(.int .i64 (0)), (.int .i64 (0)), (.int .i64 (-1)), (.int .i64 (-1))]), (.tuple #[(.int .i64 (0)), (.int .i64 (1)), (.int .i64 (0))]), (.int .i64 (0)), (.int .i64 (1)), (.int .i64 (0)), (.tuple #[(.bool true), (.int .i64 (0))]), (.agg #[(.int .i64 (4)), (.int .i64 (0)), (.int .i64 (0)), (.int .i64 (-2)), (.int .i64 (0)), (.int .i64 (2))]), (.tuple #[(.bool true), (.int .i64 (0))]), (.bool true), (.int .i64 (0)), (.tuple #[(.bool true), (.int .i64 (0))]), (.agg #[(.int .i64 (4)), (.int .i64 (0)), (.int .i64 (0)), (.int .i64 (-2)), (.int .i64 (0)), (.int .i64 (2))]), (.tuple #[(.bool true), (.int .i64 (0))]), (.bool true), (.int .i64 (0)), (.tuple #[(.int .i64 (16)), (.int .i64 (0))]), (.agg #[(.int .i64 (4)), (.int .i64 (0)), (.int .i64 (0)), (.int .i64 (-2)), (.int .i64 (0)), (.int .i64 (2))]), (.tuple #[(.int .i64 (16)), (.int .i64 (0))]), (.int .i64 (16)), (.int .i64 (0)), (.tuple #[(.agg #[(.int .i64 (4)), (.int .i64 (0)), (.int .i64 (4)), (.int .i64 (2))]), (.int .i64 (0))]), (.agg #[(.int .i64 (4)), (.int .i64 (0)), (.int .i64 (0)), (.int .i64 (-2)), (.int .i64 (0)), (.int .i64 (2))]), (.tuple #[(.agg #[(.int .i64 (4)), (.int .i64 (0)), (.int .i64 (4)), (.int .i64 (2))]), (.int .i64 (0))]), (.agg #[(.int .i64 (4)), (.int .i64 (0)), (.int .i64 (4)), (.int .i64 (2))]), (.int .i64 (0)), U, U, U, U, U, U, U, U, U, U, U, U, U, U, U, U, U, U, U, U, U, U, U, U, U, U, U, U, U, U, U, U, U, U, U, U, U, U, U, U, U, U, U, U, U, U, U, U, U, U, U, U, U, U, U, U, U, U, U, U, U, U, U, U, U, U, U, U, U, U, U, U, U, U, U, U, U, U, U, U, U, U, U, U, U, U, U, U, U, U, U, U, U, U, U, U, U, U, U, U, U, U, U, U, U, U, U, U, U, U, U, U, U, U, U, U, U, U, U, U, U, U, U, U, U, U, U, U, U, U, U, U, U, U, U, U, U, U, U, U, U, U, U, U, U, U, U, U, U, U, U, U, U, U, U, U, U, U, U, U, U, U, U, U]
noncomputable def X9 : Heap := (H [(.some (.cells [(.int .i64 (8)), (.int .i64 (4)), (.int .i64 (2)), (.int .i64 (1)), (.int .i64 (0)), (.int .i64 (0))] 3 .row)), (.some (.cells [(.int .i64 (-8)), (.int .i64 (-4)), (.int .i64 (-2)), (.int .i64 (-1)), (.int .i64 (-1)), (.int .i64 (-1))] 3 .row)), (.some (.cells [(.int .i64 (4)), (.int .i64 (0)), (.int .i64 (4)), (.int .i64 (2))] 49 .var))])
noncomputable def L10 : List Value := [(.bool false), (.slice (.some (.mk 5 0 .none)) 6 6), (.int .i64 (0)), (.slice (.some (.mk 6 0 .none)) 6 6), (.int .i64 (0)), (.int .i64 (2)), (.int .i64 (1)), (.int .i64 (0)), (.int .i64 (0)), (.int .i64 (1)), (.int .i64 (0)), (.bool true), (.int .i64 (0)), (.bool true), (.int .i64 (0)), (.int .i64 (16)), (.int .i64 (0)), (.pointer (.some (.mk 7 0 .none))), (.int .i64 (0)), (.slice (.some (.mk 9 0 .none)) 3 3), (.int .i64 (0)), U, U, U, U, U, U, U, U, U, U, U, U, U, U, (.tuple #[(.slice (.some (.mk 5 0 .none)) 6 6), (.int .i64 (0))]), (.agg #[(.int .i64 (4)), (.int .i64 (0)), (.int .i64 (0)), (.int .i64 (-2)), (.int .i64 (0)), (.int .i64 (2))]), (.tuple #[(.slice (.some (.mk 5 0 .none)) 6 6), (.int .i64 (0))]), (.slice (.some (.mk 5 0 .none)) 6 6), (.int .i64 (0)), (.tuple #[(.slice (.some (.mk 6 0 .none)) 6 6), (.int .i64 (0))]), (.agg #[(.int .i64 (4)), (.int .i64 (0)), (.int .i64 (0)), (.int .i64 (-2)), (.int .i64 (0)), (.int .i64 (2))]), (.tuple #[(.slice (.some (.mk 6 0 .none)) 6 6), (.int .i64 (0))]), (.slice (.some (.mk 6 0 .none)) 6 6), (.int .i64 (0)), (.tuple #[(.int .i64 (2)), (.int .i64 (1)), (.int .i64 (0))]), (.agg #[(.int .i64 (4)), (.int .i64 (0)), (.int .i64 (0)), (.int .i64 (-2)), (.int .i64 (0)), (.int .i64 (2))]), (.agg #[(.int .i64 (0)), (.int .i64 (0)), (.int .i64 (1)), (.int .i64 (2))]), (.tuple #[(.int .i64 (2)), (.int .i64 (1)), (.int .i64 (0))]), (.int .i64 (2)), (.int .i64 (1)), (.int .i64 (0)), (.tuple #[(.int .i64 (0)), (.int .i64 (1)), (.int .i64 (0))]), (.agg #[(.int .i64 (4)), (.int .i64 (0)), (.int .i64 (0)), (.int .i64 (-2)), (.int .i64 (0)), (.int .i64 (2))]), (.agg #[(.int .i64 (0)), (.int .i64 (0)), (.int .i64 (-1)), (.int .i64 (-1))]), (.tuple #[(.int .i64 (0)), (.int .i64 (1)), (.int .i64 (0))]), (.int .i64 (0)), (.int .i64 (1)), (.int .i64 (0)), (.tuple #[(.bool true), (.int .i64 (0))]), (.agg #[(.int .i64 (4)), (.int .i64 (0)), (.int .i64 (0)), (.int .i64 (-2)), (.int .i64 (0)), (.int .i64 (2))]), (.tuple #[(.bool true), (.int .i64 (0))]), (.bool true), (.int .i64 (0)), (.tuple #[(.bool true), (.int .i64 (0))]), (.agg #[(.int .i64 (4)), (.int .i64 (0)), (.int .i64 (0)), (.int .i64 (-2)), (.int .i64 (0)), (.int .i64 (2))]), (.tuple #[(.bool true), (.int .i64 (0))]), (.bool true), (.int .i64 (0)), (.tuple #[(.int .i64 (16)), (.int .i64 (0))]), (.agg #[(.int .i64 (4)), (.int .i64 (0)), (.int .i64 (0)), (.int .i64 (-2)), (.int .i64 (0)), (.int .i64 (2))]), (.tuple #[(.int .i64 (16)), (.int .i64 (0))]), (.int .i64 (16)), (.int .i64 (0)), (.tuple #[(.agg #[(.int .i64 (4)), (.int .i64 (0)), (.int .i64 (4)), (.int .i64 (2))]), (.int .i64 (0))]), (.agg #[(.int .i64 (4)), (.int .i64 (0)), (.int .i64 (0)), (.int .i64 (-2)), (.int .i64 (0)), (.int .i64 (2))]), (.tuple #[(.agg #[(.int .i64 (4)), (.int .i64 (0)), (.int .i64 (4)), (.int .i64 (2))]), (.int .i64 (0))]), (.agg #[(.int .i64 (4)), (.int .i64 (0)), (.int .i64 (4)), (.int .i64 (2))]), (.int .i64 (0)), (.tuple #[(.slice (.some (.mk 9 0 .none)) 3 3), (.int .i64 (0))]), (.agg #[(.int .i64 (1)), (.int .i64 (2)), (.int .i64 (1)), (.int .i64 (0)), (.int .i64 (0)), (.int .i64 (2))]), (.slice (.some (.mk 8 0 .none)) 3 3), (.tuple #[(.slice (.some (.mk 9 0 .none)) 3 3), (.int .i64 (0))]), (.slice (.some (.mk 9 0 .none)) 3 3), (.int .i64 (0)), U, U, U, U, U, U, U, U, U, U, U, U, U, U, U, U, U, U, U, U, U, U, U, U, U, U, U, U, U, U, U, U, U, U, U, U, U, U, U, U, U, U, U, U, U, U, U, U, U, U, U, U, U, U, U, U, U, U, U, U, U, U, U, U, U, U, U, U, U, U, U, U, U, U, U, U, U, U, U, U, U, U, U, U, U, U, U, U, U, U, U, U, U, U, U, U, U, U, U, U, U, U, U, U, U, U, U, U, U, U, U, U, U, U, U, U, U, U, U, U, U, U, U, U, U, U, U, U, U, U, U, U, U, U, U, U, U, U, U, U, U, U, U, U, U, U, U, U, U, U, U, U, U, U, U, U, U, U]
noncomputable def X10 : Heap := (H [(.some (.cells [(.int .i64 (8)), (.int .i64 (4)), (.int .i64 (2)), (.int .i64 (1)), (.int .i64 (0)), (.int .i64 (0))] 3 .row)), (.some (.cells [(.int .i64 (-8)), (.int .i64 (-4)), (.int .i64 (-2)), (.int .i64 (-1)), (.int .i64 (-1)), (.int .i64 (-1))] 3 .row)), (.some (.cells [(.int .i64 (4)), (.int .i64 (0)), (.int .i64 (4)), (.int .i64 (2))] 49 .var)), (.some (.cells [(.int .i64 (4)), (.int .i64 (0)), (.int .i64 (0))] 3 .row)), (.some (.cells [(.int .i64 (1)), (.int .i64 (2)), (.int .i64 (1))] 3 .row))])
noncomputable def L11 : List Value := [(.bool false), (.slice (.some (.mk 5 0 .none)) 6 6), (.int .i64 (0)), (.slice (.some (.mk 6 0 .none)) 6 6), (.int .i64 (0)), (.int .i64 (2)), (.int .i64 (1)), (.int .i64 (0)), (.int .i64 (0)), (.int .i64 (1)), (.int .i64 (0)), (.bool true), (.int .i64 (0)), (.bool true), (.int .i64 (0)), (.int .i64 (16)), (.int .i64 (0)), (.pointer (.some (.mk 7 0 .none))), (.int .i64 (0)), (.slice (.some (.mk 9 0 .none)) 3 3), (.int .i64 (0)), (.pointer (.some (.mk 10 0 .none))), (.int .i64 (0)), U, U, U, U, U, U, U, U, U, U, U, U, (.tuple #[(.slice (.some (.mk 5 0 .none)) 6 6), (.int .i64 (0))]), (.agg #[(.int .i64 (4)), (.int .i64 (0)), (.int .i64 (0)), (.int .i64 (-2)), (.int .i64 (0)), (.int .i64 (2))]), (.tuple #[(.slice (.some (.mk 5 0 .none)) 6 6), (.int .i64 (0))]), (.slice (.some (.mk 5 0 .none)) 6 6), (.int .i64 (0)), (.tuple #[(.slice (.some (.mk 6 0 .none)) 6 6), (.int .i64 (0))]), (.agg #[(.int .i64 (4)), (.int .i64 (0)), (.int .i64 (0)), (.int .i64 (-2)), (.int .i64 (0)), (.int .i64 (2))]), (.tuple #[(.slice (.some (.mk 6 0 .none)) 6 6), (.int .i64 (0))]), (.slice (.some (.mk 6 0 .none)) 6 6), (.int .i64 (0)), (.tuple #[(.int .i64 (2)), (.int .i64 (1)), (.int .i64 (0))]), (.agg #[(.int .i64 (4)), (.int .i64 (0)), (.int .i64 (0)), (.int .i64 (-2)), (.int .i64 (0)), (.int .i64 (2))]), (.agg #[(.int .i64 (0)), (.int .i64 (0)), (.int .i64 (1)), (.int .i64 (2))]), (.tuple #[(.int .i64 (2)), (.int .i64 (1)), (.int .i64 (0))]), (.int .i64 (2)), (.int .i64 (1)), (.int .i64 (0)), (.tuple #[(.int .i64 (0)), (.int .i64 (1)), (.int .i64 (0))]), (.agg #[(.int .i64 (4)), (.int .i64 (0)), (.int .i64 (0)), (.int .i64 (-2)), (.int .i64 (0)), (.int .i64 (2))]), (.agg #[(.int .i64 (0)), (.int .i64 (0)), (.int .i64 (-1)), (.int .i64 (-1))]), (.tuple #[(.int .i64 (0)), (.int .i64 (1)), (.int .i64 (0))]), (.int .i64 (0)), (.int .i64 (1)), (.int .i64 (0)), (.tuple #[(.bool true), (.int .i64 (0))]), (.agg #[(.int .i64 (4)), (.int .i64 (0)), (.int .i64 (0)), (.int .i64 (-2)), (.int .i64 (0)), (.int .i64 (2))]), (.tuple #[(.bool true), (.int .i64 (0))]), (.bool true), (.int .i64 (0)), (.tuple #[(.bool true), (.int .i64 (0))]), (.agg #[(.int .i64 (4)), (.int .i64 (0)), (.int .i64 (0)), (.int .i64 (-2)), (.int .i64 (0)), (.int .i64 (2))]), (.tuple #[(.bool true), (.int .i64 (0))]), (.bool true), (.int .i64 (0)), (.tuple #[(.int .i64 (16)), (.int .i64 (0))]), (.agg #[(.int .i64 (4)), (.int .i64 (0)), (.int .i64 (0)), (.int .i64 (-2)), (.int .i64 (0)), (.int .i64 (2))]), (.tuple #[(.int .i64 (16)), (.int .i64 (0))]), (.int .i64 (16)), (.int .i64 (0)), (.tuple #[(.agg #[(.int .i64 (4)), (.int .i64 (0)), (.int .i64 (4)), (.int .i64 (2))]), (.int .i64 (0))]), (.agg #[(.int .i64 (4)), (.int .i64 (0)), (.int .i64 (0)), (.int .i64 (-2)), (.int .i64 (0)), (.int .i64 (2))]), (.tuple #[(.agg #[(.int .i64 (4)), (.int .i64 (0)), (.int .i64 (4)), (.int .i64 (2))]), (.int .i64 (0))]), (.agg #[(.int .i64 (4)), (.int .i64 (0)), (.int .i64 (4)), (.int .i64 (2))]), (.int .i64 (0)), (.tuple #[(.slice (.some (.mk 9 0 .none)) 3 3), (.int .i64 (0))]), (.agg #[(.int .i64 (1)), (.int .i64 (2)), (.int .i64 (1)), (.int .i64 (0)), (.int .i64 (0)), (.int .i64 (2))]), (.slice (.some (.mk 8 0 .none)) 3 3), (.tuple #[(.slice (.some (.mk 9 0 .none)) 3 3), (.int .i64 (0))]), (.slice (.some (.mk 9 0 .none)) 3 3), (.int .i64 (0)), (.tuple #[(.agg #[(.int .i64 (1)), (.int .i64 (1))]), (.int .i64 (0))]), (.agg #[(.int .i64 (1)), (.int .i64 (2)), (.int .i64 (1)), (.int .i64 (0)), (.int .i64 (0)), (.int .i64 (2))]), (.tuple #[(.agg #[(.int .i64 (1)), (.int .i64 (1))]), (.int .i64 (0))]), (.agg #[(.int .i64 (1)), (.int .i64 (1))]), (.int .i64 (0)), U, U, U, U, U, U, U, U, U, U, U, U, U, U, U, U, U, U, U, U, U, U, U, U, U, U, U, U, U, U, U, U, U, U, U, U, U, U, U, U, U, U, U, U, U, U, U, U, U, U, U, U, U, U, U, U, U, U, U, U, U, U, U, U, U, U, U, U, U, U, U, U, U, U, U, U, U, U, U, U, U, U, U, U, U, U, U, U, U, U, U, U, U, U, U, U, U, U, U, U, U, U, U, U, U, U, U, U, U, U, U, U, U, U, U, U, U, U, U, U, U, U, U, U, U, U, U, U, U, U, U, U, U, U, U, U, U, U, U, U, U, U, U, U, U, U, U, U, U, U, U, U, U]
noncomputable def X11 : Heap := (H [(.some (.cells [(.int .i64 (8)), (.int .i64 (4)), (.int .i64 (2)), (.int .i64 (1)), (.int .i64 (0)), (.int .i64 (0))] 3 .row)), (.some (.cells [(.int .i64 (-8)), (.int .i64 (-4)), (.int .i64 (-2)), (.int .i64 (-1)), (.int .i64 (-1)), (.int .i64 (-1))] 3 .row)), (.some (.cells [(.int .i64 (4)), (.int .i64 (0)), (.int .i64 (4)), (.int .i64 (2))] 49 .var)), (.some (.cells [(.int .i64 (4)), (.int .i64 (0)), (.int .i64 (0))] 3 .row)), (.some (.cells [(.int .i64 (1)), (.int .i64 (2)), (.int .i64 (1))] 3 .row)), (.some (.cells [(.int .i64 (1)), (.int .i64 (1))] 53 .var))])
noncomputable def L12 : List Value := [(.bool false), (.slice (.some (.mk 5 0 .none)) 6 6), (.int .i64 (0)), (.slice (.some (.mk 6 0 .none)) 6 6), (.int .i64 (0)), (.int .i64 (2)), (.int .i64 (1)), (.int .i64 (0)), (.int .i64 (0)), (.int .i64 (1)), (.int .i64 (0)), (.bool true), (.int .i64 (0)), (.bool true), (.int .i64 (0)), (.int .i64 (16)), (.int .i64 (0)), (.pointer (.some (.mk 7 0 .none))), (.int .i64 (0)), (.slice (.some (.mk 9 0 .none)) 3 3), (.int .i64 (0)), (.pointer (.some (.mk 10 0 .none))), (.int .i64 (0)), (.pointer (.some (.mk 11 0 .none))), (.int .i64 (0)), U, U, U, U, U, U, U, U, U, U, (.tuple #[(.slice (.some (.mk 5 0 .none)) 6 6), (.int .i64 (0))]), (.agg #[(.int .i64 (4)), (.int .i64 (0)), (.int .i64 (0)), (.int .i64 (-2)), (.int .i64 (0)), (.int .i64 (2))]), (.tuple #[(.slice (.some (.mk 5 0 .none)) 6 6), (.int .i64 (0))]), (.slice (.some (.mk 5 0 .none)) 6 6), (.int .i64 (0)), (.tuple #[(.slice (.some (.mk 6 0 .none)) 6 6), (.int .i64 (0))]), (.agg #[(.int .i64 (4)), (.int .i64 (0)), (.int .i64 (0)), (.int .i64 (-2)), (.int .i64 (0)), (.int .i64 (2))]), (.tuple #[(.slice (.some (.mk 6 0 .none)) 6 6), (.int .i64 (0))]), (.slice (.some (.mk 6 0 .none)) 6 6), (.int .i64 (0)), (.tuple #[(.int .i64 (2)), (.int .i64 (1)), (.int .i64 (0))]), (.agg #[(.int .i64 (4)), (.int .i64 (0)), (.int .i64 (0)), (.int .i64 (-2)), (.int .i64 (0)), (.int .i64 (2))]), (.agg #[(.int .i64 (0)), (.int .i64 (0)), (.int .i64 (1)), (.int .i64 (2))]), (.tuple #[(.int .i64 (2)), (.int .i64 (1)), (.int .i64 (0))]), (.int .i64 (2)), (.int .i64 (1)), (.int .i64 (0)), (.tuple #[(.int .i64 (0)), (.int .i64 (1)), (.int .i64 (0))]), (.agg #[(.int .i64 (4)), (.int .i64 (0)), (.int .i64 (0)), (.int .i64 (-2)), (.int .i64 (0)), (.int .i64 (2))]), (.agg #[(.int .i64 (0)), (.int .i64 (0)), (.int .i64 (-1)), (.int .i64 (-1))]), (.tuple #[(.int .i64 (0)), (.int .i64 (1)), (.int .i64 (0))]), (.int .i64 (0)), (.int .i64 (1)), (.int .i64 (0)), (.tuple #[(.bool true), (.int .i64 (0))]), (.agg #[(.int .i64 (4)), (.int .i64 (0)), (.int .i64 (0)), (.int .i64 (-2)), (.int .i64 (0)), (.int .i64 (2))]), (.tuple #[(.bool true), (.int .i64 (0))]), (.bool true), (.int .i64 (0)), (.tuple #[(.bool true), (.int .i64 (0))]), (.agg #[(.int .i64 (4)), (.int .i64 (0)), (.int .i64 (0)), (.int .i64 (-2)), (.int .i64 (0)), (.int .i64 (2))]), (.tuple #[(.bool true), (.int .i64 (0))]), (.bool true), (.int .i64 (0)), (.tuple #[(.int .i64 (16)), (.int .i64 (0))]), (.agg #[(.int .i64 (4)), (.int .i64 (0)), (.int .i64 (0)), (.int .i64 (-2)), (.int .i64 (0)), (.int .i64 (2))]), (.tuple #[(.int .i64 (16)), (.int .i64 (0))]), (.int .i64 (16)), (.int .i64 (0)), (.tuple #[(.agg #[(.int .i64 (4)), (.int .i64 (0)), (.int .i64 (4)), (.int .i64 (2))]), (.int .i64 (0))]), (.agg #[(.int .i64 (4)), (.int .i64 (0)), (.int .i64 (0)), (.int .i64 (-2)), (.int .i64 (0)), (.int .i64 (2))]), (.tuple #[(.agg #[(.int .i64 (4)), (.int .i64 (0)), (.int .i64 (4)), (.int .i64 (2))]), (.int .i64 (0))]), (.agg #[(.int .i64 (4)), (.int .i64 (0)), (.int .i64 (4)), (.int .i64 (2))]), (.int .i64 (0)), (.tuple #[(.slice (.some (.mk 9 0 .none)) 3 3), (.int .i64 (0))]), (.agg #[(.int .i64 (1)), (.int .i64 (2)), (.int .i64 (1)), (.int .i64 (0)), (.int .i64 (0)), (.int .i64 (2))]), (.slice (.some (.mk 8 0 .none)) 3 3), (.tuple #[(.slice (.some (.mk 9 0 .none)) 3 3), (.int .i64 (0))]), (.slice (.some (.mk 9 0 .none)) 3 3), (.int .i64 (0)), (.tuple #[(.agg #[(.int .i64 (1)), (.int .i64 (1))]), (.int .i64 (0))]), (.agg #[(.int .i64 (1)), (.int .i64 (2)), (.int .i64 (1)), (.int .i64 (0)), (.int .i64 (0)), (.int .i64 (2))]), (.tuple #[(.agg #[(.int .i64 (1)), (.int .i64 (1))]), (.int .i64 (0))]), (.agg #[(.int .i64 (1)), (.int .i64 (1))]), (.int .i64 (0)), (.tuple #[(.agg #[(.int .i64 (1)), (.int .i64 (2))]), (.int .i64 (0))]), (.agg #[(.int .i64 (1)), (.int .i64 (1)), (.int .i64 (0)), (.int .i64 (0)), (.int .i64 (0)), (.int .i64 (0))]), (.tuple #[(.agg #[(.int .i64 (1)), (.int .i64 (2))]), (.int .i64 (0))]), (.agg #[(.int .i64 (1)), (.int .i64 (2))]), (.int .i64 (0)), U, U, U, U, U, U, U, U, U, U, U, U, U, U, U, U, U, U, U, U, U, U, U, U, U, U, U, U, U, U, U, U, U, U, U, U, U, U, U, U, U, U, U, U, U, U, U, U, U, U, U, U, U, U, U, U, U, U, U, U, U, U, U, U, U, U, U, U, U, U, U, U, U, U, U, U, U, U, U, U, U, U, U, U, U, U, U, U, U, U, U, U, U, U, U, U, U, U, U, U, U, U, U, U, U, U, U, U, U, U, U, U, U, U, U, U, U, U, U, U, U, U, U, U, U, U, U, U, U, U, U, U, U, U, U, U, U, U, U, U, U, U, U, U, U, U, U, U]
noncomputable def X12 : Heap := (H [(.some (.cells [(.int .i64 (8)), (.int .i64 (4)), (.int .i64 (2)), (.int .i64 (1)), (.int .i64 (0)), (.int .i64 (0))] 3 .row)), (.some (.cells [(.int .i64 (-8)), (.int .i64 (-4)), (.int .i64 (-2)), (.int .i64 (-1)), (.int .i64 (-1)), (.int .i64 (-1))] 3 .row)), (.some (.cells [(.int .i64 (4)), (.int .i64 (0)), (.int .i64 (4)), (.int .i64 (2))] 49 .var)), (.some (.cells [(.int .i64 (4)), (.int .i64 (0)), (.int .i64 (0))] 3 .row)), (.some (.cells [(.int .i64 (1)), (.int .i64 (2)), (.int .i64 (1))] 3 .row)), (.some (.cells [(.int .i64 (1)), (.int .i64 (1))] 53 .var)), (.some (.cells [(.int .i64 (1)), (.int .i64 (2))] 53 .var))])
noncomputable def L13 : List Value := [(.bool false), (.slice (.some (.mk 5 0 .none)) 6 6), (.int .i64 (0)), (.slice (.some (.mk 6 0 .none)) 6 6), (.int .i64 (0)), (.int .i64 (2)), (.int .i64 (1)), (.int .i64 (0)), (.int .i64 (0)), (.int .i64 (1)), (.int .i64 (0)), (.bool true), (.int .i64 (0)), (.bool true), (.int .i64 (0)), (.int .i64 (16)), (.int .i64 (0)), (.pointer (.some (.mk 7 0 .none))), (.int .i64 (0)), (.slice (.some (.mk 9 0 .none)) 3 3), (.int .i64 (0)), (.pointer (.some (.mk 10 0 .none))), (.int .i64 (0)), (.pointer (.some (.mk 11 0 .none))), (.int .i64 (0)), U, U, U, U, U, U, U, U, U, U, (.tuple #[(.slice (.some (.mk 5 0 .none)) 6 6), (.int .i64 (0))]), (.agg #[(.int .i64 (4)), (.int .i64 (0)), (.int .i64 (0)), (.int .i64 (-2)), (.int .i64 (0)), (.int .i64 (2))]), (.tuple #[(.slice (.some (.mk 5 0 .none)) 6 6), (.int .i64 (0))]), (.slice (.some (.mk 5 0 .none)) 6 6), (.int .i64 (0)), (.tuple #[(.slice (.some (.mk 6 0 .none)) 6 6), (.int .i64 (0))]), (.agg #[(.int .i64 (4)), (.int .i64 (0)), (.int .i64 (0)), (.int .i64 (-2)), (.int .i64 (0)), (.int .i64 (2))]), (.tuple #[(.slice (.some (.mk 6 0 .none)) 6 6), (.int .i64 (0))]), (.slice (.some (.mk 6 0 .none)) 6 6), (.int .i64 (0)), (.tuple #[(.int .i64 (2)), (.int .i64 (1)), (.int .i64 (0))]), (.agg #[(.int .i64 (4)), (.int .i64 (0)), (.int .i64 (0)), (.int .i64 (-2)), (.int .i64 (0)), (.int .i64 (2))]), (.agg #[(.int .i64 (0)), (.int .i64 (0)), (.int .i64 (1)), (.int .i64 (2))]), (.tuple #[(.int .i64 (2)), (.int .i64 (1)), (.int .i64 (0))]), (.int .i64 (2)), (.int .i64 (1)), (.int .i64 (0)), (.tuple #[(.int .i64 (0)), (.int .i64 (1)), (.int .i64 (0))]), (.agg #[(.int .i64 (4)), (.int .i64 (0)), (.int .i64 (0)), (.int .i64 (-2)), (.int .i64 (0)), (.int .i64 (2))]), (.agg #[(.int .i64 (0)), (.int .i64 (0)), (.int .i64 (-1)), (.int .i64 (-1))]), (.tuple #[(.int .i64 (0)), (.int .i64 (1)), (.int .i64 (0))]), (.int .i64 (0)), (.int .i64 (1)), (.int .i64 (0)), (.tuple #[(.bool true), (.int .i64 (0))]), (.agg #[(.int .i64 (4)), (.int .i64 (0)), (.int .i64 (0)), (.int .i64 (-2)), (.int .i64 (0)), (.int .i64 (2))]), (.tuple #[(.bool true), (.int .i64 (0))]), (.bool true), (.int .i64 (0)), (.tuple #[(.bool true), (.int .i64 (0))]), (.agg #[(.int .i64 (4)), (.int .i64 (0)), (.int .i64 (0)), (.int .i64 (-2)), (.int .i64 (0)), (.int .i64 (2))]), (.tuple #[(.bool true), (.int .i64 (0))]), (.bool true), (.int .i64 (0)), (.tuple #[(.int .i64 (16)), (.int .i64 (0))]), (.agg #[(.int .i64 (4)), (.int .i64 (0)), (.int .i64 (0)), (.int .i64 (-2)), (.int .i64 (0)), (.int .i64 (2))]), (.tuple #[(.int .i64 (16)), (.int .i64 (0))]), (.int .i64 (16)), (.int .i64 (0)), (.tuple #[(.agg #[(.int .i64 (4)), (.int .i64 (0)), (.int .i64 (4)), (.int .i64 (2))]), (.int .i64 (0))]), (.agg #[(.int .i64 (4)), (.int .i64 (0)), (.int .i64 (0)), (.int .i64 (-2)), (.int .i64 (0)), (.int .i64 (2))]), (.tuple #[(.agg #[(.int .i64 (4)), (.int .i64 (0)), (.int .i64 (4)), (.int .i64 (2))]), (.int .i64 (0))]), (.agg #[(.int .i64 (4)), (.int .i64 (0)), (.int .i64 (4)), (.int .i64 (2))]), (.int .i64 (0)), (.tuple #[(.slice (.some (.mk 9 0 .none)) 3 3), (.int .i64 (0))]), (.agg #[(.int .i64 (1)), (.int .i64 (2)), (.int .i64 (1)), (.int .i64 (0)), (.int .i64 (0)), (.int .i64 (2))]), (.slice (.some (.mk 8 0 .none)) 3 3), (.tuple #[(.slice (.some (.mk 9 0 .none)) 3 3), (.int .i64 (0))]), (.slice (.some (.mk 9 0 .none)) 3 3), (.int .i64 (0)), (.tuple #[(.agg #[(.int .i64 (1)), (.int .i64 (1))]), (.int .i64 (0))]), (.agg #[(.int .i64 (1)), (.int .i64 (2)), (.int .i64 (1)), (.int .i64 (0)), (.int .i64 (0)), (.int .i64 (2))]), (.tuple #[(.agg #[(.int .i64 (1)), (.int .i64 (1))]), (.int .i64 (0))]), (.agg #[(.int .i64 (1)), (.int .i64 (1))]), (.int .i64 (0)), (.tuple #[(.agg #[(.int .i64 (1)), (.int .i64 (2))]), (.int .i64 (0))]), (.agg #[(.int .i64 (1)), (.int .i64 (1)), (.int .i64 (0)), (.int .i64 (0)), (.int .i64 (0)), (.int .i64 (0))]), (.tuple #[(.agg #[(.int .i64 (1)), (.int .i64 (2))]), (.int .i64 (0))]), (.agg #[(.int .i64 (1)), (.int .i64 (2))]), (.int .i64 (0)), (.int .i64 (0)), (.int .i64 (0)), (.int .i64 (0)), (.int .i64 (0)), (.int .i64 (0)), (.int .i64 (0)), (.int .i64 (0)), (.int .i64 (0)), (.int .i64 (0)), (.int .i64 (0)), (.int .i64 (0)), (.int .i64 (0)), (.int .i64 (0)), (.int .i64 (0)), (.int .i64 (0)), (.int .i64 (0)), (.int .i64 (0)), (.int .i64 (0)), (.int .i64 (0)), (.int .i64 (0)), (.int .i64 (0)), (.bool false), (.bool false), (.slice (.some (.mk 5 0 .none)) 6 6), (.slice (.some (.mk 12 0 .none)) 6 6), (.bool true), (.bool false), (.bool false), (.bool false), (.slice (.some (.mk 6 0 .none)) 6 6), (.slice (.some (.mk 13 0 .none)) 6 6), (.bool true), (.bool false), (.bool false), (.bool false), (.int .i64 (2)), (.bool false), (.bool false), (.bool false), (.int .i64 (1)), (.bool false), (.bool false), (.bool false), (.int .i64 (0)), (.bool false), (.bool false), (.bool false), (.int .i64 (1)), (.bool false), (.bool false), (.bool false), (.bool true), (.bool false), (.bool false), (.bool false), (.bool true), (.bool false), (.bool false), (.bool false), (.int .i64 (16)), (.bool false), (.bool false), (.bool false), (.agg #[(.int .i64 (4)), (.int .i64 (0)), (.int .i64 (4)), (.int .i64 (2))]), (.agg #[(.int .i64 (4)), (.int .i64 (0))]), (.agg #[(.int .i64 (4)), (.int .i64 (2))]), (.agg #[(.int .i64 (4)), (.int .i64 (0)), (.int .i64 (4)), (.int .i64 (2))]), (.bool false), (.bool false), (.bool false), (.slice (.some (.mk 9 0 .none)) 3 3), (.slice (.some (.mk 14 0 .none)) 3 3), (.bool true), (.bool false), (.bool false), (.bool false), (.agg #[(.int .i64 (1)), (.int .i64 (1))]), (.agg #[(.int .i64 (1)), (.int .i64 (1))]), (.bool false), (.bool false), (.bool false), (.agg #[(.int .i64 (1)), (.int .i64 (2))]), (.agg #[(.int .i64 (1)), (.int .i64 (2))]), (.bool false), (.bool false), U, U, U, U, U, U, U, U, U, U, U, U, U, U, U, U, U, U, U, U, U, U, U, U, U, U, U, U, U, U, U, U, U, U, U, U, U, U, U, U, U, U, U, U, U, U, U, U, U, U, U, U, U, U, U, U, U, U, U, U, U, U, U]
noncomputable def X13 : Heap := (H [(.some (.cells [(.int .i64 (8)), (.int .i64 (4)), (.int .i64 (2)), (.int .i64 (1)), (.int .i64 (0)), (.int .i64 (0))] 3 .row)), (.some (.cells [(.int .i64 (-8)), (.int .i64 (-4)), (.int .i64 (-2)), (.int .i64 (-1)), (.int .i64 (-1)), (.int .i64 (-1))] 3 .row)), (.some (.cells [(.int .i64 (4)), (.int .i64 (0)), (.int .i64 (4)), (.int .i64 (2))] 49 .var)), (.some (.cells [(.int .i64 (4)), (.int .i64 (0)), (.int .i64 (0))] 3 .row)), (.some (.cells [(.int .i64 (1)), (.int .i64 (2)), (.int .i64 (1))] 3 .row)), (.some (.cells [(.int .i64 (1)), (.int .i64 (1))] 53 .var)), (.some (.cells [(.int .i64 (1)), (.int .i64 (2))] 53 .var)), (.some (.cells [(.int .i64 (8)), (.int .i64 (4)), (.int .i64 (2)), (.int .i64 (1)), (.int .i64 (0)), (.int .i64 (0))] 3 .row)), (.some (.cells [(.int .i64 (-8)), (.int .i64 (-4)), (.int .i64 (-2)), (.int .i64 (-1)), (.int .i64 (-1)), (.int .i64 (-1))] 3 .row)), (.some (.cells [(.int .i64 (1)), (.int .i64 (2)), (.int .i64 (1))] 3 .row))])
noncomputable def L14 : List Value := [(.bool false), (.slice (.some (.mk 5 0 .none)) 6 6), (.int .i64 (0)), (.slice (.some (.mk 6 0 .none)) 6 6), (.int .i64 (0)), (.int .i64 (2)), (.int .i64 (1)), (.int .i64 (0)), (.int .i64 (0)), (.int .i64 (1)), (.int .i64 (0)), (.bool true), (.int .i64 (0)), (.bool true), (.int .i64 (0)), (.int .i64 (16)), (.int .i64 (0)), (.pointer (.some (.mk 7 0 .none))), (.int .i64 (0)), (.slice (.some (.mk 9 0 .none)) 3 3), (.int .i64 (0)), (.pointer (.some (.mk 10 0 .none))), (.int .i64 (0)), (.pointer (.some (.mk 11 0 .none))), (.int .i64 (0)), (.slice (.some (.mk 16 0 .none)) 3 3), (.int .i64 (0)), U, U, U, U, U, U, U, U, (.tuple #[(.slice (.some (.mk 5 0 .none)) 6 6), (.int .i64 (0))]), (.agg #[(.int .i64 (4)), (.int .i64 (0)), (.int .i64 (0)), (.int .i64 (-2)), (.int .i64 (0)), (.int .i64 (2))]), (.tuple #[(.slice (.some (.mk 5 0 .none)) 6 6), (.int .i64 (0))]), (.slice (.some (.mk 5 0 .none)) 6 6), (.int .i64 (0)), (.tuple #[(.slice (.some (.mk 6 0 .none)) 6 6), (.int .i64 (0))]), (.agg #[(.int .i64 (4)), (.int .i64 (0)), (.int .i64 (0)), (.int .i64 (-2)), (.int .i64 (0)), (.int .i64 (2))]), (.tuple #[(.slice (.some (.mk 6 0 .none)) 6 6), (.int .i64 (0))]), (.slice (.some (.mk 6 0 .none)) 6 6), (.int .i64 (0)), (.tuple #[(.int .i64 (2)), (.int .i64 (1)), (.int .i64 (0))]), (.agg #[(.int .i64 (4)), (.int .i64 (0)), (.int .i64 (0)), (.int .i64 (-2)), (.int .i64 (0)), (.int .i64 (2))]), (.agg #[(.int .i64 (0)), (.int .i64 (0)), (.int .i64 (1)), (.int .i64 (2))]), (.tuple #[(.int .i64 (2)), (.int .i64 (1)), (.int .i64 (0))]), (.int .i64 (2)), (.int .i64 (1)), (.int .i64 (0)), (.tuple #[(.int .i64 (0)), (.int .i64 (1)), (.int .i64 (0))]), (.agg #[(.int .i64 (4)), (.int .i64 (0)), (.int .i64 (0)), (.int .i64 (-2)), (.int .i64 (0)), (.int .i64 (2))]), (.agg #[(.int .i64 (0)), (.int .i64 (0)), (.int .i64 (-1)), (.int .i64 (-1))]), (.tuple #[(.int .i64 (0)), (.int .i64 (1)), (.int .i64 (0))]), (.int .i64 (0)), (.int .i64 (1)), (.int .i64 (0)), (.tuple #[(.bool true), (.int .i64 (0))]), (.agg #[(.int .i64 (4)), (.int .i64 (0)), (.int .i64 (0)), (.int .i64 (-2)), (.int .i64 (0)), (.int .i64 (2))]), (.tuple #[(.bool true), (.int .i64 (0))]), (.bool true), (.int .i64 (0)), (.tuple #[(.bool true), (.int .i64 (0))]), (.agg #[(.int .i64 (4)), (.int .i64 (0)), (.int .i64 (0)), (.int .i64 (-2)), (.int .i64 (0)), (.int .i64 (2))]), (.tuple #[(.bool true), (.int .i64 (0))]), (.bool true), (.int .i64 (0)), (.tuple #[(.int .i64 (16)), (.int .i64 (0))]), (.agg #[(.int .i64 (4)), (.int .i64 (0)), (.int .i64 (0)), (.int .i64 (-2)), (.int .i64 (0)), (.int .i64 (2))]), (.tuple #[(.int .i64 (16)), (.int .i64 (0))]), (.int .i64 (16)), (.int .i64 (0)), (.tuple #[(.agg #[(.int .i64 (4)), (.int .i64 (0)), (.int .i64 (4)), (.int .i64 (2))]), (.int .i64 (0))]), (.agg #[(.int .i64 (4)), (.int .i64 (0)), (.int .i64 (0)), (.int .i64 (-2)), (.int .i64 (0)), (.int .i64 (2))]), (.tuple #[(.agg #[(.int .i64 (4)), (.int .i64 (0)), (.int .i64 (4)), (.int .i64 (2))]), (.int .i64 (0))]), (.agg #[(.int .i64 (4)), (.int .i64 (0)), (.int .i64 (4)), (.int .i64 (2))]), (.int .i64 (0)), (.tuple #[(.slice (.some (.mk 9 0 .none)) 3 3), (.int .i64 (0))]), (.agg #[(.int .i64 (1)), (.int .i64 (2)), (.int .i64 (1)), (.int .i64 (0)), (.int .i64 (0)), (.int .i64 (2))]), (.slice (.some (.mk 8 0 .none)) 3 3), (.tuple #[(.slice (.some (.mk 9 0 .none)) 3 3), (.int .i64 (0))]), (.slice (.some (.mk 9 0 .none)) 3 3), (.int .i64 (0)), (.tuple #[(.agg #[(.int .i64 (1)), (.int .i64 (1))]), (.int .i64 (0))]), (.agg #[(.int .i64 (1)), (.int .i64 (2)), (.int .i64 (1)), (.int .i64 (0)), (.int .i64 (0)), (.int .i64 (2))]), (.tuple #[(.agg #[(.int .i64 (1)), (.int .i64 (1))]), (.int .i64 (0))]), (.agg #[(.int .i64 (1)), (.int .i64 (1))]), (.int .i64 (0)), (.tuple #[(.agg #[(.int .i64 (1)), (.int .i64 (2))]), (.int .i64 (0))]), (.agg #[(.int .i64 (1)), (.int .i64 (1)), (.int .i64 (0)), (.int .i64 (0)), (.int .i64 (0)), (.int .i64 (0))]), (.tuple #[(.agg #[(.int .i64 (1)), (.int .i64 (2))]), (.int .i64 (0))]), (.agg #[(.int .i64 (1)), (.int .i64 (2))]), (.int .i64 (0)), (.int .i64 (0)), (.int .i64 (0)), (.int .i64 (0)), (.int .i64 (0)), (.int .i64 (0)), (.int .i64 (0)), (.int .i64 (0)), (.int .i64 (0)), (.int .i64 (0)), (.int .i64 (0)), (.int .i64 (0)), (.int .i64 (0)), (.int .i64 (0)), (.int .i64 (0)), (.int .i64 (0)), (.int .i64 (0)), (.int .i64 (0)), (.int .i64 (0)), (.int .i64 (0)), (.int .i64 (0)), (.int .i64 (0)), (.bool false), (.bool false), (.slice (.some (.mk 5 0 .none)) 6 6), (.slice (.some (.mk 12 0 .none)) 6 6), (.bool true), (.bool false), (.bool false), (.bool false), (.slice (.some (.mk 6 0 .none)) 6 6), (.slice (.some (.mk 13 0 .none)) 6 6), (.bool true), (.bool false), (.bool false), (.bool false), (.int .i64 (2)), (.bool false), (.bool false), (.bool false), (.int .i64 (1)), (.bool false), (.bool false), (.bool false), (.int .i64 (0)), (.bool false), (.bool false), (.bool false), (.int .i64 (1)), (.bool false), (.bool false), (.bool false), (.bool true), (.bool false), (.bool false), (.bool false), (.bool true), (.bool false), (.bool false), (.bool false), (.int .i64 (16)), (.bool false), (.bool false), (.bool false), (.agg #[(.int .i64 (4)), (.int .i64 (0)), (.int .i64 (4)), (.int .i64 (2))]), (.agg #[(.int .i64 (4)), (.int .i64 (0))]), (.agg #[(.int .i64 (4)), (.int .i64 (2))]), (.agg #[(.int .i64 (4)), (.int .i64 (0)), (.int .i64 (4)), (.int .i64 (2))]), (.bool false), (.bool false), (.bool false), (.slice (.some (.mk 9 0 .none)) 3 3), (.slice (.some (.mk 14 0 .none)) 3 3), (.bool true), (.bool false), (.bool false), (.bool false), (.agg #[(.int .i64 (1)), (.int .i64 (1))]), (.agg #[(.int .i64 (1)), (.int .i64 (1))]), (.bool false), (.bool false), (.bool false), (.agg #[(.int .i64 (1)), (.int .i64 (2))]), (.agg #[(.int .i64 (1)), (.int .i64 (2))]), (.bool false), (.bool false), (.tuple #[(.slice (.some (.mk 16 0 .none)) 3 3), (.int .i64 (0))]), (.agg #[(.int .i64 (2)), (.int .i64 (1)), (.int .i64 (0)), (.int .i64 (0)), (.int .i64 (0)), (.int .i64 (1))]), (.slice (.some (.mk 15 0 .none)) 3 3), (.tuple #[(.slice (.some (.mk 16 0 .none)) 3 3), (.int .i64 (0))]), (.slice (.some (.mk 16 0 .none)) 3 3), (.int .i64 (0)), U, U, U, U, U, U, U, U, U, U, U, U, U, U, U, U, U, U, U, U, U, U, U, U, U, U, U, U, U, U, U, U, U, U, U, U, U, U, U, U, U, U, U, U, U, U, U, U, U, U, U, U, U, U, U, U, U]
noncomputable def X14 : Heap := (H [(.some (.cells [(.int .i64 (8)), (.int .i64 (4)), (.int .i64 (2)), (.int .i64 (1)), (.int .i64 (0)), (.int .i64 (0))] 3 .row)), (.some (.cells [(.int .i64 (-8)), (.int .i64 (-4)), (.int .i64 (-2)), (.int .i64 (-1)), (.int .i64 (-1)), (.int .i64 (-1))] 3 .row)), (.some (.cells [(.int .i64 (4)), (.int .i64 (0)), (.int .i64 (4)), (.int .i64 (2))] 49 .var)), (.some (.cells [(.int .i64 (4)), (.int .i64 (0)), (.int .i64 (0))] 3 .row)), (.some (.cells [(.int .i64 (1)), (.int .i64 (2)), (.int .i64 (1))] 3 .row)), (.some (.cells [(.int .i64 (1)), (.int .i64 (1))] 53 .var)), (.some (.cells [(.int .i64 (1)), (.int .i64 (2))] 53 .var)), (.some (.cells [(.int .i64 (8)), (.int .i64 (4)), (.int .i64 (2)), (.int .i64 (1)), (.int .i64 (0)), (.int .i64 (0))] 3 .row)), (.some (.cells [(.int .i64 (-8)), (.int .i64 (-4)), (.int .i64 (-2)), (.int .i64 (-1)), (.int .i64 (-1)), (.int .i64 (-1))] 3 .row)), (.some (.cells [(.int .i64 (1)), (.int .i64 (2)), (.int .i64 (1))] 3 .row)), (.some (.cells [(.int .i64 (3)), (.int .i64 (1)), (.int .i64 (-2))] 3 .row)), (.some (.cells [(.int .i64 (3)), (.int .i64 (2)), (.int .i64 (-2))] 3 .row))])
noncomputable def L15 : List Value := [(.bool false), (.slice (.some (.mk 5 0 .none)) 6 6), (.int .i64 (0)), (.slice (.some (.mk 6 0 .none)) 6 6), (.int .i64 (0)), (.int .i64 (2)), (.int .i64 (1)), (.int .i64 (0)), (.int .i64 (0)), (.int .i64 (1)), (.int .i64 (0)), (.bool true), (.int .i64 (0)), (.bool true), (.int .i64 (0)), (.int .i64 (16)), (.int .i64 (0)), (.pointer (.some (.mk 7 0 .none))), (.int .i64 (0)), (.slice (.some (.mk 9 0 .none)) 3 3), (.int .i64 (0)), (.pointer (.some (.mk 10 0 .none))), (.int .i64 (0)), (.pointer (.some (.mk 11 0 .none))), (.int .i64 (0)), (.slice (.some (.mk 16 0 .none)) 3 3), (.int .i64 (0)), (.slice (.some (.mk 18 0 .none)) 3 3), (.int .i64 (0)), U, U, U, U, U, U, (.tuple #[(.slice (.some (.mk 5 0 .none)) 6 6), (.int .i64 (0))]), (.agg #[(.int .i64 (4)), (.int .i64 (0)), (.int .i64 (0)), (.int .i64 (-2)), (.int .i64 (0)), (.int .i64 (2))]), (.tuple #[(.slice (.some (.mk 5 0 .none)) 6 6), (.int .i64 (0))]), (.slice (.some (.mk 5 0 .none)) 6 6), (.int .i64 (0)), (.tuple #[(.slice (.some (.mk 6 0 .none)) 6 6), (.int .i64 (0))]), (.agg #[(.int .i64 (4)), (.int .i64 (0)), (.int .i64 (0)), (.int .i64 (-2)), (.int .i64 (0)), (.int .i64 (2))]), (.tuple #[(.slice (.some (.mk 6 0 .none)) 6 6), (.int .i64 (0))]), (.slice (.some (.mk 6 0 .none)) 6 6), (.int .i64 (0)), (.tuple #[(.int .i64 (2)), (.int .i64 (1)), (.int .i64 (0))]), (.agg #[(.int .i64 (4)), (.int .i64 (0)), (.int .i64 (0)), (.int .i64 (-2)), (.int .i64 (0)), (.int .i64 (2))]), (.agg #[(.int .i64 (0)), (.int .i64 (0)), (.int .i64 (1)), (.int .i64 (2))]), (.tuple #[(.int .i64 (2)), (.int .i64 (1)), (.int .i64 (0))]), (.int .i64 (2)), (.int .i64 (1)), (.int .i64 (0)), (.tuple #[(.int .i64 (0)), (.int .i64 (1)), (.int .i64 (0))]), (.agg #[(.int .i64 (4)), (.int .i64 (0)), (.int .i64 (0)), (.int .i64 (-2)), (.int .i64 (0)), (.int .i64 (2))]), (.agg #[(.int .i64 (0)), (.int .i64 (0)), (.int .i64 (-1)), (.int .i64 (-1))]), (.tuple #[(.int .i64 (0)), (.int .i64 (1)), (.int .i64 (0))]), (.int .i64 (0)), (.int .i64 (1)), (.int .i64 (0)), (.tuple #[(.bool true), (.int .i64 (0))]), (.agg #[(.int .i64 (4)), (.int .i64 (0)), (.int .i64 (0)), (.int .i64 (-2)), (.int .i64 (0)), (.int .i64 (2))]), (.tuple #[(.bool true), (.int .i64 (0))]), (.bool true), (.int .i64 (0)), (.tuple #[(.bool true), (.int .i64 (0))]), (.agg #[(.int .i64 (4)), (.int .i64 (0)), (.int .i64 (0)), (.int .i64 (-2)), (.int .i64 (0)), (.int .i64 (2))]), (.tuple #[(.bool true), (.int .i64 (0))]), (.bool true), (.int .i64 (0)), (.tuple #[(.int .i64 (16)), (.int .i64 (0))]), (.agg #[(.int .i64 (4)), (.int .i64 (0)), (.int .i64 (0)), (.int .i64 (-2)), (.int .i64 (0)), (.int .i64 (2))]), (.tuple #[(.int .i64 (16)), (.int .i64 (0))]), (.int .i64 (16)), (.int .i64 (0)), (.tuple #[(.agg #[(.int .i64 (4)), (.int .i64 (0)), (.int .i64 (4)), (.int .i64 (2))]), (.int .i64 (0))]), (.agg #[(.int .i64 (4)), (.int .i64 (0)), (.int .i64 (0)), (.int .i64 (-2)), (.int .i64 (0)), (.int .i64 (2))]), (.tuple #[(.agg #[(.int .i64 (4)), (.int .i64 (0)), (.int .i64 (4)), (.int .i64 (2))]), (.int .i64 (0))]), (.agg #[(.int .i64 (4)), (.int .i64 (0)), (.int .i64 (4)), (.int .i64 (2))]), (.int .i64 (0)), (.tuple #[(.slice (.some (.mk 9 0 .none)) 3 3), (.int .i64 (0))]), (.agg #[(.int .i64 (1)), (.int .i64 (2)), (.int .i64 (1)), (.int .i64 (0)), (.int .i64 (0)), (.int .i64 (2))]), (.slice (.some (.mk 8 0 .none)) 3 3), (.tuple #[(.slice (.some (.mk 9 0 .none)) 3 3), (.int .i64 (0))]), (.slice (.some (.mk 9 0 .none)) 3 3), (.int .i64 (0)), (.tuple #[(.agg #[(.int .i64 (1)), (.int .i64 (1))]), (.int .i64 (0))]), (.agg #[(.int .i64 (1)), (.int .i64 (2)), (.int .i64 (1)), (.int .i64 (0)), (.int .i64 (0)), (.int .i64 (2))]), (.tuple #[(.agg #[(.int .i64 (1)), (.int .i64 (1))]), (.int .i64 (0))]), (.agg #[(.int .i64 (1)), (.int .i64 (1))]), (.int .i64 (0)), (.tuple #[(.agg #[(.int .i64 (1)), (.int .i64 (2))]), (.int .i64 (0))]), (.agg #[(.int .i64 (1)), (.int .i64 (1)), (.int .i64 (0)), (.int .i64 (0)), (.int .i64 (0)), (.int .i64 (0))]), (.tuple #[(.agg #[(.int .i64 (1)), (.int .i64 (2))]), (.int .i64 (0))]), (.agg #[(.int .i64 (1)), (.int .i64 (2))]), (.int .i64 (0)), (.int .i64 (0)), (.int .i64 (0)), (.int .i64 (0)), (.int .i64 (0)), (.int .i64 (0)), (.int .i64 (0)), (.int .i64 (0)), (.int .i64 (0)), (.int .i64 (0)), (.int .i64 (0)), (.int .i64 (0)), (.int .i64 (0)), (.int .i64 (0)), (.int .i64 (0)), (.int .i64 (0)), (.int .i64 (0)), (.int .i64 (0)), (.int .i64 (0)), (.int .i64 (0)), (.int .i64 (0)), (.int .i64 (0)), (.bool false), (.bool false), (.slice (.some (.mk 5 0 .none)) 6 6), (.slice (.some (.mk 12 0 .none)) 6 6), (.bool true), (.bool false), (.bool false), (.bool false), (.slice (.some (.mk 6 0 .none)) 6 6), (.slice (.some (.mk 13 0 .none)) 6 6), (.bool true), (.bool false), (.bool false), (.bool false), (.int .i64 (2)), (.bool false), (.bool false), (.bool false), (.int .i64 (1)), (.bool false), (.bool false), (.bool false), (.int .i64 (0)), (.bool false), (.bool false), (.bool false), (.int .i64 (1)), (.bool false), (.bool false), (.bool false), (.bool true), (.bool false), (.bool false), (.bool false), (.bool true), (.bool false), (.bool false), (.bool false), (.int .i64 (16)), (.bool false), (.bool false), (.bool false), (.agg #[(.int .i64 (4)), (.int .i64 (0)), (.int .i64 (4)), (.int .i64 (2))]), (.agg #[(.int .i64 (4)), (.int .i64 (0))]), (.agg #[(.int .i64 (4)), (.int .i64 (2))]), (.agg #[(.int .i64 (4)), (.int .i64 (0)), (.int .i64 (4)), (.int .i64 (2))]), (.bool false), (.bool false), (.bool false), (.slice (.some (.mk 9 0 .none)) 3 3), (.slice (.some (.mk 14 0 .none)) 3 3), (.bool true), (.bool false), (.bool false), (.bool false), (.agg #[(.int .i64 (1)), (.int .i64 (1))]), (.agg #[(.int .i64 (1)), (.int .i64 (1))]), (.bool false), (.bool false), (.bool false), (.agg #[(.int .i64 (1)), (.int .i64 (2))]), (.agg #[(.int .i64 (1)), (.int .i64 (2))]), (.bool false), (.bool false), (.tuple #[(.slice (.some (.mk 16 0 .none)) 3 3), (.int .i64 (0))]), (.agg #[(.int .i64 (2)), (.int .i64 (1)), (.int .i64 (0)), (.int .i64 (0)), (.int .i64 (0)), (.int .i64 (1))]), (.slice (.some (.mk 15 0 .none)) 3 3), (.tuple #[(.slice (.some (.mk 16 0 .none)) 3 3), (.int .i64 (0))]), (.slice (.some (.mk 16 0 .none)) 3 3), (.int .i64 (0)), (.tuple #[(.slice (.some (.mk 18 0 .none)) 3 3), (.int .i64 (0))]), (.agg #[(.int .i64 (2)), (.int .i64 (1)), (.int .i64 (0)), (.int .i64 (0)), (.int .i64 (0)), (.int .i64 (1))]), (.slice (.some (.mk 17 0 .none)) 3 3), (.tuple #[(.slice (.some (.mk 18 0 .none)) 3 3), (.int .i64 (0))]), (.slice (.some (.mk 18 0 .none)) 3 3), (.int .i64 (0)), U, U, U, U, U, U, U, U, U, U, U, U, U, U, U, U, U, U, U, U, U, U, U, U, U, U, U, U, U, U, U, U, U, U, U, U, U, U, U, U, U, U, U, U, U, U, U, U, U, U, U]
noncomputable def X15 : Heap := (H [(.some (.cells [(.int .i64 (8)), (.int .i64 (4)), (.int .i64 (2)), (.int .i64 (1)), (.int .i64 (0)), (.int .i64 (0))] 3 .row)), (.some (.cells [(.int .i64 (-8)), (.int .i64 (-4)), (.int .i64 (-2)), (.int .i64 (-1)), (.int .i64 (-1)), (.int .i64 (-1))] 3 .row)), (.some (.cells [(.int .i64 (4)), (.int .i64 (0)), (.int .i64 (4)), (.int .i64 (2))] 49 .var)), (.some (.cells [(.int .i64 (4)), (.int .i64 (0)), (.int .i64 (0))] 3 .row)), (.some (.cells [(.int .i64 (1)), (.int .i64 (2)), (.int .i64 (1))] 3 .row)), (.some (.cells [(.int .i64 (1)), (.int .i64 (1))] 53 .var)), (.some (.cells [(.int .i64 (1)), (.int .i64 (2))] 53 .var)), (.some (.cells [(.int .i64 (8)), (.int .i64 (4)), (.int .i64 (2)), (.int .i64 (1)), (.int .i64 (0)), (.int .i64 (0))] 3 .row)), (.some (.cells [(.int .i64 (-8)), (.int .i64 (-4)), (.int .i64 (-2)), (.int .i64 (-1)), (.int .i64 (-1)), (.int .i64 (-1))] 3 .row)), (.some (.cells [(.int .i64 (1)), (.int .i64 (2)), (.int .i64 (1))] 3 .row)), (.some (.cells [(.int .i64 (3)), (.int .i64 (1)), (.int .i64 (-2))] 3 .row)), (.some (.cells [(.int .i64 (3)), (.int .i64 (2)), (.int .i64 (-2))] 3 .row)), (.some (.cells [(.int .i64 (3)), (.int .i64 (2)), (.int .i64 (-2))] 3 .row)), (.some (.cells [(.int .i64 (3)), (.int .i64 (1)), (.int .i64 (-2))] 3 .row))])
noncomputable def L16 : List Value := [(.bool false), (.slice (.some (.mk 5 0 .none)) 6 6), (.int .i64 (0)), (.slice (.some (.mk 6 0 .none)) 6 6), (.int .i64 (0)), (.int .i64 (2)), (.int .i64 (1)), (.int .i64 (0)), (.int .i64 (0)), (.int .i64 (1)), (.int .i64 (0)), (.bool true), (.int .i64 (0)), (.bool true), (.int .i64 (0)), (.int .i64 (16)), (.int .i64 (0)), (.pointer (.some (.mk 7 0 .none))), (.int .i64 (0)), (.slice (.some (.mk 9 0 .none)) 3 3), (.int .i64 (0)), (.pointer (.some (.mk 10 0 .none))), (.int .i64 (0)), (.pointer (.some (.mk 11 0 .none))), (.int .i64 (0)), (.slice (.some (.mk 16 0 .none)) 3 3), (.int .i64 (0)), (.slice (.some (.mk 18 0 .none)) 3 3), (.int .i64 (0)), (.slice (.some (.mk 20 0 .none)) 2 2), (.int .i64 (0)), U, U, U, U, (.tuple #[(.slice (.some (.mk 5 0 .none)) 6 6), (.int .i64 (0))]), (.agg #[(.int .i64 (4)), (.int .i64 (0)), (.int .i64 (0)), (.int .i64 (-2)), (.int .i64 (0)), (.int .i64 (2))]), (.tuple #[(.slice (.some (.mk 5 0 .none)) 6 6), (.int .i64 (0))]), (.slice (.some (.mk 5 0 .none)) 6 6), (.int .i64 (0)), (.tuple #[(.slice (.some (.mk 6 0 .none)) 6 6), (.int .i64 (0))]), (.agg #[(.int .i64 (4)), (.int .i64 (0)), (.int .i64 (0)), (.int .i64 (-2)), (.int .i64 (0)), (.int .i64 (2))]), (.tuple #[(.slice (.some (.mk 6 0 .none)) 6 6), (.int .i64 (0))]), (.slice (.some (.mk 6 0 .none)) 6 6), (.int .i64 (0)), (.tuple #[(.int .i64 (2)), (.int .i64 (1)), (.int .i64 (0))]), (.agg #[(.int .i64 (4)), (.int .i64 (0)), (.int .i64 (0)), (.int .i64 (-2)), (.int .i64 (0)), (.int .i64 (2))]), (.agg #[(.int .i64 (0)), (.int .i64 (0)), (.int .i64 (1)), (.int .i64 (2))]), (.tuple #[(.int .i64 (2)), (.int .i64 (1)), (.int .i64 (0))]), (.int .i64 (2)), (.int .i64 (1)), (.int .i64 (0)), (.tuple #[(.int .i64 (0)), (.int .i64 (1)), (.int .i64 (0))]), (.agg #[(.int .i64 (4)), (.int .i64 (0)), (.int .i64 (0)), (.int .i64 (-2)), (.int .i64 (0)), (.int .i64 (2))]), (.agg #[(.int .i64 (0)), (.int .i64 (0)), (.int .i64 (-1)), (.int .i64 (-1))]), (.tuple #[(.int .i64 (0)), (.int .i64 (1)), (.int .i64 (0))]), (.int .i64 (0)), (.int .i64 (1)), (.int .i64 (0)), (.tuple #[(.bool true), (.int .i64 (0))]), (.agg #[(.int .i64 (4)), (.int .i64 (0)), (.int .i64 (0)), (.int .i64 (-2)), (.int .i64 (0)), (.int .i64 (2))]), (.tuple #[(.bool true), (.int .i64 (0))]), (.bool true), (.int .i64 (0)), (.tuple #[(.bool true), (.int .i64 (0))]), (.agg #[(.int .i64 (4)), (.int .i64 (0)), (.int .i64 (0)), (.int .i64 (-2)), (.int .i64 (0)), (.int .i64 (2))]), (.tuple #[(.bool true), (.int .i64 (0))]), (.bool true), (.int .i64 (0)), (.tuple #[(.int .i64 (16)), (.int .i64 (0))]), (.agg #[(.int .i64 (4)), (.int .i64 (0)), (.int .i64 (0)), (.int .i64 (-2)), (.int .i64 (0)), (.int .i64 (2))]), (.tuple #[(.int .i64 (16)), (.int .i64 (0))]), (.int .i64 (16)), (.int .i64 (0)), (.tuple #[(.agg #[(.int .i64 (4)), (.int .i64 (0)), (.int .i64 (4)), (.int .i64 (2))]), (.int .i64 (0))]), (.agg #[(.int .i64 (4)), (.int .i64 (0)), (.int .i64 (0)), (.int .i64 (-2)), (.int .i64 (0)), (.int .i64 (2))]), (.tuple #[(.agg #[(.int .i64 (4)), (.int .i64 (0)), (.int .i64 (4)), (.int .i64 (2))]), (.int .i64 (0))]), (.agg #[(.int .i64 (4)), (.int .i64 (0)), (.int .i64 (4)), (.int .i64 (2))]), (.int .i64 (0)), (.tuple #[(.slice (.some (.mk 9 0 .none)) 3 3), (.int .i64 (0))]), (.agg #[(.int .i64 (1)), (.int .i64 (2)), (.int .i64 (1)), (.int .i64 (0)), (.int .i64 (0)), (.int .i64 (2))]), (.slice (.some (.mk 8 0 .none)) 3 3), (.tuple #[(.slice (.some (.mk 9 0 .none)) 3 3), (.int .i64 (0))]), (.slice (.some (.mk 9 0 .none)) 3 3), (.int .i64 (0)), (.tuple #[(.agg #[(.int .i64 (1)), (.int .i64 (1))]), (.int .i64 (0))]), (.agg #[(.int .i64 (1)), (.int .i64 (2)), (.int .i64 (1)), (.int .i64 (0)), (.int .i64 (0)), (.int .i64 (2))]), (.tuple #[(.agg #[(.int .i64 (1)), (.int .i64 (1))]), (.int .i64 (0))]), (.agg #[(.int .i64 (1)), (.int .i64 (1))]), (.int .i64 (0)), (.tuple #[(.agg #[(.int .i64 (1)), (.int .i64 (2))]), (.int .i64 (0))]), (.agg #[(.int .i64 (1)), (.int .i64 (1)), (.int .i64 (0)), (.int .i64 (0)), (.int .i64 (0)), (.int .i64 (0))]), (.tuple #[(.agg #[(.int .i64 (1)), (.int .i64 (2))]), (.int .i64 (0))]), (.agg #[(.int .i64 (1)), (.int .i64 (2))]), (.int .i64 (0)), (.int .i64 (0)), (.int .i64 (0)), (.int .i64 (0)), (.int .i64 (0)), (.int .i64 (0)), (.int .i64 (0)), (.int .i64 (0)), (.int .i64 (0)), (.int .i64 (0)), (.int .i64 (0)), (.int .i64 (0)), (.int .i64 (0)), (.int .i64 (0)), (.int .i64 (0)), (.int .i64 (0)), (.int .i64 (0)), (.int .i64 (0)), (.int .i64 (0)), (.int .i64 (0)), (.int .i64 (0)), (.int .i64 (0)), (.bool false), (.bool false), (.slice (.some (.mk 5 0 .none)) 6 6), (.slice (.some (.mk 12 0 .none)) 6 6), (.bool true), (.bool false), (.bool false), (.bool false), (.slice (.some (.mk 6 0 .none)) 6 6), (.slice (.some (.mk 13 0 .none)) 6 6), (.bool true), (.bool false), (.bool false), (.bool false), (.int .i64 (2)), (.bool false), (.bool false), (.bool false), (.int .i64 (1)), (.bool false), (.bool false), (.bool false), (.int .i64 (0)), (.bool false), (.bool false), (.bool false), (.int .i64 (1)), (.bool false), (.bool false), (.bool false), (.bool true), (.bool false), (.bool false), (.bool false), (.bool true), (.bool false), (.bool false), (.bool false), (.int .i64 (16)), (.bool false), (.bool false), (.bool false), (.agg #[(.int .i64 (4)), (.int .i64 (0)), (.int .i64 (4)), (.int .i64 (2))]), (.agg #[(.int .i64 (4)), (.int .i64 (0))]), (.agg #[(.int .i64 (4)), (.int .i64 (2))]), (.agg #[(.int .i64 (4)), (.int .i64 (0)), (.int .i64 (4)), (.int .i64 (2))]), (.bool false), (.bool false), (.bool false), (.slice (.some (.mk 9 0 .none)) 3 3), (.slice (.some (.mk 14 0 .none)) 3 3), (.bool true), (.bool false), (.bool false), (.bool false), (.agg #[(.int .i64 (1)), (.int .i64 (1))]), (.agg #[(.int .i64 (1)), (.int .i64 (1))]), (.bool false), (.bool false), (.bool false), (.agg #[(.int .i64 (1)), (.int .i64 (2))]), (.agg #[(.int .i64 (1)), (.int .i64 (2))]), (.bool false), (.bool false), (.tuple #[(.slice (.some (.mk 16 0 .none)) 3 3), (.int .i64 (0))]), (.agg #[(.int .i64 (2)), (.int .i64 (1)), (.int .i64 (0)), (.int .i64 (0)), (.int .i64 (0)), (.int .i64 (1))]), (.slice (.some (.mk 15 0 .none)) 3 3), (.tuple #[(.slice (.some (.mk 16 0 .none)) 3 3), (.int .i64 (0))]), (.slice (.some (.mk 16 0 .none)) 3 3), (.int .i64 (0)), (.tuple #[(.slice (.some (.mk 18 0 .none)) 3 3), (.int .i64 (0))]), (.agg #[(.int .i64 (2)), (.int .i64 (1)), (.int .i64 (0)), (.int .i64 (0)), (.int .i64 (0)), (.int .i64 (1))]), (.slice (.some (.mk 17 0 .none)) 3 3), (.tuple #[(.slice (.some (.mk 18 0 .none)) 3 3), (.int .i64 (0))]), (.slice (.some (.mk 18 0 .none)) 3 3), (.int .i64 (0)), (.tuple #[(.slice (.some (.mk 20 0 .none)) 2 2), (.int .i64 (0))]), (.agg #[(.int .i64 (30000)), (.int .i64 (0)), (.int .i64 (0)), (.int .i64 (0)), (.int .i64 (0)), (.int .i64 (0))]), (.slice (.some (.mk 19 0 .none)) 2 2), (.tuple #[(.slice (.some (.mk 20 0 .none)) 2 2), (.int .i64 (0))]), (.slice (.some (.mk 20 0 .none)) 2 2), (.int .i64 (0)), U, U, U, U, U, U, U, U, U, U, U, U, U, U, U, U, U, U, U, U, U, U, U, U, U, U, U, U, U, U, U, U, U, U, U, U, U, U, U, U, U, U, U, U, U]
noncomputable def X16 : Heap := (H [(.some (.cells [(.int .i64 (8)), (.int .i64 (4)), (.int .i64 (2)), (.int .i64 (1)), (.int .i64 (0)), (.int .i64 (0))] 3 .row)), (.some (.cells [(.int .i64 (-8)), (.int .i64 (-4)), (.int .i64 (-2)), (.int .i64 (-1)), (.int .i64 (-1)), (.int .i64 (-1))] 3 .row)), (.some (.cells [(.int .i64 (4)), (.int .i64 (0)), (.int .i64 (4)), (.int .i64 (2))] 49 .var)), (.some (.cells [(.int .i64 (4)), (.int .i64 (0)), (.int .i64 (0))] 3 .row)), (.some (.cells [(.int .i64 (1)), (.int .i64 (2)), (.int .i64 (1))] 3 .row)), (.some (.cells [(.int .i64 (1)), (.int .i64 (1))] 53 .var)), (.some (.cells [(.int .i64 (1)), (.int .i64 (2))] 53 .var)), (.some (.cells [(.int .i64 (8)), (.int .i64 (4)), (.int .i64 (2)), (.int .i64 (1)), (.int .i64 (0)), (.int .i64 (0))] 3 .row)), (.some (.cells [(.int .i64 (-8)), (.int .i64 (-4)), (.int .i64 (-2)), (.int .i64 (-1)), (.int .i64 (-1)), (.int .i64 (-1))] 3 .row)), (.some (.cells [(.int .i64 (1)), (.int .i64 (2)), (.int .i64 (1))] 3 .row)), (.some (.cells [(.int .i64 (3)), (.int .i64 (1)), (.int .i64 (-2))] 3 .row)), (.some (.cells [(.int .i64 (3)), (.int .i64 (2)), (.int .i64 (-2))] 3 .row)), (.some (.cells [(.int .i64 (3)), (.int .i64 (2)), (.int .i64 (-2))] 3 .row)), (.some (.cells [(.int .i64 (3)), (.int .i64 (1)), (.int .i64 (-2))] 3 .row)), (.some (.cells [(.int .i64 (1)), (.int .i64 (2))] 3 .row)), (.some (.cells [(.int .i64 (30000)), (.int .i64 (32767))] 3 .row))])
noncomputable def L17 : List Value := [(.bool false), (.slice (.some (.mk 5 0 .none)) 6 6), (.int .i64 (0)), (.slice (.some (.mk 6 0 .none)) 6 6), (.int .i64 (0)), (.int .i64 (2)), (.int .i64 (1)), (.int .i64 (0)), (.int .i64 (0)), (.int .i64 (1)), (.int .i64 (0)), (.bool true), (.int .i64 (0)), (.bool true), (.int .i64 (0)), (.int .i64 (16)), (.int .i64 (0)), (.pointer (.some (.mk 7 0 .none))), (.int .i64 (0)), (.slice (.some (.mk 9 0 .none)) 3 3), (.int .i64 (0)), (.pointer (.some (.mk 10 0 .none))), (.int .i64 (0)), (.pointer (.some (.mk 11 0 .none))), (.int .i64 (0)), (.slice (.some (.mk 16 0 .none)) 3 3), (.int .i64 (0)), (.slice (.some (.mk 18 0 .none)) 3 3), (.int .i64 (0)), (.slice (.some (.mk 20 0 .none)) 2 2), (.int .i64 (0)), (.int .i64 (1)), (.int .i64 (0)), U, U, (.tuple #[(.slice (.some (.mk 5 0 .none)) 6 6), (.int .i64 (0))]), (.agg #[(.int .i64 (4)), (.int .i64 (0)), (.int .i64 (0)), (.int .i64 (-2)), (.int .i64 (0)), (.int .i64 (2))]), (.tuple #[(.slice (.some (.mk 5 0 .none)) 6 6), (.int .i64 (0))]), (.slice (.some (.mk 5 0 .none)) 6 6), (.int .i64 (0)), (.tuple #[(.slice (.some (.mk 6 0 .none)) 6 6), (.int .i64 (0))]), (.agg #[(.int .i64 (4)), (.int .i64 (0)), (.int .i64 (0)), (.int .i64 (-2)), (.int .i64 (0)), (.int .i64 (2))]), (.tuple #[(.slice (.some (.mk 6 0 .none)) 6 6), (.int .i64 (0))]), (.slice (.some (.mk 6 0 .none)) 6 6), (.int .i64 (0)), (.tuple #[(.int .i64 (2)), (.int .i64 (1)), (.int .i64 (0))]), (.agg #[(.int .i64 (4)), (.int .i64 (0)), (.int .i64 (0)), (.int .i64 (-2)), (.int .i64 (0)), (.int .i64 (2))]), (.agg #[(.int .i64 (0)), (.int .i64 (0)), (.int .i64 (1)), (.int .i64 (2))]), (.tuple #[(.int .i64 (2)), (.int .i64 (1)), (.int .i64 (0))]), (.int .i64 (2)), (.int .i64 (1)), (.int .i64 (0)), (.tuple #[(.int .i64 (0)), (.int .i64 (1)), (.int .i64 (0))]), (.agg #[(.int .i64 (4)), (.int .i64 (0)), (.int .i64 (0)), (.int .i64 (-2)), (.int .i64 (0)), (.int .i64 (2))]), (.agg #[(.int .i64 (0)), (.int .i64 (0)), (.int .i64 (-1)), (.int .i64 (-1))]), (.tuple #[(.int .i64 (0)), (.int .i64 (1)), (.int .i64 (0))]), (.int .i64 (0)), (.int .i64 (1)), (.int .i64 (0)), (.tuple #[(.bool true), (.int .i64 (0))]), (.agg #[(.int .i64 (4)), (.int .i64 (0)), (.int .i64 (0)), (.int .i64 (-2)), (.int .i64 (0)), (.int .i64 (2))]), (.tuple #[(.bool true), (.int .i64 (0))]), (.bool true), (.int .i64 (0)), (.tuple #[(.bool true), (.int .i64 (0))]), (.agg #[(.int .i64 (4)), (.int .i64 (0)), (.int .i64 (0)), (.int .i64 (-2)), (.int .i64 (0)), (.int .i64 (2))]), (.tuple #[(.bool true), (.int .i64 (0))]), (.bool true), (.int .i64 (0)), (.tuple #[(.int .i64 (16)), (.int .i64 (0))]), (.agg #[(.int .i64 (4)), (.int .i64 (0)), (.int .i64 (0)), (.int .i64 (-2)), (.int .i64 (0)), (.int .i64 (2))]), (.tuple #[(.int .i64 (16)), (.int .i64 (0))]), (.int .i64 (16)), (.int .i64 (0)), (.tuple #[(.agg #[(.int .i64 (4)), (.int .i64 (0)), (.int .i64 (4)), (.int .i64 (2))]), (.int .i64 (0))]), (.agg #[(.int .i64 (4)), (.int .i64 (0)), (.int .i64 (0)), (.int .i64 (-2)), (.int .i64 (0)), (.int .i64 (2))]), (.tuple #[(.agg #[(.int .i64 (4)), (.int .i64 (0)), (.int .i64 (4)), (.int .i64 (2))]), (.int .i64 (0))]), (.agg #[(.int .i64 (4)), (.int .i64 (0)), (.int .i64 (4)), (.int .i64 (2))]), (.int .i64 (0)), (.tuple #[(.slice (.some (.mk 9 0 .none)) 3 3), (.int .i64 (0))]), (.agg #[(.int .i64 (1)), (.int .i64 (2)), (.int .i64 (1)), (.int .i64 (0)), (.int .i64 (0)), (.int .i64 (2))]), (.slice (.some (.mk 8 0 .none)) 3 3), (.tuple #[(.slice (.some (.mk 9 0 .none)) 3 3), (.int .i64 (0))]), (.slice (.some (.mk 9 0 .none)) 3 3), (.int .i64 (0)), (.tuple #[(.agg #[(.int .i64 (1)), (.int .i64 (1))]), (.int .i64 (0))]), (.agg #[(.int .i64 (1)), (.int .i64 (2)), (.int .i64 (1)), (.int .i64 (0)), (.int .i64 (0)), (.int .i64 (2))]), (.tuple #[(.agg #[(.int .i64 (1)), (.int .i64 (1))]), (.int .i64 (0))]), (.agg #[(.int .i64 (1)), (.int .i64 (1))]), (.int .i64 (0)), (.tuple #[(.agg #[(.int .i64 (1)), (.int .i64 (2))]), (.int .i64 (0))]), (.agg #[(.int .i64 (1)), (.int .i64 (1)), (.int .i64 (0)), (.int .i64 (0)), (.int .i64 (0)), (.int .i64 (0))]), (.tuple #[(.agg #[(.int .i64 (1)), (.int .i64 (2))]), (.int .i64 (0))]), (.agg #[(.int .i64 (1)), (.int .i64 (2))]), (.int .i64 (0)), (.int .i64 (0)), (.int .i64 (0)), (.int .i64 (0)), (.int .i64 (0)), (.int .i64 (0)), (.int .i64 (0)), (.int .i64 (0)), (.int .i64 (0)), (.int .i64 (0)), (.int .i64 (0)), (.int .i64 (0)), (.int .i64 (0)), (.int .i64 (0)), (.int .i64 (0)), (.int .i64 (0)), (.int .i64 (0)), (.int .i64 (0)), (.int .i64 (0)), (.int .i64 (0)), (.int .i64 (0)), (.int .i64 (0)), (.bool false), (.bool false), (.slice (.some (.mk 5 0 .none)) 6 6), (.slice (.some (.mk 12 0 .none)) 6 6), (.bool true), (.bool false), (.bool false), (.bool false), (.slice (.some (.mk 6 0 .none)) 6 6), (.slice (.some (.mk 13 0 .none)) 6 6), (.bool true), (.bool false), (.bool false), (.bool false), (.int .i64 (2)), (.bool false), (.bool false), (.bool false), (.int .i64 (1)), (.bool false), (.bool false), (.bool false), (.int .i64 (0)), (.bool false), (.bool false), (.bool false), (.int .i64 (1)), (.bool false), (.bool false), (.bool false), (.bool true), (.bool false), (.bool false), (.bool false), (.bool true), (.bool false), (.bool false), (.bool false), (.int .i64 (16)), (.bool false), (.bool false), (.bool false), (.agg #[(.int .i64 (4)), (.int .i64 (0)), (.int .i64 (4)), (.int .i64 (2))]), (.agg #[(.int .i64 (4)), (.int .i64 (0))]), (.agg #[(.int .i64 (4)), (.int .i64 (2))]), (.agg #[(.int .i64 (4)), (.int .i64 (0)), (.int .i64 (4)), (.int .i64 (2))]), (.bool false), (.bool false), (.bool false), (.slice (.some (.mk 9 0 .none)) 3 3), (.slice (.some (.mk 14 0 .none)) 3 3), (.bool true), (.bool false), (.bool false), (.bool false), (.agg #[(.int .i64 (1)), (.int .i64 (1))]), (.agg #[(.int .i64 (1)), (.int .i64 (1))]), (.bool false), (.bool false), (.bool false), (.agg #[(.int .i64 (1)), (.int .i64 (2))]), (.agg #[(.int .i64 (1)), (.int .i64 (2))]), (.bool false), (.bool false), (.tuple #[(.slice (.some (.mk 16 0 .none)) 3 3), (.int .i64 (0))]), (.agg #[(.int .i64 (2)), (.int .i64 (1)), (.int .i64 (0)), (.int .i64 (0)), (.int .i64 (0)), (.int .i64 (1))]), (.slice (.some (.mk 15 0 .none)) 3 3), (.tuple #[(.slice (.some (.mk 16 0 .none)) 3 3), (.int .i64 (0))]), (.slice (.some (.mk 16 0 .none)) 3 3), (.int .i64 (0)), (.tuple #[(.slice (.some (.mk 18 0 .none)) 3 3), (.int .i64 (0))]), (.agg #[(.int .i64 (2)), (.int .i64 (1)), (.int .i64 (0)), (.int .i64 (0)), (.int .i64 (0)), (.int .i64 (1))]), (.slice (.some (.mk 17 0 .none)) 3 3), (.tuple #[(.slice (.some (.mk 18 0 .none)) 3 3), (.int .i64 (0))]), (.slice (.some (.mk 18 0 .none)) 3 3), (.int .i64 (0)), (.tuple #[(.slice (.some (.mk 20 0 .none)) 2 2), (.int .i64 (0))]), (.agg #[(.int .i64 (30000)), (.int .i64 (0)), (.int .i64 (0)), (.int .i64 (0)), (.int .i64 (0)), (.int .i64 (0))]), (.slice (.some (.mk 19 0 .none)) 2 2), (.tuple #[(.slice (.some (.mk 20 0 .none)) 2 2), (.int .i64 (0))]), (.slice (.some (.mk 20 0 .none)) 2 2), (.int .i64 (0)), (.tuple #[(.int .i64 (1)), (.int .i64 (0))]), (.agg #[(.int .i64 (30000)), (.int .i64 (0)), (.int .i64 (0)), (.int .i64 (0)), (.int .i64 (0)), (.int .i64 (0))]), (.slice (.some (.mk 21 0 .none)) 2 2), (.tuple #[(.int .i64 (1)), (.int .i64 (0))]), (.int .i64 (1)), (.int .i64 (0)), U, U, U, U, U, U, U, U, U, U, U, U, U, U, U, U, U, U, U, U, U, U, U, U, U, U, U, U, U, U, U, U, U, U, U, U, U, U, U]
noncomputable def X17 : Heap := (H [(.some (.cells [(.int .i64 (8)), (.int .i64 (4)), (.int .i64 (2)), (.int .i64 (1)), (.int .i64 (0)), (.int .i64 (0))] 3 .row)), (.some (.cells [(.int .i64 (-8)), (.int .i64 (-4)), (.int .i64 (-2)), (.int .i64 (-1)), (.int .i64 (-1)), (.int .i64 (-1))] 3 .row)), (.some (.cells [(.int .i64 (4)), (.int .i64 (0)), (.int .i64 (4)), (.int .i64 (2))] 49 .var)), (.some (.cells [(.int .i64 (4)), (.int .i64 (0)), (.int .i64 (0))] 3 .row)), (.some (.cells [(.int .i64 (1)), (.int .i64 (2)), (.int .i64 (1))] 3 .row)), (.some (.cells [(.int .i64 (1)), (.int .i64 (1))] 53 .var)), (.some (.cells [(.int .i64 (1)), (.int .i64 (2))] 53 .var)), (.some (.cells [(.int .i64 (8)), (.int .i64 (4)), (.int .i64 (2)), (.int .i64 (1)), (.int .i64 (0)), (.int .i64 (0))] 3 .row)), (.some (.cells [(.int .i64 (-8)), (.int .i64 (-4)), (.int .i64 (-2)), (.int .i64 (-1)), (.int .i64 (-1)), (.int .i64 (-1))] 3 .row)), (.some (.cells [(.int .i64 (1)), (.int .i64 (2)), (.int .i64 (1))] 3 .row)), (.some (.cells [(.int .i64 (3)), (.int .i64 (1)), (.int .i64 (-2))] 3 .row)), (.some (.cells [(.int .i64 (3)), (.int .i64 (2)), (.int .i64 (-2))] 3 .row)), (.some (.cells [(.int .i64 (3)), (.int .i64 (2)), (.int .i64 (-2))] 3 .row)), (.some (.cells [(.int .i64 (3)), (.int .i64 (1)), (.int .i64 (-2))] 3 .row)), (.some (.cells [(.int .i64 (1)), (.int .i64 (2))] 3 .row)), (.some (.cells [(.int .i64 (30000)), (.int .i64 (32767))] 3 .row)), (.some (.cells [(.int .i64 (1)), (.int .i64 (2))] 3 .row))])
noncomputable def L18 : List Value := [(.bool false), (.slice (.some (.mk 5 0 .none)) 6 6), (.int .i64 (0)), (.slice (.some (.mk 6 0 .none)) 6 6), (.int .i64 (0)), (.int .i64 (2)), (.int .i64 (1)), (.int .i64 (0)), (.int .i64 (0)), (.int .i64 (1)), (.int .i64 (0)), (.bool true), (.int .i64 (0)), (.bool true), (.int .i64 (0)), (.int .i64 (16)), (.int .i64 (0)), (.pointer (.some (.mk 7 0 .none))), (.int .i64 (0)), (.slice (.some (.mk 9 0 .none)) 3 3), (.int .i64 (0)), (.pointer (.some (.mk 10 0 .none))), (.int .i64 (0)), (.pointer (.some (.mk 11 0 .none))), (.int .i64 (0)), (.slice (.some (.mk 16 0 .none)) 3 3), (.int .i64 (0)), (.slice (.some (.mk 18 0 .none)) 3 3), (.int .i64 (0)), (.slice (.some (.mk 20 0 .none)) 2 2), (.int .i64 (0)), (.int .i64 (1)), (.int .i64 (0)), (.string (ByteArray.mk #[(UInt8.ofNat 52), (UInt8.ofNat 32), (UInt8.ofNat 48), (UInt8.ofNat 32), (UInt8.ofNat 48), (UInt8.ofNat 32), (UInt8.ofNat 45), (UInt8.ofNat 50), (UInt8.ofNat 32), (UInt8.ofNat 48), (UInt8.ofNat 32), (UInt8.ofNat 50), (UInt8.ofNat 10)])), (.int .i64 (0)), (.tuple #[(.slice (.some (.mk 5 0 .none)) 6 6), (.int .i64 (0))]), (.agg #[(.int .i64 (4)), (.int .i64 (0)), (.int .i64 (0)), (.int .i64 (-2)), (.int .i64 (0)), (.int .i64 (2))]), (.tuple #[(.slice (.some (.mk 5 0 .none)) 6 6), (.int .i64 (0))]), (.slice (.some (.mk 5 0 .none)) 6 6), (.int .i64 (0)), (.tuple #[(.slice (.some (.mk 6 0 .none)) 6 6), (.int .i64 (0))]), (.agg #[(.int .i64 (4)), (.int .i64 (0)), (.int .i64 (0)), (.int .i64 (-2)), (.int .i64 (0)), (.int .i64 (2))]), (.tuple #[(.slice (.some (.mk 6 0 .none)) 6 6), (.int .i64 (0))]), (.slice (.some (.mk 6 0 .none)) 6 6), (.int .i64 (0)), (.tuple #[(.int .i64 (2)), (.int .i64 (1)), (.int .i64 (0))]), (.agg #[(.int .i64 (4)), (.int .i64 (0)), (.int .i64 (0)), (.int .i64 (-2)), (.int .i64 (0)), (.int .i64 (2))]), (.agg #[(.int .i64 (0)), (.int .i64 (0)), (.int .i64 (1)), (.int .i64 (2))]), (.tuple #[(.int .i64 (2)), (.int .i64 (1)), (.int .i64 (0))]), (.int .i64 (2)), (.int .i64 (1)), (.int .i64 (0)), (.tuple #[(.int .i64 (0)), (.int .i64 (1)), (.int .i64 (0))]), (.agg #[(.int .i64 (4)), (.int .i64 (0)), (.int .i64 (0)), (.int .i64 (-2)), (.int .i64 (0)), (.int .i64 (2))]), (.agg #[(.int .i64 (0)), (.int .i64 (0)), (.int .i64 (-1)), (.int .i64 (-1))]), (.tuple #[(.int .i64 (0)), (.int .i64 (1)), (.int .i64 (0))]), (.int .i64 (0)), (.int .i64 (1)), (.int .i64 (0)), (.tuple #[(.bool true), (.int .i64 (0))]), (.agg #[(.int .i64 (4)), (.int .i64 (0)), (.int .i64 (0)), (.int .i64 (-2)), (.int .i64 (0)), (.int .i64 (2))]), (.tuple #[(.bool true), (.int .i64 (0))]), (.bool true), (.int .i64 (0)), (.tuple #[(.bool true), (.int .i64 (0))]), (.agg #[(.int .i64 (4)), (.int .i64 (0)), (.int .i64 (0)), (.int .i64 (-2)), (.int .i64 (0)), (.int .i64 (2))]), (.tuple #[(.bool true), (.int .i64 (0))]), (.bool true), (.int .i64 (0)), (.tuple #[(.int .i64 (16)), (.int .i64 (0))]), (.agg #[(.int .i64 (4)), (.int .i64 (0)), (.int .i64 (0)), (.int .i64 (-2)), (.int .i64 (0)), (.int .i64 (2))]), (.tuple #[(.int .i64 (16)), (.int .i64 (0))]), (.int .i64 (16)), (.int .i64 (0)), (.tuple #[(.agg #[(.int .i64 (4)), (.int .i64 (0)), (.int .i64 (4)), (.int .i64 (2))]), (.int .i64 (0))]), (.agg #[(.int .i64 (4)), (.int .i64 (0)), (.int .i64 (0)), (.int .i64 (-2)), (.int .i64 (0)), (.int .i64 (2))]), (.tuple #[(.agg #[(.int .i64 (4)), (.int .i64 (0)), (.int .i64 (4)), (.int .i64 (2))]), (.int .i64 (0))]), (.agg #[(.int .i64 (4)), (.int .i64 (0)), (.int .i64 (4)), (.int .i64 (2))]), (.int .i64 (0)), (.tuple #[(.slice (.some (.mk 9 0 .none)) 3 3), (.int .i64 (0))]), (.agg #[(.int .i64 (1)), (.int .i64 (2)), (.int .i64 (1)), (.int .i64 (0)), (.int .i64 (0)), (.int .i64 (2))]), (.slice (.some (.mk 8 0 .none)) 3 3), (.tuple #[(.slice (.some (.mk 9 0 .none)) 3 3), (.int .i64 (0))]), (.slice (.some (.mk 9 0 .none)) 3 3), (.int .i64 (0)), (.tuple #[(.agg #[(.int .i64 (1)), (.int .i64 (1))]), (.int .i64 (0))]), (.agg #[(.int .i64 (1)), (.int .i64 (2)), (.int .i64 (1)), (.int .i64 (0)), (.int .i64 (0)), (.int .i64 (2))]), (.tuple #[(.agg #[(.int .i64 (1)), (.int .i64 (1))]), (.int .i64 (0))]), (.agg #[(.int .i64 (1)), (.int .i64 (1))]), (.int .i64 (0)), (.tuple #[(.agg #[(.int .i64 (1)), (.int .i64 (2))]), (.int .i64 (0))]), (.agg #[(.int .i64 (1)), (.int .i64 (1)), (.int .i64 (0)), (.int .i64 (0)), (.int .i64 (0)), (.int .i64 (0))]), (.tuple #[(.agg #[(.int .i64 (1)), (.int .i64 (2))]), (.int .i64 (0))]), (.agg #[(.int .i64 (1)), (.int .i64 (2))]), (.int .i64 (0)), (.int .i64 (0)), (.int .i64 (0)), (.int .i64 (0)), (.int .i64 (0)), (.int .i64 (0)), (.int .i64 (0)), (.int .i64 (0)), (.int .i64 (0)), (.int .i64 (0)), (.int .i64 (0)), (.int .i64 (0)), (.int .i64 (0)), (.int .i64 (0)), (.int .i64 (0)), (.int .i64 (0)), (.int .i64 (0)), (.int .i64 (0)), (.int .i64 (0)), (.int .i64 (0)), (.int .i64 (0)), (.int .i64 (0)), (.bool false), (.bool false), (.slice (.some (.mk 5 0 .none)) 6 6), (.slice (.some (.mk 12 0 .none)) 6 6), (.bool true), (.bool false), (.bool false), (.bool false), (.slice (.some (.mk 6 0 .none)) 6 6), (.slice (.some (.mk 13 0 .none)) 6 6), (.bool true), (.bool false), (.bool false), (.bool false), (.int .i64 (2)), (.bool false), (.bool false), (.bool false), (.int .i64 (1)), (.bool false), (.bool false), (.bool false), (.int .i64 (0)), (.bool false), (.bool false), (.bool false), (.int .i64 (1)), (.bool false), (.bool false), (.bool false), (.bool true), (.bool false), (.bool false), (.bool false), (.bool true), (.bool false), (.bool false), (.bool false), (.int .i64 (16)), (.bool false), (.bool false), (.bool false), (.agg #[(.int .i64 (4)), (.int .i64 (0)), (.int .i64 (4)), (.int .i64 (2))]), (.agg #[(.int .i64 (4)), (.int .i64 (0))]), (.agg #[(.int .i64 (4)), (.int .i64 (2))]), (.agg #[(.int .i64 (4)), (.int .i64 (0)), (.int .i64 (4)), (.int .i64 (2))]), (.bool false), (.bool false), (.bool false), (.slice (.some (.mk 9 0 .none)) 3 3), (.slice (.some (.mk 14 0 .none)) 3 3), (.bool true), (.bool false), (.bool false), (.bool false), (.agg #[(.int .i64 (1)), (.int .i64 (1))]), (.agg #[(.int .i64 (1)), (.int .i64 (1))]), (.bool false), (.bool false), (.bool false), (.agg #[(.int .i64 (1)), (.int .i64 (2))]), (.agg #[(.int .i64 (1)), (.int .i64 (2))]), (.bool false), (.bool false), (.tuple #[(.slice (.some (.mk 16 0 .none)) 3 3), (.int .i64 (0))]), (.agg #[(.int .i64 (2)), (.int .i64 (1)), (.int .i64 (0)), (.int .i64 (0)), (.int .i64 (0)), (.int .i64 (1))]), (.slice (.some (.mk 15 0 .none)) 3 3), (.tuple #[(.slice (.some (.mk 16 0 .none)) 3 3), (.int .i64 (0))]), (.slice (.some (.mk 16 0 .none)) 3 3), (.int .i64 (0)), (.tuple #[(.slice (.some (.mk 18 0 .none)) 3 3), (.int .i64 (0))]), (.agg #[(.int .i64 (2)), (.int .i64 (1)), (.int .i64 (0)), (.int .i64 (0)), (.int .i64 (0)), (.int .i64 (1))]), (.slice (.some (.mk 17 0 .none)) 3 3), (.tuple #[(.slice (.some (.mk 18 0 .none)) 3 3), (.int .i64 (0))]), (.slice (.some (.mk 18 0 .none)) 3 3), (.int .i64 (0)), (.tuple #[(.slice (.some (.mk 20 0 .none)) 2 2), (.int .i64 (0))]), (.agg #[(.int .i64 (30000)), (.int .i64 (0)), (.int .i64 (0)), (.int .i64 (0)), (.int .i64 (0)), (.int .i64 (0))]), (.slice (.some (.mk 19 0 .none)) 2 2), (.tuple #[(.slice (.some (.mk 20 0 .none)) 2 2), (.int .i64 (0))]), (.slice (.some (.mk 20 0 .none)) 2 2), (.int .i64 (0)), (.tuple #[(.int .i64 (1)), (.int .i64 (0))]), (.agg #[(.int .i64 (30000)), (.int .i64 (0)), (.int .i64 (0)), (.int .i64 (0)), (.int .i64 (0)), (.int .i64 (0))]), (.slice (.some (.mk 21 0 .none)) 2 2), (.tuple #[(.int .i64 (1)), (.int .i64 (0))]), (.int .i64 (1)), (.int .i64 (0)), (.tuple #[(.string (ByteArray.mk #[(UInt8.ofNat 52), (UInt8.ofNat 32), (UInt8.ofNat 48), (UInt8.ofNat 32), (UInt8.ofNat 48), (UInt8.ofNat 32), (UInt8.ofNat 45), (UInt8.ofNat 50), (UInt8.ofNat 32), (UInt8.ofNat 48), (UInt8.ofNat 32), (UInt8.ofNat 50), (UInt8.ofNat 10)])), (.int .i64 (0))]), (.agg #[(.int .i64 (4)), (.int .i64 (0)), (.int .i64 (0)), (.int .i64 (-2)), (.int .i64 (0)), (.int .i64 (2))]), (.slice (.some (.mk 22 0 .none)) 1 1), (.tuple #[(.string (ByteArray.mk #[(UInt8.ofNat 52), (UInt8.ofNat 32), (UInt8.ofNat 48), (UInt8.ofNat 32), (UInt8.ofNat 48), (UInt8.ofNat 32), (UInt8.ofNat 45), (UInt8.ofNat 50), (UInt8.ofNat 32), (UInt8.ofNat 48), (UInt8.ofNat 32), (UInt8.ofNat 50), (UInt8.ofNat 10)])), (.int .i64 (0))]), (.string (ByteArray.mk #[(UInt8.ofNat 52), (UInt8.ofNat 32), (UInt8.ofNat 48), (UInt8.ofNat 32), (UInt8.ofNat 48), (UInt8.ofNat 32), (UInt8.ofNat 45), (UInt8.ofNat 50), (UInt8.ofNat 32), (UInt8.ofNat 48), (UInt8.ofNat 32), (UInt8.ofNat 50), (UInt8.ofNat 10)])), (.int .i64 (0)), U, U, U, U, U, U, U, U, U, U, U, U, U, U, U, U, U, U, U, U, U, U, U, U, U, U, U, U, U, U, U, U, U]
noncomputable def X18 : Heap := (H [(.some (.cells [(.int .i64 (8)), (.int .i64 (4)), (.int .i64 (2)), (.int .i64 (1)), (.int .i64 (0)), (.int .i64 (0))] 3 .row)), (.some (.cells [(.int .i64 (-8)), (.int .i64 (-4)), (.int .i64 (-2)), (.int .i64 (-1)), (.int .i64 (-1)), (.int .i64 (-1))] 3 .row)), (.some (.cells [(.int .i64 (4)), (.int .i64 (0)), (.int .i64 (4)), (.int .i64 (2))] 49 .var)), (.some (.cells [(.int .i64 (4)), (.int .i64 (0)), (.int .i64 (0))] 3 .row)), (.some (.cells [(.int .i64 (1)), (.int .i64 (2)), (.int .i64 (1))] 3 .row)), (.some (.cells [(.int .i64 (1)), (.int .i64 (1))] 53 .var)), (.some (.cells [(.int .i64 (1)), (.int .i64 (2))] 53 .var)), (.some (.cells [(.int .i64 (8)), (.int .i64 (4)), (.int .i64 (2)), (.int .i64 (1)), (.int .i64 (0)), (.int .i64 (0))] 3 .row)), (.some (.cells [(.int .i64 (-8)), (.int .i64 (-4)), (.int .i64 (-2)), (.int .i64 (-1)), (.int .i64 (-1)), (.int .i64 (-1))] 3 .row)), (.some (.cells [(.int .i64 (1)), (.int .i64 (2)), (.int .i64 (1))] 3 .row)), (.some (.cells [(.int .i64 (3)), (.int .i64 (1)), (.int .i64 (-2))] 3 .row)), (.some (.cells [(.int .i64 (3)), (.int .i64 (2)), (.int .i64 (-2))] 3 .row)), (.some (.cells [(.int .i64 (3)), (.int .i64 (2)), (.int .i64 (-2))] 3 .row)), (.some (.cells [(.int .i64 (3)), (.int .i64 (1)), (.int .i64 (-2))] 3 .row)), (.some (.cells [(.int .i64 (1)), (.int .i64 (2))] 3 .row)), (.some (.cells [(.int .i64 (30000)), (.int .i64 (32767))] 3 .row)), (.some (.cells [(.int .i64 (1)), (.int .i64 (2))] 3 .row)), (.some (.cells [(.int .i64 (4)), (.int .i64 (0)), (.int .i64 (0)), (.int .i64 (-2)), (.int .i64 (0)), (.int .i64 (2))] 30 .row))])
noncomputable def L19 : List Value := [(.bool true), (.slice (.some (.mk 5 0 .none)) 6 6), (.int .i64 (0)), (.slice (.some (.mk 6 0 .none)) 6 6), (.int .i64 (0)), (.int .i64 (2)), (.int .i64 (1)), (.int .i64 (0)), (.int .i64 (0)), (.int .i64 (1)), (.int .i64 (0)), (.bool true), (.int .i64 (0)), (.bool true), (.int .i64 (0)), (.int .i64 (16)), (.int .i64 (0)), (.pointer (.some (.mk 7 0 .none))), (.int .i64 (0)), (.slice (.some (.mk 9 0 .none)) 3 3), (.int .i64 (0)), (.pointer (.some (.mk 10 0 .none))), (.int .i64 (0)), (.pointer (.some (.mk 11 0 .none))), (.int .i64 (0)), (.slice (.some (.mk 16 0 .none)) 3 3), (.int .i64 (0)), (.slice (.some (.mk 18 0 .none)) 3 3), (.int .i64 (0)), (.slice (.some (.mk 20 0 .none)) 2 2), (.int .i64 (0)), (.int .i64 (1)), (.int .i64 (0)), (.string (ByteArray.mk #[(UInt8.ofNat 52), (UInt8.ofNat 32), (UInt8.ofNat 48), (UInt8.ofNat 32), (UInt8.ofNat 48), (UInt8.ofNat 32), (UInt8.ofNat 45), (UInt8.ofNat 50), (UInt8.ofNat 32), (UInt8.ofNat 48), (UInt8.ofNat 32), (UInt8.ofNat 50), (UInt8.ofNat 10)])), (.int .i64 (0)), (.tuple #[(.slice (.some (.mk 5 0 .none)) 6 6), (.int .i64 (0))]), (.agg #[(.int .i64 (4)), (.int .i64 (0)), (.int .i64 (0)), (.int .i64 (-2)), (.int .i64 (0)), (.int .i64 (2))]), (.tuple #[(.slice (.some (.mk 5 0 .none)) 6 6), (.int .i64 (0))]), (.slice (.some (.mk 5 0 .none)) 6 6), (.int .i64 (0)), (.tuple #[(.slice (.some (.mk 6 0 .none)) 6 6), (.int .i64 (0))]), (.agg #[(.int .i64 (4)), (.int .i64 (0)), (.int .i64 (0)), (.int .i64 (-2)), (.int .i64 (0)), (.int .i64 (2))]), (.tuple #[(.slice (.some (.mk 6 0 .none)) 6 6), (.int .i64 (0))]), (.slice (.some (.mk 6 0 .none)) 6 6), (.int .i64 (0)), (.tuple #[(.int .i64 (2)), (.int .i64 (1)), (.int .i64 (0))]), (.agg #[(.int .i64 (4)), (.int .i64 (0)), (.int .i64 (0)), (.int .i64 (-2)), (.int .i64 (0)), (.int .i64 (2))]), (.agg #[(.int .i64 (0)), (.int .i64 (0)), (.int .i64 (1)), (.int .i64 (2))]), (.tuple #[(.int .i64 (2)), (.int .i64 (1)), (.int .i64 (0))]), (.int .i64 (2)), (.int .i64 (1)), (.int .i64 (0)), (.tuple #[(.int .i64 (0)), (.int .i64 (1)), (.int .i64 (0))]), (.agg #[(.int .i64 (4)), (.int .i64 (0)), (.int .i64 (0)), (.int .i64 (-2)), (.int .i64 (0)), (.int .i64 (2))]), (.agg #[(.int .i64 (0)), (.int .i64 (0)), (.int .i64 (-1)), (.int .i64 (-1))]), (.tuple #[(.int .i64 (0)), (.int .i64 (1)), (.int .i64 (0))]), (.int .i64 (0)), (.int .i64 (1)), (.int .i64 (0)), (.tuple #[(.bool true), (.int .i64 (0))]), (.agg #[(.int .i64 (4)), (.int .i64 (0)), (.int .i64 (0)), (.int .i64 (-2)), (.int .i64 (0)), (.int .i64 (2))]), (.tuple #[(.bool true), (.int .i64 (0))]), (.bool true), (.int .i64 (0)), (.tuple #[(.bool true), (.int .i64 (0))]), (.agg #[(.int .i64 (4)), (.int .i64 (0)), (.int .i64 (0)), (.int .i64 (-2)), (.int .i64 (0)), (.int .i64 (2))]), (.tuple #[(.bool true), (.int .i64 (0))]), (.bool true), (.int .i64 (0)), (.tuple #[(.int .i64 (16)), (.int .i64 (0))]), (.agg #[(.int .i64 (4)), (.int .i64 (0)), (.int .i64 (0)), (.int .i64 (-2)), (.int .i64 (0)), (.int .i64 (2))]), (.tuple #[(.int .i64 (16)), (.int .i64 (0))]), (.int .i64 (16)), (.int .i64 (0)), (.tuple #[(.agg #[(.int .i64 (4)), (.int .i64 (0)), (.int .i64 (4)), (.int .i64 (2))]), (.int .i64 (0))]), (.agg #[(.int .i64 (4)), (.int .i64 (0)), (.int .i64 (0)), (.int .i64 (-2)), (.int .i64 (0)), (.int .i64 (2))]), (.tuple #[(.agg #[(.int .i64 (4)), (.int .i64 (0)), (.int .i64 (4)), (.int .i64 (2))]), (.int .i64 (0))]), (.agg #[(.int .i64 (4)), (.int .i64 (0)), (.int .i64 (4)), (.int .i64 (2))]), (.int .i64 (0)), (.tuple #[(.slice (.some (.mk 9 0 .none)) 3 3), (.int .i64 (0))]), (.agg #[(.int .i64 (1)), (.int .i64 (2)), (.int .i64 (1)), (.int .i64 (0)), (.int .i64 (0)), (.int .i64 (2))]), (.slice (.some (.mk 8 0 .none)) 3 3), (.tuple #[(.slice (.some (.mk 9 0 .none)) 3 3), (.int .i64 (0))]), (.slice (.some (.mk 9 0 .none)) 3 3), (.int .i64 (0)), (.tuple #[(.agg #[(.int .i64 (1)), (.int .i64 (1))]), (.int .i64 (0))]), (.agg #[(.int .i64 (1)), (.int .i64 (2)), (.int .i64 (1)), (.int .i64 (0)), (.int .i64 (0)), (.int .i64 (2))]), (.tuple #[(.agg #[(.int .i64 (1)), (.int .i64 (1))]), (.int .i64 (0))]), (.agg #[(.int .i64 (1)), (.int .i64 (1))]), (.int .i64 (0)), (.tuple #[(.agg #[(.int .i64 (1)), (.int .i64 (2))]), (.int .i64 (0))]), (.agg #[(.int .i64 (1)), (.int .i64 (1)), (.int .i64 (0)), (.int .i64 (0)), (.int .i64 (0)), (.int .i64 (0))]), (.tuple #[(.agg #[(.int .i64 (1)), (.int .i64 (2))]), (.int .i64 (0))]), (.agg #[(.int .i64 (1)), (.int .i64 (2))]), (.int .i64 (0)), (.int .i64 (0)), (.int .i64 (0)), (.int .i64 (0)), (.int .i64 (0)), (.int .i64 (0)), (.int .i64 (0)), (.int .i64 (0)), (.int .i64 (0)), (.int .i64 (0)), (.int .i64 (0)), (.int .i64 (0)), (.int .i64 (0)), (.int .i64 (0)), (.int .i64 (0)), (.int .i64 (0)), (.int .i64 (0)), (.int .i64 (0)), (.int .i64 (0)), (.int .i64 (0)), (.int .i64 (0)), (.int .i64 (0)), (.bool false), (.bool false), (.slice (.some (.mk 5 0 .none)) 6 6), (.slice (.some (.mk 12 0 .none)) 6 6), (.bool true), (.bool false), (.bool false), (.bool false), (.slice (.some (.mk 6 0 .none)) 6 6), (.slice (.some (.mk 13 0 .none)) 6 6), (.bool true), (.bool false), (.bool false), (.bool false), (.int .i64 (2)), (.bool false), (.bool false), (.bool false), (.int .i64 (1)), (.bool false), (.bool false), (.bool false), (.int .i64 (0)), (.bool false), (.bool false), (.bool false), (.int .i64 (1)), (.bool false), (.bool false), (.bool false), (.bool true), (.bool false), (.bool false), (.bool false), (.bool true), (.bool false), (.bool false), (.bool false), (.int .i64 (16)), (.bool false), (.bool false), (.bool false), (.agg #[(.int .i64 (4)), (.int .i64 (0)), (.int .i64 (4)), (.int .i64 (2))]), (.agg #[(.int .i64 (4)), (.int .i64 (0))]), (.agg #[(.int .i64 (4)), (.int .i64 (2))]), (.agg #[(.int .i64 (4)), (.int .i64 (0)), (.int .i64 (4)), (.int .i64 (2))]), (.bool false), (.bool false), (.bool false), (.slice (.some (.mk 9 0 .none)) 3 3), (.slice (.some (.mk 14 0 .none)) 3 3), (.bool true), (.bool false), (.bool false), (.bool false), (.agg #[(.int .i64 (1)), (.int .i64 (1))]), (.agg #[(.int .i64 (1)), (.int .i64 (1))]), (.bool false), (.bool false), (.bool false), (.agg #[(.int .i64 (1)), (.int .i64 (2))]), (.agg #[(.int .i64 (1)), (.int .i64 (2))]), (.bool false), (.bool false), (.tuple #[(.slice (.some (.mk 16 0 .none)) 3 3), (.int .i64 (0))]), (.agg #[(.int .i64 (2)), (.int .i64 (1)), (.int .i64 (0)), (.int .i64 (0)), (.int .i64 (0)), (.int .i64 (1))]), (.slice (.some (.mk 15 0 .none)) 3 3), (.tuple #[(.slice (.some (.mk 16 0 .none)) 3 3), (.int .i64 (0))]), (.slice (.some (.mk 16 0 .none)) 3 3), (.int .i64 (0)), (.tuple #[(.slice (.some (.mk 18 0 .none)) 3 3), (.int .i64 (0))]), (.agg #[(.int .i64 (2)), (.int .i64 (1)), (.int .i64 (0)), (.int .i64 (0)), (.int .i64 (0)), (.int .i64 (1))]), (.slice (.some (.mk 17 0 .none)) 3 3), (.tuple #[(.slice (.some (.mk 18 0 .none)) 3 3), (.int .i64 (0))]), (.slice (.some (.mk 18 0 .none)) 3 3), (.int .i64 (0)), (.tuple #[(.slice (.some (.mk 20 0 .none)) 2 2), (.int .i64 (0))]), (.agg #[(.int .i64 (30000)), (.int .i64 (0)), (.int .i64 (0)), (.int .i64 (0)), (.int .i64 (0)), (.int .i64 (0))]), (.slice (.some (.mk 19 0 .none)) 2 2), (.tuple #[(.slice (.some (.mk 20 0 .none)) 2 2), (.int .i64 (0))]), (.slice (.some (.mk 20 0 .none)) 2 2), (.int .i64 (0)), (.tuple #[(.int .i64 (1)), (.int .i64 (0))]), (.agg #[(.int .i64 (30000)), (.int .i64 (0)), (.int .i64 (0)), (.int .i64 (0)), (.int .i64 (0)), (.int .i64 (0))]), (.slice (.some (.mk 21 0 .none)) 2 2), (.tuple #[(.int .i64 (1)), (.int .i64 (0))]), (.int .i64 (1)), (.int .i64 (0)), (.tuple #[(.string (ByteArray.mk #[(UInt8.ofNat 52), (UInt8.ofNat 32), (UInt8.ofNat 48), (UInt8.ofNat 32), (UInt8.ofNat 48), (UInt8.ofNat 32), (UInt8.ofNat 45), (UInt8.ofNat 50), (UInt8.ofNat 32), (UInt8.ofNat 48), (UInt8.ofNat 32), (UInt8.ofNat 50), (UInt8.ofNat 10)])), (.int .i64 (0))]), (.agg #[(.int .i64 (4)), (.int .i64 (0)), (.int .i64 (0)), (.int .i64 (-2)), (.int .i64 (0)), (.int .i64 (2))]), (.slice (.some (.mk 22 0 .none)) 1 1), (.tuple #[(.string (ByteArray.mk #[(UInt8.ofNat 52), (UInt8.ofNat 32), (UInt8.ofNat 48), (UInt8.ofNat 32), (UInt8.ofNat 48), (UInt8.ofNat 32), (UInt8.ofNat 45), (UInt8.ofNat 50), (UInt8.ofNat 32), (UInt8.ofNat 48), (UInt8.ofNat 32), (UInt8.ofNat 50), (UInt8.ofNat 10)])), (.int .i64 (0))]), (.string (ByteArray.mk #[(UInt8.ofNat 52), (UInt8.ofNat 32), (UInt8.ofNat 48), (UInt8.ofNat 32), (UInt8.ofNat 48), (UInt8.ofNat 32), (UInt8.ofNat 45), (UInt8.ofNat 50), (UInt8.ofNat 32), (UInt8.ofNat 48), (UInt8.ofNat 32), (UInt8.ofNat 50), (UInt8.ofNat 10)])), (.int .i64 (0)), (.int .i64 (0)), (.int .i64 (0)), (.int .i64 (0)), (.int .i64 (0)), (.int .i64 (0)), (.int .i64 (0)), (.int .i64 (0)), (.int .i64 (0)), (.int .i64 (0)), (.bool true), (.bool true), (.slice (.some (.mk 16 0 .none)) 3 3), (.slice (.some (.mk 23 0 .none)) 3 3), (.bool true), (.bool true), (.bool true), (.slice (.some (.mk 18 0 .none)) 3 3), (.slice (.some (.mk 24 0 .none)) 3 3), (.bool true), (.bool true), (.bool true), (.slice (.some (.mk 20 0 .none)) 2 2), (.slice (.some (.mk 25 0 .none)) 2 2), (.bool true), (.bool true), (.bool true), (.int .i64 (1)), (.bool true), (.bool true), (.bool true), (.string (ByteArray.mk #[(UInt8.ofNat 52), (UInt8.ofNat 32), (UInt8.ofNat 48), (UInt8.ofNat 32), (UInt8.ofNat 48), (UInt8.ofNat 32), (UInt8.ofNat 45), (UInt8.ofNat 50), (UInt8.ofNat 32), (UInt8.ofNat 48), (UInt8.ofNat 32), (UInt8.ofNat 50), (UInt8.ofNat 10)])), (.bool true), (.bool true)]
noncomputable def X19 : Heap := (H [(.some (.cells [(.int .i64 (8)), (.int .i64 (4)), (.int .i64 (2)), (.int .i64 (1)), (.int .i64 (0)), (.int .i64 (0))] 3 .row)), (.some (.cells [(.int .i64 (-8)), (.int .i64 (-4)), (.int .i64 (-2)), (.int .i64 (-1)), (.int .i64 (-1)), (.int .i64 (-1))] 3 .row)), (.some (.cells [(.int .i64 (4)), (.int .i64 (0)), (.int .i64 (4)), (.int .i64 (2))] 49 .var)), (.some (.cells [(.int .i64 (4)), (.int .i64 (0)), (.int .i64 (0))] 3 .row)), (.some (.cells [(.int .i64 (1)), (.int .i64 (2)), (.int .i64 (1))] 3 .row)), (.some (.cells [(.int .i64 (1)), (.int .i64 (1))] 53 .var)), (.some (.cells [(.int .i64 (1)), (.int .i64 (2))] 53 .var)), (.some (.cells [(.int .i64 (8)), (.int .i64 (4)), (.int .i64 (2)), (.int .i64 (1)), (.int .i64 (0)), (.int .i64 (0))] 3 .row)), (.some (.cells [(.int .i64 (-8)), (.int .i64 (-4)), (.int .i64 (-2)), (.int .i64 (-1)), (.int .i64 (-1)), (.int .i64 (-1))] 3 .row)), (.some (.cells [(.int .i64 (1)), (.int .i64 (2)), (.int .i64 (1))] 3 .row)), (.some (.cells [(.int .i64 (3)), (.int .i64 (1)), (.int .i64 (-2))] 3 .row)), (.some (.cells [(.int .i64 (3)), (.int .i64 (2)), (.int .i64 (-2))] 3 .row)), (.some (.cells [(.int .i64 (3)), (.int .i64 (2)), (.int .i64 (-2))] 3 .row)), (.some (.cells [(.int .i64 (3)), (.int .i64 (1)), (.int .i64 (-2))] 3 .row)), (.some (.cells [(.int .i64 (1)), (.int .i64 (2))] 3 .row)), (.some (.cells [(.int .i64 (30000)), (.int .i64 (32767))] 3 .row)), (.some (.cells [(.int .i64 (1)), (.int .i64 (2))] 3 .row)), (.some (.cells [(.int .i64 (4)), (.int .i64 (0)), (.int .i64 (0)), (.int .i64 (-2)), (.int .i64 (0)), (.int .i64 (2))] 30 .row)), (.some (.cells [(.int .i64 (3)), (.int .i64 (2)), (.int .i64 (-2))] 3 .row)), (.some (.cells [(.int .i64 (3)), (.int .i64 (1)), (.int .i64 (-2))] 3 .row)), (.some (.cells [(.int .i64 (30000)), (.int .i64 (32767))] 3 .row))])
noncomputable def L20 : List Value := [(.bool true), (.slice (.some (.mk 5 0 .none)) 6 6), (.int .i64 (0)), (.slice (.some (.mk 6 0 .none)) 6 6), (.int .i64 (0)), (.int .i64 (2)), (.int .i64 (1)), (.int .i64 (0)), (.int .i64 (0)), (.int .i64 (1)), (.int .i64 (0)), (.bool true), (.int .i64 (0)), (.bool true), (.int .i64 (0)), (.int .i64 (16)), (.int .i64 (0)), (.pointer (.some (.mk 7 0 .none))), (.int .i64 (0)), (.slice (.some (.mk 9 0 .none)) 3 3), (.int .i64 (0)), (.pointer (.some (.mk 10 0 .none))), (.int .i64 (0)), (.pointer (.some (.mk 11 0 .none))), (.int .i64 (0)), (.slice (.some (.mk 16 0 .none)) 3 3), (.int .i64 (0)), (.slice (.some (.mk 18 0 .none)) 3 3), (.int .i64 (0)), (.slice (.some (.mk 20 0 .none)) 2 2), (.int .i64 (0)), (.int .i64 (1)), (.int .i64 (0)), (.string (ByteArray.mk #[(UInt8.ofNat 52), (UInt8.ofNat 32), (UInt8.ofNat 48), (UInt8.ofNat 32), (UInt8.ofNat 48), (UInt8.ofNat 32), (UInt8.ofNat 45), (UInt8.ofNat 50), (UInt8.ofNat 32), (UInt8.ofNat 48), (UInt8.ofNat 32), (UInt8.ofNat 50), (UInt8.ofNat 10)])), (.int .i64 (0)), (.tuple #[(.slice (.some (.mk 5 0 .none)) 6 6), (.int .i64 (0))]), (.agg #[(.int .i64 (4)), (.int .i64 (0)), (.int .i64 (0)), (.int .i64 (-2)), (.int .i64 (0)), (.int .i64 (2))]), (.tuple #[(.slice (.some (.mk 5 0 .none)) 6 6), (.int .i64 (0))]), (.slice (.some (.mk 5 0 .none)) 6 6), (.int .i64 (0)), (.tuple #[(.slice (.some (.mk 6 0 .none)) 6 6), (.int .i64 (0))]), (.agg #[(.int .i64 (4)), (.int .i64 (0)), (.int .i64 (0)), (.int .i64 (-2)), (.int .i64 (0)), (.int .i64 (2))]), (.tuple #[(.slice (.some (.mk 6 0 .none)) 6 6), (.int .i64 (0))]), (.slice (.some (.mk 6 0 .none)) 6 6), (.int .i64 (0)), (.tuple #[(.int .i64 (2)), (.int .i64 (1)), (.int .i64 (0))]), (.agg #[(.int .i64 (4)), (.int .i64 (0)), (.int .i64 (0)), (.int .i64 (-2)), (.int .i64 (0)), (.int .i64 (2))]), (.agg #[(.int .i64 (0)), (.int .i64 (0)), (.int .i64 (1)), (.int .i64 (2))]), (.tuple #[(.int .i64 (2)), (.int .i64 (1)), (.int .i64 (0))]), (.int .i64 (2)), (.int .i64 (1)), (.int .i64 (0)), (.tuple #[(.int .i64 (0)), (.int .i64 (1)), (.int .i64 (0))]), (.agg #[(.int .i64 (4)), (.int .i64 (0)), (.int .i64 (0)), (.int .i64 (-2)), (.int .i64 (0)), (.int .i64 (2))]), (.agg #[(.int .i64 (0)), (.int .i64 (0)), (.int .i64 (-1)), (.int .i64 (-1))]), (.tuple #[(.int .i64 (0)), (.int .i64 (1)), (.int .i64 (0))]), (.int .i64 (0)), (.int .i64 (1)), (.int .i64 (0)), (.tuple #[(.bool true), (.int .i64 (0))]), (.agg #[(.int .i64 (4)), (.int .i64 (0)), (.int .i64 (0)), (.int .i64 (-2)), (.int .i64 (0)), (.int .i64 (2))]), (.tuple #[(.bool true), (.int .i64 (0))]), (.bool true), (.int .i64 (0)), (.tuple #[(.bool true), (.int .i64 (0))]), (.agg #[(.int .i64 (4)), (.int .i64 (0)), (.int .i64 (0)), (.int .i64 (-2)), (.int .i64 (0)), (.int .i64 (2))]), (.tuple #[(.bool true), (.int .i64 (0))]), (.bool true), (.int .i64 (0)), (.tuple #[(.int .i64 (16)), (.int .i64 (0))]), (.agg #[(.int .i64 (4)), (.int .i64 (0)), (.int .i64 (0)), (.int .i64 (-2)), (.int .i64 (0)), (.int .i64 (2))]), (.tuple #[(.int .i64 (16)), (.int .i64 (0))]), (.int .i64 (16)), (.int .i64 (0)), (.tuple #[(.agg #[(.int .i64 (4)), (.int .i64 (0)), (.int .i64 (4)), (.int .i64 (2))]), (.int .i64 (0))]), (.agg #[(.int .i64 (4)), (.int .i64 (0)), (.int .i64 (0)), (.int .i64 (-2)), (.int .i64 (0)), (.int .i64 (2))]), (.tuple #[(.agg #[(.int .i64 (4)), (.int .i64 (0)), (.int .i64 (4)), (.int .i64 (2))]), (.int .i64 (0))]), (.agg #[(.int .i64 (4)), (.int .i64 (0)), (.int .i64 (4)), (.int .i64 (2))]), (.int .i64 (0)), (.tuple #[(.slice (.some (.mk 9 0 .none)) 3 3), (.int .i64 (0))]), (.agg #[(.int .i64 (1)), (.int .i64 (2)), (.int .i64 (1)), (.int .i64 (0)), (.int .i64 (0)), (.int .i64 (2))]), (.slice (.some (.mk 8 0 .none)) 3 3), (.tuple #[(.slice (.some (.mk 9 0 .none)) 3 3), (.int .i64 (0))]), (.slice (.some (.mk 9 0 .none)) 3 3), (.int .i64 (0)), (.tuple #[(.agg #[(.int .i64 (1)), (.int .i64 (1))]), (.int .i64 (0))]), (.agg #[(.int .i64 (1)), (.int .i64 (2)), (.int .i64 (1)), (.int .i64 (0)), (.int .i64 (0)), (.int .i64 (2))]), (.tuple #[(.agg #[(.int .i64 (1)), (.int .i64 (1))]), (.int .i64 (0))]), (.agg #[(.int .i64 (1)), (.int .i64 (1))]), (.int .i64 (0)), (.tuple #[(.agg #[(.int .i64 (1)), (.int .i64 (2))]), (.int .i64 (0))]), (.agg #[(.int .i64 (1)), (.int .i64 (1)), (.int .i64 (0)), (.int .i64 (0)), (.int .i64 (0)), (.int .i64 (0))]), (.tuple #[(.agg #[(.int .i64 (1)), (.int .i64 (2))]), (.int .i64 (0))]), (.agg #[(.int .i64 (1)), (.int .i64 (2))]), (.int .i64 (0)), (.int .i64 (0)), (.int .i64 (0)), (.int .i64 (0)), (.int .i64 (0)), (.int .i64 (0)), (.int .i64 (0)), (.int .i64 (0)), (.int .i64 (0)), (.int .i64 (0)), (.int .i64 (0)), (.int .i64 (0)), (.int .i64 (0)), (.int .i64 (0)), (.int .i64 (0)), (.int .i64 (0)), (.int .i64 (0)), (.int .i64 (0)), (.int .i64 (0)), (.int .i64 (0)), (.int .i64 (0)), (.int .i64 (0)), (.bool false), (.bool false), (.slice (.some (.mk 5 0 .none)) 6 6), (.slice (.some (.mk 12 0 .none)) 6 6), (.bool true), (.bool false), (.bool false), (.bool false), (.slice (.some (.mk 6 0 .none)) 6 6), (.slice (.some (.mk 13 0 .none)) 6 6), (.bool true), (.bool false), (.bool false), (.bool false), (.int .i64 (2)), (.bool false), (.bool false), (.bool false), (.int .i64 (1)), (.bool false), (.bool false), (.bool false), (.int .i64 (0)), (.bool false), (.bool false), (.bool false), (.int .i64 (1)), (.bool false), (.bool false), (.bool false), (.bool true), (.bool false), (.bool false), (.bool false), (.bool true), (.bool false), (.bool false), (.bool false), (.int .i64 (16)), (.bool false), (.bool false), (.bool false), (.agg #[(.int .i64 (4)), (.int .i64 (0)), (.int .i64 (4)), (.int .i64 (2))]), (.agg #[(.int .i64 (4)), (.int .i64 (0))]), (.agg #[(.int .i64 (4)), (.int .i64 (2))]), (.agg #[(.int .i64 (4)), (.int .i64 (0)), (.int .i64 (4)), (.int .i64 (2))]), (.bool false), (.bool false), (.bool false), (.slice (.some (.mk 9 0 .none)) 3 3), (.slice (.some (.mk 14 0 .none)) 3 3), (.bool true), (.bool false), (.bool false), (.bool false), (.agg #[(.int .i64 (1)), (.int .i64 (1))]), (.agg #[(.int .i64 (1)), (.int .i64 (1))]), (.bool false), (.bool false), (.bool false), (.agg #[(.int .i64 (1)), (.int .i64 (2))]), (.agg #[(.int .i64 (1)), (.int .i64 (2))]), (.bool false), (.bool false), (.tuple #[(.slice (.some (.mk 16 0 .none)) 3 3), (.int .i64 (0))]), (.agg #[(.int .i64 (2)), (.int .i64 (1)), (.int .i64 (0)), (.int .i64 (0)), (.int .i64 (0)), (.int .i64 (1))]), (.slice (.some (.mk 15 0 .none)) 3 3), (.tuple #[(.slice (.some (.mk 16 0 .none)) 3 3), (.int .i64 (0))]), (.slice (.some (.mk 16 0 .none)) 3 3), (.int .i64 (0)), (.tuple #[(.slice (.some (.mk 18 0 .none)) 3 3), (.int .i64 (0))]), (.agg #[(.int .i64 (2)), (.int .i64 (1)), (.int .i64 (0)), (.int .i64 (0)), (.int .i64 (0)), (.int .i64 (1))]), (.slice (.some (.mk 17 0 .none)) 3 3), (.tuple #[(.slice (.some (.mk 18 0 .none)) 3 3), (.int .i64 (0))]), (.slice (.some (.mk 18 0 .none)) 3 3), (.int .i64 (0)), (.tuple #[(.slice (.some (.mk 20 0 .none)) 2 2), (.int .i64 (0))]), (.agg #[(.int .i64 (30000)), (.int .i64 (0)), (.int .i64 (0)), (.int .i64 (0)), (.int .i64 (0)), (.int .i64 (0))]), (.slice (.some (.mk 19 0 .none)) 2 2), (.tuple #[(.slice (.some (.mk 20 0 .none)) 2 2), (.int .i64 (0))]), (.slice (.some (.mk 20 0 .none)) 2 2), (.int .i64 (0)), (.tuple #[(.int .i64 (1)), (.int .i64 (0))]), (.agg #[(.int .i64 (30000)), (.int .i64 (0)), (.int .i64 (0)), (.int .i64 (0)), (.int .i64 (0)), (.int .i64 (0))]), (.slice (.some (.mk 21 0 .none)) 2 2), (.tuple #[(.int .i64 (1)), (.int .i64 (0))]), (.int .i64 (1)), (.int .i64 (0)), (.tuple #[(.string (ByteArray.mk #[(UInt8.ofNat 52), (UInt8.ofNat 32), (UInt8.ofNat 48), (UInt8.ofNat 32), (UInt8.ofNat 48), (UInt8.ofNat 32), (UInt8.ofNat 45), (UInt8.ofNat 50), (UInt8.ofNat 32), (UInt8.ofNat 48), (UInt8.ofNat 32), (UInt8.ofNat 50), (UInt8.ofNat 10)])), (.int .i64 (0))]), (.agg #[(.int .i64 (4)), (.int .i64 (0)), (.int .i64 (0)), (.int .i64 (-2)), (.int .i64 (0)), (.int .i64 (2))]), (.slice (.some (.mk 22 0 .none)) 1 1), (.tuple #[(.string (ByteArray.mk #[(UInt8.ofNat 52), (UInt8.ofNat 32), (UInt8.ofNat 48), (UInt8.ofNat 32), (UInt8.ofNat 48), (UInt8.ofNat 32), (UInt8.ofNat 45), (UInt8.ofNat 50), (UInt8.ofNat 32), (UInt8.ofNat 48), (UInt8.ofNat 32), (UInt8.ofNat 50), (UInt8.ofNat 10)])), (.int .i64 (0))]), (.string (ByteArray.mk #[(UInt8.ofNat 52), (UInt8.ofNat 32), (UInt8.ofNat 48), (UInt8.ofNat 32), (UInt8.ofNat 48), (UInt8.ofNat 32), (UInt8.ofNat 45), (UInt8.ofNat 50), (UInt8.ofNat 32), (UInt8.ofNat 48), (UInt8.ofNat 32), (UInt8.ofNat 50), (UInt8.ofNat 10)])), (.int .i64 (0)), (.int .i64 (0)), (.int .i64 (0)), (.int .i64 (0)), (.int .i64 (0)), (.int .i64 (0)), (.int .i64 (0)), (.int .i64 (0)), (.int .i64 (0)), (.int .i64 (0)), (.bool true), (.bool true), (.slice (.some (.mk 16 0 .none)) 3 3), (.slice (.some (.mk 23 0 .none)) 3 3), (.bool true), (.bool true), (.bool true), (.slice (.some (.mk 18 0 .none)) 3 3), (.slice (.some (.mk 24 0 .none)) 3 3), (.bool true), (.bool true), (.bool true), (.slice (.some (.mk 20 0 .none)) 2 2), (.slice (.some (.mk 25 0 .none)) 2 2), (.bool true), (.bool true), (.bool true), (.int .i64 (1)), (.bool true), (.bool true), (.bool true), (.string (ByteArray.mk #[(UInt8.ofNat 52), (UInt8.ofNat 32), (UInt8.ofNat 48), (UInt8.ofNat 32), (UInt8.ofNat 48), (UInt8.ofNat 32), (UInt8.ofNat 45), (UInt8.ofNat 50), (UInt8.ofNat 32), (UInt8.ofNat 48), (UInt8.ofNat 32), (UInt8.ofNat 50), (UInt8.ofNat 10)])), (.bool true), (.bool true)]
noncomputable def X20 : Heap := (H [(.some (.cells [(.int .i64 (8)), (.int .i64 (4)), (.int .i64 (2)), (.int .i64 (1)), (.int .i64 (0)), (.int .i64 (0))] 3 .row)), (.some (.cells [(.int .i64 (-8)), (.int .i64 (-4)), (.int .i64 (-2)), (.int .i64 (-1)), (.int .i64 (-1)), (.int .i64 (-1))] 3 .row)), (.some (.cells [(.int .i64 (4)), (.int .i64 (0)), (.int .i64 (4)), (.int .i64 (2))] 49 .var)), (.some (.cells [(.int .i64 (4)), (.int .i64 (0)), (.int .i64 (0))] 3 .row)), (.some (.cells [(.int .i64 (1)), (.int .i64 (2)), (.int .i64 (1))] 3 .row)), (.some (.cells [(.int .i64 (1)), (.int .i64 (1))] 53 .var)), (.some (.cells [(.int .i64 (1)), (.int .i64 (2))] 53 .var)), (.some (.cells [(.int .i64 (8)), (.int .i64 (4)), (.int .i64 (2)), (.int .i64 (1)), (.int .i64 (0)), (.int .i64 (0))] 3 .row)), (.some (.cells [(.int .i64 (-8)), (.int .i64 (-4)), (.int .i64 (-2)), (.int .i64 (-1)), (.int .i64 (-1)), (.int .i64 (-1))] 3 .row)), (.some (.cells [(.int .i64 (1)), (.int .i64 (2)), (.int .i64 (1))] 3 .row)), (.some (.cells [(.int .i64 (3)), (.int .i64 (1)), (.int .i64 (-2))] 3 .row)), (.some (.cells [(.int .i64 (3)), (.int .i64 (2)), (.int .i64 (-2))] 3 .row)), (.some (.cells [(.int .i64 (3)), (.int .i64 (2)), (.int .i64 (-2))] 3 .row)), (.some (.cells [(.int .i64 (3)), (.int .i64 (1)), (.int .i64 (-2))] 3 .row)), (.some (.cells [(.int .i64 (1)), (.int .i64 (2))] 3 .row)), (.some (.cells [(.int .i64 (30000)), (.int .i64 (32767))] 3 .row)), (.some (.cells [(.int .i64 (1)), (.int .i64 (2))] 3 .row)), (.some (.cells [(.int .i64 (4)), (.int .i64 (0)), (.int .i64 (0)), (.int .i64 (-2)), (.int .i64 (0)), (.int .i64 (2))] 30 .row)), (.some (.cells [(.int .i64 (3)), (.int .i64 (2)), (.int .i64 (-2))] 3 .row)), (.some (.cells [(.int .i64 (3)), (.int .i64 (1)), (.int .i64 (-2))] 3 .row)), (.some (.cells [(.int .i64 (30000)), (.int .i64 (32767))] 3 .row))])
end Go.Proofs.YtfnmpdmfpfhjnaaDoor
/-
The document's examples, run: statements 0 to 3 of awake.
-/
namespace Go.Proofs.YtfnmpdmfpfhjnaaDoor
open Go Go.Abs
theorem c0 : aRun Tryd.prog envSb 100000 5 [.code (seqAt 0 (bodyOf 13))] L0 X0 = some (L1, X1, none) := by kernel_rfl
theorem c1 : aRun Tryd.prog envSb 100000 5 [.code (seqAt 1 (bodyOf 13))] L1 X1 = some (L2, X2, none) := by kernel_rfl
theorem c2 : aRun Tryd.prog envSb 100000 5 [.code (seqAt 2 (bodyOf 13))] L2 X2 = some (L3, X3, none) := by kernel_rfl
theorem c3 : aRun Tryd.prog envSb 100000 5 [.code (seqAt 3 (bodyOf 13))] L3 X3 = some (L4, X4, none) := by kernel_rfl
end Go.Proofs.YtfnmpdmfpfhjnaaDoor
/-
The document's examples, run: statements 4 to 7 of awake.
-/
namespace Go.Proofs.YtfnmpdmfpfhjnaaDoor
open Go Go.Abs
theorem c4 : aRun Tryd.prog envSb 100000 5 [.code (seqAt 4 (bodyOf 13))] L4 X4 = some (L5, X5, none) := by kernel_rfl
theorem c5 : aRun Tryd.prog envSb 100000 5 [.code (seqAt 5 (bodyOf 13))] L5 X5 = some (L6, X6, none) := by kernel_rfl
theorem c6 : aRun Tryd.prog envSb 100000 5 [.code (seqAt 6 (bodyOf 13))] L6 X6 = some (L7, X7, none) := by kernel_rfl
theorem c7 : aRun Tryd.prog envSb 100000 5 [.code (seqAt 7 (bodyOf 13))] L7 X7 = some (L8, X8, none) := by kernel_rfl
end Go.Proofs.YtfnmpdmfpfhjnaaDoor
/-
The document's examples, run: statements 8 to 11 of awake.
-/
namespace Go.Proofs.YtfnmpdmfpfhjnaaDoor
open Go Go.Abs
theorem c8 : aRun Tryd.prog envSb 100000 5 [.code (seqAt 8 (bodyOf 13))] L8 X8 = some (L9, X9, none) := by kernel_rfl
theorem c9 : aRun Tryd.prog envSb 100000 5 [.code (seqAt 9 (bodyOf 13))] L9 X9 = some (L10, X10, none) := by kernel_rfl
theorem c10 : aRun Tryd.prog envSb 100000 5 [.code (seqAt 10 (bodyOf 13))] L10 X10 = some (L11, X11, none) := by kernel_rfl
theorem c11 : aRun Tryd.prog envSb 100000 5 [.code (seqAt 11 (bodyOf 13))] L11 X11 = some (L12, X12, none) := by kernel_rfl
end Go.Proofs.YtfnmpdmfpfhjnaaDoor
/-
The document's examples, run: statements 12 to 19 of awake.
-/
namespace Go.Proofs.YtfnmpdmfpfhjnaaDoor
open Go Go.Abs
theorem c12 : aRun Tryd.prog envSb 100000 5 [.code (seqAt 12 (bodyOf 13))] L12 X12 = some (L13, X13, none) := by kernel_rfl
theorem c13 : aRun Tryd.prog envSb 100000 5 [.code (seqAt 13 (bodyOf 13))] L13 X13 = some (L14, X14, none) := by kernel_rfl
theorem c14 : aRun Tryd.prog envSb 100000 5 [.code (seqAt 14 (bodyOf 13))] L14 X14 = some (L15, X15, none) := by kernel_rfl
theorem c15 : aRun Tryd.prog envSb 100000 5 [.code (seqAt 15 (bodyOf 13))] L15 X15 = some (L16, X16, none) := by kernel_rfl
theorem c16 : aRun Tryd.prog envSb 100000 5 [.code (seqAt 16 (bodyOf 13))] L16 X16 = some (L17, X17, none) := by kernel_rfl
theorem c17 : aRun Tryd.prog envSb 100000 5 [.code (seqAt 17 (bodyOf 13))] L17 X17 = some (L18, X18, none) := by kernel_rfl
theorem c18 : aRun Tryd.prog envSb 100000 5 [.code (seqAt 18 (bodyOf 13))] L18 X18 = some (L19, X19, none) := by kernel_rfl
theorem c19 : aRun Tryd.prog envSb 100000 5 [.code (seqAt 19 (bodyOf 13))] L19 X19 = some (L20, X20, some .ret) := by kernel_rfl
end Go.Proofs.YtfnmpdmfpfhjnaaDoor
/-
The document's examples, run: awake gives true, and is known from here on.
-/
namespace Go.Proofs.YtfnmpdmfpfhjnaaDoor
open Go Go.Abs
theorem awake_runs : Runs Tryd.prog envSb 5 [.code (dropS 0 (bodyOf 13))] L0 X0 (L20, X20, some .ret) := by
  refine runs_drop (by kernel_rfl) ⟨_, c0⟩ ?_
  refine runs_drop (by kernel_rfl) ⟨_, c1⟩ ?_
  refine runs_drop (by kernel_rfl) ⟨_, c2⟩ ?_
  refine runs_drop (by kernel_rfl) ⟨_, c3⟩ ?_
  refine runs_drop (by kernel_rfl) ⟨_, c4⟩ ?_
  refine runs_drop (by kernel_rfl) ⟨_, c5⟩ ?_
  refine runs_drop (by kernel_rfl) ⟨_, c6⟩ ?_
  refine runs_drop (by kernel_rfl) ⟨_, c7⟩ ?_
  refine runs_drop (by kernel_rfl) ⟨_, c8⟩ ?_
  refine runs_drop (by kernel_rfl) ⟨_, c9⟩ ?_
  refine runs_drop (by kernel_rfl) ⟨_, c10⟩ ?_
  refine runs_drop (by kernel_rfl) ⟨_, c11⟩ ?_
  refine runs_drop (by kernel_rfl) ⟨_, c12⟩ ?_
  refine runs_drop (by kernel_rfl) ⟨_, c13⟩ ?_
  refine runs_drop (by kernel_rfl) ⟨_, c14⟩ ?_
  refine runs_drop (by kernel_rfl) ⟨_, c15⟩ ?_
  refine runs_drop (by kernel_rfl) ⟨_, c16⟩ ?_
  refine runs_drop (by kernel_rfl) ⟨_, c17⟩ ?_
  refine runs_drop (by kernel_rfl) ⟨_, c18⟩ ?_
  exact runs_last (by kernel_rfl) ⟨_, c19⟩
/-- The examples are as the document says. -/
theorem awake_gives : Gives Tryd.prog envSb 0 13 [] heap0 (.bool true, heap0) :=
  Gives.of_body (c := bodyOf 13) (j := some .ret) (v := .bool true) (l1 := L20) (A1 := X20) (fun _ _ => by kernel_rfl) Tryd.func13 (by kernel_rfl) (by kernel_rfl) (by kernel_rfl) (runs_eq awake_runs (by kernel_rfl) (by kernel_rfl) (by kernel_rfl) (by kernel_rfl)) rfl (by kernel_rfl)
theorem awake_says : SaysAt Tryd.prog 5 13 [] heap0 (.bool true) heap0 := SaysAt.of_gives prog_ok envSb_ok awake_gives
end Go.Proofs.YtfnmpdmfpfhjnaaDoor
/-
SectionSteps: the arithmetic.
-/
namespace Go.Proofs.YtfnmpdmfpfhjnaaDoor
open Go Go.Abs
theorem kn_skip {E : Env} {B : FuncId → List Value → Option (Heap × Value)} {lim : Nat} {f : FuncId} {args : List Value} {A : Heap} (h : B f args = none) : (E.with (baseKnown B)).known lim f args A = E.known lim f args A := by
  simp only [Env.with, baseKnown, h]
theorem kn_here {E : Env} {B : FuncId → List Value → Option (Heap × Value)} {lim : Nat} {f : FuncId} {args : List Value} {A T : Heap} {v : Value} (h : B f args = some (T, v)) (hf : args.all freeB = true) (hv : freeB v = true) (hs : startsB T A = true) : (E.with (baseKnown B)).known lim f args A = some (v, A) := by
  simp only [Env.with, baseKnown, h, hf, hv, hs, Bool.and_self, if_true]
theorem cond_nz (x : Int) : cond (x != 0) x 0 = x := by
  by_cases h : x = 0
  · subst h; rfl
  · rw [show (x != 0) = true from bne_iff_ne.2 h]; rfl
theorem cr_eq (n a b : Int) : cr_r0 n a b = if a ≤ n ∧ n ≤ b then 0 else 3 := by
  unfold cr_r0 cr_c0 cr_c1
  by_cases h1 : a ≤ n <;> by_cases h2 : n ≤ b <;> simp [h1, h2]
theorem rcr_eq (n a b : Int) : rcr_r0 n a b = if a ≤ n ∧ n ≤ b then 0 else 3 := by
  unfold rcr_r0 rcr_c0 rcr_c1
  by_cases h1 : n < a
  · rw [if_neg (by omega)]; simp [h1]
  · by_cases h2 : n > b
    · rw [if_neg (by omega)]; simp [h1, h2]
    · rw [if_pos (by omega)]; simp [h1, h2]
theorem cs_rcs (a b c d e s : Int) : cs_r0 a b c d e s = rcs_r0 a b c d e s := by
  unfold cs_r0 cs_c0 cs_c1 cs_c2 cs_c3 cs_c4 cs_c5 rcs_r0 rcs_c0 rcs_c1 rcs_c2 rcs_c3 rcs_c4
  simp only [cr_eq, rcr_eq, cond_nz]
def tapR (x : Int) : Prop := -32767 ≤ x ∧ x ≤ 32767
def secR (a b c d e s : Int) : Prop := tapR a ∧ tapR b ∧ tapR c ∧ tapR d ∧ tapR e ∧ 0 ≤ s ∧ s ≤ 15
instance (x : Int) : Decidable (tapR x) := by unfold tapR; exact inferInstance
instance (a b c d e s : Int) : Decidable (secR a b c d e s) := by unfold secR; exact inferInstance
theorem if_cond {p : Prop} [Decidable p] (x : Int) : cond ((if p then (0 : Int) else 3) != 0) (if p then (0 : Int) else 3) x = if p then x else 3 := by
  by_cases h : p <;> simp [h]
theorem cs_eq (a b c d e s : Int) : cs_r0 a b c d e s = if secR a b c d e s then 0 else 3 := by
  unfold cs_r0 cs_c0 cs_c1 cs_c2 cs_c3 cs_c4 cs_c5
  simp only [cr_eq, if_cond]
  have key : secR a b c d e s → ((-32767 ≤ a ∧ a ≤ 32767) ∧ (-32767 ≤ b ∧ b ≤ 32767) ∧ (-32767 ≤ c ∧ c ≤ 32767) ∧ (-32767 ≤ d ∧ d ≤ 32767) ∧ (-32767 ≤ e ∧ e ≤ 32767) ∧ 0 ≤ s ∧ s ≤ 15) := id
  by_cases ha : -32767 ≤ a ∧ a ≤ 32767
  case neg => rw [if_neg ha, if_neg (fun h => ha (key h).1)]
  by_cases hb : -32767 ≤ b ∧ b ≤ 32767
  case neg => rw [if_pos ha, if_neg hb, if_neg (fun h => hb (key h).2.1)]
  by_cases hc : -32767 ≤ c ∧ c ≤ 32767
  case neg => rw [if_pos ha, if_pos hb, if_neg hc, if_neg (fun h => hc (key h).2.2.1)]
  by_cases hd : -32767 ≤ d ∧ d ≤ 32767
  case neg => rw [if_pos ha, if_pos hb, if_pos hc, if_neg hd, if_neg (fun h => hd (key h).2.2.2.1)]
  by_cases he : -32767 ≤ e ∧ e ≤ 32767
  case neg => rw [if_pos ha, if_pos hb, if_pos hc, if_pos hd, if_neg he, if_neg (fun h => he (key h).2.2.2.2.1)]
  by_cases hs : 0 ≤ s ∧ s ≤ 15
  case neg => rw [if_pos ha, if_pos hb, if_pos hc, if_pos hd, if_pos he, if_neg hs, if_neg (fun h => hs (key h).2.2.2.2.2)]
  rw [if_pos ha, if_pos hb, if_pos hc, if_pos hd, if_pos he, if_pos hs, if_pos (show secR a b c d e s from ⟨ha, hb, hc, hd, he, hs⟩)]
theorem rci_eq (n : Int) : rci_r0 n = if tapR n then 0 else 3 := by unfold rci_r0; rw [rcr_eq]; rfl
theorem lim_eq (n : Int) : (lim_r0 n == n) = decide (tapR n) := by
  rw [Bool.eq_iff_iff]
  simp only [beq_iff_eq, decide_eq_true_eq]
  unfold lim_r0 tapR
  split
  · split at * <;> constructor <;> intro _ <;> omega
  · split at * <;> constructor <;> intro _ <;> omega
theorem lim_ne (n : Int) : (n != lim_r0 n) = !decide (tapR n) := by
  rw [← lim_eq, bne, BEq.comm]
theorem cv_eq (n : Int) : cv_r0 n = if tapR n then 0 else 3 := by
  unfold cv_r0 cv_c0; rw [lim_ne]
  by_cases h : tapR n <;> simp [h]
def stR (a b c d : Int) : Prop := tapR a ∧ tapR b ∧ tapR c ∧ tapR d
instance (a b c d : Int) : Decidable (stR a b c d) := by unfold stR; exact inferInstance
theorem st_eq (a b c d : Int) : st_r0 a b c d = if stR a b c d then 0 else 3 := by
  unfold st_r0 st_c0
  simp only [lim_eq]
  by_cases ha : tapR a <;> by_cases hb : tapR b <;> by_cases hc : tapR c <;> by_cases hd : tapR d <;> simp [stR, ha, hb, hc, hd]
theorem rst_eq (a b c d : Int) : rst_r0 a b c d = if stR a b c d then 0 else 3 := by
  unfold rst_r0 rst_c0 rst_c1 rst_c2 rst_c3
  simp only [rci_eq, if_cond]
  by_cases ha : tapR a <;> by_cases hb : tapR b <;> by_cases hc : tapR c <;> by_cases hd : tapR d <;> simp [stR, ha, hb, hc, hd]
theorem lim_max (r : Int) : lim_r0 r = if (if r > -32767 then r else -32767) < 32767 then if r > -32767 then r else -32767 else 32767 := by
  unfold lim_r0
  split
  · split at * <;> split <;> omega
  · split at * <;> split <;> omega
theorem wr (n : Int) : -9223372036854775808 ≤ IntKind.i64.wrap n ∧ IntKind.i64.wrap n ≤ 9223372036854775807 := by
  simp [IntKind.wrap, IntKind.bits, IntKind.signed]
  omega
theorem w_id {n : Int} (h1 : -9223372036854775808 ≤ n) (h2 : n ≤ 9223372036854775807) : IntKind.i64.wrap n = n := by
  simp [IntKind.wrap, IntKind.bits, IntKind.signed]
  omega
theorem floor_all {S D q : Int} (hD : 0 < D) (h1 : -9223372036854775808 ≤ S) (h2 : S ≤ 9223372036854775807) (hq : S.tdiv D = q) (b1 : -9223372036854775808 ≤ q) (b2 : q ≤ 9223372036854775807) (b3 : -9223372036854775808 ≤ q * D) (b4 : q * D ≤ 9223372036854775807) (b5 : q * D > S → -9223372036854775808 ≤ q - 1) (hf : S.fdiv D = if q * D > S then q - 1 else q) :
    cond (decide (IntKind.i64.wrap (IntKind.i64.wrap (S.tdiv D) * D) > S)) (IntKind.i64.wrap (IntKind.i64.wrap (S.tdiv D) - 1)) (IntKind.i64.wrap (S.tdiv D)) = S.fdiv D := by
  rw [hq, w_id b1 b2, w_id b3 b4, hf]
  by_cases h : q * D > S
  · have := b5 h
    simp only [h, decide_true, cond_true, if_true]; exact w_id this (by omega)
  · simp only [h, decide_false, cond_false, if_false]
theorem floor0 {S : Int} (h1 : -9223372036854775808 ≤ S) (h2 : S ≤ 9223372036854775807) : cond (decide (IntKind.i64.wrap (IntKind.i64.wrap (S.tdiv 1) * 1) > S)) (IntKind.i64.wrap (IntKind.i64.wrap (S.tdiv 1) - 1)) (IntKind.i64.wrap (S.tdiv 1)) = S.fdiv 1 := by
  have e1 := Int.tdiv_eq_ediv (a := S) (b := 1)
  have e2 := Int.fdiv_eq_ediv_of_nonneg S (show (0 : Int) ≤ 1 by decide)
  have e3 : (0 ≤ S ∨ (1 : Int) ∣ S) ↔ (0 ≤ S ∨ S % 1 = 0) := by rw [Int.dvd_iff_emod_eq_zero]
  have e4 : (1 : Int).sign = 1 := rfl
  rw [e4] at e1
  simp only [e3] at e1
  refine floor_all (by decide) h1 h2 rfl ?_ ?_ ?_ ?_ ?_ ?_
  all_goals (split at e1)
  all_goals (try split)
  all_goals omega
theorem floor1 {S : Int} (h1 : -9223372036854775808 ≤ S) (h2 : S ≤ 9223372036854775807) : cond (decide (IntKind.i64.wrap (IntKind.i64.wrap (S.tdiv 2) * 2) > S)) (IntKind.i64.wrap (IntKind.i64.wrap (S.tdiv 2) - 1)) (IntKind.i64.wrap (S.tdiv 2)) = S.fdiv 2 := by
  have e1 := Int.tdiv_eq_ediv (a := S) (b := 2)
  have e2 := Int.fdiv_eq_ediv_of_nonneg S (show (0 : Int) ≤ 2 by decide)
  have e3 : (0 ≤ S ∨ (2 : Int) ∣ S) ↔ (0 ≤ S ∨ S % 2 = 0) := by rw [Int.dvd_iff_emod_eq_zero]
  have e4 : (2 : Int).sign = 1 := rfl
  rw [e4] at e1
  simp only [e3] at e1
  refine floor_all (by decide) h1 h2 rfl ?_ ?_ ?_ ?_ ?_ ?_
  all_goals (split at e1)
  all_goals (try split)
  all_goals omega
theorem floor2 {S : Int} (h1 : -9223372036854775808 ≤ S) (h2 : S ≤ 9223372036854775807) : cond (decide (IntKind.i64.wrap (IntKind.i64.wrap (S.tdiv 4) * 4) > S)) (IntKind.i64.wrap (IntKind.i64.wrap (S.tdiv 4) - 1)) (IntKind.i64.wrap (S.tdiv 4)) = S.fdiv 4 := by
  have e1 := Int.tdiv_eq_ediv (a := S) (b := 4)
  have e2 := Int.fdiv_eq_ediv_of_nonneg S (show (0 : Int) ≤ 4 by decide)
  have e3 : (0 ≤ S ∨ (4 : Int) ∣ S) ↔ (0 ≤ S ∨ S % 4 = 0) := by rw [Int.dvd_iff_emod_eq_zero]
  have e4 : (4 : Int).sign = 1 := rfl
  rw [e4] at e1
  simp only [e3] at e1
  refine floor_all (by decide) h1 h2 rfl ?_ ?_ ?_ ?_ ?_ ?_
  all_goals (split at e1)
  all_goals (try split)
  all_goals omega
theorem floor3 {S : Int} (h1 : -9223372036854775808 ≤ S) (h2 : S ≤ 9223372036854775807) : cond (decide (IntKind.i64.wrap (IntKind.i64.wrap (S.tdiv 8) * 8) > S)) (IntKind.i64.wrap (IntKind.i64.wrap (S.tdiv 8) - 1)) (IntKind.i64.wrap (S.tdiv 8)) = S.fdiv 8 := by
  have e1 := Int.tdiv_eq_ediv (a := S) (b := 8)
  have e2 := Int.fdiv_eq_ediv_of_nonneg S (show (0 : Int) ≤ 8 by decide)
  have e3 : (0 ≤ S ∨ (8 : Int) ∣ S) ↔ (0 ≤ S ∨ S % 8 = 0) := by rw [Int.dvd_iff_emod_eq_zero]
  have e4 : (8 : Int).sign = 1 := rfl
  rw [e4] at e1
  simp only [e3] at e1
  refine floor_all (by decide) h1 h2 rfl ?_ ?_ ?_ ?_ ?_ ?_
  all_goals (split at e1)
  all_goals (try split)
  all_goals omega
theorem floor4 {S : Int} (h1 : -9223372036854775808 ≤ S) (h2 : S ≤ 9223372036854775807) : cond (decide (IntKind.i64.wrap (IntKind.i64.wrap (S.tdiv 16) * 16) > S)) (IntKind.i64.wrap (IntKind.i64.wrap (S.tdiv 16) - 1)) (IntKind.i64.wrap (S.tdiv 16)) = S.fdiv 16 := by
  have e1 := Int.tdiv_eq_ediv (a := S) (b := 16)
  have e2 := Int.fdiv_eq_ediv_of_nonneg S (show (0 : Int) ≤ 16 by decide)
  have e3 : (0 ≤ S ∨ (16 : Int) ∣ S) ↔ (0 ≤ S ∨ S % 16 = 0) := by rw [Int.dvd_iff_emod_eq_zero]
  have e4 : (16 : Int).sign = 1 := rfl
  rw [e4] at e1
  simp only [e3] at e1
  refine floor_all (by decide) h1 h2 rfl ?_ ?_ ?_ ?_ ?_ ?_
  all_goals (split at e1)
  all_goals (try split)
  all_goals omega
theorem floor5 {S : Int} (h1 : -9223372036854775808 ≤ S) (h2 : S ≤ 9223372036854775807) : cond (decide (IntKind.i64.wrap (IntKind.i64.wrap (S.tdiv 32) * 32) > S)) (IntKind.i64.wrap (IntKind.i64.wrap (S.tdiv 32) - 1)) (IntKind.i64.wrap (S.tdiv 32)) = S.fdiv 32 := by
  have e1 := Int.tdiv_eq_ediv (a := S) (b := 32)
  have e2 := Int.fdiv_eq_ediv_of_nonneg S (show (0 : Int) ≤ 32 by decide)
  have e3 : (0 ≤ S ∨ (32 : Int) ∣ S) ↔ (0 ≤ S ∨ S % 32 = 0) := by rw [Int.dvd_iff_emod_eq_zero]
  have e4 : (32 : Int).sign = 1 := rfl
  rw [e4] at e1
  simp only [e3] at e1
  refine floor_all (by decide) h1 h2 rfl ?_ ?_ ?_ ?_ ?_ ?_
  all_goals (split at e1)
  all_goals (try split)
  all_goals omega
theorem floor6 {S : Int} (h1 : -9223372036854775808 ≤ S) (h2 : S ≤ 9223372036854775807) : cond (decide (IntKind.i64.wrap (IntKind.i64.wrap (S.tdiv 64) * 64) > S)) (IntKind.i64.wrap (IntKind.i64.wrap (S.tdiv 64) - 1)) (IntKind.i64.wrap (S.tdiv 64)) = S.fdiv 64 := by
  have e1 := Int.tdiv_eq_ediv (a := S) (b := 64)
  have e2 := Int.fdiv_eq_ediv_of_nonneg S (show (0 : Int) ≤ 64 by decide)
  have e3 : (0 ≤ S ∨ (64 : Int) ∣ S) ↔ (0 ≤ S ∨ S % 64 = 0) := by rw [Int.dvd_iff_emod_eq_zero]
  have e4 : (64 : Int).sign = 1 := rfl
  rw [e4] at e1
  simp only [e3] at e1
  refine floor_all (by decide) h1 h2 rfl ?_ ?_ ?_ ?_ ?_ ?_
  all_goals (split at e1)
  all_goals (try split)
  all_goals omega
theorem floor7 {S : Int} (h1 : -9223372036854775808 ≤ S) (h2 : S ≤ 9223372036854775807) : cond (decide (IntKind.i64.wrap (IntKind.i64.wrap (S.tdiv 128) * 128) > S)) (IntKind.i64.wrap (IntKind.i64.wrap (S.tdiv 128) - 1)) (IntKind.i64.wrap (S.tdiv 128)) = S.fdiv 128 := by
  have e1 := Int.tdiv_eq_ediv (a := S) (b := 128)
  have e2 := Int.fdiv_eq_ediv_of_nonneg S (show (0 : Int) ≤ 128 by decide)
  have e3 : (0 ≤ S ∨ (128 : Int) ∣ S) ↔ (0 ≤ S ∨ S % 128 = 0) := by rw [Int.dvd_iff_emod_eq_zero]
  have e4 : (128 : Int).sign = 1 := rfl
  rw [e4] at e1
  simp only [e3] at e1
  refine floor_all (by decide) h1 h2 rfl ?_ ?_ ?_ ?_ ?_ ?_
  all_goals (split at e1)
  all_goals (try split)
  all_goals omega
theorem floor8 {S : Int} (h1 : -9223372036854775808 ≤ S) (h2 : S ≤ 9223372036854775807) : cond (decide (IntKind.i64.wrap (IntKind.i64.wrap (S.tdiv 256) * 256) > S)) (IntKind.i64.wrap (IntKind.i64.wrap (S.tdiv 256) - 1)) (IntKind.i64.wrap (S.tdiv 256)) = S.fdiv 256 := by
  have e1 := Int.tdiv_eq_ediv (a := S) (b := 256)
  have e2 := Int.fdiv_eq_ediv_of_nonneg S (show (0 : Int) ≤ 256 by decide)
  have e3 : (0 ≤ S ∨ (256 : Int) ∣ S) ↔ (0 ≤ S ∨ S % 256 = 0) := by rw [Int.dvd_iff_emod_eq_zero]
  have e4 : (256 : Int).sign = 1 := rfl
  rw [e4] at e1
  simp only [e3] at e1
  refine floor_all (by decide) h1 h2 rfl ?_ ?_ ?_ ?_ ?_ ?_
  all_goals (split at e1)
  all_goals (try split)
  all_goals omega
theorem floor9 {S : Int} (h1 : -9223372036854775808 ≤ S) (h2 : S ≤ 9223372036854775807) : cond (decide (IntKind.i64.wrap (IntKind.i64.wrap (S.tdiv 512) * 512) > S)) (IntKind.i64.wrap (IntKind.i64.wrap (S.tdiv 512) - 1)) (IntKind.i64.wrap (S.tdiv 512)) = S.fdiv 512 := by
  have e1 := Int.tdiv_eq_ediv (a := S) (b := 512)
  have e2 := Int.fdiv_eq_ediv_of_nonneg S (show (0 : Int) ≤ 512 by decide)
  have e3 : (0 ≤ S ∨ (512 : Int) ∣ S) ↔ (0 ≤ S ∨ S % 512 = 0) := by rw [Int.dvd_iff_emod_eq_zero]
  have e4 : (512 : Int).sign = 1 := rfl
  rw [e4] at e1
  simp only [e3] at e1
  refine floor_all (by decide) h1 h2 rfl ?_ ?_ ?_ ?_ ?_ ?_
  all_goals (split at e1)
  all_goals (try split)
  all_goals omega
theorem floor10 {S : Int} (h1 : -9223372036854775808 ≤ S) (h2 : S ≤ 9223372036854775807) : cond (decide (IntKind.i64.wrap (IntKind.i64.wrap (S.tdiv 1024) * 1024) > S)) (IntKind.i64.wrap (IntKind.i64.wrap (S.tdiv 1024) - 1)) (IntKind.i64.wrap (S.tdiv 1024)) = S.fdiv 1024 := by
  have e1 := Int.tdiv_eq_ediv (a := S) (b := 1024)
  have e2 := Int.fdiv_eq_ediv_of_nonneg S (show (0 : Int) ≤ 1024 by decide)
  have e3 : (0 ≤ S ∨ (1024 : Int) ∣ S) ↔ (0 ≤ S ∨ S % 1024 = 0) := by rw [Int.dvd_iff_emod_eq_zero]
  have e4 : (1024 : Int).sign = 1 := rfl
  rw [e4] at e1
  simp only [e3] at e1
  refine floor_all (by decide) h1 h2 rfl ?_ ?_ ?_ ?_ ?_ ?_
  all_goals (split at e1)
  all_goals (try split)
  all_goals omega
theorem floor11 {S : Int} (h1 : -9223372036854775808 ≤ S) (h2 : S ≤ 9223372036854775807) : cond (decide (IntKind.i64.wrap (IntKind.i64.wrap (S.tdiv 2048) * 2048) > S)) (IntKind.i64.wrap (IntKind.i64.wrap (S.tdiv 2048) - 1)) (IntKind.i64.wrap (S.tdiv 2048)) = S.fdiv 2048 := by
  have e1 := Int.tdiv_eq_ediv (a := S) (b := 2048)
  have e2 := Int.fdiv_eq_ediv_of_nonneg S (show (0 : Int) ≤ 2048 by decide)
  have e3 : (0 ≤ S ∨ (2048 : Int) ∣ S) ↔ (0 ≤ S ∨ S % 2048 = 0) := by rw [Int.dvd_iff_emod_eq_zero]
  have e4 : (2048 : Int).sign = 1 := rfl
  rw [e4] at e1
  simp only [e3] at e1
  refine floor_all (by decide) h1 h2 rfl ?_ ?_ ?_ ?_ ?_ ?_
  all_goals (split at e1)
  all_goals (try split)
  all_goals omega
theorem floor12 {S : Int} (h1 : -9223372036854775808 ≤ S) (h2 : S ≤ 9223372036854775807) : cond (decide (IntKind.i64.wrap (IntKind.i64.wrap (S.tdiv 4096) * 4096) > S)) (IntKind.i64.wrap (IntKind.i64.wrap (S.tdiv 4096) - 1)) (IntKind.i64.wrap (S.tdiv 4096)) = S.fdiv 4096 := by
  have e1 := Int.tdiv_eq_ediv (a := S) (b := 4096)
  have e2 := Int.fdiv_eq_ediv_of_nonneg S (show (0 : Int) ≤ 4096 by decide)
  have e3 : (0 ≤ S ∨ (4096 : Int) ∣ S) ↔ (0 ≤ S ∨ S % 4096 = 0) := by rw [Int.dvd_iff_emod_eq_zero]
  have e4 : (4096 : Int).sign = 1 := rfl
  rw [e4] at e1
  simp only [e3] at e1
  refine floor_all (by decide) h1 h2 rfl ?_ ?_ ?_ ?_ ?_ ?_
  all_goals (split at e1)
  all_goals (try split)
  all_goals omega
theorem floor13 {S : Int} (h1 : -9223372036854775808 ≤ S) (h2 : S ≤ 9223372036854775807) : cond (decide (IntKind.i64.wrap (IntKind.i64.wrap (S.tdiv 8192) * 8192) > S)) (IntKind.i64.wrap (IntKind.i64.wrap (S.tdiv 8192) - 1)) (IntKind.i64.wrap (S.tdiv 8192)) = S.fdiv 8192 := by
  have e1 := Int.tdiv_eq_ediv (a := S) (b := 8192)
  have e2 := Int.fdiv_eq_ediv_of_nonneg S (show (0 : Int) ≤ 8192 by decide)
  have e3 : (0 ≤ S ∨ (8192 : Int) ∣ S) ↔ (0 ≤ S ∨ S % 8192 = 0) := by rw [Int.dvd_iff_emod_eq_zero]
  have e4 : (8192 : Int).sign = 1 := rfl
  rw [e4] at e1
  simp only [e3] at e1
  refine floor_all (by decide) h1 h2 rfl ?_ ?_ ?_ ?_ ?_ ?_
  all_goals (split at e1)
  all_goals (try split)
  all_goals omega
theorem floor14 {S : Int} (h1 : -9223372036854775808 ≤ S) (h2 : S ≤ 9223372036854775807) : cond (decide (IntKind.i64.wrap (IntKind.i64.wrap (S.tdiv 16384) * 16384) > S)) (IntKind.i64.wrap (IntKind.i64.wrap (S.tdiv 16384) - 1)) (IntKind.i64.wrap (S.tdiv 16384)) = S.fdiv 16384 := by
  have e1 := Int.tdiv_eq_ediv (a := S) (b := 16384)
  have e2 := Int.fdiv_eq_ediv_of_nonneg S (show (0 : Int) ≤ 16384 by decide)
  have e3 : (0 ≤ S ∨ (16384 : Int) ∣ S) ↔ (0 ≤ S ∨ S % 16384 = 0) := by rw [Int.dvd_iff_emod_eq_zero]
  have e4 : (16384 : Int).sign = 1 := rfl
  rw [e4] at e1
  simp only [e3] at e1
  refine floor_all (by decide) h1 h2 rfl ?_ ?_ ?_ ?_ ?_ ?_
  all_goals (split at e1)
  all_goals (try split)
  all_goals omega
theorem floor15 {S : Int} (h1 : -9223372036854775808 ≤ S) (h2 : S ≤ 9223372036854775807) : cond (decide (IntKind.i64.wrap (IntKind.i64.wrap (S.tdiv 32768) * 32768) > S)) (IntKind.i64.wrap (IntKind.i64.wrap (S.tdiv 32768) - 1)) (IntKind.i64.wrap (S.tdiv 32768)) = S.fdiv 32768 := by
  have e1 := Int.tdiv_eq_ediv (a := S) (b := 32768)
  have e2 := Int.fdiv_eq_ediv_of_nonneg S (show (0 : Int) ≤ 32768 by decide)
  have e3 : (0 ≤ S ∨ (32768 : Int) ∣ S) ↔ (0 ≤ S ∨ S % 32768 = 0) := by rw [Int.dvd_iff_emod_eq_zero]
  have e4 : (32768 : Int).sign = 1 := rfl
  rw [e4] at e1
  simp only [e3] at e1
  refine floor_all (by decide) h1 h2 rfl ?_ ?_ ?_ ?_ ?_ ?_
  all_goals (split at e1)
  all_goals (try split)
  all_goals omega
end Go.Proofs.YtfnmpdmfpfhjnaaDoor
/-
Awake is known.
-/
namespace Go.Proofs.YtfnmpdmfpfhjnaaDoor
open Go Go.Abs
def BA (f : FuncId) (args : List Value) : Option (Heap × Value) :=
  if f == 13 then
    match args with
    | [] => some (heap0, .bool true)
    | _ => none
  else none
noncomputable def envL : Env := envSd.with (baseKnown BA)
theorem envL_ok : EnvOK Tryd.prog 5 envL := env_base' envSd_ok fun f args H v h => by
  unfold BA at h
  split at h
  · rename_i hf
    have hf : f = 13 := by simpa using hf
    subst hf
    split at h
    · cases h; exact ⟨by decide, by decide, awake_says⟩
    · cases h
  · cases h
theorem BA_no {f : FuncId} {args : List Value} (h : (f == 13) = false) : BA f args = none := by unfold BA; rw [h]; rfl
end Go.Proofs.YtfnmpdmfpfhjnaaDoor
/-
Arguments of whole numbers alone: structs and arrays of them, cell by cell.
-/
namespace Go.Abs
open Go

/-- Cells that are whole numbers of these kinds. -/
inductive IntsAs : List IntKind → List Value → Prop
  | nil : IntsAs [] []
  | cons {k : IntKind} {a : Int} {ks : List IntKind} {cs : List Value} (h : (Lit.int k a).wf = true) (t : IntsAs ks cs) : IntsAs (k :: ks) (.int k a :: cs)
theorem IntsAs.append {ks ls : List IntKind} {cs ds : List Value} (h : IntsAs ks cs) (h' : IntsAs ls ds) : IntsAs (ks ++ ls) (cs ++ ds) := by
  induction h with
  | nil => exact h'
  | cons h _ ih => exact .cons h ih
theorem IntsAs.inv {k : IntKind} {ks : List IntKind} {cs : List Value} (h : IntsAs (k :: ks) cs) : ∃ a cs', cs = .int k a :: cs' ∧ (Lit.int k a).wf = true ∧ IntsAs ks cs' := by
  cases h with
  | cons h t => exact ⟨_, _, rfl, h, t⟩
theorem IntsAs.end {cs : List Value} (h : IntsAs [] cs) : cs = [] := by cases h; rfl

def flatKinds (F : TypeId → Option (List IntKind)) (P : Program) : List Field → Nat → Option (List IntKind)
  | [], _ => some []
  | f :: fs, off => match F f.type with
    | some l => if f.offset == off && P.cellsOf f.type == l.length then (flatKinds F P fs (off + l.length)).map (l ++ ·) else none
    | none => none
/-- The kinds of the cells of a type that has whole numbers alone. -/
def flatInts (P : Program) : Nat → TypeId → Option (List IntKind)
  | 0, _ => none
  | n + 1, t => match P.underlying t with
    | some (.int k) => some [k]
    | some (.struct fs) => match flatKinds (flatInts P n) P fs.toList 0 with
      | some l => if P.cellsOf t == l.length then some l else none
      | none => none
    | some (.array m e) => match flatInts P n e with
      | some l => if P.cellsOf e == l.length && P.cellsOf t == m * l.length then some (List.replicate m l).flatten else none
      | none => none
    | _ => none

section
variable {H : Type} {enc : TypeId × Value → H} {P : Program} {w : World} {base : Nat} {spare : Nat → Bool} {held : Bool}
theorem flat_row {F : TypeId → Option (List IntKind)} {T : TypeId → List Value → Option (DataW H × List MemPlace)} (hT : ∀ t l c x, F t = some l → T t c = some x → IntsAs l c ∧ x.2 = []) :
    ∀ (fs : List Field) (off : Nat) (ks : List IntKind) (cs : List Value) (xs : List (DataW H × List MemPlace)), flatKinds F P fs off = some ks → fs.mapM (fun f => T f.type ((cs.drop f.offset).take (P.cellsOf f.type))) = some xs → off + ks.length = cs.length →
      IntsAs ks (cs.drop off) ∧ xs.flatMap (·.2) = []
  | [], off, ks, cs, xs, h, hm, hl => by
    cases h
    simp at hm hl
    subst hm
    rw [List.drop_eq_nil_of_le (by omega)]
    exact ⟨.nil, rfl⟩
  | f :: fs, off, ks, cs, xs, h, hm, hl => by
    unfold flatKinds at h
    split at h
    · rename_i l hF
      split at h
      · rename_i hc
        simp only [Bool.and_eq_true, beq_iff_eq] at hc
        cases hr : flatKinds F P fs (off + l.length) with
        | none => rw [hr] at h; cases h
        | some r =>
          rw [hr] at h
          simp only [Option.map_some, Option.some.injEq] at h
          subst h
          rw [List.mapM_cons] at hm
          cases h1 : T f.type ((cs.drop f.offset).take (P.cellsOf f.type)) with
          | none => rw [h1] at hm; simp at hm
          | some x =>
            cases h2 : fs.mapM (fun f => T f.type ((cs.drop f.offset).take (P.cellsOf f.type))) with
            | none => rw [h1, h2] at hm; simp at hm
            | some ys =>
              rw [h1, h2] at hm
              simp at hm
              subst hm
              simp only [List.length_append] at hl
              obtain ⟨g1, g2⟩ := flat_row hT fs (off + l.length) r cs ys hr h2 (by omega)
              obtain ⟨g3, g4⟩ := hT _ _ _ _ hF h1
              rw [hc.1, hc.2] at g3
              refine ⟨?_, by simp [g4, g2]⟩
              have := g3.append g1
              rwa [← List.drop_drop, List.take_append_drop] at this
      · cases h
    · cases h
theorem flat_arr {l : List IntKind} {n : Nat} {cs : List Value} {xs : List (DataW H × List MemPlace)} (hlen : cs.length = n * l.length) (hx : xs.length = n)
    (hT : ∀ i, i < n → ∃ x, xs[i]? = some x ∧ IntsAs l ((cs.drop (i * l.length)).take l.length) ∧ x.2 = []) : ∀ (m k : Nat), k + m = n → IntsAs (List.replicate m l).flatten (cs.drop (k * l.length)) ∧ (xs.drop k).flatMap (·.2) = []
  | 0, k, h => by
    have : k = n := by omega
    subst this
    rw [List.drop_eq_nil_of_le (by omega), List.drop_eq_nil_of_le (by omega)]
    exact ⟨.nil, rfl⟩
  | m + 1, k, h => by
    obtain ⟨x, h1, h2, h3⟩ := hT k (by omega)
    obtain ⟨g1, g2⟩ := flat_arr hlen hx hT m (k + 1) (by omega)
    constructor
    · rw [List.replicate_succ, List.flatten_cons]
      have := h2.append g1
      rwa [Nat.succ_mul, ← List.drop_drop, List.take_append_drop] at this
    · have hk : k < xs.length := by omega
      rw [List.getElem?_eq_getElem hk] at h1
      cases h1
      rw [List.drop_eq_getElem_cons hk, List.flatMap_cons, h3]
      exact g2
/-- WHAT IS READ AS SUCH A TYPE: whole numbers, and no place in memory. -/
theorem flat_of : ∀ (n : Nat) (t : TypeId) (ks : List IntKind) (fuel : Nat) (cs : List Value) (x : DataW H × List MemPlace), flatInts P n t = some ks → DataW.trod enc P w base spare held fuel t cs = some x → IntsAs ks cs ∧ x.2 = []
  | 0, t, ks, fuel, cs, x, h, _ => by cases h
  | n + 1, t, ks, 0, cs, x, h, hx => by simp [DataW.trod] at hx
  | n + 1, t, ks, fuel + 1, cs, x, h, hx => by
    have ih := fun t ks cs x => flat_of n t ks fuel cs x
    unfold flatInts at h
    split at h
    · rename_i k ht
      cases h
      obtain ⟨a, rfl, rfl, hw⟩ := DataW.trod_int ht hx
      exact ⟨.cons hw .nil, rfl⟩
    · rename_i fs ht
      split at h
      · rename_i l hl
        split at h
        · rename_i hc
          cases h
          have hc : P.cellsOf t = ks.length := by simpa using hc
          unfold DataW.trod at hx
          rw [ht] at hx
          have hx' : (if cs.length = P.cellsOf t then (fs.toList.mapM fun f => DataW.trod enc P w base spare held fuel f.type ((cs.drop f.offset).take (P.cellsOf f.type))).map fun xs => ((.agg (xs.map (·.1)), xs.flatMap (·.2)) : DataW H × List MemPlace) else none) = some x := by
            split at hx <;> simp_all
          split at hx'
          · rename_i hcs
            cases hm : fs.toList.mapM fun f => DataW.trod enc P w base spare held fuel f.type ((cs.drop f.offset).take (P.cellsOf f.type)) with
            | none => rw [hm] at hx'; cases hx'
            | some xs =>
              rw [hm] at hx'
              cases hx'
              have := flat_row (T := DataW.trod enc P w base spare held fuel) ih fs.toList 0 ks cs xs hl hm (by omega)
              simpa using this
          · cases hx'
        · cases h
      · cases h
    · rename_i m e ht
      split at h
      · rename_i l hl
        split at h
        · rename_i hc
          cases h
          simp only [Bool.and_eq_true, beq_iff_eq] at hc
          obtain ⟨xs, f', hf, rfl, h1, h2, h3⟩ := DataW.trod_array ht hx
          cases hf
          have := flat_arr (l := l) (n := m) (cs := cs) (xs := xs) (by rw [h1, hc.2]) h2 (fun i hi => by
            have h4 := h3 i hi
            have hi' : i < xs.length := by omega
            rw [List.getElem?_eq_getElem hi'] at h4
            obtain ⟨g1, g2⟩ := ih _ _ _ _ hl h4
            rw [hc.1] at g1
            exact ⟨_, List.getElem?_eq_getElem hi', g1, g2⟩) m 0 (by omega)
          simpa using this
        · cases h
      · cases h
    · cases h
end
end Go.Abs
/-
The abstract machine: the tables that a row lists, as rows of the first heap; and behind a call that leaves all old blocks, what a row asks.
-/
namespace Go.Abs
open Go

/-- Where the parts begin. -/
def offs (ls : List (List Value)) : List Nat := (List.range ls.length).map fun i => (ls.take i).flatten.length
/-- The cells of a datum of plain parts, in their order. -/
def flatRow {H : Type} (P : Program) : Nat → TypeId → DataW H → Option (List Value)
  | 0, _, _ => none
  | fuel + 1, t, d =>
    match P.underlying t, d with
    | some .bool, .lit (.bool b) => some [.bool b]
    | some (.int k), .lit (.int k' n) => if k' = k then some [.int k n] else none
    | some (.array n e), .agg ds => (ds.mapM fun d => flatRow P fuel e d).bind fun ls => if ds.length = n ∧ offs ls = (List.range n).map (· * P.cellsOf e) then some ls.flatten else none
    | some (.struct fs), .agg ds => ((fs.toList.zip ds).mapM fun x => flatRow P fuel x.1.type x.2).bind fun ls => if ds.length = fs.size ∧ offs ls = fs.toList.map (·.offset) then some ls.flatten else none
    | _, _ => none

theorem flat_get : ∀ {ls : List (List Value)} {o : Nat} {v : Value}, ls.flatten[o]? = some v → ∃ (i : Nat) (a : List Value) (j : Nat), ls[i]? = some a ∧ a[j]? = some v ∧ o = (ls.take i).flatten.length + j
  | [], o, v, h => by simp at h
  | a :: ls, o, v, h => by
    rw [List.flatten_cons, List.getElem?_append] at h
    split at h
    · exact ⟨0, a, o, rfl, h, by simp⟩
    · rename_i hn
      obtain ⟨i, b, j, h1, h2, h3⟩ := flat_get h
      refine ⟨i + 1, b, j, by simpa using h1, h2, ?_⟩
      simp only [List.take_succ_cons, List.flatten_cons, List.length_append]
      omega
theorem offs_at {ls : List (List Value)} {i : Nat} {a : List Value} (h : ls[i]? = some a) : (offs ls)[i]? = some (ls.take i).flatten.length := by
  have hi : i < ls.length := (List.getElem?_eq_some_iff.1 h).1
  simp [offs, hi]
theorem mapM_back {α β : Type} {f : α → Option β} {l : List α} {r : List β} (h : l.mapM f = some r) {i : Nat} {b : β} (hb : r[i]? = some b) : ∃ a, l[i]? = some a ∧ f a = some b := by
  have hi : i < r.length := (List.getElem?_eq_some_iff.1 hb).1
  have hl : i < l.length := by rw [← Lib.mapM_length h]; exact hi
  obtain ⟨b', h1, h2⟩ := Lib.mapM_at h i l[i] (List.getElem?_eq_getElem hl)
  rw [hb] at h1
  cases h1
  exact ⟨l[i], List.getElem?_eq_getElem hl, h2⟩
theorem cut_get {cs : List Value} {o n j : Nat} {v : Value} (h : ((cs.drop o).take n)[j]? = some v) : cs[o + j]? = some v := by
  rw [List.getElem?_take] at h
  split at h
  · simpa [List.getElem?_drop] using h
  · cases h

theorem flatRow_spec {H : Type} {enc : TypeId × Value → H} {P : Program} {w : World} {base : Nat} {sp : Nat → Bool} {hd : Bool} : ∀ (n m : Nat) (t : TypeId) (d : DataW H) (l cs : List Value) (p : List MemPlace), flatRow P n t d = some l →
    DataW.trod enc P w base sp hd m t cs = some (d, p) → ∀ (o : Nat) (v : Value), l[o]? = some v → cs[o]? = some v
  | 0, _, _, _, _, _, _, h, _ => by cases h
  | n + 1, m, t, d, l, cs, p, h, ht => by
    intro o v ho
    unfold flatRow at h
    split at h
    · rename_i hu
      obtain ⟨b, rfl, e⟩ := DataW.trod_bool hu ht
      cases e; cases h; exact ho
    · rename_i k k' z hu
      obtain ⟨b, rfl, e, _⟩ := DataW.trod_int hu ht
      cases e
      simp only [if_true, Option.some.injEq] at h
      subst h; exact ho
    · rename_i na e ds hu
      obtain ⟨xs, m', rfl, ex, hlen, hxl, hx⟩ := DataW.trod_array hu ht
      obtain ⟨ls, hls, h⟩ := Option.bind_eq_some_iff.1 h
      split at h
      · rename_i hc
        cases h
        obtain ⟨i, a, j, h1, h2, rfl⟩ := flat_get ho
        obtain ⟨d', hd', hf⟩ := mapM_back hls h1
        cases ex
        simp only [List.getElem?_map, Option.map_eq_some_iff] at hd'
        obtain ⟨x, hx1, rfl⟩ := hd'
        have hi : i < na := by rw [← hxl]; exact (List.getElem?_eq_some_iff.1 hx1).1
        have hr := hx i hi
        rw [hx1] at hr
        have := flatRow_spec n m' e x.1 a _ x.2 hf hr j v h2
        have ho' := offs_at h1
        rw [hc.2] at ho'
        simp only [List.getElem?_map, List.getElem?_range hi, Option.map_some, Option.some.injEq] at ho'
        rw [← ho']
        exact cut_get this
      · cases h
    · rename_i fs ds hu
      obtain ⟨xs, m', rfl, ex, hlen, hxl, hx⟩ := DataW.trod_struct hu ht
      obtain ⟨ls, hls, h⟩ := Option.bind_eq_some_iff.1 h
      split at h
      · rename_i hc
        cases h
        obtain ⟨i, a, j, h1, h2, rfl⟩ := flat_get ho
        obtain ⟨fd, hd', hf⟩ := mapM_back hls h1
        cases ex
        obtain ⟨hf1, hd1⟩ := List.getElem?_zip_eq_some.1 hd'
        simp only [List.getElem?_map, Option.map_eq_some_iff] at hd1
        obtain ⟨x, hx1, hx2⟩ := hd1
        have hr := hx i fd.1 (by simpa using hf1)
        rw [hx1] at hr
        rw [← hx2] at hf
        have := flatRow_spec n m' fd.1.type x.1 a _ x.2 hf hr j v h2
        have ho' := offs_at h1
        rw [hc.2] at ho'
        simp only [List.getElem?_map, hf1, Option.map_some, Option.some.injEq] at ho'
        rw [← ho']
        exact cut_get this
      · cases h
    · cases h

/-- The tables of the list, as rows; other variables have none. -/
def tabRow (P : Program) (laid : List (String × DataW Unit)) (g : Nat) : Option ARow :=
  laid.findSome? fun x => if P.globalNamed x.1 = some g then (P.globals[g]?).bind fun v => (flatRow P 9 v.type x.2).bind fun cs => if cs.all atomB = true then some (.cells cs 0 .ro) else none else none
def tabRows (P : Program) (laid : List (String × DataW Unit)) (G : Nat) : Heap := (List.range G).map (tabRow P laid)
def tabLoc (G : Nat) : Loc := fun i => if i < G then some ⟨i, 0, 0, 0⟩ else none
theorem tabLoc_globs (G : Nat) : Globs (tabLoc G) G := fun g hg => ⟨0, 0, by simp [tabLoc, hg]⟩

theorem laidVars_mem {P : Program} {w : World} : ∀ {l : List (String × DataW Unit)} {ps : List MemPlace}, DataW.LaidVars P w l ps → ∀ x ∈ l, ∃ g t cs fuel p, P.globalNamed x.1 = some g ∧ (P.globals[g]?).map (·.type) = some t ∧ w.var? P x.1 = some cs ∧
    DataW.trod (fun _ => ()) P w 0 (fun _ => true) false fuel t cs.toList = some (x.2, p)
  | [], _, _, x, hx => by cases hx
  | y :: l, _, ⟨g, t, cs, fuel, p, q, h1, h2, h3, h4, h5, _⟩, x, hx => by
    rcases List.mem_cons.1 hx with rfl | hx
    · exact ⟨g, t, cs, fuel, p, h1, h2, h3, h4⟩
    · exact laidVars_mem h5 x hx

theorem tabRows_rel {P : Program} {laid : List (String × DataW Unit)} {G : Nat} {w : World} (h : laidMet P laid w) : Rel P (tabLoc G) (tabRows P laid G) w := by
  have get : ∀ i r, hget (tabRows P laid G) i = some r → i < G ∧ tabRow P laid i = some r := by
    intro i r hi
    rw [hget_eq] at hi
    simp only [tabRows, List.getElem?_map, Option.map_eq_some_iff] at hi
    obtain ⟨j, hj, hr⟩ := hi
    have hlt : i < G := by have := (List.getElem?_eq_some_iff.1 hj).1; simpa using this
    simp [hlt] at hj
    subst hj
    exact ⟨hlt, hr⟩
  have row : ∀ i r, tabRow P laid i = some r → ∃ cs, r = .cells cs 0 .ro ∧ ∃ cs' e' fz, w.heap[i]? = some (.cells cs' e' fz) ∧ cs.all atomB = true ∧ ∀ (o : Nat) (v : Value), cs[o]? = some v → cs'[o]? = some v := by
    intro i r hr
    obtain ⟨x, hx, hr⟩ := List.exists_of_findSome?_eq_some hr
    split at hr
    · rename_i hn
      obtain ⟨v, hv, hr⟩ := Option.bind_eq_some_iff.1 hr
      obtain ⟨cs, hcs, hr⟩ := Option.bind_eq_some_iff.1 hr
      by_cases hat : cs.all atomB = true
      case neg => rw [if_neg hat] at hr; cases hr
      rw [if_pos hat] at hr; cases hr
      obtain ⟨ps, hl, _⟩ := h
      obtain ⟨g, t, cs', fuel, p, h1, h2, h3, h4⟩ := laidVars_mem hl x hx
      rw [hn] at h1; cases h1
      rw [hv] at h2; cases h2
      refine ⟨cs, rfl, ?_⟩
      simp only [World.var?, hn, Option.bind_some] at h3
      split at h3
      · rename_i c e fz hw
        cases h3
        exact ⟨_, _, _, hw, hat, fun o v ho => by simpa using flatRow_spec 9 fuel _ _ cs _ p hcs h4 o v ho⟩
      · cases h3
    · cases hr
  have loc : ∀ i, i < G → tabLoc G i = some ⟨i, 0, 0, 0⟩ := fun i hi => by simp [tabLoc, hi]
  refine ⟨fun i hi => ?_, fun i r hi => ⟨_, loc i (get i r hi).1⟩, fun i r L hi hL => ?_, fun i j r s L M hi hj hL hM _ ho => ?_⟩
  · simp [tabRows] at hi
    simp [tabLoc, Nat.not_lt.2 hi]
  · obtain ⟨hlt, hr⟩ := get i r hi
    rw [loc i hlt] at hL; cases hL
    obtain ⟨cs, rfl, cs', e', fz, hw, hat, hc⟩ := row i r hr
    refine ⟨cs', e', fz, hw, fun o v hv => ⟨v, by simpa using hc o v hv, ?_⟩, fun _ => rfl, fun h => absurd rfl h⟩
    exact .atom (List.all_eq_true.1 hat v (List.mem_of_getElem? hv))
  · obtain ⟨hlt, hr⟩ := get i r hi
    obtain ⟨cs, rfl, _⟩ := row i r hr
    cases ho

open Go.ChangeShapes in
theorem post_of_still {H : Type} {enc : TypeId × Value → H} {P : Program} {f : Func} {s : ChangeSpec} {apart fresh handsOn again : Bool} {W W' : World} {args : Array Value} {v : Value} {ds gs : List (DataW H)} {before pa pv : List MemPlace}
    (hW : DataW.Whole enc P f.params.toList s.vars apart W args.toList ds gs before)
    (hres : ∀ (b : Nat) (sp : Nat → Bool) (hd : Bool), DataW.TrodAll enc P W' b sp hd f.resultTypes.toList (v.resultList f.resultTypes.size) (s.fn H (ds ++ gs)).results [])
    (hargs : ∀ sp : Nat → Bool, (∀ p ∈ before, sp p.block = true) → DataW.TrodAll enc P W' 0 sp true f.params.toList args.toList (s.fn H (ds ++ gs)).args pa)
    (hvars : ∀ sp : Nat → Bool, (∀ p ∈ before, sp p.block = true) → DataW.TrodVars enc P W' sp s.vars (s.fn H (ds ++ gs)).vars pv)
    (hps : before = pa ++ pv) (ho : W'.os = W.os ∧ W'.output = W.output) (hb : ∀ b, b < W.heap.size → W'.heap[b]? = W.heap[b]?)
    (hok : ∀ (j : Nat) (t : TypeId) (r : Value), f.resultTypes[j]? = some t → (v.resultList f.resultTypes.size)[j]? = some r → Value.okWide P W' .any 0 t r) :
    s.post enc P f apart fresh handsOn again W args v W' := by
  have hlt := hW.lt
  have hold : ∀ p ∈ before, (fun b => decide (b < W.heap.size)) p.block = true := fun p hp => by simpa using hlt p hp
  refine ⟨ds, gs, before, [], pa, pv, hW, hres _ _ _, hargs _ hold, hvars _ hold, kept_of_same ho hb _, fun _ => ?_⟩
  obtain ⟨_, _, _, _, _, hz, hn⟩ := hW
  refine ⟨hok, _, _, ([] ++ pa) ++ pv, ⟨[] ++ pa, pv, trodAll_append (hargs _ (fun _ _ => rfl)) (hres _ _ _), hvars _ (fun _ _ => rfl), rfl, ?_, ?_⟩, ?_⟩
  · intro b off hp
    have hp' : MemPlace.cell b off ∈ before := by rw [hps]; simpa using hp
    rw [frozen_of_same hb (hlt _ hp')]
    exact hz b off hp'
  · intro ha
    have := hn ha
    rw [hps] at this
    simpa using this
  · intro p hp _
    rw [hps]
    simpa using hp

/-- Behind a call that leaves all old blocks the arguments read as before. -/
theorem trodAll_still {H : Type} {enc : TypeId × Value → H} {P : Program} {W W' : World} (hb : ∀ b, b < W.heap.size → W'.heap[b]? = W.heap[b]?) : ∀ {ts : List TypeId} {vs : List Value} {ds : List (DataW H)} {ps : List MemPlace} {sp : Nat → Bool} {hd : Bool}, (∀ p ∈ ps, p.block < W.heap.size) → DataW.TrodAll enc P W 0 sp hd ts vs ds ps → DataW.TrodAll enc P W' 0 sp hd ts vs ds ps
  | [], [], [], _, _, _, _, h => h
  | _ :: _, _ :: _, _ :: _, _, _, _, hl, ⟨p, q, ⟨n, h1⟩, h2, e⟩ => ⟨p, q, ⟨n, DataW.trod_carry n _ _ _ h1 fun x hx => by
      have := hl x (by rw [e]; exact List.mem_append_left _ hx)
      cases x with
      | cell b off => simp only [World.sameAt, World.cell?, hb b this]
      | map b => exact hb b this⟩, trodAll_still hb (fun x hx => hl x (by rw [e]; exact List.mem_append_right _ hx)) h2, e⟩
  | [], _ :: _, _, _, _, _, _, h => h.elim
  | [], [], _ :: _, _, _, _, _, h => h.elim
  | _ :: _, [], _, _, _, _, _, h => h.elim
  | _ :: _, _ :: _, [], _, _, _, _, h => h.elim

/-- What is asked of the program's types, that arguments read again. -/
structure Reads (P : Program) : Prop where
  out : laidOutB P = true
  maps : mapsRowed P = true
  full : ((List.range P.types.size).all fun t => match P.underlying t with | some (.slice e) => decide (0 < P.cellsOf e) | _ => true) = true

open Go.ChangeShapes Go.RowKit in
/-- WHAT A LAW's ROW ASKS: true came back, all old blocks are as they were. -/
theorem law_post {H : Type} {enc : TypeId × Value → H} {P : Program} (hP : Reads P) {f : Func} {s : ChangeSpec} {apart fresh handsOn again : Bool} {W W' : World} {args : Array Value} {ds gs : List (DataW H)} {before : List MemPlace} {bt : TypeId}
    (hv : s.vars = []) (hfn : ∀ ds : List (DataW H), ds.length = f.params.size → s.fn H ds = { results := [.lit (.bool true)], args := ds }) (hr : f.resultTypes = #[bt]) (hu : P.underlying bt = some .bool) (hts : f.params.toList.all (fun t => decide (t < P.types.size)) = true)
    (hW : DataW.Whole enc P f.params.toList s.vars apart W args.toList ds gs before) (ho : W'.os = W.os ∧ W'.output = W.output) (hb : ∀ b, b < W.heap.size → W'.heap[b]? = W.heap[b]?) :
    s.post enc P f apart fresh handsOn again W args (.bool true) W' := by
  have hW0 := hW
  have hlt := hW.lt
  obtain ⟨p, q, hA, hV, rfl, hz, hn⟩ := hW
  rw [hv] at hV
  obtain ⟨rfl, rfl⟩ : gs = [] ∧ q = [] := by
    cases gs with
    | nil => exact ⟨rfl, hV⟩
    | cons => exact hV.elim
  have hlen : ds.length = f.params.size := by simpa using (Go.trodAll_length hA).2
  have hf := hfn ds hlen
  refine post_of_still (pa := p) (pv := []) hW0 (fun b sp hd => ?_) (fun sp hs => ?_) (fun sp _ => ?_) rfl ho hb ?_
  · rw [List.append_nil, hf, hr]
    exact trodAll_cons_mk (shut_bool hu true) trodAll_mk0
  · rw [List.append_nil, hf]
    refine trodAll_still hb (fun x hx => hlt x (by simpa using hx)) ?_
    exact DataW.TrodAll.respare (kids_rows hP.out hP.maps) (fun t e ht => slices_full_of P hP.full t e ht) (fun t ht => by simpa using List.all_eq_true.1 hts t ht) hA (fun x hx => hs x (by simpa using hx))
  · rw [List.append_nil, hf, hv]
    exact rfl
  · exact ok_one hr rfl (okWide_bool_mk hu true)
end Go.Abs
