/-
SectionSteps of the package wooferlaw05 returns true for every input, whatever the world: proved for all arguments, under the conditions that the row and its card name (the package-level tables as laid).
-/
import Derived.Test.YtfnmpdmfpfhjnaaDoorMb5
import Derived.Test.YtfnmpdmfpfhjnaaDoorCards
import Derived.Test.YtfnmpdmfpfhjnaaDoorTie
import Derived.WalkKit
import Derived.ProofKit
import Derived.OpenShut
import Derived.Deep.DeepHandedRow
import Derived.Lib.LaidTab
import Derived.MakeChecks
set_option linter.unusedVariables false
set_option linter.unusedSimpArgs false
set_option linter.unusedSectionVars false
/-
What functions give.
-/
namespace Go.Proofs.YtfnmpdmfpfhjnaaDoor
open Go Go.Abs
def lwA_c0 (a : Int) (b : Int) (c : Int) (d : Int) (e : Int) (s : Int) (x : Int) (y : Int) (z : Int) (w : Int) (i : Int) (r : Int) (o : Int) : Bool := cs_r0 a b c d e s == rcs_r0 a b c d e s
def lwA_c1 (a : Int) (b : Int) (c : Int) (d : Int) (e : Int) (s : Int) (x : Int) (y : Int) (z : Int) (w : Int) (i : Int) (r : Int) (o : Int) : Bool := st_r0 x y z w == rst_r0 x y z w
def lwA_c2 (a : Int) (b : Int) (c : Int) (d : Int) (e : Int) (s : Int) (x : Int) (y : Int) (z : Int) (w : Int) (i : Int) (r : Int) (o : Int) : Bool := o == if (if r > -32767 then r else -32767) < 32767 then if r > -32767 then r else -32767 else 32767
def lwA_c3 (a : Int) (b : Int) (c : Int) (d : Int) (e : Int) (s : Int) (x : Int) (y : Int) (z : Int) (w : Int) (i : Int) (r : Int) (o : Int) : Bool := i == i && (x == x && ((o == if (if r > -32767 then r else -32767) < 32767 then if r > -32767 then r else -32767 else 32767) && (z == z && true)))
theorem lwA_p0 (a : Int) (b : Int) (c : Int) (d : Int) (e : Int) (s : Int) (x : Int) (y : Int) (z : Int) (w : Int) (i : Int) (r : Int) (o : Int) (f1 : (cs_r0 a b c d e s != 0) = false) (f2 : (st_r0 x y z w != 0) = false) (f3 : (cv_r0 i != 0) = false) (k1 : (rcs_r0 a b c d e s != 0) = false) (k2 : (rst_r0 x y z w != 0) = false) (k3 : (rci_r0 i != 0) = false) (hso : ∀ (lim : Nat) (A : Heap), startsB heapN A = true → Gives Tryd.prog envL lim 27 [.agg #[.int .i64 a, .int .i64 b, .int .i64 c, .int .i64 d, .int .i64 e, .int .i64 s], .agg #[.int .i64 x, .int .i64 y, .int .i64 z, .int .i64 w], .int .i64 i] A (.agg #[.int .i64 r, .int .i64 o, .int .i64 i, .int .i64 x, .int .i64 o, .int .i64 z], A)) (hrr : ∀ (lim : Nat) (A : Heap), startsB heapN A = true → Gives Tryd.prog envL lim 29 [.agg #[.int .i64 a, .int .i64 b, .int .i64 c, .int .i64 d, .int .i64 e, .int .i64 s], .agg #[.int .i64 x, .int .i64 y, .int .i64 z, .int .i64 w], .int .i64 i] A (.int .i64 r, A)) (h0 : lwA_c0 a b c d e s x y z w i r o = true) (h1 : lwA_c1 a b c d e s x y z w i r o = true) (h2 : lwA_c2 a b c d e s x y z w i r o = true) (h3 : lwA_c3 a b c d e s x y z w i r o = true) : Gives Tryd.prog envL 0 3 [(.agg #[(.int .i64 (a)), (.int .i64 (b)), (.int .i64 (c)), (.int .i64 (d)), (.int .i64 (e)), (.int .i64 (s))]), (.agg #[(.int .i64 (x)), (.int .i64 (y)), (.int .i64 (z)), (.int .i64 (w))]), (.int .i64 (i))] heap0 ((.bool true), heap0) :=
  Gives.by (n := 1000) (os := [.br 25 26 false, .br 25 26 false, .br 25 26 false, .opw 5 27 (.agg #[(.int .i64 r), (.int .i64 o), (.int .i64 i), (.int .i64 x), (.int .i64 o), (.int .i64 z)]) (H [(.some (.cells [(.int .i64 a), (.int .i64 b), (.int .i64 c), (.int .i64 d), (.int .i64 e), (.int .i64 s)] 23 .var)), (.some (.cells [(.int .i64 x), (.int .i64 y), (.int .i64 z), (.int .i64 w)] 25 .var)), (.some (.cells [(.int .i64 a), (.int .i64 b), (.int .i64 c), (.int .i64 d), (.int .i64 e), (.int .i64 s)] 30 .var)), (.some (.cells [(.int .i64 x), (.int .i64 y), (.int .i64 z), (.int .i64 w)] 26 .var)), (.some (.cells [(.int .i64 (0)), (.int .i64 (0)), (.int .i64 (0)), (.int .i64 (0))] 26 .var)), (.some (.cells [(.int .i64 (cs_r0 a b c d e s)), (.int .i64 (st_r0 x y z w)), (.int .i64 (cv_r0 i))] 27 .row))]), .br 6 30 false, .br 6 30 false, .br 6 30 false, .opw 10 13 (.int .i64 r) (H [(.some (.cells [(.int .i64 a), (.int .i64 b), (.int .i64 c), (.int .i64 d), (.int .i64 e), (.int .i64 s)] 23 .var)), (.some (.cells [(.int .i64 x), (.int .i64 y), (.int .i64 z), (.int .i64 w)] 25 .var)), (.some (.cells [(.int .i64 i), (.int .i64 x), (.int .i64 o), (.int .i64 z)] 26 .var)), (.some (.cells [(.int .i64 (rcs_r0 a b c d e s)), (.int .i64 (rst_r0 x y z w)), (.int .i64 (rci_r0 i))] 3 .row)), (.some (.cells [(.int .i64 (0)), (.int .i64 (0)), (.int .i64 (0)), (.int .i64 (0))] 25 .var)), (.some (.cells [(.int .i64 a), (.int .i64 b), (.int .i64 c), (.int .i64 d), (.int .i64 e), (.int .i64 s)] 23 .var)), (.some (.cells [(.int .i64 x), (.int .i64 y), (.int .i64 z), (.int .i64 w)] 25 .var)), (.some (.cells [(.int .i64 (0)), (.int .i64 (0)), (.int .i64 (0)), (.int .i64 (0))] 25 .var))]), .br 3 88 true, .br 3 88 true, .br 3 88 true, .br 3 88 true, .br 3 88 true, .br 3 101 true, .br 3 102 true, .br 3 102 true, .br 3 102 true, .br 3 111 true, .br 3 112 true, .br 3 112 true, .br 3 112 true, .br 3 121 true, .br 3 122 true, .br 3 122 true, .br 3 122 true, .br 3 131 true]) (os' := []) (by kernel_rfl) (ObsOK.cond f1 (ObsOK.cond f2 (ObsOK.cond f3 (ObsOK.call (hso 7 (H [(.some (.cells [(.int .i64 a), (.int .i64 b), (.int .i64 c), (.int .i64 d), (.int .i64 e), (.int .i64 s)] 23 .var)), (.some (.cells [(.int .i64 x), (.int .i64 y), (.int .i64 z), (.int .i64 w)] 25 .var)), (.some (.cells [(.int .i64 a), (.int .i64 b), (.int .i64 c), (.int .i64 d), (.int .i64 e), (.int .i64 s)] 30 .var)), (.some (.cells [(.int .i64 x), (.int .i64 y), (.int .i64 z), (.int .i64 w)] 26 .var)), (.some (.cells [(.int .i64 (0)), (.int .i64 (0)), (.int .i64 (0)), (.int .i64 (0))] 26 .var)), (.some (.cells [(.int .i64 (cs_r0 a b c d e s)), (.int .i64 (st_r0 x y z w)), (.int .i64 (cv_r0 i))] 27 .row))]) (by kernel_rfl)) (ObsOK.cond k1 (ObsOK.cond k2 (ObsOK.cond k3 (ObsOK.call (hrr 10 (H [(.some (.cells [(.int .i64 a), (.int .i64 b), (.int .i64 c), (.int .i64 d), (.int .i64 e), (.int .i64 s)] 23 .var)), (.some (.cells [(.int .i64 x), (.int .i64 y), (.int .i64 z), (.int .i64 w)] 25 .var)), (.some (.cells [(.int .i64 i), (.int .i64 x), (.int .i64 o), (.int .i64 z)] 26 .var)), (.some (.cells [(.int .i64 (rcs_r0 a b c d e s)), (.int .i64 (rst_r0 x y z w)), (.int .i64 (rci_r0 i))] 3 .row)), (.some (.cells [(.int .i64 (0)), (.int .i64 (0)), (.int .i64 (0)), (.int .i64 (0))] 25 .var)), (.some (.cells [(.int .i64 a), (.int .i64 b), (.int .i64 c), (.int .i64 d), (.int .i64 e), (.int .i64 s)] 23 .var)), (.some (.cells [(.int .i64 x), (.int .i64 y), (.int .i64 z), (.int .i64 w)] 25 .var)), (.some (.cells [(.int .i64 (0)), (.int .i64 (0)), (.int .i64 (0)), (.int .i64 (0))] 25 .var))]) (by kernel_rfl)) (ObsOK.cond h0 (ObsOK.cond h0 (ObsOK.cond h0 (ObsOK.cond h0 (ObsOK.cond h0 (ObsOK.cond h0 (ObsOK.cond h1 (ObsOK.cond h1 (ObsOK.cond h1 (ObsOK.cond h1 (ObsOK.cond h2 (ObsOK.cond h2 (ObsOK.cond h2 (ObsOK.cond h2 (ObsOK.cond h3 (ObsOK.cond h3 (ObsOK.cond h3 (ObsOK.cond h3 (ObsOK.nil)))))))))))))))))))))))))))
def lwB_c0 (a : Int) (b : Int) (c : Int) (d : Int) (e : Int) (s : Int) (x : Int) (y : Int) (z : Int) (w : Int) (i : Int) : Bool := cs_r0 a b c d e s == rcs_r0 a b c d e s
def lwB_c1 (a : Int) (b : Int) (c : Int) (d : Int) (e : Int) (s : Int) (x : Int) (y : Int) (z : Int) (w : Int) (i : Int) : Bool := st_r0 x y z w == rst_r0 x y z w
theorem lwB_p0 (a : Int) (b : Int) (c : Int) (d : Int) (e : Int) (s : Int) (x : Int) (y : Int) (z : Int) (w : Int) (i : Int) (f1 : (cs_r0 a b c d e s != 0) = true) (k1 : (rcs_r0 a b c d e s != 0) = true) (j1 : (rcs_r0 a b c d e s == 0) = false) (h0 : lwB_c0 a b c d e s x y z w i = true) (h1 : lwB_c1 a b c d e s x y z w i = true) : Gives Tryd.prog envL 0 3 [(.agg #[(.int .i64 (a)), (.int .i64 (b)), (.int .i64 (c)), (.int .i64 (d)), (.int .i64 (e)), (.int .i64 (s))]), (.agg #[(.int .i64 (x)), (.int .i64 (y)), (.int .i64 (z)), (.int .i64 (w))]), (.int .i64 (i))] heap0 ((.bool true), heap0) :=
  Gives.by (n := 1000) (os := [.br 25 26 true, .br 5 42 true, .br 6 30 true, .br 3 62 false, .br 3 88 true, .br 3 88 true, .br 3 88 true, .br 3 88 true, .br 3 88 true, .br 3 101 true, .br 3 102 true, .br 3 102 true, .br 3 102 true, .br 3 111 true, .br 3 132 true, .br 3 137 true]) (os' := []) (by kernel_rfl) (ObsOK.cond f1 (ObsOK.cond f1 (ObsOK.cond k1 (ObsOK.cond j1 (ObsOK.cond h0 (ObsOK.cond h0 (ObsOK.cond h0 (ObsOK.cond h0 (ObsOK.cond h0 (ObsOK.cond h0 (ObsOK.cond h1 (ObsOK.cond h1 (ObsOK.cond h1 (ObsOK.cond h1 (ObsOK.cond h0 (ObsOK.cond h0 (ObsOK.nil)))))))))))))))))
def lwC_c0 (a : Int) (b : Int) (c : Int) (d : Int) (e : Int) (s : Int) (x : Int) (y : Int) (z : Int) (w : Int) (i : Int) : Bool := cs_r0 a b c d e s == rcs_r0 a b c d e s
def lwC_c1 (a : Int) (b : Int) (c : Int) (d : Int) (e : Int) (s : Int) (x : Int) (y : Int) (z : Int) (w : Int) (i : Int) : Bool := st_r0 x y z w == rst_r0 x y z w
theorem lwC_p0 (a : Int) (b : Int) (c : Int) (d : Int) (e : Int) (s : Int) (x : Int) (y : Int) (z : Int) (w : Int) (i : Int) (f1 : (cs_r0 a b c d e s != 0) = false) (k1 : (rcs_r0 a b c d e s != 0) = false) (f2 : (st_r0 x y z w != 0) = true) (k2 : (rst_r0 x y z w != 0) = true) (j2 : (rst_r0 x y z w == 0) = false) (h0 : lwC_c0 a b c d e s x y z w i = true) (h1 : lwC_c1 a b c d e s x y z w i = true) : Gives Tryd.prog envL 0 3 [(.agg #[(.int .i64 (a)), (.int .i64 (b)), (.int .i64 (c)), (.int .i64 (d)), (.int .i64 (e)), (.int .i64 (s))]), (.agg #[(.int .i64 (x)), (.int .i64 (y)), (.int .i64 (z)), (.int .i64 (w))]), (.int .i64 (i))] heap0 ((.bool true), heap0) :=
  Gives.by (n := 1000) (os := [.br 25 26 false, .br 25 26 true, .br 5 42 true, .br 6 30 false, .br 6 30 true, .br 3 62 false, .br 3 88 true, .br 3 88 true, .br 3 88 true, .br 3 88 true, .br 3 88 true, .br 3 101 true, .br 3 102 true, .br 3 102 true, .br 3 102 true, .br 3 111 true, .br 3 132 true, .br 3 137 true]) (os' := []) (by kernel_rfl) (ObsOK.cond f1 (ObsOK.cond f2 (ObsOK.cond f2 (ObsOK.cond k1 (ObsOK.cond k2 (ObsOK.cond j2 (ObsOK.cond h0 (ObsOK.cond h0 (ObsOK.cond h0 (ObsOK.cond h0 (ObsOK.cond h0 (ObsOK.cond h0 (ObsOK.cond h1 (ObsOK.cond h1 (ObsOK.cond h1 (ObsOK.cond h1 (ObsOK.cond h1 (ObsOK.cond h1 (ObsOK.nil)))))))))))))))))))
def lwD_c0 (a : Int) (b : Int) (c : Int) (d : Int) (e : Int) (s : Int) (x : Int) (y : Int) (z : Int) (w : Int) (i : Int) : Bool := cs_r0 a b c d e s == rcs_r0 a b c d e s
def lwD_c1 (a : Int) (b : Int) (c : Int) (d : Int) (e : Int) (s : Int) (x : Int) (y : Int) (z : Int) (w : Int) (i : Int) : Bool := st_r0 x y z w == rst_r0 x y z w
def lwD_c2 (a : Int) (b : Int) (c : Int) (d : Int) (e : Int) (s : Int) (x : Int) (y : Int) (z : Int) (w : Int) (i : Int) : Bool := cv_r0 i == rci_r0 i
theorem lwD_p0 (a : Int) (b : Int) (c : Int) (d : Int) (e : Int) (s : Int) (x : Int) (y : Int) (z : Int) (w : Int) (i : Int) (f1 : (cs_r0 a b c d e s != 0) = false) (k1 : (rcs_r0 a b c d e s != 0) = false) (f2 : (st_r0 x y z w != 0) = false) (k2 : (rst_r0 x y z w != 0) = false) (f3 : (cv_r0 i != 0) = true) (k3 : (rci_r0 i != 0) = true) (j3 : (rci_r0 i == 0) = false) (h0 : lwD_c0 a b c d e s x y z w i = true) (h1 : lwD_c1 a b c d e s x y z w i = true) (h2 : lwD_c2 a b c d e s x y z w i = true) : Gives Tryd.prog envL 0 3 [(.agg #[(.int .i64 (a)), (.int .i64 (b)), (.int .i64 (c)), (.int .i64 (d)), (.int .i64 (e)), (.int .i64 (s))]), (.agg #[(.int .i64 (x)), (.int .i64 (y)), (.int .i64 (z)), (.int .i64 (w))]), (.int .i64 (i))] heap0 ((.bool true), heap0) :=
  Gives.by (n := 1000) (os := [.br 25 26 false, .br 25 26 false, .br 25 26 true, .br 5 42 true, .br 6 30 false, .br 6 30 false, .br 6 30 true, .br 3 62 false, .br 3 88 true, .br 3 88 true, .br 3 88 true, .br 3 88 true, .br 3 88 true, .br 3 101 true, .br 3 102 true, .br 3 102 true, .br 3 102 true, .br 3 111 true, .br 3 132 true, .br 3 137 true]) (os' := []) (by kernel_rfl) (ObsOK.cond f1 (ObsOK.cond f2 (ObsOK.cond f3 (ObsOK.cond f3 (ObsOK.cond k1 (ObsOK.cond k2 (ObsOK.cond k3 (ObsOK.cond j3 (ObsOK.cond h0 (ObsOK.cond h0 (ObsOK.cond h0 (ObsOK.cond h0 (ObsOK.cond h0 (ObsOK.cond h0 (ObsOK.cond h1 (ObsOK.cond h1 (ObsOK.cond h1 (ObsOK.cond h1 (ObsOK.cond h2 (ObsOK.cond h2 (ObsOK.nil)))))))))))))))))))))
end Go.Proofs.YtfnmpdmfpfhjnaaDoor
/-
SectionSteps: the law is true.
-/
namespace Go.Proofs.YtfnmpdmfpfhjnaaDoor
open Go Go.Abs
theorem rrso0 (a b c d e x y z w i : Int) : rr0_r0 a b c d e x y z w i = so0_r0 a b c d e x y z w i := by
  unfold rr0_r0 rr0_c0 so0_r0
  exact floor0 (wr _).1 (wr _).2
theorem rrso1 (a b c d e x y z w i : Int) : rr1_r0 a b c d e x y z w i = so1_r0 a b c d e x y z w i := by
  unfold rr1_r0 rr1_c0 so1_r0
  exact floor1 (wr _).1 (wr _).2
theorem rrso2 (a b c d e x y z w i : Int) : rr2_r0 a b c d e x y z w i = so2_r0 a b c d e x y z w i := by
  unfold rr2_r0 rr2_c0 so2_r0
  exact floor2 (wr _).1 (wr _).2
theorem rrso3 (a b c d e x y z w i : Int) : rr3_r0 a b c d e x y z w i = so3_r0 a b c d e x y z w i := by
  unfold rr3_r0 rr3_c0 so3_r0
  exact floor3 (wr _).1 (wr _).2
theorem rrso4 (a b c d e x y z w i : Int) : rr4_r0 a b c d e x y z w i = so4_r0 a b c d e x y z w i := by
  unfold rr4_r0 rr4_c0 so4_r0
  exact floor4 (wr _).1 (wr _).2
theorem rrso5 (a b c d e x y z w i : Int) : rr5_r0 a b c d e x y z w i = so5_r0 a b c d e x y z w i := by
  unfold rr5_r0 rr5_c0 so5_r0
  exact floor5 (wr _).1 (wr _).2
theorem rrso6 (a b c d e x y z w i : Int) : rr6_r0 a b c d e x y z w i = so6_r0 a b c d e x y z w i := by
  unfold rr6_r0 rr6_c0 so6_r0
  exact floor6 (wr _).1 (wr _).2
theorem rrso7 (a b c d e x y z w i : Int) : rr7_r0 a b c d e x y z w i = so7_r0 a b c d e x y z w i := by
  unfold rr7_r0 rr7_c0 so7_r0
  exact floor7 (wr _).1 (wr _).2
theorem rrso8 (a b c d e x y z w i : Int) : rr8_r0 a b c d e x y z w i = so8_r0 a b c d e x y z w i := by
  unfold rr8_r0 rr8_c0 so8_r0
  exact floor8 (wr _).1 (wr _).2
theorem rrso9 (a b c d e x y z w i : Int) : rr9_r0 a b c d e x y z w i = so9_r0 a b c d e x y z w i := by
  unfold rr9_r0 rr9_c0 so9_r0
  exact floor9 (wr _).1 (wr _).2
theorem rrso10 (a b c d e x y z w i : Int) : rr10_r0 a b c d e x y z w i = so10_r0 a b c d e x y z w i := by
  unfold rr10_r0 rr10_c0 so10_r0
  exact floor10 (wr _).1 (wr _).2
theorem rrso11 (a b c d e x y z w i : Int) : rr11_r0 a b c d e x y z w i = so11_r0 a b c d e x y z w i := by
  unfold rr11_r0 rr11_c0 so11_r0
  exact floor11 (wr _).1 (wr _).2
theorem rrso12 (a b c d e x y z w i : Int) : rr12_r0 a b c d e x y z w i = so12_r0 a b c d e x y z w i := by
  unfold rr12_r0 rr12_c0 so12_r0
  exact floor12 (wr _).1 (wr _).2
theorem rrso13 (a b c d e x y z w i : Int) : rr13_r0 a b c d e x y z w i = so13_r0 a b c d e x y z w i := by
  unfold rr13_r0 rr13_c0 so13_r0
  exact floor13 (wr _).1 (wr _).2
theorem rrso14 (a b c d e x y z w i : Int) : rr14_r0 a b c d e x y z w i = so14_r0 a b c d e x y z w i := by
  unfold rr14_r0 rr14_c0 so14_r0
  exact floor14 (wr _).1 (wr _).2
theorem rrso15 (a b c d e x y z w i : Int) : rr15_r0 a b c d e x y z w i = so15_r0 a b c d e x y z w i := by
  unfold rr15_r0 rr15_c0 so15_r0
  exact floor15 (wr _).1 (wr _).2
theorem so_all {a b c d e s x y z w i : Int} (h0 : 0 ≤ s) (h15 : s ≤ 15) : ∃ r o : Int, o = lim_r0 r ∧
    (∀ (lim : Nat) (A : Heap), startsB heapN A = true → Gives Tryd.prog envL lim 27 [.agg #[.int .i64 a, .int .i64 b, .int .i64 c, .int .i64 d, .int .i64 e, .int .i64 s], .agg #[.int .i64 x, .int .i64 y, .int .i64 z, .int .i64 w], .int .i64 i] A (.agg #[.int .i64 r, .int .i64 o, .int .i64 i, .int .i64 x, .int .i64 o, .int .i64 z], A)) ∧
    (∀ (lim : Nat) (A : Heap), startsB heapN A = true → Gives Tryd.prog envL lim 29 [.agg #[.int .i64 a, .int .i64 b, .int .i64 c, .int .i64 d, .int .i64 e, .int .i64 s], .agg #[.int .i64 x, .int .i64 y, .int .i64 z, .int .i64 w], .int .i64 i] A (.int .i64 r, A)) := by
  have hk : s = 0 ∨ s = 1 ∨ s = 2 ∨ s = 3 ∨ s = 4 ∨ s = 5 ∨ s = 6 ∨ s = 7 ∨ s = 8 ∨ s = 9 ∨ s = 10 ∨ s = 11 ∨ s = 12 ∨ s = 13 ∨ s = 14 ∨ s = 15 := by omega
  rcases hk with rfl | rfl | rfl | rfl | rfl | rfl | rfl | rfl | rfl | rfl | rfl | rfl | rfl | rfl | rfl | rfl
  · refine ⟨so0_r0 a b c d e x y z w i, so0_r1 a b c d e x y z w i, rfl, fun lim A hs => known_of ((kn_skip (BA_no rfl)).trans ((kn_skip rfl).trans ((kn_skip rfl).trans (kn_here (T := heapN) rfl rfl rfl hs)))), fun lim A hs => ?_⟩
    rw [← rrso0]
    exact known_of ((kn_skip (BA_no rfl)).trans ((kn_skip rfl).trans ((kn_skip rfl).trans (kn_here (T := heapN) rfl rfl rfl hs))))
  · refine ⟨so1_r0 a b c d e x y z w i, so1_r1 a b c d e x y z w i, rfl, fun lim A hs => known_of ((kn_skip (BA_no rfl)).trans ((kn_skip rfl).trans ((kn_skip rfl).trans (kn_here (T := heapN) rfl rfl rfl hs)))), fun lim A hs => ?_⟩
    rw [← rrso1]
    exact known_of ((kn_skip (BA_no rfl)).trans ((kn_skip rfl).trans ((kn_skip rfl).trans (kn_here (T := heapN) rfl rfl rfl hs))))
  · refine ⟨so2_r0 a b c d e x y z w i, so2_r1 a b c d e x y z w i, rfl, fun lim A hs => known_of ((kn_skip (BA_no rfl)).trans ((kn_skip rfl).trans ((kn_skip rfl).trans (kn_here (T := heapN) rfl rfl rfl hs)))), fun lim A hs => ?_⟩
    rw [← rrso2]
    exact known_of ((kn_skip (BA_no rfl)).trans ((kn_skip rfl).trans ((kn_skip rfl).trans (kn_here (T := heapN) rfl rfl rfl hs))))
  · refine ⟨so3_r0 a b c d e x y z w i, so3_r1 a b c d e x y z w i, rfl, fun lim A hs => known_of ((kn_skip (BA_no rfl)).trans ((kn_skip rfl).trans ((kn_skip rfl).trans (kn_here (T := heapN) rfl rfl rfl hs)))), fun lim A hs => ?_⟩
    rw [← rrso3]
    exact known_of ((kn_skip (BA_no rfl)).trans ((kn_skip rfl).trans ((kn_skip rfl).trans (kn_here (T := heapN) rfl rfl rfl hs))))
  · refine ⟨so4_r0 a b c d e x y z w i, so4_r1 a b c d e x y z w i, rfl, fun lim A hs => known_of ((kn_skip (BA_no rfl)).trans ((kn_skip rfl).trans ((kn_skip rfl).trans (kn_here (T := heapN) rfl rfl rfl hs)))), fun lim A hs => ?_⟩
    rw [← rrso4]
    exact known_of ((kn_skip (BA_no rfl)).trans ((kn_skip rfl).trans ((kn_skip rfl).trans (kn_here (T := heapN) rfl rfl rfl hs))))
  · refine ⟨so5_r0 a b c d e x y z w i, so5_r1 a b c d e x y z w i, rfl, fun lim A hs => known_of ((kn_skip (BA_no rfl)).trans ((kn_skip rfl).trans ((kn_skip rfl).trans (kn_here (T := heapN) rfl rfl rfl hs)))), fun lim A hs => ?_⟩
    rw [← rrso5]
    exact known_of ((kn_skip (BA_no rfl)).trans ((kn_skip rfl).trans ((kn_skip rfl).trans (kn_here (T := heapN) rfl rfl rfl hs))))
  · refine ⟨so6_r0 a b c d e x y z w i, so6_r1 a b c d e x y z w i, rfl, fun lim A hs => known_of ((kn_skip (BA_no rfl)).trans ((kn_skip rfl).trans ((kn_skip rfl).trans (kn_here (T := heapN) rfl rfl rfl hs)))), fun lim A hs => ?_⟩
    rw [← rrso6]
    exact known_of ((kn_skip (BA_no rfl)).trans ((kn_skip rfl).trans ((kn_skip rfl).trans (kn_here (T := heapN) rfl rfl rfl hs))))
  · refine ⟨so7_r0 a b c d e x y z w i, so7_r1 a b c d e x y z w i, rfl, fun lim A hs => known_of ((kn_skip (BA_no rfl)).trans ((kn_skip rfl).trans ((kn_skip rfl).trans (kn_here (T := heapN) rfl rfl rfl hs)))), fun lim A hs => ?_⟩
    rw [← rrso7]
    exact known_of ((kn_skip (BA_no rfl)).trans ((kn_skip rfl).trans ((kn_skip rfl).trans (kn_here (T := heapN) rfl rfl rfl hs))))
  · refine ⟨so8_r0 a b c d e x y z w i, so8_r1 a b c d e x y z w i, rfl, fun lim A hs => known_of ((kn_skip (BA_no rfl)).trans ((kn_skip rfl).trans ((kn_skip rfl).trans (kn_here (T := heapN) rfl rfl rfl hs)))), fun lim A hs => ?_⟩
    rw [← rrso8]
    exact known_of ((kn_skip (BA_no rfl)).trans ((kn_skip rfl).trans ((kn_skip rfl).trans (kn_here (T := heapN) rfl rfl rfl hs))))
  · refine ⟨so9_r0 a b c d e x y z w i, so9_r1 a b c d e x y z w i, rfl, fun lim A hs => known_of ((kn_skip (BA_no rfl)).trans ((kn_skip rfl).trans ((kn_skip rfl).trans (kn_here (T := heapN) rfl rfl rfl hs)))), fun lim A hs => ?_⟩
    rw [← rrso9]
    exact known_of ((kn_skip (BA_no rfl)).trans ((kn_skip rfl).trans ((kn_skip rfl).trans (kn_here (T := heapN) rfl rfl rfl hs))))
  · refine ⟨so10_r0 a b c d e x y z w i, so10_r1 a b c d e x y z w i, rfl, fun lim A hs => known_of ((kn_skip (BA_no rfl)).trans ((kn_skip rfl).trans ((kn_skip rfl).trans (kn_here (T := heapN) rfl rfl rfl hs)))), fun lim A hs => ?_⟩
    rw [← rrso10]
    exact known_of ((kn_skip (BA_no rfl)).trans ((kn_skip rfl).trans ((kn_skip rfl).trans (kn_here (T := heapN) rfl rfl rfl hs))))
  · refine ⟨so11_r0 a b c d e x y z w i, so11_r1 a b c d e x y z w i, rfl, fun lim A hs => known_of ((kn_skip (BA_no rfl)).trans ((kn_skip rfl).trans ((kn_skip rfl).trans (kn_here (T := heapN) rfl rfl rfl hs)))), fun lim A hs => ?_⟩
    rw [← rrso11]
    exact known_of ((kn_skip (BA_no rfl)).trans ((kn_skip rfl).trans ((kn_skip rfl).trans (kn_here (T := heapN) rfl rfl rfl hs))))
  · refine ⟨so12_r0 a b c d e x y z w i, so12_r1 a b c d e x y z w i, rfl, fun lim A hs => known_of ((kn_skip (BA_no rfl)).trans ((kn_skip rfl).trans ((kn_skip rfl).trans (kn_here (T := heapN) rfl rfl rfl hs)))), fun lim A hs => ?_⟩
    rw [← rrso12]
    exact known_of ((kn_skip (BA_no rfl)).trans ((kn_skip rfl).trans ((kn_skip rfl).trans (kn_here (T := heapN) rfl rfl rfl hs))))
  · refine ⟨so13_r0 a b c d e x y z w i, so13_r1 a b c d e x y z w i, rfl, fun lim A hs => known_of ((kn_skip (BA_no rfl)).trans ((kn_skip rfl).trans ((kn_skip rfl).trans (kn_here (T := heapN) rfl rfl rfl hs)))), fun lim A hs => ?_⟩
    rw [← rrso13]
    exact known_of ((kn_skip (BA_no rfl)).trans ((kn_skip rfl).trans ((kn_skip rfl).trans (kn_here (T := heapN) rfl rfl rfl hs))))
  · refine ⟨so14_r0 a b c d e x y z w i, so14_r1 a b c d e x y z w i, rfl, fun lim A hs => known_of ((kn_skip (BA_no rfl)).trans ((kn_skip rfl).trans ((kn_skip rfl).trans (kn_here (T := heapN) rfl rfl rfl hs)))), fun lim A hs => ?_⟩
    rw [← rrso14]
    exact known_of ((kn_skip (BA_no rfl)).trans ((kn_skip rfl).trans ((kn_skip rfl).trans (kn_here (T := heapN) rfl rfl rfl hs))))
  · refine ⟨so15_r0 a b c d e x y z w i, so15_r1 a b c d e x y z w i, rfl, fun lim A hs => known_of ((kn_skip (BA_no rfl)).trans ((kn_skip rfl).trans ((kn_skip rfl).trans (kn_here (T := heapN) rfl rfl rfl hs)))), fun lim A hs => ?_⟩
    rw [← rrso15]
    exact known_of ((kn_skip (BA_no rfl)).trans ((kn_skip rfl).trans ((kn_skip rfl).trans (kn_here (T := heapN) rfl rfl rfl hs))))
theorem steps_law (a b c d e s x y z w i : Int) : Gives Tryd.prog envL 0 3 [.agg #[.int .i64 a, .int .i64 b, .int .i64 c, .int .i64 d, .int .i64 e, .int .i64 s], .agg #[.int .i64 x, .int .i64 y, .int .i64 z, .int .i64 w], .int .i64 i] heap0 (.bool true, heap0) := by
  have ecs : cs_r0 a b c d e s = rcs_r0 a b c d e s := cs_rcs a b c d e s
  have est : st_r0 x y z w = rst_r0 x y z w := by rw [st_eq, rst_eq]
  have ecv : cv_r0 i = rci_r0 i := by rw [cv_eq, rci_eq]
  have c0 : (cs_r0 a b c d e s == rcs_r0 a b c d e s) = true := by rw [ecs]; exact beq_self_eq_true _
  have c1 : (st_r0 x y z w == rst_r0 x y z w) = true := by rw [est]; exact beq_self_eq_true _
  have c2 : (cv_r0 i == rci_r0 i) = true := by rw [ecv]; exact beq_self_eq_true _
  by_cases g1 : secR a b c d e s
  case neg =>
    have q1 : cs_r0 a b c d e s = 3 := by rw [cs_eq, if_neg g1]
    have q1' : rcs_r0 a b c d e s = 3 := ecs ▸ q1
    exact lwB_p0 a b c d e s x y z w i (by rw [q1]; rfl) (by rw [q1']; rfl) (by rw [q1']; rfl) c0 c1
  have q1 : cs_r0 a b c d e s = 0 := by rw [cs_eq, if_pos g1]
  have q1' : rcs_r0 a b c d e s = 0 := ecs ▸ q1
  by_cases g2 : stR x y z w
  case neg =>
    have q2 : st_r0 x y z w = 3 := by rw [st_eq, if_neg g2]
    have q2' : rst_r0 x y z w = 3 := est ▸ q2
    exact lwC_p0 a b c d e s x y z w i (by rw [q1]; rfl) (by rw [q1']; rfl) (by rw [q2]; rfl) (by rw [q2']; rfl) (by rw [q2']; rfl) c0 c1
  have q2 : st_r0 x y z w = 0 := by rw [st_eq, if_pos g2]
  have q2' : rst_r0 x y z w = 0 := est ▸ q2
  by_cases g3 : tapR i
  case neg =>
    have q3 : cv_r0 i = 3 := by rw [cv_eq, if_neg g3]
    have q3' : rci_r0 i = 3 := ecv ▸ q3
    exact lwD_p0 a b c d e s x y z w i (by rw [q1]; rfl) (by rw [q1']; rfl) (by rw [q2]; rfl) (by rw [q2']; rfl) (by rw [q3]; rfl) (by rw [q3']; rfl) (by rw [q3']; rfl) c0 c1 c2
  have q3 : cv_r0 i = 0 := by rw [cv_eq, if_pos g3]
  have q3' : rci_r0 i = 0 := ecv ▸ q3
  obtain ⟨r, o, ho, h27, h29⟩ := so_all (a := a) (b := b) (c := c) (d := d) (e := e) (x := x) (y := y) (z := z) (w := w) (i := i) g1.2.2.2.2.2.1 g1.2.2.2.2.2.2
  have d2 : (o == if (if r > -32767 then r else -32767) < 32767 then if r > -32767 then r else -32767 else 32767) = true := by rw [ho, lim_max]; exact beq_self_eq_true _
  refine lwA_p0 a b c d e s x y z w i r o (by rw [q1]; rfl) (by rw [q2]; rfl) (by rw [q3]; rfl) (by rw [q1']; rfl) (by rw [q2']; rfl) (by rw [q3']; rfl) h27 h29 c0 c1 d2 ?_
  unfold lwA_c3
  rw [d2]
  simp only [beq_self_eq_true, Bool.and_self]
end Go.Proofs.YtfnmpdmfpfhjnaaDoor
/-
SectionSteps: from the rows to the statement.
-/
namespace Go.Proofs.YtfnmpdmfpfhjnaaDoor.sectionSteps
open Go Go.Abs Go.ChangeShapes Go.WideShapes Go.ChangeAt Go.RowKit

theorem own : ownKnob Tryd.prog.godebug = none := by kernel_rfl
theorem heap0_eq : heap0 = tabRows Tryd.prog Rows.sectionStepsRow.laid 5 := by kernel_rfl
theorem still0 : noOwn heap0 = true := by kernel_rfl
section
variable {H : Type} {enc : TypeId × Value → H} {w : World} {base : Nat} {sp : Nat → Bool} {hd : Bool}
set_option maxRecDepth 100000 in
theorem arg23 {r : Reach} {b0 : Nat} {v : Value} {d : DataW H} {p : List MemPlace} (hv : Value.okWide Tryd.prog w r b0 23 v) (h : DataW.Trod enc Tryd.prog w base sp hd 23 v d p) :
    p = [] ∧ ∃ a0 a1 a2 a3 a4 a5 : Int, v = .agg #[.int .i64 a0, .int .i64 a1, .int .i64 a2, .int .i64 a3, .int .i64 a4, .int .i64 a5] := by
  obtain ⟨fuel, h⟩ := h
  simp only [Value.okWide, Tryd.underlying23] at hv
  obtain ⟨cs, rfl, _, _⟩ := hv
  obtain ⟨hi, hp⟩ := flat_of 9 23 [.i64, .i64, .i64, .i64, .i64, .i64] fuel _ _ (by kernel_rfl) h
  refine ⟨hp, ?_⟩
  simp only [Value.cells] at hi
  obtain ⟨a0, l0, e0, _, hi⟩ := hi.inv
  obtain ⟨a1, l1, e1, _, hi⟩ := hi.inv
  obtain ⟨a2, l2, e2, _, hi⟩ := hi.inv
  obtain ⟨a3, l3, e3, _, hi⟩ := hi.inv
  obtain ⟨a4, l4, e4, _, hi⟩ := hi.inv
  obtain ⟨a5, l5, e5, _, hi⟩ := hi.inv
  have ee := hi.end
  refine ⟨a0, a1, a2, a3, a4, a5, ?_⟩
  rw [← Array.toList_inj.1 (show cs.toList = (#[.int .i64 a0, .int .i64 a1, .int .i64 a2, .int .i64 a3, .int .i64 a4, .int .i64 a5] : Array Value).toList from by rw [e0, e1, e2, e3, e4, e5, ee])]
set_option maxRecDepth 100000 in
theorem arg25 {r : Reach} {b0 : Nat} {v : Value} {d : DataW H} {p : List MemPlace} (hv : Value.okWide Tryd.prog w r b0 25 v) (h : DataW.Trod enc Tryd.prog w base sp hd 25 v d p) :
    p = [] ∧ ∃ a0 a1 a2 a3 : Int, v = .agg #[.int .i64 a0, .int .i64 a1, .int .i64 a2, .int .i64 a3] := by
  obtain ⟨fuel, h⟩ := h
  simp only [Value.okWide, Tryd.underlying25] at hv
  obtain ⟨cs, rfl, _, _⟩ := hv
  obtain ⟨hi, hp⟩ := flat_of 9 25 [.i64, .i64, .i64, .i64] fuel _ _ (by kernel_rfl) h
  refine ⟨hp, ?_⟩
  simp only [Value.cells] at hi
  obtain ⟨a0, l0, e0, _, hi⟩ := hi.inv
  obtain ⟨a1, l1, e1, _, hi⟩ := hi.inv
  obtain ⟨a2, l2, e2, _, hi⟩ := hi.inv
  obtain ⟨a3, l3, e3, _, hi⟩ := hi.inv
  have ee := hi.end
  refine ⟨a0, a1, a2, a3, ?_⟩
  rw [← Array.toList_inj.1 (show cs.toList = (#[.int .i64 a0, .int .i64 a1, .int .i64 a2, .int .i64 a3] : Array Value).toList from by rw [e0, e1, e2, e3, ee])]
end

theorem calls (x0 x1 x2 x3 x4 x5 x6 x7 x8 x9 x10 : Int) (W : World) (hL : laidMetH Tryd.prog Rows.sectionStepsRow.laid W) :
    Calls Tryd.prog 3 #[.agg #[.int .i64 x0, .int .i64 x1, .int .i64 x2, .int .i64 x3, .int .i64 x4, .int .i64 x5], .agg #[.int .i64 x6, .int .i64 x7, .int .i64 x8, .int .i64 x9], .int .i64 x10] W fun e w' =>
      e = .returned (.bool true) ∧ (w'.os = W.os ∧ w'.output = W.output) ∧ ∀ b, b < W.heap.size → w'.heap[b]? = W.heap[b]? := by
  obtain ⟨n, hn⟩ := steps_law x0 x1 x2 x3 x4 x5 x6 x7 x8 x9 x10
  have hl : laidMet Tryd.prog Rows.sectionStepsRow.laid W := by rw [← MakeChecks.laidMetH_plain _ _ _ (by kernel_rfl)]; exact hL
  have hR : Rel Tryd.prog (tabLoc 5) heap0 W := by rw [heap0_eq]; exact tabRows_rel hl
  have hb : ∃ cd, Tryd.f3.body = some cd := ⟨_, rfl⟩
  obtain ⟨cd, hb⟩ := hb
  have hargs : VRs (tabLoc 5) [.agg #[.int .i64 x0, .int .i64 x1, .int .i64 x2, .int .i64 x3, .int .i64 x4, .int .i64 x5], .agg #[.int .i64 x6, .int .i64 x7, .int .i64 x8, .int .i64 x9], .int .i64 x10] [.agg #[.int .i64 x0, .int .i64 x1, .int .i64 x2, .int .i64 x3, .int .i64 x4, .int .i64 x5], .agg #[.int .i64 x6, .int .i64 x7, .int .i64 x8, .int .i64 x9], .int .i64 x10] := VRs.cons (VR.refl _ rfl) (VRs.cons (VR.refl _ rfl) (VRs.cons (VR.refl _ rfl) (VRs.nil _)))
  refine (calls_of (call_sound prog_ok envL_ok n) prog_ok Tryd.func3 hb hn hargs (tabLoc_globs 5) hR still0).mono ?_
  rintro e w' ⟨v', ρ', rfl, hv, _, hm, hs⟩
  rw [hv.atom_eq rfl]
  exact ⟨rfl, hm.out, hs⟩

theorem reads_ok : Reads Tryd.prog := ⟨by kernel_rfl, by kernel_rfl, by kernel_rfl⟩
theorem len_3 {α : Type} {l : List α} (h : l.length = 3) : ∃ y0 y1 y2 : α, l = [y0, y1, y2] := by
  match l, h with
  | [y0, y1, y2], _ => exact ⟨y0, y1, y2, rfl⟩

set_option maxRecDepth 100000 in
theorem contract (H : Type) (enc : TypeId × Value → H) (W : World) (base : Nat) (args : Array Value) (ds gs : List (DataW H)) (before : List MemPlace)
    (hval : ∀ (j : Nat) t v, Tryd.f3.params[j]? = some t → args[j]? = some v → Value.okWide Tryd.prog W .any base t v)
    (hW : DataW.Whole enc Tryd.prog Tryd.f3.params.toList Rows.sectionStepsSpec.vars false W args.toList ds gs before) (hL : laidMetH Tryd.prog Rows.sectionStepsRow.laid W) :
    Calls Tryd.prog 3 args W fun e W' => ∃ v, e = .returned v ∧ Rows.sectionStepsSpec.post enc Tryd.prog Tryd.f3 false true false false W args v W' := by
  have hW' := hW
  obtain ⟨p, q, hA, hV, rfl, hfz, hnd⟩ := hW
  have hA0 : DataW.TrodAll enc Tryd.prog W 0 (fun _ => true) true Tryd.f3.params.toList args.toList ds p := hA
  rw [Tryd.params3] at hA0 hval
  obtain ⟨v0, vs0, d0, ds0, p0, q0, hargs0, rfl, rfl, h0, r0⟩ := trodAll_cons hA0
  obtain ⟨v1, vs1, d1, ds1, p1, q1, hargs1, rfl, rfl, h1, r1⟩ := trodAll_cons r0
  obtain ⟨v2, vs2, d2, ds2, p2, q2, hargs2, rfl, rfl, h2, r2⟩ := trodAll_cons r1
  obtain ⟨rfl, rfl, rfl⟩ := trodAll_nil r2
  obtain rfl : args = #[v0, v1, v2] := by cases args; simp_all
  obtain ⟨_, x0, x1, x2, x3, x4, x5, rfl⟩ := arg23 (hval 0 23 v0 rfl rfl) h0
  obtain ⟨_, x6, x7, x8, x9, rfl⟩ := arg25 (hval 1 25 v1 rfl rfl) h1
  obtain ⟨x10, rfl, _, _, _⟩ := open_int Tryd.underlying3 (hval 2 3 v2 rfl rfl) h2
  refine (calls x0 x1 x2 x3 x4 x5 x6 x7 x8 x9 x10 W hL).mono fun e W' hr => ?_
  obtain ⟨rfl, ho, hb⟩ := hr
  refine ⟨_, rfl, law_post (bt := 4) reads_ok rfl (fun ds hl => ?_) (by kernel_rfl) Tryd.underlying4 (by kernel_rfl) hW' ho hb⟩
  rw [show Tryd.f3.params.size = 3 by kernel_rfl] at hl
  obtain ⟨y0, y1, y2, rfl⟩ := len_3 hl
  rfl
end Go.Proofs.YtfnmpdmfpfhjnaaDoor.sectionSteps
/-
SectionSteps of the package wooferlaw05 returns true for every input, whatever the world: proved for all arguments, under the conditions that the row and its card name (the package-level tables as laid).
-/
namespace Go.Proofs.YtfnmpdmfpfhjnaaDoor.sectionSteps
open Go Go.Abs Go.ChangeShapes Go.WideShapes Go.ChangeAt Go.RowKit

/-- The settled world, the tables laid. -/
noncomputable def putTab (A : Heap) (w : World) : World :=
  { w with heap := ((List.range 5).foldl (fun h g => match hget A g with
      | some (.cells cs _ _) => h.modify g fun
        | .cells _ t frozen => .cells cs.toArray t frozen
        | o => o
      | _ => h) w.heap) }
noncomputable def laidWorld (os : Os) : World := putTab heap0 (World.holding Tryd.prog os ⟨#[], #[], []⟩)
theorem laid_met (os : Os) : laidMet Tryd.prog Rows.sectionStepsRow.laid ((laidWorld os).forCall (fun _ _ => 0) ⟨#[], #[.agg #[.int .i64 0, .int .i64 0, .int .i64 0, .int .i64 0, .int .i64 0, .int .i64 0], .agg #[.int .i64 0, .int .i64 0, .int .i64 0, .int .i64 0], .int .i64 0], []⟩).memory :=
  laidMet_of_run' 8 (by kernel_rfl) (by kernel_rfl)
theorem reads (os : Os) {H : Type} (enc : TypeId × Value → H) : ∃ places, DataW.whole enc Tryd.prog ((laidWorld os).forCall (fun _ _ => 0) ⟨#[], #[.agg #[.int .i64 0, .int .i64 0, .int .i64 0, .int .i64 0, .int .i64 0, .int .i64 0], .agg #[.int .i64 0, .int .i64 0, .int .i64 0, .int .i64 0], .int .i64 0], []⟩).memory Tryd.f3.params.toList Rows.sectionStepsSpec.vars false (#[.agg #[.int .i64 0, .int .i64 0, .int .i64 0, .int .i64 0, .int .i64 0, .int .i64 0], .agg #[.int .i64 0, .int .i64 0, .int .i64 0, .int .i64 0], .int .i64 0] : Array Value).toList 8 = some ([.agg [.lit (.int .i64 0), .lit (.int .i64 0), .lit (.int .i64 0), .lit (.int .i64 0), .lit (.int .i64 0), .lit (.int .i64 0)], .agg [.lit (.int .i64 0), .lit (.int .i64 0), .lit (.int .i64 0), .lit (.int .i64 0)], .lit (.int .i64 0)], [], places) :=
  ⟨[], by kernel_rfl⟩

set_option maxRecDepth 100000 in
theorem lifted (os : Os) (started : os.Started) (H : Type) (enc : TypeId × Value → H) (F : Stop.Interp) :
    ReturnsInHanded {} Tryd.checked os 3 .any ((OpenSpec.ofChange Rows.sectionStepsSpec).preRow enc Tryd.prog Tryd.f3 Rows.sectionStepsRow.domain false Rows.sectionStepsRow.laid) (((OpenSpec.ofChange Rows.sectionStepsSpec).at F).post enc Tryd.prog Tryd.f3 false true false false) := by
  obtain ⟨places, hx⟩ := reads os enc
  refine returnsInHanded_of_row (C := Tryd.checked) (s := OpenSpec.ofChange Rows.sectionStepsSpec) own started (by kernel_rfl) Tryd.func3
    (witness_row_at (enc := enc) (C := Tryd.checked) false (laidWorld os) #[.agg #[.int .i64 0, .int .i64 0, .int .i64 0, .int .i64 0, .int .i64 0, .int .i64 0], .agg #[.int .i64 0, .int .i64 0, .int .i64 0, .int .i64 0], .int .i64 0] rfl (by kernel_rfl) (by kernel_rfl) (by kernel_rfl)
      (OpenSpec.preRow_of_cond 8 hx (by kernel_rfl) (fun k hk => by cases hk) (by kernel_rfl) (laid_met os))) ?_
  intro W base args ds gs before hval hW _ _ _ hL _ _
  exact contract H enc W base args ds gs before hval hW hL

theorem said : Rows.SectionStepsSaid :=
  OpenClaim.holds_of_cond 3 Tryd.f3 rfl rfl rfl rfl rfl rfl rfl ⟨rfl, rfl, rfl, rfl, rfl⟩ rfl rfl rfl rfl rfl (by kernel_rfl) Tryd.func3 (by kernel_rfl)
    (of_decide_eq_true (by kernel_rfl)) (by unfold Func.isWrapper; first | (rw [if_pos (by decide +kernel)]; kernel_rfl) | (rw [if_neg (by decide +kernel)]; exact ⟨rfl, rfl⟩))
    (fun os started H enc _ F => by rw [OpenClaim.pre_eq_preRow]; exact lifted os started H enc F)

theorem plain (f : FuncId) (fn : Func) (hf : Tryd.pinned.checked.prog.funcNamed "woofer/wooferlaw05.SectionSteps" = some f) (hfn : Tryd.pinned.checked.prog.funcs[f]? = some fn) :
    false = Tryd.pinned.checked.prog.looks [] ∧ ∀ (j : Nat) t, fn.params[j]? = some t → Tryd.pinned.checked.prog.wantsStandIn t = false := by
  obtain rfl : f = 3 := Option.some.inj ((show Tryd.prog.funcNamed "woofer/wooferlaw05.SectionSteps" = some 3 by kernel_rfl).symm.trans hf) |>.symm
  obtain rfl : fn = Tryd.f3 := (Option.some.inj (Tryd.func3.symm.trans hfn)).symm
  refine ⟨by kernel_rfl, fun j t ht => ?_⟩
  rw [Tryd.params3] at ht
  have hm := Array.mem_of_getElem? ht
  simp only [List.mem_toArray, List.mem_cons, List.not_mem_nil, or_false] at hm
  rcases hm with rfl | rfl | rfl
  · exact (show Tryd.prog.wantsStandIn 23 = false by kernel_rfl)
  · exact (show Tryd.prog.wantsStandIn 25 = false by kernel_rfl)
  · exact (show Tryd.prog.wantsStandIn 3 = false by kernel_rfl)

theorem card : Rows.SectionStepsCardSaid :=
  Claim7.holds_tied_plain_at .later [] _ _ _ _ said (fun _ h => by cases h) (by kernel_rfl) (fun _ h => by cases h) sectionSteps_row_tie rfl ⟨rfl, rfl⟩ (by kernel_rfl) rfl plain (by kernel_rfl)
end Go.Proofs.YtfnmpdmfpfhjnaaDoor.sectionSteps
