/-
Joined: La, Lb, AbW, Gc, Pm, Gd, Lc, Ld, Le, Lh0, Li, Lf, Lg, Lh, Lk, Ll, Lm, Ln, Lo, Lp, Lq, Lr, Ls, Lv, Nz.
-/
import Derived.Test.YtinkgnklhcjejaaGreatMb4
import GoSem.Core.View
import Derived.Test.YtinkgnklhcjejaaGreatMb5
set_option linter.unusedVariables false
set_option linter.unusedSimpArgs false
set_option linter.unusedSectionVars false
/-
Small functions.
-/
namespace Go.Proofs.YtinkgnklhcjejaaGreat
open Go Go.Abs
def cr_c0 (n : Int) (a : Int) (b : Int) : Bool := decide (a ≤ n)
def cr_c1 (n : Int) (a : Int) (b : Int) : Bool := !decide (n ≤ b)
theorem cr_p0 (n : Int) (a : Int) (b : Int) (h0 : cr_c0 n a b = true) (h1 : cr_c1 n a b = true) : Gives Tryz.prog env0 0 87 [(I n), (I a), (I b)] heapN ((I 3), heapN) :=
  Gives.by (n := 1000) (os := [.br 118 22 true, .br 118 22 true, .br 118 22 true, .br 118 31 true, .br 88 12 true]) (os' := []) (by kernel_rfl) (ObsOK.cond h0 (ObsOK.cond h0 (ObsOK.cond h0 (ObsOK.cond h0 (ObsOK.cond h1 (ObsOK.nil))))))
theorem cr_p1 (n : Int) (a : Int) (b : Int) (h0 : cr_c0 n a b = true) (h1 : cr_c1 n a b = false) : Gives Tryz.prog env0 0 87 [(I n), (I a), (I b)] heapN ((I 0), heapN) :=
  Gives.by (n := 1000) (os := [.br 118 22 true, .br 118 22 true, .br 118 22 true, .br 118 31 true, .br 88 12 false]) (os' := []) (by kernel_rfl) (ObsOK.cond h0 (ObsOK.cond h0 (ObsOK.cond h0 (ObsOK.cond h0 (ObsOK.cond h1 (ObsOK.nil))))))
theorem cr_p2 (n : Int) (a : Int) (b : Int) (h0 : cr_c0 n a b = false) : Gives Tryz.prog env0 0 87 [(I n), (I a), (I b)] heapN ((I 3), heapN) :=
  Gives.by (n := 1000) (os := [.br 118 22 false, .br 118 22 false, .br 118 22 false, .br 118 31 false]) (os' := []) (by kernel_rfl) (ObsOK.cond h0 (ObsOK.cond h0 (ObsOK.cond h0 (ObsOK.cond h0 (ObsOK.nil)))))
def cr_r0 (n : Int) (a : Int) (b : Int) : Int := (cond (cr_c0 n a b) (cond (cr_c1 n a b) (3) (0)) (3))
theorem cr_gives (n : Int) (a : Int) (b : Int) : Gives Tryz.prog env0 0 87 [(I n), (I a), (I b)] heapN ((I (cr_r0 n a b)), heapN) := by
  cases g0 : cr_c0 n a b
  · skip
    simp only [cr_r0, g0, cond_true, cond_false]; exact cr_p2 n a b g0
  · skip
    cases g1 : cr_c1 n a b
    · skip
      simp only [cr_r0, g0, g1, cond_true, cond_false]; exact cr_p1 n a b g0 g1
    · skip
      simp only [cr_r0, g0, g1, cond_true, cond_false]; exact cr_p0 n a b g0 g1
def wi_c0 (n : Int) (a : Int) (b : Int) : Bool := decide (a ≤ n)
theorem wi_p0 (n : Int) (a : Int) (b : Int) (h0 : wi_c0 n a b = true) : Gives Tryz.prog env0 0 118 [(I n), (I a), (I b)] heapN ((.bool (decide (n ≤ b))), heapN) :=
  Gives.by (n := 1000) (os := [.br 118 22 true, .br 118 22 true, .br 118 22 true, .br 118 31 true]) (os' := []) (by kernel_rfl) (ObsOK.cond h0 (ObsOK.cond h0 (ObsOK.cond h0 (ObsOK.cond h0 (ObsOK.nil)))))
theorem wi_p1 (n : Int) (a : Int) (b : Int) (h0 : wi_c0 n a b = false) : Gives Tryz.prog env0 0 118 [(I n), (I a), (I b)] heapN ((.bool false), heapN) :=
  Gives.by (n := 1000) (os := [.br 118 22 false, .br 118 22 false, .br 118 22 false, .br 118 31 false]) (os' := []) (by kernel_rfl) (ObsOK.cond h0 (ObsOK.cond h0 (ObsOK.cond h0 (ObsOK.cond h0 (ObsOK.nil)))))
def wi_r0 (n : Int) (a : Int) (b : Int) : Bool := (cond (wi_c0 n a b) (decide (n ≤ b)) (false))
theorem wi_gives (n : Int) (a : Int) (b : Int) : Gives Tryz.prog env0 0 118 [(I n), (I a), (I b)] heapN ((.bool (wi_r0 n a b)), heapN) := by
  cases g0 : wi_c0 n a b
  · skip
    simp only [wi_r0, g0, cond_true, cond_false]; exact wi_p1 n a b g0
  · skip
    simp only [wi_r0, g0, cond_true, cond_false]; exact wi_p0 n a b g0
def wh_c0 (p : Bool) (e : Int) : Bool := p
theorem wh_p0 (p : Bool) (e : Int) (h0 : wh_c0 p e = true) : Gives Tryz.prog env0 0 88 [(.bool (p)), (I e)] heapN ((I e), heapN) :=
  Gives.by (n := 1000) (os := [.br 88 12 true]) (os' := []) (by kernel_rfl) (ObsOK.cond h0 (ObsOK.nil))
theorem wh_p1 (p : Bool) (e : Int) (h0 : wh_c0 p e = false) : Gives Tryz.prog env0 0 88 [(.bool (p)), (I e)] heapN ((I 0), heapN) :=
  Gives.by (n := 1000) (os := [.br 88 12 false]) (os' := []) (by kernel_rfl) (ObsOK.cond h0 (ObsOK.nil))
def wh_r0 (p : Bool) (e : Int) : Int := (cond (wh_c0 p e) (e) (0))
theorem wh_gives (p : Bool) (e : Int) : Gives Tryz.prog env0 0 88 [(.bool (p)), (I e)] heapN ((I (wh_r0 p e)), heapN) := by
  cases g0 : wh_c0 p e
  · skip
    simp only [wh_r0, g0, cond_true, cond_false]; exact wh_p1 p e g0
  · skip
    simp only [wh_r0, g0, cond_true, cond_false]; exact wh_p0 p e g0
theorem ab_p0 (n : Int) : Gives Tryz.prog env0 0 154 [(I n)] heapN ((I (if IntKind.i64.wrap (0 - n) > n then IntKind.i64.wrap (0 - n) else n)), heapN) :=
  Gives.by (n := 1000) (os := []) (os' := []) (by kernel_rfl) (ObsOK.nil)
def ab_r0 (n : Int) : Int := (if IntKind.i64.wrap (0 - n) > n then IntKind.i64.wrap (0 - n) else n)
theorem ab_gives (n : Int) : Gives Tryz.prog env0 0 154 [(I n)] heapN ((I (ab_r0 n)), heapN) := by
  simp only [ab_r0, cond_true, cond_false]; exact ab_p0 n
def rcr_c0 (n : Int) (a : Int) (b : Int) : Bool := decide (n < a)
def rcr_c1 (n : Int) (a : Int) (b : Int) : Bool := decide (n > b)
theorem rcr_p0 (n : Int) (a : Int) (b : Int) (h0 : rcr_c0 n a b = true) : Gives Tryz.prog env0 0 23 [(I n), (I a), (I b)] heapN ((I 3), heapN) :=
  Gives.by (n := 1000) (os := [.br 23 22 true, .br 23 22 true, .br 23 22 true, .br 23 31 true]) (os' := []) (by kernel_rfl) (ObsOK.cond h0 (ObsOK.cond h0 (ObsOK.cond h0 (ObsOK.cond h0 (ObsOK.nil)))))
theorem rcr_p1 (n : Int) (a : Int) (b : Int) (h0 : rcr_c0 n a b = false) (h1 : rcr_c1 n a b = true) : Gives Tryz.prog env0 0 23 [(I n), (I a), (I b)] heapN ((I 3), heapN) :=
  Gives.by (n := 1000) (os := [.br 23 22 false, .br 23 22 false, .br 23 22 false, .br 23 31 false, .br 23 30 true]) (os' := []) (by kernel_rfl) (ObsOK.cond h0 (ObsOK.cond h0 (ObsOK.cond h0 (ObsOK.cond h0 (ObsOK.cond h1 (ObsOK.nil))))))
theorem rcr_p2 (n : Int) (a : Int) (b : Int) (h0 : rcr_c0 n a b = false) (h1 : rcr_c1 n a b = false) : Gives Tryz.prog env0 0 23 [(I n), (I a), (I b)] heapN ((I 0), heapN) :=
  Gives.by (n := 1000) (os := [.br 23 22 false, .br 23 22 false, .br 23 22 false, .br 23 31 false, .br 23 30 false]) (os' := []) (by kernel_rfl) (ObsOK.cond h0 (ObsOK.cond h0 (ObsOK.cond h0 (ObsOK.cond h0 (ObsOK.cond h1 (ObsOK.nil))))))
def rcr_r0 (n : Int) (a : Int) (b : Int) : Int := (cond (rcr_c0 n a b) (3) (cond (rcr_c1 n a b) (3) (0)))
theorem rcr_gives (n : Int) (a : Int) (b : Int) : Gives Tryz.prog env0 0 23 [(I n), (I a), (I b)] heapN ((I (rcr_r0 n a b)), heapN) := by
  cases g0 : rcr_c0 n a b
  · skip
    cases g1 : rcr_c1 n a b
    · skip
      simp only [rcr_r0, g0, g1, cond_true, cond_false]; exact rcr_p2 n a b g0 g1
    · skip
      simp only [rcr_r0, g0, g1, cond_true, cond_false]; exact rcr_p1 n a b g0 g1
  · skip
    simp only [rcr_r0, g0, cond_true, cond_false]; exact rcr_p0 n a b g0
def rwh_c0 (p : Bool) (e : Int) : Bool := p
theorem rwh_p0 (p : Bool) (e : Int) (h0 : rwh_c0 p e = true) : Gives Tryz.prog env0 0 24 [(.bool (p)), (I e)] heapN ((I e), heapN) :=
  Gives.by (n := 1000) (os := [.br 24 12 true]) (os' := []) (by kernel_rfl) (ObsOK.cond h0 (ObsOK.nil))
theorem rwh_p1 (p : Bool) (e : Int) (h0 : rwh_c0 p e = false) : Gives Tryz.prog env0 0 24 [(.bool (p)), (I e)] heapN ((I 0), heapN) :=
  Gives.by (n := 1000) (os := [.br 24 12 false]) (os' := []) (by kernel_rfl) (ObsOK.cond h0 (ObsOK.nil))
def rwh_r0 (p : Bool) (e : Int) : Int := (cond (rwh_c0 p e) (e) (0))
theorem rwh_gives (p : Bool) (e : Int) : Gives Tryz.prog env0 0 24 [(.bool (p)), (I e)] heapN ((I (rwh_r0 p e)), heapN) := by
  cases g0 : rwh_c0 p e
  · skip
    simp only [rwh_r0, g0, cond_true, cond_false]; exact rwh_p1 p e g0
  · skip
    simp only [rwh_r0, g0, cond_true, cond_false]; exact rwh_p0 p e g0
def rwq_c0 (p : Bool) (e : Int) : Bool := p
theorem rwq_p0 (p : Bool) (e : Int) (h0 : rwq_c0 p e = true) : Gives Tryz.prog env0 0 93 [(.bool (p)), (I e)] heapN ((I e), heapN) :=
  Gives.by (n := 1000) (os := [.br 93 12 true]) (os' := []) (by kernel_rfl) (ObsOK.cond h0 (ObsOK.nil))
theorem rwq_p1 (p : Bool) (e : Int) (h0 : rwq_c0 p e = false) : Gives Tryz.prog env0 0 93 [(.bool (p)), (I e)] heapN ((I 0), heapN) :=
  Gives.by (n := 1000) (os := [.br 93 12 false]) (os' := []) (by kernel_rfl) (ObsOK.cond h0 (ObsOK.nil))
def rwq_r0 (p : Bool) (e : Int) : Int := (cond (rwq_c0 p e) (e) (0))
theorem rwq_gives (p : Bool) (e : Int) : Gives Tryz.prog env0 0 93 [(.bool (p)), (I e)] heapN ((I (rwq_r0 p e)), heapN) := by
  cases g0 : rwq_c0 p e
  · skip
    simp only [rwq_r0, g0, cond_true, cond_false]; exact rwq_p1 p e g0
  · skip
    simp only [rwq_r0, g0, cond_true, cond_false]; exact rwq_p0 p e g0
def nu_c0 (h : Int) (e : Int) (b : Int) (w : Int) : Bool := b != 0
def nu_c1 (h : Int) (e : Int) (b : Int) (w : Int) : Bool := h == 0
def nu_c2 (h : Int) (e : Int) (b : Int) (w : Int) : Bool := e == 0
theorem nu_p0 (h : Int) (e : Int) (b : Int) (w : Int) (h0 : nu_c0 h e b w = true) (h1 : nu_c1 h e b w = true) : Gives Tryz.prog env0 0 40 [(I h), (I e), (I b), (I w)] heapN ((.bool (e == b)), heapN) :=
  Gives.by (n := 1000) (os := [.br 40 22 true, .br 40 28 true, .br 40 28 true, .br 40 28 true, .br 40 37 true]) (os' := []) (by kernel_rfl) (ObsOK.cond h0 (ObsOK.cond h1 (ObsOK.cond h1 (ObsOK.cond h1 (ObsOK.cond h1 (ObsOK.nil))))))
theorem nu_p1 (h : Int) (e : Int) (b : Int) (w : Int) (h0 : nu_c0 h e b w = true) (h1 : nu_c1 h e b w = false) : Gives Tryz.prog env0 0 40 [(I h), (I e), (I b), (I w)] heapN ((.bool false), heapN) :=
  Gives.by (n := 1000) (os := [.br 40 22 true, .br 40 28 false, .br 40 28 false, .br 40 28 false, .br 40 37 false]) (os' := []) (by kernel_rfl) (ObsOK.cond h0 (ObsOK.cond h1 (ObsOK.cond h1 (ObsOK.cond h1 (ObsOK.cond h1 (ObsOK.nil))))))
theorem nu_p2 (h : Int) (e : Int) (b : Int) (w : Int) (h0 : nu_c0 h e b w = false) (h1 : nu_c2 h e b w = true) : Gives Tryz.prog env0 0 40 [(I h), (I e), (I b), (I w)] heapN ((.bool (h == w)), heapN) :=
  Gives.by (n := 1000) (os := [.br 40 22 false, .br 40 42 true, .br 40 42 true, .br 40 42 true, .br 40 51 true]) (os' := []) (by kernel_rfl) (ObsOK.cond h0 (ObsOK.cond h1 (ObsOK.cond h1 (ObsOK.cond h1 (ObsOK.cond h1 (ObsOK.nil))))))
theorem nu_p3 (h : Int) (e : Int) (b : Int) (w : Int) (h0 : nu_c0 h e b w = false) (h1 : nu_c2 h e b w = false) : Gives Tryz.prog env0 0 40 [(I h), (I e), (I b), (I w)] heapN ((.bool false), heapN) :=
  Gives.by (n := 1000) (os := [.br 40 22 false, .br 40 42 false, .br 40 42 false, .br 40 42 false, .br 40 51 false]) (os' := []) (by kernel_rfl) (ObsOK.cond h0 (ObsOK.cond h1 (ObsOK.cond h1 (ObsOK.cond h1 (ObsOK.cond h1 (ObsOK.nil))))))
def nu_r0 (h : Int) (e : Int) (b : Int) (w : Int) : Bool := (cond (nu_c0 h e b w) (cond (nu_c1 h e b w) (e == b) (false)) (cond (nu_c2 h e b w) (h == w) (false)))
theorem nu_gives (h : Int) (e : Int) (b : Int) (w : Int) : Gives Tryz.prog env0 0 40 [(I h), (I e), (I b), (I w)] heapN ((.bool (nu_r0 h e b w)), heapN) := by
  cases g0 : nu_c0 h e b w
  · skip
    cases g2 : nu_c2 h e b w
    · skip
      simp only [nu_r0, g0, g2, cond_true, cond_false]; exact nu_p3 h e b w g0 g2
    · skip
      simp only [nu_r0, g0, g2, cond_true, cond_false]; exact nu_p2 h e b w g0 g2
  · skip
    cases g1 : nu_c1 h e b w
    · skip
      simp only [nu_r0, g0, g1, cond_true, cond_false]; exact nu_p1 h e b w g0 g1
    · skip
      simp only [nu_r0, g0, g1, cond_true, cond_false]; exact nu_p0 h e b w g0 g1
def ra_c0 (h : Int) (h' : Int) (e : Int) (b : Int) (w : Int) (w' : Int) : Bool := b != 0
def ra_c1 (h : Int) (h' : Int) (e : Int) (b : Int) (w : Int) (w' : Int) : Bool := h == 0 && (h' == 0 && true)
def ra_c2 (h : Int) (h' : Int) (e : Int) (b : Int) (w : Int) (w' : Int) : Bool := e == 0
theorem ra_p0 (h : Int) (h' : Int) (e : Int) (b : Int) (w : Int) (w' : Int) (h0 : ra_c0 h h' e b w w' = true) (h1 : ra_c1 h h' e b w w' = true) : Gives Tryz.prog env0 0 41 [(.agg #[(I h), (I (h'))]), (I e), (I b), (.agg #[(I w), (I (w'))])] heapN ((.bool (e == b)), heapN) :=
  Gives.by (n := 1000) (os := [.br 41 22 true, .br 41 30 true, .br 41 30 true, .br 41 30 true, .br 41 39 true]) (os' := []) (by kernel_rfl) (ObsOK.cond h0 (ObsOK.cond h1 (ObsOK.cond h1 (ObsOK.cond h1 (ObsOK.cond h1 (ObsOK.nil))))))
theorem ra_p1 (h : Int) (h' : Int) (e : Int) (b : Int) (w : Int) (w' : Int) (h0 : ra_c0 h h' e b w w' = true) (h1 : ra_c1 h h' e b w w' = false) : Gives Tryz.prog env0 0 41 [(.agg #[(I h), (I (h'))]), (I e), (I b), (.agg #[(I w), (I (w'))])] heapN ((.bool false), heapN) :=
  Gives.by (n := 1000) (os := [.br 41 22 true, .br 41 30 false, .br 41 30 false, .br 41 30 false, .br 41 39 false]) (os' := []) (by kernel_rfl) (ObsOK.cond h0 (ObsOK.cond h1 (ObsOK.cond h1 (ObsOK.cond h1 (ObsOK.cond h1 (ObsOK.nil))))))
theorem ra_p2 (h : Int) (h' : Int) (e : Int) (b : Int) (w : Int) (w' : Int) (h0 : ra_c0 h h' e b w w' = false) (h1 : ra_c2 h h' e b w w' = true) : Gives Tryz.prog env0 0 41 [(.agg #[(I h), (I (h'))]), (I e), (I b), (.agg #[(I w), (I (w'))])] heapN ((.bool (h == w && (h' == w' && true))), heapN) :=
  Gives.by (n := 1000) (os := [.br 41 22 false, .br 41 44 true, .br 41 44 true, .br 41 44 true, .br 41 53 true]) (os' := []) (by kernel_rfl) (ObsOK.cond h0 (ObsOK.cond h1 (ObsOK.cond h1 (ObsOK.cond h1 (ObsOK.cond h1 (ObsOK.nil))))))
theorem ra_p3 (h : Int) (h' : Int) (e : Int) (b : Int) (w : Int) (w' : Int) (h0 : ra_c0 h h' e b w w' = false) (h1 : ra_c2 h h' e b w w' = false) : Gives Tryz.prog env0 0 41 [(.agg #[(I h), (I (h'))]), (I e), (I b), (.agg #[(I w), (I (w'))])] heapN ((.bool false), heapN) :=
  Gives.by (n := 1000) (os := [.br 41 22 false, .br 41 44 false, .br 41 44 false, .br 41 44 false, .br 41 53 false]) (os' := []) (by kernel_rfl) (ObsOK.cond h0 (ObsOK.cond h1 (ObsOK.cond h1 (ObsOK.cond h1 (ObsOK.cond h1 (ObsOK.nil))))))
def ra_r0 (h : Int) (h' : Int) (e : Int) (b : Int) (w : Int) (w' : Int) : Bool := (cond (ra_c0 h h' e b w w') (cond (ra_c1 h h' e b w w') (e == b) (false)) (cond (ra_c2 h h' e b w w') (h == w && (h' == w' && true)) (false)))
theorem ra_gives (h : Int) (h' : Int) (e : Int) (b : Int) (w : Int) (w' : Int) : Gives Tryz.prog env0 0 41 [(.agg #[(I h), (I (h'))]), (I e), (I b), (.agg #[(I w), (I (w'))])] heapN ((.bool (ra_r0 h h' e b w w')), heapN) := by
  cases g0 : ra_c0 h h' e b w w'
  · skip
    cases g2 : ra_c2 h h' e b w w'
    · skip
      simp only [ra_r0, g0, g2, cond_true, cond_false]; exact ra_p3 h h' e b w w' g0 g2
    · skip
      simp only [ra_r0, g0, g2, cond_true, cond_false]; exact ra_p2 h h' e b w w' g0 g2
  · skip
    cases g1 : ra_c1 h h' e b w w'
    · skip
      simp only [ra_r0, g0, g1, cond_true, cond_false]; exact ra_p1 h h' e b w w' g0 g1
    · skip
      simp only [ra_r0, g0, g1, cond_true, cond_false]; exact ra_p0 h h' e b w w' g0 g1
def B_envA_87 (args : List Value) : Option (Heap × Value) :=
    match args with
    | [(.int .i64 (n)), (.int .i64 (a)), (.int .i64 (b))] => some (heapN, (.int .i64 (cr_r0 n a b)))
    | _ => none
theorem B_envA_87_ok {args : List Value} {H : Heap} {v : Value} (h : B_envA_87 args = some (H, v)) : 0 ≤ H.length ∧ H.all tableRow = true ∧ Gives Tryz.prog env0 0 87 args H (v, H) := by
  unfold B_envA_87 at h
  split at h
  · cases h; exact heapN_ok (cr_gives _ _ _)
  · cases h
def B_envA_118 (args : List Value) : Option (Heap × Value) :=
    match args with
    | [(.int .i64 (n)), (.int .i64 (a)), (.int .i64 (b))] => some (heapN, (.bool (wi_r0 n a b)))
    | _ => none
theorem B_envA_118_ok {args : List Value} {H : Heap} {v : Value} (h : B_envA_118 args = some (H, v)) : 0 ≤ H.length ∧ H.all tableRow = true ∧ Gives Tryz.prog env0 0 118 args H (v, H) := by
  unfold B_envA_118 at h
  split at h
  · cases h; exact heapN_ok (wi_gives _ _ _)
  · cases h
def B_envA_88 (args : List Value) : Option (Heap × Value) :=
    match args with
    | [(.bool (p)), (.int .i64 (e))] => some (heapN, (.int .i64 (wh_r0 p e)))
    | _ => none
theorem B_envA_88_ok {args : List Value} {H : Heap} {v : Value} (h : B_envA_88 args = some (H, v)) : 0 ≤ H.length ∧ H.all tableRow = true ∧ Gives Tryz.prog env0 0 88 args H (v, H) := by
  unfold B_envA_88 at h
  split at h
  · cases h; exact heapN_ok (wh_gives _ _)
  · cases h
def B_envA_154 (args : List Value) : Option (Heap × Value) :=
    match args with
    | [(.int .i64 (n))] => some (heapN, (.int .i64 (ab_r0 n)))
    | _ => none
theorem B_envA_154_ok {args : List Value} {H : Heap} {v : Value} (h : B_envA_154 args = some (H, v)) : 0 ≤ H.length ∧ H.all tableRow = true ∧ Gives Tryz.prog env0 0 154 args H (v, H) := by
  unfold B_envA_154 at h
  split at h
  · cases h; exact heapN_ok (ab_gives _)
  · cases h
def B_envA_23 (args : List Value) : Option (Heap × Value) :=
    match args with
    | [(.int .i64 (n)), (.int .i64 (a)), (.int .i64 (b))] => some (heapN, (.int .i64 (rcr_r0 n a b)))
    | _ => none
theorem B_envA_23_ok {args : List Value} {H : Heap} {v : Value} (h : B_envA_23 args = some (H, v)) : 0 ≤ H.length ∧ H.all tableRow = true ∧ Gives Tryz.prog env0 0 23 args H (v, H) := by
  unfold B_envA_23 at h
  split at h
  · cases h; exact heapN_ok (rcr_gives _ _ _)
  · cases h
def B_envA_24 (args : List Value) : Option (Heap × Value) :=
    match args with
    | [(.bool (p)), (.int .i64 (e))] => some (heapN, (.int .i64 (rwh_r0 p e)))
    | _ => none
theorem B_envA_24_ok {args : List Value} {H : Heap} {v : Value} (h : B_envA_24 args = some (H, v)) : 0 ≤ H.length ∧ H.all tableRow = true ∧ Gives Tryz.prog env0 0 24 args H (v, H) := by
  unfold B_envA_24 at h
  split at h
  · cases h; exact heapN_ok (rwh_gives _ _)
  · cases h
def B_envA_93 (args : List Value) : Option (Heap × Value) :=
    match args with
    | [(.bool (p)), (.int .i64 (e))] => some (heapN, (.int .i64 (rwq_r0 p e)))
    | _ => none
theorem B_envA_93_ok {args : List Value} {H : Heap} {v : Value} (h : B_envA_93 args = some (H, v)) : 0 ≤ H.length ∧ H.all tableRow = true ∧ Gives Tryz.prog env0 0 93 args H (v, H) := by
  unfold B_envA_93 at h
  split at h
  · cases h; exact heapN_ok (rwq_gives _ _)
  · cases h
def B_envA_40 (args : List Value) : Option (Heap × Value) :=
    match args with
    | [(.int .i64 (h)), (.int .i64 (e)), (.int .i64 (b)), (.int .i64 (w))] => some (heapN, (.bool (nu_r0 h e b w)))
    | _ => none
theorem B_envA_40_ok {args : List Value} {H : Heap} {v : Value} (h : B_envA_40 args = some (H, v)) : 0 ≤ H.length ∧ H.all tableRow = true ∧ Gives Tryz.prog env0 0 40 args H (v, H) := by
  unfold B_envA_40 at h
  split at h
  · cases h; exact heapN_ok (nu_gives _ _ _ _)
  · cases h
def B_envA_41 (args : List Value) : Option (Heap × Value) :=
    match args with
    | [(.agg ⟨[(.int .i64 (h)), (.int .i64 (h'))]⟩), (.int .i64 (e)), (.int .i64 (b)), (.agg ⟨[(.int .i64 (w)), (.int .i64 (w'))]⟩)] => some (heapN, (.bool (ra_r0 h h' e b w w')))
    | _ => none
theorem B_envA_41_ok {args : List Value} {H : Heap} {v : Value} (h : B_envA_41 args = some (H, v)) : 0 ≤ H.length ∧ H.all tableRow = true ∧ Gives Tryz.prog env0 0 41 args H (v, H) := by
  unfold B_envA_41 at h
  split at h
  · cases h; exact heapN_ok (ra_gives _ _ _ _ _ _)
  · cases h
def B_envA (f : FuncId) (args : List Value) : Option (Heap × Value) :=
  if f == 87 then B_envA_87 args else
  if f == 118 then B_envA_118 args else
  if f == 88 then B_envA_88 args else
  if f == 154 then B_envA_154 args else
  if f == 23 then B_envA_23 args else
  if f == 24 then B_envA_24 args else
  if f == 93 then B_envA_93 args else
  if f == 40 then B_envA_40 args else
  if f == 41 then B_envA_41 args else
  none
noncomputable def envA : Env := env0.with (baseKnown B_envA)
theorem envA_ok : EnvOK Tryz.prog 0 envA := env_base prog_ok env0_ok fun f args H v h => by
  unfold B_envA at h
  rcases ite_or h with ⟨hf, h⟩ | h
  · obtain rfl : f = 87 := eq_of_beq hf
    exact B_envA_87_ok h
  rcases ite_or h with ⟨hf, h⟩ | h
  · obtain rfl : f = 118 := eq_of_beq hf
    exact B_envA_118_ok h
  rcases ite_or h with ⟨hf, h⟩ | h
  · obtain rfl : f = 88 := eq_of_beq hf
    exact B_envA_88_ok h
  rcases ite_or h with ⟨hf, h⟩ | h
  · obtain rfl : f = 154 := eq_of_beq hf
    exact B_envA_154_ok h
  rcases ite_or h with ⟨hf, h⟩ | h
  · obtain rfl : f = 23 := eq_of_beq hf
    exact B_envA_23_ok h
  rcases ite_or h with ⟨hf, h⟩ | h
  · obtain rfl : f = 24 := eq_of_beq hf
    exact B_envA_24_ok h
  rcases ite_or h with ⟨hf, h⟩ | h
  · obtain rfl : f = 93 := eq_of_beq hf
    exact B_envA_93_ok h
  rcases ite_or h with ⟨hf, h⟩ | h
  · obtain rfl : f = 40 := eq_of_beq hf
    exact B_envA_40_ok h
  rcases ite_or h with ⟨hf, h⟩ | h
  · obtain rfl : f = 41 := eq_of_beq hf
    exact B_envA_41_ok h
  cases h
end Go.Proofs.YtinkgnklhcjejaaGreat
/-
Checks.
-/
namespace Go.Proofs.YtinkgnklhcjejaaGreat
open Go Go.Abs
def cp_c0 (l : Int) (s : Int) (a : Int) : Bool := cr_r0 l 1 30 != 0
def cp_c1 (l : Int) (s : Int) (a : Int) : Bool := cr_r0 s 1 l != 0
def cp_c2 (l : Int) (s : Int) (a : Int) : Bool := cr_r0 a 0 (IntKind.i64.wrap (s - 1)) != 0
theorem cp_p0 (l : Int) (s : Int) (a : Int) (h0 : cp_c0 l s a = true) : Gives Tryz.prog envA 0 50 [(.agg #[(I l), (I s), (I a)])] heapN ((I (cr_r0 l 1 30)), heapN) :=
  Gives.by (n := 1000) (os := [.br 86 26 true]) (os' := []) (by kernel_rfl) (ObsOK.cond h0 (ObsOK.nil))
theorem cp_p1 (l : Int) (s : Int) (a : Int) (h0 : cp_c0 l s a = false) (h1 : cp_c1 l s a = true) : Gives Tryz.prog envA 0 50 [(.agg #[(I l), (I s), (I a)])] heapN ((I (cr_r0 s 1 l)), heapN) :=
  Gives.by (n := 1000) (os := [.br 86 26 false, .br 86 26 true]) (os' := []) (by kernel_rfl) (ObsOK.cond h0 (ObsOK.cond h1 (ObsOK.nil)))
theorem cp_p2 (l : Int) (s : Int) (a : Int) (h0 : cp_c0 l s a = false) (h1 : cp_c1 l s a = false) (h2 : cp_c2 l s a = true) : Gives Tryz.prog envA 0 50 [(.agg #[(I l), (I s), (I a)])] heapN ((I (cr_r0 a 0 (IntKind.i64.wrap (s - 1)))), heapN) :=
  Gives.by (n := 1000) (os := [.br 86 26 false, .br 86 26 false, .br 86 26 true]) (os' := []) (by kernel_rfl) (ObsOK.cond h0 (ObsOK.cond h1 (ObsOK.cond h2 (ObsOK.nil))))
theorem cp_p3 (l : Int) (s : Int) (a : Int) (h0 : cp_c0 l s a = false) (h1 : cp_c1 l s a = false) (h2 : cp_c2 l s a = false) : Gives Tryz.prog envA 0 50 [(.agg #[(I l), (I s), (I a)])] heapN ((I 0), heapN) :=
  Gives.by (n := 1000) (os := [.br 86 26 false, .br 86 26 false, .br 86 26 false]) (os' := []) (by kernel_rfl) (ObsOK.cond h0 (ObsOK.cond h1 (ObsOK.cond h2 (ObsOK.nil))))
def cp_r0 (l : Int) (s : Int) (a : Int) : Int := (cond (cp_c0 l s a) (cr_r0 l 1 30) (cond (cp_c1 l s a) (cr_r0 s 1 l) (cond (cp_c2 l s a) (cr_r0 a 0 (IntKind.i64.wrap (s - 1))) (0))))
theorem cp_gives (l : Int) (s : Int) (a : Int) : Gives Tryz.prog envA 0 50 [(.agg #[(I l), (I s), (I a)])] heapN ((I (cp_r0 l s a)), heapN) := by
  cases g0 : cp_c0 l s a
  · skip
    cases g1 : cp_c1 l s a
    · skip
      cases g2 : cp_c2 l s a
      · skip
        simp only [cp_r0, g0, g1, g2, cond_true, cond_false]; exact cp_p3 l s a g0 g1 g2
      · skip
        simp only [cp_r0, g0, g1, g2, cond_true, cond_false]; exact cp_p2 l s a g0 g1 g2
    · skip
      simp only [cp_r0, g0, g1, cond_true, cond_false]; exact cp_p1 l s a g0 g1
  · skip
    simp only [cp_r0, g0, cond_true, cond_false]; exact cp_p0 l s a g0
def rcp_c0 (l : Int) (s : Int) (a : Int) : Bool := rcr_r0 l 1 30 != 0
def rcp_c1 (l : Int) (s : Int) (a : Int) : Bool := rcr_r0 s 1 l != 0
def rcp_c2 (l : Int) (s : Int) (a : Int) : Bool := rcr_r0 a 0 (IntKind.i64.wrap (s - 1)) != 0
theorem rcp_p0 (l : Int) (s : Int) (a : Int) (h0 : rcp_c0 l s a = true) : Gives Tryz.prog envA 0 45 [(.agg #[(I l), (I s), (I a)])] heapN ((I (rcr_r0 l 1 30)), heapN) :=
  Gives.by (n := 1000) (os := [.br 91 30 true]) (os' := []) (by kernel_rfl) (ObsOK.cond h0 (ObsOK.nil))
theorem rcp_p1 (l : Int) (s : Int) (a : Int) (h0 : rcp_c0 l s a = false) (h1 : rcp_c1 l s a = true) : Gives Tryz.prog envA 0 45 [(.agg #[(I l), (I s), (I a)])] heapN ((I (rcr_r0 s 1 l)), heapN) :=
  Gives.by (n := 1000) (os := [.br 91 30 false, .br 91 30 true]) (os' := []) (by kernel_rfl) (ObsOK.cond h0 (ObsOK.cond h1 (ObsOK.nil)))
theorem rcp_p2 (l : Int) (s : Int) (a : Int) (h0 : rcp_c0 l s a = false) (h1 : rcp_c1 l s a = false) (h2 : rcp_c2 l s a = true) : Gives Tryz.prog envA 0 45 [(.agg #[(I l), (I s), (I a)])] heapN ((I (rcr_r0 a 0 (IntKind.i64.wrap (s - 1)))), heapN) :=
  Gives.by (n := 1000) (os := [.br 91 30 false, .br 91 30 false, .br 91 30 true]) (os' := []) (by kernel_rfl) (ObsOK.cond h0 (ObsOK.cond h1 (ObsOK.cond h2 (ObsOK.nil))))
theorem rcp_p3 (l : Int) (s : Int) (a : Int) (h0 : rcp_c0 l s a = false) (h1 : rcp_c1 l s a = false) (h2 : rcp_c2 l s a = false) : Gives Tryz.prog envA 0 45 [(.agg #[(I l), (I s), (I a)])] heapN ((I 0), heapN) :=
  Gives.by (n := 1000) (os := [.br 91 30 false, .br 91 30 false, .br 91 30 false]) (os' := []) (by kernel_rfl) (ObsOK.cond h0 (ObsOK.cond h1 (ObsOK.cond h2 (ObsOK.nil))))
def rcp_r0 (l : Int) (s : Int) (a : Int) : Int := (cond (rcp_c0 l s a) (rcr_r0 l 1 30) (cond (rcp_c1 l s a) (rcr_r0 s 1 l) (cond (rcp_c2 l s a) (rcr_r0 a 0 (IntKind.i64.wrap (s - 1))) (0))))
theorem rcp_gives (l : Int) (s : Int) (a : Int) : Gives Tryz.prog envA 0 45 [(.agg #[(I l), (I s), (I a)])] heapN ((I (rcp_r0 l s a)), heapN) := by
  cases g0 : rcp_c0 l s a
  · skip
    cases g1 : rcp_c1 l s a
    · skip
      cases g2 : rcp_c2 l s a
      · skip
        simp only [rcp_r0, g0, g1, g2, cond_true, cond_false]; exact rcp_p3 l s a g0 g1 g2
      · skip
        simp only [rcp_r0, g0, g1, g2, cond_true, cond_false]; exact rcp_p2 l s a g0 g1 g2
    · skip
      simp only [rcp_r0, g0, g1, cond_true, cond_false]; exact rcp_p1 l s a g0 g1
  · skip
    simp only [rcp_r0, g0, cond_true, cond_false]; exact rcp_p0 l s a g0
def cd_c0 (l : Int) (g : Int) (b : Int) : Bool := cr_r0 g 0 l != 0
def cd_c1 (l : Int) (g : Int) (b : Int) : Bool := cr_r0 b 0 l != 0
def cd_c2 (l : Int) (g : Int) (b : Int) : Bool := wh_r0 (decide (b ≤ g)) 11 != 0
theorem cd_p0 (l : Int) (g : Int) (b : Int) (h0 : cd_c0 l g b = true) : Gives Tryz.prog envA 0 107 [(I l), (I g), (I b)] heapN ((I (cr_r0 g 0 l)), heapN) :=
  Gives.by (n := 1000) (os := [.br 86 26 true]) (os' := []) (by kernel_rfl) (ObsOK.cond h0 (ObsOK.nil))
theorem cd_p1 (l : Int) (g : Int) (b : Int) (h0 : cd_c0 l g b = false) (h1 : cd_c1 l g b = true) : Gives Tryz.prog envA 0 107 [(I l), (I g), (I b)] heapN ((I (cr_r0 b 0 l)), heapN) :=
  Gives.by (n := 1000) (os := [.br 86 26 false, .br 86 26 true]) (os' := []) (by kernel_rfl) (ObsOK.cond h0 (ObsOK.cond h1 (ObsOK.nil)))
theorem cd_p2 (l : Int) (g : Int) (b : Int) (h0 : cd_c0 l g b = false) (h1 : cd_c1 l g b = false) (h2 : cd_c2 l g b = true) : Gives Tryz.prog envA 0 107 [(I l), (I g), (I b)] heapN ((I (wh_r0 (decide (b ≤ g)) 11)), heapN) :=
  Gives.by (n := 1000) (os := [.br 86 26 false, .br 86 26 false, .br 86 26 true]) (os' := []) (by kernel_rfl) (ObsOK.cond h0 (ObsOK.cond h1 (ObsOK.cond h2 (ObsOK.nil))))
theorem cd_p3 (l : Int) (g : Int) (b : Int) (h0 : cd_c0 l g b = false) (h1 : cd_c1 l g b = false) (h2 : cd_c2 l g b = false) : Gives Tryz.prog envA 0 107 [(I l), (I g), (I b)] heapN ((I 0), heapN) :=
  Gives.by (n := 1000) (os := [.br 86 26 false, .br 86 26 false, .br 86 26 false]) (os' := []) (by kernel_rfl) (ObsOK.cond h0 (ObsOK.cond h1 (ObsOK.cond h2 (ObsOK.nil))))
def cd_r0 (l : Int) (g : Int) (b : Int) : Int := (cond (cd_c0 l g b) (cr_r0 g 0 l) (cond (cd_c1 l g b) (cr_r0 b 0 l) (cond (cd_c2 l g b) (wh_r0 (decide (b ≤ g)) 11) (0))))
theorem cd_gives (l : Int) (g : Int) (b : Int) : Gives Tryz.prog envA 0 107 [(I l), (I g), (I b)] heapN ((I (cd_r0 l g b)), heapN) := by
  cases g0 : cd_c0 l g b
  · skip
    cases g1 : cd_c1 l g b
    · skip
      cases g2 : cd_c2 l g b
      · skip
        simp only [cd_r0, g0, g1, g2, cond_true, cond_false]; exact cd_p3 l g b g0 g1 g2
      · skip
        simp only [cd_r0, g0, g1, g2, cond_true, cond_false]; exact cd_p2 l g b g0 g1 g2
    · skip
      simp only [cd_r0, g0, g1, cond_true, cond_false]; exact cd_p1 l g b g0 g1
  · skip
    simp only [cd_r0, g0, cond_true, cond_false]; exact cd_p0 l g b g0
def rcd_c0 (l : Int) (g : Int) (b : Int) : Bool := rcr_r0 g 0 l != 0
def rcd_c1 (l : Int) (g : Int) (b : Int) : Bool := rcr_r0 b 0 l != 0
def rcd_c2 (l : Int) (g : Int) (b : Int) : Bool := rwq_r0 (decide (b ≤ g)) 11 != 0
theorem rcd_p0 (l : Int) (g : Int) (b : Int) (h0 : rcd_c0 l g b = true) : Gives Tryz.prog envA 0 46 [(I l), (I g), (I b)] heapN ((I (rcr_r0 g 0 l)), heapN) :=
  Gives.by (n := 1000) (os := [.br 91 30 true]) (os' := []) (by kernel_rfl) (ObsOK.cond h0 (ObsOK.nil))
theorem rcd_p1 (l : Int) (g : Int) (b : Int) (h0 : rcd_c0 l g b = false) (h1 : rcd_c1 l g b = true) : Gives Tryz.prog envA 0 46 [(I l), (I g), (I b)] heapN ((I (rcr_r0 b 0 l)), heapN) :=
  Gives.by (n := 1000) (os := [.br 91 30 false, .br 91 30 true]) (os' := []) (by kernel_rfl) (ObsOK.cond h0 (ObsOK.cond h1 (ObsOK.nil)))
theorem rcd_p2 (l : Int) (g : Int) (b : Int) (h0 : rcd_c0 l g b = false) (h1 : rcd_c1 l g b = false) (h2 : rcd_c2 l g b = true) : Gives Tryz.prog envA 0 46 [(I l), (I g), (I b)] heapN ((I (rwq_r0 (decide (b ≤ g)) 11)), heapN) :=
  Gives.by (n := 1000) (os := [.br 91 30 false, .br 91 30 false, .br 91 30 true]) (os' := []) (by kernel_rfl) (ObsOK.cond h0 (ObsOK.cond h1 (ObsOK.cond h2 (ObsOK.nil))))
theorem rcd_p3 (l : Int) (g : Int) (b : Int) (h0 : rcd_c0 l g b = false) (h1 : rcd_c1 l g b = false) (h2 : rcd_c2 l g b = false) : Gives Tryz.prog envA 0 46 [(I l), (I g), (I b)] heapN ((I 0), heapN) :=
  Gives.by (n := 1000) (os := [.br 91 30 false, .br 91 30 false, .br 91 30 false]) (os' := []) (by kernel_rfl) (ObsOK.cond h0 (ObsOK.cond h1 (ObsOK.cond h2 (ObsOK.nil))))
def rcd_r0 (l : Int) (g : Int) (b : Int) : Int := (cond (rcd_c0 l g b) (rcr_r0 g 0 l) (cond (rcd_c1 l g b) (rcr_r0 b 0 l) (cond (rcd_c2 l g b) (rwq_r0 (decide (b ≤ g)) 11) (0))))
theorem rcd_gives (l : Int) (g : Int) (b : Int) : Gives Tryz.prog envA 0 46 [(I l), (I g), (I b)] heapN ((I (rcd_r0 l g b)), heapN) := by
  cases g0 : rcd_c0 l g b
  · skip
    cases g1 : rcd_c1 l g b
    · skip
      cases g2 : rcd_c2 l g b
      · skip
        simp only [rcd_r0, g0, g1, g2, cond_true, cond_false]; exact rcd_p3 l g b g0 g1 g2
      · skip
        simp only [rcd_r0, g0, g1, g2, cond_true, cond_false]; exact rcd_p2 l g b g0 g1 g2
    · skip
      simp only [rcd_r0, g0, g1, cond_true, cond_false]; exact rcd_p1 l g b g0 g1
  · skip
    simp only [rcd_r0, g0, cond_true, cond_false]; exact rcd_p0 l g b g0
theorem cl_p0 (l : Int) : Gives Tryz.prog envA 0 110 [(I l)] heapN ((I (cr_r0 l 1 30)), heapN) :=
  Gives.by (n := 1000) (os := []) (os' := []) (by kernel_rfl) (ObsOK.nil)
def cl_r0 (l : Int) : Int := (cr_r0 l 1 30)
theorem cl_gives (l : Int) : Gives Tryz.prog envA 0 110 [(I l)] heapN ((I (cl_r0 l)), heapN) := by
  simp only [cl_r0, cond_true, cond_false]; exact cl_p0 l
def B_envB_50 (args : List Value) : Option (Heap × Value) :=
    match args with
    | [(.agg ⟨[(.int .i64 (l)), (.int .i64 (s)), (.int .i64 (a))]⟩)] => some (heapN, (.int .i64 (cp_r0 l s a)))
    | _ => none
theorem B_envB_50_ok {args : List Value} {H : Heap} {v : Value} (h : B_envB_50 args = some (H, v)) : 0 ≤ H.length ∧ H.all tableRow = true ∧ Gives Tryz.prog envA 0 50 args H (v, H) := by
  unfold B_envB_50 at h
  split at h
  · cases h; exact heapN_ok (cp_gives _ _ _)
  · cases h
def B_envB_45 (args : List Value) : Option (Heap × Value) :=
    match args with
    | [(.agg ⟨[(.int .i64 (l)), (.int .i64 (s)), (.int .i64 (a))]⟩)] => some (heapN, (.int .i64 (rcp_r0 l s a)))
    | _ => none
theorem B_envB_45_ok {args : List Value} {H : Heap} {v : Value} (h : B_envB_45 args = some (H, v)) : 0 ≤ H.length ∧ H.all tableRow = true ∧ Gives Tryz.prog envA 0 45 args H (v, H) := by
  unfold B_envB_45 at h
  split at h
  · cases h; exact heapN_ok (rcp_gives _ _ _)
  · cases h
def B_envB_107 (args : List Value) : Option (Heap × Value) :=
    match args with
    | [(.int .i64 (l)), (.int .i64 (g)), (.int .i64 (b))] => some (heapN, (.int .i64 (cd_r0 l g b)))
    | _ => none
theorem B_envB_107_ok {args : List Value} {H : Heap} {v : Value} (h : B_envB_107 args = some (H, v)) : 0 ≤ H.length ∧ H.all tableRow = true ∧ Gives Tryz.prog envA 0 107 args H (v, H) := by
  unfold B_envB_107 at h
  split at h
  · cases h; exact heapN_ok (cd_gives _ _ _)
  · cases h
def B_envB_46 (args : List Value) : Option (Heap × Value) :=
    match args with
    | [(.int .i64 (l)), (.int .i64 (g)), (.int .i64 (b))] => some (heapN, (.int .i64 (rcd_r0 l g b)))
    | _ => none
theorem B_envB_46_ok {args : List Value} {H : Heap} {v : Value} (h : B_envB_46 args = some (H, v)) : 0 ≤ H.length ∧ H.all tableRow = true ∧ Gives Tryz.prog envA 0 46 args H (v, H) := by
  unfold B_envB_46 at h
  split at h
  · cases h; exact heapN_ok (rcd_gives _ _ _)
  · cases h
def B_envB_110 (args : List Value) : Option (Heap × Value) :=
    match args with
    | [(.int .i64 (l))] => some (heapN, (.int .i64 (cl_r0 l)))
    | _ => none
theorem B_envB_110_ok {args : List Value} {H : Heap} {v : Value} (h : B_envB_110 args = some (H, v)) : 0 ≤ H.length ∧ H.all tableRow = true ∧ Gives Tryz.prog envA 0 110 args H (v, H) := by
  unfold B_envB_110 at h
  split at h
  · cases h; exact heapN_ok (cl_gives _)
  · cases h
def B_envB (f : FuncId) (args : List Value) : Option (Heap × Value) :=
  if f == 50 then B_envB_50 args else
  if f == 45 then B_envB_45 args else
  if f == 107 then B_envB_107 args else
  if f == 46 then B_envB_46 args else
  if f == 110 then B_envB_110 args else
  none
noncomputable def envB : Env := envA.with (baseKnown B_envB)
theorem envB_ok : EnvOK Tryz.prog 0 envB := env_base prog_ok envA_ok fun f args H v h => by
  unfold B_envB at h
  rcases ite_or h with ⟨hf, h⟩ | h
  · obtain rfl : f = 50 := eq_of_beq hf
    exact B_envB_50_ok h
  rcases ite_or h with ⟨hf, h⟩ | h
  · obtain rfl : f = 45 := eq_of_beq hf
    exact B_envB_45_ok h
  rcases ite_or h with ⟨hf, h⟩ | h
  · obtain rfl : f = 107 := eq_of_beq hf
    exact B_envB_107_ok h
  rcases ite_or h with ⟨hf, h⟩ | h
  · obtain rfl : f = 46 := eq_of_beq hf
    exact B_envB_46_ok h
  rcases ite_or h with ⟨hf, h⟩ | h
  · obtain rfl : f = 110 := eq_of_beq hf
    exact B_envB_110_ok h
  cases h
end Go.Proofs.YtinkgnklhcjejaaGreat
/-
Numbers of 64 bits: sums, differences and products may be wrapped at the end.
-/
namespace Go.Abs
open Go

theorem wrap_mod (x : Int) : IntKind.i64.wrap x = x.bmod 18446744073709551616 := by
  unfold IntKind.wrap Int.bmod
  simp only [IntKind.bits, IntKind.signed, Bool.true_and, ge_iff_le, decide_eq_true_eq]
  have h1 : (2 ^ 64 : Int) = 18446744073709551616 := by decide
  have h2 : (2 ^ (64 - 1) : Int) = 9223372036854775808 := by decide
  rw [h1, h2]
  have h3 : (((18446744073709551616 : Nat) : Int)) = 18446744073709551616 := rfl
  simp only [h3]
  split <;> split <;> omega
theorem wAdd_l (x y : Int) : IntKind.i64.wrap (IntKind.i64.wrap x + y) = IntKind.i64.wrap (x + y) := by simp only [wrap_mod, Int.bmod_add_bmod]
theorem wAdd_r (x y : Int) : IntKind.i64.wrap (x + IntKind.i64.wrap y) = IntKind.i64.wrap (x + y) := by simp only [wrap_mod, Int.add_bmod_bmod]
theorem wSub_l (x y : Int) : IntKind.i64.wrap (IntKind.i64.wrap x - y) = IntKind.i64.wrap (x - y) := by simp only [wrap_mod, Int.bmod_sub_bmod]
theorem wSub_r (x y : Int) : IntKind.i64.wrap (x - IntKind.i64.wrap y) = IntKind.i64.wrap (x - y) := by simp only [wrap_mod, Int.sub_bmod_bmod]
theorem wMul_l (x y : Int) : IntKind.i64.wrap (IntKind.i64.wrap x * y) = IntKind.i64.wrap (x * y) := by simp only [wrap_mod, Int.bmod_mul_bmod]
theorem wMul_r (x y : Int) : IntKind.i64.wrap (x * IntKind.i64.wrap y) = IntKind.i64.wrap (x * y) := by simp only [wrap_mod, Int.mul_bmod_bmod]
theorem wWrap (x : Int) : IntKind.i64.wrap (IntKind.i64.wrap x) = IntKind.i64.wrap x := by simp only [wrap_mod, Int.bmod_bmod]
/-- Numbers that are small stay as they are. -/
theorem wSmall {x : Int} (h : -9223372036854775808 ≤ x) (h' : x < 9223372036854775808) : IntKind.i64.wrap x = x := by
  rw [wrap_mod]
  exact Int.bmod_eq_of_le (by omega) (by omega)
/-- A product of small numbers. -/
theorem mulB {x y a b : Int} (hx : -a ≤ x ∧ x ≤ a) (hy : -b ≤ y ∧ y ≤ b) : -(a * b) ≤ x * y ∧ x * y ≤ a * b := by
  have h1 : x.natAbs ≤ a.natAbs := by omega
  have h2 : y.natAbs ≤ b.natAbs := by omega
  have h3 := Nat.mul_le_mul h1 h2
  rw [← Int.natAbs_mul, ← Int.natAbs_mul] at h3
  have h4 : 0 ≤ a * b := Int.mul_nonneg (by omega) (by omega)
  omega
end Go.Abs
/-
Euclid's algorithm; ratios in lowest terms.
-/
namespace Go.Abs
open Go
/-- Euclid's algorithm, as the loops run it. -/
def gcdE (a b : Int) : Int := if h : b = 0 then a else gcdE b (a.tmod b)
termination_by b.natAbs
decreasing_by
  have := Int.natAbs_tmod a b
  rw [this]
  exact Nat.mod_lt _ (by omega)
theorem gcdE_zero (a : Int) : gcdE a 0 = a := by rw [gcdE]; simp
theorem gcdE_step {a b : Int} (h : b ≠ 0) : gcdE a b = gcdE b (a.tmod b) := by rw [gcdE]; simp [h]
theorem gcdE_abs (a b : Int) : (gcdE a b).natAbs = Int.gcd a b := by
  induction hn : b.natAbs using Nat.strongRecOn generalizing a b with
  | ind n ih =>
    by_cases h : b = 0
    · subst h; rw [gcdE_zero]; simp
    · rw [gcdE_step h, ih (a.tmod b).natAbs (by rw [← hn, Int.natAbs_tmod]; exact Nat.mod_lt _ (by omega)) _ _ rfl]
      simp only [Int.gcd, Int.natAbs_tmod]
      rw [Nat.gcd_comm, ← Nat.gcd_rec, Nat.gcd_comm]
theorem gcdE_nonneg {a b : Int} (ha : 0 ≤ a) (hb : 0 ≤ b) : 0 ≤ gcdE a b := by
  induction hn : b.natAbs using Nat.strongRecOn generalizing a b with
  | ind n ih =>
    by_cases h : b = 0
    · subst h; rw [gcdE_zero]; exact ha
    · rw [gcdE_step h]
      exact ih (a.tmod b).natAbs (by rw [← hn, Int.natAbs_tmod]; exact Nat.mod_lt _ (by omega)) hb (Int.tmod_nonneg b ha) rfl
theorem gcdE_eq {a b : Int} (ha : 0 ≤ a) (hb : 0 ≤ b) : gcdE a b = Int.gcd a b := by
  have h1 := gcdE_abs a b
  have h2 := gcdE_nonneg ha hb
  omega
end Go.Abs
namespace Go.Proofs.YtinkgnklhcjejaaGreat
open Go Go.Abs
/-- Numbers of 64 bits, the denominator above 0. -/
def okL (p q : Int) : Bool := decide (0 < q ∧ q < 9223372036854775808 ∧ -9223372036854775808 < p ∧ p < 9223372036854775808)
def lowN (p q : Int) : Int := p.tdiv (Int.gcd p q)
def lowD (p q : Int) : Int := q.tdiv (Int.gcd p q)
theorem absE {p : Int} (h : -9223372036854775808 < p ∧ p < 9223372036854775808) : (if IntKind.i64.wrap (0 - p) > p then IntKind.i64.wrap (0 - p) else p) = (p.natAbs : Int) := by
  rw [wSmall (by omega) (by omega)]
  split <;> omega
theorem gcd_ne {p q : Int} (h : 0 < q) : (Int.gcd p q : Int) ≠ 0 := by
  have : Int.gcd p q ≠ 0 := fun h0 => by
    have := Int.gcd_eq_zero_iff.1 h0
    omega
  omega
theorem tdivB {p : Int} {g : Nat} (hp : -9223372036854775808 < p ∧ p < 9223372036854775808) : IntKind.i64.wrap (p.tdiv g) = p.tdiv g := by
  have h : (p.tdiv g).natAbs ≤ p.natAbs := by rw [Int.natAbs_tdiv]; exact Nat.div_le_self _ _
  exact wSmall (by omega) (by omega)
end Go.Proofs.YtinkgnklhcjejaaGreat
/-
Ways to choose, and sums of products of them: as the loops of the program and of the reference reckon them.
-/
namespace Go.Proofs.YtinkgnklhcjejaaGreat
open Go Go.Abs
def wr (x : Int) : Int := IntKind.i64.wrap x
/-- One round. -/
def stepC (n w i : Int) : Int := wr ((wr (w * wr (n - i))).tdiv (wr (i + 1)))
def chL (n : Int) : Nat → Int
  | 0 => 1
  | k + 1 => stepC n (chL n k) k
/-- The program's, and the reference's. -/
def chP (n k : Int) : Int := chL n k.toNat
def chR (n k : Int) : Int := if k < 0 ∨ k > n then 0 else chL n k.toNat
def gridB : Bool := (List.range 31).all fun n => (List.range 31).all fun k => decide (chP n k = chR n k ∧ 0 ≤ chR n k ∧ chR n k ≤ 155117520 ∧ (k ≤ n → 1 ≤ chR n k))
theorem grid : gridB = true := by decide +kernel
theorem ch_grid {n k : Int} (hn : 0 ≤ n ∧ n ≤ 30) (hk : 0 ≤ k ∧ k ≤ 30) : chP n k = chR n k ∧ 0 ≤ chR n k ∧ chR n k ≤ 155117520 ∧ (k ≤ n → 1 ≤ chR n k) := by
  have h := grid
  unfold gridB at h
  have h1 := List.all_eq_true.1 h n.toNat (List.mem_range.2 (by omega))
  have h2 := of_decide_eq_true (List.all_eq_true.1 h1 k.toNat (List.mem_range.2 (by omega)))
  rw [Int.toNat_of_nonneg hn.1, Int.toNat_of_nonneg hk.1] at h2
  exact ⟨h2.1, h2.2.1, h2.2.2.1, fun h3 => h2.2.2.2 (by omega)⟩
/-- One round of the sum. -/
def stepA (c : Int → Int → Int) (l s d w i : Int) : Int := wr (w + wr (c d i * c (wr (l - d)) (wr (s - i))))
def accL (c : Int → Int → Int) (l s d : Int) : Nat → Int
  | 0 => 0
  | k + 1 => stepA c l s d (accL c l s d k) k
theorem acc_eq {l s d : Int} (hl : 1 ≤ l ∧ l ≤ 30) (hs : 1 ≤ s ∧ s ≤ l) (hd : 0 ≤ d ∧ d ≤ l) : ∀ k : Nat, (k : Int) ≤ s → accL chP l s d k = accL chR l s d k ∧ 0 ≤ accL chR l s d k ∧ accL chR l s d k ≤ k * 24061445010950400
  | 0, _ => ⟨rfl, Int.le_refl _, Int.le_refl _⟩
  | k + 1, h => by
    obtain ⟨h1, h2, h3⟩ := acc_eq hl hs hd k (by omega)
    have w1 : wr (l - d) = l - d := wSmall (by omega) (by omega)
    have w2 : wr (s - k) = s - k := wSmall (by omega) (by omega)
    obtain ⟨a1, a2, a3, _⟩ := ch_grid (n := d) (k := k) ⟨hd.1, by omega⟩ ⟨by omega, by omega⟩
    obtain ⟨b1, b2, b3, _⟩ := ch_grid (n := l - d) (k := s - k) ⟨by omega, by omega⟩ ⟨by omega, by omega⟩
    simp only [accL, stepA, w1, w2, h1, a1, b1]
    generalize chR d k = x at *
    generalize chR (l - d) (s - k) = y at *
    have m1 : 0 ≤ x * y := Int.mul_nonneg a2 b2
    have m2 : x * y ≤ 155117520 * 155117520 := Int.mul_le_mul a3 b3 b2 (by decide)
    generalize x * y = z at *
    generalize accL chR l s d k = t at *
    have hk : (k : Int) ≤ 30 := by omega
    rw [show wr z = z from wSmall (by omega) (by omega), show wr (t + z) = t + z from wSmall (by omega) (by omega)]
    refine ⟨trivial, by omega, ?_⟩
    push_cast
    omega
end Go.Proofs.YtinkgnklhcjejaaGreat
/-
Loops and Euclid's algorithm, beside the checks.
-/

/-
Rounds of the loops that reckon ways to choose.
-/
namespace Go.Proofs.YtinkgnklhcjejaaGreat
open Go Go.Abs
theorem chA_p0 (v1 v2 v3 v4 v6 v9 v10 v11 v12 v13 v14 v15 v16 v17 v18 v19 v20 : Value) (n k w i q : Int) (f1 : decide (i < k) = true) (hq : aBin Tryz.prog .quo 3 (.tmp 15) (.tmp 17) (I (IntKind.i64.wrap (w * IntKind.i64.wrap (n - i)))) (I (IntKind.i64.wrap (i + 1))) = some (I q)) : Runs Tryz.prog envB 0 [.code (round 0 (bodyOf 157))] [I n, v1, v2, v3, v4, I w, v6, I k, I i, v9, v10, v11, v12, v13, v14, v15, v16, v17, v18, v19, v20] [] ([I n, v1, v2, v3, v4, I q, I i, I k, (I (IntKind.i64.wrap (i + 1))), (.bool (decide (i < k))), I i, I w, I n, I i, (I (IntKind.i64.wrap (n - i))), (I (IntKind.i64.wrap (w * IntKind.i64.wrap (n - i)))), I i, (I (IntKind.i64.wrap (i + 1))), I q, (I (IntKind.i64.wrap (i + 1))), v20], [], none) :=
  Runs.by (n := 1000) (fid := 157) (os := [.br 157 20 true, .op 157 19 (I q)]) (os' := []) (by kernel_rfl) (ObsOK.cond f1 (ObsOK.val hq (ObsOK.nil)))
theorem chC_p0 (v1 v2 v3 v4 v6 v9 v10 v11 v12 v13 v14 v15 v16 v17 v18 v19 v20 : Value) (n k w i : Int) (f1 : decide (i < k) = false) : Runs Tryz.prog envB 0 [.code (round 0 (bodyOf 157)), .inLoop (round 0 (bodyOf 157)), .inBlock 0] [I n, v1, v2, v3, v4, I w, v6, I k, I i, v9, v10, v11, v12, v13, v14, v15, v16, v17, v18, v19, v20] [] ([I n, v1, v2, v3, v4, I w, v6, I k, I i, (.bool (decide (i < k))), v10, v11, v12, v13, v14, v15, v16, v17, v18, v19, v20], [], none) :=
  Runs.by (n := 1000) (fid := 157) (os := [.br 157 20 false]) (os' := []) (by kernel_rfl) (ObsOK.cond f1 (ObsOK.nil))
theorem biA_p0 (v2 v3 v4 v7 v8 v9 v10 v11 v12 v13 v14 v15 v16 v17 v18 v19 v20 v21 v22 v23 v24 v25 v26 v27 : Value) (n k w i q : Int) (f1 : decide (i < k) = true) (hq : aBin Tryz.prog .quo 3 (.tmp 23) (.tmp 25) (I (IntKind.i64.wrap (w * IntKind.i64.wrap (n - i)))) (I (IntKind.i64.wrap (i + 1))) = some (I q)) : Runs Tryz.prog envB 0 [.code (round 0 (bodyOf 109))] [I n, I k, v2, v3, v4, I w, I i, v7, v8, v9, v10, v11, v12, v13, v14, v15, v16, v17, v18, v19, v20, v21, v22, v23, v24, v25, v26, v27] [] ([I n, I k, v2, v3, v4, I q, (I (IntKind.i64.wrap (i + 1))), v7, v8, v9, v10, v11, v12, v13, I i, I k, (.bool (decide (i < k))), I i, (I (IntKind.i64.wrap (i + 1))), I w, I n, I i, (I (IntKind.i64.wrap (n - i))), (I (IntKind.i64.wrap (w * IntKind.i64.wrap (n - i)))), I i, (I (IntKind.i64.wrap (i + 1))), I q, v27], [], none) :=
  Runs.by (n := 1000) (fid := 109) (os := [.br 109 34 true, .op 109 27 (I q)]) (os' := []) (by kernel_rfl) (ObsOK.cond f1 (ObsOK.val hq (ObsOK.nil)))
theorem biC_p0 (v2 v3 v4 v7 v8 v9 v10 v11 v12 v13 v14 v15 v16 v17 v18 v19 v20 v21 v22 v23 v24 v25 v26 v27 : Value) (n k w i : Int) (f1 : decide (i < k) = false) : Runs Tryz.prog envB 0 [.code (round 0 (bodyOf 109)), .inLoop (round 0 (bodyOf 109)), .inBlock 0] [I n, I k, v2, v3, v4, I w, I i, v7, v8, v9, v10, v11, v12, v13, v14, v15, v16, v17, v18, v19, v20, v21, v22, v23, v24, v25, v26, v27] [] ([I n, I k, v2, v3, v4, I w, I i, v7, v8, v9, v10, v11, v12, v13, I i, I k, (.bool (decide (i < k))), v17, v18, v19, v20, v21, v22, v23, v24, v25, v26, v27], [], none) :=
  Runs.by (n := 1000) (fid := 109) (os := [.br 109 34 false]) (os' := []) (by kernel_rfl) (ObsOK.cond f1 (ObsOK.nil))
theorem loA_p0 (v0 v1 v2 v5 v6 v7 v8 v9 v10 v11 v12 v13 v14 v15 v16 v17 v18 v19 v20 v21 v22 v23 v24 : Value) (a b q : Int) (r0 r1 : Option ARow) (f1 : (b != 0) = true) (hq : aBin Tryz.prog .rem 3 (.tmp 13) (.tmp 14) (I a) (I b) = some (I q)) : Runs Tryz.prog envB 0 [.code (round 0 (bodyOf 104))] [v0, v1, v2, I a, I b, v5, v6, v7, v8, v9, v10, v11, v12, v13, v14, v15, v16, v17, v18, v19, v20, v21, v22, v23, v24] [r0, r1] ([v0, v1, v2, I b, I q, v5, v6, v7, v8, v9, I b, (.bool (b != 0)), I b, I a, I b, I q, v16, v17, v18, v19, v20, v21, v22, v23, v24], [r0, r1], none) :=
  Runs.by (n := 1000) (fid := 104) (os := [.br 104 24 true, .op 104 16 (I q)]) (os' := []) (by kernel_rfl) (ObsOK.cond f1 (ObsOK.val hq (ObsOK.nil)))
theorem loC_p0 (v0 v1 v2 v5 v6 v7 v8 v9 v10 v11 v12 v13 v14 v15 v16 v17 v18 v19 v20 v21 v22 v23 v24 : Value) (a b : Int) (r0 r1 : Option ARow) (f1 : (b != 0) = false) : Runs Tryz.prog envB 0 [.code (round 0 (bodyOf 104)), .inLoop (round 0 (bodyOf 104)), .inBlock 0] [v0, v1, v2, I a, I b, v5, v6, v7, v8, v9, v10, v11, v12, v13, v14, v15, v16, v17, v18, v19, v20, v21, v22, v23, v24] [r0, r1] ([v0, v1, v2, I a, I b, v5, v6, v7, v8, v9, I b, (.bool (b != 0)), v12, v13, v14, v15, v16, v17, v18, v19, v20, v21, v22, v23, v24], [r0, r1], none) :=
  Runs.by (n := 1000) (fid := 104) (os := [.br 104 24 false]) (os' := []) (by kernel_rfl) (ObsOK.cond f1 (ObsOK.nil))
theorem rlA_p0 (v0 v1 v2 v3 v4 v7 v8 v9 v10 v11 v12 v13 v14 v15 v16 v17 v18 v19 v20 v21 v22 v23 v24 v25 v26 v27 v28 v29 v30 : Value) (a b q : Int) (r0 : Option ARow) (f1 : (b != 0) = true) (hq : aBin Tryz.prog .rem 3 (.tmp 21) (.tmp 22) (I a) (I b) = some (I q)) : Runs Tryz.prog envB 0 [.code (round 0 (bodyOf 105))] [v0, v1, v2, v3, v4, I a, I b, v7, v8, v9, v10, v11, v12, v13, v14, v15, v16, v17, v18, v19, v20, v21, v22, v23, v24, v25, v26, v27, v28, v29, v30] [r0] ([v0, v1, v2, v3, v4, I b, I q, v7, v8, v9, v10, v11, v12, v13, v14, v15, v16, v17, I b, (.bool (b != 0)), I b, I a, I b, I q, v24, v25, v26, v27, v28, v29, v30], [r0], none) :=
  Runs.by (n := 1000) (fid := 105) (os := [.br 105 40 true, .op 105 24 (I q)]) (os' := []) (by kernel_rfl) (ObsOK.cond f1 (ObsOK.val hq (ObsOK.nil)))
theorem rlC_p0 (v0 v1 v2 v3 v4 v7 v8 v9 v10 v11 v12 v13 v14 v15 v16 v17 v18 v19 v20 v21 v22 v23 v24 v25 v26 v27 v28 v29 v30 : Value) (a b : Int) (r0 : Option ARow) (f1 : (b != 0) = false) : Runs Tryz.prog envB 0 [.code (round 0 (bodyOf 105)), .inLoop (round 0 (bodyOf 105)), .inBlock 0] [v0, v1, v2, v3, v4, I a, I b, v7, v8, v9, v10, v11, v12, v13, v14, v15, v16, v17, v18, v19, v20, v21, v22, v23, v24, v25, v26, v27, v28, v29, v30] [r0] ([v0, v1, v2, v3, v4, I a, I b, v7, v8, v9, v10, v11, v12, v13, v14, v15, v16, v17, I b, (.bool (b != 0)), v20, v21, v22, v23, v24, v25, v26, v27, v28, v29, v30], [r0], none) :=
  Runs.by (n := 1000) (fid := 105) (os := [.br 105 40 false]) (os' := []) (by kernel_rfl) (ObsOK.cond f1 (ObsOK.nil))
end Go.Proofs.YtinkgnklhcjejaaGreat
/-
The loops that reckon ways to choose.
-/
namespace Go.Proofs.YtinkgnklhcjejaaGreat
open Go Go.Abs
theorem wrap_s {i : Nat} (h : (i : Int) < 9223372036854775807) : IntKind.i64.wrap ((i : Int) + 1) = ((i + 1 : Nat) : Int) := by
  rw [w_id (by omega) (by omega)]; rfl
def ch_S (n : Int) (K : Nat) (v1 v2 v3 v4 v20 : Value) (i : Nat) (l : List Value) (A : Heap) : Prop := A = [] ∧ ∃ v6 v9 v10 v11 v12 v13 v14 v15 v16 v17 v18 v19 : Value, l = [I n, v1, v2, v3, v4, I (chL n i), v6, I (K : Int), I (i : Int), v9, v10, v11, v12, v13, v14, v15, v16, v17, v18, v19, v20]
def ch_T (n : Int) (K : Nat) (v1 v2 v3 v4 v20 : Value) (l : List Value) (A : Heap) : Prop := A = [] ∧ ∃ v6 v8 v9 v10 v11 v12 v13 v14 v15 v16 v17 v18 v19 : Value, l = [I n, v1, v2, v3, v4, I (chL n K), v6, I (K : Int), v8, v9, v10, v11, v12, v13, v14, v15, v16, v17, v18, v19, v20]
theorem ch_loop (n : Int) (K : Nat) (v1 v2 v3 v4 v20 : Value) (hb : (K : Int) ≤ 1000000) : ∀ l A, ch_S n K v1 v2 v3 v4 v20 0 l A → ∃ l' A', ch_T n K v1 v2 v3 v4 v20 l' A' ∧ Runs Tryz.prog envB 0 [.inLoop (round 0 (bodyOf 157)), .inBlock 0] l A (l', A', none) := by
  refine fun l A h => loop_seq (n := K) (ch_S n K v1 v2 v3 v4 v20) (ch_T n K v1 v2 v3 v4 v20) ?_ ?_ _ 0 (Nat.zero_add _) l A h
  · rintro i hi l A ⟨rfl, v6, v9, v10, v11, v12, v13, v14, v15, v16, v17, v18, v19, rfl⟩
    have h := chA_p0 v1 v2 v3 v4 v6 v9 v10 v11 v12 v13 v14 v15 v16 v17 v18 v19 v20 (n) (K) (chL n i) (i) (chL n (i + 1)) (decide_eq_true (by omega)) (aBin_quo (by rw [wrap_s (by omega)]; omega))
    rw [wrap_s (by omega)] at h
    exact ⟨_, _, ⟨rfl, _, _, _, _, _, _, _, _, _, _, _, _, rfl⟩, h⟩
  · rintro l A ⟨rfl, v6, v9, v10, v11, v12, v13, v14, v15, v16, v17, v18, v19, rfl⟩
    have h := chC_p0 v1 v2 v3 v4 v6 v9 v10 v11 v12 v13 v14 v15 v16 v17 v18 v19 v20 (n) (K) (chL n K) (K) (decide_eq_false (by omega))
    exact ⟨_, _, ⟨rfl, _, _, _, _, _, _, _, _, _, _, _, _, _, rfl⟩, h⟩
def bi_S (n : Int) (K : Nat) (v2 v3 v4 v7 v8 v9 v10 v11 v12 v13 v27 : Value) (i : Nat) (l : List Value) (A : Heap) : Prop := A = [] ∧ ∃ v14 v15 v16 v17 v18 v19 v20 v21 v22 v23 v24 v25 v26 : Value, l = [I n, I (K : Int), v2, v3, v4, I (chL n i), I (i : Int), v7, v8, v9, v10, v11, v12, v13, v14, v15, v16, v17, v18, v19, v20, v21, v22, v23, v24, v25, v26, v27]
def bi_T (n : Int) (K : Nat) (v2 v3 v4 v7 v8 v9 v10 v11 v12 v13 v27 : Value) (l : List Value) (A : Heap) : Prop := A = [] ∧ ∃ v6 v14 v15 v16 v17 v18 v19 v20 v21 v22 v23 v24 v25 v26 : Value, l = [I n, I (K : Int), v2, v3, v4, I (chL n K), v6, v7, v8, v9, v10, v11, v12, v13, v14, v15, v16, v17, v18, v19, v20, v21, v22, v23, v24, v25, v26, v27]
theorem bi_loop (n : Int) (K : Nat) (v2 v3 v4 v7 v8 v9 v10 v11 v12 v13 v27 : Value) (hb : (K : Int) ≤ 1000000) : ∀ l A, bi_S n K v2 v3 v4 v7 v8 v9 v10 v11 v12 v13 v27 0 l A → ∃ l' A', bi_T n K v2 v3 v4 v7 v8 v9 v10 v11 v12 v13 v27 l' A' ∧ Runs Tryz.prog envB 0 [.inLoop (round 0 (bodyOf 109)), .inBlock 0] l A (l', A', none) := by
  refine fun l A h => loop_seq (n := K) (bi_S n K v2 v3 v4 v7 v8 v9 v10 v11 v12 v13 v27) (bi_T n K v2 v3 v4 v7 v8 v9 v10 v11 v12 v13 v27) ?_ ?_ _ 0 (Nat.zero_add _) l A h
  · rintro i hi l A ⟨rfl, v14, v15, v16, v17, v18, v19, v20, v21, v22, v23, v24, v25, v26, rfl⟩
    have h := biA_p0 v2 v3 v4 v7 v8 v9 v10 v11 v12 v13 v14 v15 v16 v17 v18 v19 v20 v21 v22 v23 v24 v25 v26 v27 (n) (K) (chL n i) (i) (chL n (i + 1)) (decide_eq_true (by omega)) (aBin_quo (by rw [wrap_s (by omega)]; omega))
    rw [wrap_s (by omega)] at h
    exact ⟨_, _, ⟨rfl, _, _, _, _, _, _, _, _, _, _, _, _, _, rfl⟩, h⟩
  · rintro l A ⟨rfl, v14, v15, v16, v17, v18, v19, v20, v21, v22, v23, v24, v25, v26, rfl⟩
    have h := biC_p0 v2 v3 v4 v7 v8 v9 v10 v11 v12 v13 v14 v15 v16 v17 v18 v19 v20 v21 v22 v23 v24 v25 v26 v27 (n) (K) (chL n K) (K) (decide_eq_false (by omega))
    exact ⟨_, _, ⟨rfl, _, _, _, _, _, _, _, _, _, _, _, _, _, _, rfl⟩, h⟩
end Go.Proofs.YtinkgnklhcjejaaGreat
/-
Ways to choose.
-/
namespace Go.Proofs.YtinkgnklhcjejaaGreat
open Go Go.Abs
theorem cg_p0 (n : Int) (K : Nat) (w6 w8 w9 w10 w11 w12 w13 w14 w15 w16 w17 w18 w19 : Value) (hrun : Runs Tryz.prog envB 0 [.code (blk 0 (bodyOf 157))] [I n, I (K : Int), U, U, I 0, I 1, U, I (K : Int), I 0, U, U, U, U, U, U, U, U, U, U, U, U] [] ([I n, I (K : Int), U, U, I 0, I (chL n K), w6, I (K : Int), w8, w9, w10, w11, w12, w13, w14, w15, w16, w17, w18, w19, U], [], none)) : Gives Tryz.prog envB 0 157 [I n, I (K : Int)] [] ((I (chL n K)), []) :=
  Gives.by (n := 1000) (os := [.run 157 0 [I n, (I ((K : Int))), U, U, (I 0), (I (chL n K)), w6, (I ((K : Int))), w8, w9, w10, w11, w12, w13, w14, w15, w16, w17, w18, w19, U] []]) (os' := []) (by kernel_rfl) (ObsOK.run hrun (ObsOK.nil))
def cg_r0 (n : Int) (K : Nat) (w6 : Value) (w8 : Value) (w9 : Value) (w10 : Value) (w11 : Value) (w12 : Value) (w13 : Value) (w14 : Value) (w15 : Value) (w16 : Value) (w17 : Value) (w18 : Value) (w19 : Value) : Int := (chL n K)
theorem cg_gives (n : Int) (K : Nat) (w6 w8 w9 w10 w11 w12 w13 w14 w15 w16 w17 w18 w19 : Value) (hrun : Runs Tryz.prog envB 0 [.code (blk 0 (bodyOf 157))] [I n, I (K : Int), U, U, I 0, I 1, U, I (K : Int), I 0, U, U, U, U, U, U, U, U, U, U, U, U] [] ([I n, I (K : Int), U, U, I 0, I (chL n K), w6, I (K : Int), w8, w9, w10, w11, w12, w13, w14, w15, w16, w17, w18, w19, U], [], none)) : Gives Tryz.prog envB 0 157 [I n, I (K : Int)] [] ((I (cg_r0 n K w6 w8 w9 w10 w11 w12 w13 w14 w15 w16 w17 w18 w19)), []) := by
  simp only [cg_r0, cond_true, cond_false]; exact cg_p0 n K w6 w8 w9 w10 w11 w12 w13 w14 w15 w16 w17 w18 w19 hrun
theorem bg_p0 (n : Int) (K : Nat) (h1 : decide ((K : Int) < 0) = false) (h2 : decide ((K : Int) > n) = false) (w6 w14 w15 w16 w17 w18 w19 w20 w21 w22 w23 w24 w25 w26 : Value) (hrun : Runs Tryz.prog envB 0 [.code (blk 0 (bodyOf 109))] [I n, I (K : Int), U, U, I 0, I 1, I 0, I (K : Int), (.bool (decide ((K : Int) < 0))), (.bool (decide ((K : Int) < 0))), I (K : Int), I n, (.bool (decide ((K : Int) > n))), (.bool (decide ((K : Int) > n))), U, U, U, U, U, U, U, U, U, U, U, U, U, U] [] ([I n, I (K : Int), U, U, I 0, I (chL n K), w6, I (K : Int), (.bool (decide ((K : Int) < 0))), (.bool (decide ((K : Int) < 0))), I (K : Int), I n, (.bool (decide ((K : Int) > n))), (.bool (decide ((K : Int) > n))), w14, w15, w16, w17, w18, w19, w20, w21, w22, w23, w24, w25, w26, U], [], none)) : Gives Tryz.prog envB 0 109 [I n, I (K : Int)] [] ((I (chL n K)), []) :=
  Gives.by (n := 1000) (os := [.br 109 28 false, .run 109 0 [I n, (I ((K : Int))), U, U, (I 0), (I (chL n K)), w6, (I ((K : Int))), (.bool (decide ((K : Int) < 0))), (.bool (decide ((K : Int) < 0))), (I ((K : Int))), I n, (.bool (decide ((K : Int) > n))), (.bool (decide ((K : Int) > n))), w14, w15, w16, w17, w18, w19, w20, w21, w22, w23, w24, w25, w26, U] []]) (os' := []) (by kernel_rfl) (ObsOK.cond h2 (ObsOK.run hrun (ObsOK.nil)))
def bg_r0 (n : Int) (K : Nat) (w6 : Value) (w14 : Value) (w15 : Value) (w16 : Value) (w17 : Value) (w18 : Value) (w19 : Value) (w20 : Value) (w21 : Value) (w22 : Value) (w23 : Value) (w24 : Value) (w25 : Value) (w26 : Value) : Int := (chL n K)
theorem bg_gives (n : Int) (K : Nat) (h1 : decide ((K : Int) < 0) = false) (h2 : decide ((K : Int) > n) = false) (w6 w14 w15 w16 w17 w18 w19 w20 w21 w22 w23 w24 w25 w26 : Value) (hrun : Runs Tryz.prog envB 0 [.code (blk 0 (bodyOf 109))] [I n, I (K : Int), U, U, I 0, I 1, I 0, I (K : Int), (.bool (decide ((K : Int) < 0))), (.bool (decide ((K : Int) < 0))), I (K : Int), I n, (.bool (decide ((K : Int) > n))), (.bool (decide ((K : Int) > n))), U, U, U, U, U, U, U, U, U, U, U, U, U, U] [] ([I n, I (K : Int), U, U, I 0, I (chL n K), w6, I (K : Int), (.bool (decide ((K : Int) < 0))), (.bool (decide ((K : Int) < 0))), I (K : Int), I n, (.bool (decide ((K : Int) > n))), (.bool (decide ((K : Int) > n))), w14, w15, w16, w17, w18, w19, w20, w21, w22, w23, w24, w25, w26, U], [], none)) : Gives Tryz.prog envB 0 109 [I n, I (K : Int)] [] ((I (bg_r0 n K w6 w14 w15 w16 w17 w18 w19 w20 w21 w22 w23 w24 w25 w26)), []) := by
  simp only [bg_r0, cond_true, cond_false]; exact bg_p0 n K h1 h2 w6 w14 w15 w16 w17 w18 w19 w20 w21 w22 w23 w24 w25 w26 hrun
theorem b0_p0 (n k : Int) (h1 : decide (k < 0) = true) : Gives Tryz.prog envB 0 109 [I n, I k] [] ((I 0), []) :=
  Gives.by (n := 1000) (os := [.br 109 20 true, .br 109 20 true, .br 109 20 true, .br 109 29 true]) (os' := []) (by kernel_rfl) (ObsOK.cond h1 (ObsOK.cond h1 (ObsOK.cond h1 (ObsOK.cond h1 (ObsOK.nil)))))
theorem b0_gives (n k : Int) (h1 : decide (k < 0) = true) : Gives Tryz.prog envB 0 109 [I n, I k] [] ((I 0), []) := by
  exact b0_p0 n k h1
theorem b1_p0 (n k : Int) (h1 : decide (k < 0) = false) (h2 : decide (k > n) = true) : Gives Tryz.prog envB 0 109 [I n, I k] [] ((I 0), []) :=
  Gives.by (n := 1000) (os := [.br 109 20 false, .br 109 20 false, .br 109 20 false, .br 109 29 false, .br 109 28 true]) (os' := []) (by kernel_rfl) (ObsOK.cond h1 (ObsOK.cond h1 (ObsOK.cond h1 (ObsOK.cond h1 (ObsOK.cond h2 (ObsOK.nil))))))
theorem b1_gives (n k : Int) (h1 : decide (k < 0) = false) (h2 : decide (k > n) = true) : Gives Tryz.prog envB 0 109 [I n, I k] [] ((I 0), []) := by
  exact b1_p0 n k h1 h2
end Go.Proofs.YtinkgnklhcjejaaGreat
/-
The loops of Euclid's algorithm.
-/
namespace Go.Proofs.YtinkgnklhcjejaaGreat
open Go Go.Abs
theorem lo_loop (v0 v1 v2 v5 v6 v7 v8 v9 v16 v17 v18 v19 v20 v21 v22 v23 v24 : Value) (r0 r1 : Option ARow) : ∀ (n : Nat) (a b : Int), b.natAbs = n → ∀ (v10 v11 v12 v13 v14 v15 : Value), ∃ w10 w11 w12 w13 w14 w15 : Value, Runs Tryz.prog envB 0 [.inLoop (round 0 (bodyOf 104)), .inBlock 0] [v0, v1, v2, I a, I b, v5, v6, v7, v8, v9, v10, v11, v12, v13, v14, v15, v16, v17, v18, v19, v20, v21, v22, v23, v24] [r0, r1] ([v0, v1, v2, I (gcdE a b), I 0, v5, v6, v7, v8, v9, w10, w11, w12, w13, w14, w15, v16, v17, v18, v19, v20, v21, v22, v23, v24], [r0, r1], none) := by
  intro n
  induction n using Nat.strongRecOn with
  | ind n ih =>
    intro a b hn v10 v11 v12 v13 v14 v15
    by_cases hb : b = 0
    · subst hb
      rw [gcdE_zero]
      exact ⟨_, _, _, _, _, _, Runs.inLoop (loC_p0 v0 v1 v2 v5 v6 v7 v8 v9 v10 v11 v12 v13 v14 v15 v16 v17 v18 v19 v20 v21 v22 v23 v24 (a) (0) (r0) (r1) (rfl))⟩
    · have hb' : (b != 0) = true := by simpa using hb
      have hr := loA_p0 v0 v1 v2 v5 v6 v7 v8 v9 v10 v11 v12 v13 v14 v15 v16 v17 v18 v19 v20 v21 v22 v23 v24 (a) (b) (a.tmod b) (r0) (r1) (hb') (aBin_rem hb)
      obtain ⟨w10, w11, w12, w13, w14, w15, h⟩ := ih (a.tmod b).natAbs (by rw [← hn, Int.natAbs_tmod]; exact Nat.mod_lt _ (by omega)) b (a.tmod b) rfl _ _ _ _ _ _
      rw [gcdE_step hb]
      exact ⟨w10, w11, w12, w13, w14, w15, Runs.loopAgain hr h⟩
theorem rl_loop (v0 v1 v2 v3 v4 v7 v8 v9 v10 v11 v12 v13 v14 v15 v16 v17 v24 v25 v26 v27 v28 v29 v30 : Value) (r0 : Option ARow) : ∀ (n : Nat) (a b : Int), b.natAbs = n → ∀ (v18 v19 v20 v21 v22 v23 : Value), ∃ w18 w19 w20 w21 w22 w23 : Value, Runs Tryz.prog envB 0 [.inLoop (round 0 (bodyOf 105)), .inBlock 0] [v0, v1, v2, v3, v4, I a, I b, v7, v8, v9, v10, v11, v12, v13, v14, v15, v16, v17, v18, v19, v20, v21, v22, v23, v24, v25, v26, v27, v28, v29, v30] [r0] ([v0, v1, v2, v3, v4, I (gcdE a b), I 0, v7, v8, v9, v10, v11, v12, v13, v14, v15, v16, v17, w18, w19, w20, w21, w22, w23, v24, v25, v26, v27, v28, v29, v30], [r0], none) := by
  intro n
  induction n using Nat.strongRecOn with
  | ind n ih =>
    intro a b hn v18 v19 v20 v21 v22 v23
    by_cases hb : b = 0
    · subst hb
      rw [gcdE_zero]
      exact ⟨_, _, _, _, _, _, Runs.inLoop (rlC_p0 v0 v1 v2 v3 v4 v7 v8 v9 v10 v11 v12 v13 v14 v15 v16 v17 v18 v19 v20 v21 v22 v23 v24 v25 v26 v27 v28 v29 v30 (a) (0) (r0) (rfl))⟩
    · have hb' : (b != 0) = true := by simpa using hb
      have hr := rlA_p0 v0 v1 v2 v3 v4 v7 v8 v9 v10 v11 v12 v13 v14 v15 v16 v17 v18 v19 v20 v21 v22 v23 v24 v25 v26 v27 v28 v29 v30 (a) (b) (a.tmod b) (r0) (hb') (aBin_rem hb)
      obtain ⟨w18, w19, w20, w21, w22, w23, h⟩ := ih (a.tmod b).natAbs (by rw [← hn, Int.natAbs_tmod]; exact Nat.mod_lt _ (by omega)) b (a.tmod b) rfl _ _ _ _ _ _
      rw [gcdE_step hb]
      exact ⟨w18, w19, w20, w21, w22, w23, Runs.loopAgain hr h⟩
end Go.Proofs.YtinkgnklhcjejaaGreat
/-
Ratios in lowest terms.
-/
namespace Go.Proofs.YtinkgnklhcjejaaGreat
open Go Go.Abs
theorem lg_p0 (p q : Int) (w10 w11 w12 w13 w14 w15 : Value) (hrun : Runs Tryz.prog envB 0 [.code (blk 0 (bodyOf 104))] [.agg #[I p, I q], pt 0 0, pt 1 0, I q, I (ab_r0 p), pt 0 1, I q, pt 0 0, I p, I (ab_r0 p), U, U, U, U, U, U, U, U, U, U, U, U, U, U, U] [some (.cells [I p, I q] 59 .var), some (.cells [I 0, I 0] 59 .var)] ([.agg #[I p, I q], pt 0 0, pt 1 0, I (gcdE (q) (ab_r0 p)), I 0, pt 0 1, I q, pt 0 0, I p, I (ab_r0 p), w10, w11, w12, w13, w14, w15, U, U, U, U, U, U, U, U, U], [some (.cells [I p, I q] 59 .var), some (.cells [I 0, I 0] 59 .var)], none)) (q1 : aBin Tryz.prog .quo 3 (.tmp 17) (.tmp 18) (I p) (I (gcdE q (ab_r0 p))) = some (I (IntKind.i64.wrap (p.tdiv (gcdE q (ab_r0 p)))))) (q2 : aBin Tryz.prog .quo 3 (.tmp 21) (.tmp 22) (I q) (I (gcdE q (ab_r0 p))) = some (I (IntKind.i64.wrap (q.tdiv (gcdE q (ab_r0 p)))))) : Gives Tryz.prog envB 0 104 [.agg #[I p, I q]] [] ((.agg #[(I (IntKind.i64.wrap (p.tdiv (gcdE q (ab_r0 p))))), (I (IntKind.i64.wrap (q.tdiv (gcdE q (ab_r0 p)))))]), []) :=
  Gives.by (n := 1000) (os := [.run 104 0 [(.agg #[I p, I q]), (pt 0 0), (pt 1 0), (I (gcdE q (ab_r0 p))), (I 0), (pt 0 1), I q, (pt 0 0), I p, (I (ab_r0 p)), w10, w11, w12, w13, w14, w15, U, U, U, U, U, U, U, U, U] [(.some (.cells [I p, I q] 59 .var)), (.some (.cells [(I 0), (I 0)] 59 .var))], .op 104 20 (I (IntKind.i64.wrap (p.tdiv (gcdE q (ab_r0 p))))), .op 104 24 (I (IntKind.i64.wrap (q.tdiv (gcdE q (ab_r0 p)))))]) (os' := []) (by kernel_rfl) (ObsOK.run hrun (ObsOK.val q1 (ObsOK.val q2 (ObsOK.nil))))
def lg_r0 (p : Int) (q : Int) (w10 : Value) (w11 : Value) (w12 : Value) (w13 : Value) (w14 : Value) (w15 : Value) : Int := (IntKind.i64.wrap (p.tdiv (gcdE q (ab_r0 p))))
def lg_r1 (p : Int) (q : Int) (w10 : Value) (w11 : Value) (w12 : Value) (w13 : Value) (w14 : Value) (w15 : Value) : Int := (IntKind.i64.wrap (q.tdiv (gcdE q (ab_r0 p))))
theorem lg_gives (p q : Int) (w10 w11 w12 w13 w14 w15 : Value) (hrun : Runs Tryz.prog envB 0 [.code (blk 0 (bodyOf 104))] [.agg #[I p, I q], pt 0 0, pt 1 0, I q, I (ab_r0 p), pt 0 1, I q, pt 0 0, I p, I (ab_r0 p), U, U, U, U, U, U, U, U, U, U, U, U, U, U, U] [some (.cells [I p, I q] 59 .var), some (.cells [I 0, I 0] 59 .var)] ([.agg #[I p, I q], pt 0 0, pt 1 0, I (gcdE (q) (ab_r0 p)), I 0, pt 0 1, I q, pt 0 0, I p, I (ab_r0 p), w10, w11, w12, w13, w14, w15, U, U, U, U, U, U, U, U, U], [some (.cells [I p, I q] 59 .var), some (.cells [I 0, I 0] 59 .var)], none)) (q1 : aBin Tryz.prog .quo 3 (.tmp 17) (.tmp 18) (I p) (I (gcdE q (ab_r0 p))) = some (I (IntKind.i64.wrap (p.tdiv (gcdE q (ab_r0 p)))))) (q2 : aBin Tryz.prog .quo 3 (.tmp 21) (.tmp 22) (I q) (I (gcdE q (ab_r0 p))) = some (I (IntKind.i64.wrap (q.tdiv (gcdE q (ab_r0 p)))))) : Gives Tryz.prog envB 0 104 [.agg #[I p, I q]] [] ((.agg #[(I (lg_r0 p q w10 w11 w12 w13 w14 w15)), (I (lg_r1 p q w10 w11 w12 w13 w14 w15))]), []) := by
  simp only [lg_r0, lg_r1, cond_true, cond_false]; exact lg_p0 p q w10 w11 w12 w13 w14 w15 hrun q1 q2
theorem rg_p0 (p q : Int) (hq : decide (q < 0) = false) (w18 w19 w20 w21 w22 w23 : Value) (hrun : Runs Tryz.prog envB 0 [.code (blk 0 (bodyOf 105))] [I p, I q, U, U, pt 0 0, I (if IntKind.i64.wrap (0 - p) > p then IntKind.i64.wrap (0 - p) else p), I q, I q, (.bool (decide (q < 0))), U, U, U, U, I p, I p, I (IntKind.i64.wrap (0 - p)), I (if IntKind.i64.wrap (0 - p) > p then IntKind.i64.wrap (0 - p) else p), I q, U, U, U, U, U, U, U, U, U, U, U, U, U] [some (.cells [I 0, I 0] 59 .var)] ([I p, I q, U, U, pt 0 0, I (gcdE (if IntKind.i64.wrap (0 - p) > p then IntKind.i64.wrap (0 - p) else p) (q)), I 0, I q, (.bool (decide (q < 0))), U, U, U, U, I p, I p, I (IntKind.i64.wrap (0 - p)), I (if IntKind.i64.wrap (0 - p) > p then IntKind.i64.wrap (0 - p) else p), I q, w18, w19, w20, w21, w22, w23, U, U, U, U, U, U, U], [some (.cells [I 0, I 0] 59 .var)], none)) (q1 : aBin Tryz.prog .quo 3 (.tmp 24) (.tmp 25) (I p) (I (gcdE (if IntKind.i64.wrap (0 - p) > p then IntKind.i64.wrap (0 - p) else p) q)) = some (I (IntKind.i64.wrap (p.tdiv (gcdE (if IntKind.i64.wrap (0 - p) > p then IntKind.i64.wrap (0 - p) else p) q))))) (q2 : aBin Tryz.prog .quo 3 (.tmp 27) (.tmp 28) (I q) (I (gcdE (if IntKind.i64.wrap (0 - p) > p then IntKind.i64.wrap (0 - p) else p) q)) = some (I (IntKind.i64.wrap (q.tdiv (gcdE (if IntKind.i64.wrap (0 - p) > p then IntKind.i64.wrap (0 - p) else p) q))))) : Gives Tryz.prog envB 0 105 [I p, I q] [] ((.agg #[(I (IntKind.i64.wrap (p.tdiv (gcdE (if IntKind.i64.wrap (0 - p) > p then IntKind.i64.wrap (0 - p) else p) q)))), (I (IntKind.i64.wrap (q.tdiv (gcdE (if IntKind.i64.wrap (0 - p) > p then IntKind.i64.wrap (0 - p) else p) q))))]), []) :=
  Gives.by (n := 1000) (os := [.br 105 18 false, .run 105 0 [I p, I q, U, U, (pt 0 0), (I (gcdE (if IntKind.i64.wrap (0 - p) > p then IntKind.i64.wrap (0 - p) else p) q)), (I 0), I q, (.bool (decide (q < 0))), U, U, U, U, I p, I p, (I (IntKind.i64.wrap (0 - p))), (I (if IntKind.i64.wrap (0 - p) > p then IntKind.i64.wrap (0 - p) else p)), I q, w18, w19, w20, w21, w22, w23, U, U, U, U, U, U, U] [(.some (.cells [(I 0), (I 0)] 59 .var))], .op 105 27 (I (IntKind.i64.wrap (p.tdiv (gcdE (if IntKind.i64.wrap (0 - p) > p then IntKind.i64.wrap (0 - p) else p) q)))), .op 105 30 (I (IntKind.i64.wrap (q.tdiv (gcdE (if IntKind.i64.wrap (0 - p) > p then IntKind.i64.wrap (0 - p) else p) q))))]) (os' := []) (by kernel_rfl) (ObsOK.cond hq (ObsOK.run hrun (ObsOK.val q1 (ObsOK.val q2 (ObsOK.nil)))))
def rg_r0 (p : Int) (q : Int) (w18 : Value) (w19 : Value) (w20 : Value) (w21 : Value) (w22 : Value) (w23 : Value) : Int := (IntKind.i64.wrap (p.tdiv (gcdE (if IntKind.i64.wrap (0 - p) > p then IntKind.i64.wrap (0 - p) else p) q)))
def rg_r1 (p : Int) (q : Int) (w18 : Value) (w19 : Value) (w20 : Value) (w21 : Value) (w22 : Value) (w23 : Value) : Int := (IntKind.i64.wrap (q.tdiv (gcdE (if IntKind.i64.wrap (0 - p) > p then IntKind.i64.wrap (0 - p) else p) q)))
theorem rg_gives (p q : Int) (hq : decide (q < 0) = false) (w18 w19 w20 w21 w22 w23 : Value) (hrun : Runs Tryz.prog envB 0 [.code (blk 0 (bodyOf 105))] [I p, I q, U, U, pt 0 0, I (if IntKind.i64.wrap (0 - p) > p then IntKind.i64.wrap (0 - p) else p), I q, I q, (.bool (decide (q < 0))), U, U, U, U, I p, I p, I (IntKind.i64.wrap (0 - p)), I (if IntKind.i64.wrap (0 - p) > p then IntKind.i64.wrap (0 - p) else p), I q, U, U, U, U, U, U, U, U, U, U, U, U, U] [some (.cells [I 0, I 0] 59 .var)] ([I p, I q, U, U, pt 0 0, I (gcdE (if IntKind.i64.wrap (0 - p) > p then IntKind.i64.wrap (0 - p) else p) (q)), I 0, I q, (.bool (decide (q < 0))), U, U, U, U, I p, I p, I (IntKind.i64.wrap (0 - p)), I (if IntKind.i64.wrap (0 - p) > p then IntKind.i64.wrap (0 - p) else p), I q, w18, w19, w20, w21, w22, w23, U, U, U, U, U, U, U], [some (.cells [I 0, I 0] 59 .var)], none)) (q1 : aBin Tryz.prog .quo 3 (.tmp 24) (.tmp 25) (I p) (I (gcdE (if IntKind.i64.wrap (0 - p) > p then IntKind.i64.wrap (0 - p) else p) q)) = some (I (IntKind.i64.wrap (p.tdiv (gcdE (if IntKind.i64.wrap (0 - p) > p then IntKind.i64.wrap (0 - p) else p) q))))) (q2 : aBin Tryz.prog .quo 3 (.tmp 27) (.tmp 28) (I q) (I (gcdE (if IntKind.i64.wrap (0 - p) > p then IntKind.i64.wrap (0 - p) else p) q)) = some (I (IntKind.i64.wrap (q.tdiv (gcdE (if IntKind.i64.wrap (0 - p) > p then IntKind.i64.wrap (0 - p) else p) q))))) : Gives Tryz.prog envB 0 105 [I p, I q] [] ((.agg #[(I (rg_r0 p q w18 w19 w20 w21 w22 w23)), (I (rg_r1 p q w18 w19 w20 w21 w22 w23))]), []) := by
  simp only [rg_r0, rg_r1, cond_true, cond_false]; exact rg_p0 p q hq w18 w19 w20 w21 w22 w23 hrun q1 q2
end Go.Proofs.YtinkgnklhcjejaaGreat
/-
Ways to choose: what the program and the reference give.
-/
namespace Go.Proofs.YtinkgnklhcjejaaGreat
open Go Go.Abs
/-- Numbers of rounds. -/
def okC (k : Int) : Bool := decide (0 ≤ k ∧ k ≤ 1000000)
theorem g157 {n k : Int} (h : okC k = true) : Gives Tryz.prog envB 0 157 [I n, I k] heapN (I (chP n k), heapN) := by
  obtain ⟨h0, h1⟩ := of_decide_eq_true h
  obtain ⟨K, rfl⟩ := Int.eq_ofNat_of_zero_le h0
  obtain ⟨l', A', ⟨rfl, w6, w8, w9, w10, w11, w12, w13, w14, w15, w16, w17, w18, w19, rfl⟩, hr⟩ := ch_loop n K (I (K : Int)) (U) (U) (I 0) (U) h1 _ _ ⟨rfl, _, _, _, _, _, _, _, _, _, _, _, _, rfl⟩
  exact cg_p0 n K w6 w8 w9 w10 w11 w12 w13 w14 w15 w16 w17 w18 w19 (Runs.blkLoop (by kernel_rfl) hr)
theorem g109 {n k : Int} (h : okC k = true) : Gives Tryz.prog envB 0 109 [I n, I k] heapN (I (chR n k), heapN) := by
  obtain ⟨h0, h1⟩ := of_decide_eq_true h
  unfold chR
  by_cases h2 : k > n
  · rw [if_pos (.inr h2)]; exact b1_p0 n k (decide_eq_false (by omega)) (decide_eq_true h2)
  · rw [if_neg (by omega)]
    obtain ⟨K, rfl⟩ := Int.eq_ofNat_of_zero_le h0
    obtain ⟨l', A', ⟨rfl, w6, w14, w15, w16, w17, w18, w19, w20, w21, w22, w23, w24, w25, w26, rfl⟩, hr⟩ := bi_loop n K (U) (U) (I 0) (I (K : Int)) ((.bool (decide ((K : Int) < 0)))) ((.bool (decide ((K : Int) < 0)))) (I (K : Int)) (I n) ((.bool (decide ((K : Int) > n)))) ((.bool (decide ((K : Int) > n)))) (U) h1 _ _ ⟨rfl, _, _, _, _, _, _, _, _, _, _, _, _, _, rfl⟩
    exact bg_p0 n K (decide_eq_false (by omega)) (decide_eq_false h2) w6 w14 w15 w16 w17 w18 w19 w20 w21 w22 w23 w24 w25 w26 (Runs.blkLoop (by kernel_rfl) hr)
theorem known_gives {E : Env} {B : FuncId → List Value → Option (Heap × Value)} {lim : Nat} {f : FuncId} {args : List Value} {A H : Heap} {v : Value} {P : Program} (hB : B f args = some (H, v)) (ha : args.all freeB = true) (hv : freeB v = true) (hs : startsB H A = true) : Gives P (E.with (baseKnown B)) lim f args A (v, A) := by
  refine ⟨0, ?_⟩
  have : (E.with (baseKnown B)).known lim f args A = some (v, A) := by
    simp only [Env.with, baseKnown, hB, ha, hv, hs, Bool.and_self, if_true]
  simp only [aCall, aCallBy, this]
theorem g104 {p q : Int} (h : okL p q = true) : Gives Tryz.prog envB 0 104 [.agg #[I p, I q]] heapN (.agg #[I (lowN p q), I (lowD p q)], heapN) := by
  have h := of_decide_eq_true h
  have ha : ab_r0 p = (p.natAbs : Int) := absE (p := p) ⟨h.2.2.1, h.2.2.2⟩
  have hg : gcdE q (ab_r0 p) = (Int.gcd p q : Int) := by
    rw [ha, gcdE_eq (by omega) (by omega), Int.gcd_comm]
    simp [Int.gcd]
  obtain ⟨w10, w11, w12, w13, w14, w15, hr⟩ := lo_loop (.agg #[I p, I q]) (pt 0 0) (pt 1 0) (pt 0 1) (I q) (pt 0 0) (I p) (I (ab_r0 p)) (U) (U) (U) (U) (U) (U) (U) (U) (U) (some (.cells [I p, I q] 59 .var)) (some (.cells [I 0, I 0] 59 .var)) _ q (ab_r0 p) rfl (U) (U) (U) (U) (U) (U)
  have := lg_p0 p q w10 w11 w12 w13 w14 w15 (Runs.blkLoop (by kernel_rfl) hr) (by rw [hg]; exact aBin_quo (gcd_ne h.1)) (by rw [hg]; exact aBin_quo (gcd_ne h.1))
  rw [hg, tdivB ⟨h.2.2.1, h.2.2.2⟩, tdivB ⟨by omega, h.2.1⟩] at this
  exact this
theorem g105 {p q : Int} (h : okL p q = true) : Gives Tryz.prog envB 0 105 [I p, I q] heapN (.agg #[I (lowN p q), I (lowD p q)], heapN) := by
  have h := of_decide_eq_true h
  have ha := absE (p := p) ⟨h.2.2.1, h.2.2.2⟩
  have hg : gcdE (if IntKind.i64.wrap (0 - p) > p then IntKind.i64.wrap (0 - p) else p) q = (Int.gcd p q : Int) := by
    rw [ha, gcdE_eq (by omega) (by omega)]
    simp [Int.gcd]
  obtain ⟨w18, w19, w20, w21, w22, w23, hr⟩ := rl_loop (I p) (I q) (U) (U) (pt 0 0) (I q) ((.bool (decide (q < 0)))) (U) (U) (U) (U) (I p) (I p) (I (IntKind.i64.wrap (0 - p))) (I (if IntKind.i64.wrap (0 - p) > p then IntKind.i64.wrap (0 - p) else p)) (I q) (U) (U) (U) (U) (U) (U) (U) (some (.cells [I 0, I 0] 59 .var)) _ (if IntKind.i64.wrap (0 - p) > p then IntKind.i64.wrap (0 - p) else p) q rfl (U) (U) (U) (U) (U) (U)
  have := rg_p0 p q (decide_eq_false (by omega)) w18 w19 w20 w21 w22 w23 (Runs.blkLoop (by kernel_rfl) hr) (by rw [hg]; exact aBin_quo (gcd_ne h.1)) (by rw [hg]; exact aBin_quo (gcd_ne h.1))
  rw [hg, tdivB ⟨h.2.2.1, h.2.2.2⟩, tdivB ⟨by omega, h.2.1⟩] at this
  exact this
def B_envC (f : FuncId) (args : List Value) : Option (Heap × Value) :=
  if f == 157 then
    match args with
    | [.int .i64 n, .int .i64 k] => if okC k then some (heapN, .int .i64 (chP n k)) else none
    | _ => none
  else  if f == 109 then
    match args with
    | [.int .i64 n, .int .i64 k] => if okC k then some (heapN, .int .i64 (chR n k)) else none
    | _ => none
  else  if f == 104 then
    match args with
    | [.agg ⟨[.int .i64 p, .int .i64 q]⟩] => if okL p q then some (heapN, .agg #[.int .i64 (lowN p q), .int .i64 (lowD p q)]) else none
    | _ => none
  else  if f == 105 then
    match args with
    | [.int .i64 p, .int .i64 q] => if okL p q then some (heapN, .agg #[.int .i64 (lowN p q), .int .i64 (lowD p q)]) else none
    | _ => none
  else none
noncomputable def envC : Env := envB.with (baseKnown B_envC)
theorem envC_ok : EnvOK Tryz.prog 0 envC := env_base prog_ok envB_ok fun f args H v h => by
  unfold B_envC at h
  split at h
  · rename_i hf
    have hf : f = 157 := by simpa using hf
    subst hf
    split at h
    · split at h
      · rename_i hl; cases h; exact heapN_ok (g157 hl)
      · cases h
    · cases h
  · skip
    split at h
    · rename_i hf
      have hf : f = 109 := by simpa using hf
      subst hf
      split at h
      · split at h
        · rename_i hl; cases h; exact heapN_ok (g109 hl)
        · cases h
      · cases h
    · skip
      split at h
      · rename_i hf
        have hf : f = 104 := by simpa using hf
        subst hf
        split at h
        · split at h
          · rename_i hl; cases h; exact heapN_ok (g104 hl)
          · cases h
        · cases h
      · skip
        split at h
        · rename_i hf
          have hf : f = 105 := by simpa using hf
          subst hf
          split at h
          · split at h
            · rename_i hl; cases h; exact heapN_ok (g105 hl)
            · cases h
          · cases h
        · skip
          cases h
theorem u157 {n k : Int} (h : okC k = true) : ∀ (lim : Nat) (A : Heap), startsB heapN A = true → Gives Tryz.prog envC lim 157 [I n, I k] A (I (chP n k), A) := fun lim A hs =>
  known_gives (H := heapN) (by show (if okC k = true then _ else none) = _; rw [if_pos h]) rfl rfl hs
theorem u109 {n k : Int} (h : okC k = true) : ∀ (lim : Nat) (A : Heap), startsB heapN A = true → Gives Tryz.prog envC lim 109 [I n, I k] A (I (chR n k), A) := fun lim A hs =>
  known_gives (H := heapN) (by show (if okC k = true then _ else none) = _; rw [if_pos h]) rfl rfl hs
theorem u104 {p q : Int} (h : okL p q = true) : ∀ (lim : Nat) (A : Heap), startsB heapN A = true → Gives Tryz.prog envC lim 104 [.agg #[I p, I q]] A (.agg #[I (lowN p q), I (lowD p q)], A) := fun lim A hs =>
  known_gives (H := heapN) (by show (if okL p q = true then _ else none) = _; rw [if_pos h]) rfl rfl hs
theorem u105 {p q : Int} (h : okL p q = true) : ∀ (lim : Nat) (A : Heap), startsB heapN A = true → Gives Tryz.prog envC lim 105 [I p, I q] A (.agg #[I (lowN p q), I (lowD p q)], A) := fun lim A hs =>
  known_gives (H := heapN) (by show (if okL p q = true then _ else none) = _; rw [if_pos h]) rfl rfl hs
end Go.Proofs.YtinkgnklhcjejaaGreat
/-
Rounds of the loops that reckon a probability.
-/
namespace Go.Proofs.YtinkgnklhcjejaaGreat
open Go Go.Abs
theorem acA_p0 (v0 v3 v4 v6 v7 v8 v11 v12 v13 v14 v15 v16 v17 v18 v19 v20 v21 v22 v23 v24 v25 v26 v27 v28 v29 v30 v31 v32 v33 v34 v35 v36 : Value) (m : Int) (l s a d w i x y : Int) (r0 : Option ARow) (f1 : decide (i < m) = true) (hc1 : (∀ (lim : Nat) (A : Heap), startsB heapN A = true → Gives Tryz.prog envC lim 157 [I d, I i] A (I x, A))) (hc2 : (∀ (lim : Nat) (A : Heap), startsB heapN A = true → Gives Tryz.prog envC lim 157 [I (IntKind.i64.wrap (l - d)), I (IntKind.i64.wrap (s - i))] A (I y, A))) : Runs Tryz.prog envC 0 [.code (round 0 (bodyOf 106))] [v0, I d, pt 0 0, v3, v4, I w, v6, v7, v8, I m, I i, v11, v12, v13, v14, v15, v16, v17, v18, v19, v20, v21, v22, v23, v24, v25, v26, v27, v28, v29, v30, v31, v32, v33, v34, v35, v36] [some (.cells [I l, I s, I a] 74 .var), r0] ([v0, I d, (pt 0 0), v3, v4, (I (IntKind.i64.wrap (w + IntKind.i64.wrap (x * y)))), I i, v7, v8, I m, (I (IntKind.i64.wrap (i + 1))), (.bool (decide (i < m))), I i, I w, I d, I i, I x, (pt 0 0), I l, I d, (I (IntKind.i64.wrap (l - d))), (pt 0 1), I s, I i, (I (IntKind.i64.wrap (s - i))), I y, (I (IntKind.i64.wrap (x * y))), (I (IntKind.i64.wrap (w + IntKind.i64.wrap (x * y)))), (I (IntKind.i64.wrap (i + 1))), v29, v30, v31, v32, v33, v34, v35, v36], [(.some (.cells [I l, I s, I a] 74 .var)), r0], none) :=
  Runs.by (n := 1000) (fid := 106) (os := [.br 106 24 true, .opw 106 17 (I x) [(.some (.cells [I l, I s, I a] 74 .var)), r0], .opw 106 26 (I y) [(.some (.cells [I l, I s, I a] 74 .var)), r0]]) (os' := []) (by kernel_rfl) (ObsOK.cond f1 (ObsOK.call (hc1 2 [(.some (.cells [I l, I s, I a] 74 .var)), r0] (by kernel_rfl)) (ObsOK.call (hc2 2 [(.some (.cells [I l, I s, I a] 74 .var)), r0] (by kernel_rfl)) (ObsOK.nil))))
theorem acC_p0 (v0 v3 v4 v6 v7 v8 v11 v12 v13 v14 v15 v16 v17 v18 v19 v20 v21 v22 v23 v24 v25 v26 v27 v28 v29 v30 v31 v32 v33 v34 v35 v36 : Value) (m : Int) (l s a d w i x y : Int) (r0 : Option ARow) (f1 : decide (i < m) = false) : Runs Tryz.prog envC 0 [.code (round 0 (bodyOf 106)), .inLoop (round 0 (bodyOf 106)), .inBlock 0] [v0, I d, pt 0 0, v3, v4, I w, v6, v7, v8, I m, I i, v11, v12, v13, v14, v15, v16, v17, v18, v19, v20, v21, v22, v23, v24, v25, v26, v27, v28, v29, v30, v31, v32, v33, v34, v35, v36] [some (.cells [I l, I s, I a] 74 .var), r0] ([v0, I d, (pt 0 0), v3, v4, I w, v6, v7, v8, I m, I i, (.bool (decide (i < m))), v12, v13, v14, v15, v16, v17, v18, v19, v20, v21, v22, v23, v24, v25, v26, v27, v28, v29, v30, v31, v32, v33, v34, v35, v36], [(.some (.cells [I l, I s, I a] 74 .var)), r0], none) :=
  Runs.by (n := 1000) (fid := 106) (os := [.br 106 24 false]) (os' := []) (by kernel_rfl) (ObsOK.cond f1 (ObsOK.nil))
theorem raA_p0 (v0 v3 v4 v7 v8 v9 v10 v11 v12 v13 v14 v15 v16 v17 v18 v19 v20 v21 v22 v23 v24 v25 v26 v27 v28 v29 v30 v31 v32 v33 v34 : Value) (l s a d w i x y : Int) (r0 : Option ARow) (f1 : decide (i ≤ a) = true) (hc1 : (∀ (lim : Nat) (A : Heap), startsB heapN A = true → Gives Tryz.prog envC lim 109 [I d, I i] A (I x, A))) (hc2 : (∀ (lim : Nat) (A : Heap), startsB heapN A = true → Gives Tryz.prog envC lim 109 [I (IntKind.i64.wrap (l - d)), I (IntKind.i64.wrap (s - i))] A (I y, A))) : Runs Tryz.prog envC 0 [.code (round 0 (bodyOf 47))] [v0, I d, pt 0 0, v3, v4, I w, I i, v7, v8, v9, v10, v11, v12, v13, v14, v15, v16, v17, v18, v19, v20, v21, v22, v23, v24, v25, v26, v27, v28, v29, v30, v31, v32, v33, v34] [some (.cells [I l, I s, I a] 71 .var), r0] ([v0, I d, (pt 0 0), v3, v4, (I (IntKind.i64.wrap (w + IntKind.i64.wrap (x * y)))), (I (IntKind.i64.wrap (i + 1))), I i, (pt 0 2), I a, (.bool (decide (i ≤ a))), I i, (I (IntKind.i64.wrap (i + 1))), I w, I d, I i, I x, (pt 0 0), I l, I d, (I (IntKind.i64.wrap (l - d))), (pt 0 1), I s, I i, (I (IntKind.i64.wrap (s - i))), I y, (I (IntKind.i64.wrap (x * y))), (I (IntKind.i64.wrap (w + IntKind.i64.wrap (x * y)))), v28, v29, v30, v31, v32, v33, v34], [(.some (.cells [I l, I s, I a] 71 .var)), r0], none) :=
  Runs.by (n := 1000) (fid := 47) (os := [.br 47 22 true, .opw 47 17 (I x) [(.some (.cells [I l, I s, I a] 71 .var)), r0], .opw 47 26 (I y) [(.some (.cells [I l, I s, I a] 71 .var)), r0]]) (os' := []) (by kernel_rfl) (ObsOK.cond f1 (ObsOK.call (hc1 2 [(.some (.cells [I l, I s, I a] 71 .var)), r0] (by kernel_rfl)) (ObsOK.call (hc2 2 [(.some (.cells [I l, I s, I a] 71 .var)), r0] (by kernel_rfl)) (ObsOK.nil))))
theorem raC_p0 (v0 v3 v4 v7 v8 v9 v10 v11 v12 v13 v14 v15 v16 v17 v18 v19 v20 v21 v22 v23 v24 v25 v26 v27 v28 v29 v30 v31 v32 v33 v34 : Value) (l s a d w i x y : Int) (r0 : Option ARow) (f1 : decide (i ≤ a) = false) : Runs Tryz.prog envC 0 [.code (round 0 (bodyOf 47)), .inLoop (round 0 (bodyOf 47)), .inBlock 0] [v0, I d, pt 0 0, v3, v4, I w, I i, v7, v8, v9, v10, v11, v12, v13, v14, v15, v16, v17, v18, v19, v20, v21, v22, v23, v24, v25, v26, v27, v28, v29, v30, v31, v32, v33, v34] [some (.cells [I l, I s, I a] 71 .var), r0] ([v0, I d, (pt 0 0), v3, v4, I w, I i, I i, (pt 0 2), I a, (.bool (decide (i ≤ a))), v11, v12, v13, v14, v15, v16, v17, v18, v19, v20, v21, v22, v23, v24, v25, v26, v27, v28, v29, v30, v31, v32, v33, v34], [(.some (.cells [I l, I s, I a] 71 .var)), r0], none) :=
  Runs.by (n := 1000) (fid := 47) (os := [.br 47 22 false]) (os' := []) (by kernel_rfl) (ObsOK.cond f1 (ObsOK.nil))
end Go.Proofs.YtinkgnklhcjejaaGreat
/-
The loops that reckon a probability.
-/
namespace Go.Proofs.YtinkgnklhcjejaaGreat
open Go Go.Abs
theorem okC_nat {i : Nat} (h : (i : Int) ≤ 1000) : okC i = true := decide_eq_true (by omega)
theorem okC_sub {s : Int} {i : Nat} (h1 : (i : Int) ≤ s) (h2 : s ≤ 1000) : okC (IntKind.i64.wrap (s - i)) = true := by
  rw [wSmall (by omega) (by omega)]; exact decide_eq_true (by omega)
def ac_S (l s a d : Int) (M : Nat) (r0 : Option ARow) (v0 v3 v4 v7 v8 v29 v30 v31 v32 v33 v34 v35 v36 : Value) (jj : Nat) (lls : List Value) (hhp : Heap) : Prop := hhp = [some (.cells [I l, I s, I a] 74 .var), r0] ∧ ∃ v6 v11 v12 v13 v14 v15 v16 v17 v18 v19 v20 v21 v22 v23 v24 v25 v26 v27 v28 : Value, lls = [v0, I d, pt 0 0, v3, v4, I (accL chP l s d jj), v6, v7, v8, I (M : Int), I (jj : Int), v11, v12, v13, v14, v15, v16, v17, v18, v19, v20, v21, v22, v23, v24, v25, v26, v27, v28, v29, v30, v31, v32, v33, v34, v35, v36]
def ac_T (l s a d : Int) (M : Nat) (r0 : Option ARow) (v0 v3 v4 v7 v8 v29 v30 v31 v32 v33 v34 v35 v36 : Value) (lls : List Value) (hhp : Heap) : Prop := hhp = [some (.cells [I l, I s, I a] 74 .var), r0] ∧ ∃ v6 v10 v11 v12 v13 v14 v15 v16 v17 v18 v19 v20 v21 v22 v23 v24 v25 v26 v27 v28 : Value, lls = [v0, I d, pt 0 0, v3, v4, I (accL chP l s d M), v6, v7, v8, I (M : Int), v10, v11, v12, v13, v14, v15, v16, v17, v18, v19, v20, v21, v22, v23, v24, v25, v26, v27, v28, v29, v30, v31, v32, v33, v34, v35, v36]
theorem ac_loop (l s a d : Int) (M : Nat) (r0 : Option ARow) (v0 v3 v4 v7 v8 v29 v30 v31 v32 v33 v34 v35 v36 : Value) (hm : (M : Int) ≤ s) (hs : s ≤ 1000) : ∀ lls hhp, ac_S l s a d M r0 v0 v3 v4 v7 v8 v29 v30 v31 v32 v33 v34 v35 v36 0 lls hhp → ∃ lls' hhp', ac_T l s a d M r0 v0 v3 v4 v7 v8 v29 v30 v31 v32 v33 v34 v35 v36 lls' hhp' ∧ Runs Tryz.prog envC 0 [.inLoop (round 0 (bodyOf 106)), .inBlock 0] lls hhp (lls', hhp', none) := by
  refine fun lls hhp h => loop_seq (n := M) (ac_S l s a d M r0 v0 v3 v4 v7 v8 v29 v30 v31 v32 v33 v34 v35 v36) (ac_T l s a d M r0 v0 v3 v4 v7 v8 v29 v30 v31 v32 v33 v34 v35 v36) ?_ ?_ _ 0 (Nat.zero_add _) lls hhp h
  · rintro jj hjj lls hhp ⟨rfl, v6, v11, v12, v13, v14, v15, v16, v17, v18, v19, v20, v21, v22, v23, v24, v25, v26, v27, v28, rfl⟩
    have h := acA_p0 v0 v3 v4 v6 v7 v8 v11 v12 v13 v14 v15 v16 v17 v18 v19 v20 v21 v22 v23 v24 v25 v26 v27 v28 v29 v30 v31 v32 v33 v34 v35 v36 (M) (l) (s) (a) (d) (accL chP l s d jj) (jj) (chP d jj) (chP (IntKind.i64.wrap (l - d)) (IntKind.i64.wrap (s - jj))) (r0) (decide_eq_true (by omega)) (u157 (okC_nat (by omega))) (u157 (okC_sub (by omega) hs))
    rw [wrap_s (by omega)] at h
    exact ⟨_, _, ⟨rfl, _, _, _, _, _, _, _, _, _, _, _, _, _, _, _, _, _, _, _, rfl⟩, h⟩
  · rintro lls hhp ⟨rfl, v6, v11, v12, v13, v14, v15, v16, v17, v18, v19, v20, v21, v22, v23, v24, v25, v26, v27, v28, rfl⟩
    have h := acC_p0 v0 v3 v4 v6 v7 v8 v11 v12 v13 v14 v15 v16 v17 v18 v19 v20 v21 v22 v23 v24 v25 v26 v27 v28 v29 v30 v31 v32 v33 v34 v35 v36 (M) (l) (s) (a) (d) (accL chP l s d M) (M) (chP d M) (chP (IntKind.i64.wrap (l - d)) (IntKind.i64.wrap (s - M))) (r0) (decide_eq_false (by omega))
    exact ⟨_, _, ⟨rfl, _, _, _, _, _, _, _, _, _, _, _, _, _, _, _, _, _, _, _, _, rfl⟩, h⟩
def rc_S (l s a d : Int) (M : Nat) (r0 : Option ARow) (v0 v3 v4 v28 v29 v30 v31 v32 v33 v34 : Value) (jj : Nat) (lls : List Value) (hhp : Heap) : Prop := hhp = [some (.cells [I l, I s, I a] 71 .var), r0] ∧ ∃ v7 v8 v9 v10 v11 v12 v13 v14 v15 v16 v17 v18 v19 v20 v21 v22 v23 v24 v25 v26 v27 : Value, lls = [v0, I d, pt 0 0, v3, v4, I (accL chR l s d jj), I (jj : Int), v7, v8, v9, v10, v11, v12, v13, v14, v15, v16, v17, v18, v19, v20, v21, v22, v23, v24, v25, v26, v27, v28, v29, v30, v31, v32, v33, v34]
def rc_T (l s a d : Int) (M : Nat) (r0 : Option ARow) (v0 v3 v4 v28 v29 v30 v31 v32 v33 v34 : Value) (lls : List Value) (hhp : Heap) : Prop := hhp = [some (.cells [I l, I s, I a] 71 .var), r0] ∧ ∃ v6 v7 v8 v9 v10 v11 v12 v13 v14 v15 v16 v17 v18 v19 v20 v21 v22 v23 v24 v25 v26 v27 : Value, lls = [v0, I d, pt 0 0, v3, v4, I (accL chR l s d M), v6, v7, v8, v9, v10, v11, v12, v13, v14, v15, v16, v17, v18, v19, v20, v21, v22, v23, v24, v25, v26, v27, v28, v29, v30, v31, v32, v33, v34]
theorem rc_loop (l s a d : Int) (M : Nat) (r0 : Option ARow) (v0 v3 v4 v28 v29 v30 v31 v32 v33 v34 : Value) (hm : (M : Int) ≤ s) (hs : s ≤ 1000) (ha : a + 1 = M) : ∀ lls hhp, rc_S l s a d M r0 v0 v3 v4 v28 v29 v30 v31 v32 v33 v34 0 lls hhp → ∃ lls' hhp', rc_T l s a d M r0 v0 v3 v4 v28 v29 v30 v31 v32 v33 v34 lls' hhp' ∧ Runs Tryz.prog envC 0 [.inLoop (round 0 (bodyOf 47)), .inBlock 0] lls hhp (lls', hhp', none) := by
  refine fun lls hhp h => loop_seq (n := M) (rc_S l s a d M r0 v0 v3 v4 v28 v29 v30 v31 v32 v33 v34) (rc_T l s a d M r0 v0 v3 v4 v28 v29 v30 v31 v32 v33 v34) ?_ ?_ _ 0 (Nat.zero_add _) lls hhp h
  · rintro jj hjj lls hhp ⟨rfl, v7, v8, v9, v10, v11, v12, v13, v14, v15, v16, v17, v18, v19, v20, v21, v22, v23, v24, v25, v26, v27, rfl⟩
    have h := raA_p0 v0 v3 v4 v7 v8 v9 v10 v11 v12 v13 v14 v15 v16 v17 v18 v19 v20 v21 v22 v23 v24 v25 v26 v27 v28 v29 v30 v31 v32 v33 v34 (l) (s) (a) (d) (accL chR l s d jj) (jj) (chR d jj) (chR (IntKind.i64.wrap (l - d)) (IntKind.i64.wrap (s - jj))) (r0) (decide_eq_true (by omega)) (u109 (okC_nat (by omega))) (u109 (okC_sub (by omega) hs))
    rw [wrap_s (by omega)] at h
    exact ⟨_, _, ⟨rfl, _, _, _, _, _, _, _, _, _, _, _, _, _, _, _, _, _, _, _, _, _, rfl⟩, h⟩
  · rintro lls hhp ⟨rfl, v7, v8, v9, v10, v11, v12, v13, v14, v15, v16, v17, v18, v19, v20, v21, v22, v23, v24, v25, v26, v27, rfl⟩
    have h := raC_p0 v0 v3 v4 v7 v8 v9 v10 v11 v12 v13 v14 v15 v16 v17 v18 v19 v20 v21 v22 v23 v24 v25 v26 v27 v28 v29 v30 v31 v32 v33 v34 (l) (s) (a) (d) (accL chR l s d M) (M) (chR d M) (chR (IntKind.i64.wrap (l - d)) (IntKind.i64.wrap (s - M))) (r0) (decide_eq_false (by omega))
    exact ⟨_, _, ⟨rfl, _, _, _, _, _, _, _, _, _, _, _, _, _, _, _, _, _, _, _, _, _, _, rfl⟩, h⟩
end Go.Proofs.YtinkgnklhcjejaaGreat
/-
A probability.
-/
namespace Go.Proofs.YtinkgnklhcjejaaGreat
open Go Go.Abs
theorem ag_p0 (l s a d : Int) (M : Nat) (x y z : Int) (w6 w10 w11 w12 w13 w14 w15 w16 w17 w18 w19 w20 w21 w22 w23 w24 w25 w26 w27 w28 : Value) (hrun : Runs Tryz.prog envC 0 [.code (blk 0 (bodyOf 106))] [.agg #[I l, I s, I a], I d, pt 0 0, U, pt 1 0, I 0, U, pt 0 2, I a, I (IntKind.i64.wrap (a + 1)), I 0, U, U, U, U, U, U, U, U, U, U, U, U, U, U, U, U, U, U, U, U, U, U, U, U, U, U] [some (.cells [I l, I s, I a] 74 .var), some (.cells [I 0, I 0] 59 .var)] ([.agg #[I l, I s, I a], I d, pt 0 0, U, pt 1 0, I (accL chP l s d M), w6, pt 0 2, I a, I (IntKind.i64.wrap (a + 1)), w10, w11, w12, w13, w14, w15, w16, w17, w18, w19, w20, w21, w22, w23, w24, w25, w26, w27, w28, U, U, U, U, U, U, U, U], [some (.cells [I l, I s, I a] 74 .var), some (.cells [I 0, I 0] 59 .var)], none)) (hc : ∀ (lim : Nat) (A : Heap), startsB heapN A = true → Gives Tryz.prog envC lim 157 [I l, I s] A (I x, A)) (hl : ∀ (lim : Nat) (A : Heap), startsB heapN A = true → Gives Tryz.prog envC lim 104 [.agg #[I (accL chP l s d M), I x]] A (.agg #[I y, I z], A)) : Gives Tryz.prog envC 0 106 [.agg #[I l, I s, I a], I d] [] ((.agg #[I y, I z]), []) :=
  Gives.by (n := 1000) (os := [.run 106 0 [(.agg #[I l, I s, I a]), I d, (pt 0 0), U, (pt 1 0), (I (accL chP l s d M)), w6, (pt 0 2), I a, (I (IntKind.i64.wrap (a + 1))), w10, w11, w12, w13, w14, w15, w16, w17, w18, w19, w20, w21, w22, w23, w24, w25, w26, w27, w28, U, U, U, U, U, U, U, U] [(.some (.cells [I l, I s, I a] 74 .var)), (.some (.cells [(I 0), (I 0)] 59 .var))], .opw 106 35 (I x) [(.some (.cells [I l, I s, I a] 74 .var)), (.some (.cells [(I 0), (I 0)] 59 .var))], .opw 106 37 (.agg #[I y, I z]) [(.some (.cells [I l, I s, I a] 74 .var)), (.some (.cells [(I 0), (I 0)] 59 .var))]]) (os' := []) (by kernel_rfl) (ObsOK.run hrun (ObsOK.call (hc 0 [(.some (.cells [I l, I s, I a] 74 .var)), (.some (.cells [(I 0), (I 0)] 59 .var))] (by kernel_rfl)) (ObsOK.call (hl 0 [(.some (.cells [I l, I s, I a] 74 .var)), (.some (.cells [(I 0), (I 0)] 59 .var))] (by kernel_rfl)) (ObsOK.nil))))
theorem ag_gives (l s a d : Int) (M : Nat) (x y z : Int) (w6 w10 w11 w12 w13 w14 w15 w16 w17 w18 w19 w20 w21 w22 w23 w24 w25 w26 w27 w28 : Value) (hrun : Runs Tryz.prog envC 0 [.code (blk 0 (bodyOf 106))] [.agg #[I l, I s, I a], I d, pt 0 0, U, pt 1 0, I 0, U, pt 0 2, I a, I (IntKind.i64.wrap (a + 1)), I 0, U, U, U, U, U, U, U, U, U, U, U, U, U, U, U, U, U, U, U, U, U, U, U, U, U, U] [some (.cells [I l, I s, I a] 74 .var), some (.cells [I 0, I 0] 59 .var)] ([.agg #[I l, I s, I a], I d, pt 0 0, U, pt 1 0, I (accL chP l s d M), w6, pt 0 2, I a, I (IntKind.i64.wrap (a + 1)), w10, w11, w12, w13, w14, w15, w16, w17, w18, w19, w20, w21, w22, w23, w24, w25, w26, w27, w28, U, U, U, U, U, U, U, U], [some (.cells [I l, I s, I a] 74 .var), some (.cells [I 0, I 0] 59 .var)], none)) (hc : ∀ (lim : Nat) (A : Heap), startsB heapN A = true → Gives Tryz.prog envC lim 157 [I l, I s] A (I x, A)) (hl : ∀ (lim : Nat) (A : Heap), startsB heapN A = true → Gives Tryz.prog envC lim 104 [.agg #[I (accL chP l s d M), I x]] A (.agg #[I y, I z], A)) : Gives Tryz.prog envC 0 106 [.agg #[I l, I s, I a], I d] [] ((.agg #[(I y), (I z)]), []) := by
  exact ag_p0 l s a d M x y z w6 w10 w11 w12 w13 w14 w15 w16 w17 w18 w19 w20 w21 w22 w23 w24 w25 w26 w27 w28 hrun hc hl
theorem rg2_p0 (l s a d : Int) (M : Nat) (x y z : Int) (w6 w7 w8 w9 w10 w11 w12 w13 w14 w15 w16 w17 w18 w19 w20 w21 w22 w23 w24 w25 w26 w27 : Value) (hrun : Runs Tryz.prog envC 0 [.code (blk 0 (bodyOf 47))] [.agg #[I l, I s, I a], I d, pt 0 0, U, pt 1 0, I 0, I 0, U, U, U, U, U, U, U, U, U, U, U, U, U, U, U, U, U, U, U, U, U, U, U, U, U, U, U, U] [some (.cells [I l, I s, I a] 71 .var), some (.cells [I 0, I 0] 59 .var)] ([.agg #[I l, I s, I a], I d, pt 0 0, U, pt 1 0, I (accL chR l s d M), w6, w7, w8, w9, w10, w11, w12, w13, w14, w15, w16, w17, w18, w19, w20, w21, w22, w23, w24, w25, w26, w27, U, U, U, U, U, U, U], [some (.cells [I l, I s, I a] 71 .var), some (.cells [I 0, I 0] 59 .var)], none)) (hc : ∀ (lim : Nat) (A : Heap), startsB heapN A = true → Gives Tryz.prog envC lim 109 [I l, I s] A (I x, A)) (hl : ∀ (lim : Nat) (A : Heap), startsB heapN A = true → Gives Tryz.prog envC lim 105 [I (accL chR l s d M), I x] A (.agg #[I y, I z], A)) : Gives Tryz.prog envC 0 47 [.agg #[I l, I s, I a], I d] [] ((.agg #[I y, I z]), []) :=
  Gives.by (n := 1000) (os := [.run 47 0 [(.agg #[I l, I s, I a]), I d, (pt 0 0), U, (pt 1 0), (I (accL chR l s d M)), w6, w7, w8, w9, w10, w11, w12, w13, w14, w15, w16, w17, w18, w19, w20, w21, w22, w23, w24, w25, w26, w27, U, U, U, U, U, U, U] [(.some (.cells [I l, I s, I a] 71 .var)), (.some (.cells [(I 0), (I 0)] 59 .var))], .opw 47 34 (I x) [(.some (.cells [I l, I s, I a] 71 .var)), (.some (.cells [(I 0), (I 0)] 59 .var))], .opw 47 35 (.agg #[I y, I z]) [(.some (.cells [I l, I s, I a] 71 .var)), (.some (.cells [(I 0), (I 0)] 59 .var))]]) (os' := []) (by kernel_rfl) (ObsOK.run hrun (ObsOK.call (hc 0 [(.some (.cells [I l, I s, I a] 71 .var)), (.some (.cells [(I 0), (I 0)] 59 .var))] (by kernel_rfl)) (ObsOK.call (hl 0 [(.some (.cells [I l, I s, I a] 71 .var)), (.some (.cells [(I 0), (I 0)] 59 .var))] (by kernel_rfl)) (ObsOK.nil))))
theorem rg2_gives (l s a d : Int) (M : Nat) (x y z : Int) (w6 w7 w8 w9 w10 w11 w12 w13 w14 w15 w16 w17 w18 w19 w20 w21 w22 w23 w24 w25 w26 w27 : Value) (hrun : Runs Tryz.prog envC 0 [.code (blk 0 (bodyOf 47))] [.agg #[I l, I s, I a], I d, pt 0 0, U, pt 1 0, I 0, I 0, U, U, U, U, U, U, U, U, U, U, U, U, U, U, U, U, U, U, U, U, U, U, U, U, U, U, U, U] [some (.cells [I l, I s, I a] 71 .var), some (.cells [I 0, I 0] 59 .var)] ([.agg #[I l, I s, I a], I d, pt 0 0, U, pt 1 0, I (accL chR l s d M), w6, w7, w8, w9, w10, w11, w12, w13, w14, w15, w16, w17, w18, w19, w20, w21, w22, w23, w24, w25, w26, w27, U, U, U, U, U, U, U], [some (.cells [I l, I s, I a] 71 .var), some (.cells [I 0, I 0] 59 .var)], none)) (hc : ∀ (lim : Nat) (A : Heap), startsB heapN A = true → Gives Tryz.prog envC lim 109 [I l, I s] A (I x, A)) (hl : ∀ (lim : Nat) (A : Heap), startsB heapN A = true → Gives Tryz.prog envC lim 105 [I (accL chR l s d M), I x] A (.agg #[I y, I z], A)) : Gives Tryz.prog envC 0 47 [.agg #[I l, I s, I a], I d] [] ((.agg #[(I y), (I z)]), []) := by
  exact rg2_p0 l s a d M x y z w6 w7 w8 w9 w10 w11 w12 w13 w14 w15 w16 w17 w18 w19 w20 w21 w22 w23 w24 w25 w26 w27 hrun hc hl
end Go.Proofs.YtinkgnklhcjejaaGreat
/-
A probability: what the program and the reference give.
-/
namespace Go.Proofs.YtinkgnklhcjejaaGreat
open Go Go.Abs
/-- A plan and a number of defects that are in their ranges. -/
def okA (l s a d : Int) : Bool := decide (1 ≤ l ∧ l ≤ 30 ∧ 1 ≤ s ∧ s ≤ l ∧ 0 ≤ a ∧ a + 1 ≤ s ∧ 0 ≤ d ∧ d ≤ l)
/-- The probability's numerator and denominator. -/
def apW (l s a d : Int) : Int := accL chR l s d (a + 1).toNat
def apN (l s a d : Int) : Int := lowN (apW l s a d) (chR l s)
def apD (l s a d : Int) : Int := lowD (apW l s a d) (chR l s)
theorem okA_low {l s a d : Int} (h : okA l s a d = true) : okL (apW l s a d) (chR l s) = true ∧ accL chP l s d (a + 1).toNat = apW l s a d ∧ chP l s = chR l s ∧ 0 ≤ apW l s a d := by
  obtain ⟨h1, h2, h3, h4, h5, h6, h7, h8⟩ := of_decide_eq_true h
  obtain ⟨g1, g2, g3⟩ := acc_eq (l := l) (s := s) (d := d) ⟨h1, h2⟩ ⟨h3, h4⟩ ⟨h7, h8⟩ (a + 1).toNat (by omega)
  obtain ⟨c1, c2, c3, c4⟩ := ch_grid (n := l) (k := s) ⟨by omega, h2⟩ ⟨by omega, by omega⟩
  have c5 := c4 h4
  have : ((a + 1).toNat : Int) ≤ 30 := by omega
  refine ⟨decide_eq_true ?_, g1, c1, g2⟩
  unfold apW
  generalize accL chR l s d (a + 1).toNat = t at *
  omega
theorem g106 {l s a d : Int} (h : okA l s a d = true) : Gives Tryz.prog envC 0 106 [.agg #[I l, I s, I a], I d] heapN (.agg #[I (apN l s a d), I (apD l s a d)], heapN) := by
  obtain ⟨e1, e2, e3, e4⟩ := okA_low h
  obtain ⟨h1, h2, h3, h4, h5, h6, h7, h8⟩ := of_decide_eq_true h
  have hM : IntKind.i64.wrap (a + 1) = ((a + 1).toNat : Int) := by rw [wSmall (by omega) (by omega)]; omega
  obtain ⟨l', A', ⟨rfl, w6, w10, w11, w12, w13, w14, w15, w16, w17, w18, w19, w20, w21, w22, w23, w24, w25, w26, w27, w28, rfl⟩, hr⟩ := ac_loop l s a d (a + 1).toNat (some (.cells [I 0, I 0] 59 .var)) (.agg #[I l, I s, I a]) (U) (pt 1 0) (pt 0 2) (I a) (U) (U) (U) (U) (U) (U) (U) (U) (by omega) (by omega) _ _ ⟨rfl, _, _, _, _, _, _, _, _, _, _, _, _, _, _, _, _, _, _, _, rfl⟩
  have := ag_p0 l s a d (a + 1).toNat (chR l s) (apN l s a d) (apD l s a d) w6 w10 w11 w12 w13 w14 w15 w16 w17 w18 w19 w20 w21 w22 w23 w24 w25 w26 w27 w28 (by rw [hM]; exact Runs.blkLoop (by kernel_rfl) hr) (by rw [← e3]; exact u157 (decide_eq_true (by omega))) (by rw [e2]; exact u104 e1)
  exact this
theorem g47 {l s a d : Int} (h : okA l s a d = true) : Gives Tryz.prog envC 0 47 [.agg #[I l, I s, I a], I d] heapN (.agg #[I (apN l s a d), I (apD l s a d)], heapN) := by
  obtain ⟨e1, e2, e3, e4⟩ := okA_low h
  obtain ⟨h1, h2, h3, h4, h5, h6, h7, h8⟩ := of_decide_eq_true h
  obtain ⟨l', A', ⟨rfl, w6, w7, w8, w9, w10, w11, w12, w13, w14, w15, w16, w17, w18, w19, w20, w21, w22, w23, w24, w25, w26, w27, rfl⟩, hr⟩ := rc_loop l s a d (a + 1).toNat (some (.cells [I 0, I 0] 59 .var)) (.agg #[I l, I s, I a]) (U) (pt 1 0) (U) (U) (U) (U) (U) (U) (U) (by omega) (by omega) (by omega) _ _ ⟨rfl, _, _, _, _, _, _, _, _, _, _, _, _, _, _, _, _, _, _, _, _, _, rfl⟩
  exact rg2_p0 l s a d (a + 1).toNat (chR l s) (apN l s a d) (apD l s a d) w6 w7 w8 w9 w10 w11 w12 w13 w14 w15 w16 w17 w18 w19 w20 w21 w22 w23 w24 w25 w26 w27 (Runs.blkLoop (by kernel_rfl) hr) (u109 (decide_eq_true (by omega))) (u105 e1)
def B_envD (f : FuncId) (args : List Value) : Option (Heap × Value) :=
  if f == 106 then
    match args with
    | [.agg ⟨[.int .i64 l, .int .i64 s, .int .i64 a]⟩, .int .i64 d] => if okA l s a d then some (heapN, .agg #[.int .i64 (apN l s a d), .int .i64 (apD l s a d)]) else none
    | _ => none
  else  if f == 47 then
    match args with
    | [.agg ⟨[.int .i64 l, .int .i64 s, .int .i64 a]⟩, .int .i64 d] => if okA l s a d then some (heapN, .agg #[.int .i64 (apN l s a d), .int .i64 (apD l s a d)]) else none
    | _ => none
  else none
noncomputable def envD : Env := envC.with (baseKnown B_envD)
theorem envD_ok : EnvOK Tryz.prog 0 envD := env_base prog_ok envC_ok fun f args H v h => by
  unfold B_envD at h
  split at h
  · rename_i hf
    have hf : f = 106 := by simpa using hf
    subst hf
    split at h
    · split at h
      · rename_i hl; cases h; exact heapN_ok (g106 hl)
      · cases h
    · cases h
  · skip
    split at h
    · rename_i hf
      have hf : f = 47 := by simpa using hf
      subst hf
      split at h
      · split at h
        · rename_i hl; cases h; exact heapN_ok (g47 hl)
        · cases h
      · cases h
    · skip
      cases h
theorem u106 {l s a d : Int} (h : okA l s a d = true) : ∀ (lim : Nat) (A : Heap), startsB heapN A = true → Gives Tryz.prog envD lim 106 [.agg #[I l, I s, I a], I d] A (.agg #[I (apN l s a d), I (apD l s a d)], A) := fun lim A hs =>
  known_gives (H := heapN) (by show (if okA l s a d = true then _ else none) = _; rw [if_pos h]) rfl rfl hs
theorem u47 {l s a d : Int} (h : okA l s a d = true) : ∀ (lim : Nat) (A : Heap), startsB heapN A = true → Gives Tryz.prog envD lim 47 [.agg #[I l, I s, I a], I d] A (.agg #[I (apN l s a d), I (apD l s a d)], A) := fun lim A hs =>
  known_gives (H := heapN) (by show (if okA l s a d = true then _ else none) = _; rw [if_pos h]) rfl rfl hs
end Go.Proofs.YtinkgnklhcjejaaGreat
/-
Risks, acceptances.
-/
namespace Go.Proofs.YtinkgnklhcjejaaGreat
open Go Go.Abs
theorem rk_p0 (l s a g b x y x2 y2 : Int) (h1 : ∀ (lim : Nat) (A : Heap), startsB heapN A = true → Gives Tryz.prog envD lim 106 [.agg #[I l, I s, I a], I g] A (.agg #[I x, I y], A)) (h2 : ∀ (lim : Nat) (A : Heap), startsB heapN A = true → Gives Tryz.prog envD lim 106 [.agg #[I l, I s, I a], I b] A (.agg #[I x2, I y2], A)) : Gives Tryz.prog envD 0 108 [.agg #[I l, I s, I a], I g, I b] [] ((.agg #[(I (IntKind.i64.wrap (y - x))), I y, I x2, I y2]), []) :=
  Gives.by (n := 1000) (os := [.opw 108 12 (.agg #[I x, I y]) [(.some (.cells [I l, I s, I a] 74 .var)), (.some (.cells [(I 0), (I 0), (I 0), (I 0)] 75 .var))], .opw 108 24 (.agg #[I x2, I y2]) [(.some (.cells [I l, I s, I a] 74 .var)), (.some (.cells [(I 0), (I 0), (I 0), (I 0)] 75 .var)), (.some (.cells [I x, I y] 59 .var)), (.some (.cells [(I (IntKind.i64.wrap (y - x))), I y] 59 .var))]]) (os' := []) (by kernel_rfl) (ObsOK.call (h1 0 [(.some (.cells [I l, I s, I a] 74 .var)), (.some (.cells [(I 0), (I 0), (I 0), (I 0)] 75 .var))] (by kernel_rfl)) (ObsOK.call (h2 4 [(.some (.cells [I l, I s, I a] 74 .var)), (.some (.cells [(I 0), (I 0), (I 0), (I 0)] 75 .var)), (.some (.cells [I x, I y] 59 .var)), (.some (.cells [(I (IntKind.i64.wrap (y - x))), I y] 59 .var))] (by kernel_rfl)) (ObsOK.nil)))
def rk_r0 (l : Int) (s : Int) (a : Int) (g : Int) (b : Int) (x : Int) (y : Int) (x2 : Int) (y2 : Int) : Int := (IntKind.i64.wrap (y - x))
theorem rk_gives (l s a g b x y x2 y2 : Int) (h1 : ∀ (lim : Nat) (A : Heap), startsB heapN A = true → Gives Tryz.prog envD lim 106 [.agg #[I l, I s, I a], I g] A (.agg #[I x, I y], A)) (h2 : ∀ (lim : Nat) (A : Heap), startsB heapN A = true → Gives Tryz.prog envD lim 106 [.agg #[I l, I s, I a], I b] A (.agg #[I x2, I y2], A)) : Gives Tryz.prog envD 0 108 [.agg #[I l, I s, I a], I g, I b] [] ((.agg #[(I (rk_r0 l s a g b x y x2 y2)), (I y), (I x2), (I y2)]), []) := by
  simp only [rk_r0, cond_true, cond_false]; exact rk_p0 l s a g b x y x2 y2 h1 h2
theorem rr_p0 (l s a g b x y x2 y2 : Int) (h1 : ∀ (lim : Nat) (A : Heap), startsB heapN A = true → Gives Tryz.prog envD lim 47 [.agg #[I l, I s, I a], I g] A (.agg #[I x, I y], A)) (h2 : ∀ (lim : Nat) (A : Heap), startsB heapN A = true → Gives Tryz.prog envD lim 47 [.agg #[I l, I s, I a], I b] A (.agg #[I x2, I y2], A)) : Gives Tryz.prog envD 0 48 [.agg #[I l, I s, I a], I g, I b] [] ((.agg #[(I (IntKind.i64.wrap (y - x))), I y, I x2, I y2]), []) :=
  Gives.by (n := 1000) (os := [.opw 48 11 (.agg #[I x, I y]) [(.some (.cells [I l, I s, I a] 71 .var)), (.some (.cells [(I 0), (I 0), (I 0), (I 0)] 75 .var))], .opw 48 22 (.agg #[I x2, I y2]) [(.some (.cells [I l, I s, I a] 71 .var)), (.some (.cells [(I 0), (I 0), (I 0), (I 0)] 75 .var)), (.some (.cells [I x, I y] 59 .var))]]) (os' := []) (by kernel_rfl) (ObsOK.call (h1 0 [(.some (.cells [I l, I s, I a] 71 .var)), (.some (.cells [(I 0), (I 0), (I 0), (I 0)] 75 .var))] (by kernel_rfl)) (ObsOK.call (h2 3 [(.some (.cells [I l, I s, I a] 71 .var)), (.some (.cells [(I 0), (I 0), (I 0), (I 0)] 75 .var)), (.some (.cells [I x, I y] 59 .var))] (by kernel_rfl)) (ObsOK.nil)))
def rr_r0 (l : Int) (s : Int) (a : Int) (g : Int) (b : Int) (x : Int) (y : Int) (x2 : Int) (y2 : Int) : Int := (IntKind.i64.wrap (y - x))
theorem rr_gives (l s a g b x y x2 y2 : Int) (h1 : ∀ (lim : Nat) (A : Heap), startsB heapN A = true → Gives Tryz.prog envD lim 47 [.agg #[I l, I s, I a], I g] A (.agg #[I x, I y], A)) (h2 : ∀ (lim : Nat) (A : Heap), startsB heapN A = true → Gives Tryz.prog envD lim 47 [.agg #[I l, I s, I a], I b] A (.agg #[I x2, I y2], A)) : Gives Tryz.prog envD 0 48 [.agg #[I l, I s, I a], I g, I b] [] ((.agg #[(I (rr_r0 l s a g b x y x2 y2)), (I y), (I x2), (I y2)]), []) := by
  simp only [rr_r0, cond_true, cond_false]; exact rr_p0 l s a g b x y x2 y2 h1 h2
theorem ac1_p0 (l s a g : Int) (h1 : (cp_r0 l s a != 0) = true) : Gives Tryz.prog envD 0 42 [.agg #[I l, I s, I a], I g] [] ((.tuple #[(.agg #[(I 0), (I 0)]), (I (cp_r0 l s a))]), []) :=
  Gives.by (n := 1000) (os := [.br 86 26 true, .br 42 34 true]) (os' := []) (by kernel_rfl) (ObsOK.cond h1 (ObsOK.cond h1 (ObsOK.nil)))
def ac1_r2 (l : Int) (s : Int) (a : Int) (g : Int) : Int := (cp_r0 l s a)
theorem ac1_gives (l s a g : Int) (h1 : (cp_r0 l s a != 0) = true) : Gives Tryz.prog envD 0 42 [.agg #[I l, I s, I a], I g] [] ((.tuple #[(.agg #[(I 0), (I 0)]), (I (ac1_r2 l s a g))]), []) := by
  simp only [ac1_r2, cond_true, cond_false]; exact ac1_p0 l s a g h1
theorem ac2_p0 (l s a g : Int) (h1 : (cp_r0 l s a != 0) = false) (h2 : (cr_r0 g 0 l != 0) = true) : Gives Tryz.prog envD 0 42 [.agg #[I l, I s, I a], I g] [] ((.tuple #[(.agg #[(I 0), (I 0)]), (I (cr_r0 g 0 l))]), []) :=
  Gives.by (n := 1000) (os := [.br 86 26 false, .br 86 26 true, .br 42 34 true]) (os' := []) (by kernel_rfl) (ObsOK.cond h1 (ObsOK.cond h2 (ObsOK.cond h2 (ObsOK.nil))))
def ac2_r2 (l : Int) (s : Int) (a : Int) (g : Int) : Int := (cr_r0 g 0 l)
theorem ac2_gives (l s a g : Int) (h1 : (cp_r0 l s a != 0) = false) (h2 : (cr_r0 g 0 l != 0) = true) : Gives Tryz.prog envD 0 42 [.agg #[I l, I s, I a], I g] [] ((.tuple #[(.agg #[(I 0), (I 0)]), (I (ac2_r2 l s a g))]), []) := by
  simp only [ac2_r2, cond_true, cond_false]; exact ac2_p0 l s a g h1 h2
theorem ac3_p0 (l s a g x y : Int) (h1 : (cp_r0 l s a != 0) = false) (h2 : (cr_r0 g 0 l != 0) = false) (h3 : ∀ (lim : Nat) (A : Heap), startsB heapN A = true → Gives Tryz.prog envD lim 106 [.agg #[I l, I s, I a], I g] A (.agg #[I x, I y], A)) : Gives Tryz.prog envD 0 42 [.agg #[I l, I s, I a], I g] [] ((.tuple #[(.agg #[I x, I y]), (I 0)]), []) :=
  Gives.by (n := 1000) (os := [.br 86 26 false, .br 86 26 false, .opw 42 22 (.agg #[I x, I y]) [(.some (.cells [I l, I s, I a] 74 .var)), (.some (.cells [(I 0), (I 0)] 59 .var)), (.some (.cells [(I (cp_r0 l s a)), (I (cr_r0 g 0 l))] 31 .row))]]) (os' := []) (by kernel_rfl) (ObsOK.cond h1 (ObsOK.cond h2 (ObsOK.call (h3 0 [(.some (.cells [I l, I s, I a] 74 .var)), (.some (.cells [(I 0), (I 0)] 59 .var)), (.some (.cells [(I (cp_r0 l s a)), (I (cr_r0 g 0 l))] 31 .row))] (by kernel_rfl)) (ObsOK.nil))))
theorem ac3_gives (l s a g x y : Int) (h1 : (cp_r0 l s a != 0) = false) (h2 : (cr_r0 g 0 l != 0) = false) (h3 : ∀ (lim : Nat) (A : Heap), startsB heapN A = true → Gives Tryz.prog envD lim 106 [.agg #[I l, I s, I a], I g] A (.agg #[I x, I y], A)) : Gives Tryz.prog envD 0 42 [.agg #[I l, I s, I a], I g] [] ((.tuple #[(.agg #[(I x), (I y)]), (I 0)]), []) := by
  exact ac3_p0 l s a g x y h1 h2 h3
theorem rs1_p0 (l s a g b : Int) (h1 : (cp_r0 l s a != 0) = true) : Gives Tryz.prog envD 0 43 [.agg #[I l, I s, I a], I g, I b] [] ((.tuple #[(.agg #[(I 0), (I 0), (I 0), (I 0)]), (I (cp_r0 l s a))]), []) :=
  Gives.by (n := 1000) (os := [.br 86 26 true, .br 43 40 true]) (os' := []) (by kernel_rfl) (ObsOK.cond h1 (ObsOK.cond h1 (ObsOK.nil)))
def rs1_r4 (l : Int) (s : Int) (a : Int) (g : Int) (b : Int) : Int := (cp_r0 l s a)
theorem rs1_gives (l s a g b : Int) (h1 : (cp_r0 l s a != 0) = true) : Gives Tryz.prog envD 0 43 [.agg #[I l, I s, I a], I g, I b] [] ((.tuple #[(.agg #[(I 0), (I 0), (I 0), (I 0)]), (I (rs1_r4 l s a g b))]), []) := by
  simp only [rs1_r4, cond_true, cond_false]; exact rs1_p0 l s a g b h1
theorem rs2_p0 (l s a g b : Int) (h1 : (cp_r0 l s a != 0) = false) (h2 : (cd_r0 l g b != 0) = true) : Gives Tryz.prog envD 0 43 [.agg #[I l, I s, I a], I g, I b] [] ((.tuple #[(.agg #[(I 0), (I 0), (I 0), (I 0)]), (I (cd_r0 l g b))]), []) :=
  Gives.by (n := 1000) (os := [.br 86 26 false, .br 86 26 true, .br 43 40 true]) (os' := []) (by kernel_rfl) (ObsOK.cond h1 (ObsOK.cond h2 (ObsOK.cond h2 (ObsOK.nil))))
def rs2_r4 (l : Int) (s : Int) (a : Int) (g : Int) (b : Int) : Int := (cd_r0 l g b)
theorem rs2_gives (l s a g b : Int) (h1 : (cp_r0 l s a != 0) = false) (h2 : (cd_r0 l g b != 0) = true) : Gives Tryz.prog envD 0 43 [.agg #[I l, I s, I a], I g, I b] [] ((.tuple #[(.agg #[(I 0), (I 0), (I 0), (I 0)]), (I (rs2_r4 l s a g b))]), []) := by
  simp only [rs2_r4, cond_true, cond_false]; exact rs2_p0 l s a g b h1 h2
theorem rs3_p0 (l s a g b x y x2 y2 : Int) (h1 : (cp_r0 l s a != 0) = false) (h2 : (cd_r0 l g b != 0) = false) (h3 : ∀ (lim : Nat) (A : Heap), startsB heapN A = true → Gives Tryz.prog envD lim 106 [.agg #[I l, I s, I a], I g] A (.agg #[I x, I y], A)) (h4 : ∀ (lim : Nat) (A : Heap), startsB heapN A = true → Gives Tryz.prog envD lim 106 [.agg #[I l, I s, I a], I b] A (.agg #[I x2, I y2], A)) : Gives Tryz.prog envD 0 43 [.agg #[I l, I s, I a], I g, I b] [] ((.tuple #[(.agg #[(I (IntKind.i64.wrap (y - x))), I y, I x2, I y2]), (I 0)]), []) :=
  Gives.by (n := 1000) (os := [.br 86 26 false, .br 86 26 false, .opw 108 12 (.agg #[I x, I y]) [(.some (.cells [I l, I s, I a] 74 .var)), (.some (.cells [(I 0), (I 0), (I 0), (I 0)] 75 .var)), (.some (.cells [(I (cp_r0 l s a)), (I (cd_r0 l g b))] 31 .row)), (.some (.cells [I l, I s, I a] 74 .var)), (.some (.cells [(I 0), (I 0), (I 0), (I 0)] 75 .var))], .opw 108 24 (.agg #[I x2, I y2]) [(.some (.cells [I l, I s, I a] 74 .var)), (.some (.cells [(I 0), (I 0), (I 0), (I 0)] 75 .var)), (.some (.cells [(I (cp_r0 l s a)), (I (cd_r0 l g b))] 31 .row)), (.some (.cells [I l, I s, I a] 74 .var)), (.some (.cells [(I 0), (I 0), (I 0), (I 0)] 75 .var)), (.some (.cells [I x, I y] 59 .var)), (.some (.cells [(I (IntKind.i64.wrap (y - x))), I y] 59 .var))]]) (os' := []) (by kernel_rfl) (ObsOK.cond h1 (ObsOK.cond h2 (ObsOK.call (h3 3 [(.some (.cells [I l, I s, I a] 74 .var)), (.some (.cells [(I 0), (I 0), (I 0), (I 0)] 75 .var)), (.some (.cells [(I (cp_r0 l s a)), (I (cd_r0 l g b))] 31 .row)), (.some (.cells [I l, I s, I a] 74 .var)), (.some (.cells [(I 0), (I 0), (I 0), (I 0)] 75 .var))] (by kernel_rfl)) (ObsOK.call (h4 7 [(.some (.cells [I l, I s, I a] 74 .var)), (.some (.cells [(I 0), (I 0), (I 0), (I 0)] 75 .var)), (.some (.cells [(I (cp_r0 l s a)), (I (cd_r0 l g b))] 31 .row)), (.some (.cells [I l, I s, I a] 74 .var)), (.some (.cells [(I 0), (I 0), (I 0), (I 0)] 75 .var)), (.some (.cells [I x, I y] 59 .var)), (.some (.cells [(I (IntKind.i64.wrap (y - x))), I y] 59 .var))] (by kernel_rfl)) (ObsOK.nil)))))
def rs3_r0 (l : Int) (s : Int) (a : Int) (g : Int) (b : Int) (x : Int) (y : Int) (x2 : Int) (y2 : Int) : Int := (IntKind.i64.wrap (y - x))
theorem rs3_gives (l s a g b x y x2 y2 : Int) (h1 : (cp_r0 l s a != 0) = false) (h2 : (cd_r0 l g b != 0) = false) (h3 : ∀ (lim : Nat) (A : Heap), startsB heapN A = true → Gives Tryz.prog envD lim 106 [.agg #[I l, I s, I a], I g] A (.agg #[I x, I y], A)) (h4 : ∀ (lim : Nat) (A : Heap), startsB heapN A = true → Gives Tryz.prog envD lim 106 [.agg #[I l, I s, I a], I b] A (.agg #[I x2, I y2], A)) : Gives Tryz.prog envD 0 43 [.agg #[I l, I s, I a], I g, I b] [] ((.tuple #[(.agg #[(I (rs3_r0 l s a g b x y x2 y2)), (I y), (I x2), (I y2)]), (I 0)]), []) := by
  simp only [rs3_r0, cond_true, cond_false]; exact rs3_p0 l s a g b x y x2 y2 h1 h2 h3 h4
end Go.Proofs.YtinkgnklhcjejaaGreat
/-
Rounds of the loops that decide.
-/
namespace Go.Proofs.YtinkgnklhcjejaaGreat
open Go Go.Abs
theorem dtA_p0 (v0 v1 v3 v4 v5 v6 v7 v9 v10 v11 v12 v13 v14 v15 v16 v17 v18 v19 v20 v21 v22 v23 v24 v28 v29 v30 v31 v32 v33 v34 v35 v36 v37 v38 v39 v40 v41 v42 v43 v44 v45 v46 v47 v48 v49 v50 v51 v52 v53 v54 : Value) (n c k : Nat) (l s a i q : Int) (r0 r2 : Option ARow) (f1 : decide (i < (n : Int)) = true) (hx : aIndexAddr Tryz.prog 72 (sl 0 0 n c) (I i) = some (pt 0 k)) (hl : aLoad Tryz.prog 4 (pt 0 k) [r0, some (.cells [I l, I s, I a] 74 .var), r2] = some (.bool true)) (f2 : decide (IntKind.i64.wrap (q + 1) > a) = false) (f3 : decide (IntKind.i64.wrap (IntKind.i64.wrap (i + 1) - IntKind.i64.wrap (q + 1)) ≥ IntKind.i64.wrap (s - a)) = false) : Runs Tryz.prog envD 1 [.code (round 0 (bodyOf 44))] [v0, v1, pt 1 0, v3, v4, v5, v6, v7, I q, v9, v10, v11, v12, v13, v14, v15, v16, v17, v18, v19, v20, v21, v22, v23, v24, sl 0 0 n c, I (n : Int), I i, v28, v29, v30, v31, v32, v33, v34, v35, v36, v37, v38, v39, v40, v41, v42, v43, v44, v45, v46, v47, v48, v49, v50, v51, v52, v53, v54] [r0, some (.cells [I l, I s, I a] 74 .var), r2] ([v0, v1, (pt 1 0), v3, v4, v5, v6, v7, (I (IntKind.i64.wrap (q + 1))), I i, (.bool true), (I (IntKind.i64.wrap (i + 1))), v12, v13, v14, v15, v16, v17, v18, v19, v20, v21, v22, v23, v24, (sl 0 0 n c), (I ((n : Int))), (I (IntKind.i64.wrap (i + 1))), (.bool (decide (i < (n : Int)))), I i, (pt 0 k), (.bool true), (.bool true), I q, (I (IntKind.i64.wrap (q + 1))), I i, (I (IntKind.i64.wrap (i + 1))), (.bool (decide (IntKind.i64.wrap (q + 1) > a))), (I (IntKind.i64.wrap (q + 1))), (pt 1 2), I a, (.bool (decide (IntKind.i64.wrap (q + 1) > a))), v42, (.bool (decide (IntKind.i64.wrap (IntKind.i64.wrap (i + 1) - IntKind.i64.wrap (q + 1)) ≥ IntKind.i64.wrap (s - a)))), (I (IntKind.i64.wrap (i + 1))), (I (IntKind.i64.wrap (q + 1))), (I (IntKind.i64.wrap (IntKind.i64.wrap (i + 1) - IntKind.i64.wrap (q + 1)))), (pt 1 1), I s, (pt 1 2), I a, (I (IntKind.i64.wrap (s - a))), (.bool (decide (IntKind.i64.wrap (IntKind.i64.wrap (i + 1) - IntKind.i64.wrap (q + 1)) ≥ IntKind.i64.wrap (s - a)))), v53, (I (IntKind.i64.wrap (i + 1)))], [r0, (.some (.cells [I l, I s, I a] 74 .var)), r2], none) :=
  Runs.by (n := 1000) (fid := 44) (os := [.br 44 58 true, .op 44 31 (pt 0 k), .op 44 32 (.bool true), .br 44 76 false, .br 44 88 false]) (os' := []) (by kernel_rfl) (ObsOK.cond f1 (ObsOK.val hx (ObsOK.val hl (ObsOK.cond f2 (ObsOK.cond f3 (ObsOK.nil))))))
theorem dtB_p0 (v0 v1 v3 v4 v5 v6 v7 v9 v10 v11 v12 v13 v14 v15 v16 v17 v18 v19 v20 v21 v22 v23 v24 v28 v29 v30 v31 v32 v33 v34 v35 v36 v37 v38 v39 v40 v41 v42 v43 v44 v45 v46 v47 v48 v49 v50 v51 v52 v53 v54 : Value) (n c k : Nat) (l s a i q : Int) (r0 r2 : Option ARow) (f1 : decide (i < (n : Int)) = true) (hx : aIndexAddr Tryz.prog 72 (sl 0 0 n c) (I i) = some (pt 0 k)) (hl : aLoad Tryz.prog 4 (pt 0 k) [r0, some (.cells [I l, I s, I a] 74 .var), r2] = some (.bool true)) (f2 : decide (IntKind.i64.wrap (q + 1) > a) = true) : Runs Tryz.prog envD 1 [.code (round 0 (bodyOf 44)), .inLoop (round 0 (bodyOf 44)), .inBlock 0] [v0, v1, pt 1 0, v3, v4, v5, v6, v7, I q, v9, v10, v11, v12, v13, v14, v15, v16, v17, v18, v19, v20, v21, v22, v23, v24, sl 0 0 n c, I (n : Int), I i, v28, v29, v30, v31, v32, v33, v34, v35, v36, v37, v38, v39, v40, v41, v42, v43, v44, v45, v46, v47, v48, v49, v50, v51, v52, v53, v54] [r0, some (.cells [I l, I s, I a] 74 .var), r2] ([v0, v1, (pt 1 0), v3, (.bool false), (I (IntKind.i64.wrap (i + 1))), (I 0), v7, (I (IntKind.i64.wrap (q + 1))), I i, (.bool true), (I (IntKind.i64.wrap (i + 1))), v12, v13, v14, v15, v16, v17, v18, v19, v20, v21, v22, v23, v24, (sl 0 0 n c), (I ((n : Int))), I i, (.bool (decide (i < (n : Int)))), I i, (pt 0 k), (.bool true), (.bool true), I q, (I (IntKind.i64.wrap (q + 1))), I i, (I (IntKind.i64.wrap (i + 1))), (.bool (decide (IntKind.i64.wrap (q + 1) > a))), (I (IntKind.i64.wrap (q + 1))), (pt 1 2), I a, (.bool (decide (IntKind.i64.wrap (q + 1) > a))), (I (IntKind.i64.wrap (i + 1))), v43, v44, v45, v46, v47, v48, v49, v50, v51, v52, v53, v54], [r0, (.some (.cells [I l, I s, I a] 74 .var)), r2], some .ret) :=
  Runs.by (n := 1000) (fid := 44) (os := [.br 44 58 true, .op 44 31 (pt 0 k), .op 44 32 (.bool true), .br 44 76 true]) (os' := []) (by kernel_rfl) (ObsOK.cond f1 (ObsOK.val hx (ObsOK.val hl (ObsOK.cond f2 (ObsOK.nil)))))
theorem dtD_p0 (v0 v1 v3 v4 v5 v6 v7 v9 v10 v11 v12 v13 v14 v15 v16 v17 v18 v19 v20 v21 v22 v23 v24 v28 v29 v30 v31 v32 v33 v34 v35 v36 v37 v38 v39 v40 v41 v42 v43 v44 v45 v46 v47 v48 v49 v50 v51 v52 v53 v54 : Value) (n c k : Nat) (l s a i q : Int) (r0 r2 : Option ARow) (f1 : decide (i < (n : Int)) = true) (hx : aIndexAddr Tryz.prog 72 (sl 0 0 n c) (I i) = some (pt 0 k)) (hl : aLoad Tryz.prog 4 (pt 0 k) [r0, some (.cells [I l, I s, I a] 74 .var), r2] = some (.bool true)) (f2 : decide (IntKind.i64.wrap (q + 1) > a) = false) (f3 : decide (IntKind.i64.wrap (IntKind.i64.wrap (i + 1) - IntKind.i64.wrap (q + 1)) ≥ IntKind.i64.wrap (s - a)) = true) : Runs Tryz.prog envD 1 [.code (round 0 (bodyOf 44)), .inLoop (round 0 (bodyOf 44)), .inBlock 0] [v0, v1, pt 1 0, v3, v4, v5, v6, v7, I q, v9, v10, v11, v12, v13, v14, v15, v16, v17, v18, v19, v20, v21, v22, v23, v24, sl 0 0 n c, I (n : Int), I i, v28, v29, v30, v31, v32, v33, v34, v35, v36, v37, v38, v39, v40, v41, v42, v43, v44, v45, v46, v47, v48, v49, v50, v51, v52, v53, v54] [r0, some (.cells [I l, I s, I a] 74 .var), r2] ([v0, v1, (pt 1 0), v3, (.bool true), (I (IntKind.i64.wrap (i + 1))), (I 0), v7, (I (IntKind.i64.wrap (q + 1))), I i, (.bool true), (I (IntKind.i64.wrap (i + 1))), v12, v13, v14, v15, v16, v17, v18, v19, v20, v21, v22, v23, v24, (sl 0 0 n c), (I ((n : Int))), I i, (.bool (decide (i < (n : Int)))), I i, (pt 0 k), (.bool true), (.bool true), I q, (I (IntKind.i64.wrap (q + 1))), I i, (I (IntKind.i64.wrap (i + 1))), (.bool (decide (IntKind.i64.wrap (q + 1) > a))), (I (IntKind.i64.wrap (q + 1))), (pt 1 2), I a, (.bool (decide (IntKind.i64.wrap (q + 1) > a))), v42, (.bool (decide (IntKind.i64.wrap (IntKind.i64.wrap (i + 1) - IntKind.i64.wrap (q + 1)) ≥ IntKind.i64.wrap (s - a)))), (I (IntKind.i64.wrap (i + 1))), (I (IntKind.i64.wrap (q + 1))), (I (IntKind.i64.wrap (IntKind.i64.wrap (i + 1) - IntKind.i64.wrap (q + 1)))), (pt 1 1), I s, (pt 1 2), I a, (I (IntKind.i64.wrap (s - a))), (.bool (decide (IntKind.i64.wrap (IntKind.i64.wrap (i + 1) - IntKind.i64.wrap (q + 1)) ≥ IntKind.i64.wrap (s - a)))), (I (IntKind.i64.wrap (i + 1))), v54], [r0, (.some (.cells [I l, I s, I a] 74 .var)), r2], some .ret) :=
  Runs.by (n := 1000) (fid := 44) (os := [.br 44 58 true, .op 44 31 (pt 0 k), .op 44 32 (.bool true), .br 44 76 false, .br 44 88 true]) (os' := []) (by kernel_rfl) (ObsOK.cond f1 (ObsOK.val hx (ObsOK.val hl (ObsOK.cond f2 (ObsOK.cond f3 (ObsOK.nil))))))
theorem dfA_p0 (v0 v1 v3 v4 v5 v6 v7 v9 v10 v11 v12 v13 v14 v15 v16 v17 v18 v19 v20 v21 v22 v23 v24 v28 v29 v30 v31 v32 v33 v34 v35 v36 v37 v38 v39 v40 v41 v42 v43 v44 v45 v46 v47 v48 v49 v50 v51 v52 v53 v54 : Value) (n c k : Nat) (l s a i q : Int) (r0 r2 : Option ARow) (f1 : decide (i < (n : Int)) = true) (hx : aIndexAddr Tryz.prog 72 (sl 0 0 n c) (I i) = some (pt 0 k)) (hl : aLoad Tryz.prog 4 (pt 0 k) [r0, some (.cells [I l, I s, I a] 74 .var), r2] = some (.bool false)) (f2 : decide (q > a) = false) (f3 : decide (IntKind.i64.wrap (IntKind.i64.wrap (i + 1) - q) ≥ IntKind.i64.wrap (s - a)) = false) : Runs Tryz.prog envD 1 [.code (round 0 (bodyOf 44))] [v0, v1, pt 1 0, v3, v4, v5, v6, v7, I q, v9, v10, v11, v12, v13, v14, v15, v16, v17, v18, v19, v20, v21, v22, v23, v24, sl 0 0 n c, I (n : Int), I i, v28, v29, v30, v31, v32, v33, v34, v35, v36, v37, v38, v39, v40, v41, v42, v43, v44, v45, v46, v47, v48, v49, v50, v51, v52, v53, v54] [r0, some (.cells [I l, I s, I a] 74 .var), r2] ([v0, v1, (pt 1 0), v3, v4, v5, v6, v7, I q, I i, (.bool false), (I (IntKind.i64.wrap (i + 1))), v12, v13, v14, v15, v16, v17, v18, v19, v20, v21, v22, v23, v24, (sl 0 0 n c), (I ((n : Int))), (I (IntKind.i64.wrap (i + 1))), (.bool (decide (i < (n : Int)))), I i, (pt 0 k), (.bool false), (.bool false), v33, v34, I i, (I (IntKind.i64.wrap (i + 1))), (.bool (decide (q > a))), I q, (pt 1 2), I a, (.bool (decide (q > a))), v42, (.bool (decide (IntKind.i64.wrap (IntKind.i64.wrap (i + 1) - q) ≥ IntKind.i64.wrap (s - a)))), (I (IntKind.i64.wrap (i + 1))), I q, (I (IntKind.i64.wrap (IntKind.i64.wrap (i + 1) - q))), (pt 1 1), I s, (pt 1 2), I a, (I (IntKind.i64.wrap (s - a))), (.bool (decide (IntKind.i64.wrap (IntKind.i64.wrap (i + 1) - q) ≥ IntKind.i64.wrap (s - a)))), v53, (I (IntKind.i64.wrap (i + 1)))], [r0, (.some (.cells [I l, I s, I a] 74 .var)), r2], none) :=
  Runs.by (n := 1000) (fid := 44) (os := [.br 44 58 true, .op 44 31 (pt 0 k), .op 44 32 (.bool false), .br 44 76 false, .br 44 88 false]) (os' := []) (by kernel_rfl) (ObsOK.cond f1 (ObsOK.val hx (ObsOK.val hl (ObsOK.cond f2 (ObsOK.cond f3 (ObsOK.nil))))))
theorem dfB_p0 (v0 v1 v3 v4 v5 v6 v7 v9 v10 v11 v12 v13 v14 v15 v16 v17 v18 v19 v20 v21 v22 v23 v24 v28 v29 v30 v31 v32 v33 v34 v35 v36 v37 v38 v39 v40 v41 v42 v43 v44 v45 v46 v47 v48 v49 v50 v51 v52 v53 v54 : Value) (n c k : Nat) (l s a i q : Int) (r0 r2 : Option ARow) (f1 : decide (i < (n : Int)) = true) (hx : aIndexAddr Tryz.prog 72 (sl 0 0 n c) (I i) = some (pt 0 k)) (hl : aLoad Tryz.prog 4 (pt 0 k) [r0, some (.cells [I l, I s, I a] 74 .var), r2] = some (.bool false)) (f2 : decide (q > a) = true) : Runs Tryz.prog envD 1 [.code (round 0 (bodyOf 44)), .inLoop (round 0 (bodyOf 44)), .inBlock 0] [v0, v1, pt 1 0, v3, v4, v5, v6, v7, I q, v9, v10, v11, v12, v13, v14, v15, v16, v17, v18, v19, v20, v21, v22, v23, v24, sl 0 0 n c, I (n : Int), I i, v28, v29, v30, v31, v32, v33, v34, v35, v36, v37, v38, v39, v40, v41, v42, v43, v44, v45, v46, v47, v48, v49, v50, v51, v52, v53, v54] [r0, some (.cells [I l, I s, I a] 74 .var), r2] ([v0, v1, (pt 1 0), v3, (.bool false), (I (IntKind.i64.wrap (i + 1))), (I 0), v7, I q, I i, (.bool false), (I (IntKind.i64.wrap (i + 1))), v12, v13, v14, v15, v16, v17, v18, v19, v20, v21, v22, v23, v24, (sl 0 0 n c), (I ((n : Int))), I i, (.bool (decide (i < (n : Int)))), I i, (pt 0 k), (.bool false), (.bool false), v33, v34, I i, (I (IntKind.i64.wrap (i + 1))), (.bool (decide (q > a))), I q, (pt 1 2), I a, (.bool (decide (q > a))), (I (IntKind.i64.wrap (i + 1))), v43, v44, v45, v46, v47, v48, v49, v50, v51, v52, v53, v54], [r0, (.some (.cells [I l, I s, I a] 74 .var)), r2], some .ret) :=
  Runs.by (n := 1000) (fid := 44) (os := [.br 44 58 true, .op 44 31 (pt 0 k), .op 44 32 (.bool false), .br 44 76 true]) (os' := []) (by kernel_rfl) (ObsOK.cond f1 (ObsOK.val hx (ObsOK.val hl (ObsOK.cond f2 (ObsOK.nil)))))
theorem dfD_p0 (v0 v1 v3 v4 v5 v6 v7 v9 v10 v11 v12 v13 v14 v15 v16 v17 v18 v19 v20 v21 v22 v23 v24 v28 v29 v30 v31 v32 v33 v34 v35 v36 v37 v38 v39 v40 v41 v42 v43 v44 v45 v46 v47 v48 v49 v50 v51 v52 v53 v54 : Value) (n c k : Nat) (l s a i q : Int) (r0 r2 : Option ARow) (f1 : decide (i < (n : Int)) = true) (hx : aIndexAddr Tryz.prog 72 (sl 0 0 n c) (I i) = some (pt 0 k)) (hl : aLoad Tryz.prog 4 (pt 0 k) [r0, some (.cells [I l, I s, I a] 74 .var), r2] = some (.bool false)) (f2 : decide (q > a) = false) (f3 : decide (IntKind.i64.wrap (IntKind.i64.wrap (i + 1) - q) ≥ IntKind.i64.wrap (s - a)) = true) : Runs Tryz.prog envD 1 [.code (round 0 (bodyOf 44)), .inLoop (round 0 (bodyOf 44)), .inBlock 0] [v0, v1, pt 1 0, v3, v4, v5, v6, v7, I q, v9, v10, v11, v12, v13, v14, v15, v16, v17, v18, v19, v20, v21, v22, v23, v24, sl 0 0 n c, I (n : Int), I i, v28, v29, v30, v31, v32, v33, v34, v35, v36, v37, v38, v39, v40, v41, v42, v43, v44, v45, v46, v47, v48, v49, v50, v51, v52, v53, v54] [r0, some (.cells [I l, I s, I a] 74 .var), r2] ([v0, v1, (pt 1 0), v3, (.bool true), (I (IntKind.i64.wrap (i + 1))), (I 0), v7, I q, I i, (.bool false), (I (IntKind.i64.wrap (i + 1))), v12, v13, v14, v15, v16, v17, v18, v19, v20, v21, v22, v23, v24, (sl 0 0 n c), (I ((n : Int))), I i, (.bool (decide (i < (n : Int)))), I i, (pt 0 k), (.bool false), (.bool false), v33, v34, I i, (I (IntKind.i64.wrap (i + 1))), (.bool (decide (q > a))), I q, (pt 1 2), I a, (.bool (decide (q > a))), v42, (.bool (decide (IntKind.i64.wrap (IntKind.i64.wrap (i + 1) - q) ≥ IntKind.i64.wrap (s - a)))), (I (IntKind.i64.wrap (i + 1))), I q, (I (IntKind.i64.wrap (IntKind.i64.wrap (i + 1) - q))), (pt 1 1), I s, (pt 1 2), I a, (I (IntKind.i64.wrap (s - a))), (.bool (decide (IntKind.i64.wrap (IntKind.i64.wrap (i + 1) - q) ≥ IntKind.i64.wrap (s - a)))), (I (IntKind.i64.wrap (i + 1))), v54], [r0, (.some (.cells [I l, I s, I a] 74 .var)), r2], some .ret) :=
  Runs.by (n := 1000) (fid := 44) (os := [.br 44 58 true, .op 44 31 (pt 0 k), .op 44 32 (.bool false), .br 44 76 false, .br 44 88 true]) (os' := []) (by kernel_rfl) (ObsOK.cond f1 (ObsOK.val hx (ObsOK.val hl (ObsOK.cond f2 (ObsOK.cond f3 (ObsOK.nil))))))
theorem dC_p0 (v0 v1 v3 v4 v5 v6 v7 v9 v10 v11 v12 v13 v14 v15 v16 v17 v18 v19 v20 v21 v22 v23 v24 v28 v29 v30 v31 v32 v33 v34 v35 v36 v37 v38 v39 v40 v41 v42 v43 v44 v45 v46 v47 v48 v49 v50 v51 v52 v53 v54 : Value) (n c : Nat) (l s a i q : Int) (r0 r2 : Option ARow) (f1 : decide (i < (n : Int)) = false) : Runs Tryz.prog envD 1 [.code (round 0 (bodyOf 44)), .inLoop (round 0 (bodyOf 44)), .inBlock 0] [v0, v1, pt 1 0, v3, v4, v5, v6, v7, I q, v9, v10, v11, v12, v13, v14, v15, v16, v17, v18, v19, v20, v21, v22, v23, v24, sl 0 0 n c, I (n : Int), I i, v28, v29, v30, v31, v32, v33, v34, v35, v36, v37, v38, v39, v40, v41, v42, v43, v44, v45, v46, v47, v48, v49, v50, v51, v52, v53, v54] [r0, some (.cells [I l, I s, I a] 74 .var), r2] ([v0, v1, (pt 1 0), v3, v4, v5, v6, v7, I q, v9, v10, v11, v12, v13, v14, v15, v16, v17, v18, v19, v20, v21, v22, v23, v24, (sl 0 0 n c), (I ((n : Int))), I i, (.bool (decide (i < (n : Int)))), v29, v30, v31, v32, v33, v34, v35, v36, v37, v38, v39, v40, v41, v42, v43, v44, v45, v46, v47, v48, v49, v50, v51, v52, v53, v54], [r0, (.some (.cells [I l, I s, I a] 74 .var)), r2], none) :=
  Runs.by (n := 1000) (fid := 44) (os := [.br 44 58 false]) (os' := []) (by kernel_rfl) (ObsOK.cond f1 (ObsOK.nil))
theorem etA_p0 (v0 v3 v4 v5 v6 v9 v10 v11 v12 v13 v14 v15 v16 v17 v18 v19 v20 v21 v22 v23 v24 v25 v26 v27 v28 v29 v30 v31 v32 v33 v34 v35 v36 v37 v38 v39 v40 v41 v42 v43 : Value) (n c k : Nat) (l s a i q : Int) (r0 : Option ARow) (f1 : decide (i < (n : Int)) = true) (hx : aIndexAddr Tryz.prog 72 (sl 0 0 n c) (I i) = some (pt 0 k)) (hl : aLoad Tryz.prog 4 (pt 0 k) [r0, some (.cells [I l, I s, I a] 71 .var)] = some (.bool true)) (f2 : decide (IntKind.i64.wrap (q + 1) > a) = false) (f3 : decide (IntKind.i64.wrap (IntKind.i64.wrap (IntKind.i64.wrap (IntKind.i64.wrap (q + 1) + s) - i) - 1) ≤ a) = false) : Runs Tryz.prog envD 1 [.code (round 0 (bodyOf 49))] [v0, sl 0 0 n c, pt 1 0, v3, v4, v5, v6, I q, I i, v9, v10, v11, v12, v13, v14, v15, v16, v17, v18, v19, v20, v21, v22, v23, v24, v25, v26, v27, v28, v29, v30, v31, v32, v33, v34, v35, v36, v37, v38, v39, v40, v41, v42, v43] [r0, some (.cells [I l, I s, I a] 71 .var)] ([v0, (sl 0 0 n c), (pt 1 0), v3, v4, v5, v6, (I (IntKind.i64.wrap (q + 1))), (I (IntKind.i64.wrap (i + 1))), v9, v10, v11, v12, v13, I i, (sl 0 0 n c), (I ((n : Int))), (.bool (decide (i < (n : Int)))), I i, (I (IntKind.i64.wrap (i + 1))), (sl 0 0 n c), I i, (pt 0 k), (.bool true), I q, (I (IntKind.i64.wrap (q + 1))), (I (IntKind.i64.wrap (q + 1))), (pt 1 2), I a, (.bool (decide (IntKind.i64.wrap (q + 1) > a))), v30, v31, (I (IntKind.i64.wrap (q + 1))), (pt 1 1), I s, (I (IntKind.i64.wrap (IntKind.i64.wrap (q + 1) + s))), I i, (I (IntKind.i64.wrap (IntKind.i64.wrap (IntKind.i64.wrap (q + 1) + s) - i))), (I (IntKind.i64.wrap (IntKind.i64.wrap (IntKind.i64.wrap (IntKind.i64.wrap (q + 1) + s) - i) - 1))), (pt 1 2), I a, (.bool (decide (IntKind.i64.wrap (IntKind.i64.wrap (IntKind.i64.wrap (IntKind.i64.wrap (q + 1) + s) - i) - 1) ≤ a))), v42, v43], [r0, (.some (.cells [I l, I s, I a] 71 .var))], none) :=
  Runs.by (n := 1000) (fid := 49) (os := [.br 49 36 true, .op 49 23 (pt 0 k), .op 49 24 (.bool true), .br 49 60 false, .br 49 84 false]) (os' := []) (by kernel_rfl) (ObsOK.cond f1 (ObsOK.val hx (ObsOK.val hl (ObsOK.cond f2 (ObsOK.cond f3 (ObsOK.nil))))))
theorem etB_p0 (v0 v3 v4 v5 v6 v9 v10 v11 v12 v13 v14 v15 v16 v17 v18 v19 v20 v21 v22 v23 v24 v25 v26 v27 v28 v29 v30 v31 v32 v33 v34 v35 v36 v37 v38 v39 v40 v41 v42 v43 : Value) (n c k : Nat) (l s a i q : Int) (r0 : Option ARow) (f1 : decide (i < (n : Int)) = true) (hx : aIndexAddr Tryz.prog 72 (sl 0 0 n c) (I i) = some (pt 0 k)) (hl : aLoad Tryz.prog 4 (pt 0 k) [r0, some (.cells [I l, I s, I a] 71 .var)] = some (.bool true)) (f2 : decide (IntKind.i64.wrap (q + 1) > a) = true) : Runs Tryz.prog envD 1 [.code (round 0 (bodyOf 49)), .inLoop (round 0 (bodyOf 49)), .inBlock 0] [v0, sl 0 0 n c, pt 1 0, v3, v4, v5, v6, I q, I i, v9, v10, v11, v12, v13, v14, v15, v16, v17, v18, v19, v20, v21, v22, v23, v24, v25, v26, v27, v28, v29, v30, v31, v32, v33, v34, v35, v36, v37, v38, v39, v40, v41, v42, v43] [r0, some (.cells [I l, I s, I a] 71 .var)] ([v0, (sl 0 0 n c), (pt 1 0), v3, (.bool false), (I (IntKind.i64.wrap (i + 1))), (I 0), (I (IntKind.i64.wrap (q + 1))), I i, v9, v10, v11, v12, v13, I i, (sl 0 0 n c), (I ((n : Int))), (.bool (decide (i < (n : Int)))), v18, v19, (sl 0 0 n c), I i, (pt 0 k), (.bool true), I q, (I (IntKind.i64.wrap (q + 1))), (I (IntKind.i64.wrap (q + 1))), (pt 1 2), I a, (.bool (decide (IntKind.i64.wrap (q + 1) > a))), I i, (I (IntKind.i64.wrap (i + 1))), v32, v33, v34, v35, v36, v37, v38, v39, v40, v41, v42, v43], [r0, (.some (.cells [I l, I s, I a] 71 .var))], some .ret) :=
  Runs.by (n := 1000) (fid := 49) (os := [.br 49 36 true, .op 49 23 (pt 0 k), .op 49 24 (.bool true), .br 49 60 true]) (os' := []) (by kernel_rfl) (ObsOK.cond f1 (ObsOK.val hx (ObsOK.val hl (ObsOK.cond f2 (ObsOK.nil)))))
theorem etD_p0 (v0 v3 v4 v5 v6 v9 v10 v11 v12 v13 v14 v15 v16 v17 v18 v19 v20 v21 v22 v23 v24 v25 v26 v27 v28 v29 v30 v31 v32 v33 v34 v35 v36 v37 v38 v39 v40 v41 v42 v43 : Value) (n c k : Nat) (l s a i q : Int) (r0 : Option ARow) (f1 : decide (i < (n : Int)) = true) (hx : aIndexAddr Tryz.prog 72 (sl 0 0 n c) (I i) = some (pt 0 k)) (hl : aLoad Tryz.prog 4 (pt 0 k) [r0, some (.cells [I l, I s, I a] 71 .var)] = some (.bool true)) (f2 : decide (IntKind.i64.wrap (q + 1) > a) = false) (f3 : decide (IntKind.i64.wrap (IntKind.i64.wrap (IntKind.i64.wrap (IntKind.i64.wrap (q + 1) + s) - i) - 1) ≤ a) = true) : Runs Tryz.prog envD 1 [.code (round 0 (bodyOf 49)), .inLoop (round 0 (bodyOf 49)), .inBlock 0] [v0, sl 0 0 n c, pt 1 0, v3, v4, v5, v6, I q, I i, v9, v10, v11, v12, v13, v14, v15, v16, v17, v18, v19, v20, v21, v22, v23, v24, v25, v26, v27, v28, v29, v30, v31, v32, v33, v34, v35, v36, v37, v38, v39, v40, v41, v42, v43] [r0, some (.cells [I l, I s, I a] 71 .var)] ([v0, (sl 0 0 n c), (pt 1 0), v3, (.bool true), (I (IntKind.i64.wrap (i + 1))), (I 0), (I (IntKind.i64.wrap (q + 1))), I i, v9, v10, v11, v12, v13, I i, (sl 0 0 n c), (I ((n : Int))), (.bool (decide (i < (n : Int)))), v18, v19, (sl 0 0 n c), I i, (pt 0 k), (.bool true), I q, (I (IntKind.i64.wrap (q + 1))), (I (IntKind.i64.wrap (q + 1))), (pt 1 2), I a, (.bool (decide (IntKind.i64.wrap (q + 1) > a))), v30, v31, (I (IntKind.i64.wrap (q + 1))), (pt 1 1), I s, (I (IntKind.i64.wrap (IntKind.i64.wrap (q + 1) + s))), I i, (I (IntKind.i64.wrap (IntKind.i64.wrap (IntKind.i64.wrap (q + 1) + s) - i))), (I (IntKind.i64.wrap (IntKind.i64.wrap (IntKind.i64.wrap (IntKind.i64.wrap (q + 1) + s) - i) - 1))), (pt 1 2), I a, (.bool (decide (IntKind.i64.wrap (IntKind.i64.wrap (IntKind.i64.wrap (IntKind.i64.wrap (q + 1) + s) - i) - 1) ≤ a))), I i, (I (IntKind.i64.wrap (i + 1)))], [r0, (.some (.cells [I l, I s, I a] 71 .var))], some .ret) :=
  Runs.by (n := 1000) (fid := 49) (os := [.br 49 36 true, .op 49 23 (pt 0 k), .op 49 24 (.bool true), .br 49 60 false, .br 49 84 true]) (os' := []) (by kernel_rfl) (ObsOK.cond f1 (ObsOK.val hx (ObsOK.val hl (ObsOK.cond f2 (ObsOK.cond f3 (ObsOK.nil))))))
theorem efA_p0 (v0 v3 v4 v5 v6 v9 v10 v11 v12 v13 v14 v15 v16 v17 v18 v19 v20 v21 v22 v23 v24 v25 v26 v27 v28 v29 v30 v31 v32 v33 v34 v35 v36 v37 v38 v39 v40 v41 v42 v43 : Value) (n c k : Nat) (l s a i q : Int) (r0 : Option ARow) (f1 : decide (i < (n : Int)) = true) (hx : aIndexAddr Tryz.prog 72 (sl 0 0 n c) (I i) = some (pt 0 k)) (hl : aLoad Tryz.prog 4 (pt 0 k) [r0, some (.cells [I l, I s, I a] 71 .var)] = some (.bool false)) (f2 : decide (q > a) = false) (f3 : decide (IntKind.i64.wrap (IntKind.i64.wrap (IntKind.i64.wrap (q + s) - i) - 1) ≤ a) = false) : Runs Tryz.prog envD 1 [.code (round 0 (bodyOf 49))] [v0, sl 0 0 n c, pt 1 0, v3, v4, v5, v6, I q, I i, v9, v10, v11, v12, v13, v14, v15, v16, v17, v18, v19, v20, v21, v22, v23, v24, v25, v26, v27, v28, v29, v30, v31, v32, v33, v34, v35, v36, v37, v38, v39, v40, v41, v42, v43] [r0, some (.cells [I l, I s, I a] 71 .var)] ([v0, (sl 0 0 n c), (pt 1 0), v3, v4, v5, v6, I q, (I (IntKind.i64.wrap (i + 1))), v9, v10, v11, v12, v13, I i, (sl 0 0 n c), (I ((n : Int))), (.bool (decide (i < (n : Int)))), I i, (I (IntKind.i64.wrap (i + 1))), (sl 0 0 n c), I i, (pt 0 k), (.bool false), v24, v25, I q, (pt 1 2), I a, (.bool (decide (q > a))), v30, v31, I q, (pt 1 1), I s, (I (IntKind.i64.wrap (q + s))), I i, (I (IntKind.i64.wrap (IntKind.i64.wrap (q + s) - i))), (I (IntKind.i64.wrap (IntKind.i64.wrap (IntKind.i64.wrap (q + s) - i) - 1))), (pt 1 2), I a, (.bool (decide (IntKind.i64.wrap (IntKind.i64.wrap (IntKind.i64.wrap (q + s) - i) - 1) ≤ a))), v42, v43], [r0, (.some (.cells [I l, I s, I a] 71 .var))], none) :=
  Runs.by (n := 1000) (fid := 49) (os := [.br 49 36 true, .op 49 23 (pt 0 k), .op 49 24 (.bool false), .br 49 60 false, .br 49 84 false]) (os' := []) (by kernel_rfl) (ObsOK.cond f1 (ObsOK.val hx (ObsOK.val hl (ObsOK.cond f2 (ObsOK.cond f3 (ObsOK.nil))))))
theorem efB_p0 (v0 v3 v4 v5 v6 v9 v10 v11 v12 v13 v14 v15 v16 v17 v18 v19 v20 v21 v22 v23 v24 v25 v26 v27 v28 v29 v30 v31 v32 v33 v34 v35 v36 v37 v38 v39 v40 v41 v42 v43 : Value) (n c k : Nat) (l s a i q : Int) (r0 : Option ARow) (f1 : decide (i < (n : Int)) = true) (hx : aIndexAddr Tryz.prog 72 (sl 0 0 n c) (I i) = some (pt 0 k)) (hl : aLoad Tryz.prog 4 (pt 0 k) [r0, some (.cells [I l, I s, I a] 71 .var)] = some (.bool false)) (f2 : decide (q > a) = true) : Runs Tryz.prog envD 1 [.code (round 0 (bodyOf 49)), .inLoop (round 0 (bodyOf 49)), .inBlock 0] [v0, sl 0 0 n c, pt 1 0, v3, v4, v5, v6, I q, I i, v9, v10, v11, v12, v13, v14, v15, v16, v17, v18, v19, v20, v21, v22, v23, v24, v25, v26, v27, v28, v29, v30, v31, v32, v33, v34, v35, v36, v37, v38, v39, v40, v41, v42, v43] [r0, some (.cells [I l, I s, I a] 71 .var)] ([v0, (sl 0 0 n c), (pt 1 0), v3, (.bool false), (I (IntKind.i64.wrap (i + 1))), (I 0), I q, I i, v9, v10, v11, v12, v13, I i, (sl 0 0 n c), (I ((n : Int))), (.bool (decide (i < (n : Int)))), v18, v19, (sl 0 0 n c), I i, (pt 0 k), (.bool false), v24, v25, I q, (pt 1 2), I a, (.bool (decide (q > a))), I i, (I (IntKind.i64.wrap (i + 1))), v32, v33, v34, v35, v36, v37, v38, v39, v40, v41, v42, v43], [r0, (.some (.cells [I l, I s, I a] 71 .var))], some .ret) :=
  Runs.by (n := 1000) (fid := 49) (os := [.br 49 36 true, .op 49 23 (pt 0 k), .op 49 24 (.bool false), .br 49 60 true]) (os' := []) (by kernel_rfl) (ObsOK.cond f1 (ObsOK.val hx (ObsOK.val hl (ObsOK.cond f2 (ObsOK.nil)))))
theorem efD_p0 (v0 v3 v4 v5 v6 v9 v10 v11 v12 v13 v14 v15 v16 v17 v18 v19 v20 v21 v22 v23 v24 v25 v26 v27 v28 v29 v30 v31 v32 v33 v34 v35 v36 v37 v38 v39 v40 v41 v42 v43 : Value) (n c k : Nat) (l s a i q : Int) (r0 : Option ARow) (f1 : decide (i < (n : Int)) = true) (hx : aIndexAddr Tryz.prog 72 (sl 0 0 n c) (I i) = some (pt 0 k)) (hl : aLoad Tryz.prog 4 (pt 0 k) [r0, some (.cells [I l, I s, I a] 71 .var)] = some (.bool false)) (f2 : decide (q > a) = false) (f3 : decide (IntKind.i64.wrap (IntKind.i64.wrap (IntKind.i64.wrap (q + s) - i) - 1) ≤ a) = true) : Runs Tryz.prog envD 1 [.code (round 0 (bodyOf 49)), .inLoop (round 0 (bodyOf 49)), .inBlock 0] [v0, sl 0 0 n c, pt 1 0, v3, v4, v5, v6, I q, I i, v9, v10, v11, v12, v13, v14, v15, v16, v17, v18, v19, v20, v21, v22, v23, v24, v25, v26, v27, v28, v29, v30, v31, v32, v33, v34, v35, v36, v37, v38, v39, v40, v41, v42, v43] [r0, some (.cells [I l, I s, I a] 71 .var)] ([v0, (sl 0 0 n c), (pt 1 0), v3, (.bool true), (I (IntKind.i64.wrap (i + 1))), (I 0), I q, I i, v9, v10, v11, v12, v13, I i, (sl 0 0 n c), (I ((n : Int))), (.bool (decide (i < (n : Int)))), v18, v19, (sl 0 0 n c), I i, (pt 0 k), (.bool false), v24, v25, I q, (pt 1 2), I a, (.bool (decide (q > a))), v30, v31, I q, (pt 1 1), I s, (I (IntKind.i64.wrap (q + s))), I i, (I (IntKind.i64.wrap (IntKind.i64.wrap (q + s) - i))), (I (IntKind.i64.wrap (IntKind.i64.wrap (IntKind.i64.wrap (q + s) - i) - 1))), (pt 1 2), I a, (.bool (decide (IntKind.i64.wrap (IntKind.i64.wrap (IntKind.i64.wrap (q + s) - i) - 1) ≤ a))), I i, (I (IntKind.i64.wrap (i + 1)))], [r0, (.some (.cells [I l, I s, I a] 71 .var))], some .ret) :=
  Runs.by (n := 1000) (fid := 49) (os := [.br 49 36 true, .op 49 23 (pt 0 k), .op 49 24 (.bool false), .br 49 60 false, .br 49 84 true]) (os' := []) (by kernel_rfl) (ObsOK.cond f1 (ObsOK.val hx (ObsOK.val hl (ObsOK.cond f2 (ObsOK.cond f3 (ObsOK.nil))))))
theorem eC_p0 (v0 v3 v4 v5 v6 v9 v10 v11 v12 v13 v14 v15 v16 v17 v18 v19 v20 v21 v22 v23 v24 v25 v26 v27 v28 v29 v30 v31 v32 v33 v34 v35 v36 v37 v38 v39 v40 v41 v42 v43 : Value) (n c : Nat) (l s a i q : Int) (r0 : Option ARow) (f1 : decide (i < (n : Int)) = false) : Runs Tryz.prog envD 1 [.code (round 0 (bodyOf 49)), .inLoop (round 0 (bodyOf 49)), .inBlock 0] [v0, sl 0 0 n c, pt 1 0, v3, v4, v5, v6, I q, I i, v9, v10, v11, v12, v13, v14, v15, v16, v17, v18, v19, v20, v21, v22, v23, v24, v25, v26, v27, v28, v29, v30, v31, v32, v33, v34, v35, v36, v37, v38, v39, v40, v41, v42, v43] [r0, some (.cells [I l, I s, I a] 71 .var)] ([v0, (sl 0 0 n c), (pt 1 0), v3, v4, v5, v6, I q, I i, v9, v10, v11, v12, v13, I i, (sl 0 0 n c), (I ((n : Int))), (.bool (decide (i < (n : Int)))), v18, v19, v20, v21, v22, v23, v24, v25, v26, v27, v28, v29, v30, v31, v32, v33, v34, v35, v36, v37, v38, v39, v40, v41, v42, v43], [r0, (.some (.cells [I l, I s, I a] 71 .var))], none) :=
  Runs.by (n := 1000) (fid := 49) (os := [.br 49 36 false]) (os' := []) (by kernel_rfl) (ObsOK.cond f1 (ObsOK.nil))
end Go.Proofs.YtinkgnklhcjejaaGreat
/-
What is asked of plans, and acceptances and risks.
-/
namespace Go.Proofs.YtinkgnklhcjejaaGreat
open Go Go.Abs
theorem cr_eq (n a b : Int) : cr_r0 n a b = if a ≤ n ∧ n ≤ b then 0 else 3 := by
  unfold cr_r0 cr_c0 cr_c1
  by_cases h1 : a ≤ n <;> by_cases h2 : n ≤ b <;> simp [h1, h2]
theorem rcr_eq (n a b : Int) : rcr_r0 n a b = if a ≤ n ∧ n ≤ b then 0 else 3 := by
  unfold rcr_r0 rcr_c0 rcr_c1
  by_cases h1 : n < a
  · rw [if_neg (by omega)]; simp [h1]
  · by_cases h2 : n > b
    · rw [if_neg (by omega)]; simp [h1, h2]
    · rw [if_pos (by omega)]; simp [h1, h2]
theorem cr_rcr (n a b : Int) : rcr_r0 n a b = cr_r0 n a b := by rw [cr_eq, rcr_eq]
theorem rcp_eq (l s a : Int) : rcp_r0 l s a = cp_r0 l s a := by
  unfold rcp_r0 cp_r0 rcp_c0 rcp_c1 rcp_c2 cp_c0 cp_c1 cp_c2
  simp only [cr_rcr]
theorem rcd_eq (l g b : Int) : rcd_r0 l g b = cd_r0 l g b := by
  unfold rcd_r0 cd_r0 rcd_c0 rcd_c1 rcd_c2 cd_c0 cd_c1 cd_c2 rwq_r0 wh_r0 rwq_c0 wh_c0
  simp only [cr_rcr]
theorem cr_zero {n a b : Int} : (cr_r0 n a b != 0) = false ↔ (a ≤ n ∧ n ≤ b) := by
  rw [cr_eq]
  by_cases h : a ≤ n ∧ n ≤ b
  · simp [h]
  · rw [if_neg h]; simp [h]
theorem cp_zero {l s a : Int} : (cp_r0 l s a != 0) = false ↔ (1 ≤ l ∧ l ≤ 30 ∧ 1 ≤ s ∧ s ≤ l ∧ 0 ≤ a ∧ a + 1 ≤ s) := by
  unfold cp_r0 cp_c0 cp_c1 cp_c2
  constructor
  · intro h
    cases h1 : (cr_r0 l 1 30 != 0) with
    | true => rw [h1] at h; simp only [cond_true] at h; rw [h] at h1; cases h1
    | false =>
      rw [h1] at h
      cases h2 : (cr_r0 s 1 l != 0) with
      | true => rw [h2] at h; simp only [cond_true, cond_false] at h; rw [h] at h2; cases h2
      | false =>
        rw [h2] at h
        cases h3 : (cr_r0 a 0 (IntKind.i64.wrap (s - 1)) != 0) with
        | true => rw [h3] at h; simp only [cond_true, cond_false] at h; rw [h] at h3; cases h3
        | false =>
          have a1 := cr_zero.1 h1
          have a2 := cr_zero.1 h2
          have a3 := cr_zero.1 h3
          rw [wSmall (by omega) (by omega)] at a3
          omega
  · intro h
    have h1 : (cr_r0 l 1 30 != 0) = false := cr_zero.2 (by omega)
    have h2 : (cr_r0 s 1 l != 0) = false := cr_zero.2 (by omega)
    have h3 : (cr_r0 a 0 (IntKind.i64.wrap (s - 1)) != 0) = false := cr_zero.2 (by rw [wSmall (by omega) (by omega)]; omega)
    rw [h1, h2, h3]; rfl
theorem cd_zero {l g b : Int} : (cd_r0 l g b != 0) = false ↔ (0 ≤ g ∧ g ≤ l ∧ 0 ≤ b ∧ b ≤ l ∧ g < b) := by
  unfold cd_r0 cd_c0 cd_c1 cd_c2 wh_r0 wh_c0
  by_cases h1 : 0 ≤ g ∧ g ≤ l
  · have e1 : (cr_r0 g 0 l != 0) = false := cr_zero.2 h1
    by_cases h2 : 0 ≤ b ∧ b ≤ l
    · have e2 : (cr_r0 b 0 l != 0) = false := cr_zero.2 h2
      rw [e1, e2]
      by_cases h3 : b ≤ g
      · simp [h3] <;> omega
      · simp [h3] <;> omega
    · have e2 : (cr_r0 b 0 l != 0) = true := by
        cases h : (cr_r0 b 0 l != 0) with
        | true => rfl
        | false => exact absurd (cr_zero.1 h) h2
      rw [e1, e2]
      simp only [cond_true, cond_false, e2]
      constructor
      · intro h; cases h
      · intro h; omega
  · have e1 : (cr_r0 g 0 l != 0) = true := by
      cases h : (cr_r0 g 0 l != 0) with
      | true => rfl
      | false => exact absurd (cr_zero.1 h) h1
    rw [e1]
    simp only [cond_true, e1]
    constructor
    · intro h; cases h
    · intro h; omega
/-- Errors, and what comes with them. -/
def eA (l s a d : Int) : Int := cond (cp_r0 l s a != 0) (cp_r0 l s a) (cr_r0 d 0 l)
def acN (l s a d : Int) : Int := cond (eA l s a d != 0) 0 (apN l s a d)
def acD (l s a d : Int) : Int := cond (eA l s a d != 0) 0 (apD l s a d)
def eR (l s a g b : Int) : Int := cond (cp_r0 l s a != 0) (cp_r0 l s a) (cd_r0 l g b)
def rN (l s a g : Int) : Int := IntKind.i64.wrap (apD l s a g - apN l s a g)
theorem eA_okA {l s a d : Int} (h1 : (cp_r0 l s a != 0) = false) (h2 : (cr_r0 d 0 l != 0) = false) : okA l s a d = true := by
  have := cp_zero.1 h1
  have := cr_zero.1 h2
  exact decide_eq_true (by omega)
theorem eR_okA {l s a g b : Int} (h1 : (cp_r0 l s a != 0) = false) (h2 : (cd_r0 l g b != 0) = false) : okA l s a g = true ∧ okA l s a b = true := by
  have := cp_zero.1 h1
  have := cd_zero.1 h2
  exact ⟨decide_eq_true (by omega), decide_eq_true (by omega)⟩
theorem g42 (l s a d : Int) : Gives Tryz.prog envD 0 42 [.agg #[I l, I s, I a], I d] heapN (.tuple #[.agg #[I (acN l s a d), I (acD l s a d)], I (eA l s a d)], heapN) := by
  unfold acN acD eA
  cases h1 : (cp_r0 l s a != 0) with
  | true => rw [cond_true, h1]; exact ac1_p0 l s a d h1
  | false =>
    rw [cond_false]
    cases h2 : (cr_r0 d 0 l != 0) with
    | true => exact ac2_p0 l s a d h1 h2
    | false =>
      have hz : cr_r0 d 0 l = 0 := by simpa using h2
      rw [hz]
      exact ac3_p0 l s a d _ _ h1 h2 (u106 (eA_okA h1 h2))
theorem g43 (l s a g b : Int) : Gives Tryz.prog envD 0 43 [.agg #[I l, I s, I a], I g, I b] heapN (.tuple #[.agg #[I (cond (eR l s a g b != 0) 0 (rN l s a g)), I (cond (eR l s a g b != 0) 0 (apD l s a g)), I (cond (eR l s a g b != 0) 0 (apN l s a b)), I (cond (eR l s a g b != 0) 0 (apD l s a b))], I (eR l s a g b)], heapN) := by
  unfold eR
  cases h1 : (cp_r0 l s a != 0) with
  | true => rw [cond_true, h1]; exact rs1_p0 l s a g b h1
  | false =>
    rw [cond_false]
    cases h2 : (cd_r0 l g b != 0) with
    | true => exact rs2_p0 l s a g b h1 h2
    | false =>
      have hz : cd_r0 l g b = 0 := by simpa using h2
      rw [hz]
      exact rs3_p0 l s a g b _ _ _ _ h1 h2 (u106 (eR_okA h1 h2).1) (u106 (eR_okA h1 h2).2)
theorem g48 {l s a g b : Int} (h : (okA l s a g && okA l s a b) = true) : Gives Tryz.prog envD 0 48 [.agg #[I l, I s, I a], I g, I b] heapN (.agg #[I (rN l s a g), I (apD l s a g), I (apN l s a b), I (apD l s a b)], heapN) := by
  simp only [Bool.and_eq_true] at h
  exact rr_p0 l s a g b _ _ _ _ (u47 h.1) (u47 h.2)
theorem g108 {l s a g b : Int} (h : (okA l s a g && okA l s a b) = true) : Gives Tryz.prog envD 0 108 [.agg #[I l, I s, I a], I g, I b] heapN (.agg #[I (rN l s a g), I (apD l s a g), I (apN l s a b), I (apD l s a b)], heapN) := by
  simp only [Bool.and_eq_true] at h
  exact rk_p0 l s a g b _ _ _ _ (u106 h.1) (u106 h.2)
def B_envE (f : FuncId) (args : List Value) : Option (Heap × Value) :=
  if f == 42 then
    match args with
    | [.agg ⟨[.int .i64 l, .int .i64 s, .int .i64 a]⟩, .int .i64 d] => some (heapN, .tuple #[.agg #[.int .i64 (acN l s a d), .int .i64 (acD l s a d)], .int .i64 (eA l s a d)])
    | _ => none
  else  if f == 43 then
    match args with
    | [.agg ⟨[.int .i64 l, .int .i64 s, .int .i64 a]⟩, .int .i64 g, .int .i64 b] => some (heapN, .tuple #[.agg #[.int .i64 (cond (eR l s a g b != 0) 0 (rN l s a g)), .int .i64 (cond (eR l s a g b != 0) 0 (apD l s a g)), .int .i64 (cond (eR l s a g b != 0) 0 (apN l s a b)), .int .i64 (cond (eR l s a g b != 0) 0 (apD l s a b))], .int .i64 (eR l s a g b)])
    | _ => none
  else  if f == 48 then
    match args with
    | [.agg ⟨[.int .i64 l, .int .i64 s, .int .i64 a]⟩, .int .i64 g, .int .i64 b] => if okA l s a g && okA l s a b then some (heapN, .agg #[.int .i64 (rN l s a g), .int .i64 (apD l s a g), .int .i64 (apN l s a b), .int .i64 (apD l s a b)]) else none
    | _ => none
  else  if f == 108 then
    match args with
    | [.agg ⟨[.int .i64 l, .int .i64 s, .int .i64 a]⟩, .int .i64 g, .int .i64 b] => if okA l s a g && okA l s a b then some (heapN, .agg #[.int .i64 (rN l s a g), .int .i64 (apD l s a g), .int .i64 (apN l s a b), .int .i64 (apD l s a b)]) else none
    | _ => none
  else none
noncomputable def envE : Env := envD.with (baseKnown B_envE)
theorem envE_ok : EnvOK Tryz.prog 0 envE := env_base prog_ok envD_ok fun f args H v h => by
  unfold B_envE at h
  split at h
  · rename_i hf
    have hf : f = 42 := by simpa using hf
    subst hf
    split at h
    · cases h; exact heapN_ok (g42 _ _ _ _)
    · cases h
  · skip
    split at h
    · rename_i hf
      have hf : f = 43 := by simpa using hf
      subst hf
      split at h
      · cases h; exact heapN_ok (g43 _ _ _ _ _)
      · cases h
    · skip
      split at h
      · rename_i hf
        have hf : f = 48 := by simpa using hf
        subst hf
        split at h
        · split at h
          · rename_i hl; cases h; exact heapN_ok (g48 hl)
          · cases h
        · cases h
      · skip
        split at h
        · rename_i hf
          have hf : f = 108 := by simpa using hf
          subst hf
          split at h
          · split at h
            · rename_i hl; cases h; exact heapN_ok (g108 hl)
            · cases h
          · cases h
        · skip
          cases h
end Go.Proofs.YtinkgnklhcjejaaGreat
/-
The loops that decide.
-/
namespace Go.Proofs.YtinkgnklhcjejaaGreat
open Go Go.Abs
theorem u72 : Tryz.prog.underlying 72 = some (.slice 4) := by kernel_rfl
theorem u4 : Tryz.prog.underlying 4 = some .bool := by kernel_rfl
theorem i4' : (Tryz.prog.info? 4).map (·.size) = some 1 := by kernel_rfl
theorem i4 : ∃ ti, Tryz.prog.info? 4 = some ti ∧ ti.size = 1 := Option.map_eq_some_iff.1 i4'
theorem ix_b {r n c : Nat} {i : Nat} (h1 : i < n) : aIndexAddr Tryz.prog 72 (.slice (some ⟨r, 0, none⟩) n c) (I i) = some (.pointer (some ⟨r, i, none⟩)) := by
  obtain ⟨ti, h, hs⟩ := i4
  have := idx_el (r := r) (c := c) u72 h hs (i := (i : Int)) (n := n) (by omega) (by omega)
  simpa using this
theorem ld_b {A : Heap} {r k e : Nat} {u : Use} {l : List Bool} (hr : hget A r = some (.cells (bls l) e u)) (hk : k < l.length) {b : Bool} (hb : l.getD k false = b) : aLoad Tryz.prog 4 (.pointer (some ⟨r, k, none⟩)) A = some (.bool b) := by
  rw [← hb]; exact ld_bool u4 hr hk
/-- At these results it is certain. -/
def certP (s a : Int) (xs : List Bool) (k : Nat) : Bool := decide ((cntB xs (k + 1) : Int) > a) || decide (((k + 1 : Nat) : Int) - cntB xs (k + 1) ≥ s - a)
def de_S (l s a : Int) (xs : List Bool) (c e : Nat) (u : Use) (r2 : Option ARow) (v0 v1 v3 v7 v12 v13 v14 v15 v16 v17 v18 v19 v20 v21 v22 v23 v24 : Value) (jj : Nat) (lls : List Value) (hhp : Heap) : Prop := hhp = [some (.cells (bls xs) e u), some (.cells [I l, I s, I a] 74 .var), r2] ∧ ∃ v4 v5 v6 v9 v10 v11 v28 v29 v30 v31 v32 v33 v34 v35 v36 v37 v38 v39 v40 v41 v42 v43 v44 v45 v46 v47 v48 v49 v50 v51 v52 v53 v54 : Value, lls = [v0, v1, pt 1 0, v3, v4, v5, v6, v7, I (cntB xs jj : Int), v9, v10, v11, v12, v13, v14, v15, v16, v17, v18, v19, v20, v21, v22, v23, v24, sl 0 0 xs.length c, I (xs.length : Int), I (jj : Int), v28, v29, v30, v31, v32, v33, v34, v35, v36, v37, v38, v39, v40, v41, v42, v43, v44, v45, v46, v47, v48, v49, v50, v51, v52, v53, v54]
def de_R (l s a : Int) (xs : List Bool) (c e : Nat) (u : Use) (r2 : Option ARow) (v0 v1 v3 v7 v12 v13 v14 v15 v16 v17 v18 v19 v20 v21 v22 v23 v24 : Value) (jj : Nat) (lls : List Value) (hhp : Heap) : Prop := hhp = [some (.cells (bls xs) e u), some (.cells [I l, I s, I a] 74 .var), r2] ∧ ∃ v2 v8 v9 v10 v11 v25 v26 v27 v28 v29 v30 v31 v32 v33 v34 v35 v36 v37 v38 v39 v40 v41 v42 v43 v44 v45 v46 v47 v48 v49 v50 v51 v52 v53 v54 : Value, lls = [v0, v1, v2, v3, .bool (decide ((cntB xs (jj + 1) : Int) ≤ a)), I ((jj + 1 : Nat) : Int), I 0, v7, v8, v9, v10, v11, v12, v13, v14, v15, v16, v17, v18, v19, v20, v21, v22, v23, v24, v25, v26, v27, v28, v29, v30, v31, v32, v33, v34, v35, v36, v37, v38, v39, v40, v41, v42, v43, v44, v45, v46, v47, v48, v49, v50, v51, v52, v53, v54]
def de_T (l s a : Int) (xs : List Bool) (c e : Nat) (u : Use) (r2 : Option ARow) (v0 v1 v3 v7 v12 v13 v14 v15 v16 v17 v18 v19 v20 v21 v22 v23 v24 : Value) (lls : List Value) (hhp : Heap) : Prop := hhp = [some (.cells (bls xs) e u), some (.cells [I l, I s, I a] 74 .var), r2] ∧ ∃ v2 v4 v5 v6 v8 v9 v10 v11 v25 v26 v27 v28 v29 v30 v31 v32 v33 v34 v35 v36 v37 v38 v39 v40 v41 v42 v43 v44 v45 v46 v47 v48 v49 v50 v51 v52 v53 v54 : Value, lls = [v0, v1, v2, v3, v4, v5, v6, v7, v8, v9, v10, v11, v12, v13, v14, v15, v16, v17, v18, v19, v20, v21, v22, v23, v24, v25, v26, v27, v28, v29, v30, v31, v32, v33, v34, v35, v36, v37, v38, v39, v40, v41, v42, v43, v44, v45, v46, v47, v48, v49, v50, v51, v52, v53, v54]
theorem de_loop (l s a : Int) (xs : List Bool) (c e : Nat) (u : Use) (r2 : Option ARow) (v0 v1 v3 v7 v12 v13 v14 v15 v16 v17 v18 v19 v20 v21 v22 v23 v24 : Value) (hs : 1 ≤ s ∧ s ≤ 30) (ha : 0 ≤ a ∧ a < s) (hn : (xs.length : Int) ≤ s) : ∀ lls hhp, de_S l s a xs c e u r2 v0 v1 v3 v7 v12 v13 v14 v15 v16 v17 v18 v19 v20 v21 v22 v23 v24 0 lls hhp →
    (∃ k lls' hhp', firstP (certP s a xs) 0 xs.length = some k ∧ de_R l s a xs c e u r2 v0 v1 v3 v7 v12 v13 v14 v15 v16 v17 v18 v19 v20 v21 v22 v23 v24 k lls' hhp' ∧ Runs Tryz.prog envD 1 [.inLoop (round 0 (bodyOf 44)), .inBlock 0] lls hhp (lls', hhp', some .ret)) ∨ (firstP (certP s a xs) 0 xs.length = none ∧ ∃ lls' hhp', de_T l s a xs c e u r2 v0 v1 v3 v7 v12 v13 v14 v15 v16 v17 v18 v19 v20 v21 v22 v23 v24 lls' hhp' ∧ Runs Tryz.prog envD 1 [.inLoop (round 0 (bodyOf 44)), .inBlock 0] lls hhp (lls', hhp', none)) := by
  refine fun lls hhp h => loop_first (n := xs.length) (certP s a xs) (de_S l s a xs c e u r2 v0 v1 v3 v7 v12 v13 v14 v15 v16 v17 v18 v19 v20 v21 v22 v23 v24) (de_R l s a xs c e u r2 v0 v1 v3 v7 v12 v13 v14 v15 v16 v17 v18 v19 v20 v21 v22 v23 v24) (de_T l s a xs c e u r2 v0 v1 v3 v7 v12 v13 v14 v15 v16 v17 v18 v19 v20 v21 v22 v23 v24) ?_ ?_ ?_ h
  · rintro jj hjj hp lls hhp ⟨rfl, v4, v5, v6, v9, v10, v11, v28, v29, v30, v31, v32, v33, v34, v35, v36, v37, v38, v39, v40, v41, v42, v43, v44, v45, v46, v47, v48, v49, v50, v51, v52, v53, v54, rfl⟩
    have hq := cntB_le xs jj
    have w1 : IntKind.i64.wrap ((jj : Int) + 1) = ((jj + 1 : Nat) : Int) := wrap_s (by omega)
    have w2 : IntKind.i64.wrap ((cntB xs jj : Int) + 1) = ((cntB xs jj + 1 : Nat) : Int) := wrap_s (by omega)
    have w3 : ∀ x y : Nat, x ≤ 100 → y ≤ 100 → IntKind.i64.wrap ((x : Int) - y) = x - y := fun x y _ _ => wSmall (by omega) (by omega)
    have w4 : IntKind.i64.wrap (s - a) = s - a := wSmall (by omega) (by omega)
    have w5 : ∀ x : Nat, x ≤ 100 → IntKind.i64.wrap (IntKind.i64.wrap (IntKind.i64.wrap ((x : Int) + s) - jj) - 1) = x + s - jj - 1 := fun x _ => by
      rw [wSmall (x := (x : Int) + s) (by omega) (by omega), wSmall (x := (x : Int) + s - jj) (by omega) (by omega), wSmall (by omega) (by omega)]
    unfold certP at hp
    simp only [Bool.or_eq_false_iff, decide_eq_false_iff_not] at hp
    cases hb : xs.getD jj false with
    | true =>
      have hc : cntB xs (jj + 1) = cntB xs jj + 1 := by rw [cntB_succ hjj, hb]; rfl
      rw [hc] at hp
      have h := dtA_p0 v0 v1 v3 v4 v5 v6 v7 v9 v10 v11 v12 v13 v14 v15 v16 v17 v18 v19 v20 v21 v22 v23 v24 v28 v29 v30 v31 v32 v33 v34 v35 v36 v37 v38 v39 v40 v41 v42 v43 v44 v45 v46 v47 v48 v49 v50 v51 v52 v53 v54 (xs.length) (c) (jj) (l) (s) (a) (jj) (cntB xs jj) (some (.cells (bls xs) e u)) (r2) (decide_eq_true (by omega)) (ix_b (by omega)) (ld_b rfl hjj hb) (by rw [w2]; exact decide_eq_false (by omega)) (by rw [w1, w2, w3 _ _ (by omega) (by omega), w4]; exact decide_eq_false (by omega))
      rw [w1, w2] at h
      refine ⟨_, _, ?_, h⟩
      unfold de_S
      rw [hc]
      exact ⟨rfl, _, _, _, _, _, _, _, _, _, _, _, _, _, _, _, _, _, _, _, _, _, _, _, _, _, _, _, _, _, _, _, _, _, rfl⟩
    | false =>
      have hc : cntB xs (jj + 1) = cntB xs jj := by rw [cntB_succ hjj, hb]; rfl
      rw [hc] at hp
      have h := dfA_p0 v0 v1 v3 v4 v5 v6 v7 v9 v10 v11 v12 v13 v14 v15 v16 v17 v18 v19 v20 v21 v22 v23 v24 v28 v29 v30 v31 v32 v33 v34 v35 v36 v37 v38 v39 v40 v41 v42 v43 v44 v45 v46 v47 v48 v49 v50 v51 v52 v53 v54 (xs.length) (c) (jj) (l) (s) (a) (jj) (cntB xs jj) (some (.cells (bls xs) e u)) (r2) (decide_eq_true (by omega)) (ix_b (by omega)) (ld_b rfl hjj hb) (by exact decide_eq_false (by omega)) (by rw [w1, w3 _ _ (by omega) (by omega), w4]; exact decide_eq_false (by omega))
      rw [w1] at h
      refine ⟨_, _, ?_, h⟩
      unfold de_S
      rw [hc]
      exact ⟨rfl, _, _, _, _, _, _, _, _, _, _, _, _, _, _, _, _, _, _, _, _, _, _, _, _, _, _, _, _, _, _, _, _, _, rfl⟩
  · rintro jj hjj hp lls hhp ⟨rfl, v4, v5, v6, v9, v10, v11, v28, v29, v30, v31, v32, v33, v34, v35, v36, v37, v38, v39, v40, v41, v42, v43, v44, v45, v46, v47, v48, v49, v50, v51, v52, v53, v54, rfl⟩
    have hq := cntB_le xs jj
    have w1 : IntKind.i64.wrap ((jj : Int) + 1) = ((jj + 1 : Nat) : Int) := wrap_s (by omega)
    have w2 : IntKind.i64.wrap ((cntB xs jj : Int) + 1) = ((cntB xs jj + 1 : Nat) : Int) := wrap_s (by omega)
    have w3 : ∀ x y : Nat, x ≤ 100 → y ≤ 100 → IntKind.i64.wrap ((x : Int) - y) = x - y := fun x y _ _ => wSmall (by omega) (by omega)
    have w4 : IntKind.i64.wrap (s - a) = s - a := wSmall (by omega) (by omega)
    have w5 : ∀ x : Nat, x ≤ 100 → IntKind.i64.wrap (IntKind.i64.wrap (IntKind.i64.wrap ((x : Int) + s) - jj) - 1) = x + s - jj - 1 := fun x _ => by
      rw [wSmall (x := (x : Int) + s) (by omega) (by omega), wSmall (x := (x : Int) + s - jj) (by omega) (by omega), wSmall (by omega) (by omega)]
    unfold certP at hp
    simp only [Bool.or_eq_true, decide_eq_true_eq] at hp
    cases hb : xs.getD jj false with
    | true =>
      have hc : cntB xs (jj + 1) = cntB xs jj + 1 := by rw [cntB_succ hjj, hb]; rfl
      rw [hc] at hp
      by_cases h2 : ((cntB xs jj + 1 : Nat) : Int) > a
      · have h := dtB_p0 v0 v1 v3 v4 v5 v6 v7 v9 v10 v11 v12 v13 v14 v15 v16 v17 v18 v19 v20 v21 v22 v23 v24 v28 v29 v30 v31 v32 v33 v34 v35 v36 v37 v38 v39 v40 v41 v42 v43 v44 v45 v46 v47 v48 v49 v50 v51 v52 v53 v54 (xs.length) (c) (jj) (l) (s) (a) (jj) (cntB xs jj) (some (.cells (bls xs) e u)) (r2) (decide_eq_true (by omega)) (ix_b (by omega)) (ld_b rfl hjj hb) (by rw [w2]; exact decide_eq_true (by omega))
        rw [w1] at h
        refine ⟨_, _, ?_, h⟩
        unfold de_R
        rw [hc, decide_eq_false (show ¬ ((cntB xs jj + 1 : Nat) : Int) ≤ a by omega)]
        exact ⟨rfl, _, _, _, _, _, _, _, _, _, _, _, _, _, _, _, _, _, _, _, _, _, _, _, _, _, _, _, _, _, _, _, _, _, _, _, rfl⟩
      · have h3 := hp.resolve_left h2
        have h := dtD_p0 v0 v1 v3 v4 v5 v6 v7 v9 v10 v11 v12 v13 v14 v15 v16 v17 v18 v19 v20 v21 v22 v23 v24 v28 v29 v30 v31 v32 v33 v34 v35 v36 v37 v38 v39 v40 v41 v42 v43 v44 v45 v46 v47 v48 v49 v50 v51 v52 v53 v54 (xs.length) (c) (jj) (l) (s) (a) (jj) (cntB xs jj) (some (.cells (bls xs) e u)) (r2) (decide_eq_true (by omega)) (ix_b (by omega)) (ld_b rfl hjj hb) (by rw [w2]; exact decide_eq_false (by omega)) (by rw [w1, w2, w3 _ _ (by omega) (by omega), w4]; exact decide_eq_true (by omega))
        rw [w1] at h
        refine ⟨_, _, ?_, h⟩
        unfold de_R
        rw [hc, decide_eq_true (show ((cntB xs jj + 1 : Nat) : Int) ≤ a by omega)]
        exact ⟨rfl, _, _, _, _, _, _, _, _, _, _, _, _, _, _, _, _, _, _, _, _, _, _, _, _, _, _, _, _, _, _, _, _, _, _, _, rfl⟩
    | false =>
      have hc : cntB xs (jj + 1) = cntB xs jj := by rw [cntB_succ hjj, hb]; rfl
      rw [hc] at hp
      by_cases h2 : (cntB xs jj : Int) > a
      · have h := dfB_p0 v0 v1 v3 v4 v5 v6 v7 v9 v10 v11 v12 v13 v14 v15 v16 v17 v18 v19 v20 v21 v22 v23 v24 v28 v29 v30 v31 v32 v33 v34 v35 v36 v37 v38 v39 v40 v41 v42 v43 v44 v45 v46 v47 v48 v49 v50 v51 v52 v53 v54 (xs.length) (c) (jj) (l) (s) (a) (jj) (cntB xs jj) (some (.cells (bls xs) e u)) (r2) (decide_eq_true (by omega)) (ix_b (by omega)) (ld_b rfl hjj hb) (by exact decide_eq_true (by omega))
        rw [w1] at h
        refine ⟨_, _, ?_, h⟩
        unfold de_R
        rw [hc, decide_eq_false (show ¬ (cntB xs jj : Int) ≤ a by omega)]
        exact ⟨rfl, _, _, _, _, _, _, _, _, _, _, _, _, _, _, _, _, _, _, _, _, _, _, _, _, _, _, _, _, _, _, _, _, _, _, _, rfl⟩
      · have h3 := hp.resolve_left h2
        have h := dfD_p0 v0 v1 v3 v4 v5 v6 v7 v9 v10 v11 v12 v13 v14 v15 v16 v17 v18 v19 v20 v21 v22 v23 v24 v28 v29 v30 v31 v32 v33 v34 v35 v36 v37 v38 v39 v40 v41 v42 v43 v44 v45 v46 v47 v48 v49 v50 v51 v52 v53 v54 (xs.length) (c) (jj) (l) (s) (a) (jj) (cntB xs jj) (some (.cells (bls xs) e u)) (r2) (decide_eq_true (by omega)) (ix_b (by omega)) (ld_b rfl hjj hb) (by exact decide_eq_false (by omega)) (by rw [w1, w3 _ _ (by omega) (by omega), w4]; exact decide_eq_true (by omega))
        rw [w1] at h
        refine ⟨_, _, ?_, h⟩
        unfold de_R
        rw [hc, decide_eq_true (show (cntB xs jj : Int) ≤ a by omega)]
        exact ⟨rfl, _, _, _, _, _, _, _, _, _, _, _, _, _, _, _, _, _, _, _, _, _, _, _, _, _, _, _, _, _, _, _, _, _, _, _, rfl⟩
  · rintro lls hhp ⟨rfl, v4, v5, v6, v9, v10, v11, v28, v29, v30, v31, v32, v33, v34, v35, v36, v37, v38, v39, v40, v41, v42, v43, v44, v45, v46, v47, v48, v49, v50, v51, v52, v53, v54, rfl⟩
    have h := dC_p0 v0 v1 v3 v4 v5 v6 v7 v9 v10 v11 v12 v13 v14 v15 v16 v17 v18 v19 v20 v21 v22 v23 v24 v28 v29 v30 v31 v32 v33 v34 v35 v36 v37 v38 v39 v40 v41 v42 v43 v44 v45 v46 v47 v48 v49 v50 v51 v52 v53 v54 (xs.length) (c) (l) (s) (a) (xs.length) (cntB xs xs.length) (some (.cells (bls xs) e u)) (r2) (decide_eq_false (by omega))
    exact ⟨_, _, ⟨rfl, _, _, _, _, _, _, _, _, _, _, _, _, _, _, _, _, _, _, _, _, _, _, _, _, _, _, _, _, _, _, _, _, _, _, _, _, _, _, rfl⟩, h⟩
def dr_S (l s a : Int) (xs : List Bool) (c e : Nat) (u : Use) (v0 v3 v9 v10 v11 v12 v13 : Value) (jj : Nat) (lls : List Value) (hhp : Heap) : Prop := hhp = [some (.cells (bls xs) e u), some (.cells [I l, I s, I a] 71 .var)] ∧ ∃ v4 v5 v6 v14 v15 v16 v17 v18 v19 v20 v21 v22 v23 v24 v25 v26 v27 v28 v29 v30 v31 v32 v33 v34 v35 v36 v37 v38 v39 v40 v41 v42 v43 : Value, lls = [v0, sl 0 0 xs.length c, pt 1 0, v3, v4, v5, v6, I (cntB xs jj : Int), I (jj : Int), v9, v10, v11, v12, v13, v14, v15, v16, v17, v18, v19, v20, v21, v22, v23, v24, v25, v26, v27, v28, v29, v30, v31, v32, v33, v34, v35, v36, v37, v38, v39, v40, v41, v42, v43]
def dr_R (l s a : Int) (xs : List Bool) (c e : Nat) (u : Use) (v0 v3 v9 v10 v11 v12 v13 : Value) (jj : Nat) (lls : List Value) (hhp : Heap) : Prop := hhp = [some (.cells (bls xs) e u), some (.cells [I l, I s, I a] 71 .var)] ∧ ∃ v1 v2 v7 v8 v14 v15 v16 v17 v18 v19 v20 v21 v22 v23 v24 v25 v26 v27 v28 v29 v30 v31 v32 v33 v34 v35 v36 v37 v38 v39 v40 v41 v42 v43 : Value, lls = [v0, v1, v2, v3, .bool (decide ((cntB xs (jj + 1) : Int) ≤ a)), I ((jj + 1 : Nat) : Int), I 0, v7, v8, v9, v10, v11, v12, v13, v14, v15, v16, v17, v18, v19, v20, v21, v22, v23, v24, v25, v26, v27, v28, v29, v30, v31, v32, v33, v34, v35, v36, v37, v38, v39, v40, v41, v42, v43]
def dr_T (l s a : Int) (xs : List Bool) (c e : Nat) (u : Use) (v0 v3 v9 v10 v11 v12 v13 : Value) (lls : List Value) (hhp : Heap) : Prop := hhp = [some (.cells (bls xs) e u), some (.cells [I l, I s, I a] 71 .var)] ∧ ∃ v2 v4 v5 v6 v7 v8 v14 v15 v16 v17 v18 v19 v20 v21 v22 v23 v24 v25 v26 v27 v28 v29 v30 v31 v32 v33 v34 v35 v36 v37 v38 v39 v40 v41 v42 v43 : Value, lls = [v0, sl 0 0 xs.length c, v2, v3, v4, v5, v6, v7, v8, v9, v10, v11, v12, v13, v14, v15, v16, v17, v18, v19, v20, v21, v22, v23, v24, v25, v26, v27, v28, v29, v30, v31, v32, v33, v34, v35, v36, v37, v38, v39, v40, v41, v42, v43]
theorem dr_loop (l s a : Int) (xs : List Bool) (c e : Nat) (u : Use) (v0 v3 v9 v10 v11 v12 v13 : Value) (hs : 1 ≤ s ∧ s ≤ 30) (ha : 0 ≤ a ∧ a < s) (hn : (xs.length : Int) ≤ s) : ∀ lls hhp, dr_S l s a xs c e u v0 v3 v9 v10 v11 v12 v13 0 lls hhp →
    (∃ k lls' hhp', firstP (certP s a xs) 0 xs.length = some k ∧ dr_R l s a xs c e u v0 v3 v9 v10 v11 v12 v13 k lls' hhp' ∧ Runs Tryz.prog envD 1 [.inLoop (round 0 (bodyOf 49)), .inBlock 0] lls hhp (lls', hhp', some .ret)) ∨ (firstP (certP s a xs) 0 xs.length = none ∧ ∃ lls' hhp', dr_T l s a xs c e u v0 v3 v9 v10 v11 v12 v13 lls' hhp' ∧ Runs Tryz.prog envD 1 [.inLoop (round 0 (bodyOf 49)), .inBlock 0] lls hhp (lls', hhp', none)) := by
  refine fun lls hhp h => loop_first (n := xs.length) (certP s a xs) (dr_S l s a xs c e u v0 v3 v9 v10 v11 v12 v13) (dr_R l s a xs c e u v0 v3 v9 v10 v11 v12 v13) (dr_T l s a xs c e u v0 v3 v9 v10 v11 v12 v13) ?_ ?_ ?_ h
  · rintro jj hjj hp lls hhp ⟨rfl, v4, v5, v6, v14, v15, v16, v17, v18, v19, v20, v21, v22, v23, v24, v25, v26, v27, v28, v29, v30, v31, v32, v33, v34, v35, v36, v37, v38, v39, v40, v41, v42, v43, rfl⟩
    have hq := cntB_le xs jj
    have w1 : IntKind.i64.wrap ((jj : Int) + 1) = ((jj + 1 : Nat) : Int) := wrap_s (by omega)
    have w2 : IntKind.i64.wrap ((cntB xs jj : Int) + 1) = ((cntB xs jj + 1 : Nat) : Int) := wrap_s (by omega)
    have w3 : ∀ x y : Nat, x ≤ 100 → y ≤ 100 → IntKind.i64.wrap ((x : Int) - y) = x - y := fun x y _ _ => wSmall (by omega) (by omega)
    have w4 : IntKind.i64.wrap (s - a) = s - a := wSmall (by omega) (by omega)
    have w5 : ∀ x : Nat, x ≤ 100 → IntKind.i64.wrap (IntKind.i64.wrap (IntKind.i64.wrap ((x : Int) + s) - jj) - 1) = x + s - jj - 1 := fun x _ => by
      rw [wSmall (x := (x : Int) + s) (by omega) (by omega), wSmall (x := (x : Int) + s - jj) (by omega) (by omega), wSmall (by omega) (by omega)]
    unfold certP at hp
    simp only [Bool.or_eq_false_iff, decide_eq_false_iff_not] at hp
    cases hb : xs.getD jj false with
    | true =>
      have hc : cntB xs (jj + 1) = cntB xs jj + 1 := by rw [cntB_succ hjj, hb]; rfl
      rw [hc] at hp
      have h := etA_p0 v0 v3 v4 v5 v6 v9 v10 v11 v12 v13 v14 v15 v16 v17 v18 v19 v20 v21 v22 v23 v24 v25 v26 v27 v28 v29 v30 v31 v32 v33 v34 v35 v36 v37 v38 v39 v40 v41 v42 v43 (xs.length) (c) (jj) (l) (s) (a) (jj) (cntB xs jj) (some (.cells (bls xs) e u)) (decide_eq_true (by omega)) (ix_b (by omega)) (ld_b rfl hjj hb) (by rw [w2]; exact decide_eq_false (by omega)) (by rw [w2, w5 _ (by omega)]; exact decide_eq_false (by omega))
      rw [w1, w2] at h
      refine ⟨_, _, ?_, h⟩
      unfold dr_S
      rw [hc]
      exact ⟨rfl, _, _, _, _, _, _, _, _, _, _, _, _, _, _, _, _, _, _, _, _, _, _, _, _, _, _, _, _, _, _, _, _, _, rfl⟩
    | false =>
      have hc : cntB xs (jj + 1) = cntB xs jj := by rw [cntB_succ hjj, hb]; rfl
      rw [hc] at hp
      have h := efA_p0 v0 v3 v4 v5 v6 v9 v10 v11 v12 v13 v14 v15 v16 v17 v18 v19 v20 v21 v22 v23 v24 v25 v26 v27 v28 v29 v30 v31 v32 v33 v34 v35 v36 v37 v38 v39 v40 v41 v42 v43 (xs.length) (c) (jj) (l) (s) (a) (jj) (cntB xs jj) (some (.cells (bls xs) e u)) (decide_eq_true (by omega)) (ix_b (by omega)) (ld_b rfl hjj hb) (by exact decide_eq_false (by omega)) (by rw [w5 _ (by omega)]; exact decide_eq_false (by omega))
      rw [w1] at h
      refine ⟨_, _, ?_, h⟩
      unfold dr_S
      rw [hc]
      exact ⟨rfl, _, _, _, _, _, _, _, _, _, _, _, _, _, _, _, _, _, _, _, _, _, _, _, _, _, _, _, _, _, _, _, _, _, rfl⟩
  · rintro jj hjj hp lls hhp ⟨rfl, v4, v5, v6, v14, v15, v16, v17, v18, v19, v20, v21, v22, v23, v24, v25, v26, v27, v28, v29, v30, v31, v32, v33, v34, v35, v36, v37, v38, v39, v40, v41, v42, v43, rfl⟩
    have hq := cntB_le xs jj
    have w1 : IntKind.i64.wrap ((jj : Int) + 1) = ((jj + 1 : Nat) : Int) := wrap_s (by omega)
    have w2 : IntKind.i64.wrap ((cntB xs jj : Int) + 1) = ((cntB xs jj + 1 : Nat) : Int) := wrap_s (by omega)
    have w3 : ∀ x y : Nat, x ≤ 100 → y ≤ 100 → IntKind.i64.wrap ((x : Int) - y) = x - y := fun x y _ _ => wSmall (by omega) (by omega)
    have w4 : IntKind.i64.wrap (s - a) = s - a := wSmall (by omega) (by omega)
    have w5 : ∀ x : Nat, x ≤ 100 → IntKind.i64.wrap (IntKind.i64.wrap (IntKind.i64.wrap ((x : Int) + s) - jj) - 1) = x + s - jj - 1 := fun x _ => by
      rw [wSmall (x := (x : Int) + s) (by omega) (by omega), wSmall (x := (x : Int) + s - jj) (by omega) (by omega), wSmall (by omega) (by omega)]
    unfold certP at hp
    simp only [Bool.or_eq_true, decide_eq_true_eq] at hp
    cases hb : xs.getD jj false with
    | true =>
      have hc : cntB xs (jj + 1) = cntB xs jj + 1 := by rw [cntB_succ hjj, hb]; rfl
      rw [hc] at hp
      by_cases h2 : ((cntB xs jj + 1 : Nat) : Int) > a
      · have h := etB_p0 v0 v3 v4 v5 v6 v9 v10 v11 v12 v13 v14 v15 v16 v17 v18 v19 v20 v21 v22 v23 v24 v25 v26 v27 v28 v29 v30 v31 v32 v33 v34 v35 v36 v37 v38 v39 v40 v41 v42 v43 (xs.length) (c) (jj) (l) (s) (a) (jj) (cntB xs jj) (some (.cells (bls xs) e u)) (decide_eq_true (by omega)) (ix_b (by omega)) (ld_b rfl hjj hb) (by rw [w2]; exact decide_eq_true (by omega))
        rw [w1] at h
        refine ⟨_, _, ?_, h⟩
        unfold dr_R
        rw [hc, decide_eq_false (show ¬ ((cntB xs jj + 1 : Nat) : Int) ≤ a by omega)]
        exact ⟨rfl, _, _, _, _, _, _, _, _, _, _, _, _, _, _, _, _, _, _, _, _, _, _, _, _, _, _, _, _, _, _, _, _, _, _, rfl⟩
      · have h3 := hp.resolve_left h2
        have h := etD_p0 v0 v3 v4 v5 v6 v9 v10 v11 v12 v13 v14 v15 v16 v17 v18 v19 v20 v21 v22 v23 v24 v25 v26 v27 v28 v29 v30 v31 v32 v33 v34 v35 v36 v37 v38 v39 v40 v41 v42 v43 (xs.length) (c) (jj) (l) (s) (a) (jj) (cntB xs jj) (some (.cells (bls xs) e u)) (decide_eq_true (by omega)) (ix_b (by omega)) (ld_b rfl hjj hb) (by rw [w2]; exact decide_eq_false (by omega)) (by rw [w2, w5 _ (by omega)]; exact decide_eq_true (by omega))
        rw [w1] at h
        refine ⟨_, _, ?_, h⟩
        unfold dr_R
        rw [hc, decide_eq_true (show ((cntB xs jj + 1 : Nat) : Int) ≤ a by omega)]
        exact ⟨rfl, _, _, _, _, _, _, _, _, _, _, _, _, _, _, _, _, _, _, _, _, _, _, _, _, _, _, _, _, _, _, _, _, _, _, rfl⟩
    | false =>
      have hc : cntB xs (jj + 1) = cntB xs jj := by rw [cntB_succ hjj, hb]; rfl
      rw [hc] at hp
      by_cases h2 : (cntB xs jj : Int) > a
      · have h := efB_p0 v0 v3 v4 v5 v6 v9 v10 v11 v12 v13 v14 v15 v16 v17 v18 v19 v20 v21 v22 v23 v24 v25 v26 v27 v28 v29 v30 v31 v32 v33 v34 v35 v36 v37 v38 v39 v40 v41 v42 v43 (xs.length) (c) (jj) (l) (s) (a) (jj) (cntB xs jj) (some (.cells (bls xs) e u)) (decide_eq_true (by omega)) (ix_b (by omega)) (ld_b rfl hjj hb) (by exact decide_eq_true (by omega))
        rw [w1] at h
        refine ⟨_, _, ?_, h⟩
        unfold dr_R
        rw [hc, decide_eq_false (show ¬ (cntB xs jj : Int) ≤ a by omega)]
        exact ⟨rfl, _, _, _, _, _, _, _, _, _, _, _, _, _, _, _, _, _, _, _, _, _, _, _, _, _, _, _, _, _, _, _, _, _, _, rfl⟩
      · have h3 := hp.resolve_left h2
        have h := efD_p0 v0 v3 v4 v5 v6 v9 v10 v11 v12 v13 v14 v15 v16 v17 v18 v19 v20 v21 v22 v23 v24 v25 v26 v27 v28 v29 v30 v31 v32 v33 v34 v35 v36 v37 v38 v39 v40 v41 v42 v43 (xs.length) (c) (jj) (l) (s) (a) (jj) (cntB xs jj) (some (.cells (bls xs) e u)) (decide_eq_true (by omega)) (ix_b (by omega)) (ld_b rfl hjj hb) (by exact decide_eq_false (by omega)) (by rw [w5 _ (by omega)]; exact decide_eq_true (by omega))
        rw [w1] at h
        refine ⟨_, _, ?_, h⟩
        unfold dr_R
        rw [hc, decide_eq_true (show (cntB xs jj : Int) ≤ a by omega)]
        exact ⟨rfl, _, _, _, _, _, _, _, _, _, _, _, _, _, _, _, _, _, _, _, _, _, _, _, _, _, _, _, _, _, _, _, _, _, _, rfl⟩
  · rintro lls hhp ⟨rfl, v4, v5, v6, v14, v15, v16, v17, v18, v19, v20, v21, v22, v23, v24, v25, v26, v27, v28, v29, v30, v31, v32, v33, v34, v35, v36, v37, v38, v39, v40, v41, v42, v43, rfl⟩
    have h := eC_p0 v0 v3 v4 v5 v6 v9 v10 v11 v12 v13 v14 v15 v16 v17 v18 v19 v20 v21 v22 v23 v24 v25 v26 v27 v28 v29 v30 v31 v32 v33 v34 v35 v36 v37 v38 v39 v40 v41 v42 v43 (xs.length) (c) (l) (s) (a) (xs.length) (cntB xs xs.length) (some (.cells (bls xs) e u)) (decide_eq_false (by omega))
    exact ⟨_, _, ⟨rfl, _, _, _, _, _, _, _, _, _, _, _, _, _, _, _, _, _, _, _, _, _, _, _, _, _, _, _, _, _, _, _, _, _, _, _, _, rfl⟩, h⟩
end Go.Proofs.YtinkgnklhcjejaaGreat
/-
Decisions.
-/
namespace Go.Proofs.YtinkgnklhcjejaaGreat
open Go Go.Abs
theorem de1_p0 (l s a : Int) (n c : Nat) (r0 : Option ARow) (h1 : (cp_r0 l s a != 0) = true) : Gives Tryz.prog envD 0 44 [.agg #[I l, I s, I a], sl 0 0 n c] [r0] ((.tuple #[(.bool false), (I 0), (I (cp_r0 l s a))]), [r0]) :=
  Gives.by (n := 1000) (os := [.br 86 26 true, .br 44 48 true]) (os' := []) (by kernel_rfl) (ObsOK.cond h1 (ObsOK.cond h1 (ObsOK.nil)))
def de1_r2 (l : Int) (s : Int) (a : Int) (n : Nat) (c : Nat) (r0 : Option ARow) : Int := (cp_r0 l s a)
theorem de1_gives (l s a : Int) (n c : Nat) (r0 : Option ARow) (h1 : (cp_r0 l s a != 0) = true) : Gives Tryz.prog envD 0 44 [.agg #[I l, I s, I a], sl 0 0 n c] [r0] ((.tuple #[(.bool (false)), (I 0), (I (de1_r2 l s a n c r0))]), [r0]) := by
  simp only [de1_r2, cond_true, cond_false]; exact de1_p0 l s a n c r0 h1
theorem de2_p0 (l s a : Int) (n c : Nat) (r0 : Option ARow) (h1 : (cp_r0 l s a != 0) = false) (h2 : (wh_r0 (decide ((n : Int) > s)) 5 != 0) = true) : Gives Tryz.prog envD 0 44 [.agg #[I l, I s, I a], sl 0 0 n c] [r0] ((.tuple #[(.bool false), (I 0), (I (wh_r0 (decide ((n : Int) > s)) 5))]), [r0]) :=
  Gives.by (n := 1000) (os := [.br 86 26 false, .br 86 26 true, .br 44 48 true]) (os' := []) (by kernel_rfl) (ObsOK.cond h1 (ObsOK.cond h2 (ObsOK.cond h2 (ObsOK.nil))))
def de2_r2 (l : Int) (s : Int) (a : Int) (n : Nat) (c : Nat) (r0 : Option ARow) : Int := (wh_r0 (decide ((n : Int) > s)) 5)
theorem de2_gives (l s a : Int) (n c : Nat) (r0 : Option ARow) (h1 : (cp_r0 l s a != 0) = false) (h2 : (wh_r0 (decide ((n : Int) > s)) 5 != 0) = true) : Gives Tryz.prog envD 0 44 [.agg #[I l, I s, I a], sl 0 0 n c] [r0] ((.tuple #[(.bool (false)), (I 0), (I (de2_r2 l s a n c r0))]), [r0]) := by
  simp only [de2_r2, cond_true, cond_false]; exact de2_p0 l s a n c r0 h1 h2
theorem de3_p0 (l s a : Int) (n c : Nat) (r0 : Option ARow) (x : Bool) (y : Int) (h1 : (cp_r0 l s a != 0) = false) (h2 : (wh_r0 (decide ((n : Int) > s)) 5 != 0) = false) (w2 w8 w9 w10 w11 w25 w26 w27 w28 w29 w30 w31 w32 w33 w34 w35 w36 w37 w38 w39 w40 w41 w42 w43 w44 w45 w46 w47 w48 w49 w50 w51 w52 w53 w54 : Value) (hrun : Runs Tryz.prog envD 1 [.code (blk 0 (bodyOf 44))] [(.agg #[I l, I s, I a]), (sl 0 0 n c), (pt 1 0), U, (.bool false), (I 0), (I 0), (I 0), (I 0), U, U, U, (.agg #[I l, I s, I a]), (I (cp_r0 l s a)), (sl 0 0 n c), (I ((n : Int))), (pt 1 1), I s, (.bool (decide ((n : Int) > s))), (I (wh_r0 (decide ((n : Int) > s)) 5)), (sl 2 0 2 2), (I 0), (I 0), (.bool false), U, (sl 0 0 n c), (I ((n : Int))), (I 0), U, U, U, U, U, U, U, U, U, U, U, U, U, U, U, U, U, U, U, U, U, U, U, U, U, U, U] [r0, (.some (.cells [I l, I s, I a] 74 .var)), (.some (.cells [(I (cp_r0 l s a)), (I (wh_r0 (decide ((n : Int) > s)) 5))] 31 .row))] ([(.agg #[I l, I s, I a]), (sl 0 0 n c), w2, U, .bool x, I y, I 0, (I 0), w8, w9, w10, w11, (.agg #[I l, I s, I a]), (I (cp_r0 l s a)), (sl 0 0 n c), (I ((n : Int))), (pt 1 1), I s, (.bool (decide ((n : Int) > s))), (I (wh_r0 (decide ((n : Int) > s)) 5)), (sl 2 0 2 2), (I 0), (I 0), (.bool false), U, w25, w26, w27, w28, w29, w30, w31, w32, w33, w34, w35, w36, w37, w38, w39, w40, w41, w42, w43, w44, w45, w46, w47, w48, w49, w50, w51, w52, w53, w54], [r0, (.some (.cells [I l, I s, I a] 74 .var)), (.some (.cells [(I (cp_r0 l s a)), (I (wh_r0 (decide ((n : Int) > s)) 5))] 31 .row))], some .ret)) : Gives Tryz.prog envD 0 44 [.agg #[I l, I s, I a], sl 0 0 n c] [r0] ((.tuple #[(.bool x), I y, (I 0)]), [r0]) :=
  Gives.by (n := 1000) (os := [.br 86 26 false, .br 86 26 false, .ret 44 0 [(.agg #[I l, I s, I a]), (sl 0 0 n c), w2, U, (.bool x), I y, (I 0), (I 0), w8, w9, w10, w11, (.agg #[I l, I s, I a]), (I (cp_r0 l s a)), (sl 0 0 n c), (I ((n : Int))), (pt 1 1), I s, (.bool (decide ((n : Int) > s))), (I (wh_r0 (decide ((n : Int) > s)) 5)), (sl 2 0 2 2), (I 0), (I 0), (.bool false), U, w25, w26, w27, w28, w29, w30, w31, w32, w33, w34, w35, w36, w37, w38, w39, w40, w41, w42, w43, w44, w45, w46, w47, w48, w49, w50, w51, w52, w53, w54] [r0, (.some (.cells [I l, I s, I a] 74 .var)), (.some (.cells [(I (cp_r0 l s a)), (I (wh_r0 (decide ((n : Int) > s)) 5))] 31 .row))]]) (os' := []) (by kernel_rfl) (ObsOK.cond h1 (ObsOK.cond h2 (ObsOK.run hrun (ObsOK.nil))))
theorem de3_gives (l s a : Int) (n c : Nat) (r0 : Option ARow) (x : Bool) (y : Int) (h1 : (cp_r0 l s a != 0) = false) (h2 : (wh_r0 (decide ((n : Int) > s)) 5 != 0) = false) (w2 w8 w9 w10 w11 w25 w26 w27 w28 w29 w30 w31 w32 w33 w34 w35 w36 w37 w38 w39 w40 w41 w42 w43 w44 w45 w46 w47 w48 w49 w50 w51 w52 w53 w54 : Value) (hrun : Runs Tryz.prog envD 1 [.code (blk 0 (bodyOf 44))] [(.agg #[I l, I s, I a]), (sl 0 0 n c), (pt 1 0), U, (.bool false), (I 0), (I 0), (I 0), (I 0), U, U, U, (.agg #[I l, I s, I a]), (I (cp_r0 l s a)), (sl 0 0 n c), (I ((n : Int))), (pt 1 1), I s, (.bool (decide ((n : Int) > s))), (I (wh_r0 (decide ((n : Int) > s)) 5)), (sl 2 0 2 2), (I 0), (I 0), (.bool false), U, (sl 0 0 n c), (I ((n : Int))), (I 0), U, U, U, U, U, U, U, U, U, U, U, U, U, U, U, U, U, U, U, U, U, U, U, U, U, U, U] [r0, (.some (.cells [I l, I s, I a] 74 .var)), (.some (.cells [(I (cp_r0 l s a)), (I (wh_r0 (decide ((n : Int) > s)) 5))] 31 .row))] ([(.agg #[I l, I s, I a]), (sl 0 0 n c), w2, U, .bool x, I y, I 0, (I 0), w8, w9, w10, w11, (.agg #[I l, I s, I a]), (I (cp_r0 l s a)), (sl 0 0 n c), (I ((n : Int))), (pt 1 1), I s, (.bool (decide ((n : Int) > s))), (I (wh_r0 (decide ((n : Int) > s)) 5)), (sl 2 0 2 2), (I 0), (I 0), (.bool false), U, w25, w26, w27, w28, w29, w30, w31, w32, w33, w34, w35, w36, w37, w38, w39, w40, w41, w42, w43, w44, w45, w46, w47, w48, w49, w50, w51, w52, w53, w54], [r0, (.some (.cells [I l, I s, I a] 74 .var)), (.some (.cells [(I (cp_r0 l s a)), (I (wh_r0 (decide ((n : Int) > s)) 5))] 31 .row))], some .ret)) : Gives Tryz.prog envD 0 44 [.agg #[I l, I s, I a], sl 0 0 n c] [r0] ((.tuple #[(.bool (x)), (I y), (I 0)]), [r0]) := by
  exact de3_p0 l s a n c r0 x y h1 h2 w2 w8 w9 w10 w11 w25 w26 w27 w28 w29 w30 w31 w32 w33 w34 w35 w36 w37 w38 w39 w40 w41 w42 w43 w44 w45 w46 w47 w48 w49 w50 w51 w52 w53 w54 hrun
theorem de4_p0 (l s a : Int) (n c : Nat) (r0 : Option ARow) (h1 : (cp_r0 l s a != 0) = false) (h2 : (wh_r0 (decide ((n : Int) > s)) 5 != 0) = false) (w2 w4 w5 w6 w8 w9 w10 w11 w25 w26 w27 w28 w29 w30 w31 w32 w33 w34 w35 w36 w37 w38 w39 w40 w41 w42 w43 w44 w45 w46 w47 w48 w49 w50 w51 w52 w53 w54 : Value) (hrun : Runs Tryz.prog envD 1 [.code (blk 0 (bodyOf 44))] [(.agg #[I l, I s, I a]), (sl 0 0 n c), (pt 1 0), U, (.bool false), (I 0), (I 0), (I 0), (I 0), U, U, U, (.agg #[I l, I s, I a]), (I (cp_r0 l s a)), (sl 0 0 n c), (I ((n : Int))), (pt 1 1), I s, (.bool (decide ((n : Int) > s))), (I (wh_r0 (decide ((n : Int) > s)) 5)), (sl 2 0 2 2), (I 0), (I 0), (.bool false), U, (sl 0 0 n c), (I ((n : Int))), (I 0), U, U, U, U, U, U, U, U, U, U, U, U, U, U, U, U, U, U, U, U, U, U, U, U, U, U, U] [r0, (.some (.cells [I l, I s, I a] 74 .var)), (.some (.cells [(I (cp_r0 l s a)), (I (wh_r0 (decide ((n : Int) > s)) 5))] 31 .row))] ([(.agg #[I l, I s, I a]), (sl 0 0 n c), w2, U, w4, w5, w6, (I 0), w8, w9, w10, w11, (.agg #[I l, I s, I a]), (I (cp_r0 l s a)), (sl 0 0 n c), (I ((n : Int))), (pt 1 1), I s, (.bool (decide ((n : Int) > s))), (I (wh_r0 (decide ((n : Int) > s)) 5)), (sl 2 0 2 2), (I 0), (I 0), (.bool false), U, w25, w26, w27, w28, w29, w30, w31, w32, w33, w34, w35, w36, w37, w38, w39, w40, w41, w42, w43, w44, w45, w46, w47, w48, w49, w50, w51, w52, w53, w54], [r0, (.some (.cells [I l, I s, I a] 74 .var)), (.some (.cells [(I (cp_r0 l s a)), (I (wh_r0 (decide ((n : Int) > s)) 5))] 31 .row))], none)) : Gives Tryz.prog envD 0 44 [.agg #[I l, I s, I a], sl 0 0 n c] [r0] ((.tuple #[(.bool false), (I 0), (I 7)]), [r0]) :=
  Gives.by (n := 1000) (os := [.br 86 26 false, .br 86 26 false, .run 44 0 [(.agg #[I l, I s, I a]), (sl 0 0 n c), w2, U, w4, w5, w6, (I 0), w8, w9, w10, w11, (.agg #[I l, I s, I a]), (I (cp_r0 l s a)), (sl 0 0 n c), (I ((n : Int))), (pt 1 1), I s, (.bool (decide ((n : Int) > s))), (I (wh_r0 (decide ((n : Int) > s)) 5)), (sl 2 0 2 2), (I 0), (I 0), (.bool false), U, w25, w26, w27, w28, w29, w30, w31, w32, w33, w34, w35, w36, w37, w38, w39, w40, w41, w42, w43, w44, w45, w46, w47, w48, w49, w50, w51, w52, w53, w54] [r0, (.some (.cells [I l, I s, I a] 74 .var)), (.some (.cells [(I (cp_r0 l s a)), (I (wh_r0 (decide ((n : Int) > s)) 5))] 31 .row))]]) (os' := []) (by kernel_rfl) (ObsOK.cond h1 (ObsOK.cond h2 (ObsOK.run hrun (ObsOK.nil))))
theorem de4_gives (l s a : Int) (n c : Nat) (r0 : Option ARow) (h1 : (cp_r0 l s a != 0) = false) (h2 : (wh_r0 (decide ((n : Int) > s)) 5 != 0) = false) (w2 w4 w5 w6 w8 w9 w10 w11 w25 w26 w27 w28 w29 w30 w31 w32 w33 w34 w35 w36 w37 w38 w39 w40 w41 w42 w43 w44 w45 w46 w47 w48 w49 w50 w51 w52 w53 w54 : Value) (hrun : Runs Tryz.prog envD 1 [.code (blk 0 (bodyOf 44))] [(.agg #[I l, I s, I a]), (sl 0 0 n c), (pt 1 0), U, (.bool false), (I 0), (I 0), (I 0), (I 0), U, U, U, (.agg #[I l, I s, I a]), (I (cp_r0 l s a)), (sl 0 0 n c), (I ((n : Int))), (pt 1 1), I s, (.bool (decide ((n : Int) > s))), (I (wh_r0 (decide ((n : Int) > s)) 5)), (sl 2 0 2 2), (I 0), (I 0), (.bool false), U, (sl 0 0 n c), (I ((n : Int))), (I 0), U, U, U, U, U, U, U, U, U, U, U, U, U, U, U, U, U, U, U, U, U, U, U, U, U, U, U] [r0, (.some (.cells [I l, I s, I a] 74 .var)), (.some (.cells [(I (cp_r0 l s a)), (I (wh_r0 (decide ((n : Int) > s)) 5))] 31 .row))] ([(.agg #[I l, I s, I a]), (sl 0 0 n c), w2, U, w4, w5, w6, (I 0), w8, w9, w10, w11, (.agg #[I l, I s, I a]), (I (cp_r0 l s a)), (sl 0 0 n c), (I ((n : Int))), (pt 1 1), I s, (.bool (decide ((n : Int) > s))), (I (wh_r0 (decide ((n : Int) > s)) 5)), (sl 2 0 2 2), (I 0), (I 0), (.bool false), U, w25, w26, w27, w28, w29, w30, w31, w32, w33, w34, w35, w36, w37, w38, w39, w40, w41, w42, w43, w44, w45, w46, w47, w48, w49, w50, w51, w52, w53, w54], [r0, (.some (.cells [I l, I s, I a] 74 .var)), (.some (.cells [(I (cp_r0 l s a)), (I (wh_r0 (decide ((n : Int) > s)) 5))] 31 .row))], none)) : Gives Tryz.prog envD 0 44 [.agg #[I l, I s, I a], sl 0 0 n c] [r0] ((.tuple #[(.bool (false)), (I 0), (I 7)]), [r0]) := by
  exact de4_p0 l s a n c r0 h1 h2 w2 w4 w5 w6 w8 w9 w10 w11 w25 w26 w27 w28 w29 w30 w31 w32 w33 w34 w35 w36 w37 w38 w39 w40 w41 w42 w43 w44 w45 w46 w47 w48 w49 w50 w51 w52 w53 w54 hrun
theorem dq2_p0 (l s a : Int) (n c : Nat) (r0 : Option ARow) (h2 : decide ((n : Int) > s) = true) : Gives Tryz.prog envD 0 49 [.agg #[I l, I s, I a], sl 0 0 n c] [r0] ((.tuple #[(.bool false), (I 0), (I 5)]), [r0]) :=
  Gives.by (n := 1000) (os := [.br 49 28 true]) (os' := []) (by kernel_rfl) (ObsOK.cond h2 (ObsOK.nil))
theorem dq2_gives (l s a : Int) (n c : Nat) (r0 : Option ARow) (h2 : decide ((n : Int) > s) = true) : Gives Tryz.prog envD 0 49 [.agg #[I l, I s, I a], sl 0 0 n c] [r0] ((.tuple #[(.bool (false)), (I 0), (I 5)]), [r0]) := by
  exact dq2_p0 l s a n c r0 h2
theorem dq3_p0 (l s a : Int) (n c : Nat) (r0 : Option ARow) (x : Bool) (y : Int) (h2 : decide ((n : Int) > s) = false) (w1 w2 w7 w8 w14 w15 w16 w17 w18 w19 w20 w21 w22 w23 w24 w25 w26 w27 w28 w29 w30 w31 w32 w33 w34 w35 w36 w37 w38 w39 w40 w41 w42 w43 : Value) (hrun : Runs Tryz.prog envD 1 [.code (blk 0 (bodyOf 49))] [(.agg #[I l, I s, I a]), (sl 0 0 n c), (pt 1 0), U, (.bool false), (I 0), (I 0), (I 0), (I 0), (sl 0 0 n c), (I ((n : Int))), (pt 1 1), I s, (.bool (decide ((n : Int) > s))), U, U, U, U, U, U, U, U, U, U, U, U, U, U, U, U, U, U, U, U, U, U, U, U, U, U, U, U, U, U] [r0, (.some (.cells [I l, I s, I a] 71 .var))] ([(.agg #[I l, I s, I a]), w1, w2, U, .bool x, I y, I 0, w7, w8, (sl 0 0 n c), (I ((n : Int))), (pt 1 1), I s, (.bool (decide ((n : Int) > s))), w14, w15, w16, w17, w18, w19, w20, w21, w22, w23, w24, w25, w26, w27, w28, w29, w30, w31, w32, w33, w34, w35, w36, w37, w38, w39, w40, w41, w42, w43], [r0, (.some (.cells [I l, I s, I a] 71 .var))], some .ret)) : Gives Tryz.prog envD 0 49 [.agg #[I l, I s, I a], sl 0 0 n c] [r0] ((.tuple #[(.bool x), I y, (I 0)]), [r0]) :=
  Gives.by (n := 1000) (os := [.br 49 28 false, .ret 49 0 [(.agg #[I l, I s, I a]), w1, w2, U, (.bool x), I y, (I 0), w7, w8, (sl 0 0 n c), (I ((n : Int))), (pt 1 1), I s, (.bool (decide ((n : Int) > s))), w14, w15, w16, w17, w18, w19, w20, w21, w22, w23, w24, w25, w26, w27, w28, w29, w30, w31, w32, w33, w34, w35, w36, w37, w38, w39, w40, w41, w42, w43] [r0, (.some (.cells [I l, I s, I a] 71 .var))]]) (os' := []) (by kernel_rfl) (ObsOK.cond h2 (ObsOK.run hrun (ObsOK.nil)))
theorem dq3_gives (l s a : Int) (n c : Nat) (r0 : Option ARow) (x : Bool) (y : Int) (h2 : decide ((n : Int) > s) = false) (w1 w2 w7 w8 w14 w15 w16 w17 w18 w19 w20 w21 w22 w23 w24 w25 w26 w27 w28 w29 w30 w31 w32 w33 w34 w35 w36 w37 w38 w39 w40 w41 w42 w43 : Value) (hrun : Runs Tryz.prog envD 1 [.code (blk 0 (bodyOf 49))] [(.agg #[I l, I s, I a]), (sl 0 0 n c), (pt 1 0), U, (.bool false), (I 0), (I 0), (I 0), (I 0), (sl 0 0 n c), (I ((n : Int))), (pt 1 1), I s, (.bool (decide ((n : Int) > s))), U, U, U, U, U, U, U, U, U, U, U, U, U, U, U, U, U, U, U, U, U, U, U, U, U, U, U, U, U, U] [r0, (.some (.cells [I l, I s, I a] 71 .var))] ([(.agg #[I l, I s, I a]), w1, w2, U, .bool x, I y, I 0, w7, w8, (sl 0 0 n c), (I ((n : Int))), (pt 1 1), I s, (.bool (decide ((n : Int) > s))), w14, w15, w16, w17, w18, w19, w20, w21, w22, w23, w24, w25, w26, w27, w28, w29, w30, w31, w32, w33, w34, w35, w36, w37, w38, w39, w40, w41, w42, w43], [r0, (.some (.cells [I l, I s, I a] 71 .var))], some .ret)) : Gives Tryz.prog envD 0 49 [.agg #[I l, I s, I a], sl 0 0 n c] [r0] ((.tuple #[(.bool (x)), (I y), (I 0)]), [r0]) := by
  exact dq3_p0 l s a n c r0 x y h2 w1 w2 w7 w8 w14 w15 w16 w17 w18 w19 w20 w21 w22 w23 w24 w25 w26 w27 w28 w29 w30 w31 w32 w33 w34 w35 w36 w37 w38 w39 w40 w41 w42 w43 hrun
theorem dq4_p0 (l s a : Int) (n c : Nat) (r0 : Option ARow) (h2 : decide ((n : Int) > s) = false) (w2 w4 w5 w6 w7 w8 w14 w15 w16 w17 w18 w19 w20 w21 w22 w23 w24 w25 w26 w27 w28 w29 w30 w31 w32 w33 w34 w35 w36 w37 w38 w39 w40 w41 w42 w43 : Value) (hrun : Runs Tryz.prog envD 1 [.code (blk 0 (bodyOf 49))] [(.agg #[I l, I s, I a]), (sl 0 0 n c), (pt 1 0), U, (.bool false), (I 0), (I 0), (I 0), (I 0), (sl 0 0 n c), (I ((n : Int))), (pt 1 1), I s, (.bool (decide ((n : Int) > s))), U, U, U, U, U, U, U, U, U, U, U, U, U, U, U, U, U, U, U, U, U, U, U, U, U, U, U, U, U, U] [r0, (.some (.cells [I l, I s, I a] 71 .var))] ([(.agg #[I l, I s, I a]), sl 0 0 n c, w2, U, w4, w5, w6, w7, w8, (sl 0 0 n c), (I ((n : Int))), (pt 1 1), I s, (.bool (decide ((n : Int) > s))), w14, w15, w16, w17, w18, w19, w20, w21, w22, w23, w24, w25, w26, w27, w28, w29, w30, w31, w32, w33, w34, w35, w36, w37, w38, w39, w40, w41, w42, w43], [r0, (.some (.cells [I l, I s, I a] 71 .var))], none)) : Gives Tryz.prog envD 0 49 [.agg #[I l, I s, I a], sl 0 0 n c] [r0] ((.tuple #[(.bool false), (I 0), (I 7)]), [r0]) :=
  Gives.by (n := 1000) (os := [.br 49 28 false, .run 49 0 [(.agg #[I l, I s, I a]), (sl 0 0 n c), w2, U, w4, w5, w6, w7, w8, (sl 0 0 n c), (I ((n : Int))), (pt 1 1), I s, (.bool (decide ((n : Int) > s))), w14, w15, w16, w17, w18, w19, w20, w21, w22, w23, w24, w25, w26, w27, w28, w29, w30, w31, w32, w33, w34, w35, w36, w37, w38, w39, w40, w41, w42, w43] [r0, (.some (.cells [I l, I s, I a] 71 .var))]]) (os' := []) (by kernel_rfl) (ObsOK.cond h2 (ObsOK.run hrun (ObsOK.nil)))
theorem dq4_gives (l s a : Int) (n c : Nat) (r0 : Option ARow) (h2 : decide ((n : Int) > s) = false) (w2 w4 w5 w6 w7 w8 w14 w15 w16 w17 w18 w19 w20 w21 w22 w23 w24 w25 w26 w27 w28 w29 w30 w31 w32 w33 w34 w35 w36 w37 w38 w39 w40 w41 w42 w43 : Value) (hrun : Runs Tryz.prog envD 1 [.code (blk 0 (bodyOf 49))] [(.agg #[I l, I s, I a]), (sl 0 0 n c), (pt 1 0), U, (.bool false), (I 0), (I 0), (I 0), (I 0), (sl 0 0 n c), (I ((n : Int))), (pt 1 1), I s, (.bool (decide ((n : Int) > s))), U, U, U, U, U, U, U, U, U, U, U, U, U, U, U, U, U, U, U, U, U, U, U, U, U, U, U, U, U, U] [r0, (.some (.cells [I l, I s, I a] 71 .var))] ([(.agg #[I l, I s, I a]), sl 0 0 n c, w2, U, w4, w5, w6, w7, w8, (sl 0 0 n c), (I ((n : Int))), (pt 1 1), I s, (.bool (decide ((n : Int) > s))), w14, w15, w16, w17, w18, w19, w20, w21, w22, w23, w24, w25, w26, w27, w28, w29, w30, w31, w32, w33, w34, w35, w36, w37, w38, w39, w40, w41, w42, w43], [r0, (.some (.cells [I l, I s, I a] 71 .var))], none)) : Gives Tryz.prog envD 0 49 [.agg #[I l, I s, I a], sl 0 0 n c] [r0] ((.tuple #[(.bool (false)), (I 0), (I 7)]), [r0]) := by
  exact dq4_p0 l s a n c r0 h2 w2 w4 w5 w6 w7 w8 w14 w15 w16 w17 w18 w19 w20 w21 w22 w23 w24 w25 w26 w27 w28 w29 w30 w31 w32 w33 w34 w35 w36 w37 w38 w39 w40 w41 w42 w43 hrun
theorem dq5_p0 (l s a : Int) (h2 : decide (0 > s) = false) : Gives Tryz.prog envD 0 49 [.agg #[I l, I s, I a], .slice none 0 0] [] ((.tuple #[(.bool false), (I 0), (I 7)]), []) :=
  Gives.by (n := 1000) (os := [.br 49 28 false]) (os' := []) (by kernel_rfl) (ObsOK.cond h2 (ObsOK.nil))
theorem dq5_gives (l s a : Int) (h2 : decide (0 > s) = false) : Gives Tryz.prog envD 0 49 [.agg #[I l, I s, I a], .slice none 0 0] [] ((.tuple #[(.bool (false)), (I 0), (I 7)]), []) := by
  exact dq5_p0 l s a h2
end Go.Proofs.YtinkgnklhcjejaaGreat
/-
Decisions: what the program and the reference give.
-/
namespace Go.Proofs.YtinkgnklhcjejaaGreat
open Go Go.Abs
/-- What is decided. -/
def decF (s a : Int) (xs : List Bool) : Bool × Int × Int := match firstP (certP s a xs) 0 xs.length with
  | some k => (decide ((cntB xs (k + 1) : Int) ≤ a), ((k + 1 : Nat) : Int), 0)
  | none => (false, 0, 7)
def decR (s a : Int) (xs : List Bool) : Bool × Int × Int := if (xs.length : Int) > s then (false, 0, 5) else decF s a xs
def decP (l s a : Int) (xs : List Bool) : Bool × Int × Int := if (cp_r0 l s a != 0) = true then (false, 0, cp_r0 l s a) else decR s a xs
abbrev t3 (x : Bool × Int × Int) : Value := .tuple #[.bool x.1, I x.2.1, I x.2.2]
abbrev rB (xs : List Bool) (e : Nat) (u : Use) : Option ARow := some (.cells (bls xs) e u)
abbrev sF (r n c : Nat) : Value := .slice (some ⟨r, 0, none⟩) n c
theorem g44 (l s a : Int) (xs : List Bool) (c e : Nat) (u : Use) : Gives Tryz.prog envD 0 44 [.agg #[I l, I s, I a], sF 0 xs.length c] [rB xs e u] (t3 (decP l s a xs), [rB xs e u]) := by
  unfold decP decR
  cases h1 : (cp_r0 l s a != 0) with
  | true => rw [if_pos rfl]; exact de1_p0 l s a _ c _ h1
  | false =>
    rw [if_neg (by decide)]
    by_cases h2 : (xs.length : Int) > s
    · rw [if_pos h2]
      have h3 : wh_r0 (decide ((xs.length : Int) > s)) 5 = 5 := by rw [decide_eq_true h2]; rfl
      have := de2_p0 l s a xs.length c (rB xs e u) h1 (by rw [h3]; rfl)
      rw [h3] at this; exact this
    · rw [if_neg h2]
      have h3 : (wh_r0 (decide ((xs.length : Int) > s)) 5 != 0) = false := by rw [decide_eq_false h2]; rfl
      have hp := cp_zero.1 h1
      unfold decF
      rcases de_loop l s a xs c e u (some (.cells [I (cp_r0 l s a), I (wh_r0 (decide ((xs.length : Int) > s)) 5)] 31 .row)) ((.agg #[(.int .i64 l), (.int .i64 s), (.int .i64 a)])) ((.slice (.some (Go.Addr.mk 0 0 .none)) xs.length c)) ((.tuple #[])) ((.int .i64 (0))) ((.agg #[(.int .i64 l), (.int .i64 s), (.int .i64 a)])) ((.int .i64 (cp_r0 l s a))) ((.slice (.some (Go.Addr.mk 0 0 .none)) xs.length c)) ((.int .i64 ((xs.length : Int)))) ((.pointer (.some (Go.Addr.mk 1 1 .none)))) ((.int .i64 s)) ((.bool (decide ((xs.length : Int) > s)))) ((.int .i64 (wh_r0 (decide ((xs.length : Int) > s)) 5))) ((.slice (.some (Go.Addr.mk 2 0 .none)) 2 2)) ((.int .i64 (0))) ((.int .i64 (0))) ((.bool false)) ((.tuple #[])) (by omega) (by omega) (by omega) _ _ ⟨rfl, _, _, _, _, _, _, _, _, _, _, _, _, _, _, _, _, _, _, _, _, _, _, _, _, _, _, _, _, _, _, _, _, _, rfl⟩ with ⟨k, l', A', hk, ⟨rfl, w2, w8, w9, w10, w11, w25, w26, w27, w28, w29, w30, w31, w32, w33, w34, w35, w36, w37, w38, w39, w40, w41, w42, w43, w44, w45, w46, w47, w48, w49, w50, w51, w52, w53, w54, rfl⟩, hr⟩ | ⟨hk, l', A', ⟨rfl, w2, w4, w5, w6, w8, w9, w10, w11, w25, w26, w27, w28, w29, w30, w31, w32, w33, w34, w35, w36, w37, w38, w39, w40, w41, w42, w43, w44, w45, w46, w47, w48, w49, w50, w51, w52, w53, w54, rfl⟩, hr⟩
      · rw [hk]; exact de3_p0 l s a xs.length c _ _ _ h1 h3 w2 w8 w9 w10 w11 w25 w26 w27 w28 w29 w30 w31 w32 w33 w34 w35 w36 w37 w38 w39 w40 w41 w42 w43 w44 w45 w46 w47 w48 w49 w50 w51 w52 w53 w54 (Runs.blkLoop (by kernel_rfl) hr)
      · rw [hk]; exact de4_p0 l s a xs.length c _ h1 h3 w2 w4 w5 w6 w8 w9 w10 w11 w25 w26 w27 w28 w29 w30 w31 w32 w33 w34 w35 w36 w37 w38 w39 w40 w41 w42 w43 w44 w45 w46 w47 w48 w49 w50 w51 w52 w53 w54 (Runs.blkLoop (by kernel_rfl) hr)
theorem g49 (l s a : Int) (xs : List Bool) (c e : Nat) (u : Use) (hp : (cp_r0 l s a != 0) = false) : Gives Tryz.prog envD 0 49 [.agg #[I l, I s, I a], sF 0 xs.length c] [rB xs e u] (t3 (decR s a xs), [rB xs e u]) := by
  have hp := cp_zero.1 hp
  unfold decR
  by_cases h2 : (xs.length : Int) > s
  · rw [if_pos h2]; exact dq2_p0 l s a _ c _ (decide_eq_true h2)
  · rw [if_neg h2]
    have h3 : decide ((xs.length : Int) > s) = false := decide_eq_false h2
    unfold decF
    rcases dr_loop l s a xs c e u ((.agg #[(.int .i64 l), (.int .i64 s), (.int .i64 a)])) ((.tuple #[])) ((.slice (.some (Go.Addr.mk 0 0 .none)) xs.length c)) ((.int .i64 ((xs.length : Int)))) ((.pointer (.some (Go.Addr.mk 1 1 .none)))) ((.int .i64 s)) ((.bool (decide ((xs.length : Int) > s)))) (by omega) (by omega) (by omega) _ _ ⟨rfl, _, _, _, _, _, _, _, _, _, _, _, _, _, _, _, _, _, _, _, _, _, _, _, _, _, _, _, _, _, _, _, _, _, rfl⟩ with ⟨k, l', A', hk, ⟨rfl, w1, w2, w7, w8, w14, w15, w16, w17, w18, w19, w20, w21, w22, w23, w24, w25, w26, w27, w28, w29, w30, w31, w32, w33, w34, w35, w36, w37, w38, w39, w40, w41, w42, w43, rfl⟩, hr⟩ | ⟨hk, l', A', ⟨rfl, w2, w4, w5, w6, w7, w8, w14, w15, w16, w17, w18, w19, w20, w21, w22, w23, w24, w25, w26, w27, w28, w29, w30, w31, w32, w33, w34, w35, w36, w37, w38, w39, w40, w41, w42, w43, rfl⟩, hr⟩
    · rw [hk]; exact dq3_p0 l s a xs.length c _ _ _ h3 w1 w2 w7 w8 w14 w15 w16 w17 w18 w19 w20 w21 w22 w23 w24 w25 w26 w27 w28 w29 w30 w31 w32 w33 w34 w35 w36 w37 w38 w39 w40 w41 w42 w43 (Runs.blkLoop (by kernel_rfl) hr)
    · rw [hk]; exact dq4_p0 l s a xs.length c _ h3 w2 w4 w5 w6 w7 w8 w14 w15 w16 w17 w18 w19 w20 w21 w22 w23 w24 w25 w26 w27 w28 w29 w30 w31 w32 w33 w34 w35 w36 w37 w38 w39 w40 w41 w42 w43 (Runs.blkLoop (by kernel_rfl) hr)
theorem g49n (l s a : Int) (hp : (cp_r0 l s a != 0) = false) : Gives Tryz.prog envD 0 49 [.agg #[I l, I s, I a], .slice none 0 0] [] (t3 (decR s a []), []) := by
  have hp := cp_zero.1 hp
  have h2 : ¬ (((([] : List Bool).length : Nat) : Int) > s) := by simp; omega
  unfold decR
  rw [if_neg h2]
  exact dq5_p0 l s a (decide_eq_false (by omega))
/-- Decisions on lists. -/
structure DecI where
  (l s a : Int) (xs : List Bool) (c e : Nat) (u : Use)
def famDecP : Fam where
  ι := DecI
  ok _ := True
  args i := [.agg #[I i.l, I i.s, I i.a], sF 0 i.xs.length i.c]
  rows i := [rB i.xs i.e i.u]
  val i := t3 (decP i.l i.s i.a i.xs)
  new _ := []
  one i j _ _ h1 h2 := by
    simp only [List.cons.injEq, Value.agg.injEq, Array.mk.injEq, Value.int.injEq, true_and, and_true] at h1
    simp only [List.cons.injEq, Option.some.injEq, ARow.cells.injEq, and_true] at h2
    obtain ⟨⟨e1, e2, e3⟩, _⟩ := h1
    rw [bls_inj h2.1, e1, e2, e3]; exact ⟨rfl, rfl⟩
def famDecR : Fam where
  ι := DecI
  ok i := (cp_r0 i.l i.s i.a != 0) = false
  args i := [.agg #[I i.l, I i.s, I i.a], sF 0 i.xs.length i.c]
  rows i := [rB i.xs i.e i.u]
  val i := t3 (decR i.s i.a i.xs)
  new _ := []
  one i j _ _ h1 h2 := by
    simp only [List.cons.injEq, Value.agg.injEq, Array.mk.injEq, Value.int.injEq, true_and, and_true] at h1
    simp only [List.cons.injEq, Option.some.injEq, ARow.cells.injEq, and_true] at h2
    obtain ⟨⟨e1, e2, e3⟩, _⟩ := h1
    rw [bls_inj h2.1, e2, e3]; exact ⟨rfl, rfl⟩
end Go.Proofs.YtinkgnklhcjejaaGreat
/-
The surroundings of the laws on plans: decisions on lists, the examples.
-/
namespace Go.Proofs.YtinkgnklhcjejaaGreat
open Go Go.Abs
noncomputable def envF : Env := (envE.fam 0 [] 44 famDecP).fam 0 [] 49 famDecR
theorem envF_ok : EnvOK Tryz.prog 0 envF := by
  refine Env.fam_ok (Env.fam_ok envE_ok rfl rfl fun i _ => ?_) rfl rfl fun i hi => ?_
  · exact SaysAt.of_gives prog_ok envD_ok (g44 i.l i.s i.a i.xs i.c i.e i.u)
  · exact SaysAt.of_gives prog_ok envD_ok (g49 i.l i.s i.a i.xs i.c i.e i.u hi)
def B_envG (f : FuncId) (args : List Value) : Option (Heap × Value) :=
  if f == 14 then
    match args with
    | [] => some ([], .bool true)
    | _ => none
  else if f == 49 then
    match args with
    | [.agg ⟨[.int .i64 l, .int .i64 s, .int .i64 a]⟩, .slice none 0 0] => if (cp_r0 l s a != 0) == false then some ([], t3 (decR s a [])) else none
    | _ => none
  else none
noncomputable def envG : Env := envF.with (baseKnown B_envG)
theorem envG_ok : EnvOK Tryz.prog 0 envG := env_base' envF_ok fun f args H v h => by
  unfold B_envG at h
  split at h
  · rename_i hf
    obtain rfl : f = 14 := by simpa using hf
    split at h
    · cases h; exact ⟨Nat.le_refl _, rfl, awake_says⟩
    · cases h
  split at h
  · rename_i hf
    obtain rfl : f = 49 := by simpa using hf
    split at h
    · split at h
      · rename_i hz
        cases h
        exact ⟨Nat.le_refl _, rfl, SaysAt.of_gives prog_ok envD_ok (g49n _ _ _ (by simpa using hz))⟩
      · cases h
    · cases h
  cases h
end Go.Proofs.YtinkgnklhcjejaaGreat
/-
What an Env knows of a call.
-/
namespace Go.Proofs.YtinkgnklhcjejaaGreat
open Go Go.Abs
theorem kn_skip {E : Env} {B : FuncId → List Value → Option (Heap × Value)} {lim : Nat} {f : FuncId} {args : List Value} {A : Heap} (h : B f args = none) : (E.with (baseKnown B)).known lim f args A = E.known lim f args A := by
  simp only [Env.with, baseKnown, h]
theorem kn_here {E : Env} {B : FuncId → List Value → Option (Heap × Value)} {lim : Nat} {f : FuncId} {args : List Value} {A T : Heap} {v : Value} (h : B f args = some (T, v)) (hf : args.all freeB = true) (hv : freeB v = true) (hs : startsB T A = true) : (E.with (baseKnown B)).known lim f args A = some (v, A) := by
  simp only [Env.with, baseKnown, h, hf, hv, hs, Bool.and_self, if_true]
theorem eq_zero {x : Int} (h : (x != 0) = false) : x = 0 := by simpa using h
end Go.Proofs.YtinkgnklhcjejaaGreat
/-
A slice of a list, from a fact.
-/
namespace Go.Abs
theorem ObsOK.sl {P : Program} {E : Env} {tk : Obs} {s : Option Value} {v : Value} {A : Heap} (h : s = some v) (ht : ObsOK P E tk) : ObsOK P E (.op (s.map (·, A)) v A :: tk) := .cons (show s.map (·, A) = some (v, A) by rw [h]; rfl) ht
end Go.Abs
