/-
Joined: Lj, Gc, Gl, Gm, Gn, Tu, Tv, Bn, Bm, Fa, Fb, Fc, Fd, Fe, Fg, Fh, Fi, Fj, Fk, Fl.
-/
import Derived.Test.YtkndhhnjgpialaaGreatDoorMb6
set_option linter.unusedVariables false
set_option linter.unusedSimpArgs false
set_option linter.unusedSectionVars false
/-
What functions give.
-/
namespace Go.Proofs.YtkndhhnjgpialaaGreatDoor
open Go Go.Abs
theorem f16_p0 (a : Int) (b : Int) (c : Int) (d : Int) (e : Int) (f : Int) (w : Int) : Gives Tryz.prog envJ 0 16 [(.agg #[(.int .i64 (a)), (.int .i64 (b)), (.int .i64 (c)), (.int .i64 (d)), (.int .i64 (e)), (.int .i64 (f))]), (.int .i64 (w))] heap0 ((.tuple #[(.agg #[(.int .i64 (f90_r0 a b c d e f w)), (.int .i64 (f90_r1 a b c d e f w))]), (.int .i64 (f90_r18 a b c d e f w))]), heap0) :=
  Gives.by (n := 1000) (os := []) (os' := []) (by kernel_rfl) (ObsOK.nil)
def f16_r0 (a : Int) (b : Int) (c : Int) (d : Int) (e : Int) (f : Int) (w : Int) : Int := (f90_r0 a b c d e f w)
def f16_r1 (a : Int) (b : Int) (c : Int) (d : Int) (e : Int) (f : Int) (w : Int) : Int := (f90_r1 a b c d e f w)
def f16_r2 (a : Int) (b : Int) (c : Int) (d : Int) (e : Int) (f : Int) (w : Int) : Int := (f90_r18 a b c d e f w)
theorem f16_gives (a : Int) (b : Int) (c : Int) (d : Int) (e : Int) (f : Int) (w : Int) : Gives Tryz.prog envJ 0 16 [(.agg #[(.int .i64 (a)), (.int .i64 (b)), (.int .i64 (c)), (.int .i64 (d)), (.int .i64 (e)), (.int .i64 (f))]), (.int .i64 (w))] heap0 ((.tuple #[(.agg #[(.int .i64 (f16_r0 a b c d e f w)), (.int .i64 (f16_r1 a b c d e f w))]), (.int .i64 (f16_r2 a b c d e f w))]), heap0) := by
  simp only [f16_r0, f16_r1, f16_r2, cond_true, cond_false]; exact f16_p0 a b c d e f w
theorem f17_p0 (a : Int) (b : Int) (c : Int) (d : Int) (e : Int) (f : Int) (w : Int) : Gives Tryz.prog envJ 0 17 [(.agg #[(.int .i64 (a)), (.int .i64 (b)), (.int .i64 (c)), (.int .i64 (d)), (.int .i64 (e)), (.int .i64 (f))]), (.int .i64 (w))] heap0 ((.tuple #[(.agg #[(.int .i64 (f90_r2 a b c d e f w)), (.int .i64 (f90_r3 a b c d e f w)), (.int .i64 (f90_r4 a b c d e f w)), (.int .i64 (f90_r5 a b c d e f w))]), (.int .i64 (f90_r18 a b c d e f w))]), heap0) :=
  Gives.by (n := 1000) (os := []) (os' := []) (by kernel_rfl) (ObsOK.nil)
def f17_r0 (a : Int) (b : Int) (c : Int) (d : Int) (e : Int) (f : Int) (w : Int) : Int := (f90_r2 a b c d e f w)
def f17_r1 (a : Int) (b : Int) (c : Int) (d : Int) (e : Int) (f : Int) (w : Int) : Int := (f90_r3 a b c d e f w)
def f17_r2 (a : Int) (b : Int) (c : Int) (d : Int) (e : Int) (f : Int) (w : Int) : Int := (f90_r4 a b c d e f w)
def f17_r3 (a : Int) (b : Int) (c : Int) (d : Int) (e : Int) (f : Int) (w : Int) : Int := (f90_r5 a b c d e f w)
def f17_r4 (a : Int) (b : Int) (c : Int) (d : Int) (e : Int) (f : Int) (w : Int) : Int := (f90_r18 a b c d e f w)
theorem f17_gives (a : Int) (b : Int) (c : Int) (d : Int) (e : Int) (f : Int) (w : Int) : Gives Tryz.prog envJ 0 17 [(.agg #[(.int .i64 (a)), (.int .i64 (b)), (.int .i64 (c)), (.int .i64 (d)), (.int .i64 (e)), (.int .i64 (f))]), (.int .i64 (w))] heap0 ((.tuple #[(.agg #[(.int .i64 (f17_r0 a b c d e f w)), (.int .i64 (f17_r1 a b c d e f w)), (.int .i64 (f17_r2 a b c d e f w)), (.int .i64 (f17_r3 a b c d e f w))]), (.int .i64 (f17_r4 a b c d e f w))]), heap0) := by
  simp only [f17_r0, f17_r1, f17_r2, f17_r3, f17_r4, cond_true, cond_false]; exact f17_p0 a b c d e f w
theorem f18_p0 (a : Int) (b : Int) (c : Int) (d : Int) (e : Int) (f : Int) (w : Int) : Gives Tryz.prog envJ 0 18 [(.agg #[(.int .i64 (a)), (.int .i64 (b)), (.int .i64 (c)), (.int .i64 (d)), (.int .i64 (e)), (.int .i64 (f))]), (.int .i64 (w))] heap0 ((.tuple #[(.agg #[(.int .i64 (f90_r6 a b c d e f w)), (.int .i64 (f90_r7 a b c d e f w)), (.int .i64 (f90_r8 a b c d e f w)), (.int .i64 (f90_r9 a b c d e f w))]), (.int .i64 (f90_r18 a b c d e f w))]), heap0) :=
  Gives.by (n := 1000) (os := []) (os' := []) (by kernel_rfl) (ObsOK.nil)
def f18_r0 (a : Int) (b : Int) (c : Int) (d : Int) (e : Int) (f : Int) (w : Int) : Int := (f90_r6 a b c d e f w)
def f18_r1 (a : Int) (b : Int) (c : Int) (d : Int) (e : Int) (f : Int) (w : Int) : Int := (f90_r7 a b c d e f w)
def f18_r2 (a : Int) (b : Int) (c : Int) (d : Int) (e : Int) (f : Int) (w : Int) : Int := (f90_r8 a b c d e f w)
def f18_r3 (a : Int) (b : Int) (c : Int) (d : Int) (e : Int) (f : Int) (w : Int) : Int := (f90_r9 a b c d e f w)
def f18_r4 (a : Int) (b : Int) (c : Int) (d : Int) (e : Int) (f : Int) (w : Int) : Int := (f90_r18 a b c d e f w)
theorem f18_gives (a : Int) (b : Int) (c : Int) (d : Int) (e : Int) (f : Int) (w : Int) : Gives Tryz.prog envJ 0 18 [(.agg #[(.int .i64 (a)), (.int .i64 (b)), (.int .i64 (c)), (.int .i64 (d)), (.int .i64 (e)), (.int .i64 (f))]), (.int .i64 (w))] heap0 ((.tuple #[(.agg #[(.int .i64 (f18_r0 a b c d e f w)), (.int .i64 (f18_r1 a b c d e f w)), (.int .i64 (f18_r2 a b c d e f w)), (.int .i64 (f18_r3 a b c d e f w))]), (.int .i64 (f18_r4 a b c d e f w))]), heap0) := by
  simp only [f18_r0, f18_r1, f18_r2, f18_r3, f18_r4, cond_true, cond_false]; exact f18_p0 a b c d e f w
theorem f19_p0 (a : Int) (b : Int) (c : Int) (d : Int) (e : Int) (f : Int) (w : Int) : Gives Tryz.prog envJ 0 19 [(.agg #[(.int .i64 (a)), (.int .i64 (b)), (.int .i64 (c)), (.int .i64 (d)), (.int .i64 (e)), (.int .i64 (f))]), (.int .i64 (w))] heap0 ((.tuple #[(.agg #[(.int .i64 (f90_r14 a b c d e f w)), (.int .i64 (f90_r15 a b c d e f w)), (.int .i64 (f90_r16 a b c d e f w)), (.int .i64 (f90_r17 a b c d e f w))]), (.int .i64 (f90_r18 a b c d e f w))]), heap0) :=
  Gives.by (n := 1000) (os := []) (os' := []) (by kernel_rfl) (ObsOK.nil)
def f19_r0 (a : Int) (b : Int) (c : Int) (d : Int) (e : Int) (f : Int) (w : Int) : Int := (f90_r14 a b c d e f w)
def f19_r1 (a : Int) (b : Int) (c : Int) (d : Int) (e : Int) (f : Int) (w : Int) : Int := (f90_r15 a b c d e f w)
def f19_r2 (a : Int) (b : Int) (c : Int) (d : Int) (e : Int) (f : Int) (w : Int) : Int := (f90_r16 a b c d e f w)
def f19_r3 (a : Int) (b : Int) (c : Int) (d : Int) (e : Int) (f : Int) (w : Int) : Int := (f90_r17 a b c d e f w)
def f19_r4 (a : Int) (b : Int) (c : Int) (d : Int) (e : Int) (f : Int) (w : Int) : Int := (f90_r18 a b c d e f w)
theorem f19_gives (a : Int) (b : Int) (c : Int) (d : Int) (e : Int) (f : Int) (w : Int) : Gives Tryz.prog envJ 0 19 [(.agg #[(.int .i64 (a)), (.int .i64 (b)), (.int .i64 (c)), (.int .i64 (d)), (.int .i64 (e)), (.int .i64 (f))]), (.int .i64 (w))] heap0 ((.tuple #[(.agg #[(.int .i64 (f19_r0 a b c d e f w)), (.int .i64 (f19_r1 a b c d e f w)), (.int .i64 (f19_r2 a b c d e f w)), (.int .i64 (f19_r3 a b c d e f w))]), (.int .i64 (f19_r4 a b c d e f w))]), heap0) := by
  simp only [f19_r0, f19_r1, f19_r2, f19_r3, f19_r4, cond_true, cond_false]; exact f19_p0 a b c d e f w
theorem f33_p0 (a : Int) (b : Int) (c : Int) (d : Int) (e : Int) (f : Int) (g : Int) (h : Int) (i : Int) (j : Int) (w : Int) : Gives Tryz.prog envJ 0 33 [(.agg #[(.int .i64 (a)), (.int .i64 (b)), (.int .i64 (c)), (.int .i64 (d)), (.int .i64 (e)), (.int .i64 (f))]), (.agg #[(.int .i64 (g)), (.int .i64 (h)), (.int .i64 (i)), (.int .i64 (j))]), (.int .i64 (w))] heap0 ((.tuple #[(.agg #[(.int .i64 (f104_r2 a b c d e f g h i j w)), (.int .i64 (f104_r3 a b c d e f g h i j w)), (.int .i64 (f104_r4 a b c d e f g h i j w)), (.int .i64 (f104_r5 a b c d e f g h i j w))]), (.int .i64 (f104_r18 a b c d e f g h i j w))]), heap0) :=
  Gives.by (n := 1000) (os := []) (os' := []) (by kernel_rfl) (ObsOK.nil)
def f33_r0 (a : Int) (b : Int) (c : Int) (d : Int) (e : Int) (f : Int) (g : Int) (h : Int) (i : Int) (j : Int) (w : Int) : Int := (f104_r2 a b c d e f g h i j w)
def f33_r1 (a : Int) (b : Int) (c : Int) (d : Int) (e : Int) (f : Int) (g : Int) (h : Int) (i : Int) (j : Int) (w : Int) : Int := (f104_r3 a b c d e f g h i j w)
def f33_r2 (a : Int) (b : Int) (c : Int) (d : Int) (e : Int) (f : Int) (g : Int) (h : Int) (i : Int) (j : Int) (w : Int) : Int := (f104_r4 a b c d e f g h i j w)
def f33_r3 (a : Int) (b : Int) (c : Int) (d : Int) (e : Int) (f : Int) (g : Int) (h : Int) (i : Int) (j : Int) (w : Int) : Int := (f104_r5 a b c d e f g h i j w)
def f33_r4 (a : Int) (b : Int) (c : Int) (d : Int) (e : Int) (f : Int) (g : Int) (h : Int) (i : Int) (j : Int) (w : Int) : Int := (f104_r18 a b c d e f g h i j w)
theorem f33_gives (a : Int) (b : Int) (c : Int) (d : Int) (e : Int) (f : Int) (g : Int) (h : Int) (i : Int) (j : Int) (w : Int) : Gives Tryz.prog envJ 0 33 [(.agg #[(.int .i64 (a)), (.int .i64 (b)), (.int .i64 (c)), (.int .i64 (d)), (.int .i64 (e)), (.int .i64 (f))]), (.agg #[(.int .i64 (g)), (.int .i64 (h)), (.int .i64 (i)), (.int .i64 (j))]), (.int .i64 (w))] heap0 ((.tuple #[(.agg #[(.int .i64 (f33_r0 a b c d e f g h i j w)), (.int .i64 (f33_r1 a b c d e f g h i j w)), (.int .i64 (f33_r2 a b c d e f g h i j w)), (.int .i64 (f33_r3 a b c d e f g h i j w))]), (.int .i64 (f33_r4 a b c d e f g h i j w))]), heap0) := by
  simp only [f33_r0, f33_r1, f33_r2, f33_r3, f33_r4, cond_true, cond_false]; exact f33_p0 a b c d e f g h i j w
theorem f34_p0 (a : Int) (b : Int) (c : Int) (d : Int) (e : Int) (f : Int) (g : Int) (h : Int) (i : Int) (j : Int) (w : Int) : Gives Tryz.prog envJ 0 34 [(.agg #[(.int .i64 (a)), (.int .i64 (b)), (.int .i64 (c)), (.int .i64 (d)), (.int .i64 (e)), (.int .i64 (f))]), (.agg #[(.int .i64 (g)), (.int .i64 (h)), (.int .i64 (i)), (.int .i64 (j))]), (.int .i64 (w))] heap0 ((.tuple #[(.agg #[(.int .i64 (f104_r14 a b c d e f g h i j w)), (.int .i64 (f104_r15 a b c d e f g h i j w)), (.int .i64 (f104_r16 a b c d e f g h i j w)), (.int .i64 (f104_r17 a b c d e f g h i j w))]), (.int .i64 (f104_r18 a b c d e f g h i j w))]), heap0) :=
  Gives.by (n := 1000) (os := []) (os' := []) (by kernel_rfl) (ObsOK.nil)
def f34_r0 (a : Int) (b : Int) (c : Int) (d : Int) (e : Int) (f : Int) (g : Int) (h : Int) (i : Int) (j : Int) (w : Int) : Int := (f104_r14 a b c d e f g h i j w)
def f34_r1 (a : Int) (b : Int) (c : Int) (d : Int) (e : Int) (f : Int) (g : Int) (h : Int) (i : Int) (j : Int) (w : Int) : Int := (f104_r15 a b c d e f g h i j w)
def f34_r2 (a : Int) (b : Int) (c : Int) (d : Int) (e : Int) (f : Int) (g : Int) (h : Int) (i : Int) (j : Int) (w : Int) : Int := (f104_r16 a b c d e f g h i j w)
def f34_r3 (a : Int) (b : Int) (c : Int) (d : Int) (e : Int) (f : Int) (g : Int) (h : Int) (i : Int) (j : Int) (w : Int) : Int := (f104_r17 a b c d e f g h i j w)
def f34_r4 (a : Int) (b : Int) (c : Int) (d : Int) (e : Int) (f : Int) (g : Int) (h : Int) (i : Int) (j : Int) (w : Int) : Int := (f104_r18 a b c d e f g h i j w)
theorem f34_gives (a : Int) (b : Int) (c : Int) (d : Int) (e : Int) (f : Int) (g : Int) (h : Int) (i : Int) (j : Int) (w : Int) : Gives Tryz.prog envJ 0 34 [(.agg #[(.int .i64 (a)), (.int .i64 (b)), (.int .i64 (c)), (.int .i64 (d)), (.int .i64 (e)), (.int .i64 (f))]), (.agg #[(.int .i64 (g)), (.int .i64 (h)), (.int .i64 (i)), (.int .i64 (j))]), (.int .i64 (w))] heap0 ((.tuple #[(.agg #[(.int .i64 (f34_r0 a b c d e f g h i j w)), (.int .i64 (f34_r1 a b c d e f g h i j w)), (.int .i64 (f34_r2 a b c d e f g h i j w)), (.int .i64 (f34_r3 a b c d e f g h i j w))]), (.int .i64 (f34_r4 a b c d e f g h i j w))]), heap0) := by
  simp only [f34_r0, f34_r1, f34_r2, f34_r3, f34_r4, cond_true, cond_false]; exact f34_p0 a b c d e f g h i j w
theorem f35_p0 (a : Int) (b : Int) (c : Int) (d : Int) (e : Int) (f : Int) (g : Int) (h : Int) (i : Int) (j : Int) (w : Int) : Gives Tryz.prog envJ 0 35 [(.agg #[(.int .i64 (a)), (.int .i64 (b)), (.int .i64 (c)), (.int .i64 (d)), (.int .i64 (e)), (.int .i64 (f))]), (.agg #[(.int .i64 (g)), (.int .i64 (h)), (.int .i64 (i)), (.int .i64 (j))]), (.int .i64 (w))] heap0 ((.tuple #[(.agg #[(.int .i64 (f104_r6 a b c d e f g h i j w)), (.int .i64 (f104_r7 a b c d e f g h i j w)), (.int .i64 (f104_r8 a b c d e f g h i j w)), (.int .i64 (f104_r9 a b c d e f g h i j w)), (.int .i64 (f104_r10 a b c d e f g h i j w)), (.int .i64 (f104_r11 a b c d e f g h i j w)), (.int .i64 (f104_r12 a b c d e f g h i j w)), (.int .i64 (f104_r13 a b c d e f g h i j w))]), (.int .i64 (f104_r18 a b c d e f g h i j w))]), heap0) :=
  Gives.by (n := 1000) (os := []) (os' := []) (by kernel_rfl) (ObsOK.nil)
def f35_r0 (a : Int) (b : Int) (c : Int) (d : Int) (e : Int) (f : Int) (g : Int) (h : Int) (i : Int) (j : Int) (w : Int) : Int := (f104_r6 a b c d e f g h i j w)
def f35_r1 (a : Int) (b : Int) (c : Int) (d : Int) (e : Int) (f : Int) (g : Int) (h : Int) (i : Int) (j : Int) (w : Int) : Int := (f104_r7 a b c d e f g h i j w)
def f35_r2 (a : Int) (b : Int) (c : Int) (d : Int) (e : Int) (f : Int) (g : Int) (h : Int) (i : Int) (j : Int) (w : Int) : Int := (f104_r8 a b c d e f g h i j w)
def f35_r3 (a : Int) (b : Int) (c : Int) (d : Int) (e : Int) (f : Int) (g : Int) (h : Int) (i : Int) (j : Int) (w : Int) : Int := (f104_r9 a b c d e f g h i j w)
def f35_r4 (a : Int) (b : Int) (c : Int) (d : Int) (e : Int) (f : Int) (g : Int) (h : Int) (i : Int) (j : Int) (w : Int) : Int := (f104_r10 a b c d e f g h i j w)
def f35_r5 (a : Int) (b : Int) (c : Int) (d : Int) (e : Int) (f : Int) (g : Int) (h : Int) (i : Int) (j : Int) (w : Int) : Int := (f104_r11 a b c d e f g h i j w)
def f35_r6 (a : Int) (b : Int) (c : Int) (d : Int) (e : Int) (f : Int) (g : Int) (h : Int) (i : Int) (j : Int) (w : Int) : Int := (f104_r12 a b c d e f g h i j w)
def f35_r7 (a : Int) (b : Int) (c : Int) (d : Int) (e : Int) (f : Int) (g : Int) (h : Int) (i : Int) (j : Int) (w : Int) : Int := (f104_r13 a b c d e f g h i j w)
def f35_r8 (a : Int) (b : Int) (c : Int) (d : Int) (e : Int) (f : Int) (g : Int) (h : Int) (i : Int) (j : Int) (w : Int) : Int := (f104_r18 a b c d e f g h i j w)
theorem f35_gives (a : Int) (b : Int) (c : Int) (d : Int) (e : Int) (f : Int) (g : Int) (h : Int) (i : Int) (j : Int) (w : Int) : Gives Tryz.prog envJ 0 35 [(.agg #[(.int .i64 (a)), (.int .i64 (b)), (.int .i64 (c)), (.int .i64 (d)), (.int .i64 (e)), (.int .i64 (f))]), (.agg #[(.int .i64 (g)), (.int .i64 (h)), (.int .i64 (i)), (.int .i64 (j))]), (.int .i64 (w))] heap0 ((.tuple #[(.agg #[(.int .i64 (f35_r0 a b c d e f g h i j w)), (.int .i64 (f35_r1 a b c d e f g h i j w)), (.int .i64 (f35_r2 a b c d e f g h i j w)), (.int .i64 (f35_r3 a b c d e f g h i j w)), (.int .i64 (f35_r4 a b c d e f g h i j w)), (.int .i64 (f35_r5 a b c d e f g h i j w)), (.int .i64 (f35_r6 a b c d e f g h i j w)), (.int .i64 (f35_r7 a b c d e f g h i j w))]), (.int .i64 (f35_r8 a b c d e f g h i j w))]), heap0) := by
  simp only [f35_r0, f35_r1, f35_r2, f35_r3, f35_r4, f35_r5, f35_r6, f35_r7, f35_r8, cond_true, cond_false]; exact f35_p0 a b c d e f g h i j w
def B_envK (f : FuncId) (args : List Value) : Option (Heap × Value) :=
  if f == 16 then
    match args with
    | [(.agg ⟨[(.int .i64 (a)), (.int .i64 (b)), (.int .i64 (c)), (.int .i64 (d)), (.int .i64 (e)), (.int .i64 (f))]⟩), (.int .i64 (w))] => some (heap0, (.tuple #[(.agg #[(.int .i64 (f16_r0 a b c d e f w)), (.int .i64 (f16_r1 a b c d e f w))]), (.int .i64 (f16_r2 a b c d e f w))]))
    | _ => none
  else  if f == 17 then
    match args with
    | [(.agg ⟨[(.int .i64 (a)), (.int .i64 (b)), (.int .i64 (c)), (.int .i64 (d)), (.int .i64 (e)), (.int .i64 (f))]⟩), (.int .i64 (w))] => some (heap0, (.tuple #[(.agg #[(.int .i64 (f17_r0 a b c d e f w)), (.int .i64 (f17_r1 a b c d e f w)), (.int .i64 (f17_r2 a b c d e f w)), (.int .i64 (f17_r3 a b c d e f w))]), (.int .i64 (f17_r4 a b c d e f w))]))
    | _ => none
  else  if f == 18 then
    match args with
    | [(.agg ⟨[(.int .i64 (a)), (.int .i64 (b)), (.int .i64 (c)), (.int .i64 (d)), (.int .i64 (e)), (.int .i64 (f))]⟩), (.int .i64 (w))] => some (heap0, (.tuple #[(.agg #[(.int .i64 (f18_r0 a b c d e f w)), (.int .i64 (f18_r1 a b c d e f w)), (.int .i64 (f18_r2 a b c d e f w)), (.int .i64 (f18_r3 a b c d e f w))]), (.int .i64 (f18_r4 a b c d e f w))]))
    | _ => none
  else  if f == 19 then
    match args with
    | [(.agg ⟨[(.int .i64 (a)), (.int .i64 (b)), (.int .i64 (c)), (.int .i64 (d)), (.int .i64 (e)), (.int .i64 (f))]⟩), (.int .i64 (w))] => some (heap0, (.tuple #[(.agg #[(.int .i64 (f19_r0 a b c d e f w)), (.int .i64 (f19_r1 a b c d e f w)), (.int .i64 (f19_r2 a b c d e f w)), (.int .i64 (f19_r3 a b c d e f w))]), (.int .i64 (f19_r4 a b c d e f w))]))
    | _ => none
  else  if f == 33 then
    match args with
    | [(.agg ⟨[(.int .i64 (a)), (.int .i64 (b)), (.int .i64 (c)), (.int .i64 (d)), (.int .i64 (e)), (.int .i64 (f))]⟩), (.agg ⟨[(.int .i64 (g)), (.int .i64 (h)), (.int .i64 (i)), (.int .i64 (j))]⟩), (.int .i64 (w))] => some (heap0, (.tuple #[(.agg #[(.int .i64 (f33_r0 a b c d e f g h i j w)), (.int .i64 (f33_r1 a b c d e f g h i j w)), (.int .i64 (f33_r2 a b c d e f g h i j w)), (.int .i64 (f33_r3 a b c d e f g h i j w))]), (.int .i64 (f33_r4 a b c d e f g h i j w))]))
    | _ => none
  else  if f == 34 then
    match args with
    | [(.agg ⟨[(.int .i64 (a)), (.int .i64 (b)), (.int .i64 (c)), (.int .i64 (d)), (.int .i64 (e)), (.int .i64 (f))]⟩), (.agg ⟨[(.int .i64 (g)), (.int .i64 (h)), (.int .i64 (i)), (.int .i64 (j))]⟩), (.int .i64 (w))] => some (heap0, (.tuple #[(.agg #[(.int .i64 (f34_r0 a b c d e f g h i j w)), (.int .i64 (f34_r1 a b c d e f g h i j w)), (.int .i64 (f34_r2 a b c d e f g h i j w)), (.int .i64 (f34_r3 a b c d e f g h i j w))]), (.int .i64 (f34_r4 a b c d e f g h i j w))]))
    | _ => none
  else  if f == 35 then
    match args with
    | [(.agg ⟨[(.int .i64 (a)), (.int .i64 (b)), (.int .i64 (c)), (.int .i64 (d)), (.int .i64 (e)), (.int .i64 (f))]⟩), (.agg ⟨[(.int .i64 (g)), (.int .i64 (h)), (.int .i64 (i)), (.int .i64 (j))]⟩), (.int .i64 (w))] => some (heap0, (.tuple #[(.agg #[(.int .i64 (f35_r0 a b c d e f g h i j w)), (.int .i64 (f35_r1 a b c d e f g h i j w)), (.int .i64 (f35_r2 a b c d e f g h i j w)), (.int .i64 (f35_r3 a b c d e f g h i j w)), (.int .i64 (f35_r4 a b c d e f g h i j w)), (.int .i64 (f35_r5 a b c d e f g h i j w)), (.int .i64 (f35_r6 a b c d e f g h i j w)), (.int .i64 (f35_r7 a b c d e f g h i j w))]), (.int .i64 (f35_r8 a b c d e f g h i j w))]))
    | _ => none
  else none
noncomputable def envK : Env := envJ.with (baseKnown B_envK)
theorem envK_ok : EnvOK Tryz.prog 9 envK := env_base prog_ok envJ_ok fun f args H v h => by
  unfold B_envK at h
  split at h
  · rename_i hf
    have hf : f = 16 := by simpa using hf
    subst hf
    split at h
    · cases h; exact heap0_ok (f16_gives _ _ _ _ _ _ _)
    · cases h
  · skip
    split at h
    · rename_i hf
      have hf : f = 17 := by simpa using hf
      subst hf
      split at h
      · cases h; exact heap0_ok (f17_gives _ _ _ _ _ _ _)
      · cases h
    · skip
      split at h
      · rename_i hf
        have hf : f = 18 := by simpa using hf
        subst hf
        split at h
        · cases h; exact heap0_ok (f18_gives _ _ _ _ _ _ _)
        · cases h
      · skip
        split at h
        · rename_i hf
          have hf : f = 19 := by simpa using hf
          subst hf
          split at h
          · cases h; exact heap0_ok (f19_gives _ _ _ _ _ _ _)
          · cases h
        · skip
          split at h
          · rename_i hf
            have hf : f = 33 := by simpa using hf
            subst hf
            split at h
            · cases h; exact heap0_ok (f33_gives _ _ _ _ _ _ _ _ _ _ _)
            · cases h
          · skip
            split at h
            · rename_i hf
              have hf : f = 34 := by simpa using hf
              subst hf
              split at h
              · cases h; exact heap0_ok (f34_gives _ _ _ _ _ _ _ _ _ _ _)
              · cases h
            · skip
              split at h
              · rename_i hf
                have hf : f = 35 := by simpa using hf
                subst hf
                split at h
                · cases h; exact heap0_ok (f35_gives _ _ _ _ _ _ _ _ _ _ _)
                · cases h
              · skip
                cases h
end Go.Proofs.YtkndhhnjgpialaaGreatDoor
/-
Pieces of code, and Euclid's algorithm.
-/
namespace Go.Abs
open Go
/-- A block of code, by its number. -/
def findBlk (id : Nat) : Code → Option Code
  | .block i b => if i == id then some (.block i b) else findBlk id b
  | .seq a b => match findBlk id a with
    | some c => some c
    | none => findBlk id b
  | .cond _ a b => match findBlk id a with
    | some c => some c
    | none => findBlk id b
  | .loop b => findBlk id b
  | .scope b => findBlk id b
  | _ => none
def blk (id : Nat) (c : Code) : Code := (findBlk id c).getD .skip
def bodyB : Code → Code
  | .block _ b => b
  | c => c
def bodyL : Code → Code
  | .loop b => b
  | c => c
/-- The round of the loop in a block. -/
def round (id : Nat) (c : Code) : Code := bodyL (bodyB (blk id c))
/-- Euclid's algorithm, as the loops run it. -/
def gcdE (a b : Int) : Int := if h : b = 0 then a else gcdE b (a.tmod b)
termination_by b.natAbs
decreasing_by
  have := Int.natAbs_tmod a b
  rw [this]
  exact Nat.mod_lt _ (by omega)
theorem gcdE_zero (a : Int) : gcdE a 0 = a := by rw [gcdE]; simp
theorem gcdE_step {a b : Int} (h : b ≠ 0) : gcdE a b = gcdE b (a.tmod b) := by rw [gcdE]; simp [h]
theorem gcdE_abs (a b : Int) : (gcdE a b).natAbs = Int.gcd a b := by
  induction hn : b.natAbs using Nat.strongRecOn generalizing a b with
  | ind n ih =>
    by_cases h : b = 0
    · subst h; rw [gcdE_zero]; simp
    · rw [gcdE_step h, ih (a.tmod b).natAbs (by rw [← hn, Int.natAbs_tmod]; exact Nat.mod_lt _ (by omega)) _ _ rfl]
      simp only [Int.gcd, Int.natAbs_tmod]
      rw [Nat.gcd_comm, ← Nat.gcd_rec, Nat.gcd_comm]
theorem gcdE_nonneg {a b : Int} (ha : 0 ≤ a) (hb : 0 ≤ b) : 0 ≤ gcdE a b := by
  induction hn : b.natAbs using Nat.strongRecOn generalizing a b with
  | ind n ih =>
    by_cases h : b = 0
    · subst h; rw [gcdE_zero]; exact ha
    · rw [gcdE_step h]
      exact ih (a.tmod b).natAbs (by rw [← hn, Int.natAbs_tmod]; exact Nat.mod_lt _ (by omega)) hb (Int.tmod_nonneg b ha) rfl
theorem gcdE_eq {a b : Int} (ha : 0 ≤ a) (hb : 0 ≤ b) : gcdE a b = Int.gcd a b := by
  have h1 := gcdE_abs a b
  have h2 := gcdE_nonneg ha hb
  omega
theorem Runs.ofLoop {P : Program} {E : Env} {lim id : Nat} {c : Code} {k : List It} {l : List Value} {A : Heap} {r : List Value × Heap × Option Code} (h : Runs P E lim (.inLoop c :: .inBlock id :: k) l A r) : Runs P E lim (.code (.block id (.loop c)) :: k) l A r := by
  obtain ⟨n, h⟩ := h
  cases n with
  | zero => cases h
  | succ n => exact Runs.block (Runs.loop ⟨n, h⟩)
theorem Runs.loopAgain {P : Program} {E : Env} {lim : Nat} {c : Code} {k : List It} {l l1 : List Value} {A A1 : Heap} {r : List Value × Heap × Option Code} (h : Runs P E lim [.code c] l A (l1, A1, none)) (h2 : Runs P E lim (.inLoop c :: k) l1 A1 r) : Runs P E lim (.inLoop c :: k) l A r :=
  Runs.inLoop (h.app h2)
end Go.Abs
namespace Go.Proofs.YtkndhhnjgpialaaGreatDoor
open Go Go.Abs
def HN (X : Heap) : Heap := none :: none :: none :: none :: none :: none :: none :: none :: none :: X
end Go.Proofs.YtkndhhnjgpialaaGreatDoor
/-
Ratios in lowest terms: the loops of Euclid's algorithm.
-/
namespace Go.Proofs.YtkndhhnjgpialaaGreatDoor
open Go Go.Abs
theorem s107_p0 (v0 v1 v2 v5 v6 v7 v8 v9 v10 v11 v12 v13 v14 v15 v16 v17 v18 v19 v20 v21 v22 v23 v24 v25 v26 v27 : Value) (a b : Int) (r0 r1 : Option ARow) (hb : (b != 0) = true) (hr : aBin Tryz.prog .rem 3 (.tmp 16) (.tmp 17) (.int .i64 a) (.int .i64 b) = some (.int .i64 (a.tmod b))) : Runs Tryz.prog envK 9 [.code (round 0 (bodyOf 107))] [v0, v1, v2, .int .i64 a, .int .i64 b, v5, v6, v7, v8, v9, v10, v11, v12, v13, v14, v15, v16, v17, v18, v19, v20, v21, v22, v23, v24, v25, v26, v27] (HN [r0, r1]) ([v0, v1, v2, (.int .i64 b), (.int .i64 (a.tmod b)), v5, v6, v7, v8, v9, v10, v11, v12, (.int .i64 b), (.bool (b != 0)), (.int .i64 b), (.int .i64 a), (.int .i64 b), (.int .i64 (a.tmod b)), v19, v20, v21, v22, v23, v24, v25, v26, v27], (HN [r0, r1]), none) :=
  Runs.by (n := 1000) (fid := 107) (os := [.br 107 30 true, .op 107 19 (.int .i64 (a.tmod b))]) (os' := []) (by kernel_rfl) (ObsOK.cond hb (ObsOK.val hr (ObsOK.nil)))
theorem e107_p0 (v0 v1 v2 v5 v6 v7 v8 v9 v10 v11 v12 v13 v14 v15 v16 v17 v18 v19 v20 v21 v22 v23 v24 v25 v26 v27 : Value) (a b : Int) (r0 r1 : Option ARow) (hb : (b != 0) = false) : Runs Tryz.prog envK 9 [.code (round 0 (bodyOf 107)), .inLoop (round 0 (bodyOf 107)), .inBlock 0] [v0, v1, v2, .int .i64 a, .int .i64 b, v5, v6, v7, v8, v9, v10, v11, v12, v13, v14, v15, v16, v17, v18, v19, v20, v21, v22, v23, v24, v25, v26, v27] (HN [r0, r1]) ([v0, v1, v2, (.int .i64 a), (.int .i64 b), v5, v6, v7, v8, v9, v10, v11, v12, (.int .i64 b), (.bool (b != 0)), v15, v16, v17, v18, v19, v20, v21, v22, v23, v24, v25, v26, v27], (HN [r0, r1]), none) :=
  Runs.by (n := 1000) (fid := 107) (os := [.br 107 30 false]) (os' := []) (by kernel_rfl) (ObsOK.cond hb (ObsOK.nil))
theorem s110_p0 (v0 v1 v2 v3 v4 v7 v8 v9 v10 v11 v12 v13 v14 v15 v16 v17 v18 v19 v20 v21 v22 v23 v24 v25 v26 v27 v28 v29 v30 : Value) (a b : Int) (r0 : Option ARow) (hb : (b != 0) = true) (hr : aBin Tryz.prog .rem 3 (.tmp 21) (.tmp 22) (.int .i64 a) (.int .i64 b) = some (.int .i64 (a.tmod b))) : Runs Tryz.prog envK 9 [.code (round 0 (bodyOf 110))] [v0, v1, v2, v3, v4, .int .i64 a, .int .i64 b, v7, v8, v9, v10, v11, v12, v13, v14, v15, v16, v17, v18, v19, v20, v21, v22, v23, v24, v25, v26, v27, v28, v29, v30] (HN [r0]) ([v0, v1, v2, v3, v4, (.int .i64 b), (.int .i64 (a.tmod b)), v7, v8, v9, v10, v11, v12, v13, v14, v15, v16, v17, (.int .i64 b), (.bool (b != 0)), (.int .i64 b), (.int .i64 a), (.int .i64 b), (.int .i64 (a.tmod b)), v24, v25, v26, v27, v28, v29, v30], (HN [r0]), none) :=
  Runs.by (n := 1000) (fid := 110) (os := [.br 110 40 true, .op 110 24 (.int .i64 (a.tmod b))]) (os' := []) (by kernel_rfl) (ObsOK.cond hb (ObsOK.val hr (ObsOK.nil)))
theorem e110_p0 (v0 v1 v2 v3 v4 v7 v8 v9 v10 v11 v12 v13 v14 v15 v16 v17 v18 v19 v20 v21 v22 v23 v24 v25 v26 v27 v28 v29 v30 : Value) (a b : Int) (r0 : Option ARow) (hb : (b != 0) = false) : Runs Tryz.prog envK 9 [.code (round 0 (bodyOf 110)), .inLoop (round 0 (bodyOf 110)), .inBlock 0] [v0, v1, v2, v3, v4, .int .i64 a, .int .i64 b, v7, v8, v9, v10, v11, v12, v13, v14, v15, v16, v17, v18, v19, v20, v21, v22, v23, v24, v25, v26, v27, v28, v29, v30] (HN [r0]) ([v0, v1, v2, v3, v4, (.int .i64 a), (.int .i64 b), v7, v8, v9, v10, v11, v12, v13, v14, v15, v16, v17, (.int .i64 b), (.bool (b != 0)), v20, v21, v22, v23, v24, v25, v26, v27, v28, v29, v30], (HN [r0]), none) :=
  Runs.by (n := 1000) (fid := 110) (os := [.br 110 40 false]) (os' := []) (by kernel_rfl) (ObsOK.cond hb (ObsOK.nil))
theorem loop107 : ∀ (n : Nat) (v0 v1 v2 v5 v6 v7 v8 v9 v10 v11 v12 v13 v14 v15 v16 v17 v18 v19 v20 v21 v22 v23 v24 v25 v26 v27 : Value) (a b : Int) (r0 r1 : Option ARow), b.natAbs = n → ∃ w13 w14 w15 w16 w17 w18 : Value, Runs Tryz.prog envK 9 [.inLoop (round 0 (bodyOf 107)), .inBlock 0] [v0, v1, v2, .int .i64 a, .int .i64 b, v5, v6, v7, v8, v9, v10, v11, v12, v13, v14, v15, v16, v17, v18, v19, v20, v21, v22, v23, v24, v25, v26, v27] (HN [r0, r1]) ([v0, v1, v2, .int .i64 (gcdE a b), .int .i64 0, v5, v6, v7, v8, v9, v10, v11, v12, w13, w14, w15, w16, w17, w18, v19, v20, v21, v22, v23, v24, v25, v26, v27], (HN [r0, r1]), none) := by
  intro n
  induction n using Nat.strongRecOn with
  | ind n ih =>
    intro v0 v1 v2 v5 v6 v7 v8 v9 v10 v11 v12 v13 v14 v15 v16 v17 v18 v19 v20 v21 v22 v23 v24 v25 v26 v27 a b r0 r1 hn
    by_cases hb : b = 0
    · subst hb
      rw [gcdE_zero]
      exact ⟨.int .i64 0, .bool ((0 : Int) != 0), v15, v16, v17, v18, Runs.inLoop (e107_p0 v0 v1 v2 v5 v6 v7 v8 v9 v10 v11 v12 v13 v14 v15 v16 v17 v18 v19 v20 v21 v22 v23 v24 v25 v26 v27 a 0 r0 r1 rfl)⟩
    · have hb' : (b != 0) = true := by simpa using hb
      obtain ⟨w13, w14, w15, w16, w17, w18, h⟩ := ih (a.tmod b).natAbs (by rw [← hn, Int.natAbs_tmod]; exact Nat.mod_lt _ (by omega)) v0 v1 v2 v5 v6 v7 v8 v9 v10 v11 v12 (.int .i64 b) (.bool (b != 0)) (.int .i64 b) (.int .i64 a) (.int .i64 b) (.int .i64 (a.tmod b)) v19 v20 v21 v22 v23 v24 v25 v26 v27 b (a.tmod b) r0 r1 rfl
      rw [gcdE_step hb]
      exact ⟨w13, w14, w15, w16, w17, w18, Runs.loopAgain (s107_p0 v0 v1 v2 v5 v6 v7 v8 v9 v10 v11 v12 v13 v14 v15 v16 v17 v18 v19 v20 v21 v22 v23 v24 v25 v26 v27 a b r0 r1 hb' (aBin_rem hb)) h⟩
theorem blkEq107 : blk 0 (bodyOf 107) = .block 0 (.loop (round 0 (bodyOf 107))) := by kernel_rfl
theorem blk107 {v0 v1 v2 v5 v6 v7 v8 v9 v10 v11 v12 v13 v14 v15 v16 v17 v18 v19 v20 v21 v22 v23 v24 v25 v26 v27 : Value} {a b : Int} {r0 r1 : Option ARow} : ∃ w13 w14 w15 w16 w17 w18 : Value, Runs Tryz.prog envK 9 [.code (blk 0 (bodyOf 107))] [v0, v1, v2, .int .i64 a, .int .i64 b, v5, v6, v7, v8, v9, v10, v11, v12, v13, v14, v15, v16, v17, v18, v19, v20, v21, v22, v23, v24, v25, v26, v27] (HN [r0, r1]) ([v0, v1, v2, .int .i64 (gcdE a b), .int .i64 0, v5, v6, v7, v8, v9, v10, v11, v12, w13, w14, w15, w16, w17, w18, v19, v20, v21, v22, v23, v24, v25, v26, v27], (HN [r0, r1]), none) := by
  obtain ⟨w13, w14, w15, w16, w17, w18, h⟩ := loop107 _ v0 v1 v2 v5 v6 v7 v8 v9 v10 v11 v12 v13 v14 v15 v16 v17 v18 v19 v20 v21 v22 v23 v24 v25 v26 v27 a b r0 r1 rfl
  rw [blkEq107]
  exact ⟨w13, w14, w15, w16, w17, w18, Runs.ofLoop h⟩
theorem loop110 : ∀ (n : Nat) (v0 v1 v2 v3 v4 v7 v8 v9 v10 v11 v12 v13 v14 v15 v16 v17 v18 v19 v20 v21 v22 v23 v24 v25 v26 v27 v28 v29 v30 : Value) (a b : Int) (r0 : Option ARow), b.natAbs = n → ∃ w18 w19 w20 w21 w22 w23 : Value, Runs Tryz.prog envK 9 [.inLoop (round 0 (bodyOf 110)), .inBlock 0] [v0, v1, v2, v3, v4, .int .i64 a, .int .i64 b, v7, v8, v9, v10, v11, v12, v13, v14, v15, v16, v17, v18, v19, v20, v21, v22, v23, v24, v25, v26, v27, v28, v29, v30] (HN [r0]) ([v0, v1, v2, v3, v4, .int .i64 (gcdE a b), .int .i64 0, v7, v8, v9, v10, v11, v12, v13, v14, v15, v16, v17, w18, w19, w20, w21, w22, w23, v24, v25, v26, v27, v28, v29, v30], (HN [r0]), none) := by
  intro n
  induction n using Nat.strongRecOn with
  | ind n ih =>
    intro v0 v1 v2 v3 v4 v7 v8 v9 v10 v11 v12 v13 v14 v15 v16 v17 v18 v19 v20 v21 v22 v23 v24 v25 v26 v27 v28 v29 v30 a b r0 hn
    by_cases hb : b = 0
    · subst hb
      rw [gcdE_zero]
      exact ⟨.int .i64 0, .bool ((0 : Int) != 0), v20, v21, v22, v23, Runs.inLoop (e110_p0 v0 v1 v2 v3 v4 v7 v8 v9 v10 v11 v12 v13 v14 v15 v16 v17 v18 v19 v20 v21 v22 v23 v24 v25 v26 v27 v28 v29 v30 a 0 r0 rfl)⟩
    · have hb' : (b != 0) = true := by simpa using hb
      obtain ⟨w18, w19, w20, w21, w22, w23, h⟩ := ih (a.tmod b).natAbs (by rw [← hn, Int.natAbs_tmod]; exact Nat.mod_lt _ (by omega)) v0 v1 v2 v3 v4 v7 v8 v9 v10 v11 v12 v13 v14 v15 v16 v17 (.int .i64 b) (.bool (b != 0)) (.int .i64 b) (.int .i64 a) (.int .i64 b) (.int .i64 (a.tmod b)) v24 v25 v26 v27 v28 v29 v30 b (a.tmod b) r0 rfl
      rw [gcdE_step hb]
      exact ⟨w18, w19, w20, w21, w22, w23, Runs.loopAgain (s110_p0 v0 v1 v2 v3 v4 v7 v8 v9 v10 v11 v12 v13 v14 v15 v16 v17 v18 v19 v20 v21 v22 v23 v24 v25 v26 v27 v28 v29 v30 a b r0 hb' (aBin_rem hb)) h⟩
theorem blkEq110 : blk 0 (bodyOf 110) = .block 0 (.loop (round 0 (bodyOf 110))) := by kernel_rfl
theorem blk110 {v0 v1 v2 v3 v4 v7 v8 v9 v10 v11 v12 v13 v14 v15 v16 v17 v18 v19 v20 v21 v22 v23 v24 v25 v26 v27 v28 v29 v30 : Value} {a b : Int} {r0 : Option ARow} : ∃ w18 w19 w20 w21 w22 w23 : Value, Runs Tryz.prog envK 9 [.code (blk 0 (bodyOf 110))] [v0, v1, v2, v3, v4, .int .i64 a, .int .i64 b, v7, v8, v9, v10, v11, v12, v13, v14, v15, v16, v17, v18, v19, v20, v21, v22, v23, v24, v25, v26, v27, v28, v29, v30] (HN [r0]) ([v0, v1, v2, v3, v4, .int .i64 (gcdE a b), .int .i64 0, v7, v8, v9, v10, v11, v12, v13, v14, v15, v16, v17, w18, w19, w20, w21, w22, w23, v24, v25, v26, v27, v28, v29, v30], (HN [r0]), none) := by
  obtain ⟨w18, w19, w20, w21, w22, w23, h⟩ := loop110 _ v0 v1 v2 v3 v4 v7 v8 v9 v10 v11 v12 v13 v14 v15 v16 v17 v18 v19 v20 v21 v22 v23 v24 v25 v26 v27 v28 v29 v30 a b r0 rfl
  rw [blkEq110]
  exact ⟨w18, w19, w20, w21, w22, w23, Runs.ofLoop h⟩
end Go.Proofs.YtkndhhnjgpialaaGreatDoor
/-
Ratios in lowest terms: what the program and the reference make of a numerator and a denominator above 0.
-/
namespace Go.Proofs.YtkndhhnjgpialaaGreatDoor
open Go Go.Abs
theorem low107_p0 (p q : Int) (w13 w14 w15 w16 w17 w18 : Value) (hrun : Runs Tryz.prog envK 9 [.code (blk 0 (bodyOf 107))] [(.agg #[(.int .i64 p), (.int .i64 q)]), (.pointer (.some (Go.Addr.mk 9 0 .none))), (.pointer (.some (Go.Addr.mk 10 0 .none))), (.int .i64 q), (.int .i64 (if IntKind.i64.wrap (0 - p) > p then IntKind.i64.wrap (0 - p) else p)), (.pointer (.some (Go.Addr.mk 9 1 .none))), (.int .i64 q), (.pointer (.some (Go.Addr.mk 9 0 .none))), (.int .i64 p), (.pointer (.some (Go.Addr.mk 9 0 .none))), (.int .i64 p), (.int .i64 (IntKind.i64.wrap (0 - p))), (.int .i64 (if IntKind.i64.wrap (0 - p) > p then IntKind.i64.wrap (0 - p) else p)), (.tuple #[]), (.tuple #[]), (.tuple #[]), (.tuple #[]), (.tuple #[]), (.tuple #[]), (.tuple #[]), (.tuple #[]), (.tuple #[]), (.tuple #[]), (.tuple #[]), (.tuple #[]), (.tuple #[]), (.tuple #[]), (.tuple #[])] (HN [(.some (.cells [(.int .i64 p), (.int .i64 q)] 61 .var)), (.some (.cells [(.int .i64 (0)), (.int .i64 (0))] 61 .var))]) ([(.agg #[(.int .i64 p), (.int .i64 q)]), (.pointer (.some (Go.Addr.mk 9 0 .none))), (.pointer (.some (Go.Addr.mk 10 0 .none))), (.int .i64 (gcdE q (if IntKind.i64.wrap (0 - p) > p then IntKind.i64.wrap (0 - p) else p))), (.int .i64 0), (.pointer (.some (Go.Addr.mk 9 1 .none))), (.int .i64 q), (.pointer (.some (Go.Addr.mk 9 0 .none))), (.int .i64 p), (.pointer (.some (Go.Addr.mk 9 0 .none))), (.int .i64 p), (.int .i64 (IntKind.i64.wrap (0 - p))), (.int .i64 (if IntKind.i64.wrap (0 - p) > p then IntKind.i64.wrap (0 - p) else p)), w13, w14, w15, w16, w17, w18, (.tuple #[]), (.tuple #[]), (.tuple #[]), (.tuple #[]), (.tuple #[]), (.tuple #[]), (.tuple #[]), (.tuple #[]), (.tuple #[])], (HN [(.some (.cells [(.int .i64 p), (.int .i64 q)] 61 .var)), (.some (.cells [(.int .i64 (0)), (.int .i64 (0))] 61 .var))]), none)) (h1 : aBin Tryz.prog .quo 3 (.tmp 20) (.tmp 21) (.int .i64 p) (.int .i64 (gcdE q (if IntKind.i64.wrap (0 - p) > p then IntKind.i64.wrap (0 - p) else p))) = some (.int .i64 (IntKind.i64.wrap (p.tdiv (gcdE q (if IntKind.i64.wrap (0 - p) > p then IntKind.i64.wrap (0 - p) else p)))))) (h2 : aBin Tryz.prog .quo 3 (.tmp 24) (.tmp 25) (.int .i64 q) (.int .i64 (gcdE q (if IntKind.i64.wrap (0 - p) > p then IntKind.i64.wrap (0 - p) else p))) = some (.int .i64 (IntKind.i64.wrap (q.tdiv (gcdE q (if IntKind.i64.wrap (0 - p) > p then IntKind.i64.wrap (0 - p) else p)))))) : Gives Tryz.prog envK 0 107 [.agg #[.int .i64 p, .int .i64 q]] heapN ((.agg #[(.int .i64 (IntKind.i64.wrap (p.tdiv (gcdE q (if IntKind.i64.wrap (0 - p) > p then IntKind.i64.wrap (0 - p) else p))))), (.int .i64 (IntKind.i64.wrap (q.tdiv (gcdE q (if IntKind.i64.wrap (0 - p) > p then IntKind.i64.wrap (0 - p) else p)))))]), heapN) :=
  Gives.by (n := 1000) (os := [.run 107 0 [(.agg #[(.int .i64 p), (.int .i64 q)]), (.pointer (.some (Go.Addr.mk 9 0 .none))), (.pointer (.some (Go.Addr.mk 10 0 .none))), (.int .i64 (gcdE q (if IntKind.i64.wrap (0 - p) > p then IntKind.i64.wrap (0 - p) else p))), (.int .i64 (0)), (.pointer (.some (Go.Addr.mk 9 1 .none))), (.int .i64 q), (.pointer (.some (Go.Addr.mk 9 0 .none))), (.int .i64 p), (.pointer (.some (Go.Addr.mk 9 0 .none))), (.int .i64 p), (.int .i64 (IntKind.i64.wrap (0 - p))), (.int .i64 (if IntKind.i64.wrap (0 - p) > p then IntKind.i64.wrap (0 - p) else p)), w13, w14, w15, w16, w17, w18, (.tuple #[]), (.tuple #[]), (.tuple #[]), (.tuple #[]), (.tuple #[]), (.tuple #[]), (.tuple #[]), (.tuple #[]), (.tuple #[])] (HN [(.some (.cells [(.int .i64 p), (.int .i64 q)] 61 .var)), (.some (.cells [(.int .i64 (0)), (.int .i64 (0))] 61 .var))]), .op 107 23 (.int .i64 (IntKind.i64.wrap (p.tdiv (gcdE q (if IntKind.i64.wrap (0 - p) > p then IntKind.i64.wrap (0 - p) else p))))), .op 107 27 (.int .i64 (IntKind.i64.wrap (q.tdiv (gcdE q (if IntKind.i64.wrap (0 - p) > p then IntKind.i64.wrap (0 - p) else p)))))]) (os' := []) (by kernel_rfl) (ObsOK.run hrun (ObsOK.val h1 (ObsOK.val h2 (ObsOK.nil))))
theorem low110_p0 (p q : Int) (hq : decide (q < 0) = false) (w18 w19 w20 w21 w22 w23 : Value) (hrun : Runs Tryz.prog envK 9 [.code (blk 0 (bodyOf 110))] [(.int .i64 p), (.int .i64 q), (.tuple #[]), (.tuple #[]), (.pointer (.some (Go.Addr.mk 9 0 .none))), (.int .i64 (if IntKind.i64.wrap (0 - p) > p then IntKind.i64.wrap (0 - p) else p)), (.int .i64 q), (.int .i64 q), (.bool (decide (q < 0))), (.tuple #[]), (.tuple #[]), (.tuple #[]), (.tuple #[]), (.int .i64 p), (.int .i64 p), (.int .i64 (IntKind.i64.wrap (0 - p))), (.int .i64 (if IntKind.i64.wrap (0 - p) > p then IntKind.i64.wrap (0 - p) else p)), (.int .i64 q), (.tuple #[]), (.tuple #[]), (.tuple #[]), (.tuple #[]), (.tuple #[]), (.tuple #[]), (.tuple #[]), (.tuple #[]), (.tuple #[]), (.tuple #[]), (.tuple #[]), (.tuple #[]), (.tuple #[])] (HN [(.some (.cells [(.int .i64 (0)), (.int .i64 (0))] 61 .var))]) ([(.int .i64 p), (.int .i64 q), (.tuple #[]), (.tuple #[]), (.pointer (.some (Go.Addr.mk 9 0 .none))), (.int .i64 (gcdE (if IntKind.i64.wrap (0 - p) > p then IntKind.i64.wrap (0 - p) else p) q)), (.int .i64 0), (.int .i64 q), (.bool (decide (q < 0))), (.tuple #[]), (.tuple #[]), (.tuple #[]), (.tuple #[]), (.int .i64 p), (.int .i64 p), (.int .i64 (IntKind.i64.wrap (0 - p))), (.int .i64 (if IntKind.i64.wrap (0 - p) > p then IntKind.i64.wrap (0 - p) else p)), (.int .i64 q), w18, w19, w20, w21, w22, w23, (.tuple #[]), (.tuple #[]), (.tuple #[]), (.tuple #[]), (.tuple #[]), (.tuple #[]), (.tuple #[])], (HN [(.some (.cells [(.int .i64 (0)), (.int .i64 (0))] 61 .var))]), none)) (h1 : aBin Tryz.prog .quo 3 (.tmp 24) (.tmp 25) (.int .i64 p) (.int .i64 (gcdE (if IntKind.i64.wrap (0 - p) > p then IntKind.i64.wrap (0 - p) else p) q)) = some (.int .i64 (IntKind.i64.wrap (p.tdiv (gcdE (if IntKind.i64.wrap (0 - p) > p then IntKind.i64.wrap (0 - p) else p) q))))) (h2 : aBin Tryz.prog .quo 3 (.tmp 27) (.tmp 28) (.int .i64 q) (.int .i64 (gcdE (if IntKind.i64.wrap (0 - p) > p then IntKind.i64.wrap (0 - p) else p) q)) = some (.int .i64 (IntKind.i64.wrap (q.tdiv (gcdE (if IntKind.i64.wrap (0 - p) > p then IntKind.i64.wrap (0 - p) else p) q))))) : Gives Tryz.prog envK 0 110 [.int .i64 p, .int .i64 q] heapN ((.agg #[(.int .i64 (IntKind.i64.wrap (p.tdiv (gcdE (if IntKind.i64.wrap (0 - p) > p then IntKind.i64.wrap (0 - p) else p) q)))), (.int .i64 (IntKind.i64.wrap (q.tdiv (gcdE (if IntKind.i64.wrap (0 - p) > p then IntKind.i64.wrap (0 - p) else p) q))))]), heapN) :=
  Gives.by (n := 1000) (os := [.br 110 18 false, .run 110 0 [(.int .i64 p), (.int .i64 q), (.tuple #[]), (.tuple #[]), (.pointer (.some (Go.Addr.mk 9 0 .none))), (.int .i64 (gcdE (if IntKind.i64.wrap (0 - p) > p then IntKind.i64.wrap (0 - p) else p) q)), (.int .i64 (0)), (.int .i64 q), (.bool (decide (q < 0))), (.tuple #[]), (.tuple #[]), (.tuple #[]), (.tuple #[]), (.int .i64 p), (.int .i64 p), (.int .i64 (IntKind.i64.wrap (0 - p))), (.int .i64 (if IntKind.i64.wrap (0 - p) > p then IntKind.i64.wrap (0 - p) else p)), (.int .i64 q), w18, w19, w20, w21, w22, w23, (.tuple #[]), (.tuple #[]), (.tuple #[]), (.tuple #[]), (.tuple #[]), (.tuple #[]), (.tuple #[])] (HN [(.some (.cells [(.int .i64 (0)), (.int .i64 (0))] 61 .var))]), .op 110 27 (.int .i64 (IntKind.i64.wrap (p.tdiv (gcdE (if IntKind.i64.wrap (0 - p) > p then IntKind.i64.wrap (0 - p) else p) q)))), .op 110 30 (.int .i64 (IntKind.i64.wrap (q.tdiv (gcdE (if IntKind.i64.wrap (0 - p) > p then IntKind.i64.wrap (0 - p) else p) q))))]) (os' := []) (by kernel_rfl) (ObsOK.cond hq (ObsOK.run hrun (ObsOK.val h1 (ObsOK.val h2 (ObsOK.nil)))))

/-- Numbers of 64 bits, the denominator above 0. -/
def okL (p q : Int) : Bool := decide (0 < q ∧ q < 9223372036854775808 ∧ -9223372036854775808 < p ∧ p < 9223372036854775808)
def lowN (p q : Int) : Int := p.tdiv (Int.gcd p q)
def lowD (p q : Int) : Int := q.tdiv (Int.gcd p q)
theorem absE {p : Int} (h : -9223372036854775808 < p ∧ p < 9223372036854775808) : (if IntKind.i64.wrap (0 - p) > p then IntKind.i64.wrap (0 - p) else p) = (p.natAbs : Int) := by
  rw [wSmall (by omega) (by omega)]
  split <;> omega
theorem gcd_ne {p q : Int} (h : 0 < q) : (Int.gcd p q : Int) ≠ 0 := by
  have : Int.gcd p q ≠ 0 := fun h0 => by
    have := Int.gcd_eq_zero_iff.1 h0
    omega
  omega
theorem tdivB {p : Int} {g : Nat} (hp : -9223372036854775808 < p ∧ p < 9223372036854775808) : IntKind.i64.wrap (p.tdiv g) = p.tdiv g := by
  have h : (p.tdiv g).natAbs ≤ p.natAbs := by rw [Int.natAbs_tdiv]; exact Nat.div_le_self _ _
  exact wSmall (by omega) (by omega)
theorem g107 {p q : Int} (h : okL p q = true) : Gives Tryz.prog envK 0 107 [.agg #[.int .i64 p, .int .i64 q]] heapN (.agg #[.int .i64 (lowN p q), .int .i64 (lowD p q)], heapN) := by
  have h := of_decide_eq_true h
  have ha := absE (p := p) ⟨h.2.2.1, h.2.2.2⟩
  have hg : gcdE q (if IntKind.i64.wrap (0 - p) > p then IntKind.i64.wrap (0 - p) else p) = (Int.gcd p q : Int) := by
    rw [ha, gcdE_eq (by omega) (by omega), Int.gcd_comm]
    simp [Int.gcd]
  obtain ⟨w13, w14, w15, w16, w17, w18, hr⟩ := blk107 (v0 := .agg #[.int .i64 p, .int .i64 q]) (v1 := .pointer (some (Addr.mk 9 0 none))) (v2 := .pointer (some (Addr.mk 10 0 none))) (a := q) (b := if IntKind.i64.wrap (0 - p) > p then IntKind.i64.wrap (0 - p) else p)
  have := low107_p0 p q w13 w14 w15 w16 w17 w18 hr (by rw [hg]; exact aBin_quo (gcd_ne h.1)) (by rw [hg]; exact aBin_quo (gcd_ne h.1))
  rw [hg, tdivB ⟨h.2.2.1, h.2.2.2⟩, tdivB ⟨by omega, h.2.1⟩] at this
  exact this
theorem g110 {p q : Int} (h : okL p q = true) : Gives Tryz.prog envK 0 110 [.int .i64 p, .int .i64 q] heapN (.agg #[.int .i64 (lowN p q), .int .i64 (lowD p q)], heapN) := by
  have h := of_decide_eq_true h
  have ha := absE (p := p) ⟨h.2.2.1, h.2.2.2⟩
  have hg : gcdE (if IntKind.i64.wrap (0 - p) > p then IntKind.i64.wrap (0 - p) else p) q = (Int.gcd p q : Int) := by
    rw [ha, gcdE_eq (by omega) (by omega)]
    simp [Int.gcd]
  obtain ⟨w18, w19, w20, w21, w22, w23, hr⟩ := blk110 (v0 := .int .i64 p) (v1 := .int .i64 q) (a := if IntKind.i64.wrap (0 - p) > p then IntKind.i64.wrap (0 - p) else p) (b := q)
  have := low110_p0 p q (decide_eq_false (by omega)) w18 w19 w20 w21 w22 w23 hr (by rw [hg]; exact aBin_quo (gcd_ne h.1)) (by rw [hg]; exact aBin_quo (gcd_ne h.1))
  rw [hg, tdivB ⟨h.2.2.1, h.2.2.2⟩, tdivB ⟨by omega, h.2.1⟩] at this
  exact this
end Go.Proofs.YtkndhhnjgpialaaGreatDoor
/-
Ratios in lowest terms are known from here on, where the denominator is above 0.
-/
namespace Go.Proofs.YtkndhhnjgpialaaGreatDoor
open Go Go.Abs
def B_envL (f : FuncId) (args : List Value) : Option (Heap × Value) :=
  if f == 107 then
    match args with
    | [.agg ⟨[.int .i64 p, .int .i64 q]⟩] => if okL p q = true then some (heapN, .agg #[.int .i64 (lowN p q), .int .i64 (lowD p q)]) else none
    | _ => none
  else if f == 110 then
    match args with
    | [.int .i64 p, .int .i64 q] => if okL p q = true then some (heapN, .agg #[.int .i64 (lowN p q), .int .i64 (lowD p q)]) else none
    | _ => none
  else none
noncomputable def envL : Env := envK.with (baseKnown B_envL)
theorem envL_ok : EnvOK Tryz.prog 9 envL := env_base prog_ok envK_ok fun f args H v h => by
  unfold B_envL at h
  split at h
  · rename_i hf
    have hf : f = 107 := by simpa using hf
    subst hf
    split at h
    · split at h
      · rename_i hl; cases h; exact heapN_ok (g107 hl)
      · cases h
    · cases h
  · split at h
    · rename_i hf
      have hf : f = 110 := by simpa using hf
      subst hf
      split at h
      · split at h
        · rename_i hl; cases h; exact heapN_ok (g110 hl)
        · cases h
      · cases h
    · cases h
theorem known_gives {E : Env} {B : FuncId → List Value → Option (Heap × Value)} {lim : Nat} {f : FuncId} {args : List Value} {A H : Heap} {v : Value} {P : Program} (hB : B f args = some (H, v)) (ha : args.all freeB = true) (hv : freeB v = true) (hs : startsB H A = true) : Gives P (E.with (baseKnown B)) lim f args A (v, A) := by
  refine ⟨0, ?_⟩
  have : (E.with (baseKnown B)).known lim f args A = some (v, A) := by
    simp only [Env.with, baseKnown, hB, ha, hv, hs, Bool.and_self, if_true]
  simp only [aCall, aCallBy, this]
theorem u107 {p q : Int} (h : okL p q = true) : ∀ (lim : Nat) (A : Heap), startsB heapN A = true → Gives Tryz.prog envL lim 107 [.agg #[.int .i64 p, .int .i64 q]] A (.agg #[.int .i64 (lowN p q), .int .i64 (lowD p q)], A) := fun lim A hs =>
  known_gives (H := heapN) (by show (if okL p q = true then _ else none) = _; rw [if_pos h]) rfl rfl hs
theorem u110 {p q : Int} (h : okL p q = true) : ∀ (lim : Nat) (A : Heap), startsB heapN A = true → Gives Tryz.prog envL lim 110 [.int .i64 p, .int .i64 q] A (.agg #[.int .i64 (lowN p q), .int .i64 (lowD p q)], A) := fun lim A hs =>
  known_gives (H := heapN) (by show (if okL p q = true then _ else none) = _; rw [if_pos h]) rfl rfl hs
end Go.Proofs.YtkndhhnjgpialaaGreatDoor
/-
What functions give.
-/
namespace Go.Proofs.YtkndhhnjgpialaaGreatDoor
open Go Go.Abs
theorem t36a_p0 (g : Int) (h : Int) (i : Int) (j : Int) (hb : (bErr g h i j != 0) = true) : Gives Tryz.prog envL 0 36 [(.agg #[(.int .i64 (g)), (.int .i64 (h)), (.int .i64 (i)), (.int .i64 (j))])] heapN ((.tuple #[(.agg #[(.int .i64 (0)), (.int .i64 (0))]), (.int .i64 (bErr g h i j))]), heapN) :=
  Gives.by (n := 1000) (os := [.br 105 26 true, .br 36 30 true]) (os' := []) (by kernel_rfl) (ObsOK.cond hb (ObsOK.cond hb (ObsOK.nil)))
def t36a_r2 (g : Int) (h : Int) (i : Int) (j : Int) : Int := (bErr g h i j)
theorem t36a_gives (g : Int) (h : Int) (i : Int) (j : Int) (hb : (bErr g h i j != 0) = true) : Gives Tryz.prog envL 0 36 [(.agg #[(.int .i64 (g)), (.int .i64 (h)), (.int .i64 (i)), (.int .i64 (j))])] heapN ((.tuple #[(.agg #[(.int .i64 (0)), (.int .i64 (0))]), (.int .i64 (t36a_r2 g h i j))]), heapN) := by
  simp only [t36a_r2, cond_true, cond_false]; exact t36a_p0 g h i j hb
theorem t36b_p0 (g : Int) (h : Int) (i : Int) (j : Int) (hb : (bErr g h i j != 0) = false) (hp : ((bif !h != 0 then (7 : Int) else 0) != 0) = true) : Gives Tryz.prog envL 0 36 [(.agg #[(.int .i64 (g)), (.int .i64 (h)), (.int .i64 (i)), (.int .i64 (j))])] heapN ((.tuple #[(.agg #[(.int .i64 (0)), (.int .i64 (0))]), (.int .i64 (bif !h != 0 then 7 else 0))]), heapN) :=
  Gives.by (n := 1000) (os := [.br 105 26 false, .br 105 26 true, .br 36 30 true]) (os' := []) (by kernel_rfl) (ObsOK.cond hb (ObsOK.cond hp (ObsOK.cond hp (ObsOK.nil))))
def t36b_r2 (g : Int) (h : Int) (i : Int) (j : Int) : Int := (bif !h != 0 then 7 else 0)
theorem t36b_gives (g : Int) (h : Int) (i : Int) (j : Int) (hb : (bErr g h i j != 0) = false) (hp : ((bif !h != 0 then (7 : Int) else 0) != 0) = true) : Gives Tryz.prog envL 0 36 [(.agg #[(.int .i64 (g)), (.int .i64 (h)), (.int .i64 (i)), (.int .i64 (j))])] heapN ((.tuple #[(.agg #[(.int .i64 (0)), (.int .i64 (0))]), (.int .i64 (t36b_r2 g h i j))]), heapN) := by
  simp only [t36b_r2, cond_true, cond_false]; exact t36b_p0 g h i j hb hp
theorem t36c_p0 (g : Int) (h : Int) (i : Int) (j : Int) (hb : (bErr g h i j != 0) = false) (hp : ((bif !h != 0 then (7 : Int) else 0) != 0) = false) (hl : ∀ (lim : Nat) (A : Heap), startsB heapN A = true → Gives Tryz.prog envL lim 107 [.agg #[.int .i64 (IntKind.i64.wrap (g + i)), .int .i64 h]] A (.agg #[.int .i64 (lowN (IntKind.i64.wrap (g + i)) (h)), .int .i64 (lowD (IntKind.i64.wrap (g + i)) (h))], A)) : Gives Tryz.prog envL 0 36 [(.agg #[(.int .i64 (g)), (.int .i64 (h)), (.int .i64 (i)), (.int .i64 (j))])] heapN ((.tuple #[(.agg #[(.int .i64 (lowN (IntKind.i64.wrap (g + i)) h)), (.int .i64 (lowD (IntKind.i64.wrap (g + i)) h))]), (.int .i64 (0))]), heapN) :=
  Gives.by (n := 1000) (os := [.br 105 26 false, .br 105 26 false, .opw 36 26 (.agg #[(.int .i64 (lowN (IntKind.i64.wrap (g + i)) h)), (.int .i64 (lowD (IntKind.i64.wrap (g + i)) h))]) [.none, .none, .none, .none, .none, .none, .none, .none, .none, (.some (.cells [(.int .i64 g), (.int .i64 h), (.int .i64 i), (.int .i64 j)] 56 .var)), (.some (.cells [(.int .i64 (0)), (.int .i64 (0))] 61 .var)), (.some (.cells [(.int .i64 (bErr g h i j)), (.int .i64 (bif !h != 0 then 7 else 0))] 27 .row))]]) (os' := []) (by kernel_rfl) (ObsOK.cond hb (ObsOK.cond hp (ObsOK.call (hl 9 [.none, .none, .none, .none, .none, .none, .none, .none, .none, (.some (.cells [(.int .i64 g), (.int .i64 h), (.int .i64 i), (.int .i64 j)] 56 .var)), (.some (.cells [(.int .i64 (0)), (.int .i64 (0))] 61 .var)), (.some (.cells [(.int .i64 (bErr g h i j)), (.int .i64 (bif !h != 0 then 7 else 0))] 27 .row))] (by kernel_rfl)) (ObsOK.nil))))
def t36c_r0 (g : Int) (h : Int) (i : Int) (j : Int) : Int := (lowN (IntKind.i64.wrap (g + i)) h)
def t36c_r1 (g : Int) (h : Int) (i : Int) (j : Int) : Int := (lowD (IntKind.i64.wrap (g + i)) h)
theorem t36c_gives (g : Int) (h : Int) (i : Int) (j : Int) (hb : (bErr g h i j != 0) = false) (hp : ((bif !h != 0 then (7 : Int) else 0) != 0) = false) (hl : ∀ (lim : Nat) (A : Heap), startsB heapN A = true → Gives Tryz.prog envL lim 107 [.agg #[.int .i64 (IntKind.i64.wrap (g + i)), .int .i64 h]] A (.agg #[.int .i64 (lowN (IntKind.i64.wrap (g + i)) (h)), .int .i64 (lowD (IntKind.i64.wrap (g + i)) (h))], A)) : Gives Tryz.prog envL 0 36 [(.agg #[(.int .i64 (g)), (.int .i64 (h)), (.int .i64 (i)), (.int .i64 (j))])] heapN ((.tuple #[(.agg #[(.int .i64 (t36c_r0 g h i j)), (.int .i64 (t36c_r1 g h i j))]), (.int .i64 (0))]), heapN) := by
  simp only [t36c_r0, t36c_r1, cond_true, cond_false]; exact t36c_p0 g h i j hb hp hl
theorem t41b_p0 (g : Int) (h : Int) (i : Int) (j : Int) (hp : (h == 0) = true) : Gives Tryz.prog envL 0 41 [(.agg #[(.int .i64 (g)), (.int .i64 (h)), (.int .i64 (i)), (.int .i64 (j))])] heapN ((.tuple #[(.agg #[(.int .i64 (0)), (.int .i64 (0))]), (.int .i64 (7))]), heapN) :=
  Gives.by (n := 1000) (os := [.br 41 14 true]) (os' := []) (by kernel_rfl) (ObsOK.cond hp (ObsOK.nil))
theorem t41b_gives (g : Int) (h : Int) (i : Int) (j : Int) (hp : (h == 0) = true) : Gives Tryz.prog envL 0 41 [(.agg #[(.int .i64 (g)), (.int .i64 (h)), (.int .i64 (i)), (.int .i64 (j))])] heapN ((.tuple #[(.agg #[(.int .i64 (0)), (.int .i64 (0))]), (.int .i64 (7))]), heapN) := by
  exact t41b_p0 g h i j hp
theorem t41c_p0 (g : Int) (h : Int) (i : Int) (j : Int) (hp : (h == 0) = false) (hl : ∀ (lim : Nat) (A : Heap), startsB heapN A = true → Gives Tryz.prog envL lim 110 [.int .i64 (IntKind.i64.wrap (g + i)), .int .i64 h] A (.agg #[.int .i64 (lowN (IntKind.i64.wrap (g + i)) (h)), .int .i64 (lowD (IntKind.i64.wrap (g + i)) (h))], A)) : Gives Tryz.prog envL 0 41 [(.agg #[(.int .i64 (g)), (.int .i64 (h)), (.int .i64 (i)), (.int .i64 (j))])] heapN ((.tuple #[(.agg #[(.int .i64 (lowN (IntKind.i64.wrap (g + i)) h)), (.int .i64 (lowD (IntKind.i64.wrap (g + i)) h))]), (.int .i64 (0))]), heapN) :=
  Gives.by (n := 1000) (os := [.br 41 14 false, .opw 41 16 (.agg #[(.int .i64 (lowN (IntKind.i64.wrap (g + i)) h)), (.int .i64 (lowD (IntKind.i64.wrap (g + i)) h))]) [.none, .none, .none, .none, .none, .none, .none, .none, .none, (.some (.cells [(.int .i64 g), (.int .i64 h), (.int .i64 i), (.int .i64 j)] 54 .var)), (.some (.cells [(.int .i64 (0)), (.int .i64 (0))] 61 .var))]]) (os' := []) (by kernel_rfl) (ObsOK.cond hp (ObsOK.call (hl 9 [.none, .none, .none, .none, .none, .none, .none, .none, .none, (.some (.cells [(.int .i64 g), (.int .i64 h), (.int .i64 i), (.int .i64 j)] 54 .var)), (.some (.cells [(.int .i64 (0)), (.int .i64 (0))] 61 .var))] (by kernel_rfl)) (ObsOK.nil)))
def t41c_r0 (g : Int) (h : Int) (i : Int) (j : Int) : Int := (lowN (IntKind.i64.wrap (g + i)) h)
def t41c_r1 (g : Int) (h : Int) (i : Int) (j : Int) : Int := (lowD (IntKind.i64.wrap (g + i)) h)
theorem t41c_gives (g : Int) (h : Int) (i : Int) (j : Int) (hp : (h == 0) = false) (hl : ∀ (lim : Nat) (A : Heap), startsB heapN A = true → Gives Tryz.prog envL lim 110 [.int .i64 (IntKind.i64.wrap (g + i)), .int .i64 h] A (.agg #[.int .i64 (lowN (IntKind.i64.wrap (g + i)) (h)), .int .i64 (lowD (IntKind.i64.wrap (g + i)) (h))], A)) : Gives Tryz.prog envL 0 41 [(.agg #[(.int .i64 (g)), (.int .i64 (h)), (.int .i64 (i)), (.int .i64 (j))])] heapN ((.tuple #[(.agg #[(.int .i64 (t41c_r0 g h i j)), (.int .i64 (t41c_r1 g h i j))]), (.int .i64 (0))]), heapN) := by
  simp only [t41c_r0, t41c_r1, cond_true, cond_false]; exact t41c_p0 g h i j hp hl
end Go.Proofs.YtkndhhnjgpialaaGreatDoor
/-
The square of the tuning, for all boxes.
-/
namespace Go.Proofs.YtkndhhnjgpialaaGreatDoor
open Go Go.Abs
def tuN (g h i j : Int) : Int := cond (bErr g h i j != 0) 0 (cond (h == 0) 0 (lowN (IntKind.i64.wrap (g + i)) h))
def tuD (g h i j : Int) : Int := cond (bErr g h i j != 0) 0 (cond (h == 0) 0 (lowD (IntKind.i64.wrap (g + i)) h))
def tuE (g h i j : Int) : Int := cond (bErr g h i j != 0) (bErr g h i j) (cond (h == 0) 7 0)
theorem bErr_zero {g h i j : Int} (hb : (bErr g h i j != 0) = false) : 1 ≤ g ∧ g ≤ 5000 ∧ ((h = 0 ∧ i = 0 ∧ j = 0) ∨ (1 ≤ h ∧ h ≤ 100 ∧ 0 ≤ i ∧ i ≤ 5000 ∧ 1 ≤ j ∧ j ≤ 100)) := by
  unfold bErr at hb
  by_cases h1 : 1 ≤ g ∧ g ≤ 5000
  · rw [if_pos h1] at hb
    by_cases h0 : h = 0
    · rw [if_pos h0] at hb
      by_cases h2 : i = 0 ∧ j = 0
      · exact ⟨h1.1, h1.2, .inl ⟨h0, h2.1, h2.2⟩⟩
      · rw [if_neg h2] at hb; cases hb
    · rw [if_neg h0] at hb
      by_cases h2 : 1 ≤ h ∧ h ≤ 100 ∧ 0 ≤ i ∧ i ≤ 5000 ∧ 1 ≤ j ∧ j ≤ 100
      · exact ⟨h1.1, h1.2, .inr h2⟩
      · rw [if_neg h2] at hb; cases hb
  · rw [if_neg h1] at hb; cases hb
theorem box_okL {g h i j : Int} (hb : (bErr g h i j != 0) = false) (h0 : h ≠ 0) : okL (IntKind.i64.wrap (g + i)) h = true := by
  obtain ⟨h1, h2, h3⟩ := bErr_zero hb
  unfold okL
  rw [decide_eq_true_iff, wSmall (by omega) (by omega)]
  omega
theorem g36 (g h i j : Int) : Gives Tryz.prog envL 0 36 [.agg #[.int .i64 g, .int .i64 h, .int .i64 i, .int .i64 j]] heapN (.tuple #[.agg #[.int .i64 (tuN g h i j), .int .i64 (tuD g h i j)], .int .i64 (tuE g h i j)], heapN) := by
  unfold tuN tuD tuE
  cases hb : bErr g h i j != 0
  · by_cases h0 : h = 0
    · subst h0
      exact t36b_p0 g 0 i j hb rfl
    · have h1 : (h == 0) = false := by simpa using h0
      rw [h1]
      exact t36c_p0 g h i j hb (by rw [show (h != 0) = true by simpa using h0]; rfl) (u107 (box_okL hb h0))
  · exact t36a_p0 g h i j hb
theorem g41 {g h i j : Int} (hb : (bErr g h i j != 0) = false) : Gives Tryz.prog envL 0 41 [.agg #[.int .i64 g, .int .i64 h, .int .i64 i, .int .i64 j]] heapN (.tuple #[.agg #[.int .i64 (tuN g h i j), .int .i64 (tuD g h i j)], .int .i64 (tuE g h i j)], heapN) := by
  unfold tuN tuD tuE
  rw [hb]
  by_cases h0 : h = 0
  · subst h0
    exact t41b_p0 g 0 i j rfl
  · have h1 : (h == 0) = false := by simpa using h0
    rw [h1]
    exact t41c_p0 g h i j h1 (u110 (box_okL hb h0))
def B_envT (f : FuncId) (args : List Value) : Option (Heap × Value) :=
  if f == 36 then
    match args with
    | [.agg ⟨[.int .i64 g, .int .i64 h, .int .i64 i, .int .i64 j]⟩] => some (heapN, .tuple #[.agg #[.int .i64 (tuN g h i j), .int .i64 (tuD g h i j)], .int .i64 (tuE g h i j)])
    | _ => none
  else if f == 41 then
    match args with
    | [.agg ⟨[.int .i64 g, .int .i64 h, .int .i64 i, .int .i64 j]⟩] => if (bErr g h i j != 0) = false then some (heapN, .tuple #[.agg #[.int .i64 (tuN g h i j), .int .i64 (tuD g h i j)], .int .i64 (tuE g h i j)]) else none
    | _ => none
  else none
noncomputable def envT : Env := envL.with (baseKnown B_envT)
theorem envT_ok : EnvOK Tryz.prog 9 envT := env_base prog_ok envL_ok fun f args H v h => by
  unfold B_envT at h
  split at h
  · rename_i hf
    have hf : f = 36 := by simpa using hf
    subst hf
    split at h
    · cases h; exact heapN_ok (g36 _ _ _ _)
    · cases h
  · split at h
    · rename_i hf
      have hf : f = 41 := by simpa using hf
      subst hf
      split at h
      · split at h
        · rename_i hl; cases h; exact heapN_ok (g41 hl)
        · cases h
      · cases h
    · cases h
theorem u41 {g h i j : Int} (hb : (bErr g h i j != 0) = false) : ∀ (lim : Nat) (A : Heap), startsB heapN A = true → Gives Tryz.prog envT lim 41 [.agg #[.int .i64 g, .int .i64 h, .int .i64 i, .int .i64 j]] A (.tuple #[.agg #[.int .i64 (tuN g h i j), .int .i64 (tuD g h i j)], .int .i64 (tuE g h i j)], A) := fun lim A hs =>
  known_gives (H := heapN) (by show (if (bErr g h i j != 0) = false then _ else none) = _; rw [if_pos hb]) rfl rfl hs
end Go.Proofs.YtkndhhnjgpialaaGreatDoor
/-
DriverBoxes, led through its cases.
-/
namespace Go.Proofs.YtkndhhnjgpialaaGreatDoor
open Go Go.Abs
def bnA_c0 (a : Int) (b : Int) (c : Int) (d : Int) (e : Int) (f : Int) (g : Int) (h : Int) (i : Int) (j : Int) (w : Int) : Bool := bErr g h i j == bErr g h i j
def bnA_c1 (a : Int) (b : Int) (c : Int) (d : Int) (e : Int) (f : Int) (g : Int) (h : Int) (i : Int) (j : Int) (w : Int) : Bool := f28_r0 (f33_r0 a b c d e f g h i j w) (f33_r1 a b c d e f g h i j w) (f33_r2 a b c d e f g h i j w) (f33_r3 a b c d e f g h i j w) (f33_r4 a b c d e f g h i j w) (dErr a b c d e f) 0 0 0 0
def bnA_c2 (a : Int) (b : Int) (c : Int) (d : Int) (e : Int) (f : Int) (g : Int) (h : Int) (i : Int) (j : Int) (w : Int) : Bool := f28_r0 (f34_r0 a b c d e f g h i j w) (f34_r1 a b c d e f g h i j w) (f34_r2 a b c d e f g h i j w) (f34_r3 a b c d e f g h i j w) (f34_r4 a b c d e f g h i j w) (dErr a b c d e f) 0 0 0 0
def bnA_c3 (a : Int) (b : Int) (c : Int) (d : Int) (e : Int) (f : Int) (g : Int) (h : Int) (i : Int) (j : Int) (w : Int) : Bool := f28_r0 (f35_r0 a b c d e f g h i j w) (f35_r1 a b c d e f g h i j w) (f35_r2 a b c d e f g h i j w) (f35_r3 a b c d e f g h i j w) (f35_r8 a b c d e f g h i j w) (dErr a b c d e f) 0 0 0 0
def bnA_c4 (a : Int) (b : Int) (c : Int) (d : Int) (e : Int) (f : Int) (g : Int) (h : Int) (i : Int) (j : Int) (w : Int) : Bool := f28_r0 (f35_r4 a b c d e f g h i j w) (f35_r5 a b c d e f g h i j w) (f35_r6 a b c d e f g h i j w) (f35_r7 a b c d e f g h i j w) (f35_r8 a b c d e f g h i j w) (dErr a b c d e f) 0 0 0 0
theorem bnA_p0 (a : Int) (b : Int) (c : Int) (d : Int) (e : Int) (f : Int) (g : Int) (h : Int) (i : Int) (j : Int) (w : Int) (hd : (dErr a b c d e f != 0) = true) (hd0 : (dErr a b c d e f == 0) = false) (hb : (bErr g h i j != 0) = true) (hb0 : (bErr g h i j == 0) = false) (h0 : bnA_c0 a b c d e f g h i j w = true) (h1 : bnA_c1 a b c d e f g h i j w = true) (h2 : bnA_c2 a b c d e f g h i j w = true) (h3 : bnA_c3 a b c d e f g h i j w = true) (h4 : bnA_c4 a b c d e f g h i j w = true) : Gives Tryz.prog envT 0 5 [(.agg #[(.int .i64 (a)), (.int .i64 (b)), (.int .i64 (c)), (.int .i64 (d)), (.int .i64 (e)), (.int .i64 (f))]), (.agg #[(.int .i64 (g)), (.int .i64 (h)), (.int .i64 (i)), (.int .i64 (j))]), (.int .i64 (w))] heap0 ((.bool (f43_r0 (tuN g h i j) (tuD g h i j) (tuE g h i j) (bErr g h i j) 0 0)), heap0) :=
  Gives.by (n := 1000) (os := [.br 20 30 true, .br 5 122 false, .br 5 150 false, .br 5 172 true, .br 5 172 true, .br 5 172 true, .br 5 172 true, .br 5 172 true, .br 5 185 true, .br 5 186 true, .br 5 186 true, .br 5 186 true, .br 5 186 true, .br 5 186 true, .br 5 199 true, .br 5 200 true, .br 5 200 true, .br 5 200 true, .br 5 200 true, .br 5 200 true, .br 5 200 true, .br 5 200 true, .br 5 217 true, .br 5 218 true, .br 5 218 true, .br 5 218 true, .br 5 218 true, .br 5 218 true, .br 5 218 true, .br 5 218 true, .br 5 235 true, .br 5 236 true, .br 5 236 true, .br 5 236 true, .br 5 236 true, .br 5 236 true, .br 5 249 true]) (os' := []) (by kernel_rfl) (ObsOK.cond hd (ObsOK.cond hd0 (ObsOK.cond hb0 (ObsOK.cond h0 (ObsOK.cond h0 (ObsOK.cond h0 (ObsOK.cond h0 (ObsOK.cond h0 (ObsOK.cond h0 (ObsOK.cond h1 (ObsOK.cond h1 (ObsOK.cond h1 (ObsOK.cond h1 (ObsOK.cond h1 (ObsOK.cond h1 (ObsOK.cond h2 (ObsOK.cond h2 (ObsOK.cond h2 (ObsOK.cond h2 (ObsOK.cond h2 (ObsOK.cond h2 (ObsOK.cond h2 (ObsOK.cond h2 (ObsOK.cond h3 (ObsOK.cond h3 (ObsOK.cond h3 (ObsOK.cond h3 (ObsOK.cond h3 (ObsOK.cond h3 (ObsOK.cond h3 (ObsOK.cond h3 (ObsOK.cond h4 (ObsOK.cond h4 (ObsOK.cond h4 (ObsOK.cond h4 (ObsOK.cond h4 (ObsOK.cond h4 (ObsOK.nil))))))))))))))))))))))))))))))))))))))
def bnB_c0 (a : Int) (b : Int) (c : Int) (d : Int) (e : Int) (f : Int) (g : Int) (h : Int) (i : Int) (j : Int) (w : Int) : Bool := bErr g h i j == bErr g h i j
def bnB_c1 (a : Int) (b : Int) (c : Int) (d : Int) (e : Int) (f : Int) (g : Int) (h : Int) (i : Int) (j : Int) (w : Int) : Bool := f28_r0 (f33_r0 a b c d e f g h i j w) (f33_r1 a b c d e f g h i j w) (f33_r2 a b c d e f g h i j w) (f33_r3 a b c d e f g h i j w) (f33_r4 a b c d e f g h i j w) (dErr a b c d e f) 0 0 0 0
def bnB_c2 (a : Int) (b : Int) (c : Int) (d : Int) (e : Int) (f : Int) (g : Int) (h : Int) (i : Int) (j : Int) (w : Int) : Bool := f28_r0 (f34_r0 a b c d e f g h i j w) (f34_r1 a b c d e f g h i j w) (f34_r2 a b c d e f g h i j w) (f34_r3 a b c d e f g h i j w) (f34_r4 a b c d e f g h i j w) (dErr a b c d e f) 0 0 0 0
def bnB_c3 (a : Int) (b : Int) (c : Int) (d : Int) (e : Int) (f : Int) (g : Int) (h : Int) (i : Int) (j : Int) (w : Int) : Bool := f28_r0 (f35_r0 a b c d e f g h i j w) (f35_r1 a b c d e f g h i j w) (f35_r2 a b c d e f g h i j w) (f35_r3 a b c d e f g h i j w) (f35_r8 a b c d e f g h i j w) (dErr a b c d e f) 0 0 0 0
def bnB_c4 (a : Int) (b : Int) (c : Int) (d : Int) (e : Int) (f : Int) (g : Int) (h : Int) (i : Int) (j : Int) (w : Int) : Bool := f28_r0 (f35_r4 a b c d e f g h i j w) (f35_r5 a b c d e f g h i j w) (f35_r6 a b c d e f g h i j w) (f35_r7 a b c d e f g h i j w) (f35_r8 a b c d e f g h i j w) (dErr a b c d e f) 0 0 0 0
theorem bnB_p0 (a : Int) (b : Int) (c : Int) (d : Int) (e : Int) (f : Int) (g : Int) (h : Int) (i : Int) (j : Int) (w : Int) (hd : (dErr a b c d e f != 0) = true) (hd0 : (dErr a b c d e f == 0) = false) (hb : (bErr g h i j != 0) = false) (hb0 : (bErr g h i j == 0) = true) (hl : ∀ (lim : Nat) (A : Heap), startsB heapN A = true → Gives Tryz.prog envT lim 41 [.agg #[.int .i64 g, .int .i64 h, .int .i64 i, .int .i64 j]] A (.tuple #[.agg #[.int .i64 (tuN g h i j), .int .i64 (tuD g h i j)], .int .i64 (tuE g h i j)], A)) (h0 : bnB_c0 a b c d e f g h i j w = true) (h1 : bnB_c1 a b c d e f g h i j w = true) (h2 : bnB_c2 a b c d e f g h i j w = true) (h3 : bnB_c3 a b c d e f g h i j w = true) (h4 : bnB_c4 a b c d e f g h i j w = true) : Gives Tryz.prog envT 0 5 [(.agg #[(.int .i64 (a)), (.int .i64 (b)), (.int .i64 (c)), (.int .i64 (d)), (.int .i64 (e)), (.int .i64 (f))]), (.agg #[(.int .i64 (g)), (.int .i64 (h)), (.int .i64 (i)), (.int .i64 (j))]), (.int .i64 (w))] heap0 ((.bool (f43_r0 (tuN g h i j) (tuD g h i j) (tuE g h i j) (tuE g h i j) (tuN g h i j) (tuD g h i j))), heap0) :=
  Gives.by (n := 1000) (os := [.br 20 30 true, .br 5 122 false, .br 5 150 true, .opw 5 78 (.tuple #[(.agg #[(.int .i64 (tuN g h i j)), (.int .i64 (tuD g h i j))]), (.int .i64 (tuE g h i j))]) (H [(.some (.cells [(.int .i64 a), (.int .i64 b), (.int .i64 c), (.int .i64 d), (.int .i64 e), (.int .i64 f)] 23 .var)), (.some (.cells [(.int .i64 g), (.int .i64 h), (.int .i64 i), (.int .i64 j)] 54 .var)), (.some (.cells [(.int .i64 (f33_r0 a b c d e f g h i j w)), (.int .i64 (f33_r1 a b c d e f g h i j w)), (.int .i64 (f33_r2 a b c d e f g h i j w)), (.int .i64 (f33_r3 a b c d e f g h i j w))] 32 .var)), (.some (.cells [(.int .i64 (f34_r0 a b c d e f g h i j w)), (.int .i64 (f34_r1 a b c d e f g h i j w)), (.int .i64 (f34_r2 a b c d e f g h i j w)), (.int .i64 (f34_r3 a b c d e f g h i j w))] 32 .var)), (.some (.cells [(.int .i64 (f35_r0 a b c d e f g h i j w)), (.int .i64 (f35_r1 a b c d e f g h i j w)), (.int .i64 (f35_r2 a b c d e f g h i j w)), (.int .i64 (f35_r3 a b c d e f g h i j w)), (.int .i64 (f35_r4 a b c d e f g h i j w)), (.int .i64 (f35_r5 a b c d e f g h i j w)), (.int .i64 (f35_r6 a b c d e f g h i j w)), (.int .i64 (f35_r7 a b c d e f g h i j w))] 57 .var)), (.some (.cells [(.int .i64 (tuN g h i j)), (.int .i64 (tuD g h i j))] 61 .var)), (.some (.cells [(.int .i64 (dErr a b c d e f)), (.int .i64 (bErr g h i j)), (.int .i64 (wErr w))] 3 .row)), (.some (.cells [(.int .i64 (0)), (.int .i64 (0)), (.int .i64 (0)), (.int .i64 (0))] 39 .var)), (.some (.cells [(.int .i64 (0)), (.int .i64 (0)), (.int .i64 (0)), (.int .i64 (0))] 39 .var)), (.some (.cells [(.int .i64 (0)), (.int .i64 (0)), (.int .i64 (0)), (.int .i64 (0)), (.int .i64 (0)), (.int .i64 (0)), (.int .i64 (0)), (.int .i64 (0))] 65 .var)), (.some (.cells [(.int .i64 (0)), (.int .i64 (0))] 61 .var))]), .br 5 172 true, .br 5 172 true, .br 5 172 true, .br 5 172 true, .br 5 172 true, .br 5 185 true, .br 5 186 true, .br 5 186 true, .br 5 186 true, .br 5 186 true, .br 5 186 true, .br 5 199 true, .br 5 200 true, .br 5 200 true, .br 5 200 true, .br 5 200 true, .br 5 200 true, .br 5 200 true, .br 5 200 true, .br 5 217 true, .br 5 218 true, .br 5 218 true, .br 5 218 true, .br 5 218 true, .br 5 218 true, .br 5 218 true, .br 5 218 true, .br 5 235 true, .br 5 236 true, .br 5 236 true, .br 5 236 true, .br 5 236 true, .br 5 236 true, .br 5 249 true]) (os' := []) (by kernel_rfl) (ObsOK.cond hd (ObsOK.cond hd0 (ObsOK.cond hb0 (ObsOK.call (hl 9 (H [(.some (.cells [(.int .i64 a), (.int .i64 b), (.int .i64 c), (.int .i64 d), (.int .i64 e), (.int .i64 f)] 23 .var)), (.some (.cells [(.int .i64 g), (.int .i64 h), (.int .i64 i), (.int .i64 j)] 54 .var)), (.some (.cells [(.int .i64 (f33_r0 a b c d e f g h i j w)), (.int .i64 (f33_r1 a b c d e f g h i j w)), (.int .i64 (f33_r2 a b c d e f g h i j w)), (.int .i64 (f33_r3 a b c d e f g h i j w))] 32 .var)), (.some (.cells [(.int .i64 (f34_r0 a b c d e f g h i j w)), (.int .i64 (f34_r1 a b c d e f g h i j w)), (.int .i64 (f34_r2 a b c d e f g h i j w)), (.int .i64 (f34_r3 a b c d e f g h i j w))] 32 .var)), (.some (.cells [(.int .i64 (f35_r0 a b c d e f g h i j w)), (.int .i64 (f35_r1 a b c d e f g h i j w)), (.int .i64 (f35_r2 a b c d e f g h i j w)), (.int .i64 (f35_r3 a b c d e f g h i j w)), (.int .i64 (f35_r4 a b c d e f g h i j w)), (.int .i64 (f35_r5 a b c d e f g h i j w)), (.int .i64 (f35_r6 a b c d e f g h i j w)), (.int .i64 (f35_r7 a b c d e f g h i j w))] 57 .var)), (.some (.cells [(.int .i64 (tuN g h i j)), (.int .i64 (tuD g h i j))] 61 .var)), (.some (.cells [(.int .i64 (dErr a b c d e f)), (.int .i64 (bErr g h i j)), (.int .i64 (wErr w))] 3 .row)), (.some (.cells [(.int .i64 (0)), (.int .i64 (0)), (.int .i64 (0)), (.int .i64 (0))] 39 .var)), (.some (.cells [(.int .i64 (0)), (.int .i64 (0)), (.int .i64 (0)), (.int .i64 (0))] 39 .var)), (.some (.cells [(.int .i64 (0)), (.int .i64 (0)), (.int .i64 (0)), (.int .i64 (0)), (.int .i64 (0)), (.int .i64 (0)), (.int .i64 (0)), (.int .i64 (0))] 65 .var)), (.some (.cells [(.int .i64 (0)), (.int .i64 (0))] 61 .var))]) (by kernel_rfl)) (ObsOK.cond h0 (ObsOK.cond h0 (ObsOK.cond h0 (ObsOK.cond h0 (ObsOK.cond h0 (ObsOK.cond h0 (ObsOK.cond h1 (ObsOK.cond h1 (ObsOK.cond h1 (ObsOK.cond h1 (ObsOK.cond h1 (ObsOK.cond h1 (ObsOK.cond h2 (ObsOK.cond h2 (ObsOK.cond h2 (ObsOK.cond h2 (ObsOK.cond h2 (ObsOK.cond h2 (ObsOK.cond h2 (ObsOK.cond h2 (ObsOK.cond h3 (ObsOK.cond h3 (ObsOK.cond h3 (ObsOK.cond h3 (ObsOK.cond h3 (ObsOK.cond h3 (ObsOK.cond h3 (ObsOK.cond h3 (ObsOK.cond h4 (ObsOK.cond h4 (ObsOK.cond h4 (ObsOK.cond h4 (ObsOK.cond h4 (ObsOK.cond h4 (ObsOK.nil)))))))))))))))))))))))))))))))))))))))
def bnC_c0 (a : Int) (b : Int) (c : Int) (d : Int) (e : Int) (f : Int) (g : Int) (h : Int) (i : Int) (j : Int) (w : Int) : Bool := bErr g h i j == bErr g h i j
def bnC_c1 (a : Int) (b : Int) (c : Int) (d : Int) (e : Int) (f : Int) (g : Int) (h : Int) (i : Int) (j : Int) (w : Int) : Bool := f28_r0 (f33_r0 a b c d e f g h i j w) (f33_r1 a b c d e f g h i j w) (f33_r2 a b c d e f g h i j w) (f33_r3 a b c d e f g h i j w) (f33_r4 a b c d e f g h i j w) (bErr g h i j) 0 0 0 0
def bnC_c2 (a : Int) (b : Int) (c : Int) (d : Int) (e : Int) (f : Int) (g : Int) (h : Int) (i : Int) (j : Int) (w : Int) : Bool := f28_r0 (f34_r0 a b c d e f g h i j w) (f34_r1 a b c d e f g h i j w) (f34_r2 a b c d e f g h i j w) (f34_r3 a b c d e f g h i j w) (f34_r4 a b c d e f g h i j w) (bErr g h i j) 0 0 0 0
def bnC_c3 (a : Int) (b : Int) (c : Int) (d : Int) (e : Int) (f : Int) (g : Int) (h : Int) (i : Int) (j : Int) (w : Int) : Bool := f28_r0 (f35_r0 a b c d e f g h i j w) (f35_r1 a b c d e f g h i j w) (f35_r2 a b c d e f g h i j w) (f35_r3 a b c d e f g h i j w) (f35_r8 a b c d e f g h i j w) (bErr g h i j) 0 0 0 0
def bnC_c4 (a : Int) (b : Int) (c : Int) (d : Int) (e : Int) (f : Int) (g : Int) (h : Int) (i : Int) (j : Int) (w : Int) : Bool := f28_r0 (f35_r4 a b c d e f g h i j w) (f35_r5 a b c d e f g h i j w) (f35_r6 a b c d e f g h i j w) (f35_r7 a b c d e f g h i j w) (f35_r8 a b c d e f g h i j w) (bErr g h i j) 0 0 0 0
theorem bnC_p0 (a : Int) (b : Int) (c : Int) (d : Int) (e : Int) (f : Int) (g : Int) (h : Int) (i : Int) (j : Int) (w : Int) (hd : (dErr a b c d e f != 0) = false) (hd0 : (dErr a b c d e f == 0) = true) (hb : (bErr g h i j != 0) = true) (hb0 : (bErr g h i j == 0) = false) (h0 : bnC_c0 a b c d e f g h i j w = true) (h1 : bnC_c1 a b c d e f g h i j w = true) (h2 : bnC_c2 a b c d e f g h i j w = true) (h3 : bnC_c3 a b c d e f g h i j w = true) (h4 : bnC_c4 a b c d e f g h i j w = true) : Gives Tryz.prog envT 0 5 [(.agg #[(.int .i64 (a)), (.int .i64 (b)), (.int .i64 (c)), (.int .i64 (d)), (.int .i64 (e)), (.int .i64 (f))]), (.agg #[(.int .i64 (g)), (.int .i64 (h)), (.int .i64 (i)), (.int .i64 (j))]), (.int .i64 (w))] heap0 ((.bool (f43_r0 (tuN g h i j) (tuD g h i j) (tuE g h i j) (bErr g h i j) 0 0)), heap0) :=
  Gives.by (n := 1000) (os := [.br 20 30 false, .br 20 30 true, .br 5 122 false, .br 5 150 false, .br 5 172 true, .br 5 172 true, .br 5 172 true, .br 5 172 true, .br 5 172 true, .br 5 185 true, .br 5 186 true, .br 5 186 true, .br 5 186 true, .br 5 186 true, .br 5 186 true, .br 5 199 true, .br 5 200 true, .br 5 200 true, .br 5 200 true, .br 5 200 true, .br 5 200 true, .br 5 200 true, .br 5 200 true, .br 5 217 true, .br 5 218 true, .br 5 218 true, .br 5 218 true, .br 5 218 true, .br 5 218 true, .br 5 218 true, .br 5 218 true, .br 5 235 true, .br 5 236 true, .br 5 236 true, .br 5 236 true, .br 5 236 true, .br 5 236 true, .br 5 249 true]) (os' := []) (by kernel_rfl) (ObsOK.cond hd (ObsOK.cond hb (ObsOK.cond hb0 (ObsOK.cond hb0 (ObsOK.cond h0 (ObsOK.cond h0 (ObsOK.cond h0 (ObsOK.cond h0 (ObsOK.cond h0 (ObsOK.cond h0 (ObsOK.cond h1 (ObsOK.cond h1 (ObsOK.cond h1 (ObsOK.cond h1 (ObsOK.cond h1 (ObsOK.cond h1 (ObsOK.cond h2 (ObsOK.cond h2 (ObsOK.cond h2 (ObsOK.cond h2 (ObsOK.cond h2 (ObsOK.cond h2 (ObsOK.cond h2 (ObsOK.cond h2 (ObsOK.cond h3 (ObsOK.cond h3 (ObsOK.cond h3 (ObsOK.cond h3 (ObsOK.cond h3 (ObsOK.cond h3 (ObsOK.cond h3 (ObsOK.cond h3 (ObsOK.cond h4 (ObsOK.cond h4 (ObsOK.cond h4 (ObsOK.cond h4 (ObsOK.cond h4 (ObsOK.cond h4 (ObsOK.nil)))))))))))))))))))))))))))))))))))))))
def bnD_c0 (a : Int) (b : Int) (c : Int) (d : Int) (e : Int) (f : Int) (g : Int) (h : Int) (i : Int) (j : Int) (w : Int) : Bool := bErr g h i j == bErr g h i j
def bnD_c1 (a : Int) (b : Int) (c : Int) (d : Int) (e : Int) (f : Int) (g : Int) (h : Int) (i : Int) (j : Int) (w : Int) : Bool := f28_r0 (f33_r0 a b c d e f g h i j w) (f33_r1 a b c d e f g h i j w) (f33_r2 a b c d e f g h i j w) (f33_r3 a b c d e f g h i j w) (f33_r4 a b c d e f g h i j w) (wErr w) 0 0 0 0
def bnD_c2 (a : Int) (b : Int) (c : Int) (d : Int) (e : Int) (f : Int) (g : Int) (h : Int) (i : Int) (j : Int) (w : Int) : Bool := f28_r0 (f34_r0 a b c d e f g h i j w) (f34_r1 a b c d e f g h i j w) (f34_r2 a b c d e f g h i j w) (f34_r3 a b c d e f g h i j w) (f34_r4 a b c d e f g h i j w) (wErr w) 0 0 0 0
def bnD_c3 (a : Int) (b : Int) (c : Int) (d : Int) (e : Int) (f : Int) (g : Int) (h : Int) (i : Int) (j : Int) (w : Int) : Bool := f28_r0 (f35_r0 a b c d e f g h i j w) (f35_r1 a b c d e f g h i j w) (f35_r2 a b c d e f g h i j w) (f35_r3 a b c d e f g h i j w) (f35_r8 a b c d e f g h i j w) (wErr w) 0 0 0 0
def bnD_c4 (a : Int) (b : Int) (c : Int) (d : Int) (e : Int) (f : Int) (g : Int) (h : Int) (i : Int) (j : Int) (w : Int) : Bool := f28_r0 (f35_r4 a b c d e f g h i j w) (f35_r5 a b c d e f g h i j w) (f35_r6 a b c d e f g h i j w) (f35_r7 a b c d e f g h i j w) (f35_r8 a b c d e f g h i j w) (wErr w) 0 0 0 0
theorem bnD_p0 (a : Int) (b : Int) (c : Int) (d : Int) (e : Int) (f : Int) (g : Int) (h : Int) (i : Int) (j : Int) (w : Int) (hd : (dErr a b c d e f != 0) = false) (hd0 : (dErr a b c d e f == 0) = true) (hb : (bErr g h i j != 0) = false) (hb0 : (bErr g h i j == 0) = true) (hw : (wErr w != 0) = true) (hw0 : (wErr w == 0) = false) (hl : ∀ (lim : Nat) (A : Heap), startsB heapN A = true → Gives Tryz.prog envT lim 41 [.agg #[.int .i64 g, .int .i64 h, .int .i64 i, .int .i64 j]] A (.tuple #[.agg #[.int .i64 (tuN g h i j), .int .i64 (tuD g h i j)], .int .i64 (tuE g h i j)], A)) (h0 : bnD_c0 a b c d e f g h i j w = true) (h1 : bnD_c1 a b c d e f g h i j w = true) (h2 : bnD_c2 a b c d e f g h i j w = true) (h3 : bnD_c3 a b c d e f g h i j w = true) (h4 : bnD_c4 a b c d e f g h i j w = true) : Gives Tryz.prog envT 0 5 [(.agg #[(.int .i64 (a)), (.int .i64 (b)), (.int .i64 (c)), (.int .i64 (d)), (.int .i64 (e)), (.int .i64 (f))]), (.agg #[(.int .i64 (g)), (.int .i64 (h)), (.int .i64 (i)), (.int .i64 (j))]), (.int .i64 (w))] heap0 ((.bool (f43_r0 (tuN g h i j) (tuD g h i j) (tuE g h i j) (tuE g h i j) (tuN g h i j) (tuD g h i j))), heap0) :=
  Gives.by (n := 1000) (os := [.br 20 30 false, .br 20 30 false, .br 20 30 true, .br 5 122 false, .br 5 150 true, .opw 5 78 (.tuple #[(.agg #[(.int .i64 (tuN g h i j)), (.int .i64 (tuD g h i j))]), (.int .i64 (tuE g h i j))]) (H [(.some (.cells [(.int .i64 a), (.int .i64 b), (.int .i64 c), (.int .i64 d), (.int .i64 e), (.int .i64 f)] 23 .var)), (.some (.cells [(.int .i64 g), (.int .i64 h), (.int .i64 i), (.int .i64 j)] 54 .var)), (.some (.cells [(.int .i64 (f33_r0 a b c d e f g h i j w)), (.int .i64 (f33_r1 a b c d e f g h i j w)), (.int .i64 (f33_r2 a b c d e f g h i j w)), (.int .i64 (f33_r3 a b c d e f g h i j w))] 32 .var)), (.some (.cells [(.int .i64 (f34_r0 a b c d e f g h i j w)), (.int .i64 (f34_r1 a b c d e f g h i j w)), (.int .i64 (f34_r2 a b c d e f g h i j w)), (.int .i64 (f34_r3 a b c d e f g h i j w))] 32 .var)), (.some (.cells [(.int .i64 (f35_r0 a b c d e f g h i j w)), (.int .i64 (f35_r1 a b c d e f g h i j w)), (.int .i64 (f35_r2 a b c d e f g h i j w)), (.int .i64 (f35_r3 a b c d e f g h i j w)), (.int .i64 (f35_r4 a b c d e f g h i j w)), (.int .i64 (f35_r5 a b c d e f g h i j w)), (.int .i64 (f35_r6 a b c d e f g h i j w)), (.int .i64 (f35_r7 a b c d e f g h i j w))] 57 .var)), (.some (.cells [(.int .i64 (tuN g h i j)), (.int .i64 (tuD g h i j))] 61 .var)), (.some (.cells [(.int .i64 (dErr a b c d e f)), (.int .i64 (bErr g h i j)), (.int .i64 (wErr w))] 3 .row)), (.some (.cells [(.int .i64 (0)), (.int .i64 (0)), (.int .i64 (0)), (.int .i64 (0))] 39 .var)), (.some (.cells [(.int .i64 (0)), (.int .i64 (0)), (.int .i64 (0)), (.int .i64 (0))] 39 .var)), (.some (.cells [(.int .i64 (0)), (.int .i64 (0)), (.int .i64 (0)), (.int .i64 (0)), (.int .i64 (0)), (.int .i64 (0)), (.int .i64 (0)), (.int .i64 (0))] 65 .var)), (.some (.cells [(.int .i64 (0)), (.int .i64 (0))] 61 .var))]), .br 5 172 true, .br 5 172 true, .br 5 172 true, .br 5 172 true, .br 5 172 true, .br 5 185 true, .br 5 186 true, .br 5 186 true, .br 5 186 true, .br 5 186 true, .br 5 186 true, .br 5 199 true, .br 5 200 true, .br 5 200 true, .br 5 200 true, .br 5 200 true, .br 5 200 true, .br 5 200 true, .br 5 200 true, .br 5 217 true, .br 5 218 true, .br 5 218 true, .br 5 218 true, .br 5 218 true, .br 5 218 true, .br 5 218 true, .br 5 218 true, .br 5 235 true, .br 5 236 true, .br 5 236 true, .br 5 236 true, .br 5 236 true, .br 5 236 true, .br 5 249 true]) (os' := []) (by kernel_rfl) (ObsOK.cond hd (ObsOK.cond hb (ObsOK.cond hw (ObsOK.cond hw0 (ObsOK.cond hb0 (ObsOK.call (hl 9 (H [(.some (.cells [(.int .i64 a), (.int .i64 b), (.int .i64 c), (.int .i64 d), (.int .i64 e), (.int .i64 f)] 23 .var)), (.some (.cells [(.int .i64 g), (.int .i64 h), (.int .i64 i), (.int .i64 j)] 54 .var)), (.some (.cells [(.int .i64 (f33_r0 a b c d e f g h i j w)), (.int .i64 (f33_r1 a b c d e f g h i j w)), (.int .i64 (f33_r2 a b c d e f g h i j w)), (.int .i64 (f33_r3 a b c d e f g h i j w))] 32 .var)), (.some (.cells [(.int .i64 (f34_r0 a b c d e f g h i j w)), (.int .i64 (f34_r1 a b c d e f g h i j w)), (.int .i64 (f34_r2 a b c d e f g h i j w)), (.int .i64 (f34_r3 a b c d e f g h i j w))] 32 .var)), (.some (.cells [(.int .i64 (f35_r0 a b c d e f g h i j w)), (.int .i64 (f35_r1 a b c d e f g h i j w)), (.int .i64 (f35_r2 a b c d e f g h i j w)), (.int .i64 (f35_r3 a b c d e f g h i j w)), (.int .i64 (f35_r4 a b c d e f g h i j w)), (.int .i64 (f35_r5 a b c d e f g h i j w)), (.int .i64 (f35_r6 a b c d e f g h i j w)), (.int .i64 (f35_r7 a b c d e f g h i j w))] 57 .var)), (.some (.cells [(.int .i64 (tuN g h i j)), (.int .i64 (tuD g h i j))] 61 .var)), (.some (.cells [(.int .i64 (dErr a b c d e f)), (.int .i64 (bErr g h i j)), (.int .i64 (wErr w))] 3 .row)), (.some (.cells [(.int .i64 (0)), (.int .i64 (0)), (.int .i64 (0)), (.int .i64 (0))] 39 .var)), (.some (.cells [(.int .i64 (0)), (.int .i64 (0)), (.int .i64 (0)), (.int .i64 (0))] 39 .var)), (.some (.cells [(.int .i64 (0)), (.int .i64 (0)), (.int .i64 (0)), (.int .i64 (0)), (.int .i64 (0)), (.int .i64 (0)), (.int .i64 (0)), (.int .i64 (0))] 65 .var)), (.some (.cells [(.int .i64 (0)), (.int .i64 (0))] 61 .var))]) (by kernel_rfl)) (ObsOK.cond h0 (ObsOK.cond h0 (ObsOK.cond h0 (ObsOK.cond h0 (ObsOK.cond h0 (ObsOK.cond h0 (ObsOK.cond h1 (ObsOK.cond h1 (ObsOK.cond h1 (ObsOK.cond h1 (ObsOK.cond h1 (ObsOK.cond h1 (ObsOK.cond h2 (ObsOK.cond h2 (ObsOK.cond h2 (ObsOK.cond h2 (ObsOK.cond h2 (ObsOK.cond h2 (ObsOK.cond h2 (ObsOK.cond h2 (ObsOK.cond h3 (ObsOK.cond h3 (ObsOK.cond h3 (ObsOK.cond h3 (ObsOK.cond h3 (ObsOK.cond h3 (ObsOK.cond h3 (ObsOK.cond h3 (ObsOK.cond h4 (ObsOK.cond h4 (ObsOK.cond h4 (ObsOK.cond h4 (ObsOK.cond h4 (ObsOK.cond h4 (ObsOK.nil)))))))))))))))))))))))))))))))))))))))))
def bnE_c0 (a : Int) (b : Int) (c : Int) (d : Int) (e : Int) (f : Int) (g : Int) (h : Int) (i : Int) (j : Int) (w : Int) : Bool := bErr g h i j == bErr g h i j
def bnE_c1 (a : Int) (b : Int) (c : Int) (d : Int) (e : Int) (f : Int) (g : Int) (h : Int) (i : Int) (j : Int) (w : Int) : Bool := f28_r0 (f33_r0 a b c d e f g h i j w) (f33_r1 a b c d e f g h i j w) (f33_r2 a b c d e f g h i j w) (f33_r3 a b c d e f g h i j w) (f33_r4 a b c d e f g h i j w) 0 (f38_r0 a b c d e f g h i j w) (f38_r1 a b c d e f g h i j w) (f38_r2 a b c d e f g h i j w) (f38_r3 a b c d e f g h i j w)
def bnE_c2 (a : Int) (b : Int) (c : Int) (d : Int) (e : Int) (f : Int) (g : Int) (h : Int) (i : Int) (j : Int) (w : Int) : Bool := f28_r0 (f34_r0 a b c d e f g h i j w) (f34_r1 a b c d e f g h i j w) (f34_r2 a b c d e f g h i j w) (f34_r3 a b c d e f g h i j w) (f34_r4 a b c d e f g h i j w) 0 (f39_r0 a b c d e f g h i j w) (f39_r1 a b c d e f g h i j w) (f39_r2 a b c d e f g h i j w) (f39_r3 a b c d e f g h i j w)
def bnE_c3 (a : Int) (b : Int) (c : Int) (d : Int) (e : Int) (f : Int) (g : Int) (h : Int) (i : Int) (j : Int) (w : Int) : Bool := f28_r0 (f35_r0 a b c d e f g h i j w) (f35_r1 a b c d e f g h i j w) (f35_r2 a b c d e f g h i j w) (f35_r3 a b c d e f g h i j w) (f35_r8 a b c d e f g h i j w) 0 (f40_r0 a b c d e f g h i j w) (f40_r1 a b c d e f g h i j w) (f40_r2 a b c d e f g h i j w) (f40_r3 a b c d e f g h i j w)
def bnE_c4 (a : Int) (b : Int) (c : Int) (d : Int) (e : Int) (f : Int) (g : Int) (h : Int) (i : Int) (j : Int) (w : Int) : Bool := f28_r0 (f35_r4 a b c d e f g h i j w) (f35_r5 a b c d e f g h i j w) (f35_r6 a b c d e f g h i j w) (f35_r7 a b c d e f g h i j w) (f35_r8 a b c d e f g h i j w) 0 (f40_r4 a b c d e f g h i j w) (f40_r5 a b c d e f g h i j w) (f40_r6 a b c d e f g h i j w) (f40_r7 a b c d e f g h i j w)
theorem bnE_p0 (a : Int) (b : Int) (c : Int) (d : Int) (e : Int) (f : Int) (g : Int) (h : Int) (i : Int) (j : Int) (w : Int) (hd : (dErr a b c d e f != 0) = false) (hd0 : (dErr a b c d e f == 0) = true) (hb : (bErr g h i j != 0) = false) (hb0 : (bErr g h i j == 0) = true) (hw : (wErr w != 0) = false) (hw0 : (wErr w == 0) = true) (hl : ∀ (lim : Nat) (A : Heap), startsB heapN A = true → Gives Tryz.prog envT lim 41 [.agg #[.int .i64 g, .int .i64 h, .int .i64 i, .int .i64 j]] A (.tuple #[.agg #[.int .i64 (tuN g h i j), .int .i64 (tuD g h i j)], .int .i64 (tuE g h i j)], A)) (h0 : bnE_c0 a b c d e f g h i j w = true) (h1 : bnE_c1 a b c d e f g h i j w = true) (h2 : bnE_c2 a b c d e f g h i j w = true) (h3 : bnE_c3 a b c d e f g h i j w = true) (h4 : bnE_c4 a b c d e f g h i j w = true) : Gives Tryz.prog envT 0 5 [(.agg #[(.int .i64 (a)), (.int .i64 (b)), (.int .i64 (c)), (.int .i64 (d)), (.int .i64 (e)), (.int .i64 (f))]), (.agg #[(.int .i64 (g)), (.int .i64 (h)), (.int .i64 (i)), (.int .i64 (j))]), (.int .i64 (w))] heap0 ((.bool (f43_r0 (tuN g h i j) (tuD g h i j) (tuE g h i j) (tuE g h i j) (tuN g h i j) (tuD g h i j))), heap0) :=
  Gives.by (n := 1000) (os := [.br 20 30 false, .br 20 30 false, .br 20 30 false, .br 5 150 true, .opw 5 78 (.tuple #[(.agg #[(.int .i64 (tuN g h i j)), (.int .i64 (tuD g h i j))]), (.int .i64 (tuE g h i j))]) (H [(.some (.cells [(.int .i64 a), (.int .i64 b), (.int .i64 c), (.int .i64 d), (.int .i64 e), (.int .i64 f)] 23 .var)), (.some (.cells [(.int .i64 g), (.int .i64 h), (.int .i64 i), (.int .i64 j)] 54 .var)), (.some (.cells [(.int .i64 (f33_r0 a b c d e f g h i j w)), (.int .i64 (f33_r1 a b c d e f g h i j w)), (.int .i64 (f33_r2 a b c d e f g h i j w)), (.int .i64 (f33_r3 a b c d e f g h i j w))] 32 .var)), (.some (.cells [(.int .i64 (f34_r0 a b c d e f g h i j w)), (.int .i64 (f34_r1 a b c d e f g h i j w)), (.int .i64 (f34_r2 a b c d e f g h i j w)), (.int .i64 (f34_r3 a b c d e f g h i j w))] 32 .var)), (.some (.cells [(.int .i64 (f35_r0 a b c d e f g h i j w)), (.int .i64 (f35_r1 a b c d e f g h i j w)), (.int .i64 (f35_r2 a b c d e f g h i j w)), (.int .i64 (f35_r3 a b c d e f g h i j w)), (.int .i64 (f35_r4 a b c d e f g h i j w)), (.int .i64 (f35_r5 a b c d e f g h i j w)), (.int .i64 (f35_r6 a b c d e f g h i j w)), (.int .i64 (f35_r7 a b c d e f g h i j w))] 57 .var)), (.some (.cells [(.int .i64 (tuN g h i j)), (.int .i64 (tuD g h i j))] 61 .var)), (.some (.cells [(.int .i64 (dErr a b c d e f)), (.int .i64 (bErr g h i j)), (.int .i64 (wErr w))] 3 .row)), (.some (.cells [(.int .i64 (f38_r0 a b c d e f g h i j w)), (.int .i64 (f38_r1 a b c d e f g h i j w)), (.int .i64 (f38_r2 a b c d e f g h i j w)), (.int .i64 (f38_r3 a b c d e f g h i j w))] 39 .var)), (.some (.cells [(.int .i64 (f39_r0 a b c d e f g h i j w)), (.int .i64 (f39_r1 a b c d e f g h i j w)), (.int .i64 (f39_r2 a b c d e f g h i j w)), (.int .i64 (f39_r3 a b c d e f g h i j w))] 39 .var)), (.some (.cells [(.int .i64 (f40_r0 a b c d e f g h i j w)), (.int .i64 (f40_r1 a b c d e f g h i j w)), (.int .i64 (f40_r2 a b c d e f g h i j w)), (.int .i64 (f40_r3 a b c d e f g h i j w)), (.int .i64 (f40_r4 a b c d e f g h i j w)), (.int .i64 (f40_r5 a b c d e f g h i j w)), (.int .i64 (f40_r6 a b c d e f g h i j w)), (.int .i64 (f40_r7 a b c d e f g h i j w))] 65 .var)), (.some (.cells [(.int .i64 (0)), (.int .i64 (0))] 61 .var))]), .br 5 172 true, .br 5 172 true, .br 5 172 true, .br 5 172 true, .br 5 172 true, .br 5 185 true, .br 5 186 true, .br 5 186 true, .br 5 186 true, .br 5 186 true, .br 5 186 true, .br 5 199 true, .br 5 200 true, .br 5 200 true, .br 5 200 true, .br 5 200 true, .br 5 200 true, .br 5 200 true, .br 5 200 true, .br 5 217 true, .br 5 218 true, .br 5 218 true, .br 5 218 true, .br 5 218 true, .br 5 218 true, .br 5 218 true, .br 5 218 true, .br 5 235 true, .br 5 236 true, .br 5 236 true, .br 5 236 true, .br 5 236 true, .br 5 236 true, .br 5 249 true]) (os' := []) (by kernel_rfl) (ObsOK.cond hd (ObsOK.cond hb (ObsOK.cond hw (ObsOK.cond hb0 (ObsOK.call (hl 9 (H [(.some (.cells [(.int .i64 a), (.int .i64 b), (.int .i64 c), (.int .i64 d), (.int .i64 e), (.int .i64 f)] 23 .var)), (.some (.cells [(.int .i64 g), (.int .i64 h), (.int .i64 i), (.int .i64 j)] 54 .var)), (.some (.cells [(.int .i64 (f33_r0 a b c d e f g h i j w)), (.int .i64 (f33_r1 a b c d e f g h i j w)), (.int .i64 (f33_r2 a b c d e f g h i j w)), (.int .i64 (f33_r3 a b c d e f g h i j w))] 32 .var)), (.some (.cells [(.int .i64 (f34_r0 a b c d e f g h i j w)), (.int .i64 (f34_r1 a b c d e f g h i j w)), (.int .i64 (f34_r2 a b c d e f g h i j w)), (.int .i64 (f34_r3 a b c d e f g h i j w))] 32 .var)), (.some (.cells [(.int .i64 (f35_r0 a b c d e f g h i j w)), (.int .i64 (f35_r1 a b c d e f g h i j w)), (.int .i64 (f35_r2 a b c d e f g h i j w)), (.int .i64 (f35_r3 a b c d e f g h i j w)), (.int .i64 (f35_r4 a b c d e f g h i j w)), (.int .i64 (f35_r5 a b c d e f g h i j w)), (.int .i64 (f35_r6 a b c d e f g h i j w)), (.int .i64 (f35_r7 a b c d e f g h i j w))] 57 .var)), (.some (.cells [(.int .i64 (tuN g h i j)), (.int .i64 (tuD g h i j))] 61 .var)), (.some (.cells [(.int .i64 (dErr a b c d e f)), (.int .i64 (bErr g h i j)), (.int .i64 (wErr w))] 3 .row)), (.some (.cells [(.int .i64 (f38_r0 a b c d e f g h i j w)), (.int .i64 (f38_r1 a b c d e f g h i j w)), (.int .i64 (f38_r2 a b c d e f g h i j w)), (.int .i64 (f38_r3 a b c d e f g h i j w))] 39 .var)), (.some (.cells [(.int .i64 (f39_r0 a b c d e f g h i j w)), (.int .i64 (f39_r1 a b c d e f g h i j w)), (.int .i64 (f39_r2 a b c d e f g h i j w)), (.int .i64 (f39_r3 a b c d e f g h i j w))] 39 .var)), (.some (.cells [(.int .i64 (f40_r0 a b c d e f g h i j w)), (.int .i64 (f40_r1 a b c d e f g h i j w)), (.int .i64 (f40_r2 a b c d e f g h i j w)), (.int .i64 (f40_r3 a b c d e f g h i j w)), (.int .i64 (f40_r4 a b c d e f g h i j w)), (.int .i64 (f40_r5 a b c d e f g h i j w)), (.int .i64 (f40_r6 a b c d e f g h i j w)), (.int .i64 (f40_r7 a b c d e f g h i j w))] 65 .var)), (.some (.cells [(.int .i64 (0)), (.int .i64 (0))] 61 .var))]) (by kernel_rfl)) (ObsOK.cond h0 (ObsOK.cond h0 (ObsOK.cond h0 (ObsOK.cond h0 (ObsOK.cond h0 (ObsOK.cond h0 (ObsOK.cond h1 (ObsOK.cond h1 (ObsOK.cond h1 (ObsOK.cond h1 (ObsOK.cond h1 (ObsOK.cond h1 (ObsOK.cond h2 (ObsOK.cond h2 (ObsOK.cond h2 (ObsOK.cond h2 (ObsOK.cond h2 (ObsOK.cond h2 (ObsOK.cond h2 (ObsOK.cond h2 (ObsOK.cond h3 (ObsOK.cond h3 (ObsOK.cond h3 (ObsOK.cond h3 (ObsOK.cond h3 (ObsOK.cond h3 (ObsOK.cond h3 (ObsOK.cond h3 (ObsOK.cond h4 (ObsOK.cond h4 (ObsOK.cond h4 (ObsOK.cond h4 (ObsOK.cond h4 (ObsOK.cond h4 (ObsOK.nil))))))))))))))))))))))))))))))))))))))))
end Go.Proofs.YtkndhhnjgpialaaGreatDoor
/-
What the numbers of the program and of the reference have to do with each other: drivers in boxes.
-/
namespace Go.Proofs.YtkndhhnjgpialaaGreatDoor
open Go Go.Abs
theorem dErr_ok' {a b c d e f : Int} (h : (dErr a b c d e f != 0) = false) : dErr a b c d e f = 0 := by simpa using h
section
variable (a b c d e f g h i j w : Int)
theorem b2_ok (hd : (dErr a b c d e f != 0) = false) (hb : (bErr g h i j != 0) = false) (hw : (wErr w != 0) = false) : f104_r2 a b c d e f g h i j w = f38_r0 a b c d e f g h i j w := by
  simp only [f104_r2, f104_c0, f104_c1, f104_c2, f104_c3, hd, hb, hw, cond_false]
  by_cases h0 : h = 0
  · subst h0
    simp only [show (!(0 : Int) != 0) = true from rfl, cond_true, f144_r2, f144_r3, f144_r4, f144_r5, f144_r6, f144_r7, f144_r8, f144_r9, f144_r14, f144_r15, f144_r16, f144_r17, f150_r2, f150_r3, f150_r4, f150_r5, f150_r6, f150_r7, f150_r8, f150_r9, f150_r10, f150_r11, f150_r12, f150_r13, f150_r14, f150_r15, f150_r16, f150_r17, f151_r0, f151_r1, f177_r0, f177_r1, f149_r0, f149_r1, f38_r0, f38_r1, f38_r2, f38_r3, f39_r0, f39_r1, f39_r2, f39_r3, f40_r0, f40_r1, f40_r2, f40_r3, f40_r4, f40_r5, f40_r6, f40_r7, f40_c0, f108_r0, f108_r1, f108_r2, f108_r3, f108_r4, f108_r5, f108_r6, f108_r8, f108_r9, f108_c0, f152_r0, f152_r1, f82_r0, f82_r1, f91_r0, f91_r1, beq_self_eq_true, wAdd_l, wAdd_r, wSub_l, wSub_r, wMul_l, wMul_r, wWrap]
    try (congr 1; grind)
  · have h1 : (h == 0) = false := by simpa using h0
    have h2 : (!h != 0) = false := by simpa using h0
    simp only [h1, h2, cond_false, f150_r2, f150_r3, f150_r4, f150_r5, f150_r6, f150_r7, f150_r8, f150_r9, f150_r10, f150_r11, f150_r12, f150_r13, f150_r14, f150_r15, f150_r16, f150_r17, f151_r0, f151_r1, f177_r0, f177_r1, f149_r0, f149_r1, f38_r0, f38_r1, f38_r2, f38_r3, f39_r0, f39_r1, f39_r2, f39_r3, f40_r0, f40_r1, f40_r2, f40_r3, f40_r4, f40_r5, f40_r6, f40_r7, f40_c0, f108_r0, f108_r1, f108_r2, f108_r3, f108_r4, f108_r5, f108_r6, f108_r8, f108_r9, f108_c0, f152_r0, f152_r1, f82_r0, f82_r1, f91_r0, f91_r1, wAdd_l, wAdd_r, wSub_l, wSub_r, wMul_l, wMul_r, wWrap]
    try (congr 1; grind)
theorem b2_no (hx : (dErr a b c d e f != 0 || (bErr g h i j != 0 || wErr w != 0)) = true) : f104_r2 a b c d e f g h i j w = 0 := by
  simp only [f104_r2, f104_c0, f104_c1, f104_c2]
  cases hd : dErr a b c d e f != 0
  · cases hb : bErr g h i j != 0
    · simp only [hd, hb, Bool.false_or] at hx
      rw [hx]; rfl
    · rfl
  · rfl
theorem b3_ok (hd : (dErr a b c d e f != 0) = false) (hb : (bErr g h i j != 0) = false) (hw : (wErr w != 0) = false) : f104_r3 a b c d e f g h i j w = f38_r1 a b c d e f g h i j w := by
  simp only [f104_r3, f104_c0, f104_c1, f104_c2, f104_c3, hd, hb, hw, cond_false]
  by_cases h0 : h = 0
  · subst h0
    simp only [show (!(0 : Int) != 0) = true from rfl, cond_true, f144_r2, f144_r3, f144_r4, f144_r5, f144_r6, f144_r7, f144_r8, f144_r9, f144_r14, f144_r15, f144_r16, f144_r17, f150_r2, f150_r3, f150_r4, f150_r5, f150_r6, f150_r7, f150_r8, f150_r9, f150_r10, f150_r11, f150_r12, f150_r13, f150_r14, f150_r15, f150_r16, f150_r17, f151_r0, f151_r1, f177_r0, f177_r1, f149_r0, f149_r1, f38_r0, f38_r1, f38_r2, f38_r3, f39_r0, f39_r1, f39_r2, f39_r3, f40_r0, f40_r1, f40_r2, f40_r3, f40_r4, f40_r5, f40_r6, f40_r7, f40_c0, f108_r0, f108_r1, f108_r2, f108_r3, f108_r4, f108_r5, f108_r6, f108_r8, f108_r9, f108_c0, f152_r0, f152_r1, f82_r0, f82_r1, f91_r0, f91_r1, beq_self_eq_true, wAdd_l, wAdd_r, wSub_l, wSub_r, wMul_l, wMul_r, wWrap]
    try (congr 1; grind)
  · have h1 : (h == 0) = false := by simpa using h0
    have h2 : (!h != 0) = false := by simpa using h0
    simp only [h1, h2, cond_false, f150_r2, f150_r3, f150_r4, f150_r5, f150_r6, f150_r7, f150_r8, f150_r9, f150_r10, f150_r11, f150_r12, f150_r13, f150_r14, f150_r15, f150_r16, f150_r17, f151_r0, f151_r1, f177_r0, f177_r1, f149_r0, f149_r1, f38_r0, f38_r1, f38_r2, f38_r3, f39_r0, f39_r1, f39_r2, f39_r3, f40_r0, f40_r1, f40_r2, f40_r3, f40_r4, f40_r5, f40_r6, f40_r7, f40_c0, f108_r0, f108_r1, f108_r2, f108_r3, f108_r4, f108_r5, f108_r6, f108_r8, f108_r9, f108_c0, f152_r0, f152_r1, f82_r0, f82_r1, f91_r0, f91_r1, wAdd_l, wAdd_r, wSub_l, wSub_r, wMul_l, wMul_r, wWrap]
    try (congr 1; grind)
theorem b3_no (hx : (dErr a b c d e f != 0 || (bErr g h i j != 0 || wErr w != 0)) = true) : f104_r3 a b c d e f g h i j w = 0 := by
  simp only [f104_r3, f104_c0, f104_c1, f104_c2]
  cases hd : dErr a b c d e f != 0
  · cases hb : bErr g h i j != 0
    · simp only [hd, hb, Bool.false_or] at hx
      rw [hx]; rfl
    · rfl
  · rfl
theorem b4_ok (hd : (dErr a b c d e f != 0) = false) (hb : (bErr g h i j != 0) = false) (hw : (wErr w != 0) = false) : f104_r4 a b c d e f g h i j w = f38_r2 a b c d e f g h i j w := by
  simp only [f104_r4, f104_c0, f104_c1, f104_c2, f104_c3, hd, hb, hw, cond_false]
  by_cases h0 : h = 0
  · subst h0
    simp only [show (!(0 : Int) != 0) = true from rfl, cond_true, f144_r2, f144_r3, f144_r4, f144_r5, f144_r6, f144_r7, f144_r8, f144_r9, f144_r14, f144_r15, f144_r16, f144_r17, f150_r2, f150_r3, f150_r4, f150_r5, f150_r6, f150_r7, f150_r8, f150_r9, f150_r10, f150_r11, f150_r12, f150_r13, f150_r14, f150_r15, f150_r16, f150_r17, f151_r0, f151_r1, f177_r0, f177_r1, f149_r0, f149_r1, f38_r0, f38_r1, f38_r2, f38_r3, f39_r0, f39_r1, f39_r2, f39_r3, f40_r0, f40_r1, f40_r2, f40_r3, f40_r4, f40_r5, f40_r6, f40_r7, f40_c0, f108_r0, f108_r1, f108_r2, f108_r3, f108_r4, f108_r5, f108_r6, f108_r8, f108_r9, f108_c0, f152_r0, f152_r1, f82_r0, f82_r1, f91_r0, f91_r1, beq_self_eq_true, wAdd_l, wAdd_r, wSub_l, wSub_r, wMul_l, wMul_r, wWrap]
    try (congr 1; grind)
  · have h1 : (h == 0) = false := by simpa using h0
    have h2 : (!h != 0) = false := by simpa using h0
    simp only [h1, h2, cond_false, f150_r2, f150_r3, f150_r4, f150_r5, f150_r6, f150_r7, f150_r8, f150_r9, f150_r10, f150_r11, f150_r12, f150_r13, f150_r14, f150_r15, f150_r16, f150_r17, f151_r0, f151_r1, f177_r0, f177_r1, f149_r0, f149_r1, f38_r0, f38_r1, f38_r2, f38_r3, f39_r0, f39_r1, f39_r2, f39_r3, f40_r0, f40_r1, f40_r2, f40_r3, f40_r4, f40_r5, f40_r6, f40_r7, f40_c0, f108_r0, f108_r1, f108_r2, f108_r3, f108_r4, f108_r5, f108_r6, f108_r8, f108_r9, f108_c0, f152_r0, f152_r1, f82_r0, f82_r1, f91_r0, f91_r1, wAdd_l, wAdd_r, wSub_l, wSub_r, wMul_l, wMul_r, wWrap]
    try (congr 1; grind)
theorem b4_no (hx : (dErr a b c d e f != 0 || (bErr g h i j != 0 || wErr w != 0)) = true) : f104_r4 a b c d e f g h i j w = 0 := by
  simp only [f104_r4, f104_c0, f104_c1, f104_c2]
  cases hd : dErr a b c d e f != 0
  · cases hb : bErr g h i j != 0
    · simp only [hd, hb, Bool.false_or] at hx
      rw [hx]; rfl
    · rfl
  · rfl
theorem b5_ok (hd : (dErr a b c d e f != 0) = false) (hb : (bErr g h i j != 0) = false) (hw : (wErr w != 0) = false) : f104_r5 a b c d e f g h i j w = f38_r3 a b c d e f g h i j w := by
  simp only [f104_r5, f104_c0, f104_c1, f104_c2, f104_c3, hd, hb, hw, cond_false]
  by_cases h0 : h = 0
  · subst h0
    simp only [show (!(0 : Int) != 0) = true from rfl, cond_true, f144_r2, f144_r3, f144_r4, f144_r5, f144_r6, f144_r7, f144_r8, f144_r9, f144_r14, f144_r15, f144_r16, f144_r17, f150_r2, f150_r3, f150_r4, f150_r5, f150_r6, f150_r7, f150_r8, f150_r9, f150_r10, f150_r11, f150_r12, f150_r13, f150_r14, f150_r15, f150_r16, f150_r17, f151_r0, f151_r1, f177_r0, f177_r1, f149_r0, f149_r1, f38_r0, f38_r1, f38_r2, f38_r3, f39_r0, f39_r1, f39_r2, f39_r3, f40_r0, f40_r1, f40_r2, f40_r3, f40_r4, f40_r5, f40_r6, f40_r7, f40_c0, f108_r0, f108_r1, f108_r2, f108_r3, f108_r4, f108_r5, f108_r6, f108_r8, f108_r9, f108_c0, f152_r0, f152_r1, f82_r0, f82_r1, f91_r0, f91_r1, beq_self_eq_true, wAdd_l, wAdd_r, wSub_l, wSub_r, wMul_l, wMul_r, wWrap]
    try (congr 1; grind)
  · have h1 : (h == 0) = false := by simpa using h0
    have h2 : (!h != 0) = false := by simpa using h0
    simp only [h1, h2, cond_false, f150_r2, f150_r3, f150_r4, f150_r5, f150_r6, f150_r7, f150_r8, f150_r9, f150_r10, f150_r11, f150_r12, f150_r13, f150_r14, f150_r15, f150_r16, f150_r17, f151_r0, f151_r1, f177_r0, f177_r1, f149_r0, f149_r1, f38_r0, f38_r1, f38_r2, f38_r3, f39_r0, f39_r1, f39_r2, f39_r3, f40_r0, f40_r1, f40_r2, f40_r3, f40_r4, f40_r5, f40_r6, f40_r7, f40_c0, f108_r0, f108_r1, f108_r2, f108_r3, f108_r4, f108_r5, f108_r6, f108_r8, f108_r9, f108_c0, f152_r0, f152_r1, f82_r0, f82_r1, f91_r0, f91_r1, wAdd_l, wAdd_r, wSub_l, wSub_r, wMul_l, wMul_r, wWrap]
    try (congr 1; grind)
theorem b5_no (hx : (dErr a b c d e f != 0 || (bErr g h i j != 0 || wErr w != 0)) = true) : f104_r5 a b c d e f g h i j w = 0 := by
  simp only [f104_r5, f104_c0, f104_c1, f104_c2]
  cases hd : dErr a b c d e f != 0
  · cases hb : bErr g h i j != 0
    · simp only [hd, hb, Bool.false_or] at hx
      rw [hx]; rfl
    · rfl
  · rfl
theorem b14_ok (hd : (dErr a b c d e f != 0) = false) (hb : (bErr g h i j != 0) = false) (hw : (wErr w != 0) = false) : f104_r14 a b c d e f g h i j w = f39_r0 a b c d e f g h i j w := by
  simp only [f104_r14, f104_c0, f104_c1, f104_c2, f104_c3, hd, hb, hw, cond_false]
  by_cases h0 : h = 0
  · subst h0
    simp only [show (!(0 : Int) != 0) = true from rfl, cond_true, f144_r2, f144_r3, f144_r4, f144_r5, f144_r6, f144_r7, f144_r8, f144_r9, f144_r14, f144_r15, f144_r16, f144_r17, f150_r2, f150_r3, f150_r4, f150_r5, f150_r6, f150_r7, f150_r8, f150_r9, f150_r10, f150_r11, f150_r12, f150_r13, f150_r14, f150_r15, f150_r16, f150_r17, f151_r0, f151_r1, f177_r0, f177_r1, f149_r0, f149_r1, f38_r0, f38_r1, f38_r2, f38_r3, f39_r0, f39_r1, f39_r2, f39_r3, f40_r0, f40_r1, f40_r2, f40_r3, f40_r4, f40_r5, f40_r6, f40_r7, f40_c0, f108_r0, f108_r1, f108_r2, f108_r3, f108_r4, f108_r5, f108_r6, f108_r8, f108_r9, f108_c0, f152_r0, f152_r1, f82_r0, f82_r1, f91_r0, f91_r1, beq_self_eq_true, wAdd_l, wAdd_r, wSub_l, wSub_r, wMul_l, wMul_r, wWrap]
    try (congr 1; grind)
  · have h1 : (h == 0) = false := by simpa using h0
    have h2 : (!h != 0) = false := by simpa using h0
    simp only [h1, h2, cond_false, f150_r2, f150_r3, f150_r4, f150_r5, f150_r6, f150_r7, f150_r8, f150_r9, f150_r10, f150_r11, f150_r12, f150_r13, f150_r14, f150_r15, f150_r16, f150_r17, f151_r0, f151_r1, f177_r0, f177_r1, f149_r0, f149_r1, f38_r0, f38_r1, f38_r2, f38_r3, f39_r0, f39_r1, f39_r2, f39_r3, f40_r0, f40_r1, f40_r2, f40_r3, f40_r4, f40_r5, f40_r6, f40_r7, f40_c0, f108_r0, f108_r1, f108_r2, f108_r3, f108_r4, f108_r5, f108_r6, f108_r8, f108_r9, f108_c0, f152_r0, f152_r1, f82_r0, f82_r1, f91_r0, f91_r1, wAdd_l, wAdd_r, wSub_l, wSub_r, wMul_l, wMul_r, wWrap]
    try (congr 1; grind)
theorem b14_no (hx : (dErr a b c d e f != 0 || (bErr g h i j != 0 || wErr w != 0)) = true) : f104_r14 a b c d e f g h i j w = 0 := by
  simp only [f104_r14, f104_c0, f104_c1, f104_c2]
  cases hd : dErr a b c d e f != 0
  · cases hb : bErr g h i j != 0
    · simp only [hd, hb, Bool.false_or] at hx
      rw [hx]; rfl
    · rfl
  · rfl
theorem b15_ok (hd : (dErr a b c d e f != 0) = false) (hb : (bErr g h i j != 0) = false) (hw : (wErr w != 0) = false) : f104_r15 a b c d e f g h i j w = f39_r1 a b c d e f g h i j w := by
  simp only [f104_r15, f104_c0, f104_c1, f104_c2, f104_c3, hd, hb, hw, cond_false]
  by_cases h0 : h = 0
  · subst h0
    simp only [show (!(0 : Int) != 0) = true from rfl, cond_true, f144_r2, f144_r3, f144_r4, f144_r5, f144_r6, f144_r7, f144_r8, f144_r9, f144_r14, f144_r15, f144_r16, f144_r17, f150_r2, f150_r3, f150_r4, f150_r5, f150_r6, f150_r7, f150_r8, f150_r9, f150_r10, f150_r11, f150_r12, f150_r13, f150_r14, f150_r15, f150_r16, f150_r17, f151_r0, f151_r1, f177_r0, f177_r1, f149_r0, f149_r1, f38_r0, f38_r1, f38_r2, f38_r3, f39_r0, f39_r1, f39_r2, f39_r3, f40_r0, f40_r1, f40_r2, f40_r3, f40_r4, f40_r5, f40_r6, f40_r7, f40_c0, f108_r0, f108_r1, f108_r2, f108_r3, f108_r4, f108_r5, f108_r6, f108_r8, f108_r9, f108_c0, f152_r0, f152_r1, f82_r0, f82_r1, f91_r0, f91_r1, beq_self_eq_true, wAdd_l, wAdd_r, wSub_l, wSub_r, wMul_l, wMul_r, wWrap]
    try (congr 1; grind)
  · have h1 : (h == 0) = false := by simpa using h0
    have h2 : (!h != 0) = false := by simpa using h0
    simp only [h1, h2, cond_false, f150_r2, f150_r3, f150_r4, f150_r5, f150_r6, f150_r7, f150_r8, f150_r9, f150_r10, f150_r11, f150_r12, f150_r13, f150_r14, f150_r15, f150_r16, f150_r17, f151_r0, f151_r1, f177_r0, f177_r1, f149_r0, f149_r1, f38_r0, f38_r1, f38_r2, f38_r3, f39_r0, f39_r1, f39_r2, f39_r3, f40_r0, f40_r1, f40_r2, f40_r3, f40_r4, f40_r5, f40_r6, f40_r7, f40_c0, f108_r0, f108_r1, f108_r2, f108_r3, f108_r4, f108_r5, f108_r6, f108_r8, f108_r9, f108_c0, f152_r0, f152_r1, f82_r0, f82_r1, f91_r0, f91_r1, wAdd_l, wAdd_r, wSub_l, wSub_r, wMul_l, wMul_r, wWrap]
    try (congr 1; grind)
theorem b15_no (hx : (dErr a b c d e f != 0 || (bErr g h i j != 0 || wErr w != 0)) = true) : f104_r15 a b c d e f g h i j w = 0 := by
  simp only [f104_r15, f104_c0, f104_c1, f104_c2]
  cases hd : dErr a b c d e f != 0
  · cases hb : bErr g h i j != 0
    · simp only [hd, hb, Bool.false_or] at hx
      rw [hx]; rfl
    · rfl
  · rfl
theorem b16_ok (hd : (dErr a b c d e f != 0) = false) (hb : (bErr g h i j != 0) = false) (hw : (wErr w != 0) = false) : f104_r16 a b c d e f g h i j w = f39_r2 a b c d e f g h i j w := by
  simp only [f104_r16, f104_c0, f104_c1, f104_c2, f104_c3, hd, hb, hw, cond_false]
  by_cases h0 : h = 0
  · subst h0
    simp only [show (!(0 : Int) != 0) = true from rfl, cond_true, f144_r2, f144_r3, f144_r4, f144_r5, f144_r6, f144_r7, f144_r8, f144_r9, f144_r14, f144_r15, f144_r16, f144_r17, f150_r2, f150_r3, f150_r4, f150_r5, f150_r6, f150_r7, f150_r8, f150_r9, f150_r10, f150_r11, f150_r12, f150_r13, f150_r14, f150_r15, f150_r16, f150_r17, f151_r0, f151_r1, f177_r0, f177_r1, f149_r0, f149_r1, f38_r0, f38_r1, f38_r2, f38_r3, f39_r0, f39_r1, f39_r2, f39_r3, f40_r0, f40_r1, f40_r2, f40_r3, f40_r4, f40_r5, f40_r6, f40_r7, f40_c0, f108_r0, f108_r1, f108_r2, f108_r3, f108_r4, f108_r5, f108_r6, f108_r8, f108_r9, f108_c0, f152_r0, f152_r1, f82_r0, f82_r1, f91_r0, f91_r1, beq_self_eq_true, wAdd_l, wAdd_r, wSub_l, wSub_r, wMul_l, wMul_r, wWrap]
    try (congr 1; grind)
  · have h1 : (h == 0) = false := by simpa using h0
    have h2 : (!h != 0) = false := by simpa using h0
    simp only [h1, h2, cond_false, f150_r2, f150_r3, f150_r4, f150_r5, f150_r6, f150_r7, f150_r8, f150_r9, f150_r10, f150_r11, f150_r12, f150_r13, f150_r14, f150_r15, f150_r16, f150_r17, f151_r0, f151_r1, f177_r0, f177_r1, f149_r0, f149_r1, f38_r0, f38_r1, f38_r2, f38_r3, f39_r0, f39_r1, f39_r2, f39_r3, f40_r0, f40_r1, f40_r2, f40_r3, f40_r4, f40_r5, f40_r6, f40_r7, f40_c0, f108_r0, f108_r1, f108_r2, f108_r3, f108_r4, f108_r5, f108_r6, f108_r8, f108_r9, f108_c0, f152_r0, f152_r1, f82_r0, f82_r1, f91_r0, f91_r1, wAdd_l, wAdd_r, wSub_l, wSub_r, wMul_l, wMul_r, wWrap]
    try (congr 1; grind)
theorem b16_no (hx : (dErr a b c d e f != 0 || (bErr g h i j != 0 || wErr w != 0)) = true) : f104_r16 a b c d e f g h i j w = 0 := by
  simp only [f104_r16, f104_c0, f104_c1, f104_c2]
  cases hd : dErr a b c d e f != 0
  · cases hb : bErr g h i j != 0
    · simp only [hd, hb, Bool.false_or] at hx
      rw [hx]; rfl
    · rfl
  · rfl
theorem b17_ok (hd : (dErr a b c d e f != 0) = false) (hb : (bErr g h i j != 0) = false) (hw : (wErr w != 0) = false) : f104_r17 a b c d e f g h i j w = f39_r3 a b c d e f g h i j w := by
  simp only [f104_r17, f104_c0, f104_c1, f104_c2, f104_c3, hd, hb, hw, cond_false]
  by_cases h0 : h = 0
  · subst h0
    simp only [show (!(0 : Int) != 0) = true from rfl, cond_true, f144_r2, f144_r3, f144_r4, f144_r5, f144_r6, f144_r7, f144_r8, f144_r9, f144_r14, f144_r15, f144_r16, f144_r17, f150_r2, f150_r3, f150_r4, f150_r5, f150_r6, f150_r7, f150_r8, f150_r9, f150_r10, f150_r11, f150_r12, f150_r13, f150_r14, f150_r15, f150_r16, f150_r17, f151_r0, f151_r1, f177_r0, f177_r1, f149_r0, f149_r1, f38_r0, f38_r1, f38_r2, f38_r3, f39_r0, f39_r1, f39_r2, f39_r3, f40_r0, f40_r1, f40_r2, f40_r3, f40_r4, f40_r5, f40_r6, f40_r7, f40_c0, f108_r0, f108_r1, f108_r2, f108_r3, f108_r4, f108_r5, f108_r6, f108_r8, f108_r9, f108_c0, f152_r0, f152_r1, f82_r0, f82_r1, f91_r0, f91_r1, beq_self_eq_true, wAdd_l, wAdd_r, wSub_l, wSub_r, wMul_l, wMul_r, wWrap]
    try (congr 1; grind)
  · have h1 : (h == 0) = false := by simpa using h0
    have h2 : (!h != 0) = false := by simpa using h0
    simp only [h1, h2, cond_false, f150_r2, f150_r3, f150_r4, f150_r5, f150_r6, f150_r7, f150_r8, f150_r9, f150_r10, f150_r11, f150_r12, f150_r13, f150_r14, f150_r15, f150_r16, f150_r17, f151_r0, f151_r1, f177_r0, f177_r1, f149_r0, f149_r1, f38_r0, f38_r1, f38_r2, f38_r3, f39_r0, f39_r1, f39_r2, f39_r3, f40_r0, f40_r1, f40_r2, f40_r3, f40_r4, f40_r5, f40_r6, f40_r7, f40_c0, f108_r0, f108_r1, f108_r2, f108_r3, f108_r4, f108_r5, f108_r6, f108_r8, f108_r9, f108_c0, f152_r0, f152_r1, f82_r0, f82_r1, f91_r0, f91_r1, wAdd_l, wAdd_r, wSub_l, wSub_r, wMul_l, wMul_r, wWrap]
    try (congr 1; grind)
theorem b17_no (hx : (dErr a b c d e f != 0 || (bErr g h i j != 0 || wErr w != 0)) = true) : f104_r17 a b c d e f g h i j w = 0 := by
  simp only [f104_r17, f104_c0, f104_c1, f104_c2]
  cases hd : dErr a b c d e f != 0
  · cases hb : bErr g h i j != 0
    · simp only [hd, hb, Bool.false_or] at hx
      rw [hx]; rfl
    · rfl
  · rfl
theorem b6_ok (hd : (dErr a b c d e f != 0) = false) (hb : (bErr g h i j != 0) = false) (hw : (wErr w != 0) = false) : f104_r6 a b c d e f g h i j w = f40_r0 a b c d e f g h i j w := by
  simp only [f104_r6, f104_c0, f104_c1, f104_c2, f104_c3, hd, hb, hw, cond_false]
  by_cases h0 : h = 0
  · subst h0
    simp only [show (!(0 : Int) != 0) = true from rfl, cond_true, f144_r2, f144_r3, f144_r4, f144_r5, f144_r6, f144_r7, f144_r8, f144_r9, f144_r14, f144_r15, f144_r16, f144_r17, f150_r2, f150_r3, f150_r4, f150_r5, f150_r6, f150_r7, f150_r8, f150_r9, f150_r10, f150_r11, f150_r12, f150_r13, f150_r14, f150_r15, f150_r16, f150_r17, f151_r0, f151_r1, f177_r0, f177_r1, f149_r0, f149_r1, f38_r0, f38_r1, f38_r2, f38_r3, f39_r0, f39_r1, f39_r2, f39_r3, f40_r0, f40_r1, f40_r2, f40_r3, f40_r4, f40_r5, f40_r6, f40_r7, f40_c0, f108_r0, f108_r1, f108_r2, f108_r3, f108_r4, f108_r5, f108_r6, f108_r8, f108_r9, f108_c0, f152_r0, f152_r1, f82_r0, f82_r1, f91_r0, f91_r1, beq_self_eq_true, wAdd_l, wAdd_r, wSub_l, wSub_r, wMul_l, wMul_r, wWrap]
    try (congr 1; grind)
  · have h1 : (h == 0) = false := by simpa using h0
    have h2 : (!h != 0) = false := by simpa using h0
    simp only [h1, h2, cond_false, f150_r2, f150_r3, f150_r4, f150_r5, f150_r6, f150_r7, f150_r8, f150_r9, f150_r10, f150_r11, f150_r12, f150_r13, f150_r14, f150_r15, f150_r16, f150_r17, f151_r0, f151_r1, f177_r0, f177_r1, f149_r0, f149_r1, f38_r0, f38_r1, f38_r2, f38_r3, f39_r0, f39_r1, f39_r2, f39_r3, f40_r0, f40_r1, f40_r2, f40_r3, f40_r4, f40_r5, f40_r6, f40_r7, f40_c0, f108_r0, f108_r1, f108_r2, f108_r3, f108_r4, f108_r5, f108_r6, f108_r8, f108_r9, f108_c0, f152_r0, f152_r1, f82_r0, f82_r1, f91_r0, f91_r1, wAdd_l, wAdd_r, wSub_l, wSub_r, wMul_l, wMul_r, wWrap]
    try (congr 1; grind)
theorem b6_no (hx : (dErr a b c d e f != 0 || (bErr g h i j != 0 || wErr w != 0)) = true) : f104_r6 a b c d e f g h i j w = 0 := by
  simp only [f104_r6, f104_c0, f104_c1, f104_c2]
  cases hd : dErr a b c d e f != 0
  · cases hb : bErr g h i j != 0
    · simp only [hd, hb, Bool.false_or] at hx
      rw [hx]; rfl
    · rfl
  · rfl
theorem b7_ok (hd : (dErr a b c d e f != 0) = false) (hb : (bErr g h i j != 0) = false) (hw : (wErr w != 0) = false) : f104_r7 a b c d e f g h i j w = f40_r1 a b c d e f g h i j w := by
  simp only [f104_r7, f104_c0, f104_c1, f104_c2, f104_c3, hd, hb, hw, cond_false]
  by_cases h0 : h = 0
  · subst h0
    simp only [show (!(0 : Int) != 0) = true from rfl, cond_true, f144_r2, f144_r3, f144_r4, f144_r5, f144_r6, f144_r7, f144_r8, f144_r9, f144_r14, f144_r15, f144_r16, f144_r17, f150_r2, f150_r3, f150_r4, f150_r5, f150_r6, f150_r7, f150_r8, f150_r9, f150_r10, f150_r11, f150_r12, f150_r13, f150_r14, f150_r15, f150_r16, f150_r17, f151_r0, f151_r1, f177_r0, f177_r1, f149_r0, f149_r1, f38_r0, f38_r1, f38_r2, f38_r3, f39_r0, f39_r1, f39_r2, f39_r3, f40_r0, f40_r1, f40_r2, f40_r3, f40_r4, f40_r5, f40_r6, f40_r7, f40_c0, f108_r0, f108_r1, f108_r2, f108_r3, f108_r4, f108_r5, f108_r6, f108_r8, f108_r9, f108_c0, f152_r0, f152_r1, f82_r0, f82_r1, f91_r0, f91_r1, beq_self_eq_true, wAdd_l, wAdd_r, wSub_l, wSub_r, wMul_l, wMul_r, wWrap]
    try (congr 1; grind)
  · have h1 : (h == 0) = false := by simpa using h0
    have h2 : (!h != 0) = false := by simpa using h0
    simp only [h1, h2, cond_false, f150_r2, f150_r3, f150_r4, f150_r5, f150_r6, f150_r7, f150_r8, f150_r9, f150_r10, f150_r11, f150_r12, f150_r13, f150_r14, f150_r15, f150_r16, f150_r17, f151_r0, f151_r1, f177_r0, f177_r1, f149_r0, f149_r1, f38_r0, f38_r1, f38_r2, f38_r3, f39_r0, f39_r1, f39_r2, f39_r3, f40_r0, f40_r1, f40_r2, f40_r3, f40_r4, f40_r5, f40_r6, f40_r7, f40_c0, f108_r0, f108_r1, f108_r2, f108_r3, f108_r4, f108_r5, f108_r6, f108_r8, f108_r9, f108_c0, f152_r0, f152_r1, f82_r0, f82_r1, f91_r0, f91_r1, wAdd_l, wAdd_r, wSub_l, wSub_r, wMul_l, wMul_r, wWrap]
    try (congr 1; grind)
theorem b7_no (hx : (dErr a b c d e f != 0 || (bErr g h i j != 0 || wErr w != 0)) = true) : f104_r7 a b c d e f g h i j w = 0 := by
  simp only [f104_r7, f104_c0, f104_c1, f104_c2]
  cases hd : dErr a b c d e f != 0
  · cases hb : bErr g h i j != 0
    · simp only [hd, hb, Bool.false_or] at hx
      rw [hx]; rfl
    · rfl
  · rfl
theorem b8_ok (hd : (dErr a b c d e f != 0) = false) (hb : (bErr g h i j != 0) = false) (hw : (wErr w != 0) = false) : f104_r8 a b c d e f g h i j w = f40_r2 a b c d e f g h i j w := by
  simp only [f104_r8, f104_c0, f104_c1, f104_c2, f104_c3, hd, hb, hw, cond_false]
  by_cases h0 : h = 0
  · subst h0
    simp only [show (!(0 : Int) != 0) = true from rfl, cond_true, f144_r2, f144_r3, f144_r4, f144_r5, f144_r6, f144_r7, f144_r8, f144_r9, f144_r14, f144_r15, f144_r16, f144_r17, f150_r2, f150_r3, f150_r4, f150_r5, f150_r6, f150_r7, f150_r8, f150_r9, f150_r10, f150_r11, f150_r12, f150_r13, f150_r14, f150_r15, f150_r16, f150_r17, f151_r0, f151_r1, f177_r0, f177_r1, f149_r0, f149_r1, f38_r0, f38_r1, f38_r2, f38_r3, f39_r0, f39_r1, f39_r2, f39_r3, f40_r0, f40_r1, f40_r2, f40_r3, f40_r4, f40_r5, f40_r6, f40_r7, f40_c0, f108_r0, f108_r1, f108_r2, f108_r3, f108_r4, f108_r5, f108_r6, f108_r8, f108_r9, f108_c0, f152_r0, f152_r1, f82_r0, f82_r1, f91_r0, f91_r1, beq_self_eq_true, wAdd_l, wAdd_r, wSub_l, wSub_r, wMul_l, wMul_r, wWrap]
    try (congr 1; grind)
  · have h1 : (h == 0) = false := by simpa using h0
    have h2 : (!h != 0) = false := by simpa using h0
    simp only [h1, h2, cond_false, f150_r2, f150_r3, f150_r4, f150_r5, f150_r6, f150_r7, f150_r8, f150_r9, f150_r10, f150_r11, f150_r12, f150_r13, f150_r14, f150_r15, f150_r16, f150_r17, f151_r0, f151_r1, f177_r0, f177_r1, f149_r0, f149_r1, f38_r0, f38_r1, f38_r2, f38_r3, f39_r0, f39_r1, f39_r2, f39_r3, f40_r0, f40_r1, f40_r2, f40_r3, f40_r4, f40_r5, f40_r6, f40_r7, f40_c0, f108_r0, f108_r1, f108_r2, f108_r3, f108_r4, f108_r5, f108_r6, f108_r8, f108_r9, f108_c0, f152_r0, f152_r1, f82_r0, f82_r1, f91_r0, f91_r1, wAdd_l, wAdd_r, wSub_l, wSub_r, wMul_l, wMul_r, wWrap]
    try (congr 1; grind)
theorem b8_no (hx : (dErr a b c d e f != 0 || (bErr g h i j != 0 || wErr w != 0)) = true) : f104_r8 a b c d e f g h i j w = 0 := by
  simp only [f104_r8, f104_c0, f104_c1, f104_c2]
  cases hd : dErr a b c d e f != 0
  · cases hb : bErr g h i j != 0
    · simp only [hd, hb, Bool.false_or] at hx
      rw [hx]; rfl
    · rfl
  · rfl
theorem b9_ok (hd : (dErr a b c d e f != 0) = false) (hb : (bErr g h i j != 0) = false) (hw : (wErr w != 0) = false) : f104_r9 a b c d e f g h i j w = f40_r3 a b c d e f g h i j w := by
  simp only [f104_r9, f104_c0, f104_c1, f104_c2, f104_c3, hd, hb, hw, cond_false]
  by_cases h0 : h = 0
  · subst h0
    simp only [show (!(0 : Int) != 0) = true from rfl, cond_true, f144_r2, f144_r3, f144_r4, f144_r5, f144_r6, f144_r7, f144_r8, f144_r9, f144_r14, f144_r15, f144_r16, f144_r17, f150_r2, f150_r3, f150_r4, f150_r5, f150_r6, f150_r7, f150_r8, f150_r9, f150_r10, f150_r11, f150_r12, f150_r13, f150_r14, f150_r15, f150_r16, f150_r17, f151_r0, f151_r1, f177_r0, f177_r1, f149_r0, f149_r1, f38_r0, f38_r1, f38_r2, f38_r3, f39_r0, f39_r1, f39_r2, f39_r3, f40_r0, f40_r1, f40_r2, f40_r3, f40_r4, f40_r5, f40_r6, f40_r7, f40_c0, f108_r0, f108_r1, f108_r2, f108_r3, f108_r4, f108_r5, f108_r6, f108_r8, f108_r9, f108_c0, f152_r0, f152_r1, f82_r0, f82_r1, f91_r0, f91_r1, beq_self_eq_true, wAdd_l, wAdd_r, wSub_l, wSub_r, wMul_l, wMul_r, wWrap]
    try (congr 1; grind)
  · have h1 : (h == 0) = false := by simpa using h0
    have h2 : (!h != 0) = false := by simpa using h0
    simp only [h1, h2, cond_false, f150_r2, f150_r3, f150_r4, f150_r5, f150_r6, f150_r7, f150_r8, f150_r9, f150_r10, f150_r11, f150_r12, f150_r13, f150_r14, f150_r15, f150_r16, f150_r17, f151_r0, f151_r1, f177_r0, f177_r1, f149_r0, f149_r1, f38_r0, f38_r1, f38_r2, f38_r3, f39_r0, f39_r1, f39_r2, f39_r3, f40_r0, f40_r1, f40_r2, f40_r3, f40_r4, f40_r5, f40_r6, f40_r7, f40_c0, f108_r0, f108_r1, f108_r2, f108_r3, f108_r4, f108_r5, f108_r6, f108_r8, f108_r9, f108_c0, f152_r0, f152_r1, f82_r0, f82_r1, f91_r0, f91_r1, wAdd_l, wAdd_r, wSub_l, wSub_r, wMul_l, wMul_r, wWrap]
    try (congr 1; grind)
theorem b9_no (hx : (dErr a b c d e f != 0 || (bErr g h i j != 0 || wErr w != 0)) = true) : f104_r9 a b c d e f g h i j w = 0 := by
  simp only [f104_r9, f104_c0, f104_c1, f104_c2]
  cases hd : dErr a b c d e f != 0
  · cases hb : bErr g h i j != 0
    · simp only [hd, hb, Bool.false_or] at hx
      rw [hx]; rfl
    · rfl
  · rfl
theorem b10_ok (hd : (dErr a b c d e f != 0) = false) (hb : (bErr g h i j != 0) = false) (hw : (wErr w != 0) = false) : f104_r10 a b c d e f g h i j w = f40_r4 a b c d e f g h i j w := by
  simp only [f104_r10, f104_c0, f104_c1, f104_c2, f104_c3, hd, hb, hw, cond_false]
  by_cases h0 : h = 0
  · subst h0
    simp only [show (!(0 : Int) != 0) = true from rfl, cond_true, f144_r2, f144_r3, f144_r4, f144_r5, f144_r6, f144_r7, f144_r8, f144_r9, f144_r14, f144_r15, f144_r16, f144_r17, f150_r2, f150_r3, f150_r4, f150_r5, f150_r6, f150_r7, f150_r8, f150_r9, f150_r10, f150_r11, f150_r12, f150_r13, f150_r14, f150_r15, f150_r16, f150_r17, f151_r0, f151_r1, f177_r0, f177_r1, f149_r0, f149_r1, f38_r0, f38_r1, f38_r2, f38_r3, f39_r0, f39_r1, f39_r2, f39_r3, f40_r0, f40_r1, f40_r2, f40_r3, f40_r4, f40_r5, f40_r6, f40_r7, f40_c0, f108_r0, f108_r1, f108_r2, f108_r3, f108_r4, f108_r5, f108_r6, f108_r8, f108_r9, f108_c0, f152_r0, f152_r1, f82_r0, f82_r1, f91_r0, f91_r1, beq_self_eq_true, wAdd_l, wAdd_r, wSub_l, wSub_r, wMul_l, wMul_r, wWrap]
    try (congr 1; grind)
  · have h1 : (h == 0) = false := by simpa using h0
    have h2 : (!h != 0) = false := by simpa using h0
    simp only [h1, h2, cond_false, f150_r2, f150_r3, f150_r4, f150_r5, f150_r6, f150_r7, f150_r8, f150_r9, f150_r10, f150_r11, f150_r12, f150_r13, f150_r14, f150_r15, f150_r16, f150_r17, f151_r0, f151_r1, f177_r0, f177_r1, f149_r0, f149_r1, f38_r0, f38_r1, f38_r2, f38_r3, f39_r0, f39_r1, f39_r2, f39_r3, f40_r0, f40_r1, f40_r2, f40_r3, f40_r4, f40_r5, f40_r6, f40_r7, f40_c0, f108_r0, f108_r1, f108_r2, f108_r3, f108_r4, f108_r5, f108_r6, f108_r8, f108_r9, f108_c0, f152_r0, f152_r1, f82_r0, f82_r1, f91_r0, f91_r1, wAdd_l, wAdd_r, wSub_l, wSub_r, wMul_l, wMul_r, wWrap]
    try (congr 1; grind)
theorem b10_no (hx : (dErr a b c d e f != 0 || (bErr g h i j != 0 || wErr w != 0)) = true) : f104_r10 a b c d e f g h i j w = 0 := by
  simp only [f104_r10, f104_c0, f104_c1, f104_c2]
  cases hd : dErr a b c d e f != 0
  · cases hb : bErr g h i j != 0
    · simp only [hd, hb, Bool.false_or] at hx
      rw [hx]; rfl
    · rfl
  · rfl
theorem b11_ok (hd : (dErr a b c d e f != 0) = false) (hb : (bErr g h i j != 0) = false) (hw : (wErr w != 0) = false) : f104_r11 a b c d e f g h i j w = f40_r5 a b c d e f g h i j w := by
  simp only [f104_r11, f104_c0, f104_c1, f104_c2, f104_c3, hd, hb, hw, cond_false]
  by_cases h0 : h = 0
  · subst h0
    simp only [show (!(0 : Int) != 0) = true from rfl, cond_true, f144_r2, f144_r3, f144_r4, f144_r5, f144_r6, f144_r7, f144_r8, f144_r9, f144_r14, f144_r15, f144_r16, f144_r17, f150_r2, f150_r3, f150_r4, f150_r5, f150_r6, f150_r7, f150_r8, f150_r9, f150_r10, f150_r11, f150_r12, f150_r13, f150_r14, f150_r15, f150_r16, f150_r17, f151_r0, f151_r1, f177_r0, f177_r1, f149_r0, f149_r1, f38_r0, f38_r1, f38_r2, f38_r3, f39_r0, f39_r1, f39_r2, f39_r3, f40_r0, f40_r1, f40_r2, f40_r3, f40_r4, f40_r5, f40_r6, f40_r7, f40_c0, f108_r0, f108_r1, f108_r2, f108_r3, f108_r4, f108_r5, f108_r6, f108_r8, f108_r9, f108_c0, f152_r0, f152_r1, f82_r0, f82_r1, f91_r0, f91_r1, beq_self_eq_true, wAdd_l, wAdd_r, wSub_l, wSub_r, wMul_l, wMul_r, wWrap]
    try (congr 1; grind)
  · have h1 : (h == 0) = false := by simpa using h0
    have h2 : (!h != 0) = false := by simpa using h0
    simp only [h1, h2, cond_false, f150_r2, f150_r3, f150_r4, f150_r5, f150_r6, f150_r7, f150_r8, f150_r9, f150_r10, f150_r11, f150_r12, f150_r13, f150_r14, f150_r15, f150_r16, f150_r17, f151_r0, f151_r1, f177_r0, f177_r1, f149_r0, f149_r1, f38_r0, f38_r1, f38_r2, f38_r3, f39_r0, f39_r1, f39_r2, f39_r3, f40_r0, f40_r1, f40_r2, f40_r3, f40_r4, f40_r5, f40_r6, f40_r7, f40_c0, f108_r0, f108_r1, f108_r2, f108_r3, f108_r4, f108_r5, f108_r6, f108_r8, f108_r9, f108_c0, f152_r0, f152_r1, f82_r0, f82_r1, f91_r0, f91_r1, wAdd_l, wAdd_r, wSub_l, wSub_r, wMul_l, wMul_r, wWrap]
    try (congr 1; grind)
theorem b11_no (hx : (dErr a b c d e f != 0 || (bErr g h i j != 0 || wErr w != 0)) = true) : f104_r11 a b c d e f g h i j w = 0 := by
  simp only [f104_r11, f104_c0, f104_c1, f104_c2]
  cases hd : dErr a b c d e f != 0
  · cases hb : bErr g h i j != 0
    · simp only [hd, hb, Bool.false_or] at hx
      rw [hx]; rfl
    · rfl
  · rfl
theorem b12_ok (hd : (dErr a b c d e f != 0) = false) (hb : (bErr g h i j != 0) = false) (hw : (wErr w != 0) = false) : f104_r12 a b c d e f g h i j w = f40_r6 a b c d e f g h i j w := by
  simp only [f104_r12, f104_c0, f104_c1, f104_c2, f104_c3, hd, hb, hw, cond_false]
  by_cases h0 : h = 0
  · subst h0
    simp only [show (!(0 : Int) != 0) = true from rfl, cond_true, f144_r2, f144_r3, f144_r4, f144_r5, f144_r6, f144_r7, f144_r8, f144_r9, f144_r14, f144_r15, f144_r16, f144_r17, f150_r2, f150_r3, f150_r4, f150_r5, f150_r6, f150_r7, f150_r8, f150_r9, f150_r10, f150_r11, f150_r12, f150_r13, f150_r14, f150_r15, f150_r16, f150_r17, f151_r0, f151_r1, f177_r0, f177_r1, f149_r0, f149_r1, f38_r0, f38_r1, f38_r2, f38_r3, f39_r0, f39_r1, f39_r2, f39_r3, f40_r0, f40_r1, f40_r2, f40_r3, f40_r4, f40_r5, f40_r6, f40_r7, f40_c0, f108_r0, f108_r1, f108_r2, f108_r3, f108_r4, f108_r5, f108_r6, f108_r8, f108_r9, f108_c0, f152_r0, f152_r1, f82_r0, f82_r1, f91_r0, f91_r1, beq_self_eq_true, wAdd_l, wAdd_r, wSub_l, wSub_r, wMul_l, wMul_r, wWrap]
    try (congr 1; grind)
  · have h1 : (h == 0) = false := by simpa using h0
    have h2 : (!h != 0) = false := by simpa using h0
    simp only [h1, h2, cond_false, f150_r2, f150_r3, f150_r4, f150_r5, f150_r6, f150_r7, f150_r8, f150_r9, f150_r10, f150_r11, f150_r12, f150_r13, f150_r14, f150_r15, f150_r16, f150_r17, f151_r0, f151_r1, f177_r0, f177_r1, f149_r0, f149_r1, f38_r0, f38_r1, f38_r2, f38_r3, f39_r0, f39_r1, f39_r2, f39_r3, f40_r0, f40_r1, f40_r2, f40_r3, f40_r4, f40_r5, f40_r6, f40_r7, f40_c0, f108_r0, f108_r1, f108_r2, f108_r3, f108_r4, f108_r5, f108_r6, f108_r8, f108_r9, f108_c0, f152_r0, f152_r1, f82_r0, f82_r1, f91_r0, f91_r1, wAdd_l, wAdd_r, wSub_l, wSub_r, wMul_l, wMul_r, wWrap]
    try (congr 1; grind)
theorem b12_no (hx : (dErr a b c d e f != 0 || (bErr g h i j != 0 || wErr w != 0)) = true) : f104_r12 a b c d e f g h i j w = 0 := by
  simp only [f104_r12, f104_c0, f104_c1, f104_c2]
  cases hd : dErr a b c d e f != 0
  · cases hb : bErr g h i j != 0
    · simp only [hd, hb, Bool.false_or] at hx
      rw [hx]; rfl
    · rfl
  · rfl
theorem b13_ok (hd : (dErr a b c d e f != 0) = false) (hb : (bErr g h i j != 0) = false) (hw : (wErr w != 0) = false) : f104_r13 a b c d e f g h i j w = f40_r7 a b c d e f g h i j w := by
  simp only [f104_r13, f104_c0, f104_c1, f104_c2, f104_c3, hd, hb, hw, cond_false]
  by_cases h0 : h = 0
  · subst h0
    simp only [show (!(0 : Int) != 0) = true from rfl, cond_true, f144_r2, f144_r3, f144_r4, f144_r5, f144_r6, f144_r7, f144_r8, f144_r9, f144_r14, f144_r15, f144_r16, f144_r17, f150_r2, f150_r3, f150_r4, f150_r5, f150_r6, f150_r7, f150_r8, f150_r9, f150_r10, f150_r11, f150_r12, f150_r13, f150_r14, f150_r15, f150_r16, f150_r17, f151_r0, f151_r1, f177_r0, f177_r1, f149_r0, f149_r1, f38_r0, f38_r1, f38_r2, f38_r3, f39_r0, f39_r1, f39_r2, f39_r3, f40_r0, f40_r1, f40_r2, f40_r3, f40_r4, f40_r5, f40_r6, f40_r7, f40_c0, f108_r0, f108_r1, f108_r2, f108_r3, f108_r4, f108_r5, f108_r6, f108_r8, f108_r9, f108_c0, f152_r0, f152_r1, f82_r0, f82_r1, f91_r0, f91_r1, beq_self_eq_true, wAdd_l, wAdd_r, wSub_l, wSub_r, wMul_l, wMul_r, wWrap]
    try (congr 1; grind)
  · have h1 : (h == 0) = false := by simpa using h0
    have h2 : (!h != 0) = false := by simpa using h0
    simp only [h1, h2, cond_false, f150_r2, f150_r3, f150_r4, f150_r5, f150_r6, f150_r7, f150_r8, f150_r9, f150_r10, f150_r11, f150_r12, f150_r13, f150_r14, f150_r15, f150_r16, f150_r17, f151_r0, f151_r1, f177_r0, f177_r1, f149_r0, f149_r1, f38_r0, f38_r1, f38_r2, f38_r3, f39_r0, f39_r1, f39_r2, f39_r3, f40_r0, f40_r1, f40_r2, f40_r3, f40_r4, f40_r5, f40_r6, f40_r7, f40_c0, f108_r0, f108_r1, f108_r2, f108_r3, f108_r4, f108_r5, f108_r6, f108_r8, f108_r9, f108_c0, f152_r0, f152_r1, f82_r0, f82_r1, f91_r0, f91_r1, wAdd_l, wAdd_r, wSub_l, wSub_r, wMul_l, wMul_r, wWrap]
    try (congr 1; grind)
theorem b13_no (hx : (dErr a b c d e f != 0 || (bErr g h i j != 0 || wErr w != 0)) = true) : f104_r13 a b c d e f g h i j w = 0 := by
  simp only [f104_r13, f104_c0, f104_c1, f104_c2]
  cases hd : dErr a b c d e f != 0
  · cases hb : bErr g h i j != 0
    · simp only [hd, hb, Bool.false_or] at hx
      rw [hx]; rfl
    · rfl
  · rfl
end
theorem q43_same (n d e : Int) (h : (e != 0) = true → n = 0 ∧ d = 0) : f43_r0 n d e e n d = true := by
  cases he : e != 0
  · have h0 : e = 0 := by simpa using he
    subst h0
    simp [f43_r0, f43_c0, f43_c1, f43_c3]
  · obtain ⟨rfl, rfl⟩ := h he
    simp only [f43_r0, f43_c0, f43_c1, f43_c2, he, beq_self_eq_true, cond_true, Bool.and_true]
theorem q28_bad' (e : Int) (h : (e != 0) = true) : f28_r0 0 0 0 0 e e 0 0 0 0 = true := by
  simp only [f28_r0, f28_c0, f28_c1, f28_c2, f28_c3, h, beq_self_eq_true, cond_true, Bool.and_true]
theorem q28_ok' (a b c d : Int) : f28_r0 a b c d 0 0 a b c d = true := by
  simp [f28_r0, f28_c0, f28_c1, f28_c2, f28_c3]
theorem tu_zero (g h i j : Int) (he : (tuE g h i j != 0) = true) : tuN g h i j = 0 ∧ tuD g h i j = 0 := by
  unfold tuE at he
  unfold tuN tuD
  cases hb : bErr g h i j != 0
  · rw [hb] at he
    cases h0 : h == 0
    · rw [h0] at he; cases he
    · exact ⟨rfl, rfl⟩
  · exact ⟨rfl, rfl⟩
theorem tu_bad (g h i j : Int) (hb : (bErr g h i j != 0) = true) : f43_r0 (tuN g h i j) (tuD g h i j) (tuE g h i j) (bErr g h i j) 0 0 = true := by
  have h1 : tuN g h i j = 0 := by unfold tuN; rw [hb]; rfl
  have h2 : tuD g h i j = 0 := by unfold tuD; rw [hb]; rfl
  have h3 : tuE g h i j = bErr g h i j := by unfold tuE; rw [hb]; rfl
  rw [h1, h2, h3]
  exact q43_same 0 0 _ fun _ => ⟨rfl, rfl⟩
theorem neB {x : Int} (h : (x != 0) = true) : (x == 0) = false := by simpa using h
theorem eqB {x : Int} (h : (x != 0) = false) : (x == 0) = true := by simpa using h
/-- DriverBoxes gives true. -/
theorem bn_law (a b c d e f g h i j w : Int) : Gives Tryz.prog envT 0 5 [.agg #[.int .i64 a, .int .i64 b, .int .i64 c, .int .i64 d, .int .i64 e, .int .i64 f], .agg #[.int .i64 g, .int .i64 h, .int .i64 i, .int .i64 j], .int .i64 w] heap0 (.bool true, heap0) := by
  cases hd : dErr a b c d e f != 0
  · cases hb : bErr g h i j != 0
    · cases hw : wErr w != 0
      · skip
        have key := bnE_p0 a b c d e f g h i j w hd (eqB hd) hb (eqB hb) hw (eqB hw) (u41 hb)
        have e18 : f104_r18 a b c d e f g h i j w = 0 := by simp only [f104_r18, f104_c0, f104_c1, f104_c2, hd, hb, hw, cond_true, cond_false]
        simp only [bnE_c0, bnE_c1, bnE_c2, bnE_c3, bnE_c4, f33_r0, f33_r1, f33_r2, f33_r3, f33_r4, f34_r0, f34_r1, f34_r2, f34_r3, f34_r4, f35_r0, f35_r1, f35_r2, f35_r3, f35_r4, f35_r5, f35_r6, f35_r7, f35_r8, b2_ok a b c d e f g h i j w hd hb hw, b3_ok a b c d e f g h i j w hd hb hw, b4_ok a b c d e f g h i j w hd hb hw, b5_ok a b c d e f g h i j w hd hb hw, b14_ok a b c d e f g h i j w hd hb hw, b15_ok a b c d e f g h i j w hd hb hw, b16_ok a b c d e f g h i j w hd hb hw, b17_ok a b c d e f g h i j w hd hb hw, b6_ok a b c d e f g h i j w hd hb hw, b7_ok a b c d e f g h i j w hd hb hw, b8_ok a b c d e f g h i j w hd hb hw, b9_ok a b c d e f g h i j w hd hb hw, b10_ok a b c d e f g h i j w hd hb hw, b11_ok a b c d e f g h i j w hd hb hw, b12_ok a b c d e f g h i j w hd hb hw, b13_ok a b c d e f g h i j w hd hb hw, e18, q28_ok', beq_self_eq_true] at key
        rw [q43_same _ _ _ (tu_zero g h i j)] at key
        exact key trivial trivial trivial trivial trivial
      · have hx : (dErr a b c d e f != 0 || (bErr g h i j != 0 || wErr w != 0)) = true := by rw [hw]; simp
        have key := bnD_p0 a b c d e f g h i j w hd (eqB hd) hb (eqB hb) hw (neB hw) (u41 hb)
        have e18 : f104_r18 a b c d e f g h i j w = wErr w := by simp only [f104_r18, f104_c0, f104_c1, f104_c2, hd, hb, hw, cond_true, cond_false]
        simp only [bnD_c0, bnD_c1, bnD_c2, bnD_c3, bnD_c4, f33_r0, f33_r1, f33_r2, f33_r3, f33_r4, f34_r0, f34_r1, f34_r2, f34_r3, f34_r4, f35_r0, f35_r1, f35_r2, f35_r3, f35_r4, f35_r5, f35_r6, f35_r7, f35_r8, b2_no a b c d e f g h i j w hx, b3_no a b c d e f g h i j w hx, b4_no a b c d e f g h i j w hx, b5_no a b c d e f g h i j w hx, b14_no a b c d e f g h i j w hx, b15_no a b c d e f g h i j w hx, b16_no a b c d e f g h i j w hx, b17_no a b c d e f g h i j w hx, b6_no a b c d e f g h i j w hx, b7_no a b c d e f g h i j w hx, b8_no a b c d e f g h i j w hx, b9_no a b c d e f g h i j w hx, b10_no a b c d e f g h i j w hx, b11_no a b c d e f g h i j w hx, b12_no a b c d e f g h i j w hx, b13_no a b c d e f g h i j w hx, e18, q28_bad' _ hw, beq_self_eq_true] at key
        rw [q43_same _ _ _ (tu_zero g h i j)] at key
        exact key trivial trivial trivial trivial trivial
    · have hx : (dErr a b c d e f != 0 || (bErr g h i j != 0 || wErr w != 0)) = true := by rw [hb]; simp
      have key := bnC_p0 a b c d e f g h i j w hd (eqB hd) hb (neB hb)
      have e18 : f104_r18 a b c d e f g h i j w = bErr g h i j := by simp only [f104_r18, f104_c0, f104_c1, f104_c2, hd, hb, cond_true, cond_false]
      simp only [bnC_c0, bnC_c1, bnC_c2, bnC_c3, bnC_c4, f33_r0, f33_r1, f33_r2, f33_r3, f33_r4, f34_r0, f34_r1, f34_r2, f34_r3, f34_r4, f35_r0, f35_r1, f35_r2, f35_r3, f35_r4, f35_r5, f35_r6, f35_r7, f35_r8, b2_no a b c d e f g h i j w hx, b3_no a b c d e f g h i j w hx, b4_no a b c d e f g h i j w hx, b5_no a b c d e f g h i j w hx, b14_no a b c d e f g h i j w hx, b15_no a b c d e f g h i j w hx, b16_no a b c d e f g h i j w hx, b17_no a b c d e f g h i j w hx, b6_no a b c d e f g h i j w hx, b7_no a b c d e f g h i j w hx, b8_no a b c d e f g h i j w hx, b9_no a b c d e f g h i j w hx, b10_no a b c d e f g h i j w hx, b11_no a b c d e f g h i j w hx, b12_no a b c d e f g h i j w hx, b13_no a b c d e f g h i j w hx, e18, q28_bad' _ hb, beq_self_eq_true] at key
      rw [tu_bad g h i j hb] at key
      exact key trivial trivial trivial trivial trivial
  · have hx : (dErr a b c d e f != 0 || (bErr g h i j != 0 || wErr w != 0)) = true := by rw [hd]; rfl
    cases hb : bErr g h i j != 0
    · skip
      have key := bnB_p0 a b c d e f g h i j w hd (neB hd) hb (eqB hb) (u41 hb)
      have e18 : f104_r18 a b c d e f g h i j w = dErr a b c d e f := by simp only [f104_r18, f104_c0, f104_c1, f104_c2, hd, cond_true, cond_false]
      simp only [bnB_c0, bnB_c1, bnB_c2, bnB_c3, bnB_c4, f33_r0, f33_r1, f33_r2, f33_r3, f33_r4, f34_r0, f34_r1, f34_r2, f34_r3, f34_r4, f35_r0, f35_r1, f35_r2, f35_r3, f35_r4, f35_r5, f35_r6, f35_r7, f35_r8, b2_no a b c d e f g h i j w hx, b3_no a b c d e f g h i j w hx, b4_no a b c d e f g h i j w hx, b5_no a b c d e f g h i j w hx, b14_no a b c d e f g h i j w hx, b15_no a b c d e f g h i j w hx, b16_no a b c d e f g h i j w hx, b17_no a b c d e f g h i j w hx, b6_no a b c d e f g h i j w hx, b7_no a b c d e f g h i j w hx, b8_no a b c d e f g h i j w hx, b9_no a b c d e f g h i j w hx, b10_no a b c d e f g h i j w hx, b11_no a b c d e f g h i j w hx, b12_no a b c d e f g h i j w hx, b13_no a b c d e f g h i j w hx, e18, q28_bad' _ hd, beq_self_eq_true] at key
      rw [q43_same _ _ _ (tu_zero g h i j)] at key
      exact key trivial trivial trivial trivial trivial
    · skip
      have key := bnA_p0 a b c d e f g h i j w hd (neB hd) hb (neB hb)
      have e18 : f104_r18 a b c d e f g h i j w = dErr a b c d e f := by simp only [f104_r18, f104_c0, f104_c1, f104_c2, hd, cond_true, cond_false]
      simp only [bnA_c0, bnA_c1, bnA_c2, bnA_c3, bnA_c4, f33_r0, f33_r1, f33_r2, f33_r3, f33_r4, f34_r0, f34_r1, f34_r2, f34_r3, f34_r4, f35_r0, f35_r1, f35_r2, f35_r3, f35_r4, f35_r5, f35_r6, f35_r7, f35_r8, b2_no a b c d e f g h i j w hx, b3_no a b c d e f g h i j w hx, b4_no a b c d e f g h i j w hx, b5_no a b c d e f g h i j w hx, b14_no a b c d e f g h i j w hx, b15_no a b c d e f g h i j w hx, b16_no a b c d e f g h i j w hx, b17_no a b c d e f g h i j w hx, b6_no a b c d e f g h i j w hx, b7_no a b c d e f g h i j w hx, b8_no a b c d e f g h i j w hx, b9_no a b c d e f g h i j w hx, b10_no a b c d e f g h i j w hx, b11_no a b c d e f g h i j w hx, b12_no a b c d e f g h i j w hx, b13_no a b c d e f g h i j w hx, e18, q28_bad' _ hd, beq_self_eq_true] at key
      rw [tu_bad g h i j hb] at key
      exact key trivial trivial trivial trivial trivial
end Go.Proofs.YtkndhhnjgpialaaGreatDoor
/-
What functions give.
-/
namespace Go.Proofs.YtkndhhnjgpialaaGreatDoor
open Go Go.Abs
theorem f154_p0 (x : Int) (y : Int) : Gives Tryz.prog envT 0 154 [.int .u64 (x), .int .u64 (y)] heapN ((.tuple #[(.int .u64 (IntKind.u64.wrap (IntKind.u64.wrap (IntKind.u64.wrap (x.fdiv 4294967296 * y.fdiv 4294967296) + (IntKind.u64.wrap (IntKind.u64.wrap (x.fdiv 4294967296 * IntKind.u64.wrap ↑(BitVec.ofInt IntKind.u64.bits y &&& BitVec.ofInt IntKind.u64.bits 4294967295).toNat) + (IntKind.u64.wrap (IntKind.u64.wrap ↑(BitVec.ofInt IntKind.u64.bits x &&& BitVec.ofInt IntKind.u64.bits 4294967295).toNat * IntKind.u64.wrap ↑(BitVec.ofInt IntKind.u64.bits y &&& BitVec.ofInt IntKind.u64.bits 4294967295).toNat)).fdiv 4294967296)).fdiv 4294967296) + (IntKind.u64.wrap (IntKind.u64.wrap ↑(BitVec.ofInt IntKind.u64.bits (IntKind.u64.wrap (IntKind.u64.wrap (x.fdiv 4294967296 * IntKind.u64.wrap ↑(BitVec.ofInt IntKind.u64.bits y &&& BitVec.ofInt IntKind.u64.bits 4294967295).toNat) + (IntKind.u64.wrap (IntKind.u64.wrap ↑(BitVec.ofInt IntKind.u64.bits x &&& BitVec.ofInt IntKind.u64.bits 4294967295).toNat * IntKind.u64.wrap ↑(BitVec.ofInt IntKind.u64.bits y &&& BitVec.ofInt IntKind.u64.bits 4294967295).toNat)).fdiv 4294967296)) &&& BitVec.ofInt IntKind.u64.bits 4294967295).toNat + IntKind.u64.wrap (IntKind.u64.wrap ↑(BitVec.ofInt IntKind.u64.bits x &&& BitVec.ofInt IntKind.u64.bits 4294967295).toNat * y.fdiv 4294967296))).fdiv 4294967296))), (.int .u64 (IntKind.u64.wrap (x * y)))]), heapN) :=
  Gives.by (n := 1000) (os := []) (os' := []) (by kernel_rfl) (ObsOK.nil)
def f154_r0 (x : Int) (y : Int) : Int := (IntKind.u64.wrap (IntKind.u64.wrap (IntKind.u64.wrap (x.fdiv 4294967296 * y.fdiv 4294967296) + (IntKind.u64.wrap (IntKind.u64.wrap (x.fdiv 4294967296 * IntKind.u64.wrap ↑(BitVec.ofInt IntKind.u64.bits y &&& BitVec.ofInt IntKind.u64.bits 4294967295).toNat) + (IntKind.u64.wrap (IntKind.u64.wrap ↑(BitVec.ofInt IntKind.u64.bits x &&& BitVec.ofInt IntKind.u64.bits 4294967295).toNat * IntKind.u64.wrap ↑(BitVec.ofInt IntKind.u64.bits y &&& BitVec.ofInt IntKind.u64.bits 4294967295).toNat)).fdiv 4294967296)).fdiv 4294967296) + (IntKind.u64.wrap (IntKind.u64.wrap ↑(BitVec.ofInt IntKind.u64.bits (IntKind.u64.wrap (IntKind.u64.wrap (x.fdiv 4294967296 * IntKind.u64.wrap ↑(BitVec.ofInt IntKind.u64.bits y &&& BitVec.ofInt IntKind.u64.bits 4294967295).toNat) + (IntKind.u64.wrap (IntKind.u64.wrap ↑(BitVec.ofInt IntKind.u64.bits x &&& BitVec.ofInt IntKind.u64.bits 4294967295).toNat * IntKind.u64.wrap ↑(BitVec.ofInt IntKind.u64.bits y &&& BitVec.ofInt IntKind.u64.bits 4294967295).toNat)).fdiv 4294967296)) &&& BitVec.ofInt IntKind.u64.bits 4294967295).toNat + IntKind.u64.wrap (IntKind.u64.wrap ↑(BitVec.ofInt IntKind.u64.bits x &&& BitVec.ofInt IntKind.u64.bits 4294967295).toNat * y.fdiv 4294967296))).fdiv 4294967296))
def f154_r1 (x : Int) (y : Int) : Int := (IntKind.u64.wrap (x * y))
theorem f154_gives (x : Int) (y : Int) : Gives Tryz.prog envT 0 154 [.int .u64 (x), .int .u64 (y)] heapN ((.tuple #[(.int .u64 (f154_r0 x y)), (.int .u64 (f154_r1 x y))]), heapN) := by
  simp only [f154_r0, f154_r1, cond_true, cond_false]; exact f154_p0 x y
theorem f178_p0 (x : Int) : Gives Tryz.prog envT 0 178 [.int .u64 (x)] heapN ((.bool (x != x)), heapN) :=
  Gives.by (n := 1000) (os := []) (os' := []) (by kernel_rfl) (ObsOK.nil)
def f178_r0 (x : Int) : Bool := (x != x)
theorem f178_gives (x : Int) : Gives Tryz.prog envT 0 178 [.int .u64 (x)] heapN ((.bool (f178_r0 x)), heapN) := by
  simp only [f178_r0, cond_true, cond_false]; exact f178_p0 x
def B_envFa (f : FuncId) (args : List Value) : Option (Heap × Value) :=
  if f == 154 then
    match args with
    | [.int .u64 (x), .int .u64 (y)] => some (heapN, (.tuple #[(.int .u64 (f154_r0 x y)), (.int .u64 (f154_r1 x y))]))
    | _ => none
  else  if f == 178 then
    match args with
    | [.int .u64 (x)] => some (heapN, (.bool (f178_r0 x)))
    | _ => none
  else none
noncomputable def envFa : Env := envT.with (baseKnown B_envFa)
theorem envFa_ok : EnvOK Tryz.prog 9 envFa := env_base prog_ok envT_ok fun f args H v h => by
  unfold B_envFa at h
  split at h
  · rename_i hf
    have hf : f = 154 := by simpa using hf
    subst hf
    split at h
    · cases h; exact heapN_ok (f154_gives _ _)
    · cases h
  · skip
    split at h
    · rename_i hf
      have hf : f = 178 := by simpa using hf
      subst hf
      split at h
      · cases h; exact heapN_ok (f178_gives _)
      · cases h
    · skip
      cases h
end Go.Proofs.YtkndhhnjgpialaaGreatDoor
/-
What functions give.
-/
namespace Go.Proofs.YtkndhhnjgpialaaGreatDoor
open Go Go.Abs
def f156_c0 (x : Int) (y : Int) : Bool := decide (x < y)
def f156_c1 (x : Int) (y : Int) : Bool := decide (x > y)
theorem f156_p0 (x : Int) (y : Int) (hx : (x != x) = false) (hy : (y != y) = false) (h0 : f156_c0 x y = true) : Gives Tryz.prog envFa 0 156 [.int .u64 (x), .int .u64 (y)] heapN ((.int .i64 (-1)), heapN) :=
  Gives.by (n := 1000) (os := [.br 156 24 false, .br 156 28 false, .br 156 34 true]) (os' := []) (by kernel_rfl) (ObsOK.cond hx (ObsOK.cond hy (ObsOK.cond h0 (ObsOK.nil))))
theorem f156_p1 (x : Int) (y : Int) (hx : (x != x) = false) (hy : (y != y) = false) (h0 : f156_c0 x y = false) (h1 : f156_c1 x y = true) : Gives Tryz.prog envFa 0 156 [.int .u64 (x), .int .u64 (y)] heapN ((.int .i64 (1)), heapN) :=
  Gives.by (n := 1000) (os := [.br 156 24 false, .br 156 28 false, .br 156 34 false, .br 156 40 true]) (os' := []) (by kernel_rfl) (ObsOK.cond hx (ObsOK.cond hy (ObsOK.cond h0 (ObsOK.cond h1 (ObsOK.nil)))))
theorem f156_p2 (x : Int) (y : Int) (hx : (x != x) = false) (hy : (y != y) = false) (h0 : f156_c0 x y = false) (h1 : f156_c1 x y = false) : Gives Tryz.prog envFa 0 156 [.int .u64 (x), .int .u64 (y)] heapN ((.int .i64 (0)), heapN) :=
  Gives.by (n := 1000) (os := [.br 156 24 false, .br 156 28 false, .br 156 34 false, .br 156 40 false]) (os' := []) (by kernel_rfl) (ObsOK.cond hx (ObsOK.cond hy (ObsOK.cond h0 (ObsOK.cond h1 (ObsOK.nil)))))
def f156_r0 (x : Int) (y : Int) : Int := (cond (f156_c0 x y) (-1) (cond (f156_c1 x y) (1) (0)))
theorem f156_gives (x : Int) (y : Int) (hx : (x != x) = false) (hy : (y != y) = false) : Gives Tryz.prog envFa 0 156 [.int .u64 (x), .int .u64 (y)] heapN ((.int .i64 (f156_r0 x y)), heapN) := by
  cases g0 : f156_c0 x y
  · skip
    cases g1 : f156_c1 x y
    · skip
      simp only [f156_r0, g0, g1, cond_true, cond_false]; exact f156_p2 x y hx hy g0 g1
    · skip
      simp only [f156_r0, g0, g1, cond_true, cond_false]; exact f156_p1 x y hx hy g0 g1
  · skip
    simp only [f156_r0, g0, cond_true, cond_false]; exact f156_p0 x y hx hy g0
end Go.Proofs.YtkndhhnjgpialaaGreatDoor
/-
Numbers of 64 bits without a sign are compared.
-/
namespace Go.Proofs.YtkndhhnjgpialaaGreatDoor
open Go Go.Abs
theorem g156 (x y : Int) : Gives Tryz.prog envFa 0 156 [.int .u64 x, .int .u64 y] heapN (.int .i64 (f156_r0 x y), heapN) := f156_gives x y (by simp) (by simp)
def B_envFb (f : FuncId) (args : List Value) : Option (Heap × Value) :=
  if f == 156 then
    match args with
    | [.int .u64 x, .int .u64 y] => some (heapN, .int .i64 (f156_r0 x y))
    | _ => none
  else none
noncomputable def envFb : Env := envFa.with (baseKnown B_envFb)
theorem envFb_ok : EnvOK Tryz.prog 9 envFb := env_base prog_ok envFa_ok fun f args H v h => by
  unfold B_envFb at h
  split at h
  · rename_i hf
    have hf : f = 156 := by simpa using hf
    subst hf
    split at h
    · cases h; exact heapN_ok (g156 _ _)
    · cases h
  · skip
    cases h
end Go.Proofs.YtkndhhnjgpialaaGreatDoor
/-
What functions give.
-/
namespace Go.Proofs.YtkndhhnjgpialaaGreatDoor
open Go Go.Abs
def f115_c0 (a : Int) (b : Int) (c : Int) (d : Int) : Bool := f156_r0 (f154_r0 (IntKind.u64.wrap a) (IntKind.u64.wrap d)) (f154_r0 (IntKind.u64.wrap c) (IntKind.u64.wrap b)) != 0
def f115_c1 (a : Int) (b : Int) (c : Int) (d : Int) : Bool := f156_r0 (f154_r1 (IntKind.u64.wrap a) (IntKind.u64.wrap d)) (f154_r1 (IntKind.u64.wrap c) (IntKind.u64.wrap b)) != 0
theorem f115_p0 (a : Int) (b : Int) (c : Int) (d : Int) (h0 : f115_c0 a b c d = true) : Gives Tryz.prog envFb 0 115 [(.agg #[(.int .i64 (a)), (.int .i64 (b))]), (.agg #[(.int .i64 (c)), (.int .i64 (d))])] heapN ((.int .i64 (f156_r0 (f154_r0 (IntKind.u64.wrap a) (IntKind.u64.wrap d)) (f154_r0 (IntKind.u64.wrap c) (IntKind.u64.wrap b)))), heapN) :=
  Gives.by (n := 1000) (os := [.br 155 30 true]) (os' := []) (by kernel_rfl) (ObsOK.cond h0 (ObsOK.nil))
theorem f115_p1 (a : Int) (b : Int) (c : Int) (d : Int) (h0 : f115_c0 a b c d = false) (h1 : f115_c1 a b c d = true) : Gives Tryz.prog envFb 0 115 [(.agg #[(.int .i64 (a)), (.int .i64 (b))]), (.agg #[(.int .i64 (c)), (.int .i64 (d))])] heapN ((.int .i64 (f156_r0 (f154_r1 (IntKind.u64.wrap a) (IntKind.u64.wrap d)) (f154_r1 (IntKind.u64.wrap c) (IntKind.u64.wrap b)))), heapN) :=
  Gives.by (n := 1000) (os := [.br 155 30 false, .br 155 30 true]) (os' := []) (by kernel_rfl) (ObsOK.cond h0 (ObsOK.cond h1 (ObsOK.nil)))
theorem f115_p2 (a : Int) (b : Int) (c : Int) (d : Int) (h0 : f115_c0 a b c d = false) (h1 : f115_c1 a b c d = false) : Gives Tryz.prog envFb 0 115 [(.agg #[(.int .i64 (a)), (.int .i64 (b))]), (.agg #[(.int .i64 (c)), (.int .i64 (d))])] heapN ((.int .i64 (0)), heapN) :=
  Gives.by (n := 1000) (os := [.br 155 30 false, .br 155 30 false]) (os' := []) (by kernel_rfl) (ObsOK.cond h0 (ObsOK.cond h1 (ObsOK.nil)))
def f115_r0 (a : Int) (b : Int) (c : Int) (d : Int) : Int := (cond (f115_c0 a b c d) (f156_r0 (f154_r0 (IntKind.u64.wrap a) (IntKind.u64.wrap d)) (f154_r0 (IntKind.u64.wrap c) (IntKind.u64.wrap b))) (cond (f115_c1 a b c d) (f156_r0 (f154_r1 (IntKind.u64.wrap a) (IntKind.u64.wrap d)) (f154_r1 (IntKind.u64.wrap c) (IntKind.u64.wrap b))) (0)))
theorem f115_gives (a : Int) (b : Int) (c : Int) (d : Int) : Gives Tryz.prog envFb 0 115 [(.agg #[(.int .i64 (a)), (.int .i64 (b))]), (.agg #[(.int .i64 (c)), (.int .i64 (d))])] heapN ((.int .i64 (f115_r0 a b c d)), heapN) := by
  cases g0 : f115_c0 a b c d
  · skip
    cases g1 : f115_c1 a b c d
    · skip
      simp only [f115_r0, g0, g1, cond_true, cond_false]; exact f115_p2 a b c d g0 g1
    · skip
      simp only [f115_r0, g0, g1, cond_true, cond_false]; exact f115_p1 a b c d g0 g1
  · skip
    simp only [f115_r0, g0, cond_true, cond_false]; exact f115_p0 a b c d g0
def B_envFd (f : FuncId) (args : List Value) : Option (Heap × Value) :=
  if f == 115 then
    match args with
    | [(.agg ⟨[(.int .i64 (a)), (.int .i64 (b))]⟩), (.agg ⟨[(.int .i64 (c)), (.int .i64 (d))]⟩)] => some (heapN, (.int .i64 (f115_r0 a b c d)))
    | _ => none
  else none
noncomputable def envFd : Env := envFb.with (baseKnown B_envFd)
theorem envFd_ok : EnvOK Tryz.prog 9 envFd := env_base prog_ok envFb_ok fun f args H v h => by
  unfold B_envFd at h
  split at h
  · rename_i hf
    have hf : f = 115 := by simpa using hf
    subst hf
    split at h
    · cases h; exact heapN_ok (f115_gives _ _ _ _)
    · cases h
  · skip
    cases h
end Go.Proofs.YtkndhhnjgpialaaGreatDoor
/-
What functions give.
-/
namespace Go.Proofs.YtkndhhnjgpialaaGreatDoor
open Go Go.Abs
theorem f153a_p0 (n : Int) (d : Int) (h1 : (!f140_r0 n (-999999999) 999999999) = true) : Gives Tryz.prog envFd 0 153 [(.agg #[(.int .i64 (n)), (.int .i64 (d))])] heapN ((.int .i64 (3)), heapN) :=
  Gives.by (n := 1000) (os := [.br 153 16 true, .br 153 16 true, .br 153 16 true, .br 153 16 true, .br 153 27 true]) (os' := []) (by kernel_rfl) (ObsOK.cond h1 (ObsOK.cond h1 (ObsOK.cond h1 (ObsOK.cond h1 (ObsOK.cond h1 (ObsOK.nil))))))
theorem f153a_gives (n : Int) (d : Int) (h1 : (!f140_r0 n (-999999999) 999999999) = true) : Gives Tryz.prog envFd 0 153 [(.agg #[(.int .i64 (n)), (.int .i64 (d))])] heapN ((.int .i64 (3)), heapN) := by
  exact f153a_p0 n d h1
theorem f153b_p0 (n : Int) (d : Int) (h1 : (!f140_r0 n (-999999999) 999999999) = false) (h2 : (!f140_r0 d 1 999999999) = true) : Gives Tryz.prog envFd 0 153 [(.agg #[(.int .i64 (n)), (.int .i64 (d))])] heapN ((.int .i64 (3)), heapN) :=
  Gives.by (n := 1000) (os := [.br 153 16 false, .br 153 16 false, .br 153 16 false, .br 153 16 false, .br 153 27 false, .br 153 26 true]) (os' := []) (by kernel_rfl) (ObsOK.cond h1 (ObsOK.cond h1 (ObsOK.cond h1 (ObsOK.cond h1 (ObsOK.cond h1 (ObsOK.cond h2 (ObsOK.nil)))))))
theorem f153b_gives (n : Int) (d : Int) (h1 : (!f140_r0 n (-999999999) 999999999) = false) (h2 : (!f140_r0 d 1 999999999) = true) : Gives Tryz.prog envFd 0 153 [(.agg #[(.int .i64 (n)), (.int .i64 (d))])] heapN ((.int .i64 (3)), heapN) := by
  exact f153b_p0 n d h1 h2
theorem f153c_p0 (n : Int) (d : Int) (h1 : (!f140_r0 n (-999999999) 999999999) = false) (h2 : (!f140_r0 d 1 999999999) = false) (hl : ∀ (lim : Nat) (A : Heap), startsB heapN A = true → Gives Tryz.prog envFd lim 107 [.agg #[.int .i64 n, .int .i64 d]] A (.agg #[.int .i64 (lowN n d), .int .i64 (lowD n d)], A)) : Gives Tryz.prog envFd 0 153 [(.agg #[(.int .i64 (n)), (.int .i64 (d))])] heapN ((.int .i64 (f93_r0 (!(lowN n d == n && (lowD n d == d && true))) 1)), heapN) :=
  Gives.by (n := 1000) (os := [.br 153 16 false, .br 153 16 false, .br 153 16 false, .br 153 16 false, .br 153 27 false, .br 153 26 false, .opw 153 15 (.agg #[(.int .i64 (lowN n d)), (.int .i64 (lowD n d))]) [.none, .none, .none, .none, .none, .none, .none, .none, .none, (.some (.cells [(.int .i64 n), (.int .i64 d)] 61 .var))]]) (os' := []) (by kernel_rfl) (ObsOK.cond h1 (ObsOK.cond h1 (ObsOK.cond h1 (ObsOK.cond h1 (ObsOK.cond h1 (ObsOK.cond h2 (ObsOK.call (hl 10 [.none, .none, .none, .none, .none, .none, .none, .none, .none, (.some (.cells [(.int .i64 n), (.int .i64 d)] 61 .var))] (by kernel_rfl)) (ObsOK.nil))))))))
def f153c_r0 (n : Int) (d : Int) : Int := (f93_r0 (!(lowN n d == n && (lowD n d == d && true))) 1)
theorem f153c_gives (n : Int) (d : Int) (h1 : (!f140_r0 n (-999999999) 999999999) = false) (h2 : (!f140_r0 d 1 999999999) = false) (hl : ∀ (lim : Nat) (A : Heap), startsB heapN A = true → Gives Tryz.prog envFd lim 107 [.agg #[.int .i64 n, .int .i64 d]] A (.agg #[.int .i64 (lowN n d), .int .i64 (lowD n d)], A)) : Gives Tryz.prog envFd 0 153 [(.agg #[(.int .i64 (n)), (.int .i64 (d))])] heapN ((.int .i64 (f153c_r0 n d)), heapN) := by
  simp only [f153c_r0, cond_true, cond_false]; exact f153c_p0 n d h1 h2 hl
end Go.Proofs.YtkndhhnjgpialaaGreatDoor
/-
Ratios: which are valid.
-/
namespace Go.Proofs.YtkndhhnjgpialaaGreatDoor
open Go Go.Abs
theorem known_of {P : Program} {E : Env} {lim : Nat} {f : FuncId} {args : List Value} {A A' : Heap} {v : Value} (h : E.known lim f args A = some (v, A')) : Gives P E lim f args A (v, A') := ⟨0, by simp only [aCall, aCallBy, h]⟩
theorem k107 {p q : Int} (h : okL p q = true) {lim : Nat} {A : Heap} (hs : startsB heapN A = true) : envL.known lim 107 [.agg #[.int .i64 p, .int .i64 q]] A = some (.agg #[.int .i64 (lowN p q), .int .i64 (lowD p q)], A) := by
  have hB : B_envL 107 [.agg #[.int .i64 p, .int .i64 q]] = some (heapN, .agg #[.int .i64 (lowN p q), .int .i64 (lowD p q)]) := by show (if okL p q = true then _ else none) = _; rw [if_pos h]
  have hf : [Value.agg #[.int .i64 p, .int .i64 q]].all freeB = true := rfl
  have hv : freeB (.agg #[.int .i64 (lowN p q), .int .i64 (lowD p q)]) = true := rfl
  simp only [envL, Env.with, baseKnown, hB, hf, hv, hs, Bool.and_self, if_true]
theorem k110 {p q : Int} (h : okL p q = true) {lim : Nat} {A : Heap} (hs : startsB heapN A = true) : envL.known lim 110 [.int .i64 p, .int .i64 q] A = some (.agg #[.int .i64 (lowN p q), .int .i64 (lowD p q)], A) := by
  have hB : B_envL 110 [.int .i64 p, .int .i64 q] = some (heapN, .agg #[.int .i64 (lowN p q), .int .i64 (lowD p q)]) := by show (if okL p q = true then _ else none) = _; rw [if_pos h]
  have hf : [Value.int .i64 p, .int .i64 q].all freeB = true := rfl
  have hv : freeB (.agg #[.int .i64 (lowN p q), .int .i64 (lowD p q)]) = true := rfl
  simp only [envL, Env.with, baseKnown, hB, hf, hv, hs, Bool.and_self, if_true]
theorem two_eq (x a y b : Int) : (x == a && (y == b && true)) = decide (x = a ∧ y = b) := by rw [Bool.eq_iff_iff]; simp
/-- The error of a ratio. -/
def cErr (n d : Int) : Int := if (-999999999 ≤ n ∧ n ≤ 999999999) ∧ (1 ≤ d ∧ d ≤ 999999999) then (if lowN n d = n ∧ lowD n d = d then 0 else 1) else 3
theorem g153 (n d : Int) : Gives Tryz.prog envFd 0 153 [.agg #[.int .i64 n, .int .i64 d]] heapN (.int .i64 (cErr n d), heapN) := by
  unfold cErr
  by_cases h1 : -999999999 ≤ n ∧ n ≤ 999999999
  · have e1 : (!f140_r0 n (-999999999) 999999999) = false := by rw [f140_eq]; simpa using h1
    by_cases h2 : 1 ≤ d ∧ d ≤ 999999999
    · have e2 : (!f140_r0 d 1 999999999) = false := by rw [f140_eq]; simpa using h2
      have ho : okL n d = true := decide_eq_true (by omega)
      have := f153c_p0 n d e1 e2 (fun lim A hs => known_of (show envL.known lim 107 _ A = _ from k107 ho hs))
      rw [f93_eq, cond_not] at this
      rw [if_pos ⟨h1, h2⟩]
      rw [show (if lowN n d = n ∧ lowD n d = d then (0 : Int) else 1) = cond (lowN n d == n && (lowD n d == d && true)) 0 1 from by
        rw [two_eq, cond_dec]]
      exact this
    · have e2 : (!f140_r0 d 1 999999999) = true := by rw [f140_eq]; simp; omega
      rw [if_neg (fun h => h2 h.2)]
      exact f153b_p0 n d e1 e2
  · have e1 : (!f140_r0 n (-999999999) 999999999) = true := by rw [f140_eq]; simp; omega
    rw [if_neg (fun h => h1 h.1)]
    exact f153a_p0 n d e1
def B_envFe (f : FuncId) (args : List Value) : Option (Heap × Value) :=
  if f == 153 then
    match args with
    | [.agg ⟨[.int .i64 n, .int .i64 d]⟩] => some (heapN, .int .i64 (cErr n d))
    | _ => none
  else none
noncomputable def envFe : Env := envFd.with (baseKnown B_envFe)
theorem envFe_ok : EnvOK Tryz.prog 9 envFe := env_base prog_ok envFd_ok fun f args H v h => by
  unfold B_envFe at h
  split at h
  · rename_i hf
    have hf : f = 153 := by simpa using hf
    subst hf
    split at h
    · cases h; exact heapN_ok (g153 _ _)
    · cases h
  · skip
    cases h
end Go.Proofs.YtkndhhnjgpialaaGreatDoor
/-
What functions give.
-/
namespace Go.Proofs.YtkndhhnjgpialaaGreatDoor
open Go Go.Abs
def f114_c0 (n : Int) (d : Int) : Bool := f111_r0 n 1 10000 != 0
def f114_c1 (n : Int) (d : Int) : Bool := f111_r0 d 1 10000 != 0
def f114_c2 (n : Int) (d : Int) : Bool := cErr n d != 0
theorem f114_p0 (n : Int) (d : Int) (h0 : f114_c0 n d = true) : Gives Tryz.prog envFe 0 114 [(.agg #[(.int .i64 (n)), (.int .i64 (d))])] heapN ((.int .i64 (f111_r0 n 1 10000)), heapN) :=
  Gives.by (n := 1000) (os := [.br 105 26 true]) (os' := []) (by kernel_rfl) (ObsOK.cond h0 (ObsOK.nil))
theorem f114_p1 (n : Int) (d : Int) (h0 : f114_c0 n d = false) (h1 : f114_c1 n d = true) : Gives Tryz.prog envFe 0 114 [(.agg #[(.int .i64 (n)), (.int .i64 (d))])] heapN ((.int .i64 (f111_r0 d 1 10000)), heapN) :=
  Gives.by (n := 1000) (os := [.br 105 26 false, .br 105 26 true]) (os' := []) (by kernel_rfl) (ObsOK.cond h0 (ObsOK.cond h1 (ObsOK.nil)))
theorem f114_p2 (n : Int) (d : Int) (h0 : f114_c0 n d = false) (h1 : f114_c1 n d = false) (h2 : f114_c2 n d = true) : Gives Tryz.prog envFe 0 114 [(.agg #[(.int .i64 (n)), (.int .i64 (d))])] heapN ((.int .i64 (cErr n d)), heapN) :=
  Gives.by (n := 1000) (os := [.br 105 26 false, .br 105 26 false, .br 105 26 true]) (os' := []) (by kernel_rfl) (ObsOK.cond h0 (ObsOK.cond h1 (ObsOK.cond h2 (ObsOK.nil))))
theorem f114_p3 (n : Int) (d : Int) (h0 : f114_c0 n d = false) (h1 : f114_c1 n d = false) (h2 : f114_c2 n d = false) : Gives Tryz.prog envFe 0 114 [(.agg #[(.int .i64 (n)), (.int .i64 (d))])] heapN ((.int .i64 (0)), heapN) :=
  Gives.by (n := 1000) (os := [.br 105 26 false, .br 105 26 false, .br 105 26 false]) (os' := []) (by kernel_rfl) (ObsOK.cond h0 (ObsOK.cond h1 (ObsOK.cond h2 (ObsOK.nil))))
def f114_r0 (n : Int) (d : Int) : Int := (cond (f114_c0 n d) (f111_r0 n 1 10000) (cond (f114_c1 n d) (f111_r0 d 1 10000) (cond (f114_c2 n d) (cErr n d) (0))))
theorem f114_gives (n : Int) (d : Int) : Gives Tryz.prog envFe 0 114 [(.agg #[(.int .i64 (n)), (.int .i64 (d))])] heapN ((.int .i64 (f114_r0 n d)), heapN) := by
  cases g0 : f114_c0 n d
  · skip
    cases g1 : f114_c1 n d
    · skip
      cases g2 : f114_c2 n d
      · skip
        simp only [f114_r0, g0, g1, g2, cond_true, cond_false]; exact f114_p3 n d g0 g1 g2
      · skip
        simp only [f114_r0, g0, g1, g2, cond_true, cond_false]; exact f114_p2 n d g0 g1 g2
    · skip
      simp only [f114_r0, g0, g1, cond_true, cond_false]; exact f114_p1 n d g0 g1
  · skip
    simp only [f114_r0, g0, cond_true, cond_false]; exact f114_p0 n d g0
theorem f49a_p0 (n : Int) (d : Int) (h1 : (f48_r0 n 1 10000 != 0) = true) : Gives Tryz.prog envFe 0 49 [(.agg #[(.int .i64 (n)), (.int .i64 (d))])] heapN ((.int .i64 (f48_r0 n 1 10000)), heapN) :=
  Gives.by (n := 1000) (os := [.br 20 30 true, .br 49 28 true]) (os' := []) (by kernel_rfl) (ObsOK.cond h1 (ObsOK.cond h1 (ObsOK.nil)))
def f49a_r0 (n : Int) (d : Int) : Int := (f48_r0 n 1 10000)
theorem f49a_gives (n : Int) (d : Int) (h1 : (f48_r0 n 1 10000 != 0) = true) : Gives Tryz.prog envFe 0 49 [(.agg #[(.int .i64 (n)), (.int .i64 (d))])] heapN ((.int .i64 (f49a_r0 n d)), heapN) := by
  simp only [f49a_r0, cond_true, cond_false]; exact f49a_p0 n d h1
theorem f49b_p0 (n : Int) (d : Int) (h1 : (f48_r0 n 1 10000 != 0) = false) (h2 : (f48_r0 d 1 10000 != 0) = true) : Gives Tryz.prog envFe 0 49 [(.agg #[(.int .i64 (n)), (.int .i64 (d))])] heapN ((.int .i64 (f48_r0 d 1 10000)), heapN) :=
  Gives.by (n := 1000) (os := [.br 20 30 false, .br 20 30 true, .br 49 28 true]) (os' := []) (by kernel_rfl) (ObsOK.cond h1 (ObsOK.cond h2 (ObsOK.cond h2 (ObsOK.nil))))
def f49b_r0 (n : Int) (d : Int) : Int := (f48_r0 d 1 10000)
theorem f49b_gives (n : Int) (d : Int) (h1 : (f48_r0 n 1 10000 != 0) = false) (h2 : (f48_r0 d 1 10000 != 0) = true) : Gives Tryz.prog envFe 0 49 [(.agg #[(.int .i64 (n)), (.int .i64 (d))])] heapN ((.int .i64 (f49b_r0 n d)), heapN) := by
  simp only [f49b_r0, cond_true, cond_false]; exact f49b_p0 n d h1 h2
def f49c_c0 (n : Int) (d : Int) : Bool := !(n == lowN n d && (d == lowD n d && true))
theorem f49c_p0 (n : Int) (d : Int) (h1 : (f48_r0 n 1 10000 != 0) = false) (h2 : (f48_r0 d 1 10000 != 0) = false) (hl : ∀ (lim : Nat) (A : Heap), startsB heapN A = true → Gives Tryz.prog envFe lim 110 [.int .i64 n, .int .i64 d] A (.agg #[.int .i64 (lowN n d), .int .i64 (lowD n d)], A)) (h0 : f49c_c0 n d = true) : Gives Tryz.prog envFe 0 49 [(.agg #[(.int .i64 (n)), (.int .i64 (d))])] heapN ((.int .i64 (1)), heapN) :=
  Gives.by (n := 1000) (os := [.br 20 30 false, .br 20 30 false, .opw 49 21 (.agg #[(.int .i64 (lowN n d)), (.int .i64 (lowD n d))]) [.none, .none, .none, .none, .none, .none, .none, .none, .none, (.some (.cells [(.int .i64 n), (.int .i64 d)] 61 .var)), (.some (.cells [(.int .i64 (f48_r0 n 1 10000)), (.int .i64 (f48_r0 d 1 10000))] 3 .row))], .br 49 44 true]) (os' := []) (by kernel_rfl) (ObsOK.cond h1 (ObsOK.cond h2 (ObsOK.call (hl 11 [.none, .none, .none, .none, .none, .none, .none, .none, .none, (.some (.cells [(.int .i64 n), (.int .i64 d)] 61 .var)), (.some (.cells [(.int .i64 (f48_r0 n 1 10000)), (.int .i64 (f48_r0 d 1 10000))] 3 .row))] (by kernel_rfl)) (ObsOK.cond h0 (ObsOK.nil)))))
theorem f49c_p1 (n : Int) (d : Int) (h1 : (f48_r0 n 1 10000 != 0) = false) (h2 : (f48_r0 d 1 10000 != 0) = false) (hl : ∀ (lim : Nat) (A : Heap), startsB heapN A = true → Gives Tryz.prog envFe lim 110 [.int .i64 n, .int .i64 d] A (.agg #[.int .i64 (lowN n d), .int .i64 (lowD n d)], A)) (h0 : f49c_c0 n d = false) : Gives Tryz.prog envFe 0 49 [(.agg #[(.int .i64 (n)), (.int .i64 (d))])] heapN ((.int .i64 (0)), heapN) :=
  Gives.by (n := 1000) (os := [.br 20 30 false, .br 20 30 false, .opw 49 21 (.agg #[(.int .i64 (lowN n d)), (.int .i64 (lowD n d))]) [.none, .none, .none, .none, .none, .none, .none, .none, .none, (.some (.cells [(.int .i64 n), (.int .i64 d)] 61 .var)), (.some (.cells [(.int .i64 (f48_r0 n 1 10000)), (.int .i64 (f48_r0 d 1 10000))] 3 .row))], .br 49 44 false]) (os' := []) (by kernel_rfl) (ObsOK.cond h1 (ObsOK.cond h2 (ObsOK.call (hl 11 [.none, .none, .none, .none, .none, .none, .none, .none, .none, (.some (.cells [(.int .i64 n), (.int .i64 d)] 61 .var)), (.some (.cells [(.int .i64 (f48_r0 n 1 10000)), (.int .i64 (f48_r0 d 1 10000))] 3 .row))] (by kernel_rfl)) (ObsOK.cond h0 (ObsOK.nil)))))
def f49c_r0 (n : Int) (d : Int) : Int := (cond (f49c_c0 n d) (1) (0))
theorem f49c_gives (n : Int) (d : Int) (h1 : (f48_r0 n 1 10000 != 0) = false) (h2 : (f48_r0 d 1 10000 != 0) = false) (hl : ∀ (lim : Nat) (A : Heap), startsB heapN A = true → Gives Tryz.prog envFe lim 110 [.int .i64 n, .int .i64 d] A (.agg #[.int .i64 (lowN n d), .int .i64 (lowD n d)], A)) : Gives Tryz.prog envFe 0 49 [(.agg #[(.int .i64 (n)), (.int .i64 (d))])] heapN ((.int .i64 (f49c_r0 n d)), heapN) := by
  cases g0 : f49c_c0 n d
  · skip
    simp only [f49c_r0, g0, cond_true, cond_false]; exact f49c_p1 n d h1 h2 hl g0
  · skip
    simp only [f49c_r0, g0, cond_true, cond_false]; exact f49c_p0 n d h1 h2 hl g0
end Go.Proofs.YtkndhhnjgpialaaGreatDoor
/-
Squares of resonances: which are valid.
-/
namespace Go.Proofs.YtkndhhnjgpialaaGreatDoor
open Go Go.Abs
def okT (n d : Int) : Bool := decide ((1 ≤ n ∧ n ≤ 10000) ∧ (1 ≤ d ∧ d ≤ 10000))
def tErr (n d : Int) : Int := if (1 ≤ n ∧ n ≤ 10000) ∧ (1 ≤ d ∧ d ≤ 10000) then (if lowN n d = n ∧ lowD n d = d then 0 else 1) else 3
theorem f114_eq (n d : Int) : f114_r0 n d = tErr n d := by
  unfold f114_r0 f114_c0 f114_c1 f114_c2 tErr
  simp only [f111_eq, nz, cond_dec]
  by_cases h1 : 1 ≤ n ∧ n ≤ 10000
  case neg => rw [if_pos h1, if_neg h1, if_neg (fun h => h1 h.1)]
  rw [if_neg (fun h => h h1)]
  by_cases h2 : 1 ≤ d ∧ d ≤ 10000
  case neg => rw [if_pos h2, if_neg h2, if_neg (fun h => h2 h.2)]
  rw [if_neg (fun h => h h2), if_pos ⟨h1, h2⟩]
  unfold cErr
  rw [if_pos (by omega), bne_eq]
  split <;> simp_all
theorem g114 (n d : Int) : Gives Tryz.prog envFe 0 114 [.agg #[.int .i64 n, .int .i64 d]] heapN (.int .i64 (tErr n d), heapN) := by rw [← f114_eq]; exact f114_gives n d
theorem nz3 {p : Prop} [Decidable p] (h : p) : ((if p then (0 : Int) else 3) != 0) = false := by rw [if_pos h]; rfl
theorem nz3' {p : Prop} [Decidable p] (h : ¬p) : ((if p then (0 : Int) else 3) != 0) = true := by rw [if_neg h]; rfl
theorem two_eq' (x a y b : Int) : (!(a == x && (b == y && true))) = decide ¬(x = a ∧ y = b) := by rw [Bool.eq_iff_iff]; simp; omega
theorem g49 (n d : Int) : Gives Tryz.prog envFe 0 49 [.agg #[.int .i64 n, .int .i64 d]] heapN (.int .i64 (tErr n d), heapN) := by
  unfold tErr
  by_cases h1 : 1 ≤ n ∧ n ≤ 10000
  case neg =>
    rw [if_neg (fun h => h1 h.1)]
    have := f49a_p0 n d (by rw [f48_eq]; exact nz3' h1)
    rw [f48_eq, if_neg h1] at this
    exact this
  by_cases h2 : 1 ≤ d ∧ d ≤ 10000
  case neg =>
    rw [if_neg (fun h => h2 h.2)]
    have := f49b_p0 n d (by rw [f48_eq]; exact nz3 h1) (by rw [f48_eq]; exact nz3' h2)
    rw [f48_eq, if_neg h2] at this
    exact this
  rw [if_pos ⟨h1, h2⟩]
  have ho : okL n d = true := decide_eq_true (by omega)
  have hl : ∀ (lim : Nat) (A : Heap), startsB heapN A = true → Gives Tryz.prog envFe lim 110 [.int .i64 n, .int .i64 d] A (.agg #[.int .i64 (lowN n d), .int .i64 (lowD n d)], A) := fun lim A hs => known_of (show envL.known lim 110 _ A = _ from k110 ho hs)
  have e1 : (f48_r0 n 1 10000 != 0) = false := by rw [f48_eq]; exact nz3 h1
  have e2 : (f48_r0 d 1 10000 != 0) = false := by rw [f48_eq]; exact nz3 h2
  by_cases h : lowN n d = n ∧ lowD n d = d
  · rw [if_pos h]
    exact f49c_p1 n d e1 e2 hl (by unfold f49c_c0; rw [two_eq']; exact decide_eq_false (fun hn => hn h))
  · rw [if_neg h]
    exact f49c_p0 n d e1 e2 hl (by unfold f49c_c0; rw [two_eq']; exact decide_eq_true h)
def B_envFi (f : FuncId) (args : List Value) : Option (Heap × Value) :=
  if f == 114 then
    match args with
    | [.agg ⟨[.int .i64 n, .int .i64 d]⟩] => some (heapN, .int .i64 (tErr n d))
    | _ => none
  else  if f == 49 then
    match args with
    | [.agg ⟨[.int .i64 n, .int .i64 d]⟩] => some (heapN, .int .i64 (tErr n d))
    | _ => none
  else none
noncomputable def envFi : Env := envFe.with (baseKnown B_envFi)
theorem envFi_ok : EnvOK Tryz.prog 9 envFi := env_base prog_ok envFe_ok fun f args H v h => by
  unfold B_envFi at h
  split at h
  · rename_i hf
    have hf : f = 114 := by simpa using hf
    subst hf
    split at h
    · cases h; exact heapN_ok (g114 _ _)
    · cases h
  · skip
    split at h
    · rename_i hf
      have hf : f = 49 := by simpa using hf
      subst hf
      split at h
      · cases h; exact heapN_ok (g49 _ _)
      · cases h
    · skip
      cases h
end Go.Proofs.YtkndhhnjgpialaaGreatDoor
/-
What functions give.
-/
namespace Go.Proofs.YtkndhhnjgpialaaGreatDoor
open Go Go.Abs
def f44_c0 (a : Int) (b : Int) (c : Int) (d : Int) (e : Int) (f : Int) (x : Int) : Bool := dErr a b c d e f != 0
def f44_c1 (a : Int) (b : Int) (c : Int) (d : Int) (e : Int) (f : Int) (x : Int) : Bool := f111_r0 x 0 5000 != 0
def f44_c2 (a : Int) (b : Int) (c : Int) (d : Int) (e : Int) (f : Int) (x : Int) : Bool := f111_r0 (IntKind.i64.wrap (e + x)) 1 5000 != 0
theorem f44_p0 (a : Int) (b : Int) (c : Int) (d : Int) (e : Int) (f : Int) (x : Int) (h0 : f44_c0 a b c d e f x = true) : Gives Tryz.prog envFi 0 44 [(.agg #[(.int .i64 (a)), (.int .i64 (b)), (.int .i64 (c)), (.int .i64 (d)), (.int .i64 (e)), (.int .i64 (f))]), (.int .i64 (x))] heap0 ((.tuple #[(.agg #[(.int .i64 (0)), (.int .i64 (0)), (.int .i64 (0)), (.int .i64 (0)), (.int .i64 (0)), (.int .i64 (0))]), (.int .i64 (dErr a b c d e f))]), heap0) :=
  Gives.by (n := 1000) (os := [.br 105 26 true, .br 44 40 true]) (os' := []) (by kernel_rfl) (ObsOK.cond h0 (ObsOK.cond h0 (ObsOK.nil)))
theorem f44_p1 (a : Int) (b : Int) (c : Int) (d : Int) (e : Int) (f : Int) (x : Int) (h0 : f44_c0 a b c d e f x = false) (h1 : f44_c1 a b c d e f x = true) : Gives Tryz.prog envFi 0 44 [(.agg #[(.int .i64 (a)), (.int .i64 (b)), (.int .i64 (c)), (.int .i64 (d)), (.int .i64 (e)), (.int .i64 (f))]), (.int .i64 (x))] heap0 ((.tuple #[(.agg #[(.int .i64 (0)), (.int .i64 (0)), (.int .i64 (0)), (.int .i64 (0)), (.int .i64 (0)), (.int .i64 (0))]), (.int .i64 (f111_r0 x 0 5000))]), heap0) :=
  Gives.by (n := 1000) (os := [.br 105 26 false, .br 105 26 true, .br 44 40 true]) (os' := []) (by kernel_rfl) (ObsOK.cond h0 (ObsOK.cond h1 (ObsOK.cond h1 (ObsOK.nil))))
theorem f44_p2 (a : Int) (b : Int) (c : Int) (d : Int) (e : Int) (f : Int) (x : Int) (h0 : f44_c0 a b c d e f x = false) (h1 : f44_c1 a b c d e f x = false) (h2 : f44_c2 a b c d e f x = true) : Gives Tryz.prog envFi 0 44 [(.agg #[(.int .i64 (a)), (.int .i64 (b)), (.int .i64 (c)), (.int .i64 (d)), (.int .i64 (e)), (.int .i64 (f))]), (.int .i64 (x))] heap0 ((.tuple #[(.agg #[(.int .i64 (0)), (.int .i64 (0)), (.int .i64 (0)), (.int .i64 (0)), (.int .i64 (0)), (.int .i64 (0))]), (.int .i64 (f111_r0 (IntKind.i64.wrap (e + x)) 1 5000))]), heap0) :=
  Gives.by (n := 1000) (os := [.br 105 26 false, .br 105 26 false, .br 105 26 true, .br 44 40 true]) (os' := []) (by kernel_rfl) (ObsOK.cond h0 (ObsOK.cond h1 (ObsOK.cond h2 (ObsOK.cond h2 (ObsOK.nil)))))
theorem f44_p3 (a : Int) (b : Int) (c : Int) (d : Int) (e : Int) (f : Int) (x : Int) (h0 : f44_c0 a b c d e f x = false) (h1 : f44_c1 a b c d e f x = false) (h2 : f44_c2 a b c d e f x = false) : Gives Tryz.prog envFi 0 44 [(.agg #[(.int .i64 (a)), (.int .i64 (b)), (.int .i64 (c)), (.int .i64 (d)), (.int .i64 (e)), (.int .i64 (f))]), (.int .i64 (x))] heap0 ((.tuple #[(.agg #[(.int .i64 a), (.int .i64 b), (.int .i64 c), (.int .i64 d), (.int .i64 (IntKind.i64.wrap (e + x))), (.int .i64 f)]), (.int .i64 (0))]), heap0) :=
  Gives.by (n := 1000) (os := [.br 105 26 false, .br 105 26 false, .br 105 26 false]) (os' := []) (by kernel_rfl) (ObsOK.cond h0 (ObsOK.cond h1 (ObsOK.cond h2 (ObsOK.nil))))
def f44_r0 (a : Int) (b : Int) (c : Int) (d : Int) (e : Int) (f : Int) (x : Int) : Int := (cond (f44_c0 a b c d e f x) (0) (cond (f44_c1 a b c d e f x) (0) (cond (f44_c2 a b c d e f x) (0) (a))))
def f44_r1 (a : Int) (b : Int) (c : Int) (d : Int) (e : Int) (f : Int) (x : Int) : Int := (cond (f44_c0 a b c d e f x) (0) (cond (f44_c1 a b c d e f x) (0) (cond (f44_c2 a b c d e f x) (0) (b))))
def f44_r2 (a : Int) (b : Int) (c : Int) (d : Int) (e : Int) (f : Int) (x : Int) : Int := (cond (f44_c0 a b c d e f x) (0) (cond (f44_c1 a b c d e f x) (0) (cond (f44_c2 a b c d e f x) (0) (c))))
def f44_r3 (a : Int) (b : Int) (c : Int) (d : Int) (e : Int) (f : Int) (x : Int) : Int := (cond (f44_c0 a b c d e f x) (0) (cond (f44_c1 a b c d e f x) (0) (cond (f44_c2 a b c d e f x) (0) (d))))
def f44_r4 (a : Int) (b : Int) (c : Int) (d : Int) (e : Int) (f : Int) (x : Int) : Int := (cond (f44_c0 a b c d e f x) (0) (cond (f44_c1 a b c d e f x) (0) (cond (f44_c2 a b c d e f x) (0) (IntKind.i64.wrap (e + x)))))
def f44_r5 (a : Int) (b : Int) (c : Int) (d : Int) (e : Int) (f : Int) (x : Int) : Int := (cond (f44_c0 a b c d e f x) (0) (cond (f44_c1 a b c d e f x) (0) (cond (f44_c2 a b c d e f x) (0) (f))))
def f44_r6 (a : Int) (b : Int) (c : Int) (d : Int) (e : Int) (f : Int) (x : Int) : Int := (cond (f44_c0 a b c d e f x) (dErr a b c d e f) (cond (f44_c1 a b c d e f x) (f111_r0 x 0 5000) (cond (f44_c2 a b c d e f x) (f111_r0 (IntKind.i64.wrap (e + x)) 1 5000) (0))))
theorem f44_gives (a : Int) (b : Int) (c : Int) (d : Int) (e : Int) (f : Int) (x : Int) : Gives Tryz.prog envFi 0 44 [(.agg #[(.int .i64 (a)), (.int .i64 (b)), (.int .i64 (c)), (.int .i64 (d)), (.int .i64 (e)), (.int .i64 (f))]), (.int .i64 (x))] heap0 ((.tuple #[(.agg #[(.int .i64 (f44_r0 a b c d e f x)), (.int .i64 (f44_r1 a b c d e f x)), (.int .i64 (f44_r2 a b c d e f x)), (.int .i64 (f44_r3 a b c d e f x)), (.int .i64 (f44_r4 a b c d e f x)), (.int .i64 (f44_r5 a b c d e f x))]), (.int .i64 (f44_r6 a b c d e f x))]), heap0) := by
  cases g0 : f44_c0 a b c d e f x
  · skip
    cases g1 : f44_c1 a b c d e f x
    · skip
      cases g2 : f44_c2 a b c d e f x
      · skip
        simp only [f44_r0, f44_r1, f44_r2, f44_r3, f44_r4, f44_r5, f44_r6, g0, g1, g2, cond_true, cond_false]; exact f44_p3 a b c d e f x g0 g1 g2
      · skip
        simp only [f44_r0, f44_r1, f44_r2, f44_r3, f44_r4, f44_r5, f44_r6, g0, g1, g2, cond_true, cond_false]; exact f44_p2 a b c d e f x g0 g1 g2
    · skip
      simp only [f44_r0, f44_r1, f44_r2, f44_r3, f44_r4, f44_r5, f44_r6, g0, g1, cond_true, cond_false]; exact f44_p1 a b c d e f x g0 g1
  · skip
    simp only [f44_r0, f44_r1, f44_r2, f44_r3, f44_r4, f44_r5, f44_r6, g0, cond_true, cond_false]; exact f44_p0 a b c d e f x g0
def f50_c0 (a : Int) (b : Int) (c : Int) (d : Int) (e : Int) (f : Int) (x : Int) : Bool := decide (IntKind.i64.wrap (e + x) > 5000)
theorem f50_p0 (a : Int) (b : Int) (c : Int) (d : Int) (e : Int) (f : Int) (x : Int) (h0 : f50_c0 a b c d e f x = true) : Gives Tryz.prog envFi 0 50 [(.agg #[(.int .i64 (a)), (.int .i64 (b)), (.int .i64 (c)), (.int .i64 (d)), (.int .i64 (e)), (.int .i64 (f))]), (.int .i64 (x))] heapN ((.tuple #[(.agg #[(.int .i64 (0)), (.int .i64 (0)), (.int .i64 (0)), (.int .i64 (0)), (.int .i64 (0)), (.int .i64 (0))]), (.int .i64 (3))]), heapN) :=
  Gives.by (n := 1000) (os := [.br 50 22 true]) (os' := []) (by kernel_rfl) (ObsOK.cond h0 (ObsOK.nil))
theorem f50_p1 (a : Int) (b : Int) (c : Int) (d : Int) (e : Int) (f : Int) (x : Int) (h0 : f50_c0 a b c d e f x = false) : Gives Tryz.prog envFi 0 50 [(.agg #[(.int .i64 (a)), (.int .i64 (b)), (.int .i64 (c)), (.int .i64 (d)), (.int .i64 (e)), (.int .i64 (f))]), (.int .i64 (x))] heapN ((.tuple #[(.agg #[(.int .i64 a), (.int .i64 b), (.int .i64 c), (.int .i64 d), (.int .i64 (IntKind.i64.wrap (e + x))), (.int .i64 f)]), (.int .i64 (0))]), heapN) :=
  Gives.by (n := 1000) (os := [.br 50 22 false]) (os' := []) (by kernel_rfl) (ObsOK.cond h0 (ObsOK.nil))
def f50_r0 (a : Int) (b : Int) (c : Int) (d : Int) (e : Int) (f : Int) (x : Int) : Int := (cond (f50_c0 a b c d e f x) (0) (a))
def f50_r1 (a : Int) (b : Int) (c : Int) (d : Int) (e : Int) (f : Int) (x : Int) : Int := (cond (f50_c0 a b c d e f x) (0) (b))
def f50_r2 (a : Int) (b : Int) (c : Int) (d : Int) (e : Int) (f : Int) (x : Int) : Int := (cond (f50_c0 a b c d e f x) (0) (c))
def f50_r3 (a : Int) (b : Int) (c : Int) (d : Int) (e : Int) (f : Int) (x : Int) : Int := (cond (f50_c0 a b c d e f x) (0) (d))
def f50_r4 (a : Int) (b : Int) (c : Int) (d : Int) (e : Int) (f : Int) (x : Int) : Int := (cond (f50_c0 a b c d e f x) (0) (IntKind.i64.wrap (e + x)))
def f50_r5 (a : Int) (b : Int) (c : Int) (d : Int) (e : Int) (f : Int) (x : Int) : Int := (cond (f50_c0 a b c d e f x) (0) (f))
def f50_r6 (a : Int) (b : Int) (c : Int) (d : Int) (e : Int) (f : Int) (x : Int) : Int := (cond (f50_c0 a b c d e f x) (3) (0))
theorem f50_gives (a : Int) (b : Int) (c : Int) (d : Int) (e : Int) (f : Int) (x : Int) : Gives Tryz.prog envFi 0 50 [(.agg #[(.int .i64 (a)), (.int .i64 (b)), (.int .i64 (c)), (.int .i64 (d)), (.int .i64 (e)), (.int .i64 (f))]), (.int .i64 (x))] heapN ((.tuple #[(.agg #[(.int .i64 (f50_r0 a b c d e f x)), (.int .i64 (f50_r1 a b c d e f x)), (.int .i64 (f50_r2 a b c d e f x)), (.int .i64 (f50_r3 a b c d e f x)), (.int .i64 (f50_r4 a b c d e f x)), (.int .i64 (f50_r5 a b c d e f x))]), (.int .i64 (f50_r6 a b c d e f x))]), heapN) := by
  cases g0 : f50_c0 a b c d e f x
  · skip
    simp only [f50_r0, f50_r1, f50_r2, f50_r3, f50_r4, f50_r5, f50_r6, g0, cond_true, cond_false]; exact f50_p1 a b c d e f x g0
  · skip
    simp only [f50_r0, f50_r1, f50_r2, f50_r3, f50_r4, f50_r5, f50_r6, g0, cond_true, cond_false]; exact f50_p0 a b c d e f x g0
theorem f45a_p0 (a : Int) (b : Int) (c : Int) (d : Int) (e : Int) (f : Int) (hd : (dErr a b c d e f != 0) = true) : Gives Tryz.prog envFi 0 45 [(.agg #[(.int .i64 (a)), (.int .i64 (b)), (.int .i64 (c)), (.int .i64 (d)), (.int .i64 (e)), (.int .i64 (f))])] heap0 ((.tuple #[(.agg #[(.int .i64 (0)), (.int .i64 (0))]), (.int .i64 (dErr a b c d e f))]), heap0) :=
  Gives.by (n := 1000) (os := [.br 45 18 true]) (os' := []) (by kernel_rfl) (ObsOK.cond hd (ObsOK.nil))
def f45a_r2 (a : Int) (b : Int) (c : Int) (d : Int) (e : Int) (f : Int) : Int := (dErr a b c d e f)
theorem f45a_gives (a : Int) (b : Int) (c : Int) (d : Int) (e : Int) (f : Int) (hd : (dErr a b c d e f != 0) = true) : Gives Tryz.prog envFi 0 45 [(.agg #[(.int .i64 (a)), (.int .i64 (b)), (.int .i64 (c)), (.int .i64 (d)), (.int .i64 (e)), (.int .i64 (f))])] heap0 ((.tuple #[(.agg #[(.int .i64 (0)), (.int .i64 (0))]), (.int .i64 (f45a_r2 a b c d e f))]), heap0) := by
  simp only [f45a_r2, cond_true, cond_false]; exact f45a_p0 a b c d e f hd
theorem f45b_p0 (a : Int) (b : Int) (c : Int) (d : Int) (e : Int) (f : Int) (hd : (dErr a b c d e f != 0) = false) (hl : ∀ (lim : Nat) (A : Heap), startsB heapN A = true → Gives Tryz.prog envFi lim 107 [.agg #[.int .i64 (e), .int .i64 (d)]] A (.agg #[.int .i64 (lowN (e) (d)), .int .i64 (lowD (e) (d))], A)) : Gives Tryz.prog envFi 0 45 [(.agg #[(.int .i64 (a)), (.int .i64 (b)), (.int .i64 (c)), (.int .i64 (d)), (.int .i64 (e)), (.int .i64 (f))])] heap0 ((.tuple #[(.agg #[(.int .i64 (lowN e d)), (.int .i64 (lowD e d))]), (.int .i64 (0))]), heap0) :=
  Gives.by (n := 1000) (os := [.br 45 18 false, .opw 45 17 (.agg #[(.int .i64 (lowN e d)), (.int .i64 (lowD e d))]) (H [(.some (.cells [(.int .i64 a), (.int .i64 b), (.int .i64 c), (.int .i64 d), (.int .i64 e), (.int .i64 f)] 30 .var)), (.some (.cells [(.int .i64 (0)), (.int .i64 (0))] 61 .var))])]) (os' := []) (by kernel_rfl) (ObsOK.cond hd (ObsOK.call (hl 9 (H [(.some (.cells [(.int .i64 a), (.int .i64 b), (.int .i64 c), (.int .i64 d), (.int .i64 e), (.int .i64 f)] 30 .var)), (.some (.cells [(.int .i64 (0)), (.int .i64 (0))] 61 .var))]) (by kernel_rfl)) (ObsOK.nil)))
def f45b_r0 (a : Int) (b : Int) (c : Int) (d : Int) (e : Int) (f : Int) : Int := (lowN e d)
def f45b_r1 (a : Int) (b : Int) (c : Int) (d : Int) (e : Int) (f : Int) : Int := (lowD e d)
theorem f45b_gives (a : Int) (b : Int) (c : Int) (d : Int) (e : Int) (f : Int) (hd : (dErr a b c d e f != 0) = false) (hl : ∀ (lim : Nat) (A : Heap), startsB heapN A = true → Gives Tryz.prog envFi lim 107 [.agg #[.int .i64 (e), .int .i64 (d)]] A (.agg #[.int .i64 (lowN (e) (d)), .int .i64 (lowD (e) (d))], A)) : Gives Tryz.prog envFi 0 45 [(.agg #[(.int .i64 (a)), (.int .i64 (b)), (.int .i64 (c)), (.int .i64 (d)), (.int .i64 (e)), (.int .i64 (f))])] heap0 ((.tuple #[(.agg #[(.int .i64 (f45b_r0 a b c d e f)), (.int .i64 (f45b_r1 a b c d e f))]), (.int .i64 (0))]), heap0) := by
  simp only [f45b_r0, f45b_r1, cond_true, cond_false]; exact f45b_p0 a b c d e f hd hl
theorem f51_p0 (a : Int) (b : Int) (c : Int) (d : Int) (e : Int) (f : Int) (hl : ∀ (lim : Nat) (A : Heap), startsB heapN A = true → Gives Tryz.prog envFi lim 110 [.int .i64 (e), .int .i64 (d)] A (.agg #[.int .i64 (lowN (e) (d)), .int .i64 (lowD (e) (d))], A)) : Gives Tryz.prog envFi 0 51 [(.agg #[(.int .i64 (a)), (.int .i64 (b)), (.int .i64 (c)), (.int .i64 (d)), (.int .i64 (e)), (.int .i64 (f))])] heapN ((.agg #[(.int .i64 (lowN e d)), (.int .i64 (lowD e d))]), heapN) :=
  Gives.by (n := 1000) (os := [.opw 51 8 (.agg #[(.int .i64 (lowN e d)), (.int .i64 (lowD e d))]) [.none, .none, .none, .none, .none, .none, .none, .none, .none, (.some (.cells [(.int .i64 a), (.int .i64 b), (.int .i64 c), (.int .i64 d), (.int .i64 e), (.int .i64 f)] 23 .var)), (.some (.cells [(.int .i64 (0)), (.int .i64 (0))] 61 .var))]]) (os' := []) (by kernel_rfl) (ObsOK.call (hl 9 [.none, .none, .none, .none, .none, .none, .none, .none, .none, (.some (.cells [(.int .i64 a), (.int .i64 b), (.int .i64 c), (.int .i64 d), (.int .i64 e), (.int .i64 f)] 23 .var)), (.some (.cells [(.int .i64 (0)), (.int .i64 (0))] 61 .var))] (by kernel_rfl)) (ObsOK.nil))
def f51_r0 (a : Int) (b : Int) (c : Int) (d : Int) (e : Int) (f : Int) : Int := (lowN e d)
def f51_r1 (a : Int) (b : Int) (c : Int) (d : Int) (e : Int) (f : Int) : Int := (lowD e d)
theorem f51_gives (a : Int) (b : Int) (c : Int) (d : Int) (e : Int) (f : Int) (hl : ∀ (lim : Nat) (A : Heap), startsB heapN A = true → Gives Tryz.prog envFi lim 110 [.int .i64 (e), .int .i64 (d)] A (.agg #[.int .i64 (lowN (e) (d)), .int .i64 (lowD (e) (d))], A)) : Gives Tryz.prog envFi 0 51 [(.agg #[(.int .i64 (a)), (.int .i64 (b)), (.int .i64 (c)), (.int .i64 (d)), (.int .i64 (e)), (.int .i64 (f))])] heapN ((.agg #[(.int .i64 (f51_r0 a b c d e f)), (.int .i64 (f51_r1 a b c d e f))]), heapN) := by
  simp only [f51_r0, f51_r1, cond_true, cond_false]; exact f51_p0 a b c d e f hl
theorem f113_p0 (p : Int) (n : Int) (d : Int) (hl : ∀ (lim : Nat) (A : Heap), startsB heapN A = true → Gives Tryz.prog envFi lim 107 [.agg #[.int .i64 (IntKind.i64.wrap (IntKind.i64.wrap (p * n) * n)), .int .i64 (IntKind.i64.wrap (d * d))]] A (.agg #[.int .i64 (lowN (IntKind.i64.wrap (IntKind.i64.wrap (p * n) * n)) (IntKind.i64.wrap (d * d))), .int .i64 (lowD (IntKind.i64.wrap (IntKind.i64.wrap (p * n) * n)) (IntKind.i64.wrap (d * d)))], A)) : Gives Tryz.prog envFi 0 113 [(.int .i64 (p)), (.int .i64 (n)), (.int .i64 (d))] heapN ((.agg #[(.int .i64 (lowN (IntKind.i64.wrap (IntKind.i64.wrap (p * n) * n)) (IntKind.i64.wrap (d * d)))), (.int .i64 (lowD (IntKind.i64.wrap (IntKind.i64.wrap (p * n) * n)) (IntKind.i64.wrap (d * d))))]), heapN) :=
  Gives.by (n := 1000) (os := [.opw 113 17 (.agg #[(.int .i64 (lowN (IntKind.i64.wrap (IntKind.i64.wrap (p * n) * n)) (IntKind.i64.wrap (d * d)))), (.int .i64 (lowD (IntKind.i64.wrap (IntKind.i64.wrap (p * n) * n)) (IntKind.i64.wrap (d * d))))]) [.none, .none, .none, .none, .none, .none, .none, .none, .none, (.some (.cells [(.int .i64 (0)), (.int .i64 (0))] 61 .var))]]) (os' := []) (by kernel_rfl) (ObsOK.call (hl 9 [.none, .none, .none, .none, .none, .none, .none, .none, .none, (.some (.cells [(.int .i64 (0)), (.int .i64 (0))] 61 .var))] (by kernel_rfl)) (ObsOK.nil))
def f113_r0 (p : Int) (n : Int) (d : Int) : Int := (lowN (IntKind.i64.wrap (IntKind.i64.wrap (p * n) * n)) (IntKind.i64.wrap (d * d)))
def f113_r1 (p : Int) (n : Int) (d : Int) : Int := (lowD (IntKind.i64.wrap (IntKind.i64.wrap (p * n) * n)) (IntKind.i64.wrap (d * d)))
theorem f113_gives (p : Int) (n : Int) (d : Int) (hl : ∀ (lim : Nat) (A : Heap), startsB heapN A = true → Gives Tryz.prog envFi lim 107 [.agg #[.int .i64 (IntKind.i64.wrap (IntKind.i64.wrap (p * n) * n)), .int .i64 (IntKind.i64.wrap (d * d))]] A (.agg #[.int .i64 (lowN (IntKind.i64.wrap (IntKind.i64.wrap (p * n) * n)) (IntKind.i64.wrap (d * d))), .int .i64 (lowD (IntKind.i64.wrap (IntKind.i64.wrap (p * n) * n)) (IntKind.i64.wrap (d * d)))], A)) : Gives Tryz.prog envFi 0 113 [(.int .i64 (p)), (.int .i64 (n)), (.int .i64 (d))] heapN ((.agg #[(.int .i64 (f113_r0 p n d)), (.int .i64 (f113_r1 p n d))]), heapN) := by
  simp only [f113_r0, f113_r1, cond_true, cond_false]; exact f113_p0 p n d hl
def B_envFj (f : FuncId) (args : List Value) : Option (Heap × Value) :=
  if f == 44 then
    match args with
    | [(.agg ⟨[(.int .i64 (a)), (.int .i64 (b)), (.int .i64 (c)), (.int .i64 (d)), (.int .i64 (e)), (.int .i64 (f))]⟩), (.int .i64 (x))] => some (heap0, (.tuple #[(.agg #[(.int .i64 (f44_r0 a b c d e f x)), (.int .i64 (f44_r1 a b c d e f x)), (.int .i64 (f44_r2 a b c d e f x)), (.int .i64 (f44_r3 a b c d e f x)), (.int .i64 (f44_r4 a b c d e f x)), (.int .i64 (f44_r5 a b c d e f x))]), (.int .i64 (f44_r6 a b c d e f x))]))
    | _ => none
  else  if f == 50 then
    match args with
    | [(.agg ⟨[(.int .i64 (a)), (.int .i64 (b)), (.int .i64 (c)), (.int .i64 (d)), (.int .i64 (e)), (.int .i64 (f))]⟩), (.int .i64 (x))] => some (heapN, (.tuple #[(.agg #[(.int .i64 (f50_r0 a b c d e f x)), (.int .i64 (f50_r1 a b c d e f x)), (.int .i64 (f50_r2 a b c d e f x)), (.int .i64 (f50_r3 a b c d e f x)), (.int .i64 (f50_r4 a b c d e f x)), (.int .i64 (f50_r5 a b c d e f x))]), (.int .i64 (f50_r6 a b c d e f x))]))
    | _ => none
  else none
noncomputable def envFj : Env := envFi.with (baseKnown B_envFj)
theorem envFj_ok : EnvOK Tryz.prog 9 envFj := env_base prog_ok envFi_ok fun f args H v h => by
  unfold B_envFj at h
  split at h
  · rename_i hf
    have hf : f = 44 := by simpa using hf
    subst hf
    split at h
    · cases h; exact heap0_ok (f44_gives _ _ _ _ _ _ _)
    · cases h
  · skip
    split at h
    · rename_i hf
      have hf : f = 50 := by simpa using hf
      subst hf
      split at h
      · cases h; exact heapN_ok (f50_gives _ _ _ _ _ _ _)
      · cases h
    · skip
      cases h
end Go.Proofs.YtkndhhnjgpialaaGreatDoor
/-
Resonances, and ratios with squares.
-/
namespace Go.Proofs.YtkndhhnjgpialaaGreatDoor
open Go Go.Abs
theorem low107 {p q : Int} (h : okL p q = true) : ∀ (lim : Nat) (A : Heap), startsB heapN A = true → Gives Tryz.prog envFi lim 107 [.agg #[.int .i64 p, .int .i64 q]] A (.agg #[.int .i64 (lowN p q), .int .i64 (lowD p q)], A) := fun lim A hs => known_of (show envL.known lim 107 _ A = _ from k107 h hs)
theorem low110 {p q : Int} (h : okL p q = true) : ∀ (lim : Nat) (A : Heap), startsB heapN A = true → Gives Tryz.prog envFi lim 110 [.int .i64 p, .int .i64 q] A (.agg #[.int .i64 (lowN p q), .int .i64 (lowD p q)], A) := fun lim A hs => known_of (show envL.known lim 110 _ A = _ from k110 h hs)
theorem dErr_zero {a b c d e f : Int} (h : (dErr a b c d e f != 0) = false) : (1 ≤ a ∧ a ≤ 50) ∧ (0 ≤ b ∧ b ≤ 10) ∧ (1 ≤ c ∧ c ≤ 20) ∧ (1 ≤ d ∧ d ≤ 100) ∧ (1 ≤ e ∧ e ≤ 5000) ∧ (1 ≤ f ∧ f ≤ 100) := by
  unfold dErr at h
  cases ho : okD a b c d e f
  · rw [ho] at h; cases h
  · have := of_decide_eq_true ho; omega
theorem dErr_at {a b c d e f : Int} (h : (dErr a b c d e f != 0) = false) : dErr a b c d e f = 0 := by simpa using h
theorem okL_re {a b c d e f : Int} (h : (dErr a b c d e f != 0) = false) : okL e d = true := by
  have := dErr_zero h
  exact decide_eq_true (by omega)
def reN (a b c d e f : Int) : Int := cond (dErr a b c d e f != 0) 0 (lowN e d)
def reD (a b c d e f : Int) : Int := cond (dErr a b c d e f != 0) 0 (lowD e d)
theorem g45 (a b c d e f : Int) : Gives Tryz.prog envFi 0 45 [.agg #[.int .i64 a, .int .i64 b, .int .i64 c, .int .i64 d, .int .i64 e, .int .i64 f]] heap0 (.tuple #[.agg #[.int .i64 (reN a b c d e f), .int .i64 (reD a b c d e f)], .int .i64 (dErr a b c d e f)], heap0) := by
  unfold reN reD
  cases hd : dErr a b c d e f != 0
  · rw [dErr_at hd]; exact f45b_p0 a b c d e f hd (low107 (okL_re hd))
  · exact f45a_p0 a b c d e f hd
theorem g51 (a b c d e f : Int) (hd : (dErr a b c d e f != 0) = false) : Gives Tryz.prog envFi 0 51 [.agg #[.int .i64 a, .int .i64 b, .int .i64 c, .int .i64 d, .int .i64 e, .int .i64 f]] heapN (.agg #[.int .i64 (lowN e d), .int .i64 (lowD e d)], heapN) :=
  f51_p0 a b c d e f (low110 (okL_re hd))
/-- A product times the square of n / d. -/
def sqP (p n : Int) : Int := IntKind.i64.wrap (IntKind.i64.wrap (p * n) * n)
def sqQ (d : Int) : Int := IntKind.i64.wrap (d * d)
theorem g113 (p n d : Int) (h : okL (sqP p n) (sqQ d) = true) : Gives Tryz.prog envFi 0 113 [.int .i64 p, .int .i64 n, .int .i64 d] heapN (.agg #[.int .i64 (lowN (sqP p n) (sqQ d)), .int .i64 (lowD (sqP p n) (sqQ d))], heapN) :=
  f113_p0 p n d (low107 h)
def B_envFk (f : FuncId) (args : List Value) : Option (Heap × Value) :=
  if f == 44 then
    match args with
    | [.agg ⟨[.int .i64 a, .int .i64 b, .int .i64 c, .int .i64 d, .int .i64 e, .int .i64 f]⟩, .int .i64 x] => some (heap0, (.tuple #[(.agg #[(.int .i64 (f44_r0 a b c d e f x)), (.int .i64 (f44_r1 a b c d e f x)), (.int .i64 (f44_r2 a b c d e f x)), (.int .i64 (f44_r3 a b c d e f x)), (.int .i64 (f44_r4 a b c d e f x)), (.int .i64 (f44_r5 a b c d e f x))]), (.int .i64 (f44_r6 a b c d e f x))]))
    | _ => none
  else  if f == 50 then
    match args with
    | [.agg ⟨[.int .i64 a, .int .i64 b, .int .i64 c, .int .i64 d, .int .i64 e, .int .i64 f]⟩, .int .i64 x] => some (heapN, (.tuple #[(.agg #[(.int .i64 (f50_r0 a b c d e f x)), (.int .i64 (f50_r1 a b c d e f x)), (.int .i64 (f50_r2 a b c d e f x)), (.int .i64 (f50_r3 a b c d e f x)), (.int .i64 (f50_r4 a b c d e f x)), (.int .i64 (f50_r5 a b c d e f x))]), (.int .i64 (f50_r6 a b c d e f x))]))
    | _ => none
  else  if f == 45 then
    match args with
    | [.agg ⟨[.int .i64 a, .int .i64 b, .int .i64 c, .int .i64 d, .int .i64 e, .int .i64 f]⟩] => some (heap0, .tuple #[.agg #[.int .i64 (reN a b c d e f), .int .i64 (reD a b c d e f)], .int .i64 (dErr a b c d e f)])
    | _ => none
  else  if f == 51 then
    match args with
    | [.agg ⟨[.int .i64 a, .int .i64 b, .int .i64 c, .int .i64 d, .int .i64 e, .int .i64 f]⟩] => if (dErr a b c d e f != 0) = false then some (heapN, .agg #[.int .i64 (lowN e d), .int .i64 (lowD e d)]) else none
    | _ => none
  else  if f == 113 then
    match args with
    | [.int .i64 p, .int .i64 n, .int .i64 d] => if okL (sqP p n) (sqQ d) = true then some (heapN, .agg #[.int .i64 (lowN (sqP p n) (sqQ d)), .int .i64 (lowD (sqP p n) (sqQ d))]) else none
    | _ => none
  else none
noncomputable def envFk : Env := envFi.with (baseKnown B_envFk)
theorem envFk_ok : EnvOK Tryz.prog 9 envFk := env_base prog_ok envFi_ok fun f args H v h => by
  unfold B_envFk at h
  split at h
  · rename_i hf
    have hf : f = 44 := by simpa using hf
    subst hf
    split at h
    · cases h; exact heap0_ok (f44_gives _ _ _ _ _ _ _)
    · cases h
  · skip
    split at h
    · rename_i hf
      have hf : f = 50 := by simpa using hf
      subst hf
      split at h
      · cases h; exact heapN_ok (f50_gives _ _ _ _ _ _ _)
      · cases h
    · skip
      split at h
      · rename_i hf
        have hf : f = 45 := by simpa using hf
        subst hf
        split at h
        · cases h; exact heap0_ok (g45 _ _ _ _ _ _)
        · cases h
      · skip
        split at h
        · rename_i hf
          have hf : f = 51 := by simpa using hf
          subst hf
          split at h
          · split at h
            · rename_i hl; cases h; exact heapN_ok (g51 _ _ _ _ _ _ hl)
            · cases h
          · cases h
        · skip
          split at h
          · rename_i hf
            have hf : f = 113 := by simpa using hf
            subst hf
            split at h
            · split at h
              · rename_i hl; cases h; exact heapN_ok (g113 _ _ _ hl)
              · cases h
            · cases h
          · skip
            cases h
end Go.Proofs.YtkndhhnjgpialaaGreatDoor
/-
What functions give.
-/
namespace Go.Proofs.YtkndhhnjgpialaaGreatDoor
open Go Go.Abs
theorem f46a_p0 (a : Int) (b : Int) (c : Int) (d : Int) (e : Int) (f : Int) (hd : (dErr a b c d e f != 0) = true) : Gives Tryz.prog envFk 0 46 [(.agg #[(.int .i64 (a)), (.int .i64 (b)), (.int .i64 (c)), (.int .i64 (d)), (.int .i64 (e)), (.int .i64 (f))])] heap0 ((.tuple #[(.agg #[(.int .i64 (0)), (.int .i64 (0)), (.int .i64 (0)), (.int .i64 (0)), (.int .i64 (0)), (.int .i64 (0))]), (.int .i64 (dErr a b c d e f))]), heap0) :=
  Gives.by (n := 1000) (os := [.br 46 20 true]) (os' := []) (by kernel_rfl) (ObsOK.cond hd (ObsOK.nil))
def f46a_r6 (a : Int) (b : Int) (c : Int) (d : Int) (e : Int) (f : Int) : Int := (dErr a b c d e f)
theorem f46a_gives (a : Int) (b : Int) (c : Int) (d : Int) (e : Int) (f : Int) (hd : (dErr a b c d e f != 0) = true) : Gives Tryz.prog envFk 0 46 [(.agg #[(.int .i64 (a)), (.int .i64 (b)), (.int .i64 (c)), (.int .i64 (d)), (.int .i64 (e)), (.int .i64 (f))])] heap0 ((.tuple #[(.agg #[(.int .i64 (0)), (.int .i64 (0)), (.int .i64 (0)), (.int .i64 (0)), (.int .i64 (0)), (.int .i64 (0))]), (.int .i64 (f46a_r6 a b c d e f))]), heap0) := by
  simp only [f46a_r6, cond_true, cond_false]; exact f46a_p0 a b c d e f hd
theorem f46b_p0 (a : Int) (b : Int) (c : Int) (d : Int) (e : Int) (f : Int) (hd : (dErr a b c d e f != 0) = false) (h1 : ∀ (lim : Nat) (A : Heap), startsB heapN A = true → Gives Tryz.prog envFk lim 113 [.int .i64 (IntKind.i64.wrap (e * d)), .int .i64 (1), .int .i64 (f)] A (.agg #[.int .i64 (lowN (sqP (IntKind.i64.wrap (e * d)) (1)) (sqQ (f))), .int .i64 (lowD (sqP (IntKind.i64.wrap (e * d)) (1)) (sqQ (f)))], A)) (h2 : ∀ (lim : Nat) (A : Heap), startsB heapN A = true → Gives Tryz.prog envFk lim 113 [.int .i64 (IntKind.i64.wrap (e * d)), .int .i64 (a), .int .i64 (IntKind.i64.wrap (c * c))] A (.agg #[.int .i64 (lowN (sqP (IntKind.i64.wrap (e * d)) (a)) (sqQ (IntKind.i64.wrap (c * c)))), .int .i64 (lowD (sqP (IntKind.i64.wrap (e * d)) (a)) (sqQ (IntKind.i64.wrap (c * c))))], A)) (h3 : ∀ (lim : Nat) (A : Heap), startsB heapN A = true → Gives Tryz.prog envFk lim 113 [.int .i64 (IntKind.i64.wrap (e * d)), .int .i64 (a), .int .i64 (IntKind.i64.wrap (IntKind.i64.wrap (f * a) + IntKind.i64.wrap (c * c)))] A (.agg #[.int .i64 (lowN (sqP (IntKind.i64.wrap (e * d)) (a)) (sqQ (IntKind.i64.wrap (IntKind.i64.wrap (f * a) + IntKind.i64.wrap (c * c))))), .int .i64 (lowD (sqP (IntKind.i64.wrap (e * d)) (a)) (sqQ (IntKind.i64.wrap (IntKind.i64.wrap (f * a) + IntKind.i64.wrap (c * c)))))], A)) : Gives Tryz.prog envFk 0 46 [(.agg #[(.int .i64 (a)), (.int .i64 (b)), (.int .i64 (c)), (.int .i64 (d)), (.int .i64 (e)), (.int .i64 (f))])] heap0 ((.tuple #[(.agg #[(.int .i64 (lowN (sqP (IntKind.i64.wrap (e * d)) 1) (sqQ f))), (.int .i64 (lowD (sqP (IntKind.i64.wrap (e * d)) 1) (sqQ f))), (.int .i64 (lowN (sqP (IntKind.i64.wrap (e * d)) a) (sqQ (IntKind.i64.wrap (c * c))))), (.int .i64 (lowD (sqP (IntKind.i64.wrap (e * d)) a) (sqQ (IntKind.i64.wrap (c * c))))), (.int .i64 (lowN (sqP (IntKind.i64.wrap (e * d)) a) (sqQ (IntKind.i64.wrap (IntKind.i64.wrap (f * a) + IntKind.i64.wrap (c * c)))))), (.int .i64 (lowD (sqP (IntKind.i64.wrap (e * d)) a) (sqQ (IntKind.i64.wrap (IntKind.i64.wrap (f * a) + IntKind.i64.wrap (c * c))))))]), (.int .i64 (0))]), heap0) :=
  Gives.by (n := 1000) (os := [.br 46 20 false, .opw 46 21 (.agg #[(.int .i64 (lowN (sqP (IntKind.i64.wrap (e * d)) 1) (sqQ f))), (.int .i64 (lowD (sqP (IntKind.i64.wrap (e * d)) 1) (sqQ f)))]) (H [(.some (.cells [(.int .i64 a), (.int .i64 b), (.int .i64 c), (.int .i64 d), (.int .i64 e), (.int .i64 f)] 30 .var)), (.some (.cells [(.int .i64 (0)), (.int .i64 (0)), (.int .i64 (0)), (.int .i64 (0)), (.int .i64 (0)), (.int .i64 (0))] 77 .var))]), .opw 46 30 (.agg #[(.int .i64 (lowN (sqP (IntKind.i64.wrap (e * d)) a) (sqQ (IntKind.i64.wrap (c * c))))), (.int .i64 (lowD (sqP (IntKind.i64.wrap (e * d)) a) (sqQ (IntKind.i64.wrap (c * c)))))]) (H [(.some (.cells [(.int .i64 a), (.int .i64 b), (.int .i64 c), (.int .i64 d), (.int .i64 e), (.int .i64 f)] 30 .var)), (.some (.cells [(.int .i64 (0)), (.int .i64 (0)), (.int .i64 (0)), (.int .i64 (0)), (.int .i64 (0)), (.int .i64 (0))] 77 .var))]), .opw 46 45 (.agg #[(.int .i64 (lowN (sqP (IntKind.i64.wrap (e * d)) a) (sqQ (IntKind.i64.wrap (IntKind.i64.wrap (f * a) + IntKind.i64.wrap (c * c)))))), (.int .i64 (lowD (sqP (IntKind.i64.wrap (e * d)) a) (sqQ (IntKind.i64.wrap (IntKind.i64.wrap (f * a) + IntKind.i64.wrap (c * c))))))]) (H [(.some (.cells [(.int .i64 a), (.int .i64 b), (.int .i64 c), (.int .i64 d), (.int .i64 e), (.int .i64 f)] 30 .var)), (.some (.cells [(.int .i64 (0)), (.int .i64 (0)), (.int .i64 (0)), (.int .i64 (0)), (.int .i64 (0)), (.int .i64 (0))] 77 .var))])]) (os' := []) (by kernel_rfl) (ObsOK.cond hd (ObsOK.call (h1 11 (H [(.some (.cells [(.int .i64 a), (.int .i64 b), (.int .i64 c), (.int .i64 d), (.int .i64 e), (.int .i64 f)] 30 .var)), (.some (.cells [(.int .i64 (0)), (.int .i64 (0)), (.int .i64 (0)), (.int .i64 (0)), (.int .i64 (0)), (.int .i64 (0))] 77 .var))]) (by kernel_rfl)) (ObsOK.call (h2 11 (H [(.some (.cells [(.int .i64 a), (.int .i64 b), (.int .i64 c), (.int .i64 d), (.int .i64 e), (.int .i64 f)] 30 .var)), (.some (.cells [(.int .i64 (0)), (.int .i64 (0)), (.int .i64 (0)), (.int .i64 (0)), (.int .i64 (0)), (.int .i64 (0))] 77 .var))]) (by kernel_rfl)) (ObsOK.call (h3 11 (H [(.some (.cells [(.int .i64 a), (.int .i64 b), (.int .i64 c), (.int .i64 d), (.int .i64 e), (.int .i64 f)] 30 .var)), (.some (.cells [(.int .i64 (0)), (.int .i64 (0)), (.int .i64 (0)), (.int .i64 (0)), (.int .i64 (0)), (.int .i64 (0))] 77 .var))]) (by kernel_rfl)) (ObsOK.nil)))))
def f46b_r0 (a : Int) (b : Int) (c : Int) (d : Int) (e : Int) (f : Int) : Int := (lowN (sqP (IntKind.i64.wrap (e * d)) 1) (sqQ f))
def f46b_r1 (a : Int) (b : Int) (c : Int) (d : Int) (e : Int) (f : Int) : Int := (lowD (sqP (IntKind.i64.wrap (e * d)) 1) (sqQ f))
def f46b_r2 (a : Int) (b : Int) (c : Int) (d : Int) (e : Int) (f : Int) : Int := (lowN (sqP (IntKind.i64.wrap (e * d)) a) (sqQ (IntKind.i64.wrap (c * c))))
def f46b_r3 (a : Int) (b : Int) (c : Int) (d : Int) (e : Int) (f : Int) : Int := (lowD (sqP (IntKind.i64.wrap (e * d)) a) (sqQ (IntKind.i64.wrap (c * c))))
def f46b_r4 (a : Int) (b : Int) (c : Int) (d : Int) (e : Int) (f : Int) : Int := (lowN (sqP (IntKind.i64.wrap (e * d)) a) (sqQ (IntKind.i64.wrap (IntKind.i64.wrap (f * a) + IntKind.i64.wrap (c * c)))))
def f46b_r5 (a : Int) (b : Int) (c : Int) (d : Int) (e : Int) (f : Int) : Int := (lowD (sqP (IntKind.i64.wrap (e * d)) a) (sqQ (IntKind.i64.wrap (IntKind.i64.wrap (f * a) + IntKind.i64.wrap (c * c)))))
theorem f46b_gives (a : Int) (b : Int) (c : Int) (d : Int) (e : Int) (f : Int) (hd : (dErr a b c d e f != 0) = false) (h1 : ∀ (lim : Nat) (A : Heap), startsB heapN A = true → Gives Tryz.prog envFk lim 113 [.int .i64 (IntKind.i64.wrap (e * d)), .int .i64 (1), .int .i64 (f)] A (.agg #[.int .i64 (lowN (sqP (IntKind.i64.wrap (e * d)) (1)) (sqQ (f))), .int .i64 (lowD (sqP (IntKind.i64.wrap (e * d)) (1)) (sqQ (f)))], A)) (h2 : ∀ (lim : Nat) (A : Heap), startsB heapN A = true → Gives Tryz.prog envFk lim 113 [.int .i64 (IntKind.i64.wrap (e * d)), .int .i64 (a), .int .i64 (IntKind.i64.wrap (c * c))] A (.agg #[.int .i64 (lowN (sqP (IntKind.i64.wrap (e * d)) (a)) (sqQ (IntKind.i64.wrap (c * c)))), .int .i64 (lowD (sqP (IntKind.i64.wrap (e * d)) (a)) (sqQ (IntKind.i64.wrap (c * c))))], A)) (h3 : ∀ (lim : Nat) (A : Heap), startsB heapN A = true → Gives Tryz.prog envFk lim 113 [.int .i64 (IntKind.i64.wrap (e * d)), .int .i64 (a), .int .i64 (IntKind.i64.wrap (IntKind.i64.wrap (f * a) + IntKind.i64.wrap (c * c)))] A (.agg #[.int .i64 (lowN (sqP (IntKind.i64.wrap (e * d)) (a)) (sqQ (IntKind.i64.wrap (IntKind.i64.wrap (f * a) + IntKind.i64.wrap (c * c))))), .int .i64 (lowD (sqP (IntKind.i64.wrap (e * d)) (a)) (sqQ (IntKind.i64.wrap (IntKind.i64.wrap (f * a) + IntKind.i64.wrap (c * c)))))], A)) : Gives Tryz.prog envFk 0 46 [(.agg #[(.int .i64 (a)), (.int .i64 (b)), (.int .i64 (c)), (.int .i64 (d)), (.int .i64 (e)), (.int .i64 (f))])] heap0 ((.tuple #[(.agg #[(.int .i64 (f46b_r0 a b c d e f)), (.int .i64 (f46b_r1 a b c d e f)), (.int .i64 (f46b_r2 a b c d e f)), (.int .i64 (f46b_r3 a b c d e f)), (.int .i64 (f46b_r4 a b c d e f)), (.int .i64 (f46b_r5 a b c d e f))]), (.int .i64 (0))]), heap0) := by
  simp only [f46b_r0, f46b_r1, f46b_r2, f46b_r3, f46b_r4, f46b_r5, cond_true, cond_false]; exact f46b_p0 a b c d e f hd h1 h2 h3
theorem f52_p0 (a : Int) (b : Int) (c : Int) (d : Int) (e : Int) (f : Int) (h1 : ∀ (lim : Nat) (A : Heap), startsB heapN A = true → Gives Tryz.prog envFk lim 110 [.int .i64 (IntKind.i64.wrap (e * d)), .int .i64 (IntKind.i64.wrap (f * f))] A (.agg #[.int .i64 (lowN (IntKind.i64.wrap (e * d)) (IntKind.i64.wrap (f * f))), .int .i64 (lowD (IntKind.i64.wrap (e * d)) (IntKind.i64.wrap (f * f)))], A)) (h2 : ∀ (lim : Nat) (A : Heap), startsB heapN A = true → Gives Tryz.prog envFk lim 110 [.int .i64 (IntKind.i64.wrap (IntKind.i64.wrap (IntKind.i64.wrap (e * d) * a) * a)), .int .i64 (IntKind.i64.wrap (IntKind.i64.wrap (c * c) * IntKind.i64.wrap (c * c)))] A (.agg #[.int .i64 (lowN (IntKind.i64.wrap (IntKind.i64.wrap (IntKind.i64.wrap (e * d) * a) * a)) (IntKind.i64.wrap (IntKind.i64.wrap (c * c) * IntKind.i64.wrap (c * c)))), .int .i64 (lowD (IntKind.i64.wrap (IntKind.i64.wrap (IntKind.i64.wrap (e * d) * a) * a)) (IntKind.i64.wrap (IntKind.i64.wrap (c * c) * IntKind.i64.wrap (c * c))))], A)) (h3 : ∀ (lim : Nat) (A : Heap), startsB heapN A = true → Gives Tryz.prog envFk lim 110 [.int .i64 (IntKind.i64.wrap (IntKind.i64.wrap (IntKind.i64.wrap (e * d) * a) * a)), .int .i64 (IntKind.i64.wrap (IntKind.i64.wrap (IntKind.i64.wrap (f * a) + IntKind.i64.wrap (c * c)) * IntKind.i64.wrap (IntKind.i64.wrap (f * a) + IntKind.i64.wrap (c * c))))] A (.agg #[.int .i64 (lowN (IntKind.i64.wrap (IntKind.i64.wrap (IntKind.i64.wrap (e * d) * a) * a)) (IntKind.i64.wrap (IntKind.i64.wrap (IntKind.i64.wrap (f * a) + IntKind.i64.wrap (c * c)) * IntKind.i64.wrap (IntKind.i64.wrap (f * a) + IntKind.i64.wrap (c * c))))), .int .i64 (lowD (IntKind.i64.wrap (IntKind.i64.wrap (IntKind.i64.wrap (e * d) * a) * a)) (IntKind.i64.wrap (IntKind.i64.wrap (IntKind.i64.wrap (f * a) + IntKind.i64.wrap (c * c)) * IntKind.i64.wrap (IntKind.i64.wrap (f * a) + IntKind.i64.wrap (c * c)))))], A)) : Gives Tryz.prog envFk 0 52 [(.agg #[(.int .i64 (a)), (.int .i64 (b)), (.int .i64 (c)), (.int .i64 (d)), (.int .i64 (e)), (.int .i64 (f))])] heapN ((.agg #[(.int .i64 (lowN (IntKind.i64.wrap (e * d)) (IntKind.i64.wrap (f * f)))), (.int .i64 (lowD (IntKind.i64.wrap (e * d)) (IntKind.i64.wrap (f * f)))), (.int .i64 (lowN (IntKind.i64.wrap (IntKind.i64.wrap (IntKind.i64.wrap (e * d) * a) * a)) (IntKind.i64.wrap (IntKind.i64.wrap (c * c) * IntKind.i64.wrap (c * c))))), (.int .i64 (lowD (IntKind.i64.wrap (IntKind.i64.wrap (IntKind.i64.wrap (e * d) * a) * a)) (IntKind.i64.wrap (IntKind.i64.wrap (c * c) * IntKind.i64.wrap (c * c))))), (.int .i64 (lowN (IntKind.i64.wrap (IntKind.i64.wrap (IntKind.i64.wrap (e * d) * a) * a)) (IntKind.i64.wrap (IntKind.i64.wrap (IntKind.i64.wrap (f * a) + IntKind.i64.wrap (c * c)) * IntKind.i64.wrap (IntKind.i64.wrap (f * a) + IntKind.i64.wrap (c * c)))))), (.int .i64 (lowD (IntKind.i64.wrap (IntKind.i64.wrap (IntKind.i64.wrap (e * d) * a) * a)) (IntKind.i64.wrap (IntKind.i64.wrap (IntKind.i64.wrap (f * a) + IntKind.i64.wrap (c * c)) * IntKind.i64.wrap (IntKind.i64.wrap (f * a) + IntKind.i64.wrap (c * c))))))]), heapN) :=
  Gives.by (n := 1000) (os := [.opw 52 30 (.agg #[(.int .i64 (lowN (IntKind.i64.wrap (e * d)) (IntKind.i64.wrap (f * f)))), (.int .i64 (lowD (IntKind.i64.wrap (e * d)) (IntKind.i64.wrap (f * f))))]) [.none, .none, .none, .none, .none, .none, .none, .none, .none, (.some (.cells [(.int .i64 a), (.int .i64 b), (.int .i64 c), (.int .i64 d), (.int .i64 e), (.int .i64 f)] 23 .var)), (.some (.cells [(.int .i64 (0)), (.int .i64 (0)), (.int .i64 (0)), (.int .i64 (0)), (.int .i64 (0)), (.int .i64 (0))] 77 .var))], .opw 52 41 (.agg #[(.int .i64 (lowN (IntKind.i64.wrap (IntKind.i64.wrap (IntKind.i64.wrap (e * d) * a) * a)) (IntKind.i64.wrap (IntKind.i64.wrap (c * c) * IntKind.i64.wrap (c * c))))), (.int .i64 (lowD (IntKind.i64.wrap (IntKind.i64.wrap (IntKind.i64.wrap (e * d) * a) * a)) (IntKind.i64.wrap (IntKind.i64.wrap (c * c) * IntKind.i64.wrap (c * c)))))]) [.none, .none, .none, .none, .none, .none, .none, .none, .none, (.some (.cells [(.int .i64 a), (.int .i64 b), (.int .i64 c), (.int .i64 d), (.int .i64 e), (.int .i64 f)] 23 .var)), (.some (.cells [(.int .i64 (0)), (.int .i64 (0)), (.int .i64 (0)), (.int .i64 (0)), (.int .i64 (0)), (.int .i64 (0))] 77 .var))], .opw 52 52 (.agg #[(.int .i64 (lowN (IntKind.i64.wrap (IntKind.i64.wrap (IntKind.i64.wrap (e * d) * a) * a)) (IntKind.i64.wrap (IntKind.i64.wrap (IntKind.i64.wrap (f * a) + IntKind.i64.wrap (c * c)) * IntKind.i64.wrap (IntKind.i64.wrap (f * a) + IntKind.i64.wrap (c * c)))))), (.int .i64 (lowD (IntKind.i64.wrap (IntKind.i64.wrap (IntKind.i64.wrap (e * d) * a) * a)) (IntKind.i64.wrap (IntKind.i64.wrap (IntKind.i64.wrap (f * a) + IntKind.i64.wrap (c * c)) * IntKind.i64.wrap (IntKind.i64.wrap (f * a) + IntKind.i64.wrap (c * c))))))]) [.none, .none, .none, .none, .none, .none, .none, .none, .none, (.some (.cells [(.int .i64 a), (.int .i64 b), (.int .i64 c), (.int .i64 d), (.int .i64 e), (.int .i64 f)] 23 .var)), (.some (.cells [(.int .i64 (0)), (.int .i64 (0)), (.int .i64 (0)), (.int .i64 (0)), (.int .i64 (0)), (.int .i64 (0))] 77 .var))]]) (os' := []) (by kernel_rfl) (ObsOK.call (h1 11 [.none, .none, .none, .none, .none, .none, .none, .none, .none, (.some (.cells [(.int .i64 a), (.int .i64 b), (.int .i64 c), (.int .i64 d), (.int .i64 e), (.int .i64 f)] 23 .var)), (.some (.cells [(.int .i64 (0)), (.int .i64 (0)), (.int .i64 (0)), (.int .i64 (0)), (.int .i64 (0)), (.int .i64 (0))] 77 .var))] (by kernel_rfl)) (ObsOK.call (h2 11 [.none, .none, .none, .none, .none, .none, .none, .none, .none, (.some (.cells [(.int .i64 a), (.int .i64 b), (.int .i64 c), (.int .i64 d), (.int .i64 e), (.int .i64 f)] 23 .var)), (.some (.cells [(.int .i64 (0)), (.int .i64 (0)), (.int .i64 (0)), (.int .i64 (0)), (.int .i64 (0)), (.int .i64 (0))] 77 .var))] (by kernel_rfl)) (ObsOK.call (h3 11 [.none, .none, .none, .none, .none, .none, .none, .none, .none, (.some (.cells [(.int .i64 a), (.int .i64 b), (.int .i64 c), (.int .i64 d), (.int .i64 e), (.int .i64 f)] 23 .var)), (.some (.cells [(.int .i64 (0)), (.int .i64 (0)), (.int .i64 (0)), (.int .i64 (0)), (.int .i64 (0)), (.int .i64 (0))] 77 .var))] (by kernel_rfl)) (ObsOK.nil))))
def f52_r0 (a : Int) (b : Int) (c : Int) (d : Int) (e : Int) (f : Int) : Int := (lowN (IntKind.i64.wrap (e * d)) (IntKind.i64.wrap (f * f)))
def f52_r1 (a : Int) (b : Int) (c : Int) (d : Int) (e : Int) (f : Int) : Int := (lowD (IntKind.i64.wrap (e * d)) (IntKind.i64.wrap (f * f)))
def f52_r2 (a : Int) (b : Int) (c : Int) (d : Int) (e : Int) (f : Int) : Int := (lowN (IntKind.i64.wrap (IntKind.i64.wrap (IntKind.i64.wrap (e * d) * a) * a)) (IntKind.i64.wrap (IntKind.i64.wrap (c * c) * IntKind.i64.wrap (c * c))))
def f52_r3 (a : Int) (b : Int) (c : Int) (d : Int) (e : Int) (f : Int) : Int := (lowD (IntKind.i64.wrap (IntKind.i64.wrap (IntKind.i64.wrap (e * d) * a) * a)) (IntKind.i64.wrap (IntKind.i64.wrap (c * c) * IntKind.i64.wrap (c * c))))
def f52_r4 (a : Int) (b : Int) (c : Int) (d : Int) (e : Int) (f : Int) : Int := (lowN (IntKind.i64.wrap (IntKind.i64.wrap (IntKind.i64.wrap (e * d) * a) * a)) (IntKind.i64.wrap (IntKind.i64.wrap (IntKind.i64.wrap (f * a) + IntKind.i64.wrap (c * c)) * IntKind.i64.wrap (IntKind.i64.wrap (f * a) + IntKind.i64.wrap (c * c)))))
def f52_r5 (a : Int) (b : Int) (c : Int) (d : Int) (e : Int) (f : Int) : Int := (lowD (IntKind.i64.wrap (IntKind.i64.wrap (IntKind.i64.wrap (e * d) * a) * a)) (IntKind.i64.wrap (IntKind.i64.wrap (IntKind.i64.wrap (f * a) + IntKind.i64.wrap (c * c)) * IntKind.i64.wrap (IntKind.i64.wrap (f * a) + IntKind.i64.wrap (c * c)))))
theorem f52_gives (a : Int) (b : Int) (c : Int) (d : Int) (e : Int) (f : Int) (h1 : ∀ (lim : Nat) (A : Heap), startsB heapN A = true → Gives Tryz.prog envFk lim 110 [.int .i64 (IntKind.i64.wrap (e * d)), .int .i64 (IntKind.i64.wrap (f * f))] A (.agg #[.int .i64 (lowN (IntKind.i64.wrap (e * d)) (IntKind.i64.wrap (f * f))), .int .i64 (lowD (IntKind.i64.wrap (e * d)) (IntKind.i64.wrap (f * f)))], A)) (h2 : ∀ (lim : Nat) (A : Heap), startsB heapN A = true → Gives Tryz.prog envFk lim 110 [.int .i64 (IntKind.i64.wrap (IntKind.i64.wrap (IntKind.i64.wrap (e * d) * a) * a)), .int .i64 (IntKind.i64.wrap (IntKind.i64.wrap (c * c) * IntKind.i64.wrap (c * c)))] A (.agg #[.int .i64 (lowN (IntKind.i64.wrap (IntKind.i64.wrap (IntKind.i64.wrap (e * d) * a) * a)) (IntKind.i64.wrap (IntKind.i64.wrap (c * c) * IntKind.i64.wrap (c * c)))), .int .i64 (lowD (IntKind.i64.wrap (IntKind.i64.wrap (IntKind.i64.wrap (e * d) * a) * a)) (IntKind.i64.wrap (IntKind.i64.wrap (c * c) * IntKind.i64.wrap (c * c))))], A)) (h3 : ∀ (lim : Nat) (A : Heap), startsB heapN A = true → Gives Tryz.prog envFk lim 110 [.int .i64 (IntKind.i64.wrap (IntKind.i64.wrap (IntKind.i64.wrap (e * d) * a) * a)), .int .i64 (IntKind.i64.wrap (IntKind.i64.wrap (IntKind.i64.wrap (f * a) + IntKind.i64.wrap (c * c)) * IntKind.i64.wrap (IntKind.i64.wrap (f * a) + IntKind.i64.wrap (c * c))))] A (.agg #[.int .i64 (lowN (IntKind.i64.wrap (IntKind.i64.wrap (IntKind.i64.wrap (e * d) * a) * a)) (IntKind.i64.wrap (IntKind.i64.wrap (IntKind.i64.wrap (f * a) + IntKind.i64.wrap (c * c)) * IntKind.i64.wrap (IntKind.i64.wrap (f * a) + IntKind.i64.wrap (c * c))))), .int .i64 (lowD (IntKind.i64.wrap (IntKind.i64.wrap (IntKind.i64.wrap (e * d) * a) * a)) (IntKind.i64.wrap (IntKind.i64.wrap (IntKind.i64.wrap (f * a) + IntKind.i64.wrap (c * c)) * IntKind.i64.wrap (IntKind.i64.wrap (f * a) + IntKind.i64.wrap (c * c)))))], A)) : Gives Tryz.prog envFk 0 52 [(.agg #[(.int .i64 (a)), (.int .i64 (b)), (.int .i64 (c)), (.int .i64 (d)), (.int .i64 (e)), (.int .i64 (f))])] heapN ((.agg #[(.int .i64 (f52_r0 a b c d e f)), (.int .i64 (f52_r1 a b c d e f)), (.int .i64 (f52_r2 a b c d e f)), (.int .i64 (f52_r3 a b c d e f)), (.int .i64 (f52_r4 a b c d e f)), (.int .i64 (f52_r5 a b c d e f))]), heapN) := by
  simp only [f52_r0, f52_r1, f52_r2, f52_r3, f52_r4, f52_r5, cond_true, cond_false]; exact f52_p0 a b c d e f h1 h2 h3
theorem f47a_p0 (n1 : Int) (d1 : Int) (n2 : Int) (d2 : Int) (m : Int) (h1 : (tErr n1 d1 != 0) = true) : Gives Tryz.prog envFk 0 47 [(.agg #[(.int .i64 (n1)), (.int .i64 (d1))]), (.agg #[(.int .i64 (n2)), (.int .i64 (d2))]), (.int .i64 (m))] heapN ((.tuple #[(.agg #[(.int .i64 (0)), (.int .i64 (0))]), (.agg #[(.int .i64 (0)), (.int .i64 (0))]), (.int .i64 (tErr n1 d1))]), heapN) :=
  Gives.by (n := 1000) (os := [.br 105 26 true, .br 47 56 true]) (os' := []) (by kernel_rfl) (ObsOK.cond h1 (ObsOK.cond h1 (ObsOK.nil)))
def f47a_r4 (n1 : Int) (d1 : Int) (n2 : Int) (d2 : Int) (m : Int) : Int := (tErr n1 d1)
theorem f47a_gives (n1 : Int) (d1 : Int) (n2 : Int) (d2 : Int) (m : Int) (h1 : (tErr n1 d1 != 0) = true) : Gives Tryz.prog envFk 0 47 [(.agg #[(.int .i64 (n1)), (.int .i64 (d1))]), (.agg #[(.int .i64 (n2)), (.int .i64 (d2))]), (.int .i64 (m))] heapN ((.tuple #[(.agg #[(.int .i64 (0)), (.int .i64 (0))]), (.agg #[(.int .i64 (0)), (.int .i64 (0))]), (.int .i64 (f47a_r4 n1 d1 n2 d2 m))]), heapN) := by
  simp only [f47a_r4, cond_true, cond_false]; exact f47a_p0 n1 d1 n2 d2 m h1
theorem f47b_p0 (n1 : Int) (d1 : Int) (n2 : Int) (d2 : Int) (m : Int) (h1 : (tErr n1 d1 != 0) = false) (h2 : (tErr n2 d2 != 0) = true) : Gives Tryz.prog envFk 0 47 [(.agg #[(.int .i64 (n1)), (.int .i64 (d1))]), (.agg #[(.int .i64 (n2)), (.int .i64 (d2))]), (.int .i64 (m))] heapN ((.tuple #[(.agg #[(.int .i64 (0)), (.int .i64 (0))]), (.agg #[(.int .i64 (0)), (.int .i64 (0))]), (.int .i64 (tErr n2 d2))]), heapN) :=
  Gives.by (n := 1000) (os := [.br 105 26 false, .br 105 26 true, .br 47 56 true]) (os' := []) (by kernel_rfl) (ObsOK.cond h1 (ObsOK.cond h2 (ObsOK.cond h2 (ObsOK.nil))))
def f47b_r4 (n1 : Int) (d1 : Int) (n2 : Int) (d2 : Int) (m : Int) : Int := (tErr n2 d2)
theorem f47b_gives (n1 : Int) (d1 : Int) (n2 : Int) (d2 : Int) (m : Int) (h1 : (tErr n1 d1 != 0) = false) (h2 : (tErr n2 d2 != 0) = true) : Gives Tryz.prog envFk 0 47 [(.agg #[(.int .i64 (n1)), (.int .i64 (d1))]), (.agg #[(.int .i64 (n2)), (.int .i64 (d2))]), (.int .i64 (m))] heapN ((.tuple #[(.agg #[(.int .i64 (0)), (.int .i64 (0))]), (.agg #[(.int .i64 (0)), (.int .i64 (0))]), (.int .i64 (f47b_r4 n1 d1 n2 d2 m))]), heapN) := by
  simp only [f47b_r4, cond_true, cond_false]; exact f47b_p0 n1 d1 n2 d2 m h1 h2
theorem f47c_p0 (n1 : Int) (d1 : Int) (n2 : Int) (d2 : Int) (m : Int) (h1 : (tErr n1 d1 != 0) = false) (h2 : (tErr n2 d2 != 0) = false) (h3 : (f111_r0 m 1 100 != 0) = true) : Gives Tryz.prog envFk 0 47 [(.agg #[(.int .i64 (n1)), (.int .i64 (d1))]), (.agg #[(.int .i64 (n2)), (.int .i64 (d2))]), (.int .i64 (m))] heapN ((.tuple #[(.agg #[(.int .i64 (0)), (.int .i64 (0))]), (.agg #[(.int .i64 (0)), (.int .i64 (0))]), (.int .i64 (f111_r0 m 1 100))]), heapN) :=
  Gives.by (n := 1000) (os := [.br 105 26 false, .br 105 26 false, .br 105 26 true, .br 47 56 true]) (os' := []) (by kernel_rfl) (ObsOK.cond h1 (ObsOK.cond h2 (ObsOK.cond h3 (ObsOK.cond h3 (ObsOK.nil)))))
def f47c_r4 (n1 : Int) (d1 : Int) (n2 : Int) (d2 : Int) (m : Int) : Int := (f111_r0 m 1 100)
theorem f47c_gives (n1 : Int) (d1 : Int) (n2 : Int) (d2 : Int) (m : Int) (h1 : (tErr n1 d1 != 0) = false) (h2 : (tErr n2 d2 != 0) = false) (h3 : (f111_r0 m 1 100 != 0) = true) : Gives Tryz.prog envFk 0 47 [(.agg #[(.int .i64 (n1)), (.int .i64 (d1))]), (.agg #[(.int .i64 (n2)), (.int .i64 (d2))]), (.int .i64 (m))] heapN ((.tuple #[(.agg #[(.int .i64 (0)), (.int .i64 (0))]), (.agg #[(.int .i64 (0)), (.int .i64 (0))]), (.int .i64 (f47c_r4 n1 d1 n2 d2 m))]), heapN) := by
  simp only [f47c_r4, cond_true, cond_false]; exact f47c_p0 n1 d1 n2 d2 m h1 h2 h3
theorem f47d_p0 (n1 : Int) (d1 : Int) (n2 : Int) (d2 : Int) (m : Int) (h1 : (tErr n1 d1 != 0) = false) (h2 : (tErr n2 d2 != 0) = false) (h3 : (f111_r0 m 1 100 != 0) = false) (h4 : (f93_r0 (decide (f115_r0 n1 d1 n2 d2 ≤ 0)) 11 != 0) = true) : Gives Tryz.prog envFk 0 47 [(.agg #[(.int .i64 (n1)), (.int .i64 (d1))]), (.agg #[(.int .i64 (n2)), (.int .i64 (d2))]), (.int .i64 (m))] heapN ((.tuple #[(.agg #[(.int .i64 (0)), (.int .i64 (0))]), (.agg #[(.int .i64 (0)), (.int .i64 (0))]), (.int .i64 (f93_r0 (decide (f115_r0 n1 d1 n2 d2 ≤ 0)) 11))]), heapN) :=
  Gives.by (n := 1000) (os := [.br 105 26 false, .br 105 26 false, .br 105 26 false, .br 105 26 true, .br 47 56 true]) (os' := []) (by kernel_rfl) (ObsOK.cond h1 (ObsOK.cond h2 (ObsOK.cond h3 (ObsOK.cond h4 (ObsOK.cond h4 (ObsOK.nil))))))
def f47d_r4 (n1 : Int) (d1 : Int) (n2 : Int) (d2 : Int) (m : Int) : Int := (f93_r0 (decide (f115_r0 n1 d1 n2 d2 ≤ 0)) 11)
theorem f47d_gives (n1 : Int) (d1 : Int) (n2 : Int) (d2 : Int) (m : Int) (h1 : (tErr n1 d1 != 0) = false) (h2 : (tErr n2 d2 != 0) = false) (h3 : (f111_r0 m 1 100 != 0) = false) (h4 : (f93_r0 (decide (f115_r0 n1 d1 n2 d2 ≤ 0)) 11 != 0) = true) : Gives Tryz.prog envFk 0 47 [(.agg #[(.int .i64 (n1)), (.int .i64 (d1))]), (.agg #[(.int .i64 (n2)), (.int .i64 (d2))]), (.int .i64 (m))] heapN ((.tuple #[(.agg #[(.int .i64 (0)), (.int .i64 (0))]), (.agg #[(.int .i64 (0)), (.int .i64 (0))]), (.int .i64 (f47d_r4 n1 d1 n2 d2 m))]), heapN) := by
  simp only [f47d_r4, cond_true, cond_false]; exact f47d_p0 n1 d1 n2 d2 m h1 h2 h3 h4
theorem f47e_p0 (n1 : Int) (d1 : Int) (n2 : Int) (d2 : Int) (m : Int) (h1 : (tErr n1 d1 != 0) = false) (h2 : (tErr n2 d2 != 0) = false) (h3 : (f111_r0 m 1 100 != 0) = false) (h4 : (f93_r0 (decide (f115_r0 n1 d1 n2 d2 ≤ 0)) 11 != 0) = false) (h5 : ∀ (lim : Nat) (A : Heap), startsB heapN A = true → Gives Tryz.prog envFk lim 107 [.agg #[.int .i64 (IntKind.i64.wrap (IntKind.i64.wrap (m * n2) * d1)), .int .i64 (IntKind.i64.wrap (IntKind.i64.wrap (n1 * d2) - IntKind.i64.wrap (n2 * d1)))]] A (.agg #[.int .i64 (lowN (IntKind.i64.wrap (IntKind.i64.wrap (m * n2) * d1)) (IntKind.i64.wrap (IntKind.i64.wrap (n1 * d2) - IntKind.i64.wrap (n2 * d1)))), .int .i64 (lowD (IntKind.i64.wrap (IntKind.i64.wrap (m * n2) * d1)) (IntKind.i64.wrap (IntKind.i64.wrap (n1 * d2) - IntKind.i64.wrap (n2 * d1))))], A)) (h6 : ∀ (lim : Nat) (A : Heap), startsB heapN A = true → Gives Tryz.prog envFk lim 107 [.agg #[.int .i64 (IntKind.i64.wrap (IntKind.i64.wrap (m * n2) * n1)), .int .i64 (IntKind.i64.wrap (IntKind.i64.wrap (n1 * d2) - IntKind.i64.wrap (n2 * d1)))]] A (.agg #[.int .i64 (lowN (IntKind.i64.wrap (IntKind.i64.wrap (m * n2) * n1)) (IntKind.i64.wrap (IntKind.i64.wrap (n1 * d2) - IntKind.i64.wrap (n2 * d1)))), .int .i64 (lowD (IntKind.i64.wrap (IntKind.i64.wrap (m * n2) * n1)) (IntKind.i64.wrap (IntKind.i64.wrap (n1 * d2) - IntKind.i64.wrap (n2 * d1))))], A)) : Gives Tryz.prog envFk 0 47 [(.agg #[(.int .i64 (n1)), (.int .i64 (d1))]), (.agg #[(.int .i64 (n2)), (.int .i64 (d2))]), (.int .i64 (m))] heapN ((.tuple #[(.agg #[(.int .i64 (lowN (IntKind.i64.wrap (IntKind.i64.wrap (m * n2) * d1)) (IntKind.i64.wrap (IntKind.i64.wrap (n1 * d2) - IntKind.i64.wrap (n2 * d1))))), (.int .i64 (lowD (IntKind.i64.wrap (IntKind.i64.wrap (m * n2) * d1)) (IntKind.i64.wrap (IntKind.i64.wrap (n1 * d2) - IntKind.i64.wrap (n2 * d1)))))]), (.agg #[(.int .i64 (lowN (IntKind.i64.wrap (IntKind.i64.wrap (m * n2) * n1)) (IntKind.i64.wrap (IntKind.i64.wrap (n1 * d2) - IntKind.i64.wrap (n2 * d1))))), (.int .i64 (lowD (IntKind.i64.wrap (IntKind.i64.wrap (m * n2) * n1)) (IntKind.i64.wrap (IntKind.i64.wrap (n1 * d2) - IntKind.i64.wrap (n2 * d1)))))]), (.int .i64 (0))]), heapN) :=
  Gives.by (n := 1000) (os := [.br 105 26 false, .br 105 26 false, .br 105 26 false, .br 105 26 false, .opw 47 62 (.agg #[(.int .i64 (lowN (IntKind.i64.wrap (IntKind.i64.wrap (m * n2) * d1)) (IntKind.i64.wrap (IntKind.i64.wrap (n1 * d2) - IntKind.i64.wrap (n2 * d1))))), (.int .i64 (lowD (IntKind.i64.wrap (IntKind.i64.wrap (m * n2) * d1)) (IntKind.i64.wrap (IntKind.i64.wrap (n1 * d2) - IntKind.i64.wrap (n2 * d1)))))]) [.none, .none, .none, .none, .none, .none, .none, .none, .none, (.some (.cells [(.int .i64 n1), (.int .i64 d1)] 61 .var)), (.some (.cells [(.int .i64 n2), (.int .i64 d2)] 61 .var)), (.some (.cells [(.int .i64 (0)), (.int .i64 (0))] 61 .var)), (.some (.cells [(.int .i64 (0)), (.int .i64 (0))] 61 .var)), (.some (.cells [(.int .i64 (tErr n1 d1)), (.int .i64 (tErr n2 d2)), (.int .i64 (f111_r0 m 1 100)), (.int .i64 (f93_r0 (decide (f115_r0 n1 d1 n2 d2 ≤ 0)) 11))] 27 .row)), (.some (.cells [(.int .i64 (IntKind.i64.wrap (IntKind.i64.wrap (m * n2) * d1))), (.int .i64 (IntKind.i64.wrap (IntKind.i64.wrap (n1 * d2) - IntKind.i64.wrap (n2 * d1))))] 61 .var)), (.some (.cells [(.int .i64 (IntKind.i64.wrap (IntKind.i64.wrap (m * n2) * n1))), (.int .i64 (IntKind.i64.wrap (IntKind.i64.wrap (n1 * d2) - IntKind.i64.wrap (n2 * d1))))] 61 .var))], .opw 47 64 (.agg #[(.int .i64 (lowN (IntKind.i64.wrap (IntKind.i64.wrap (m * n2) * n1)) (IntKind.i64.wrap (IntKind.i64.wrap (n1 * d2) - IntKind.i64.wrap (n2 * d1))))), (.int .i64 (lowD (IntKind.i64.wrap (IntKind.i64.wrap (m * n2) * n1)) (IntKind.i64.wrap (IntKind.i64.wrap (n1 * d2) - IntKind.i64.wrap (n2 * d1)))))]) [.none, .none, .none, .none, .none, .none, .none, .none, .none, (.some (.cells [(.int .i64 n1), (.int .i64 d1)] 61 .var)), (.some (.cells [(.int .i64 n2), (.int .i64 d2)] 61 .var)), (.some (.cells [(.int .i64 (0)), (.int .i64 (0))] 61 .var)), (.some (.cells [(.int .i64 (0)), (.int .i64 (0))] 61 .var)), (.some (.cells [(.int .i64 (tErr n1 d1)), (.int .i64 (tErr n2 d2)), (.int .i64 (f111_r0 m 1 100)), (.int .i64 (f93_r0 (decide (f115_r0 n1 d1 n2 d2 ≤ 0)) 11))] 27 .row)), (.some (.cells [(.int .i64 (IntKind.i64.wrap (IntKind.i64.wrap (m * n2) * d1))), (.int .i64 (IntKind.i64.wrap (IntKind.i64.wrap (n1 * d2) - IntKind.i64.wrap (n2 * d1))))] 61 .var)), (.some (.cells [(.int .i64 (IntKind.i64.wrap (IntKind.i64.wrap (m * n2) * n1))), (.int .i64 (IntKind.i64.wrap (IntKind.i64.wrap (n1 * d2) - IntKind.i64.wrap (n2 * d1))))] 61 .var))]]) (os' := []) (by kernel_rfl) (ObsOK.cond h1 (ObsOK.cond h2 (ObsOK.cond h3 (ObsOK.cond h4 (ObsOK.call (h5 16 [.none, .none, .none, .none, .none, .none, .none, .none, .none, (.some (.cells [(.int .i64 n1), (.int .i64 d1)] 61 .var)), (.some (.cells [(.int .i64 n2), (.int .i64 d2)] 61 .var)), (.some (.cells [(.int .i64 (0)), (.int .i64 (0))] 61 .var)), (.some (.cells [(.int .i64 (0)), (.int .i64 (0))] 61 .var)), (.some (.cells [(.int .i64 (tErr n1 d1)), (.int .i64 (tErr n2 d2)), (.int .i64 (f111_r0 m 1 100)), (.int .i64 (f93_r0 (decide (f115_r0 n1 d1 n2 d2 ≤ 0)) 11))] 27 .row)), (.some (.cells [(.int .i64 (IntKind.i64.wrap (IntKind.i64.wrap (m * n2) * d1))), (.int .i64 (IntKind.i64.wrap (IntKind.i64.wrap (n1 * d2) - IntKind.i64.wrap (n2 * d1))))] 61 .var)), (.some (.cells [(.int .i64 (IntKind.i64.wrap (IntKind.i64.wrap (m * n2) * n1))), (.int .i64 (IntKind.i64.wrap (IntKind.i64.wrap (n1 * d2) - IntKind.i64.wrap (n2 * d1))))] 61 .var))] (by kernel_rfl)) (ObsOK.call (h6 16 [.none, .none, .none, .none, .none, .none, .none, .none, .none, (.some (.cells [(.int .i64 n1), (.int .i64 d1)] 61 .var)), (.some (.cells [(.int .i64 n2), (.int .i64 d2)] 61 .var)), (.some (.cells [(.int .i64 (0)), (.int .i64 (0))] 61 .var)), (.some (.cells [(.int .i64 (0)), (.int .i64 (0))] 61 .var)), (.some (.cells [(.int .i64 (tErr n1 d1)), (.int .i64 (tErr n2 d2)), (.int .i64 (f111_r0 m 1 100)), (.int .i64 (f93_r0 (decide (f115_r0 n1 d1 n2 d2 ≤ 0)) 11))] 27 .row)), (.some (.cells [(.int .i64 (IntKind.i64.wrap (IntKind.i64.wrap (m * n2) * d1))), (.int .i64 (IntKind.i64.wrap (IntKind.i64.wrap (n1 * d2) - IntKind.i64.wrap (n2 * d1))))] 61 .var)), (.some (.cells [(.int .i64 (IntKind.i64.wrap (IntKind.i64.wrap (m * n2) * n1))), (.int .i64 (IntKind.i64.wrap (IntKind.i64.wrap (n1 * d2) - IntKind.i64.wrap (n2 * d1))))] 61 .var))] (by kernel_rfl)) (ObsOK.nil)))))))
def f47e_r0 (n1 : Int) (d1 : Int) (n2 : Int) (d2 : Int) (m : Int) : Int := (lowN (IntKind.i64.wrap (IntKind.i64.wrap (m * n2) * d1)) (IntKind.i64.wrap (IntKind.i64.wrap (n1 * d2) - IntKind.i64.wrap (n2 * d1))))
def f47e_r1 (n1 : Int) (d1 : Int) (n2 : Int) (d2 : Int) (m : Int) : Int := (lowD (IntKind.i64.wrap (IntKind.i64.wrap (m * n2) * d1)) (IntKind.i64.wrap (IntKind.i64.wrap (n1 * d2) - IntKind.i64.wrap (n2 * d1))))
def f47e_r2 (n1 : Int) (d1 : Int) (n2 : Int) (d2 : Int) (m : Int) : Int := (lowN (IntKind.i64.wrap (IntKind.i64.wrap (m * n2) * n1)) (IntKind.i64.wrap (IntKind.i64.wrap (n1 * d2) - IntKind.i64.wrap (n2 * d1))))
def f47e_r3 (n1 : Int) (d1 : Int) (n2 : Int) (d2 : Int) (m : Int) : Int := (lowD (IntKind.i64.wrap (IntKind.i64.wrap (m * n2) * n1)) (IntKind.i64.wrap (IntKind.i64.wrap (n1 * d2) - IntKind.i64.wrap (n2 * d1))))
theorem f47e_gives (n1 : Int) (d1 : Int) (n2 : Int) (d2 : Int) (m : Int) (h1 : (tErr n1 d1 != 0) = false) (h2 : (tErr n2 d2 != 0) = false) (h3 : (f111_r0 m 1 100 != 0) = false) (h4 : (f93_r0 (decide (f115_r0 n1 d1 n2 d2 ≤ 0)) 11 != 0) = false) (h5 : ∀ (lim : Nat) (A : Heap), startsB heapN A = true → Gives Tryz.prog envFk lim 107 [.agg #[.int .i64 (IntKind.i64.wrap (IntKind.i64.wrap (m * n2) * d1)), .int .i64 (IntKind.i64.wrap (IntKind.i64.wrap (n1 * d2) - IntKind.i64.wrap (n2 * d1)))]] A (.agg #[.int .i64 (lowN (IntKind.i64.wrap (IntKind.i64.wrap (m * n2) * d1)) (IntKind.i64.wrap (IntKind.i64.wrap (n1 * d2) - IntKind.i64.wrap (n2 * d1)))), .int .i64 (lowD (IntKind.i64.wrap (IntKind.i64.wrap (m * n2) * d1)) (IntKind.i64.wrap (IntKind.i64.wrap (n1 * d2) - IntKind.i64.wrap (n2 * d1))))], A)) (h6 : ∀ (lim : Nat) (A : Heap), startsB heapN A = true → Gives Tryz.prog envFk lim 107 [.agg #[.int .i64 (IntKind.i64.wrap (IntKind.i64.wrap (m * n2) * n1)), .int .i64 (IntKind.i64.wrap (IntKind.i64.wrap (n1 * d2) - IntKind.i64.wrap (n2 * d1)))]] A (.agg #[.int .i64 (lowN (IntKind.i64.wrap (IntKind.i64.wrap (m * n2) * n1)) (IntKind.i64.wrap (IntKind.i64.wrap (n1 * d2) - IntKind.i64.wrap (n2 * d1)))), .int .i64 (lowD (IntKind.i64.wrap (IntKind.i64.wrap (m * n2) * n1)) (IntKind.i64.wrap (IntKind.i64.wrap (n1 * d2) - IntKind.i64.wrap (n2 * d1))))], A)) : Gives Tryz.prog envFk 0 47 [(.agg #[(.int .i64 (n1)), (.int .i64 (d1))]), (.agg #[(.int .i64 (n2)), (.int .i64 (d2))]), (.int .i64 (m))] heapN ((.tuple #[(.agg #[(.int .i64 (f47e_r0 n1 d1 n2 d2 m)), (.int .i64 (f47e_r1 n1 d1 n2 d2 m))]), (.agg #[(.int .i64 (f47e_r2 n1 d1 n2 d2 m)), (.int .i64 (f47e_r3 n1 d1 n2 d2 m))]), (.int .i64 (0))]), heapN) := by
  simp only [f47e_r0, f47e_r1, f47e_r2, f47e_r3, cond_true, cond_false]; exact f47e_p0 n1 d1 n2 d2 m h1 h2 h3 h4 h5 h6
theorem f53a_p0 (n1 : Int) (d1 : Int) (n2 : Int) (d2 : Int) (m : Int) (h1 : decide (IntKind.i64.wrap (IntKind.i64.wrap (n1 * d2) - IntKind.i64.wrap (n2 * d1)) ≤ 0) = true) : Gives Tryz.prog envFk 0 53 [(.agg #[(.int .i64 (n1)), (.int .i64 (d1))]), (.agg #[(.int .i64 (n2)), (.int .i64 (d2))]), (.int .i64 (m))] heapN ((.tuple #[(.agg #[(.int .i64 (0)), (.int .i64 (0))]), (.agg #[(.int .i64 (0)), (.int .i64 (0))]), (.int .i64 (11))]), heapN) :=
  Gives.by (n := 1000) (os := [.br 53 48 true]) (os' := []) (by kernel_rfl) (ObsOK.cond h1 (ObsOK.nil))
theorem f53a_gives (n1 : Int) (d1 : Int) (n2 : Int) (d2 : Int) (m : Int) (h1 : decide (IntKind.i64.wrap (IntKind.i64.wrap (n1 * d2) - IntKind.i64.wrap (n2 * d1)) ≤ 0) = true) : Gives Tryz.prog envFk 0 53 [(.agg #[(.int .i64 (n1)), (.int .i64 (d1))]), (.agg #[(.int .i64 (n2)), (.int .i64 (d2))]), (.int .i64 (m))] heapN ((.tuple #[(.agg #[(.int .i64 (0)), (.int .i64 (0))]), (.agg #[(.int .i64 (0)), (.int .i64 (0))]), (.int .i64 (11))]), heapN) := by
  exact f53a_p0 n1 d1 n2 d2 m h1
theorem f53b_p0 (n1 : Int) (d1 : Int) (n2 : Int) (d2 : Int) (m : Int) (h1 : decide (IntKind.i64.wrap (IntKind.i64.wrap (n1 * d2) - IntKind.i64.wrap (n2 * d1)) ≤ 0) = false) (h5 : ∀ (lim : Nat) (A : Heap), startsB heapN A = true → Gives Tryz.prog envFk lim 110 [.int .i64 (IntKind.i64.wrap (IntKind.i64.wrap (m * n2) * d1)), .int .i64 (IntKind.i64.wrap (IntKind.i64.wrap (n1 * d2) - IntKind.i64.wrap (n2 * d1)))] A (.agg #[.int .i64 (lowN (IntKind.i64.wrap (IntKind.i64.wrap (m * n2) * d1)) (IntKind.i64.wrap (IntKind.i64.wrap (n1 * d2) - IntKind.i64.wrap (n2 * d1)))), .int .i64 (lowD (IntKind.i64.wrap (IntKind.i64.wrap (m * n2) * d1)) (IntKind.i64.wrap (IntKind.i64.wrap (n1 * d2) - IntKind.i64.wrap (n2 * d1))))], A)) (h6 : ∀ (lim : Nat) (A : Heap), startsB heapN A = true → Gives Tryz.prog envFk lim 110 [.int .i64 (IntKind.i64.wrap (IntKind.i64.wrap (m * n2) * n1)), .int .i64 (IntKind.i64.wrap (IntKind.i64.wrap (n1 * d2) - IntKind.i64.wrap (n2 * d1)))] A (.agg #[.int .i64 (lowN (IntKind.i64.wrap (IntKind.i64.wrap (m * n2) * n1)) (IntKind.i64.wrap (IntKind.i64.wrap (n1 * d2) - IntKind.i64.wrap (n2 * d1)))), .int .i64 (lowD (IntKind.i64.wrap (IntKind.i64.wrap (m * n2) * n1)) (IntKind.i64.wrap (IntKind.i64.wrap (n1 * d2) - IntKind.i64.wrap (n2 * d1))))], A)) : Gives Tryz.prog envFk 0 53 [(.agg #[(.int .i64 (n1)), (.int .i64 (d1))]), (.agg #[(.int .i64 (n2)), (.int .i64 (d2))]), (.int .i64 (m))] heapN ((.tuple #[(.agg #[(.int .i64 (lowN (IntKind.i64.wrap (IntKind.i64.wrap (m * n2) * d1)) (IntKind.i64.wrap (IntKind.i64.wrap (n1 * d2) - IntKind.i64.wrap (n2 * d1))))), (.int .i64 (lowD (IntKind.i64.wrap (IntKind.i64.wrap (m * n2) * d1)) (IntKind.i64.wrap (IntKind.i64.wrap (n1 * d2) - IntKind.i64.wrap (n2 * d1)))))]), (.agg #[(.int .i64 (lowN (IntKind.i64.wrap (IntKind.i64.wrap (m * n2) * n1)) (IntKind.i64.wrap (IntKind.i64.wrap (n1 * d2) - IntKind.i64.wrap (n2 * d1))))), (.int .i64 (lowD (IntKind.i64.wrap (IntKind.i64.wrap (m * n2) * n1)) (IntKind.i64.wrap (IntKind.i64.wrap (n1 * d2) - IntKind.i64.wrap (n2 * d1)))))]), (.int .i64 (0))]), heapN) :=
  Gives.by (n := 1000) (os := [.br 53 48 false, .opw 53 35 (.agg #[(.int .i64 (lowN (IntKind.i64.wrap (IntKind.i64.wrap (m * n2) * d1)) (IntKind.i64.wrap (IntKind.i64.wrap (n1 * d2) - IntKind.i64.wrap (n2 * d1))))), (.int .i64 (lowD (IntKind.i64.wrap (IntKind.i64.wrap (m * n2) * d1)) (IntKind.i64.wrap (IntKind.i64.wrap (n1 * d2) - IntKind.i64.wrap (n2 * d1)))))]) [.none, .none, .none, .none, .none, .none, .none, .none, .none, (.some (.cells [(.int .i64 n1), (.int .i64 d1)] 61 .var)), (.some (.cells [(.int .i64 n2), (.int .i64 d2)] 61 .var)), (.some (.cells [(.int .i64 (0)), (.int .i64 (0))] 61 .var)), (.some (.cells [(.int .i64 (0)), (.int .i64 (0))] 61 .var))], .opw 53 45 (.agg #[(.int .i64 (lowN (IntKind.i64.wrap (IntKind.i64.wrap (m * n2) * n1)) (IntKind.i64.wrap (IntKind.i64.wrap (n1 * d2) - IntKind.i64.wrap (n2 * d1))))), (.int .i64 (lowD (IntKind.i64.wrap (IntKind.i64.wrap (m * n2) * n1)) (IntKind.i64.wrap (IntKind.i64.wrap (n1 * d2) - IntKind.i64.wrap (n2 * d1)))))]) [.none, .none, .none, .none, .none, .none, .none, .none, .none, (.some (.cells [(.int .i64 n1), (.int .i64 d1)] 61 .var)), (.some (.cells [(.int .i64 n2), (.int .i64 d2)] 61 .var)), (.some (.cells [(.int .i64 (0)), (.int .i64 (0))] 61 .var)), (.some (.cells [(.int .i64 (0)), (.int .i64 (0))] 61 .var)), (.some (.cells [(.int .i64 (lowN (IntKind.i64.wrap (IntKind.i64.wrap (m * n2) * d1)) (IntKind.i64.wrap (IntKind.i64.wrap (n1 * d2) - IntKind.i64.wrap (n2 * d1))))), (.int .i64 (lowD (IntKind.i64.wrap (IntKind.i64.wrap (m * n2) * d1)) (IntKind.i64.wrap (IntKind.i64.wrap (n1 * d2) - IntKind.i64.wrap (n2 * d1)))))] 61 .var))]]) (os' := []) (by kernel_rfl) (ObsOK.cond h1 (ObsOK.call (h5 9 [.none, .none, .none, .none, .none, .none, .none, .none, .none, (.some (.cells [(.int .i64 n1), (.int .i64 d1)] 61 .var)), (.some (.cells [(.int .i64 n2), (.int .i64 d2)] 61 .var)), (.some (.cells [(.int .i64 (0)), (.int .i64 (0))] 61 .var)), (.some (.cells [(.int .i64 (0)), (.int .i64 (0))] 61 .var))] (by kernel_rfl)) (ObsOK.call (h6 14 [.none, .none, .none, .none, .none, .none, .none, .none, .none, (.some (.cells [(.int .i64 n1), (.int .i64 d1)] 61 .var)), (.some (.cells [(.int .i64 n2), (.int .i64 d2)] 61 .var)), (.some (.cells [(.int .i64 (0)), (.int .i64 (0))] 61 .var)), (.some (.cells [(.int .i64 (0)), (.int .i64 (0))] 61 .var)), (.some (.cells [(.int .i64 (lowN (IntKind.i64.wrap (IntKind.i64.wrap (m * n2) * d1)) (IntKind.i64.wrap (IntKind.i64.wrap (n1 * d2) - IntKind.i64.wrap (n2 * d1))))), (.int .i64 (lowD (IntKind.i64.wrap (IntKind.i64.wrap (m * n2) * d1)) (IntKind.i64.wrap (IntKind.i64.wrap (n1 * d2) - IntKind.i64.wrap (n2 * d1)))))] 61 .var))] (by kernel_rfl)) (ObsOK.nil))))
def f53b_r0 (n1 : Int) (d1 : Int) (n2 : Int) (d2 : Int) (m : Int) : Int := (lowN (IntKind.i64.wrap (IntKind.i64.wrap (m * n2) * d1)) (IntKind.i64.wrap (IntKind.i64.wrap (n1 * d2) - IntKind.i64.wrap (n2 * d1))))
def f53b_r1 (n1 : Int) (d1 : Int) (n2 : Int) (d2 : Int) (m : Int) : Int := (lowD (IntKind.i64.wrap (IntKind.i64.wrap (m * n2) * d1)) (IntKind.i64.wrap (IntKind.i64.wrap (n1 * d2) - IntKind.i64.wrap (n2 * d1))))
def f53b_r2 (n1 : Int) (d1 : Int) (n2 : Int) (d2 : Int) (m : Int) : Int := (lowN (IntKind.i64.wrap (IntKind.i64.wrap (m * n2) * n1)) (IntKind.i64.wrap (IntKind.i64.wrap (n1 * d2) - IntKind.i64.wrap (n2 * d1))))
def f53b_r3 (n1 : Int) (d1 : Int) (n2 : Int) (d2 : Int) (m : Int) : Int := (lowD (IntKind.i64.wrap (IntKind.i64.wrap (m * n2) * n1)) (IntKind.i64.wrap (IntKind.i64.wrap (n1 * d2) - IntKind.i64.wrap (n2 * d1))))
theorem f53b_gives (n1 : Int) (d1 : Int) (n2 : Int) (d2 : Int) (m : Int) (h1 : decide (IntKind.i64.wrap (IntKind.i64.wrap (n1 * d2) - IntKind.i64.wrap (n2 * d1)) ≤ 0) = false) (h5 : ∀ (lim : Nat) (A : Heap), startsB heapN A = true → Gives Tryz.prog envFk lim 110 [.int .i64 (IntKind.i64.wrap (IntKind.i64.wrap (m * n2) * d1)), .int .i64 (IntKind.i64.wrap (IntKind.i64.wrap (n1 * d2) - IntKind.i64.wrap (n2 * d1)))] A (.agg #[.int .i64 (lowN (IntKind.i64.wrap (IntKind.i64.wrap (m * n2) * d1)) (IntKind.i64.wrap (IntKind.i64.wrap (n1 * d2) - IntKind.i64.wrap (n2 * d1)))), .int .i64 (lowD (IntKind.i64.wrap (IntKind.i64.wrap (m * n2) * d1)) (IntKind.i64.wrap (IntKind.i64.wrap (n1 * d2) - IntKind.i64.wrap (n2 * d1))))], A)) (h6 : ∀ (lim : Nat) (A : Heap), startsB heapN A = true → Gives Tryz.prog envFk lim 110 [.int .i64 (IntKind.i64.wrap (IntKind.i64.wrap (m * n2) * n1)), .int .i64 (IntKind.i64.wrap (IntKind.i64.wrap (n1 * d2) - IntKind.i64.wrap (n2 * d1)))] A (.agg #[.int .i64 (lowN (IntKind.i64.wrap (IntKind.i64.wrap (m * n2) * n1)) (IntKind.i64.wrap (IntKind.i64.wrap (n1 * d2) - IntKind.i64.wrap (n2 * d1)))), .int .i64 (lowD (IntKind.i64.wrap (IntKind.i64.wrap (m * n2) * n1)) (IntKind.i64.wrap (IntKind.i64.wrap (n1 * d2) - IntKind.i64.wrap (n2 * d1))))], A)) : Gives Tryz.prog envFk 0 53 [(.agg #[(.int .i64 (n1)), (.int .i64 (d1))]), (.agg #[(.int .i64 (n2)), (.int .i64 (d2))]), (.int .i64 (m))] heapN ((.tuple #[(.agg #[(.int .i64 (f53b_r0 n1 d1 n2 d2 m)), (.int .i64 (f53b_r1 n1 d1 n2 d2 m))]), (.agg #[(.int .i64 (f53b_r2 n1 d1 n2 d2 m)), (.int .i64 (f53b_r3 n1 d1 n2 d2 m))]), (.int .i64 (0))]), heapN) := by
  simp only [f53b_r0, f53b_r1, f53b_r2, f53b_r3, cond_true, cond_false]; exact f53b_p0 n1 d1 n2 d2 m h1 h5 h6
end Go.Proofs.YtkndhhnjgpialaaGreatDoor
