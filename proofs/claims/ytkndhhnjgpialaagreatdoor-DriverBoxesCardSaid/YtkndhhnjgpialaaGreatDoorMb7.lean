/-
Joined: Lj, Gc, Gl, Gm, Gn, Tu, Tv.
-/
import Derived.Test.YtkndhhnjgpialaaGreatDoorMb6
/-
What functions give.
-/
namespace Go.Proofs.YtkndhhnjgpialaaGreatDoor
open Go Go.Abs
theorem f16_p0 (a : Int) (b : Int) (c : Int) (d : Int) (e : Int) (f : Int) (w : Int) : Gives Tryz.prog envJ 0 16 [(.agg #[(.int .i64 (a)), (.int .i64 (b)), (.int .i64 (c)), (.int .i64 (d)), (.int .i64 (e)), (.int .i64 (f))]), (.int .i64 (w))] heap0 ((.tuple #[(.agg #[(.int .i64 (f90_r0 a b c d e f w)), (.int .i64 (f90_r1 a b c d e f w))]), (.int .i64 (f90_r18 a b c d e f w))]), heap0) :=
  Gives.by (n := 1000) (os := []) (os' := []) (by kernel_rfl) (ObsOK.nil)
def f16_r0 (a : Int) (b : Int) (c : Int) (d : Int) (e : Int) (f : Int) (w : Int) : Int := (f90_r0 a b c d e f w)
def f16_r1 (a : Int) (b : Int) (c : Int) (d : Int) (e : Int) (f : Int) (w : Int) : Int := (f90_r1 a b c d e f w)
def f16_r2 (a : Int) (b : Int) (c : Int) (d : Int) (e : Int) (f : Int) (w : Int) : Int := (f90_r18 a b c d e f w)
theorem f16_gives (a : Int) (b : Int) (c : Int) (d : Int) (e : Int) (f : Int) (w : Int) : Gives Tryz.prog envJ 0 16 [(.agg #[(.int .i64 (a)), (.int .i64 (b)), (.int .i64 (c)), (.int .i64 (d)), (.int .i64 (e)), (.int .i64 (f))]), (.int .i64 (w))] heap0 ((.tuple #[(.agg #[(.int .i64 (f16_r0 a b c d e f w)), (.int .i64 (f16_r1 a b c d e f w))]), (.int .i64 (f16_r2 a b c d e f w))]), heap0) := by
  simp only [f16_r0, f16_r1, f16_r2, cond_true, cond_false]; exact f16_p0 a b c d e f w
theorem f17_p0 (a : Int) (b : Int) (c : Int) (d : Int) (e : Int) (f : Int) (w : Int) : Gives Tryz.prog envJ 0 17 [(.agg #[(.int .i64 (a)), (.int .i64 (b)), (.int .i64 (c)), (.int .i64 (d)), (.int .i64 (e)), (.int .i64 (f))]), (.int .i64 (w))] heap0 ((.tuple #[(.agg #[(.int .i64 (f90_r2 a b c d e f w)), (.int .i64 (f90_r3 a b c d e f w)), (.int .i64 (f90_r4 a b c d e f w)), (.int .i64 (f90_r5 a b c d e f w))]), (.int .i64 (f90_r18 a b c d e f w))]), heap0) :=
  Gives.by (n := 1000) (os := []) (os' := []) (by kernel_rfl) (ObsOK.nil)
def f17_r0 (a : Int) (b : Int) (c : Int) (d : Int) (e : Int) (f : Int) (w : Int) : Int := (f90_r2 a b c d e f w)
def f17_r1 (a : Int) (b : Int) (c : Int) (d : Int) (e : Int) (f : Int) (w : Int) : Int := (f90_r3 a b c d e f w)
def f17_r2 (a : Int) (b : Int) (c : Int) (d : Int) (e : Int) (f : Int) (w : Int) : Int := (f90_r4 a b c d e f w)
def f17_r3 (a : Int) (b : Int) (c : Int) (d : Int) (e : Int) (f : Int) (w : Int) : Int := (f90_r5 a b c d e f w)
def f17_r4 (a : Int) (b : Int) (c : Int) (d : Int) (e : Int) (f : Int) (w : Int) : Int := (f90_r18 a b c d e f w)
theorem f17_gives (a : Int) (b : Int) (c : Int) (d : Int) (e : Int) (f : Int) (w : Int) : Gives Tryz.prog envJ 0 17 [(.agg #[(.int .i64 (a)), (.int .i64 (b)), (.int .i64 (c)), (.int .i64 (d)), (.int .i64 (e)), (.int .i64 (f))]), (.int .i64 (w))] heap0 ((.tuple #[(.agg #[(.int .i64 (f17_r0 a b c d e f w)), (.int .i64 (f17_r1 a b c d e f w)), (.int .i64 (f17_r2 a b c d e f w)), (.int .i64 (f17_r3 a b c d e f w))]), (.int .i64 (f17_r4 a b c d e f w))]), heap0) := by
  simp only [f17_r0, f17_r1, f17_r2, f17_r3, f17_r4, cond_true, cond_false]; exact f17_p0 a b c d e f w
theorem f18_p0 (a : Int) (b : Int) (c : Int) (d : Int) (e : Int) (f : Int) (w : Int) : Gives Tryz.prog envJ 0 18 [(.agg #[(.int .i64 (a)), (.int .i64 (b)), (.int .i64 (c)), (.int .i64 (d)), (.int .i64 (e)), (.int .i64 (f))]), (.int .i64 (w))] heap0 ((.tuple #[(.agg #[(.int .i64 (f90_r6 a b c d e f w)), (.int .i64 (f90_r7 a b c d e f w)), (.int .i64 (f90_r8 a b c d e f w)), (.int .i64 (f90_r9 a b c d e f w))]), (.int .i64 (f90_r18 a b c d e f w))]), heap0) :=
  Gives.by (n := 1000) (os := []) (os' := []) (by kernel_rfl) (ObsOK.nil)
def f18_r0 (a : Int) (b : Int) (c : Int) (d : Int) (e : Int) (f : Int) (w : Int) : Int := (f90_r6 a b c d e f w)
def f18_r1 (a : Int) (b : Int) (c : Int) (d : Int) (e : Int) (f : Int) (w : Int) : Int := (f90_r7 a b c d e f w)
def f18_r2 (a : Int) (b : Int) (c : Int) (d : Int) (e : Int) (f : Int) (w : Int) : Int := (f90_r8 a b c d e f w)
def f18_r3 (a : Int) (b : Int) (c : Int) (d : Int) (e : Int) (f : Int) (w : Int) : Int := (f90_r9 a b c d e f w)
def f18_r4 (a : Int) (b : Int) (c : Int) (d : Int) (e : Int) (f : Int) (w : Int) : Int := (f90_r18 a b c d e f w)
theorem f18_gives (a : Int) (b : Int) (c : Int) (d : Int) (e : Int) (f : Int) (w : Int) : Gives Tryz.prog envJ 0 18 [(.agg #[(.int .i64 (a)), (.int .i64 (b)), (.int .i64 (c)), (.int .i64 (d)), (.int .i64 (e)), (.int .i64 (f))]), (.int .i64 (w))] heap0 ((.tuple #[(.agg #[(.int .i64 (f18_r0 a b c d e f w)), (.int .i64 (f18_r1 a b c d e f w)), (.int .i64 (f18_r2 a b c d e f w)), (.int .i64 (f18_r3 a b c d e f w))]), (.int .i64 (f18_r4 a b c d e f w))]), heap0) := by
  simp only [f18_r0, f18_r1, f18_r2, f18_r3, f18_r4, cond_true, cond_false]; exact f18_p0 a b c d e f w
theorem f19_p0 (a : Int) (b : Int) (c : Int) (d : Int) (e : Int) (f : Int) (w : Int) : Gives Tryz.prog envJ 0 19 [(.agg #[(.int .i64 (a)), (.int .i64 (b)), (.int .i64 (c)), (.int .i64 (d)), (.int .i64 (e)), (.int .i64 (f))]), (.int .i64 (w))] heap0 ((.tuple #[(.agg #[(.int .i64 (f90_r14 a b c d e f w)), (.int .i64 (f90_r15 a b c d e f w)), (.int .i64 (f90_r16 a b c d e f w)), (.int .i64 (f90_r17 a b c d e f w))]), (.int .i64 (f90_r18 a b c d e f w))]), heap0) :=
  Gives.by (n := 1000) (os := []) (os' := []) (by kernel_rfl) (ObsOK.nil)
def f19_r0 (a : Int) (b : Int) (c : Int) (d : Int) (e : Int) (f : Int) (w : Int) : Int := (f90_r14 a b c d e f w)
def f19_r1 (a : Int) (b : Int) (c : Int) (d : Int) (e : Int) (f : Int) (w : Int) : Int := (f90_r15 a b c d e f w)
def f19_r2 (a : Int) (b : Int) (c : Int) (d : Int) (e : Int) (f : Int) (w : Int) : Int := (f90_r16 a b c d e f w)
def f19_r3 (a : Int) (b : Int) (c : Int) (d : Int) (e : Int) (f : Int) (w : Int) : Int := (f90_r17 a b c d e f w)
def f19_r4 (a : Int) (b : Int) (c : Int) (d : Int) (e : Int) (f : Int) (w : Int) : Int := (f90_r18 a b c d e f w)
theorem f19_gives (a : Int) (b : Int) (c : Int) (d : Int) (e : Int) (f : Int) (w : Int) : Gives Tryz.prog envJ 0 19 [(.agg #[(.int .i64 (a)), (.int .i64 (b)), (.int .i64 (c)), (.int .i64 (d)), (.int .i64 (e)), (.int .i64 (f))]), (.int .i64 (w))] heap0 ((.tuple #[(.agg #[(.int .i64 (f19_r0 a b c d e f w)), (.int .i64 (f19_r1 a b c d e f w)), (.int .i64 (f19_r2 a b c d e f w)), (.int .i64 (f19_r3 a b c d e f w))]), (.int .i64 (f19_r4 a b c d e f w))]), heap0) := by
  simp only [f19_r0, f19_r1, f19_r2, f19_r3, f19_r4, cond_true, cond_false]; exact f19_p0 a b c d e f w
theorem f33_p0 (a : Int) (b : Int) (c : Int) (d : Int) (e : Int) (f : Int) (g : Int) (h : Int) (i : Int) (j : Int) (w : Int) : Gives Tryz.prog envJ 0 33 [(.agg #[(.int .i64 (a)), (.int .i64 (b)), (.int .i64 (c)), (.int .i64 (d)), (.int .i64 (e)), (.int .i64 (f))]), (.agg #[(.int .i64 (g)), (.int .i64 (h)), (.int .i64 (i)), (.int .i64 (j))]), (.int .i64 (w))] heap0 ((.tuple #[(.agg #[(.int .i64 (f104_r2 a b c d e f g h i j w)), (.int .i64 (f104_r3 a b c d e f g h i j w)), (.int .i64 (f104_r4 a b c d e f g h i j w)), (.int .i64 (f104_r5 a b c d e f g h i j w))]), (.int .i64 (f104_r18 a b c d e f g h i j w))]), heap0) :=
  Gives.by (n := 1000) (os := []) (os' := []) (by kernel_rfl) (ObsOK.nil)
def f33_r0 (a : Int) (b : Int) (c : Int) (d : Int) (e : Int) (f : Int) (g : Int) (h : Int) (i : Int) (j : Int) (w : Int) : Int := (f104_r2 a b c d e f g h i j w)
def f33_r1 (a : Int) (b : Int) (c : Int) (d : Int) (e : Int) (f : Int) (g : Int) (h : Int) (i : Int) (j : Int) (w : Int) : Int := (f104_r3 a b c d e f g h i j w)
def f33_r2 (a : Int) (b : Int) (c : Int) (d : Int) (e : Int) (f : Int) (g : Int) (h : Int) (i : Int) (j : Int) (w : Int) : Int := (f104_r4 a b c d e f g h i j w)
def f33_r3 (a : Int) (b : Int) (c : Int) (d : Int) (e : Int) (f : Int) (g : Int) (h : Int) (i : Int) (j : Int) (w : Int) : Int := (f104_r5 a b c d e f g h i j w)
def f33_r4 (a : Int) (b : Int) (c : Int) (d : Int) (e : Int) (f : Int) (g : Int) (h : Int) (i : Int) (j : Int) (w : Int) : Int := (f104_r18 a b c d e f g h i j w)
theorem f33_gives (a : Int) (b : Int) (c : Int) (d : Int) (e : Int) (f : Int) (g : Int) (h : Int) (i : Int) (j : Int) (w : Int) : Gives Tryz.prog envJ 0 33 [(.agg #[(.int .i64 (a)), (.int .i64 (b)), (.int .i64 (c)), (.int .i64 (d)), (.int .i64 (e)), (.int .i64 (f))]), (.agg #[(.int .i64 (g)), (.int .i64 (h)), (.int .i64 (i)), (.int .i64 (j))]), (.int .i64 (w))] heap0 ((.tuple #[(.agg #[(.int .i64 (f33_r0 a b c d e f g h i j w)), (.int .i64 (f33_r1 a b c d e f g h i j w)), (.int .i64 (f33_r2 a b c d e f g h i j w)), (.int .i64 (f33_r3 a b c d e f g h i j w))]), (.int .i64 (f33_r4 a b c d e f g h i j w))]), heap0) := by
  simp only [f33_r0, f33_r1, f33_r2, f33_r3, f33_r4, cond_true, cond_false]; exact f33_p0 a b c d e f g h i j w
theorem f34_p0 (a : Int) (b : Int) (c : Int) (d : Int) (e : Int) (f : Int) (g : Int) (h : Int) (i : Int) (j : Int) (w : Int) : Gives Tryz.prog envJ 0 34 [(.agg #[(.int .i64 (a)), (.int .i64 (b)), (.int .i64 (c)), (.int .i64 (d)), (.int .i64 (e)), (.int .i64 (f))]), (.agg #[(.int .i64 (g)), (.int .i64 (h)), (.int .i64 (i)), (.int .i64 (j))]), (.int .i64 (w))] heap0 ((.tuple #[(.agg #[(.int .i64 (f104_r14 a b c d e f g h i j w)), (.int .i64 (f104_r15 a b c d e f g h i j w)), (.int .i64 (f104_r16 a b c d e f g h i j w)), (.int .i64 (f104_r17 a b c d e f g h i j w))]), (.int .i64 (f104_r18 a b c d e f g h i j w))]), heap0) :=
  Gives.by (n := 1000) (os := []) (os' := []) (by kernel_rfl) (ObsOK.nil)
def f34_r0 (a : Int) (b : Int) (c : Int) (d : Int) (e : Int) (f : Int) (g : Int) (h : Int) (i : Int) (j : Int) (w : Int) : Int := (f104_r14 a b c d e f g h i j w)
def f34_r1 (a : Int) (b : Int) (c : Int) (d : Int) (e : Int) (f : Int) (g : Int) (h : Int) (i : Int) (j : Int) (w : Int) : Int := (f104_r15 a b c d e f g h i j w)
def f34_r2 (a : Int) (b : Int) (c : Int) (d : Int) (e : Int) (f : Int) (g : Int) (h : Int) (i : Int) (j : Int) (w : Int) : Int := (f104_r16 a b c d e f g h i j w)
def f34_r3 (a : Int) (b : Int) (c : Int) (d : Int) (e : Int) (f : Int) (g : Int) (h : Int) (i : Int) (j : Int) (w : Int) : Int := (f104_r17 a b c d e f g h i j w)
def f34_r4 (a : Int) (b : Int) (c : Int) (d : Int) (e : Int) (f : Int) (g : Int) (h : Int) (i : Int) (j : Int) (w : Int) : Int := (f104_r18 a b c d e f g h i j w)
theorem f34_gives (a : Int) (b : Int) (c : Int) (d : Int) (e : Int) (f : Int) (g : Int) (h : Int) (i : Int) (j : Int) (w : Int) : Gives Tryz.prog envJ 0 34 [(.agg #[(.int .i64 (a)), (.int .i64 (b)), (.int .i64 (c)), (.int .i64 (d)), (.int .i64 (e)), (.int .i64 (f))]), (.agg #[(.int .i64 (g)), (.int .i64 (h)), (.int .i64 (i)), (.int .i64 (j))]), (.int .i64 (w))] heap0 ((.tuple #[(.agg #[(.int .i64 (f34_r0 a b c d e f g h i j w)), (.int .i64 (f34_r1 a b c d e f g h i j w)), (.int .i64 (f34_r2 a b c d e f g h i j w)), (.int .i64 (f34_r3 a b c d e f g h i j w))]), (.int .i64 (f34_r4 a b c d e f g h i j w))]), heap0) := by
  simp only [f34_r0, f34_r1, f34_r2, f34_r3, f34_r4, cond_true, cond_false]; exact f34_p0 a b c d e f g h i j w
theorem f35_p0 (a : Int) (b : Int) (c : Int) (d : Int) (e : Int) (f : Int) (g : Int) (h : Int) (i : Int) (j : Int) (w : Int) : Gives Tryz.prog envJ 0 35 [(.agg #[(.int .i64 (a)), (.int .i64 (b)), (.int .i64 (c)), (.int .i64 (d)), (.int .i64 (e)), (.int .i64 (f))]), (.agg #[(.int .i64 (g)), (.int .i64 (h)), (.int .i64 (i)), (.int .i64 (j))]), (.int .i64 (w))] heap0 ((.tuple #[(.agg #[(.int .i64 (f104_r6 a b c d e f g h i j w)), (.int .i64 (f104_r7 a b c d e f g h i j w)), (.int .i64 (f104_r8 a b c d e f g h i j w)), (.int .i64 (f104_r9 a b c d e f g h i j w)), (.int .i64 (f104_r10 a b c d e f g h i j w)), (.int .i64 (f104_r11 a b c d e f g h i j w)), (.int .i64 (f104_r12 a b c d e f g h i j w)), (.int .i64 (f104_r13 a b c d e f g h i j w))]), (.int .i64 (f104_r18 a b c d e f g h i j w))]), heap0) :=
  Gives.by (n := 1000) (os := []) (os' := []) (by kernel_rfl) (ObsOK.nil)
def f35_r0 (a : Int) (b : Int) (c : Int) (d : Int) (e : Int) (f : Int) (g : Int) (h : Int) (i : Int) (j : Int) (w : Int) : Int := (f104_r6 a b c d e f g h i j w)
def f35_r1 (a : Int) (b : Int) (c : Int) (d : Int) (e : Int) (f : Int) (g : Int) (h : Int) (i : Int) (j : Int) (w : Int) : Int := (f104_r7 a b c d e f g h i j w)
def f35_r2 (a : Int) (b : Int) (c : Int) (d : Int) (e : Int) (f : Int) (g : Int) (h : Int) (i : Int) (j : Int) (w : Int) : Int := (f104_r8 a b c d e f g h i j w)
def f35_r3 (a : Int) (b : Int) (c : Int) (d : Int) (e : Int) (f : Int) (g : Int) (h : Int) (i : Int) (j : Int) (w : Int) : Int := (f104_r9 a b c d e f g h i j w)
def f35_r4 (a : Int) (b : Int) (c : Int) (d : Int) (e : Int) (f : Int) (g : Int) (h : Int) (i : Int) (j : Int) (w : Int) : Int := (f104_r10 a b c d e f g h i j w)
def f35_r5 (a : Int) (b : Int) (c : Int) (d : Int) (e : Int) (f : Int) (g : Int) (h : Int) (i : Int) (j : Int) (w : Int) : Int := (f104_r11 a b c d e f g h i j w)
def f35_r6 (a : Int) (b : Int) (c : Int) (d : Int) (e : Int) (f : Int) (g : Int) (h : Int) (i : Int) (j : Int) (w : Int) : Int := (f104_r12 a b c d e f g h i j w)
def f35_r7 (a : Int) (b : Int) (c : Int) (d : Int) (e : Int) (f : Int) (g : Int) (h : Int) (i : Int) (j : Int) (w : Int) : Int := (f104_r13 a b c d e f g h i j w)
def f35_r8 (a : Int) (b : Int) (c : Int) (d : Int) (e : Int) (f : Int) (g : Int) (h : Int) (i : Int) (j : Int) (w : Int) : Int := (f104_r18 a b c d e f g h i j w)
theorem f35_gives (a : Int) (b : Int) (c : Int) (d : Int) (e : Int) (f : Int) (g : Int) (h : Int) (i : Int) (j : Int) (w : Int) : Gives Tryz.prog envJ 0 35 [(.agg #[(.int .i64 (a)), (.int .i64 (b)), (.int .i64 (c)), (.int .i64 (d)), (.int .i64 (e)), (.int .i64 (f))]), (.agg #[(.int .i64 (g)), (.int .i64 (h)), (.int .i64 (i)), (.int .i64 (j))]), (.int .i64 (w))] heap0 ((.tuple #[(.agg #[(.int .i64 (f35_r0 a b c d e f g h i j w)), (.int .i64 (f35_r1 a b c d e f g h i j w)), (.int .i64 (f35_r2 a b c d e f g h i j w)), (.int .i64 (f35_r3 a b c d e f g h i j w)), (.int .i64 (f35_r4 a b c d e f g h i j w)), (.int .i64 (f35_r5 a b c d e f g h i j w)), (.int .i64 (f35_r6 a b c d e f g h i j w)), (.int .i64 (f35_r7 a b c d e f g h i j w))]), (.int .i64 (f35_r8 a b c d e f g h i j w))]), heap0) := by
  simp only [f35_r0, f35_r1, f35_r2, f35_r3, f35_r4, f35_r5, f35_r6, f35_r7, f35_r8, cond_true, cond_false]; exact f35_p0 a b c d e f g h i j w
def B_envK (f : FuncId) (args : List Value) : Option (Heap × Value) :=
  if f == 16 then
    match args with
    | [(.agg ⟨[(.int .i64 (a)), (.int .i64 (b)), (.int .i64 (c)), (.int .i64 (d)), (.int .i64 (e)), (.int .i64 (f))]⟩), (.int .i64 (w))] => some (heap0, (.tuple #[(.agg #[(.int .i64 (f16_r0 a b c d e f w)), (.int .i64 (f16_r1 a b c d e f w))]), (.int .i64 (f16_r2 a b c d e f w))]))
    | _ => none
  else  if f == 17 then
    match args with
    | [(.agg ⟨[(.int .i64 (a)), (.int .i64 (b)), (.int .i64 (c)), (.int .i64 (d)), (.int .i64 (e)), (.int .i64 (f))]⟩), (.int .i64 (w))] => some (heap0, (.tuple #[(.agg #[(.int .i64 (f17_r0 a b c d e f w)), (.int .i64 (f17_r1 a b c d e f w)), (.int .i64 (f17_r2 a b c d e f w)), (.int .i64 (f17_r3 a b c d e f w))]), (.int .i64 (f17_r4 a b c d e f w))]))
    | _ => none
  else  if f == 18 then
    match args with
    | [(.agg ⟨[(.int .i64 (a)), (.int .i64 (b)), (.int .i64 (c)), (.int .i64 (d)), (.int .i64 (e)), (.int .i64 (f))]⟩), (.int .i64 (w))] => some (heap0, (.tuple #[(.agg #[(.int .i64 (f18_r0 a b c d e f w)), (.int .i64 (f18_r1 a b c d e f w)), (.int .i64 (f18_r2 a b c d e f w)), (.int .i64 (f18_r3 a b c d e f w))]), (.int .i64 (f18_r4 a b c d e f w))]))
    | _ => none
  else  if f == 19 then
    match args with
    | [(.agg ⟨[(.int .i64 (a)), (.int .i64 (b)), (.int .i64 (c)), (.int .i64 (d)), (.int .i64 (e)), (.int .i64 (f))]⟩), (.int .i64 (w))] => some (heap0, (.tuple #[(.agg #[(.int .i64 (f19_r0 a b c d e f w)), (.int .i64 (f19_r1 a b c d e f w)), (.int .i64 (f19_r2 a b c d e f w)), (.int .i64 (f19_r3 a b c d e f w))]), (.int .i64 (f19_r4 a b c d e f w))]))
    | _ => none
  else  if f == 33 then
    match args with
    | [(.agg ⟨[(.int .i64 (a)), (.int .i64 (b)), (.int .i64 (c)), (.int .i64 (d)), (.int .i64 (e)), (.int .i64 (f))]⟩), (.agg ⟨[(.int .i64 (g)), (.int .i64 (h)), (.int .i64 (i)), (.int .i64 (j))]⟩), (.int .i64 (w))] => some (heap0, (.tuple #[(.agg #[(.int .i64 (f33_r0 a b c d e f g h i j w)), (.int .i64 (f33_r1 a b c d e f g h i j w)), (.int .i64 (f33_r2 a b c d e f g h i j w)), (.int .i64 (f33_r3 a b c d e f g h i j w))]), (.int .i64 (f33_r4 a b c d e f g h i j w))]))
    | _ => none
  else  if f == 34 then
    match args with
    | [(.agg ⟨[(.int .i64 (a)), (.int .i64 (b)), (.int .i64 (c)), (.int .i64 (d)), (.int .i64 (e)), (.int .i64 (f))]⟩), (.agg ⟨[(.int .i64 (g)), (.int .i64 (h)), (.int .i64 (i)), (.int .i64 (j))]⟩), (.int .i64 (w))] => some (heap0, (.tuple #[(.agg #[(.int .i64 (f34_r0 a b c d e f g h i j w)), (.int .i64 (f34_r1 a b c d e f g h i j w)), (.int .i64 (f34_r2 a b c d e f g h i j w)), (.int .i64 (f34_r3 a b c d e f g h i j w))]), (.int .i64 (f34_r4 a b c d e f g h i j w))]))
    | _ => none
  else  if f == 35 then
    match args with
    | [(.agg ⟨[(.int .i64 (a)), (.int .i64 (b)), (.int .i64 (c)), (.int .i64 (d)), (.int .i64 (e)), (.int .i64 (f))]⟩), (.agg ⟨[(.int .i64 (g)), (.int .i64 (h)), (.int .i64 (i)), (.int .i64 (j))]⟩), (.int .i64 (w))] => some (heap0, (.tuple #[(.agg #[(.int .i64 (f35_r0 a b c d e f g h i j w)), (.int .i64 (f35_r1 a b c d e f g h i j w)), (.int .i64 (f35_r2 a b c d e f g h i j w)), (.int .i64 (f35_r3 a b c d e f g h i j w)), (.int .i64 (f35_r4 a b c d e f g h i j w)), (.int .i64 (f35_r5 a b c d e f g h i j w)), (.int .i64 (f35_r6 a b c d e f g h i j w)), (.int .i64 (f35_r7 a b c d e f g h i j w))]), (.int .i64 (f35_r8 a b c d e f g h i j w))]))
    | _ => none
  else none
noncomputable def envK : Env := envJ.with (baseKnown B_envK)
theorem envK_ok : EnvOK Tryz.prog 9 envK := env_base prog_ok envJ_ok fun f args H v h => by
  unfold B_envK at h
  split at h
  · rename_i hf
    have hf : f = 16 := by simpa using hf
    subst hf
    split at h
    · cases h; exact heap0_ok (f16_gives _ _ _ _ _ _ _)
    · cases h
  · skip
    split at h
    · rename_i hf
      have hf : f = 17 := by simpa using hf
      subst hf
      split at h
      · cases h; exact heap0_ok (f17_gives _ _ _ _ _ _ _)
      · cases h
    · skip
      split at h
      · rename_i hf
        have hf : f = 18 := by simpa using hf
        subst hf
        split at h
        · cases h; exact heap0_ok (f18_gives _ _ _ _ _ _ _)
        · cases h
      · skip
        split at h
        · rename_i hf
          have hf : f = 19 := by simpa using hf
          subst hf
          split at h
          · cases h; exact heap0_ok (f19_gives _ _ _ _ _ _ _)
          · cases h
        · skip
          split at h
          · rename_i hf
            have hf : f = 33 := by simpa using hf
            subst hf
            split at h
            · cases h; exact heap0_ok (f33_gives _ _ _ _ _ _ _ _ _ _ _)
            · cases h
          · skip
            split at h
            · rename_i hf
              have hf : f = 34 := by simpa using hf
              subst hf
              split at h
              · cases h; exact heap0_ok (f34_gives _ _ _ _ _ _ _ _ _ _ _)
              · cases h
            · skip
              split at h
              · rename_i hf
                have hf : f = 35 := by simpa using hf
                subst hf
                split at h
                · cases h; exact heap0_ok (f35_gives _ _ _ _ _ _ _ _ _ _ _)
                · cases h
              · skip
                cases h
end Go.Proofs.YtkndhhnjgpialaaGreatDoor
/-
Pieces of code, and Euclid's algorithm.
-/
namespace Go.Abs
open Go
/-- A block of code, by its number. -/
def findBlk (id : Nat) : Code → Option Code
  | .block i b => if i == id then some (.block i b) else findBlk id b
  | .seq a b => match findBlk id a with
    | some c => some c
    | none => findBlk id b
  | .cond _ a b => match findBlk id a with
    | some c => some c
    | none => findBlk id b
  | .loop b => findBlk id b
  | .scope b => findBlk id b
  | _ => none
def blk (id : Nat) (c : Code) : Code := (findBlk id c).getD .skip
def bodyB : Code → Code
  | .block _ b => b
  | c => c
def bodyL : Code → Code
  | .loop b => b
  | c => c
/-- The round of the loop in a block. -/
def round (id : Nat) (c : Code) : Code := bodyL (bodyB (blk id c))
/-- Euclid's algorithm, as the loops run it. -/
def gcdE (a b : Int) : Int := if h : b = 0 then a else gcdE b (a.tmod b)
termination_by b.natAbs
decreasing_by
  have := Int.natAbs_tmod a b
  rw [this]
  exact Nat.mod_lt _ (by omega)
theorem gcdE_zero (a : Int) : gcdE a 0 = a := by rw [gcdE]; simp
theorem gcdE_step {a b : Int} (h : b ≠ 0) : gcdE a b = gcdE b (a.tmod b) := by rw [gcdE]; simp [h]
theorem gcdE_abs (a b : Int) : (gcdE a b).natAbs = Int.gcd a b := by
  induction hn : b.natAbs using Nat.strongRecOn generalizing a b with
  | ind n ih =>
    by_cases h : b = 0
    · subst h; rw [gcdE_zero]; simp
    · rw [gcdE_step h, ih (a.tmod b).natAbs (by rw [← hn, Int.natAbs_tmod]; exact Nat.mod_lt _ (by omega)) _ _ rfl]
      simp only [Int.gcd, Int.natAbs_tmod]
      rw [Nat.gcd_comm, ← Nat.gcd_rec, Nat.gcd_comm]
theorem gcdE_nonneg {a b : Int} (ha : 0 ≤ a) (hb : 0 ≤ b) : 0 ≤ gcdE a b := by
  induction hn : b.natAbs using Nat.strongRecOn generalizing a b with
  | ind n ih =>
    by_cases h : b = 0
    · subst h; rw [gcdE_zero]; exact ha
    · rw [gcdE_step h]
      exact ih (a.tmod b).natAbs (by rw [← hn, Int.natAbs_tmod]; exact Nat.mod_lt _ (by omega)) hb (Int.tmod_nonneg b ha) rfl
theorem gcdE_eq {a b : Int} (ha : 0 ≤ a) (hb : 0 ≤ b) : gcdE a b = Int.gcd a b := by
  have h1 := gcdE_abs a b
  have h2 := gcdE_nonneg ha hb
  omega
theorem Runs.ofLoop {P : Program} {E : Env} {lim id : Nat} {c : Code} {k : List It} {l : List Value} {A : Heap} {r : List Value × Heap × Option Code} (h : Runs P E lim (.inLoop c :: .inBlock id :: k) l A r) : Runs P E lim (.code (.block id (.loop c)) :: k) l A r := by
  obtain ⟨n, h⟩ := h
  cases n with
  | zero => cases h
  | succ n => exact Runs.block (Runs.loop ⟨n, h⟩)
theorem Runs.loopAgain {P : Program} {E : Env} {lim : Nat} {c : Code} {k : List It} {l l1 : List Value} {A A1 : Heap} {r : List Value × Heap × Option Code} (h : Runs P E lim [.code c] l A (l1, A1, none)) (h2 : Runs P E lim (.inLoop c :: k) l1 A1 r) : Runs P E lim (.inLoop c :: k) l A r :=
  Runs.inLoop (h.app h2)
end Go.Abs
namespace Go.Proofs.YtkndhhnjgpialaaGreatDoor
open Go Go.Abs
def HN (X : Heap) : Heap := none :: none :: none :: none :: none :: none :: none :: none :: none :: X
end Go.Proofs.YtkndhhnjgpialaaGreatDoor
/-
Ratios in lowest terms: the loops of Euclid's algorithm.
-/
namespace Go.Proofs.YtkndhhnjgpialaaGreatDoor
open Go Go.Abs
theorem s107_p0 (v0 v1 v2 v5 v6 v7 v8 v9 v10 v11 v12 v13 v14 v15 v16 v17 v18 v19 v20 v21 v22 v23 v24 v25 v26 v27 : Value) (a b : Int) (r0 r1 : Option ARow) (hb : (b != 0) = true) (hr : aBin Tryz.prog .rem 3 (.tmp 16) (.tmp 17) (.int .i64 a) (.int .i64 b) = some (.int .i64 (a.tmod b))) : Runs Tryz.prog envK 9 [.code (round 0 (bodyOf 107))] [v0, v1, v2, .int .i64 a, .int .i64 b, v5, v6, v7, v8, v9, v10, v11, v12, v13, v14, v15, v16, v17, v18, v19, v20, v21, v22, v23, v24, v25, v26, v27] (HN [r0, r1]) ([v0, v1, v2, (.int .i64 b), (.int .i64 (a.tmod b)), v5, v6, v7, v8, v9, v10, v11, v12, (.int .i64 b), (.bool (b != 0)), (.int .i64 b), (.int .i64 a), (.int .i64 b), (.int .i64 (a.tmod b)), v19, v20, v21, v22, v23, v24, v25, v26, v27], (HN [r0, r1]), none) :=
  Runs.by (n := 1000) (fid := 107) (os := [.br 107 30 true, .op 107 19 (.int .i64 (a.tmod b))]) (os' := []) (by kernel_rfl) (ObsOK.cond hb (ObsOK.val hr (ObsOK.nil)))
theorem e107_p0 (v0 v1 v2 v5 v6 v7 v8 v9 v10 v11 v12 v13 v14 v15 v16 v17 v18 v19 v20 v21 v22 v23 v24 v25 v26 v27 : Value) (a b : Int) (r0 r1 : Option ARow) (hb : (b != 0) = false) : Runs Tryz.prog envK 9 [.code (round 0 (bodyOf 107)), .inLoop (round 0 (bodyOf 107)), .inBlock 0] [v0, v1, v2, .int .i64 a, .int .i64 b, v5, v6, v7, v8, v9, v10, v11, v12, v13, v14, v15, v16, v17, v18, v19, v20, v21, v22, v23, v24, v25, v26, v27] (HN [r0, r1]) ([v0, v1, v2, (.int .i64 a), (.int .i64 b), v5, v6, v7, v8, v9, v10, v11, v12, (.int .i64 b), (.bool (b != 0)), v15, v16, v17, v18, v19, v20, v21, v22, v23, v24, v25, v26, v27], (HN [r0, r1]), none) :=
  Runs.by (n := 1000) (fid := 107) (os := [.br 107 30 false]) (os' := []) (by kernel_rfl) (ObsOK.cond hb (ObsOK.nil))
theorem s110_p0 (v0 v1 v2 v3 v4 v7 v8 v9 v10 v11 v12 v13 v14 v15 v16 v17 v18 v19 v20 v21 v22 v23 v24 v25 v26 v27 v28 v29 v30 : Value) (a b : Int) (r0 : Option ARow) (hb : (b != 0) = true) (hr : aBin Tryz.prog .rem 3 (.tmp 21) (.tmp 22) (.int .i64 a) (.int .i64 b) = some (.int .i64 (a.tmod b))) : Runs Tryz.prog envK 9 [.code (round 0 (bodyOf 110))] [v0, v1, v2, v3, v4, .int .i64 a, .int .i64 b, v7, v8, v9, v10, v11, v12, v13, v14, v15, v16, v17, v18, v19, v20, v21, v22, v23, v24, v25, v26, v27, v28, v29, v30] (HN [r0]) ([v0, v1, v2, v3, v4, (.int .i64 b), (.int .i64 (a.tmod b)), v7, v8, v9, v10, v11, v12, v13, v14, v15, v16, v17, (.int .i64 b), (.bool (b != 0)), (.int .i64 b), (.int .i64 a), (.int .i64 b), (.int .i64 (a.tmod b)), v24, v25, v26, v27, v28, v29, v30], (HN [r0]), none) :=
  Runs.by (n := 1000) (fid := 110) (os := [.br 110 40 true, .op 110 24 (.int .i64 (a.tmod b))]) (os' := []) (by kernel_rfl) (ObsOK.cond hb (ObsOK.val hr (ObsOK.nil)))
theorem e110_p0 (v0 v1 v2 v3 v4 v7 v8 v9 v10 v11 v12 v13 v14 v15 v16 v17 v18 v19 v20 v21 v22 v23 v24 v25 v26 v27 v28 v29 v30 : Value) (a b : Int) (r0 : Option ARow) (hb : (b != 0) = false) : Runs Tryz.prog envK 9 [.code (round 0 (bodyOf 110)), .inLoop (round 0 (bodyOf 110)), .inBlock 0] [v0, v1, v2, v3, v4, .int .i64 a, .int .i64 b, v7, v8, v9, v10, v11, v12, v13, v14, v15, v16, v17, v18, v19, v20, v21, v22, v23, v24, v25, v26, v27, v28, v29, v30] (HN [r0]) ([v0, v1, v2, v3, v4, (.int .i64 a), (.int .i64 b), v7, v8, v9, v10, v11, v12, v13, v14, v15, v16, v17, (.int .i64 b), (.bool (b != 0)), v20, v21, v22, v23, v24, v25, v26, v27, v28, v29, v30], (HN [r0]), none) :=
  Runs.by (n := 1000) (fid := 110) (os := [.br 110 40 false]) (os' := []) (by kernel_rfl) (ObsOK.cond hb (ObsOK.nil))
theorem loop107 : ∀ (n : Nat) (v0 v1 v2 v5 v6 v7 v8 v9 v10 v11 v12 v13 v14 v15 v16 v17 v18 v19 v20 v21 v22 v23 v24 v25 v26 v27 : Value) (a b : Int) (r0 r1 : Option ARow), b.natAbs = n → ∃ w13 w14 w15 w16 w17 w18 : Value, Runs Tryz.prog envK 9 [.inLoop (round 0 (bodyOf 107)), .inBlock 0] [v0, v1, v2, .int .i64 a, .int .i64 b, v5, v6, v7, v8, v9, v10, v11, v12, v13, v14, v15, v16, v17, v18, v19, v20, v21, v22, v23, v24, v25, v26, v27] (HN [r0, r1]) ([v0, v1, v2, .int .i64 (gcdE a b), .int .i64 0, v5, v6, v7, v8, v9, v10, v11, v12, w13, w14, w15, w16, w17, w18, v19, v20, v21, v22, v23, v24, v25, v26, v27], (HN [r0, r1]), none) := by
  intro n
  induction n using Nat.strongRecOn with
  | ind n ih =>
    intro v0 v1 v2 v5 v6 v7 v8 v9 v10 v11 v12 v13 v14 v15 v16 v17 v18 v19 v20 v21 v22 v23 v24 v25 v26 v27 a b r0 r1 hn
    by_cases hb : b = 0
    · subst hb
      rw [gcdE_zero]
      exact ⟨.int .i64 0, .bool ((0 : Int) != 0), v15, v16, v17, v18, Runs.inLoop (e107_p0 v0 v1 v2 v5 v6 v7 v8 v9 v10 v11 v12 v13 v14 v15 v16 v17 v18 v19 v20 v21 v22 v23 v24 v25 v26 v27 a 0 r0 r1 rfl)⟩
    · have hb' : (b != 0) = true := by simpa using hb
      obtain ⟨w13, w14, w15, w16, w17, w18, h⟩ := ih (a.tmod b).natAbs (by rw [← hn, Int.natAbs_tmod]; exact Nat.mod_lt _ (by omega)) v0 v1 v2 v5 v6 v7 v8 v9 v10 v11 v12 (.int .i64 b) (.bool (b != 0)) (.int .i64 b) (.int .i64 a) (.int .i64 b) (.int .i64 (a.tmod b)) v19 v20 v21 v22 v23 v24 v25 v26 v27 b (a.tmod b) r0 r1 rfl
      rw [gcdE_step hb]
      exact ⟨w13, w14, w15, w16, w17, w18, Runs.loopAgain (s107_p0 v0 v1 v2 v5 v6 v7 v8 v9 v10 v11 v12 v13 v14 v15 v16 v17 v18 v19 v20 v21 v22 v23 v24 v25 v26 v27 a b r0 r1 hb' (aBin_rem hb)) h⟩
theorem blkEq107 : blk 0 (bodyOf 107) = .block 0 (.loop (round 0 (bodyOf 107))) := by kernel_rfl
theorem blk107 {v0 v1 v2 v5 v6 v7 v8 v9 v10 v11 v12 v13 v14 v15 v16 v17 v18 v19 v20 v21 v22 v23 v24 v25 v26 v27 : Value} {a b : Int} {r0 r1 : Option ARow} : ∃ w13 w14 w15 w16 w17 w18 : Value, Runs Tryz.prog envK 9 [.code (blk 0 (bodyOf 107))] [v0, v1, v2, .int .i64 a, .int .i64 b, v5, v6, v7, v8, v9, v10, v11, v12, v13, v14, v15, v16, v17, v18, v19, v20, v21, v22, v23, v24, v25, v26, v27] (HN [r0, r1]) ([v0, v1, v2, .int .i64 (gcdE a b), .int .i64 0, v5, v6, v7, v8, v9, v10, v11, v12, w13, w14, w15, w16, w17, w18, v19, v20, v21, v22, v23, v24, v25, v26, v27], (HN [r0, r1]), none) := by
  obtain ⟨w13, w14, w15, w16, w17, w18, h⟩ := loop107 _ v0 v1 v2 v5 v6 v7 v8 v9 v10 v11 v12 v13 v14 v15 v16 v17 v18 v19 v20 v21 v22 v23 v24 v25 v26 v27 a b r0 r1 rfl
  rw [blkEq107]
  exact ⟨w13, w14, w15, w16, w17, w18, Runs.ofLoop h⟩
theorem loop110 : ∀ (n : Nat) (v0 v1 v2 v3 v4 v7 v8 v9 v10 v11 v12 v13 v14 v15 v16 v17 v18 v19 v20 v21 v22 v23 v24 v25 v26 v27 v28 v29 v30 : Value) (a b : Int) (r0 : Option ARow), b.natAbs = n → ∃ w18 w19 w20 w21 w22 w23 : Value, Runs Tryz.prog envK 9 [.inLoop (round 0 (bodyOf 110)), .inBlock 0] [v0, v1, v2, v3, v4, .int .i64 a, .int .i64 b, v7, v8, v9, v10, v11, v12, v13, v14, v15, v16, v17, v18, v19, v20, v21, v22, v23, v24, v25, v26, v27, v28, v29, v30] (HN [r0]) ([v0, v1, v2, v3, v4, .int .i64 (gcdE a b), .int .i64 0, v7, v8, v9, v10, v11, v12, v13, v14, v15, v16, v17, w18, w19, w20, w21, w22, w23, v24, v25, v26, v27, v28, v29, v30], (HN [r0]), none) := by
  intro n
  induction n using Nat.strongRecOn with
  | ind n ih =>
    intro v0 v1 v2 v3 v4 v7 v8 v9 v10 v11 v12 v13 v14 v15 v16 v17 v18 v19 v20 v21 v22 v23 v24 v25 v26 v27 v28 v29 v30 a b r0 hn
    by_cases hb : b = 0
    · subst hb
      rw [gcdE_zero]
      exact ⟨.int .i64 0, .bool ((0 : Int) != 0), v20, v21, v22, v23, Runs.inLoop (e110_p0 v0 v1 v2 v3 v4 v7 v8 v9 v10 v11 v12 v13 v14 v15 v16 v17 v18 v19 v20 v21 v22 v23 v24 v25 v26 v27 v28 v29 v30 a 0 r0 rfl)⟩
    · have hb' : (b != 0) = true := by simpa using hb
      obtain ⟨w18, w19, w20, w21, w22, w23, h⟩ := ih (a.tmod b).natAbs (by rw [← hn, Int.natAbs_tmod]; exact Nat.mod_lt _ (by omega)) v0 v1 v2 v3 v4 v7 v8 v9 v10 v11 v12 v13 v14 v15 v16 v17 (.int .i64 b) (.bool (b != 0)) (.int .i64 b) (.int .i64 a) (.int .i64 b) (.int .i64 (a.tmod b)) v24 v25 v26 v27 v28 v29 v30 b (a.tmod b) r0 rfl
      rw [gcdE_step hb]
      exact ⟨w18, w19, w20, w21, w22, w23, Runs.loopAgain (s110_p0 v0 v1 v2 v3 v4 v7 v8 v9 v10 v11 v12 v13 v14 v15 v16 v17 v18 v19 v20 v21 v22 v23 v24 v25 v26 v27 v28 v29 v30 a b r0 hb' (aBin_rem hb)) h⟩
theorem blkEq110 : blk 0 (bodyOf 110) = .block 0 (.loop (round 0 (bodyOf 110))) := by kernel_rfl
theorem blk110 {v0 v1 v2 v3 v4 v7 v8 v9 v10 v11 v12 v13 v14 v15 v16 v17 v18 v19 v20 v21 v22 v23 v24 v25 v26 v27 v28 v29 v30 : Value} {a b : Int} {r0 : Option ARow} : ∃ w18 w19 w20 w21 w22 w23 : Value, Runs Tryz.prog envK 9 [.code (blk 0 (bodyOf 110))] [v0, v1, v2, v3, v4, .int .i64 a, .int .i64 b, v7, v8, v9, v10, v11, v12, v13, v14, v15, v16, v17, v18, v19, v20, v21, v22, v23, v24, v25, v26, v27, v28, v29, v30] (HN [r0]) ([v0, v1, v2, v3, v4, .int .i64 (gcdE a b), .int .i64 0, v7, v8, v9, v10, v11, v12, v13, v14, v15, v16, v17, w18, w19, w20, w21, w22, w23, v24, v25, v26, v27, v28, v29, v30], (HN [r0]), none) := by
  obtain ⟨w18, w19, w20, w21, w22, w23, h⟩ := loop110 _ v0 v1 v2 v3 v4 v7 v8 v9 v10 v11 v12 v13 v14 v15 v16 v17 v18 v19 v20 v21 v22 v23 v24 v25 v26 v27 v28 v29 v30 a b r0 rfl
  rw [blkEq110]
  exact ⟨w18, w19, w20, w21, w22, w23, Runs.ofLoop h⟩
end Go.Proofs.YtkndhhnjgpialaaGreatDoor
/-
Ratios in lowest terms: what the program and the reference make of a numerator and a denominator above 0.
-/
namespace Go.Proofs.YtkndhhnjgpialaaGreatDoor
open Go Go.Abs
theorem low107_p0 (p q : Int) (w13 w14 w15 w16 w17 w18 : Value) (hrun : Runs Tryz.prog envK 9 [.code (blk 0 (bodyOf 107))] [(.agg #[(.int .i64 p), (.int .i64 q)]), (.pointer (.some (Go.Addr.mk 9 0 .none))), (.pointer (.some (Go.Addr.mk 10 0 .none))), (.int .i64 q), (.int .i64 (if IntKind.i64.wrap (0 - p) > p then IntKind.i64.wrap (0 - p) else p)), (.pointer (.some (Go.Addr.mk 9 1 .none))), (.int .i64 q), (.pointer (.some (Go.Addr.mk 9 0 .none))), (.int .i64 p), (.pointer (.some (Go.Addr.mk 9 0 .none))), (.int .i64 p), (.int .i64 (IntKind.i64.wrap (0 - p))), (.int .i64 (if IntKind.i64.wrap (0 - p) > p then IntKind.i64.wrap (0 - p) else p)), (.tuple #[]), (.tuple #[]), (.tuple #[]), (.tuple #[]), (.tuple #[]), (.tuple #[]), (.tuple #[]), (.tuple #[]), (.tuple #[]), (.tuple #[]), (.tuple #[]), (.tuple #[]), (.tuple #[]), (.tuple #[]), (.tuple #[])] (HN [(.some (.cells [(.int .i64 p), (.int .i64 q)] 61 .var)), (.some (.cells [(.int .i64 (0)), (.int .i64 (0))] 61 .var))]) ([(.agg #[(.int .i64 p), (.int .i64 q)]), (.pointer (.some (Go.Addr.mk 9 0 .none))), (.pointer (.some (Go.Addr.mk 10 0 .none))), (.int .i64 (gcdE q (if IntKind.i64.wrap (0 - p) > p then IntKind.i64.wrap (0 - p) else p))), (.int .i64 0), (.pointer (.some (Go.Addr.mk 9 1 .none))), (.int .i64 q), (.pointer (.some (Go.Addr.mk 9 0 .none))), (.int .i64 p), (.pointer (.some (Go.Addr.mk 9 0 .none))), (.int .i64 p), (.int .i64 (IntKind.i64.wrap (0 - p))), (.int .i64 (if IntKind.i64.wrap (0 - p) > p then IntKind.i64.wrap (0 - p) else p)), w13, w14, w15, w16, w17, w18, (.tuple #[]), (.tuple #[]), (.tuple #[]), (.tuple #[]), (.tuple #[]), (.tuple #[]), (.tuple #[]), (.tuple #[]), (.tuple #[])], (HN [(.some (.cells [(.int .i64 p), (.int .i64 q)] 61 .var)), (.some (.cells [(.int .i64 (0)), (.int .i64 (0))] 61 .var))]), none)) (h1 : aBin Tryz.prog .quo 3 (.tmp 20) (.tmp 21) (.int .i64 p) (.int .i64 (gcdE q (if IntKind.i64.wrap (0 - p) > p then IntKind.i64.wrap (0 - p) else p))) = some (.int .i64 (IntKind.i64.wrap (p.tdiv (gcdE q (if IntKind.i64.wrap (0 - p) > p then IntKind.i64.wrap (0 - p) else p)))))) (h2 : aBin Tryz.prog .quo 3 (.tmp 24) (.tmp 25) (.int .i64 q) (.int .i64 (gcdE q (if IntKind.i64.wrap (0 - p) > p then IntKind.i64.wrap (0 - p) else p))) = some (.int .i64 (IntKind.i64.wrap (q.tdiv (gcdE q (if IntKind.i64.wrap (0 - p) > p then IntKind.i64.wrap (0 - p) else p)))))) : Gives Tryz.prog envK 0 107 [.agg #[.int .i64 p, .int .i64 q]] heapN ((.agg #[(.int .i64 (IntKind.i64.wrap (p.tdiv (gcdE q (if IntKind.i64.wrap (0 - p) > p then IntKind.i64.wrap (0 - p) else p))))), (.int .i64 (IntKind.i64.wrap (q.tdiv (gcdE q (if IntKind.i64.wrap (0 - p) > p then IntKind.i64.wrap (0 - p) else p)))))]), heapN) :=
  Gives.by (n := 1000) (os := [.run 107 0 [(.agg #[(.int .i64 p), (.int .i64 q)]), (.pointer (.some (Go.Addr.mk 9 0 .none))), (.pointer (.some (Go.Addr.mk 10 0 .none))), (.int .i64 (gcdE q (if IntKind.i64.wrap (0 - p) > p then IntKind.i64.wrap (0 - p) else p))), (.int .i64 (0)), (.pointer (.some (Go.Addr.mk 9 1 .none))), (.int .i64 q), (.pointer (.some (Go.Addr.mk 9 0 .none))), (.int .i64 p), (.pointer (.some (Go.Addr.mk 9 0 .none))), (.int .i64 p), (.int .i64 (IntKind.i64.wrap (0 - p))), (.int .i64 (if IntKind.i64.wrap (0 - p) > p then IntKind.i64.wrap (0 - p) else p)), w13, w14, w15, w16, w17, w18, (.tuple #[]), (.tuple #[]), (.tuple #[]), (.tuple #[]), (.tuple #[]), (.tuple #[]), (.tuple #[]), (.tuple #[]), (.tuple #[])] (HN [(.some (.cells [(.int .i64 p), (.int .i64 q)] 61 .var)), (.some (.cells [(.int .i64 (0)), (.int .i64 (0))] 61 .var))]), .op 107 23 (.int .i64 (IntKind.i64.wrap (p.tdiv (gcdE q (if IntKind.i64.wrap (0 - p) > p then IntKind.i64.wrap (0 - p) else p))))), .op 107 27 (.int .i64 (IntKind.i64.wrap (q.tdiv (gcdE q (if IntKind.i64.wrap (0 - p) > p then IntKind.i64.wrap (0 - p) else p)))))]) (os' := []) (by kernel_rfl) (ObsOK.run hrun (ObsOK.val h1 (ObsOK.val h2 (ObsOK.nil))))
theorem low110_p0 (p q : Int) (hq : decide (q < 0) = false) (w18 w19 w20 w21 w22 w23 : Value) (hrun : Runs Tryz.prog envK 9 [.code (blk 0 (bodyOf 110))] [(.int .i64 p), (.int .i64 q), (.tuple #[]), (.tuple #[]), (.pointer (.some (Go.Addr.mk 9 0 .none))), (.int .i64 (if IntKind.i64.wrap (0 - p) > p then IntKind.i64.wrap (0 - p) else p)), (.int .i64 q), (.int .i64 q), (.bool (decide (q < 0))), (.tuple #[]), (.tuple #[]), (.tuple #[]), (.tuple #[]), (.int .i64 p), (.int .i64 p), (.int .i64 (IntKind.i64.wrap (0 - p))), (.int .i64 (if IntKind.i64.wrap (0 - p) > p then IntKind.i64.wrap (0 - p) else p)), (.int .i64 q), (.tuple #[]), (.tuple #[]), (.tuple #[]), (.tuple #[]), (.tuple #[]), (.tuple #[]), (.tuple #[]), (.tuple #[]), (.tuple #[]), (.tuple #[]), (.tuple #[]), (.tuple #[]), (.tuple #[])] (HN [(.some (.cells [(.int .i64 (0)), (.int .i64 (0))] 61 .var))]) ([(.int .i64 p), (.int .i64 q), (.tuple #[]), (.tuple #[]), (.pointer (.some (Go.Addr.mk 9 0 .none))), (.int .i64 (gcdE (if IntKind.i64.wrap (0 - p) > p then IntKind.i64.wrap (0 - p) else p) q)), (.int .i64 0), (.int .i64 q), (.bool (decide (q < 0))), (.tuple #[]), (.tuple #[]), (.tuple #[]), (.tuple #[]), (.int .i64 p), (.int .i64 p), (.int .i64 (IntKind.i64.wrap (0 - p))), (.int .i64 (if IntKind.i64.wrap (0 - p) > p then IntKind.i64.wrap (0 - p) else p)), (.int .i64 q), w18, w19, w20, w21, w22, w23, (.tuple #[]), (.tuple #[]), (.tuple #[]), (.tuple #[]), (.tuple #[]), (.tuple #[]), (.tuple #[])], (HN [(.some (.cells [(.int .i64 (0)), (.int .i64 (0))] 61 .var))]), none)) (h1 : aBin Tryz.prog .quo 3 (.tmp 24) (.tmp 25) (.int .i64 p) (.int .i64 (gcdE (if IntKind.i64.wrap (0 - p) > p then IntKind.i64.wrap (0 - p) else p) q)) = some (.int .i64 (IntKind.i64.wrap (p.tdiv (gcdE (if IntKind.i64.wrap (0 - p) > p then IntKind.i64.wrap (0 - p) else p) q))))) (h2 : aBin Tryz.prog .quo 3 (.tmp 27) (.tmp 28) (.int .i64 q) (.int .i64 (gcdE (if IntKind.i64.wrap (0 - p) > p then IntKind.i64.wrap (0 - p) else p) q)) = some (.int .i64 (IntKind.i64.wrap (q.tdiv (gcdE (if IntKind.i64.wrap (0 - p) > p then IntKind.i64.wrap (0 - p) else p) q))))) : Gives Tryz.prog envK 0 110 [.int .i64 p, .int .i64 q] heapN ((.agg #[(.int .i64 (IntKind.i64.wrap (p.tdiv (gcdE (if IntKind.i64.wrap (0 - p) > p then IntKind.i64.wrap (0 - p) else p) q)))), (.int .i64 (IntKind.i64.wrap (q.tdiv (gcdE (if IntKind.i64.wrap (0 - p) > p then IntKind.i64.wrap (0 - p) else p) q))))]), heapN) :=
  Gives.by (n := 1000) (os := [.br 110 18 false, .run 110 0 [(.int .i64 p), (.int .i64 q), (.tuple #[]), (.tuple #[]), (.pointer (.some (Go.Addr.mk 9 0 .none))), (.int .i64 (gcdE (if IntKind.i64.wrap (0 - p) > p then IntKind.i64.wrap (0 - p) else p) q)), (.int .i64 (0)), (.int .i64 q), (.bool (decide (q < 0))), (.tuple #[]), (.tuple #[]), (.tuple #[]), (.tuple #[]), (.int .i64 p), (.int .i64 p), (.int .i64 (IntKind.i64.wrap (0 - p))), (.int .i64 (if IntKind.i64.wrap (0 - p) > p then IntKind.i64.wrap (0 - p) else p)), (.int .i64 q), w18, w19, w20, w21, w22, w23, (.tuple #[]), (.tuple #[]), (.tuple #[]), (.tuple #[]), (.tuple #[]), (.tuple #[]), (.tuple #[])] (HN [(.some (.cells [(.int .i64 (0)), (.int .i64 (0))] 61 .var))]), .op 110 27 (.int .i64 (IntKind.i64.wrap (p.tdiv (gcdE (if IntKind.i64.wrap (0 - p) > p then IntKind.i64.wrap (0 - p) else p) q)))), .op 110 30 (.int .i64 (IntKind.i64.wrap (q.tdiv (gcdE (if IntKind.i64.wrap (0 - p) > p then IntKind.i64.wrap (0 - p) else p) q))))]) (os' := []) (by kernel_rfl) (ObsOK.cond hq (ObsOK.run hrun (ObsOK.val h1 (ObsOK.val h2 (ObsOK.nil)))))

/-- Numbers of 64 bits, the denominator above 0. -/
def okL (p q : Int) : Bool := decide (0 < q ∧ q < 9223372036854775808 ∧ -9223372036854775808 < p ∧ p < 9223372036854775808)
def lowN (p q : Int) : Int := p.tdiv (Int.gcd p q)
def lowD (p q : Int) : Int := q.tdiv (Int.gcd p q)
theorem absE {p : Int} (h : -9223372036854775808 < p ∧ p < 9223372036854775808) : (if IntKind.i64.wrap (0 - p) > p then IntKind.i64.wrap (0 - p) else p) = (p.natAbs : Int) := by
  rw [wSmall (by omega) (by omega)]
  split <;> omega
theorem gcd_ne {p q : Int} (h : 0 < q) : (Int.gcd p q : Int) ≠ 0 := by
  have : Int.gcd p q ≠ 0 := fun h0 => by
    have := Int.gcd_eq_zero_iff.1 h0
    omega
  omega
theorem tdivB {p : Int} {g : Nat} (hp : -9223372036854775808 < p ∧ p < 9223372036854775808) : IntKind.i64.wrap (p.tdiv g) = p.tdiv g := by
  have h : (p.tdiv g).natAbs ≤ p.natAbs := by rw [Int.natAbs_tdiv]; exact Nat.div_le_self _ _
  exact wSmall (by omega) (by omega)
theorem g107 {p q : Int} (h : okL p q = true) : Gives Tryz.prog envK 0 107 [.agg #[.int .i64 p, .int .i64 q]] heapN (.agg #[.int .i64 (lowN p q), .int .i64 (lowD p q)], heapN) := by
  have h := of_decide_eq_true h
  have ha := absE (p := p) ⟨h.2.2.1, h.2.2.2⟩
  have hg : gcdE q (if IntKind.i64.wrap (0 - p) > p then IntKind.i64.wrap (0 - p) else p) = (Int.gcd p q : Int) := by
    rw [ha, gcdE_eq (by omega) (by omega), Int.gcd_comm]
    simp [Int.gcd]
  obtain ⟨w13, w14, w15, w16, w17, w18, hr⟩ := blk107 (v0 := .agg #[.int .i64 p, .int .i64 q]) (v1 := .pointer (some (Addr.mk 9 0 none))) (v2 := .pointer (some (Addr.mk 10 0 none))) (a := q) (b := if IntKind.i64.wrap (0 - p) > p then IntKind.i64.wrap (0 - p) else p)
  have := low107_p0 p q w13 w14 w15 w16 w17 w18 hr (by rw [hg]; exact aBin_quo (gcd_ne h.1)) (by rw [hg]; exact aBin_quo (gcd_ne h.1))
  rw [hg, tdivB ⟨h.2.2.1, h.2.2.2⟩, tdivB ⟨by omega, h.2.1⟩] at this
  exact this
theorem g110 {p q : Int} (h : okL p q = true) : Gives Tryz.prog envK 0 110 [.int .i64 p, .int .i64 q] heapN (.agg #[.int .i64 (lowN p q), .int .i64 (lowD p q)], heapN) := by
  have h := of_decide_eq_true h
  have ha := absE (p := p) ⟨h.2.2.1, h.2.2.2⟩
  have hg : gcdE (if IntKind.i64.wrap (0 - p) > p then IntKind.i64.wrap (0 - p) else p) q = (Int.gcd p q : Int) := by
    rw [ha, gcdE_eq (by omega) (by omega)]
    simp [Int.gcd]
  obtain ⟨w18, w19, w20, w21, w22, w23, hr⟩ := blk110 (v0 := .int .i64 p) (v1 := .int .i64 q) (a := if IntKind.i64.wrap (0 - p) > p then IntKind.i64.wrap (0 - p) else p) (b := q)
  have := low110_p0 p q (decide_eq_false (by omega)) w18 w19 w20 w21 w22 w23 hr (by rw [hg]; exact aBin_quo (gcd_ne h.1)) (by rw [hg]; exact aBin_quo (gcd_ne h.1))
  rw [hg, tdivB ⟨h.2.2.1, h.2.2.2⟩, tdivB ⟨by omega, h.2.1⟩] at this
  exact this
end Go.Proofs.YtkndhhnjgpialaaGreatDoor
/-
Ratios in lowest terms are known from here on, where the denominator is above 0.
-/
namespace Go.Proofs.YtkndhhnjgpialaaGreatDoor
open Go Go.Abs
def B_envL (f : FuncId) (args : List Value) : Option (Heap × Value) :=
  if f == 107 then
    match args with
    | [.agg ⟨[.int .i64 p, .int .i64 q]⟩] => if okL p q = true then some (heapN, .agg #[.int .i64 (lowN p q), .int .i64 (lowD p q)]) else none
    | _ => none
  else if f == 110 then
    match args with
    | [.int .i64 p, .int .i64 q] => if okL p q = true then some (heapN, .agg #[.int .i64 (lowN p q), .int .i64 (lowD p q)]) else none
    | _ => none
  else none
noncomputable def envL : Env := envK.with (baseKnown B_envL)
theorem envL_ok : EnvOK Tryz.prog 9 envL := env_base prog_ok envK_ok fun f args H v h => by
  unfold B_envL at h
  split at h
  · rename_i hf
    have hf : f = 107 := by simpa using hf
    subst hf
    split at h
    · split at h
      · rename_i hl; cases h; exact heapN_ok (g107 hl)
      · cases h
    · cases h
  · split at h
    · rename_i hf
      have hf : f = 110 := by simpa using hf
      subst hf
      split at h
      · split at h
        · rename_i hl; cases h; exact heapN_ok (g110 hl)
        · cases h
      · cases h
    · cases h
theorem known_gives {E : Env} {B : FuncId → List Value → Option (Heap × Value)} {lim : Nat} {f : FuncId} {args : List Value} {A H : Heap} {v : Value} {P : Program} (hB : B f args = some (H, v)) (ha : args.all freeB = true) (hv : freeB v = true) (hs : startsB H A = true) : Gives P (E.with (baseKnown B)) lim f args A (v, A) := by
  refine ⟨0, ?_⟩
  have : (E.with (baseKnown B)).known lim f args A = some (v, A) := by
    simp only [Env.with, baseKnown, hB, ha, hv, hs, Bool.and_self, if_true]
  simp only [aCall, aCallBy, this]
theorem u107 {p q : Int} (h : okL p q = true) : ∀ (lim : Nat) (A : Heap), startsB heapN A = true → Gives Tryz.prog envL lim 107 [.agg #[.int .i64 p, .int .i64 q]] A (.agg #[.int .i64 (lowN p q), .int .i64 (lowD p q)], A) := fun lim A hs =>
  known_gives (H := heapN) (by show (if okL p q = true then _ else none) = _; rw [if_pos h]) rfl rfl hs
theorem u110 {p q : Int} (h : okL p q = true) : ∀ (lim : Nat) (A : Heap), startsB heapN A = true → Gives Tryz.prog envL lim 110 [.int .i64 p, .int .i64 q] A (.agg #[.int .i64 (lowN p q), .int .i64 (lowD p q)], A) := fun lim A hs =>
  known_gives (H := heapN) (by show (if okL p q = true then _ else none) = _; rw [if_pos h]) rfl rfl hs
end Go.Proofs.YtkndhhnjgpialaaGreatDoor
/-
What functions give.
-/
namespace Go.Proofs.YtkndhhnjgpialaaGreatDoor
open Go Go.Abs
theorem t36a_p0 (g : Int) (h : Int) (i : Int) (j : Int) (hb : (bErr g h i j != 0) = true) : Gives Tryz.prog envL 0 36 [(.agg #[(.int .i64 (g)), (.int .i64 (h)), (.int .i64 (i)), (.int .i64 (j))])] heapN ((.tuple #[(.agg #[(.int .i64 (0)), (.int .i64 (0))]), (.int .i64 (bErr g h i j))]), heapN) :=
  Gives.by (n := 1000) (os := [.br 105 26 true, .br 36 30 true]) (os' := []) (by kernel_rfl) (ObsOK.cond hb (ObsOK.cond hb (ObsOK.nil)))
def t36a_r2 (g : Int) (h : Int) (i : Int) (j : Int) : Int := (bErr g h i j)
theorem t36a_gives (g : Int) (h : Int) (i : Int) (j : Int) (hb : (bErr g h i j != 0) = true) : Gives Tryz.prog envL 0 36 [(.agg #[(.int .i64 (g)), (.int .i64 (h)), (.int .i64 (i)), (.int .i64 (j))])] heapN ((.tuple #[(.agg #[(.int .i64 (0)), (.int .i64 (0))]), (.int .i64 (t36a_r2 g h i j))]), heapN) := by
  simp only [t36a_r2, cond_true, cond_false]; exact t36a_p0 g h i j hb
theorem t36b_p0 (g : Int) (h : Int) (i : Int) (j : Int) (hb : (bErr g h i j != 0) = false) (hp : ((bif !h != 0 then (7 : Int) else 0) != 0) = true) : Gives Tryz.prog envL 0 36 [(.agg #[(.int .i64 (g)), (.int .i64 (h)), (.int .i64 (i)), (.int .i64 (j))])] heapN ((.tuple #[(.agg #[(.int .i64 (0)), (.int .i64 (0))]), (.int .i64 (bif !h != 0 then 7 else 0))]), heapN) :=
  Gives.by (n := 1000) (os := [.br 105 26 false, .br 105 26 true, .br 36 30 true]) (os' := []) (by kernel_rfl) (ObsOK.cond hb (ObsOK.cond hp (ObsOK.cond hp (ObsOK.nil))))
def t36b_r2 (g : Int) (h : Int) (i : Int) (j : Int) : Int := (bif !h != 0 then 7 else 0)
theorem t36b_gives (g : Int) (h : Int) (i : Int) (j : Int) (hb : (bErr g h i j != 0) = false) (hp : ((bif !h != 0 then (7 : Int) else 0) != 0) = true) : Gives Tryz.prog envL 0 36 [(.agg #[(.int .i64 (g)), (.int .i64 (h)), (.int .i64 (i)), (.int .i64 (j))])] heapN ((.tuple #[(.agg #[(.int .i64 (0)), (.int .i64 (0))]), (.int .i64 (t36b_r2 g h i j))]), heapN) := by
  simp only [t36b_r2, cond_true, cond_false]; exact t36b_p0 g h i j hb hp
theorem t36c_p0 (g : Int) (h : Int) (i : Int) (j : Int) (hb : (bErr g h i j != 0) = false) (hp : ((bif !h != 0 then (7 : Int) else 0) != 0) = false) (hl : ∀ (lim : Nat) (A : Heap), startsB heapN A = true → Gives Tryz.prog envL lim 107 [.agg #[.int .i64 (IntKind.i64.wrap (g + i)), .int .i64 h]] A (.agg #[.int .i64 (lowN (IntKind.i64.wrap (g + i)) (h)), .int .i64 (lowD (IntKind.i64.wrap (g + i)) (h))], A)) : Gives Tryz.prog envL 0 36 [(.agg #[(.int .i64 (g)), (.int .i64 (h)), (.int .i64 (i)), (.int .i64 (j))])] heapN ((.tuple #[(.agg #[(.int .i64 (lowN (IntKind.i64.wrap (g + i)) h)), (.int .i64 (lowD (IntKind.i64.wrap (g + i)) h))]), (.int .i64 (0))]), heapN) :=
  Gives.by (n := 1000) (os := [.br 105 26 false, .br 105 26 false, .opw 36 26 (.agg #[(.int .i64 (lowN (IntKind.i64.wrap (g + i)) h)), (.int .i64 (lowD (IntKind.i64.wrap (g + i)) h))]) [.none, .none, .none, .none, .none, .none, .none, .none, .none, (.some (.cells [(.int .i64 g), (.int .i64 h), (.int .i64 i), (.int .i64 j)] 56 .var)), (.some (.cells [(.int .i64 (0)), (.int .i64 (0))] 61 .var)), (.some (.cells [(.int .i64 (bErr g h i j)), (.int .i64 (bif !h != 0 then 7 else 0))] 27 .row))]]) (os' := []) (by kernel_rfl) (ObsOK.cond hb (ObsOK.cond hp (ObsOK.call (hl 9 [.none, .none, .none, .none, .none, .none, .none, .none, .none, (.some (.cells [(.int .i64 g), (.int .i64 h), (.int .i64 i), (.int .i64 j)] 56 .var)), (.some (.cells [(.int .i64 (0)), (.int .i64 (0))] 61 .var)), (.some (.cells [(.int .i64 (bErr g h i j)), (.int .i64 (bif !h != 0 then 7 else 0))] 27 .row))] (by kernel_rfl)) (ObsOK.nil))))
def t36c_r0 (g : Int) (h : Int) (i : Int) (j : Int) : Int := (lowN (IntKind.i64.wrap (g + i)) h)
def t36c_r1 (g : Int) (h : Int) (i : Int) (j : Int) : Int := (lowD (IntKind.i64.wrap (g + i)) h)
theorem t36c_gives (g : Int) (h : Int) (i : Int) (j : Int) (hb : (bErr g h i j != 0) = false) (hp : ((bif !h != 0 then (7 : Int) else 0) != 0) = false) (hl : ∀ (lim : Nat) (A : Heap), startsB heapN A = true → Gives Tryz.prog envL lim 107 [.agg #[.int .i64 (IntKind.i64.wrap (g + i)), .int .i64 h]] A (.agg #[.int .i64 (lowN (IntKind.i64.wrap (g + i)) (h)), .int .i64 (lowD (IntKind.i64.wrap (g + i)) (h))], A)) : Gives Tryz.prog envL 0 36 [(.agg #[(.int .i64 (g)), (.int .i64 (h)), (.int .i64 (i)), (.int .i64 (j))])] heapN ((.tuple #[(.agg #[(.int .i64 (t36c_r0 g h i j)), (.int .i64 (t36c_r1 g h i j))]), (.int .i64 (0))]), heapN) := by
  simp only [t36c_r0, t36c_r1, cond_true, cond_false]; exact t36c_p0 g h i j hb hp hl
theorem t41b_p0 (g : Int) (h : Int) (i : Int) (j : Int) (hp : (h == 0) = true) : Gives Tryz.prog envL 0 41 [(.agg #[(.int .i64 (g)), (.int .i64 (h)), (.int .i64 (i)), (.int .i64 (j))])] heapN ((.tuple #[(.agg #[(.int .i64 (0)), (.int .i64 (0))]), (.int .i64 (7))]), heapN) :=
  Gives.by (n := 1000) (os := [.br 41 14 true]) (os' := []) (by kernel_rfl) (ObsOK.cond hp (ObsOK.nil))
theorem t41b_gives (g : Int) (h : Int) (i : Int) (j : Int) (hp : (h == 0) = true) : Gives Tryz.prog envL 0 41 [(.agg #[(.int .i64 (g)), (.int .i64 (h)), (.int .i64 (i)), (.int .i64 (j))])] heapN ((.tuple #[(.agg #[(.int .i64 (0)), (.int .i64 (0))]), (.int .i64 (7))]), heapN) := by
  exact t41b_p0 g h i j hp
theorem t41c_p0 (g : Int) (h : Int) (i : Int) (j : Int) (hp : (h == 0) = false) (hl : ∀ (lim : Nat) (A : Heap), startsB heapN A = true → Gives Tryz.prog envL lim 110 [.int .i64 (IntKind.i64.wrap (g + i)), .int .i64 h] A (.agg #[.int .i64 (lowN (IntKind.i64.wrap (g + i)) (h)), .int .i64 (lowD (IntKind.i64.wrap (g + i)) (h))], A)) : Gives Tryz.prog envL 0 41 [(.agg #[(.int .i64 (g)), (.int .i64 (h)), (.int .i64 (i)), (.int .i64 (j))])] heapN ((.tuple #[(.agg #[(.int .i64 (lowN (IntKind.i64.wrap (g + i)) h)), (.int .i64 (lowD (IntKind.i64.wrap (g + i)) h))]), (.int .i64 (0))]), heapN) :=
  Gives.by (n := 1000) (os := [.br 41 14 false, .opw 41 16 (.agg #[(.int .i64 (lowN (IntKind.i64.wrap (g + i)) h)), (.int .i64 (lowD (IntKind.i64.wrap (g + i)) h))]) [.none, .none, .none, .none, .none, .none, .none, .none, .none, (.some (.cells [(.int .i64 g), (.int .i64 h), (.int .i64 i), (.int .i64 j)] 54 .var)), (.some (.cells [(.int .i64 (0)), (.int .i64 (0))] 61 .var))]]) (os' := []) (by kernel_rfl) (ObsOK.cond hp (ObsOK.call (hl 9 [.none, .none, .none, .none, .none, .none, .none, .none, .none, (.some (.cells [(.int .i64 g), (.int .i64 h), (.int .i64 i), (.int .i64 j)] 54 .var)), (.some (.cells [(.int .i64 (0)), (.int .i64 (0))] 61 .var))] (by kernel_rfl)) (ObsOK.nil)))
def t41c_r0 (g : Int) (h : Int) (i : Int) (j : Int) : Int := (lowN (IntKind.i64.wrap (g + i)) h)
def t41c_r1 (g : Int) (h : Int) (i : Int) (j : Int) : Int := (lowD (IntKind.i64.wrap (g + i)) h)
theorem t41c_gives (g : Int) (h : Int) (i : Int) (j : Int) (hp : (h == 0) = false) (hl : ∀ (lim : Nat) (A : Heap), startsB heapN A = true → Gives Tryz.prog envL lim 110 [.int .i64 (IntKind.i64.wrap (g + i)), .int .i64 h] A (.agg #[.int .i64 (lowN (IntKind.i64.wrap (g + i)) (h)), .int .i64 (lowD (IntKind.i64.wrap (g + i)) (h))], A)) : Gives Tryz.prog envL 0 41 [(.agg #[(.int .i64 (g)), (.int .i64 (h)), (.int .i64 (i)), (.int .i64 (j))])] heapN ((.tuple #[(.agg #[(.int .i64 (t41c_r0 g h i j)), (.int .i64 (t41c_r1 g h i j))]), (.int .i64 (0))]), heapN) := by
  simp only [t41c_r0, t41c_r1, cond_true, cond_false]; exact t41c_p0 g h i j hp hl
end Go.Proofs.YtkndhhnjgpialaaGreatDoor
/-
The square of the tuning, for all boxes.
-/
namespace Go.Proofs.YtkndhhnjgpialaaGreatDoor
open Go Go.Abs
def tuN (g h i j : Int) : Int := cond (bErr g h i j != 0) 0 (cond (h == 0) 0 (lowN (IntKind.i64.wrap (g + i)) h))
def tuD (g h i j : Int) : Int := cond (bErr g h i j != 0) 0 (cond (h == 0) 0 (lowD (IntKind.i64.wrap (g + i)) h))
def tuE (g h i j : Int) : Int := cond (bErr g h i j != 0) (bErr g h i j) (cond (h == 0) 7 0)
theorem bErr_zero {g h i j : Int} (hb : (bErr g h i j != 0) = false) : 1 ≤ g ∧ g ≤ 5000 ∧ ((h = 0 ∧ i = 0 ∧ j = 0) ∨ (1 ≤ h ∧ h ≤ 100 ∧ 0 ≤ i ∧ i ≤ 5000 ∧ 1 ≤ j ∧ j ≤ 100)) := by
  unfold bErr at hb
  by_cases h1 : 1 ≤ g ∧ g ≤ 5000
  · rw [if_pos h1] at hb
    by_cases h0 : h = 0
    · rw [if_pos h0] at hb
      by_cases h2 : i = 0 ∧ j = 0
      · exact ⟨h1.1, h1.2, .inl ⟨h0, h2.1, h2.2⟩⟩
      · rw [if_neg h2] at hb; cases hb
    · rw [if_neg h0] at hb
      by_cases h2 : 1 ≤ h ∧ h ≤ 100 ∧ 0 ≤ i ∧ i ≤ 5000 ∧ 1 ≤ j ∧ j ≤ 100
      · exact ⟨h1.1, h1.2, .inr h2⟩
      · rw [if_neg h2] at hb; cases hb
  · rw [if_neg h1] at hb; cases hb
theorem box_okL {g h i j : Int} (hb : (bErr g h i j != 0) = false) (h0 : h ≠ 0) : okL (IntKind.i64.wrap (g + i)) h = true := by
  obtain ⟨h1, h2, h3⟩ := bErr_zero hb
  unfold okL
  rw [decide_eq_true_iff, wSmall (by omega) (by omega)]
  omega
theorem g36 (g h i j : Int) : Gives Tryz.prog envL 0 36 [.agg #[.int .i64 g, .int .i64 h, .int .i64 i, .int .i64 j]] heapN (.tuple #[.agg #[.int .i64 (tuN g h i j), .int .i64 (tuD g h i j)], .int .i64 (tuE g h i j)], heapN) := by
  unfold tuN tuD tuE
  cases hb : bErr g h i j != 0
  · by_cases h0 : h = 0
    · subst h0
      exact t36b_p0 g 0 i j hb rfl
    · have h1 : (h == 0) = false := by simpa using h0
      rw [h1]
      exact t36c_p0 g h i j hb (by rw [show (h != 0) = true by simpa using h0]; rfl) (u107 (box_okL hb h0))
  · exact t36a_p0 g h i j hb
theorem g41 {g h i j : Int} (hb : (bErr g h i j != 0) = false) : Gives Tryz.prog envL 0 41 [.agg #[.int .i64 g, .int .i64 h, .int .i64 i, .int .i64 j]] heapN (.tuple #[.agg #[.int .i64 (tuN g h i j), .int .i64 (tuD g h i j)], .int .i64 (tuE g h i j)], heapN) := by
  unfold tuN tuD tuE
  rw [hb]
  by_cases h0 : h = 0
  · subst h0
    exact t41b_p0 g 0 i j rfl
  · have h1 : (h == 0) = false := by simpa using h0
    rw [h1]
    exact t41c_p0 g h i j h1 (u110 (box_okL hb h0))
def B_envT (f : FuncId) (args : List Value) : Option (Heap × Value) :=
  if f == 36 then
    match args with
    | [.agg ⟨[.int .i64 g, .int .i64 h, .int .i64 i, .int .i64 j]⟩] => some (heapN, .tuple #[.agg #[.int .i64 (tuN g h i j), .int .i64 (tuD g h i j)], .int .i64 (tuE g h i j)])
    | _ => none
  else if f == 41 then
    match args with
    | [.agg ⟨[.int .i64 g, .int .i64 h, .int .i64 i, .int .i64 j]⟩] => if (bErr g h i j != 0) = false then some (heapN, .tuple #[.agg #[.int .i64 (tuN g h i j), .int .i64 (tuD g h i j)], .int .i64 (tuE g h i j)]) else none
    | _ => none
  else none
noncomputable def envT : Env := envL.with (baseKnown B_envT)
theorem envT_ok : EnvOK Tryz.prog 9 envT := env_base prog_ok envL_ok fun f args H v h => by
  unfold B_envT at h
  split at h
  · rename_i hf
    have hf : f = 36 := by simpa using hf
    subst hf
    split at h
    · cases h; exact heapN_ok (g36 _ _ _ _)
    · cases h
  · split at h
    · rename_i hf
      have hf : f = 41 := by simpa using hf
      subst hf
      split at h
      · split at h
        · rename_i hl; cases h; exact heapN_ok (g41 hl)
        · cases h
      · cases h
    · cases h
theorem u41 {g h i j : Int} (hb : (bErr g h i j != 0) = false) : ∀ (lim : Nat) (A : Heap), startsB heapN A = true → Gives Tryz.prog envT lim 41 [.agg #[.int .i64 g, .int .i64 h, .int .i64 i, .int .i64 j]] A (.tuple #[.agg #[.int .i64 (tuN g h i j), .int .i64 (tuD g h i j)], .int .i64 (tuE g h i j)], A) := fun lim A hs =>
  known_gives (H := heapN) (by show (if (bErr g h i j != 0) = false then _ else none) = _; rw [if_pos hb]) rfl rfl hs
end Go.Proofs.YtkndhhnjgpialaaGreatDoor
