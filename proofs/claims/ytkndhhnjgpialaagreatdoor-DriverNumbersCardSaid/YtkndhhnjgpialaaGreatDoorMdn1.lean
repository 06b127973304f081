/-
DriverNumbers of the package wooferlaw03 returns true for every input, whatever the world: proved for all arguments, under the conditions that the row and its card name (the package-level tables as laid).
-/
import Derived.Test.YtkndhhnjgpialaaGreatDoorMb7
import Derived.Test.YtkndhhnjgpialaaGreatDoorMb6
import Derived.Test.YtkndhhnjgpialaaGreatDoorCards
import Derived.Test.YtkndhhnjgpialaaGreatDoorTie
import Derived.WalkKit
import Derived.ProofKit
import Derived.OpenShut
import Derived.Deep.DeepHandedRow
import Derived.Lib.LaidTab
import Derived.MakeChecks
set_option linter.unusedVariables false
set_option linter.unusedSimpArgs false
/-
DriverNumbers, led through its three cases.
-/
namespace Go.Proofs.YtkndhhnjgpialaaGreatDoor
open Go Go.Abs
def dnA_c0 (a : Int) (b : Int) (c : Int) (d : Int) (e : Int) (f : Int) (w : Int) : Bool := dErr a b c d e f == dErr a b c d e f
def dnA_c1 (a : Int) (b : Int) (c : Int) (d : Int) (e : Int) (f : Int) (w : Int) : Bool := f16_r0 a b c d e f w == 0 && (f16_r1 a b c d e f w == 0 && true)
def dnA_c2 (a : Int) (b : Int) (c : Int) (d : Int) (e : Int) (f : Int) (w : Int) : Bool := f16_r2 a b c d e f w == dErr a b c d e f
def dnA_c3 (a : Int) (b : Int) (c : Int) (d : Int) (e : Int) (f : Int) (w : Int) : Bool := f28_r0 (f17_r0 a b c d e f w) (f17_r1 a b c d e f w) (f17_r2 a b c d e f w) (f17_r3 a b c d e f w) (f17_r4 a b c d e f w) (dErr a b c d e f) 0 0 0 0
def dnA_c4 (a : Int) (b : Int) (c : Int) (d : Int) (e : Int) (f : Int) (w : Int) : Bool := f28_r0 (f18_r0 a b c d e f w) (f18_r1 a b c d e f w) (f18_r2 a b c d e f w) (f18_r3 a b c d e f w) (f18_r4 a b c d e f w) (dErr a b c d e f) 0 0 0 0
theorem dnA_p0 (a : Int) (b : Int) (c : Int) (d : Int) (e : Int) (f : Int) (w : Int) (hd : (dErr a b c d e f != 0) = true) (he : (dErr a b c d e f == 0) = false) (h0 : dnA_c0 a b c d e f w = true) (h1 : dnA_c1 a b c d e f w = true) (h2 : dnA_c2 a b c d e f w = true) (h3 : dnA_c3 a b c d e f w = true) (h4 : dnA_c4 a b c d e f w = true) : Gives Tryz.prog envK 0 3 [(.agg #[(.int .i64 (a)), (.int .i64 (b)), (.int .i64 (c)), (.int .i64 (d)), (.int .i64 (e)), (.int .i64 (f))]), (.int .i64 (w))] heap0 ((.bool (f28_r0 (f19_r0 a b c d e f w) (f19_r1 a b c d e f w) (f19_r2 a b c d e f w) (f19_r3 a b c d e f w) (f19_r4 a b c d e f w) (dErr a b c d e f) 0 0 0 0)), heap0) :=
  Gives.by (n := 1000) (os := [.br 20 30 true, .br 3 104 false, .br 3 140 true, .br 3 140 true, .br 3 140 true, .br 3 149 true, .br 3 150 true, .br 3 150 true, .br 3 150 true, .br 3 159 true, .br 3 160 true, .br 3 160 true, .br 3 160 true, .br 3 160 true, .br 3 160 true, .br 3 173 true, .br 3 174 true, .br 3 174 true, .br 3 174 true, .br 3 174 true, .br 3 174 true, .br 3 187 true, .br 3 188 true, .br 3 188 true, .br 3 188 true, .br 3 188 true, .br 3 188 true, .br 3 201 true]) (os' := []) (by kernel_rfl) (ObsOK.cond hd (ObsOK.cond he (ObsOK.cond h0 (ObsOK.cond h0 (ObsOK.cond h0 (ObsOK.cond h0 (ObsOK.cond h1 (ObsOK.cond h1 (ObsOK.cond h1 (ObsOK.cond h1 (ObsOK.cond h2 (ObsOK.cond h2 (ObsOK.cond h2 (ObsOK.cond h2 (ObsOK.cond h2 (ObsOK.cond h2 (ObsOK.cond h3 (ObsOK.cond h3 (ObsOK.cond h3 (ObsOK.cond h3 (ObsOK.cond h3 (ObsOK.cond h3 (ObsOK.cond h4 (ObsOK.cond h4 (ObsOK.cond h4 (ObsOK.cond h4 (ObsOK.cond h4 (ObsOK.cond h4 (ObsOK.nil)))))))))))))))))))))))))))))
def dnB_c0 (a : Int) (b : Int) (c : Int) (d : Int) (e : Int) (f : Int) (w : Int) : Bool := dErr a b c d e f == dErr a b c d e f
def dnB_c1 (a : Int) (b : Int) (c : Int) (d : Int) (e : Int) (f : Int) (w : Int) : Bool := f16_r0 a b c d e f w == 0 && (f16_r1 a b c d e f w == 0 && true)
def dnB_c2 (a : Int) (b : Int) (c : Int) (d : Int) (e : Int) (f : Int) (w : Int) : Bool := f16_r2 a b c d e f w == wErr w
def dnB_c3 (a : Int) (b : Int) (c : Int) (d : Int) (e : Int) (f : Int) (w : Int) : Bool := f28_r0 (f17_r0 a b c d e f w) (f17_r1 a b c d e f w) (f17_r2 a b c d e f w) (f17_r3 a b c d e f w) (f17_r4 a b c d e f w) (wErr w) 0 0 0 0
def dnB_c4 (a : Int) (b : Int) (c : Int) (d : Int) (e : Int) (f : Int) (w : Int) : Bool := f28_r0 (f18_r0 a b c d e f w) (f18_r1 a b c d e f w) (f18_r2 a b c d e f w) (f18_r3 a b c d e f w) (f18_r4 a b c d e f w) (wErr w) 0 0 0 0
theorem dnB_p0 (a : Int) (b : Int) (c : Int) (d : Int) (e : Int) (f : Int) (w : Int) (hd : (dErr a b c d e f != 0) = false) (hw : (wErr w != 0) = true) (he : (wErr w == 0) = false) (h0 : dnB_c0 a b c d e f w = true) (h1 : dnB_c1 a b c d e f w = true) (h2 : dnB_c2 a b c d e f w = true) (h3 : dnB_c3 a b c d e f w = true) (h4 : dnB_c4 a b c d e f w = true) : Gives Tryz.prog envK 0 3 [(.agg #[(.int .i64 (a)), (.int .i64 (b)), (.int .i64 (c)), (.int .i64 (d)), (.int .i64 (e)), (.int .i64 (f))]), (.int .i64 (w))] heap0 ((.bool (f28_r0 (f19_r0 a b c d e f w) (f19_r1 a b c d e f w) (f19_r2 a b c d e f w) (f19_r3 a b c d e f w) (f19_r4 a b c d e f w) (wErr w) 0 0 0 0)), heap0) :=
  Gives.by (n := 1000) (os := [.br 20 30 false, .br 20 30 true, .br 3 104 false, .br 3 140 true, .br 3 140 true, .br 3 140 true, .br 3 149 true, .br 3 150 true, .br 3 150 true, .br 3 150 true, .br 3 159 true, .br 3 160 true, .br 3 160 true, .br 3 160 true, .br 3 160 true, .br 3 160 true, .br 3 173 true, .br 3 174 true, .br 3 174 true, .br 3 174 true, .br 3 174 true, .br 3 174 true, .br 3 187 true, .br 3 188 true, .br 3 188 true, .br 3 188 true, .br 3 188 true, .br 3 188 true, .br 3 201 true]) (os' := []) (by kernel_rfl) (ObsOK.cond hd (ObsOK.cond hw (ObsOK.cond he (ObsOK.cond h0 (ObsOK.cond h0 (ObsOK.cond h0 (ObsOK.cond h0 (ObsOK.cond h1 (ObsOK.cond h1 (ObsOK.cond h1 (ObsOK.cond h1 (ObsOK.cond h2 (ObsOK.cond h2 (ObsOK.cond h2 (ObsOK.cond h2 (ObsOK.cond h2 (ObsOK.cond h2 (ObsOK.cond h3 (ObsOK.cond h3 (ObsOK.cond h3 (ObsOK.cond h3 (ObsOK.cond h3 (ObsOK.cond h3 (ObsOK.cond h4 (ObsOK.cond h4 (ObsOK.cond h4 (ObsOK.cond h4 (ObsOK.cond h4 (ObsOK.cond h4 (ObsOK.nil))))))))))))))))))))))))))))))
def dnC_c0 (a : Int) (b : Int) (c : Int) (d : Int) (e : Int) (f : Int) (w : Int) : Bool := dErr a b c d e f == dErr a b c d e f
def dnC_c1 (a : Int) (b : Int) (c : Int) (d : Int) (e : Int) (f : Int) (w : Int) : Bool := f16_r0 a b c d e f w == f23_r0 a b c d e f w && (f16_r1 a b c d e f w == f23_r1 a b c d e f w && true)
def dnC_c2 (a : Int) (b : Int) (c : Int) (d : Int) (e : Int) (f : Int) (w : Int) : Bool := f16_r2 a b c d e f w == 0
def dnC_c3 (a : Int) (b : Int) (c : Int) (d : Int) (e : Int) (f : Int) (w : Int) : Bool := f28_r0 (f17_r0 a b c d e f w) (f17_r1 a b c d e f w) (f17_r2 a b c d e f w) (f17_r3 a b c d e f w) (f17_r4 a b c d e f w) 0 (f24_r0 a b c d e f w) (f24_r1 a b c d e f w) (f24_r2 a b c d e f w) (f24_r3 a b c d e f w)
def dnC_c4 (a : Int) (b : Int) (c : Int) (d : Int) (e : Int) (f : Int) (w : Int) : Bool := f28_r0 (f18_r0 a b c d e f w) (f18_r1 a b c d e f w) (f18_r2 a b c d e f w) (f18_r3 a b c d e f w) (f18_r4 a b c d e f w) 0 (f25_r0 a b c d e f w) (f25_r1 a b c d e f w) (f25_r2 a b c d e f w) (f25_r3 a b c d e f w)
theorem dnC_p0 (a : Int) (b : Int) (c : Int) (d : Int) (e : Int) (f : Int) (w : Int) (hd : (dErr a b c d e f != 0) = false) (hw : (wErr w != 0) = false) (h0 : dnC_c0 a b c d e f w = true) (h1 : dnC_c1 a b c d e f w = true) (h2 : dnC_c2 a b c d e f w = true) (h3 : dnC_c3 a b c d e f w = true) (h4 : dnC_c4 a b c d e f w = true) : Gives Tryz.prog envK 0 3 [(.agg #[(.int .i64 (a)), (.int .i64 (b)), (.int .i64 (c)), (.int .i64 (d)), (.int .i64 (e)), (.int .i64 (f))]), (.int .i64 (w))] heap0 ((.bool (f28_r0 (f19_r0 a b c d e f w) (f19_r1 a b c d e f w) (f19_r2 a b c d e f w) (f19_r3 a b c d e f w) (f19_r4 a b c d e f w) 0 (f26_r0 a b c d e f w) (f26_r1 a b c d e f w) (f26_r2 a b c d e f w) (f26_r3 a b c d e f w))), heap0) :=
  Gives.by (n := 1000) (os := [.br 20 30 false, .br 20 30 false, .br 3 140 true, .br 3 140 true, .br 3 140 true, .br 3 149 true, .br 3 150 true, .br 3 150 true, .br 3 150 true, .br 3 159 true, .br 3 160 true, .br 3 160 true, .br 3 160 true, .br 3 160 true, .br 3 160 true, .br 3 173 true, .br 3 174 true, .br 3 174 true, .br 3 174 true, .br 3 174 true, .br 3 174 true, .br 3 187 true, .br 3 188 true, .br 3 188 true, .br 3 188 true, .br 3 188 true, .br 3 188 true, .br 3 201 true]) (os' := []) (by kernel_rfl) (ObsOK.cond hd (ObsOK.cond hw (ObsOK.cond h0 (ObsOK.cond h0 (ObsOK.cond h0 (ObsOK.cond h0 (ObsOK.cond h1 (ObsOK.cond h1 (ObsOK.cond h1 (ObsOK.cond h1 (ObsOK.cond h2 (ObsOK.cond h2 (ObsOK.cond h2 (ObsOK.cond h2 (ObsOK.cond h2 (ObsOK.cond h2 (ObsOK.cond h3 (ObsOK.cond h3 (ObsOK.cond h3 (ObsOK.cond h3 (ObsOK.cond h3 (ObsOK.cond h3 (ObsOK.cond h4 (ObsOK.cond h4 (ObsOK.cond h4 (ObsOK.cond h4 (ObsOK.cond h4 (ObsOK.cond h4 (ObsOK.nil)))))))))))))))))))))))))))))
end Go.Proofs.YtkndhhnjgpialaaGreatDoor
/-
What the numbers of the program and of the reference have to do with each other: drivers by themselves.
-/
namespace Go.Proofs.YtkndhhnjgpialaaGreatDoor
open Go Go.Abs
theorem q28_bad (e : Int) (h : (e != 0) = true) : f28_r0 0 0 0 0 e e 0 0 0 0 = true := by
  simp only [f28_r0, f28_c0, f28_c1, f28_c2, f28_c3, h, beq_self_eq_true, cond_true, Bool.and_true]
theorem q28_ok (a b c d : Int) : f28_r0 a b c d 0 0 a b c d = true := by
  simp [f28_r0, f28_c0, f28_c1, f28_c2, f28_c3]
section
variable (a b c d e f w : Int)
theorem n2 : f144_r2 a b c d e f w = f24_r0 a b c d e f w := by
  simp only [f144_r2, f144_r3, f144_r4, f144_r5, f144_r6, f144_r7, f144_r8, f144_r9, f144_r14, f144_r15, f144_r16, f144_r17, f150_r2, f150_r3, f150_r4, f150_r5, f150_r6, f150_r7, f150_r8, f150_r9, f150_r14, f150_r15, f150_r16, f150_r17, f151_r0, f151_r1, f177_r0, f177_r1, f149_r0, f149_r1, f38_r0, f38_r1, f38_r2, f38_r3, f39_r0, f39_r1, f39_r2, f39_r3, f40_r0, f40_r1, f40_r2, f40_r3, f108_r0, f108_r1, f108_r2, f108_r3, f108_r4, f108_r5, f108_r8, f108_r9, f108_c0, f152_r0, f152_r1, f82_r0, f82_r1, f91_r0, f91_r1, f24_r0, f24_r1, f24_r2, f24_r3, f25_r0, f25_r1, f25_r2, f25_r3, f26_r0, f26_r1, f26_r2, f26_r3, beq_self_eq_true, cond_true, wAdd_l, wAdd_r, wSub_l, wSub_r, wMul_l, wMul_r, wWrap]
  try (congr 1; grind)
theorem n3 : f144_r3 a b c d e f w = f24_r1 a b c d e f w := by
  simp only [f144_r2, f144_r3, f144_r4, f144_r5, f144_r6, f144_r7, f144_r8, f144_r9, f144_r14, f144_r15, f144_r16, f144_r17, f150_r2, f150_r3, f150_r4, f150_r5, f150_r6, f150_r7, f150_r8, f150_r9, f150_r14, f150_r15, f150_r16, f150_r17, f151_r0, f151_r1, f177_r0, f177_r1, f149_r0, f149_r1, f38_r0, f38_r1, f38_r2, f38_r3, f39_r0, f39_r1, f39_r2, f39_r3, f40_r0, f40_r1, f40_r2, f40_r3, f108_r0, f108_r1, f108_r2, f108_r3, f108_r4, f108_r5, f108_r8, f108_r9, f108_c0, f152_r0, f152_r1, f82_r0, f82_r1, f91_r0, f91_r1, f24_r0, f24_r1, f24_r2, f24_r3, f25_r0, f25_r1, f25_r2, f25_r3, f26_r0, f26_r1, f26_r2, f26_r3, beq_self_eq_true, cond_true, wAdd_l, wAdd_r, wSub_l, wSub_r, wMul_l, wMul_r, wWrap]
  try (congr 1; grind)
theorem n4 : f144_r4 a b c d e f w = f24_r2 a b c d e f w := by
  simp only [f144_r2, f144_r3, f144_r4, f144_r5, f144_r6, f144_r7, f144_r8, f144_r9, f144_r14, f144_r15, f144_r16, f144_r17, f150_r2, f150_r3, f150_r4, f150_r5, f150_r6, f150_r7, f150_r8, f150_r9, f150_r14, f150_r15, f150_r16, f150_r17, f151_r0, f151_r1, f177_r0, f177_r1, f149_r0, f149_r1, f38_r0, f38_r1, f38_r2, f38_r3, f39_r0, f39_r1, f39_r2, f39_r3, f40_r0, f40_r1, f40_r2, f40_r3, f108_r0, f108_r1, f108_r2, f108_r3, f108_r4, f108_r5, f108_r8, f108_r9, f108_c0, f152_r0, f152_r1, f82_r0, f82_r1, f91_r0, f91_r1, f24_r0, f24_r1, f24_r2, f24_r3, f25_r0, f25_r1, f25_r2, f25_r3, f26_r0, f26_r1, f26_r2, f26_r3, beq_self_eq_true, cond_true, wAdd_l, wAdd_r, wSub_l, wSub_r, wMul_l, wMul_r, wWrap]
  try (congr 1; grind)
theorem n5 : f144_r5 a b c d e f w = f24_r3 a b c d e f w := by
  simp only [f144_r2, f144_r3, f144_r4, f144_r5, f144_r6, f144_r7, f144_r8, f144_r9, f144_r14, f144_r15, f144_r16, f144_r17, f150_r2, f150_r3, f150_r4, f150_r5, f150_r6, f150_r7, f150_r8, f150_r9, f150_r14, f150_r15, f150_r16, f150_r17, f151_r0, f151_r1, f177_r0, f177_r1, f149_r0, f149_r1, f38_r0, f38_r1, f38_r2, f38_r3, f39_r0, f39_r1, f39_r2, f39_r3, f40_r0, f40_r1, f40_r2, f40_r3, f108_r0, f108_r1, f108_r2, f108_r3, f108_r4, f108_r5, f108_r8, f108_r9, f108_c0, f152_r0, f152_r1, f82_r0, f82_r1, f91_r0, f91_r1, f24_r0, f24_r1, f24_r2, f24_r3, f25_r0, f25_r1, f25_r2, f25_r3, f26_r0, f26_r1, f26_r2, f26_r3, beq_self_eq_true, cond_true, wAdd_l, wAdd_r, wSub_l, wSub_r, wMul_l, wMul_r, wWrap]
  try (congr 1; grind)
theorem n6 : f144_r6 a b c d e f w = f25_r0 a b c d e f w := by
  simp only [f144_r2, f144_r3, f144_r4, f144_r5, f144_r6, f144_r7, f144_r8, f144_r9, f144_r14, f144_r15, f144_r16, f144_r17, f150_r2, f150_r3, f150_r4, f150_r5, f150_r6, f150_r7, f150_r8, f150_r9, f150_r14, f150_r15, f150_r16, f150_r17, f151_r0, f151_r1, f177_r0, f177_r1, f149_r0, f149_r1, f38_r0, f38_r1, f38_r2, f38_r3, f39_r0, f39_r1, f39_r2, f39_r3, f40_r0, f40_r1, f40_r2, f40_r3, f108_r0, f108_r1, f108_r2, f108_r3, f108_r4, f108_r5, f108_r8, f108_r9, f108_c0, f152_r0, f152_r1, f82_r0, f82_r1, f91_r0, f91_r1, f24_r0, f24_r1, f24_r2, f24_r3, f25_r0, f25_r1, f25_r2, f25_r3, f26_r0, f26_r1, f26_r2, f26_r3, beq_self_eq_true, cond_true, wAdd_l, wAdd_r, wSub_l, wSub_r, wMul_l, wMul_r, wWrap]
  try (congr 1; grind)
theorem n7 : f144_r7 a b c d e f w = f25_r1 a b c d e f w := by
  simp only [f144_r2, f144_r3, f144_r4, f144_r5, f144_r6, f144_r7, f144_r8, f144_r9, f144_r14, f144_r15, f144_r16, f144_r17, f150_r2, f150_r3, f150_r4, f150_r5, f150_r6, f150_r7, f150_r8, f150_r9, f150_r14, f150_r15, f150_r16, f150_r17, f151_r0, f151_r1, f177_r0, f177_r1, f149_r0, f149_r1, f38_r0, f38_r1, f38_r2, f38_r3, f39_r0, f39_r1, f39_r2, f39_r3, f40_r0, f40_r1, f40_r2, f40_r3, f108_r0, f108_r1, f108_r2, f108_r3, f108_r4, f108_r5, f108_r8, f108_r9, f108_c0, f152_r0, f152_r1, f82_r0, f82_r1, f91_r0, f91_r1, f24_r0, f24_r1, f24_r2, f24_r3, f25_r0, f25_r1, f25_r2, f25_r3, f26_r0, f26_r1, f26_r2, f26_r3, beq_self_eq_true, cond_true, wAdd_l, wAdd_r, wSub_l, wSub_r, wMul_l, wMul_r, wWrap]
  try (congr 1; grind)
theorem n8 : f144_r8 a b c d e f w = f25_r2 a b c d e f w := by
  simp only [f144_r2, f144_r3, f144_r4, f144_r5, f144_r6, f144_r7, f144_r8, f144_r9, f144_r14, f144_r15, f144_r16, f144_r17, f150_r2, f150_r3, f150_r4, f150_r5, f150_r6, f150_r7, f150_r8, f150_r9, f150_r14, f150_r15, f150_r16, f150_r17, f151_r0, f151_r1, f177_r0, f177_r1, f149_r0, f149_r1, f38_r0, f38_r1, f38_r2, f38_r3, f39_r0, f39_r1, f39_r2, f39_r3, f40_r0, f40_r1, f40_r2, f40_r3, f108_r0, f108_r1, f108_r2, f108_r3, f108_r4, f108_r5, f108_r8, f108_r9, f108_c0, f152_r0, f152_r1, f82_r0, f82_r1, f91_r0, f91_r1, f24_r0, f24_r1, f24_r2, f24_r3, f25_r0, f25_r1, f25_r2, f25_r3, f26_r0, f26_r1, f26_r2, f26_r3, beq_self_eq_true, cond_true, wAdd_l, wAdd_r, wSub_l, wSub_r, wMul_l, wMul_r, wWrap]
  try (congr 1; grind)
theorem n9 : f144_r9 a b c d e f w = f25_r3 a b c d e f w := by
  simp only [f144_r2, f144_r3, f144_r4, f144_r5, f144_r6, f144_r7, f144_r8, f144_r9, f144_r14, f144_r15, f144_r16, f144_r17, f150_r2, f150_r3, f150_r4, f150_r5, f150_r6, f150_r7, f150_r8, f150_r9, f150_r14, f150_r15, f150_r16, f150_r17, f151_r0, f151_r1, f177_r0, f177_r1, f149_r0, f149_r1, f38_r0, f38_r1, f38_r2, f38_r3, f39_r0, f39_r1, f39_r2, f39_r3, f40_r0, f40_r1, f40_r2, f40_r3, f108_r0, f108_r1, f108_r2, f108_r3, f108_r4, f108_r5, f108_r8, f108_r9, f108_c0, f152_r0, f152_r1, f82_r0, f82_r1, f91_r0, f91_r1, f24_r0, f24_r1, f24_r2, f24_r3, f25_r0, f25_r1, f25_r2, f25_r3, f26_r0, f26_r1, f26_r2, f26_r3, beq_self_eq_true, cond_true, wAdd_l, wAdd_r, wSub_l, wSub_r, wMul_l, wMul_r, wWrap]
  try (congr 1; grind)
theorem n14 : f144_r14 a b c d e f w = f26_r0 a b c d e f w := by
  simp only [f144_r2, f144_r3, f144_r4, f144_r5, f144_r6, f144_r7, f144_r8, f144_r9, f144_r14, f144_r15, f144_r16, f144_r17, f150_r2, f150_r3, f150_r4, f150_r5, f150_r6, f150_r7, f150_r8, f150_r9, f150_r14, f150_r15, f150_r16, f150_r17, f151_r0, f151_r1, f177_r0, f177_r1, f149_r0, f149_r1, f38_r0, f38_r1, f38_r2, f38_r3, f39_r0, f39_r1, f39_r2, f39_r3, f40_r0, f40_r1, f40_r2, f40_r3, f108_r0, f108_r1, f108_r2, f108_r3, f108_r4, f108_r5, f108_r8, f108_r9, f108_c0, f152_r0, f152_r1, f82_r0, f82_r1, f91_r0, f91_r1, f24_r0, f24_r1, f24_r2, f24_r3, f25_r0, f25_r1, f25_r2, f25_r3, f26_r0, f26_r1, f26_r2, f26_r3, beq_self_eq_true, cond_true, wAdd_l, wAdd_r, wSub_l, wSub_r, wMul_l, wMul_r, wWrap]
  try (congr 1; grind)
theorem n15 : f144_r15 a b c d e f w = f26_r1 a b c d e f w := by
  simp only [f144_r2, f144_r3, f144_r4, f144_r5, f144_r6, f144_r7, f144_r8, f144_r9, f144_r14, f144_r15, f144_r16, f144_r17, f150_r2, f150_r3, f150_r4, f150_r5, f150_r6, f150_r7, f150_r8, f150_r9, f150_r14, f150_r15, f150_r16, f150_r17, f151_r0, f151_r1, f177_r0, f177_r1, f149_r0, f149_r1, f38_r0, f38_r1, f38_r2, f38_r3, f39_r0, f39_r1, f39_r2, f39_r3, f40_r0, f40_r1, f40_r2, f40_r3, f108_r0, f108_r1, f108_r2, f108_r3, f108_r4, f108_r5, f108_r8, f108_r9, f108_c0, f152_r0, f152_r1, f82_r0, f82_r1, f91_r0, f91_r1, f24_r0, f24_r1, f24_r2, f24_r3, f25_r0, f25_r1, f25_r2, f25_r3, f26_r0, f26_r1, f26_r2, f26_r3, beq_self_eq_true, cond_true, wAdd_l, wAdd_r, wSub_l, wSub_r, wMul_l, wMul_r, wWrap]
  try (congr 1; grind)
theorem n16 : f144_r16 a b c d e f w = f26_r2 a b c d e f w := by
  simp only [f144_r2, f144_r3, f144_r4, f144_r5, f144_r6, f144_r7, f144_r8, f144_r9, f144_r14, f144_r15, f144_r16, f144_r17, f150_r2, f150_r3, f150_r4, f150_r5, f150_r6, f150_r7, f150_r8, f150_r9, f150_r14, f150_r15, f150_r16, f150_r17, f151_r0, f151_r1, f177_r0, f177_r1, f149_r0, f149_r1, f38_r0, f38_r1, f38_r2, f38_r3, f39_r0, f39_r1, f39_r2, f39_r3, f40_r0, f40_r1, f40_r2, f40_r3, f108_r0, f108_r1, f108_r2, f108_r3, f108_r4, f108_r5, f108_r8, f108_r9, f108_c0, f152_r0, f152_r1, f82_r0, f82_r1, f91_r0, f91_r1, f24_r0, f24_r1, f24_r2, f24_r3, f25_r0, f25_r1, f25_r2, f25_r3, f26_r0, f26_r1, f26_r2, f26_r3, beq_self_eq_true, cond_true, wAdd_l, wAdd_r, wSub_l, wSub_r, wMul_l, wMul_r, wWrap]
  try (congr 1; grind)
theorem n17 : f144_r17 a b c d e f w = f26_r3 a b c d e f w := by
  simp only [f144_r2, f144_r3, f144_r4, f144_r5, f144_r6, f144_r7, f144_r8, f144_r9, f144_r14, f144_r15, f144_r16, f144_r17, f150_r2, f150_r3, f150_r4, f150_r5, f150_r6, f150_r7, f150_r8, f150_r9, f150_r14, f150_r15, f150_r16, f150_r17, f151_r0, f151_r1, f177_r0, f177_r1, f149_r0, f149_r1, f38_r0, f38_r1, f38_r2, f38_r3, f39_r0, f39_r1, f39_r2, f39_r3, f40_r0, f40_r1, f40_r2, f40_r3, f108_r0, f108_r1, f108_r2, f108_r3, f108_r4, f108_r5, f108_r8, f108_r9, f108_c0, f152_r0, f152_r1, f82_r0, f82_r1, f91_r0, f91_r1, f24_r0, f24_r1, f24_r2, f24_r3, f25_r0, f25_r1, f25_r2, f25_r3, f26_r0, f26_r1, f26_r2, f26_r3, beq_self_eq_true, cond_true, wAdd_l, wAdd_r, wSub_l, wSub_r, wMul_l, wMul_r, wWrap]
  try (congr 1; grind)
end
theorem dErr_ok {a b c d e f : Int} (h : okD a b c d e f = true) : dErr a b c d e f = 0 := by unfold dErr; rw [h]; rfl
theorem dErr_bad {a b c d e f : Int} (h : okD a b c d e f = false) : dErr a b c d e f = 3 := by unfold dErr; rw [h]; rfl
theorem wErr_ok {w : Int} (h : okW w = true) : wErr w = 0 := by unfold wErr; rw [h]; rfl
theorem wErr_bad {w : Int} (h : okW w = false) : wErr w = 3 := by unfold wErr; rw [h]; rfl
/-- DriverNumbers gives true. -/
theorem dn_law (a b c d e f w : Int) : Gives Tryz.prog envK 0 3 [.agg #[.int .i64 a, .int .i64 b, .int .i64 c, .int .i64 d, .int .i64 e, .int .i64 f], .int .i64 w] heap0 (.bool true, heap0) := by
  cases hd : okD a b c d e f
  · have h3 := dErr_bad hd
    have key := dnA_p0 a b c d e f w (by rw [h3]; rfl) (by rw [h3]; rfl)
    simp only [dnA_c0, dnA_c1, dnA_c2, dnA_c3, dnA_c4, f16_r0, f16_r1, f16_r2, f17_r0, f17_r1, f17_r2, f17_r3, f17_r4, f18_r0, f18_r1, f18_r2, f18_r3, f18_r4, f19_r0, f19_r1, f19_r2, f19_r3, f19_r4,
      f90_r0, f90_r1, f90_r2, f90_r3, f90_r4, f90_r5, f90_r6, f90_r7, f90_r8, f90_r9, f90_r14, f90_r15, f90_r16, f90_r17, f90_r18, f90_c0, h3, show ((3 : Int) != 0) = true from rfl, cond_true, q28_bad 3 rfl] at key
    exact key (by first | exact trivial | rfl) (by first | exact trivial | rfl) (by first | exact trivial | rfl) (by first | exact trivial | rfl) (by first | exact trivial | rfl)
  · have h3 := dErr_ok hd
    cases hw : okW w
    · have h4 := wErr_bad hw
      have key := dnB_p0 a b c d e f w (by rw [h3]; rfl) (by rw [h4]; rfl) (by rw [h4]; rfl)
      simp only [dnB_c0, dnB_c1, dnB_c2, dnB_c3, dnB_c4, f16_r0, f16_r1, f16_r2, f17_r0, f17_r1, f17_r2, f17_r3, f17_r4, f18_r0, f18_r1, f18_r2, f18_r3, f18_r4, f19_r0, f19_r1, f19_r2, f19_r3, f19_r4,
        f90_r0, f90_r1, f90_r2, f90_r3, f90_r4, f90_r5, f90_r6, f90_r7, f90_r8, f90_r9, f90_r14, f90_r15, f90_r16, f90_r17, f90_r18, f90_c0, f90_c1, h3, h4, show ((3 : Int) != 0) = true from rfl, show ((0 : Int) != 0) = false from rfl, cond_true, cond_false, q28_bad 3 rfl] at key
      exact key (by first | exact trivial | rfl) (by first | exact trivial | rfl) (by first | exact trivial | rfl) (by first | exact trivial | rfl) (by first | exact trivial | rfl)
    · have h4 := wErr_ok hw
      have key := dnC_p0 a b c d e f w (by rw [h3]; rfl) (by rw [h4]; rfl)
      simp only [dnC_c0, dnC_c1, dnC_c2, dnC_c3, dnC_c4, f16_r0, f16_r1, f16_r2, f17_r0, f17_r1, f17_r2, f17_r3, f17_r4, f18_r0, f18_r1, f18_r2, f18_r3, f18_r4, f19_r0, f19_r1, f19_r2, f19_r3, f19_r4,
        f90_r0, f90_r1, f90_r2, f90_r3, f90_r4, f90_r5, f90_r6, f90_r7, f90_r8, f90_r9, f90_r14, f90_r15, f90_r16, f90_r17, f90_r18, f90_c0, f90_c1, h3, h4, show ((0 : Int) != 0) = false from rfl, cond_false,
        n2, n3, n4, n5, n6, n7, n8, n9, n14, n15, n16, n17, show ∀ a b c d e f w, f144_r0 a b c d e f w = f23_r0 a b c d e f w from fun _ _ _ _ _ _ _ => rfl, show ∀ a b c d e f w, f144_r1 a b c d e f w = f23_r1 a b c d e f w from fun _ _ _ _ _ _ _ => rfl,
        q28_ok, beq_self_eq_true, Bool.and_true] at key
      exact key (by first | exact trivial | rfl) (by first | exact trivial | rfl) (by first | exact trivial | rfl) (by first | exact trivial | rfl) (by first | exact trivial | rfl)
end Go.Proofs.YtkndhhnjgpialaaGreatDoor
/-
DriverNumbers: from the rows to the statement.
-/
namespace Go.Proofs.YtkndhhnjgpialaaGreatDoor.driverNumbers
open Go Go.Abs Go.ChangeShapes Go.WideShapes Go.ChangeAt Go.RowKit

theorem own : ownKnob Tryz.prog.godebug = none := by kernel_rfl
theorem heap0_eq : heap0 = tabRows Tryz.prog Rows.driverNumbersRow.laid 9 := by kernel_rfl
theorem still0 : noOwn heap0 = true := by kernel_rfl
section
variable {H : Type} {enc : TypeId × Value → H} {w : World} {base : Nat} {sp : Nat → Bool} {hd : Bool}
set_option maxRecDepth 100000 in
theorem arg23 {r : Reach} {b0 : Nat} {v : Value} {d : DataW H} {p : List MemPlace} (hv : Value.okWide Tryz.prog w r b0 23 v) (h : DataW.Trod enc Tryz.prog w base sp hd 23 v d p) :
    p = [] ∧ ∃ a0 a1 a2 a3 a4 a5 : Int, v = .agg #[.int .i64 a0, .int .i64 a1, .int .i64 a2, .int .i64 a3, .int .i64 a4, .int .i64 a5] := by
  obtain ⟨fuel, h⟩ := h
  simp only [Value.okWide, Tryz.underlying23] at hv
  obtain ⟨cs, rfl, _, _⟩ := hv
  obtain ⟨hi, hp⟩ := flat_of 9 23 [.i64, .i64, .i64, .i64, .i64, .i64] fuel _ _ (by kernel_rfl) h
  refine ⟨hp, ?_⟩
  simp only [Value.cells] at hi
  obtain ⟨a0, l0, e0, _, hi⟩ := hi.inv
  obtain ⟨a1, l1, e1, _, hi⟩ := hi.inv
  obtain ⟨a2, l2, e2, _, hi⟩ := hi.inv
  obtain ⟨a3, l3, e3, _, hi⟩ := hi.inv
  obtain ⟨a4, l4, e4, _, hi⟩ := hi.inv
  obtain ⟨a5, l5, e5, _, hi⟩ := hi.inv
  have ee := hi.end
  refine ⟨a0, a1, a2, a3, a4, a5, ?_⟩
  rw [← Array.toList_inj.1 (show cs.toList = (#[.int .i64 a0, .int .i64 a1, .int .i64 a2, .int .i64 a3, .int .i64 a4, .int .i64 a5] : Array Value).toList from by rw [e0, e1, e2, e3, e4, e5, ee])]
end

theorem calls (x0 x1 x2 x3 x4 x5 x6 : Int) (W : World) (hL : laidMetH Tryz.prog Rows.driverNumbersRow.laid W) :
    Calls Tryz.prog 3 #[.agg #[.int .i64 x0, .int .i64 x1, .int .i64 x2, .int .i64 x3, .int .i64 x4, .int .i64 x5], .int .i64 x6] W fun e w' =>
      e = .returned (.bool true) ∧ (w'.os = W.os ∧ w'.output = W.output) ∧ ∀ b, b < W.heap.size → w'.heap[b]? = W.heap[b]? := by
  obtain ⟨n, hn⟩ := dn_law x0 x1 x2 x3 x4 x5 x6
  have hl : laidMet Tryz.prog Rows.driverNumbersRow.laid W := by rw [← MakeChecks.laidMetH_plain _ _ _ (by kernel_rfl)]; exact hL
  have hR : Rel Tryz.prog (tabLoc 9) heap0 W := by rw [heap0_eq]; exact tabRows_rel hl
  have hb : ∃ cd, Tryz.f3.body = some cd := ⟨_, rfl⟩
  obtain ⟨cd, hb⟩ := hb
  have hargs : VRs (tabLoc 9) [.agg #[.int .i64 x0, .int .i64 x1, .int .i64 x2, .int .i64 x3, .int .i64 x4, .int .i64 x5], .int .i64 x6] [.agg #[.int .i64 x0, .int .i64 x1, .int .i64 x2, .int .i64 x3, .int .i64 x4, .int .i64 x5], .int .i64 x6] := VRs.cons (VR.refl _ rfl) (VRs.cons (VR.refl _ rfl) (VRs.nil _))
  refine (calls_of (call_sound prog_ok envK_ok n) prog_ok Tryz.func3 hb hn hargs (tabLoc_globs 9) hR still0).mono ?_
  rintro e w' ⟨v', ρ', rfl, hv, _, hm, hs⟩
  rw [hv.atom_eq rfl]
  exact ⟨rfl, hm.out, hs⟩

theorem reads_ok : Reads Tryz.prog := ⟨by kernel_rfl, by kernel_rfl, by kernel_rfl⟩
theorem len_2 {α : Type} {l : List α} (h : l.length = 2) : ∃ y0 y1 : α, l = [y0, y1] := by
  match l, h with
  | [y0, y1], _ => exact ⟨y0, y1, rfl⟩

set_option maxRecDepth 100000 in
theorem contract (H : Type) (enc : TypeId × Value → H) (W : World) (base : Nat) (args : Array Value) (ds gs : List (DataW H)) (before : List MemPlace)
    (hval : ∀ (j : Nat) t v, Tryz.f3.params[j]? = some t → args[j]? = some v → Value.okWide Tryz.prog W .any base t v)
    (hW : DataW.Whole enc Tryz.prog Tryz.f3.params.toList Rows.driverNumbersSpec.vars false W args.toList ds gs before) (hL : laidMetH Tryz.prog Rows.driverNumbersRow.laid W) :
    Calls Tryz.prog 3 args W fun e W' => ∃ v, e = .returned v ∧ Rows.driverNumbersSpec.post enc Tryz.prog Tryz.f3 false true false false W args v W' := by
  have hW' := hW
  obtain ⟨p, q, hA, hV, rfl, hfz, hnd⟩ := hW
  have hA0 : DataW.TrodAll enc Tryz.prog W 0 (fun _ => true) true Tryz.f3.params.toList args.toList ds p := hA
  rw [Tryz.params3] at hA0 hval
  obtain ⟨v0, vs0, d0, ds0, p0, q0, hargs0, rfl, rfl, h0, r0⟩ := trodAll_cons hA0
  obtain ⟨v1, vs1, d1, ds1, p1, q1, hargs1, rfl, rfl, h1, r1⟩ := trodAll_cons r0
  obtain ⟨rfl, rfl, rfl⟩ := trodAll_nil r1
  obtain rfl : args = #[v0, v1] := by cases args; simp_all
  obtain ⟨_, x0, x1, x2, x3, x4, x5, rfl⟩ := arg23 (hval 0 23 v0 rfl rfl) h0
  obtain ⟨x6, rfl, _, _, _⟩ := open_int Tryz.underlying3 (hval 1 3 v1 rfl rfl) h1
  refine (calls x0 x1 x2 x3 x4 x5 x6 W hL).mono fun e W' hr => ?_
  obtain ⟨rfl, ho, hb⟩ := hr
  refine ⟨_, rfl, law_post (bt := 4) reads_ok rfl (fun ds hl => ?_) (by kernel_rfl) Tryz.underlying4 (by kernel_rfl) hW' ho hb⟩
  rw [show Tryz.f3.params.size = 2 by kernel_rfl] at hl
  obtain ⟨y0, y1, rfl⟩ := len_2 hl
  rfl
end Go.Proofs.YtkndhhnjgpialaaGreatDoor.driverNumbers
/-
DriverNumbers of the package wooferlaw03 returns true for every input, whatever the world: proved for all arguments, under the conditions that the row and its card name (the package-level tables as laid).
-/
namespace Go.Proofs.YtkndhhnjgpialaaGreatDoor.driverNumbers
open Go Go.Abs Go.ChangeShapes Go.WideShapes Go.ChangeAt Go.RowKit

/-- The settled world, the tables laid. -/
noncomputable def putTab (A : Heap) (w : World) : World :=
  { w with heap := ((List.range 9).foldl (fun h g => match hget A g with
      | some (.cells cs _ _) => h.modify g fun
        | .cells _ t frozen => .cells cs.toArray t frozen
        | o => o
      | _ => h) w.heap) }
noncomputable def laidWorld (os : Os) : World := putTab heap0 (World.holding Tryz.prog os ⟨#[], #[], []⟩)
theorem laid_met (os : Os) : laidMet Tryz.prog Rows.driverNumbersRow.laid ((laidWorld os).forCall (fun _ _ => 0) ⟨#[], #[.agg #[.int .i64 0, .int .i64 0, .int .i64 0, .int .i64 0, .int .i64 0, .int .i64 0], .int .i64 0], []⟩).memory :=
  laidMet_of_run' 8 (by kernel_rfl) (by kernel_rfl)
theorem reads (os : Os) {H : Type} (enc : TypeId × Value → H) : ∃ places, DataW.whole enc Tryz.prog ((laidWorld os).forCall (fun _ _ => 0) ⟨#[], #[.agg #[.int .i64 0, .int .i64 0, .int .i64 0, .int .i64 0, .int .i64 0, .int .i64 0], .int .i64 0], []⟩).memory Tryz.f3.params.toList Rows.driverNumbersSpec.vars false (#[.agg #[.int .i64 0, .int .i64 0, .int .i64 0, .int .i64 0, .int .i64 0, .int .i64 0], .int .i64 0] : Array Value).toList 8 = some ([.agg [.lit (.int .i64 0), .lit (.int .i64 0), .lit (.int .i64 0), .lit (.int .i64 0), .lit (.int .i64 0), .lit (.int .i64 0)], .lit (.int .i64 0)], [], places) :=
  ⟨[], by kernel_rfl⟩

set_option maxRecDepth 100000 in
theorem lifted (os : Os) (started : os.Started) (H : Type) (enc : TypeId × Value → H) (F : Stop.Interp) :
    ReturnsInHanded {} Tryz.checked os 3 .any ((OpenSpec.ofChange Rows.driverNumbersSpec).preRow enc Tryz.prog Tryz.f3 Rows.driverNumbersRow.domain false Rows.driverNumbersRow.laid) (((OpenSpec.ofChange Rows.driverNumbersSpec).at F).post enc Tryz.prog Tryz.f3 false true false false) := by
  obtain ⟨places, hx⟩ := reads os enc
  refine returnsInHanded_of_row (C := Tryz.checked) (s := OpenSpec.ofChange Rows.driverNumbersSpec) own started (by kernel_rfl) Tryz.func3
    (witness_row_at (enc := enc) (C := Tryz.checked) false (laidWorld os) #[.agg #[.int .i64 0, .int .i64 0, .int .i64 0, .int .i64 0, .int .i64 0, .int .i64 0], .int .i64 0] rfl (by kernel_rfl) (by kernel_rfl) (by kernel_rfl)
      (OpenSpec.preRow_of_cond 8 hx (by kernel_rfl) (fun k hk => by cases hk) (by kernel_rfl) (laid_met os))) ?_
  intro W base args ds gs before hval hW _ _ _ hL _ _
  exact contract H enc W base args ds gs before hval hW hL

theorem said : Rows.DriverNumbersSaid :=
  OpenClaim.holds_of_cond 3 Tryz.f3 rfl rfl rfl rfl rfl rfl rfl ⟨rfl, rfl, rfl, rfl, rfl⟩ rfl rfl rfl rfl rfl (by kernel_rfl) Tryz.func3 (by kernel_rfl)
    (of_decide_eq_true (by kernel_rfl)) (by unfold Func.isWrapper; first | (rw [if_pos (by decide +kernel)]; kernel_rfl) | (rw [if_neg (by decide +kernel)]; exact ⟨rfl, rfl⟩))
    (fun os started H enc _ F => by rw [OpenClaim.pre_eq_preRow]; exact lifted os started H enc F)

theorem plain (f : FuncId) (fn : Func) (hf : Tryz.pinned.checked.prog.funcNamed "woofer/wooferlaw03.DriverNumbers" = some f) (hfn : Tryz.pinned.checked.prog.funcs[f]? = some fn) :
    true = Tryz.pinned.checked.prog.looks [] ∧ ∀ (j : Nat) t, fn.params[j]? = some t → Tryz.pinned.checked.prog.wantsStandIn t = false := by
  obtain rfl : f = 3 := Option.some.inj ((show Tryz.prog.funcNamed "woofer/wooferlaw03.DriverNumbers" = some 3 by kernel_rfl).symm.trans hf) |>.symm
  obtain rfl : fn = Tryz.f3 := (Option.some.inj (Tryz.func3.symm.trans hfn)).symm
  refine ⟨by kernel_rfl, fun j t ht => ?_⟩
  rw [Tryz.params3] at ht
  have hm := Array.mem_of_getElem? ht
  simp only [List.mem_toArray, List.mem_cons, List.not_mem_nil, or_false] at hm
  rcases hm with rfl | rfl
  · exact (show Tryz.prog.wantsStandIn 23 = false by kernel_rfl)
  · exact (show Tryz.prog.wantsStandIn 3 = false by kernel_rfl)

theorem card : Rows.DriverNumbersCardSaid :=
  Claim7.holds_tied_plain_at .later [] _ _ _ _ said (fun _ h => by cases h) (by kernel_rfl) (fun _ h => by cases h) driverNumbers_row_tie rfl ⟨rfl, rfl⟩ (by kernel_rfl) rfl plain (by kernel_rfl)
end Go.Proofs.YtkndhhnjgpialaaGreatDoor.driverNumbers
