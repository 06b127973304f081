/-
LineSmallest of the package wooferlaw09 returns true for every input, whatever the world: proved for all arguments, without conditions but those that the row names.
-/
import Derived.Test.YtinkgnklhcjejaaGreatMsm1
import Derived.Test.YtinkgnklhcjejaaGreatMb4
import Derived.Test.YtinkgnklhcjejaaGreatMb5
import Derived.Test.YtinkgnklhcjejaaGreatRows
import Derived.WalkKit
import Derived.ProofKit
import Derived.OpenShut
import Derived.Deep.DeepHandedRow
import Derived.Lib.LaidTab
import Derived.MakeChecks
set_option linter.unusedVariables false
set_option linter.unusedSimpArgs false
set_option linter.unusedSectionVars false
/-
Ratios that are asked for.
-/
namespace Go.Proofs.YtinkgnklhcjejaaGreat
open Go Go.Abs
theorem ct1_p0 (x y : Int) (h1 : (!wi_r0 x (-999999999) 999999999) = true) : Gives Tryz.prog envM 0 158 [.agg #[I x, I y]] [] ((.int .i64 (3)), []) :=
  Gives.by (n := 1000) (os := [.br 158 16 true, .br 158 16 true, .br 158 16 true, .br 158 16 true, .br 158 27 true]) (os' := []) (by kernel_rfl) (ObsOK.cond h1 (ObsOK.cond h1 (ObsOK.cond h1 (ObsOK.cond h1 (ObsOK.cond h1 (ObsOK.nil))))))
theorem ct1_gives (x y : Int) (h1 : (!wi_r0 x (-999999999) 999999999) = true) : Gives Tryz.prog envM 0 158 [.agg #[I x, I y]] [] ((.int .i64 (3)), []) := by
  exact ct1_p0 x y h1
theorem ct2_p0 (x y : Int) (h1 : (!wi_r0 x (-999999999) 999999999) = false) (h2 : (!wi_r0 y 1 999999999) = true) : Gives Tryz.prog envM 0 158 [.agg #[I x, I y]] [] ((.int .i64 (3)), []) :=
  Gives.by (n := 1000) (os := [.br 158 16 false, .br 158 16 false, .br 158 16 false, .br 158 16 false, .br 158 27 false, .br 158 26 true]) (os' := []) (by kernel_rfl) (ObsOK.cond h1 (ObsOK.cond h1 (ObsOK.cond h1 (ObsOK.cond h1 (ObsOK.cond h1 (ObsOK.cond h2 (ObsOK.nil)))))))
theorem ct2_gives (x y : Int) (h1 : (!wi_r0 x (-999999999) 999999999) = false) (h2 : (!wi_r0 y 1 999999999) = true) : Gives Tryz.prog envM 0 158 [.agg #[I x, I y]] [] ((.int .i64 (3)), []) := by
  exact ct2_p0 x y h1 h2
theorem ct3_p0 (x y n d : Int) (h1 : (!wi_r0 x (-999999999) 999999999) = false) (h2 : (!wi_r0 y 1 999999999) = false) (hl : ∀ (lim : Nat) (A : Heap), startsB heapN A = true → Gives Tryz.prog envM lim 104 [.agg #[.int .i64 x, .int .i64 y]] A (.agg #[.int .i64 n, .int .i64 d], A)) : Gives Tryz.prog envM 0 158 [.agg #[I x, I y]] [] ((.int .i64 (wh_r0 (!(n == x && (d == y && true))) 1)), []) :=
  Gives.by (n := 1000) (os := [.br 158 16 false, .br 158 16 false, .br 158 16 false, .br 158 16 false, .br 158 27 false, .br 158 26 false, .opw 158 15 (.agg #[(.int .i64 n), (.int .i64 d)]) [(.some (.cells [(.int .i64 x), (.int .i64 y)] 59 .var))]]) (os' := []) (by kernel_rfl) (ObsOK.cond h1 (ObsOK.cond h1 (ObsOK.cond h1 (ObsOK.cond h1 (ObsOK.cond h1 (ObsOK.cond h2 (ObsOK.call (hl 1 [(.some (.cells [(.int .i64 x), (.int .i64 y)] 59 .var))] (by kernel_rfl)) (ObsOK.nil))))))))
def ct3_r0 (x : Int) (y : Int) (n : Int) (d : Int) : Int := (wh_r0 (!(n == x && (d == y && true))) 1)
theorem ct3_gives (x y n d : Int) (h1 : (!wi_r0 x (-999999999) 999999999) = false) (h2 : (!wi_r0 y 1 999999999) = false) (hl : ∀ (lim : Nat) (A : Heap), startsB heapN A = true → Gives Tryz.prog envM lim 104 [.agg #[.int .i64 x, .int .i64 y]] A (.agg #[.int .i64 n, .int .i64 d], A)) : Gives Tryz.prog envM 0 158 [.agg #[I x, I y]] [] ((.int .i64 (ct3_r0 x y n d)), []) := by
  simp only [ct3_r0, cond_true, cond_false]; exact ct3_p0 x y n d h1 h2 hl
theorem rk1_p0 (x y : Int) (h1 : (rcr_r0 x 0 999999999 != 0) = true) : Gives Tryz.prog envM 0 52 [.agg #[I x, I y]] [] ((.int .i64 (rcr_r0 x 0 999999999)), []) :=
  Gives.by (n := 1000) (os := [.br 91 30 true, .br 52 28 true]) (os' := []) (by kernel_rfl) (ObsOK.cond h1 (ObsOK.cond h1 (ObsOK.nil)))
def rk1_r0 (x : Int) (y : Int) : Int := (rcr_r0 x 0 999999999)
theorem rk1_gives (x y : Int) (h1 : (rcr_r0 x 0 999999999 != 0) = true) : Gives Tryz.prog envM 0 52 [.agg #[I x, I y]] [] ((.int .i64 (rk1_r0 x y)), []) := by
  simp only [rk1_r0, cond_true, cond_false]; exact rk1_p0 x y h1
theorem rk2_p0 (x y : Int) (h1 : (rcr_r0 x 0 999999999 != 0) = false) (h2 : (rcr_r0 y 1 999999999 != 0) = true) : Gives Tryz.prog envM 0 52 [.agg #[I x, I y]] [] ((.int .i64 (rcr_r0 y 1 999999999)), []) :=
  Gives.by (n := 1000) (os := [.br 91 30 false, .br 91 30 true, .br 52 28 true]) (os' := []) (by kernel_rfl) (ObsOK.cond h1 (ObsOK.cond h2 (ObsOK.cond h2 (ObsOK.nil))))
def rk2_r0 (x : Int) (y : Int) : Int := (rcr_r0 y 1 999999999)
theorem rk2_gives (x y : Int) (h1 : (rcr_r0 x 0 999999999 != 0) = false) (h2 : (rcr_r0 y 1 999999999 != 0) = true) : Gives Tryz.prog envM 0 52 [.agg #[I x, I y]] [] ((.int .i64 (rk2_r0 x y)), []) := by
  simp only [rk2_r0, cond_true, cond_false]; exact rk2_p0 x y h1 h2
theorem rk3_p0 (x y n d : Int) (h1 : (rcr_r0 x 0 999999999 != 0) = false) (h2 : (rcr_r0 y 1 999999999 != 0) = false) (hl : ∀ (lim : Nat) (A : Heap), startsB heapN A = true → Gives Tryz.prog envM lim 105 [.int .i64 x, .int .i64 y] A (.agg #[.int .i64 n, .int .i64 d], A)) (h3 : (rwq_r0 (!(x == n && (y == d && true))) 1 != 0) = true) : Gives Tryz.prog envM 0 52 [.agg #[I x, I y]] [] ((.int .i64 (rwq_r0 (!(x == n && (y == d && true))) 1)), []) :=
  Gives.by (n := 1000) (os := [.br 91 30 false, .br 91 30 false, .opw 52 21 (.agg #[(.int .i64 n), (.int .i64 d)]) [(.some (.cells [(.int .i64 x), (.int .i64 y)] 59 .var)), (.some (.cells [(.int .i64 (rcr_r0 x 0 999999999)), (.int .i64 (rcr_r0 y 1 999999999))] 3 .row))], .br 91 30 true]) (os' := []) (by kernel_rfl) (ObsOK.cond h1 (ObsOK.cond h2 (ObsOK.call (hl 2 [(.some (.cells [(.int .i64 x), (.int .i64 y)] 59 .var)), (.some (.cells [(.int .i64 (rcr_r0 x 0 999999999)), (.int .i64 (rcr_r0 y 1 999999999))] 3 .row))] (by kernel_rfl)) (ObsOK.cond h3 (ObsOK.nil)))))
def rk3_r0 (x : Int) (y : Int) (n : Int) (d : Int) : Int := (rwq_r0 (!(x == n && (y == d && true))) 1)
theorem rk3_gives (x y n d : Int) (h1 : (rcr_r0 x 0 999999999 != 0) = false) (h2 : (rcr_r0 y 1 999999999 != 0) = false) (hl : ∀ (lim : Nat) (A : Heap), startsB heapN A = true → Gives Tryz.prog envM lim 105 [.int .i64 x, .int .i64 y] A (.agg #[.int .i64 n, .int .i64 d], A)) (h3 : (rwq_r0 (!(x == n && (y == d && true))) 1 != 0) = true) : Gives Tryz.prog envM 0 52 [.agg #[I x, I y]] [] ((.int .i64 (rk3_r0 x y n d)), []) := by
  simp only [rk3_r0, cond_true, cond_false]; exact rk3_p0 x y n d h1 h2 hl h3
theorem rk4_p0 (x y n d : Int) (h1 : (rcr_r0 x 0 999999999 != 0) = false) (h2 : (rcr_r0 y 1 999999999 != 0) = false) (hl : ∀ (lim : Nat) (A : Heap), startsB heapN A = true → Gives Tryz.prog envM lim 105 [.int .i64 x, .int .i64 y] A (.agg #[.int .i64 n, .int .i64 d], A)) (h3 : (rwq_r0 (!(x == n && (y == d && true))) 1 != 0) = false) (h4 : (rwq_r0 (decide (x > y)) 3 != 0) = true) : Gives Tryz.prog envM 0 52 [.agg #[I x, I y]] [] ((.int .i64 (rwq_r0 (decide (x > y)) 3)), []) :=
  Gives.by (n := 1000) (os := [.br 91 30 false, .br 91 30 false, .opw 52 21 (.agg #[(.int .i64 n), (.int .i64 d)]) [(.some (.cells [(.int .i64 x), (.int .i64 y)] 59 .var)), (.some (.cells [(.int .i64 (rcr_r0 x 0 999999999)), (.int .i64 (rcr_r0 y 1 999999999))] 3 .row))], .br 91 30 false, .br 91 30 true]) (os' := []) (by kernel_rfl) (ObsOK.cond h1 (ObsOK.cond h2 (ObsOK.call (hl 2 [(.some (.cells [(.int .i64 x), (.int .i64 y)] 59 .var)), (.some (.cells [(.int .i64 (rcr_r0 x 0 999999999)), (.int .i64 (rcr_r0 y 1 999999999))] 3 .row))] (by kernel_rfl)) (ObsOK.cond h3 (ObsOK.cond h4 (ObsOK.nil))))))
def rk4_r0 (x : Int) (y : Int) (n : Int) (d : Int) : Int := (rwq_r0 (decide (x > y)) 3)
theorem rk4_gives (x y n d : Int) (h1 : (rcr_r0 x 0 999999999 != 0) = false) (h2 : (rcr_r0 y 1 999999999 != 0) = false) (hl : ∀ (lim : Nat) (A : Heap), startsB heapN A = true → Gives Tryz.prog envM lim 105 [.int .i64 x, .int .i64 y] A (.agg #[.int .i64 n, .int .i64 d], A)) (h3 : (rwq_r0 (!(x == n && (y == d && true))) 1 != 0) = false) (h4 : (rwq_r0 (decide (x > y)) 3 != 0) = true) : Gives Tryz.prog envM 0 52 [.agg #[I x, I y]] [] ((.int .i64 (rk4_r0 x y n d)), []) := by
  simp only [rk4_r0, cond_true, cond_false]; exact rk4_p0 x y n d h1 h2 hl h3 h4
theorem rk5_p0 (x y n d : Int) (h1 : (rcr_r0 x 0 999999999 != 0) = false) (h2 : (rcr_r0 y 1 999999999 != 0) = false) (hl : ∀ (lim : Nat) (A : Heap), startsB heapN A = true → Gives Tryz.prog envM lim 105 [.int .i64 x, .int .i64 y] A (.agg #[.int .i64 n, .int .i64 d], A)) (h3 : (rwq_r0 (!(x == n && (y == d && true))) 1 != 0) = false) (h4 : (rwq_r0 (decide (x > y)) 3 != 0) = false) : Gives Tryz.prog envM 0 52 [.agg #[I x, I y]] [] ((.int .i64 (0)), []) :=
  Gives.by (n := 1000) (os := [.br 91 30 false, .br 91 30 false, .opw 52 21 (.agg #[(.int .i64 n), (.int .i64 d)]) [(.some (.cells [(.int .i64 x), (.int .i64 y)] 59 .var)), (.some (.cells [(.int .i64 (rcr_r0 x 0 999999999)), (.int .i64 (rcr_r0 y 1 999999999))] 3 .row))], .br 91 30 false, .br 91 30 false]) (os' := []) (by kernel_rfl) (ObsOK.cond h1 (ObsOK.cond h2 (ObsOK.call (hl 2 [(.some (.cells [(.int .i64 x), (.int .i64 y)] 59 .var)), (.some (.cells [(.int .i64 (rcr_r0 x 0 999999999)), (.int .i64 (rcr_r0 y 1 999999999))] 3 .row))] (by kernel_rfl)) (ObsOK.cond h3 (ObsOK.cond h4 (ObsOK.nil))))))
theorem rk5_gives (x y n d : Int) (h1 : (rcr_r0 x 0 999999999 != 0) = false) (h2 : (rcr_r0 y 1 999999999 != 0) = false) (hl : ∀ (lim : Nat) (A : Heap), startsB heapN A = true → Gives Tryz.prog envM lim 105 [.int .i64 x, .int .i64 y] A (.agg #[.int .i64 n, .int .i64 d], A)) (h3 : (rwq_r0 (!(x == n && (y == d && true))) 1 != 0) = false) (h4 : (rwq_r0 (decide (x > y)) 3 != 0) = false) : Gives Tryz.prog envM 0 52 [.agg #[I x, I y]] [] ((.int .i64 (0)), []) := by
  exact rk5_p0 x y n d h1 h2 hl h3 h4
def co_c0 (a : Int) (b : Int) (c : Int) (d : Int) (p : Int) (q : Int) : Bool := cm_r0 p q != 0
theorem co_p0 (a b c d p q : Int) (h1 : ∀ (lim : Nat) (A : Heap), startsB heapN A = true → Gives Tryz.prog envM lim 159 [.int .u64 (IntKind.u64.wrap a), .int .u64 (IntKind.u64.wrap d)] A (.tuple #[.int .u64 0, .int .u64 p], A)) (h2 : ∀ (lim : Nat) (A : Heap), startsB heapN A = true → Gives Tryz.prog envM lim 159 [.int .u64 (IntKind.u64.wrap c), .int .u64 (IntKind.u64.wrap b)] A (.tuple #[.int .u64 0, .int .u64 q], A)) (h0 : co_c0 a b c d p q = true) : Gives Tryz.prog envM 0 114 [.agg #[I a, I b], .agg #[I c, I d]] [] ((.int .i64 (cm_r0 p q)), []) :=
  Gives.by (n := 1000) (os := [.opw 114 17 (.tuple #[(.int .u64 (0)), (.int .u64 p)]) [(.some (.cells [(.int .i64 a), (.int .i64 b)] 59 .var)), (.some (.cells [(.int .i64 c), (.int .i64 d)] 59 .var))], .opw 114 27 (.tuple #[(.int .u64 (0)), (.int .u64 q)]) [(.some (.cells [(.int .i64 a), (.int .i64 b)] 59 .var)), (.some (.cells [(.int .i64 c), (.int .i64 d)] 59 .var))], .br 160 30 false, .br 160 30 true]) (os' := []) (by kernel_rfl) (ObsOK.call (h1 0 [(.some (.cells [(.int .i64 a), (.int .i64 b)] 59 .var)), (.some (.cells [(.int .i64 c), (.int .i64 d)] 59 .var))] (by kernel_rfl)) (ObsOK.call (h2 0 [(.some (.cells [(.int .i64 a), (.int .i64 b)] 59 .var)), (.some (.cells [(.int .i64 c), (.int .i64 d)] 59 .var))] (by kernel_rfl)) (ObsOK.cond (rfl : (false : Bool) = false) (ObsOK.cond h0 (ObsOK.nil)))))
theorem co_p1 (a b c d p q : Int) (h1 : ∀ (lim : Nat) (A : Heap), startsB heapN A = true → Gives Tryz.prog envM lim 159 [.int .u64 (IntKind.u64.wrap a), .int .u64 (IntKind.u64.wrap d)] A (.tuple #[.int .u64 0, .int .u64 p], A)) (h2 : ∀ (lim : Nat) (A : Heap), startsB heapN A = true → Gives Tryz.prog envM lim 159 [.int .u64 (IntKind.u64.wrap c), .int .u64 (IntKind.u64.wrap b)] A (.tuple #[.int .u64 0, .int .u64 q], A)) (h0 : co_c0 a b c d p q = false) : Gives Tryz.prog envM 0 114 [.agg #[I a, I b], .agg #[I c, I d]] [] ((.int .i64 (0)), []) :=
  Gives.by (n := 1000) (os := [.opw 114 17 (.tuple #[(.int .u64 (0)), (.int .u64 p)]) [(.some (.cells [(.int .i64 a), (.int .i64 b)] 59 .var)), (.some (.cells [(.int .i64 c), (.int .i64 d)] 59 .var))], .opw 114 27 (.tuple #[(.int .u64 (0)), (.int .u64 q)]) [(.some (.cells [(.int .i64 a), (.int .i64 b)] 59 .var)), (.some (.cells [(.int .i64 c), (.int .i64 d)] 59 .var))], .br 160 30 false, .br 160 30 false]) (os' := []) (by kernel_rfl) (ObsOK.call (h1 0 [(.some (.cells [(.int .i64 a), (.int .i64 b)] 59 .var)), (.some (.cells [(.int .i64 c), (.int .i64 d)] 59 .var))] (by kernel_rfl)) (ObsOK.call (h2 0 [(.some (.cells [(.int .i64 a), (.int .i64 b)] 59 .var)), (.some (.cells [(.int .i64 c), (.int .i64 d)] 59 .var))] (by kernel_rfl)) (ObsOK.cond (rfl : (false : Bool) = false) (ObsOK.cond h0 (ObsOK.nil)))))
def co_r0 (a : Int) (b : Int) (c : Int) (d : Int) (p : Int) (q : Int) : Int := (cond (co_c0 a b c d p q) (cm_r0 p q) (0))
theorem co_gives (a b c d p q : Int) (h1 : ∀ (lim : Nat) (A : Heap), startsB heapN A = true → Gives Tryz.prog envM lim 159 [.int .u64 (IntKind.u64.wrap a), .int .u64 (IntKind.u64.wrap d)] A (.tuple #[.int .u64 0, .int .u64 p], A)) (h2 : ∀ (lim : Nat) (A : Heap), startsB heapN A = true → Gives Tryz.prog envM lim 159 [.int .u64 (IntKind.u64.wrap c), .int .u64 (IntKind.u64.wrap b)] A (.tuple #[.int .u64 0, .int .u64 q], A)) : Gives Tryz.prog envM 0 114 [.agg #[I a, I b], .agg #[I c, I d]] [] ((.int .i64 (co_r0 a b c d p q)), []) := by
  cases g0 : co_c0 a b c d p q
  · skip
    simp only [co_r0, g0, cond_true, cond_false]; exact co_p1 a b c d p q h1 h2 g0
  · skip
    simp only [co_r0, g0, cond_true, cond_false]; exact co_p0 a b c d p q h1 h2 g0
end Go.Proofs.YtinkgnklhcjejaaGreat
/-
Ratios that are asked for; products and comparisons of ratios.
-/
namespace Go.Proofs.YtinkgnklhcjejaaGreat
open Go Go.Abs
theorem wu {x : Int} (h : 0 ≤ x) (h' : x < 18446744073709551616) : IntKind.u64.wrap x = x := by
  simp [IntKind.wrap, IntKind.bits, IntKind.signed]
  omega
theorem landM {x : Int} (h : 0 ≤ x) (h' : x < 18446744073709551616) : IntKind.u64.wrap ((Nat.bitwise and (BitVec.ofInt IntKind.u64.bits x).toNat (BitVec.ofInt IntKind.u64.bits 4294967295).toNat : Nat) : Int) = x % 4294967296 := by
  have e1 : (BitVec.ofInt IntKind.u64.bits x).toNat = x.toNat := by
    rw [BitVec.toNat_ofInt]
    show (x % 18446744073709551616).toNat = x.toNat
    rw [Int.emod_eq_of_lt h h']
  have e2 : (BitVec.ofInt IntKind.u64.bits 4294967295).toNat = 2 ^ 32 - 1 := by decide
  rw [e1, e2]
  have e3 : Nat.bitwise and x.toNat (2 ^ 32 - 1) = x.toNat % 2 ^ 32 := by
    have := Nat.and_two_pow_sub_one_eq_mod x.toNat 32
    exact this
  rw [e3, wu (by omega) (by omega)]
  omega
theorem fd {x : Int} (h : 0 ≤ x) (h' : x < 4294967296) : x.fdiv 4294967296 = 0 := by
  rw [Int.fdiv_eq_ediv_of_nonneg _ (by decide)]; omega
theorem mu0 {a b : Int} (ha : 0 ≤ a) (ha' : a < 4294967296) (hb : 0 ≤ b) (hb' : b < 4294967296) : mu_r0 a b = 0 ∧ mu_r1 a b = a * b := by
  have m0 : 0 ≤ a * b := Int.mul_nonneg ha hb
  have m1 : a * b ≤ 4294967295 * 4294967295 := Int.mul_le_mul (by omega) (by omega) hb (by decide)
  refine ⟨?_, wu m0 (by omega)⟩
  unfold mu_r0
  have w0 : IntKind.u64.wrap 0 = 0 := by decide
  have la : a % 4294967296 = a := Int.emod_eq_of_lt ha ha'
  have lb : b % 4294967296 = b := Int.emod_eq_of_lt hb hb'
  simp only [fd ha ha', fd hb hb', landM ha (by omega), landM hb (by omega), la, lb, Int.zero_mul, Int.mul_zero, w0, Int.zero_add, Int.add_zero]
  generalize a * b = z at *
  rw [wu m0 (by omega)]
  have q0 : z.fdiv 4294967296 = z / 4294967296 := Int.fdiv_eq_ediv_of_nonneg _ (by decide)
  rw [q0]
  have q1 : 0 ≤ z / 4294967296 := by omega
  have q2 : z / 4294967296 < 4294967296 := by omega
  generalize z / 4294967296 = q at *
  simp only [wu q1 (by omega : q < 18446744073709551616), fd q1 q2, w0, landM q1 (by omega : q < 18446744073709551616), Int.emod_eq_of_lt q1 q2]
  exact w0
theorem wi_eq (n a b : Int) : wi_r0 n a b = decide (a ≤ n ∧ n ≤ b) := by
  unfold wi_r0 wi_c0
  by_cases h1 : a ≤ n <;> by_cases h2 : n ≤ b <;> simp [h1, h2]
/-- The error of a ratio. -/
def ctE (x y : Int) : Int := if (-999999999 ≤ x ∧ x ≤ 999999999) ∧ (1 ≤ y ∧ y ≤ 999999999) then (if lowN x y = x ∧ lowD x y = y then 0 else 1) else 3
theorem kG104 {p q : Int} (h : okL p q = true) (lim : Nat) (A : Heap) (hs : startsB heapN A = true) : Gives Tryz.prog envM lim 104 [.agg #[I p, I q]] A (.agg #[I (lowN p q), I (lowD p q)], A) :=
  Go.Abs.known_gives ((kn_skip rfl).trans ((kn_skip rfl).trans ((Env.fam_skip rfl).trans ((Env.fam_skip rfl).trans ((kn_skip rfl).trans ((kn_skip rfl).trans (kn_here (T := heapN) (by show (if okL p q = true then _ else none) = _; rw [if_pos h]) rfl rfl hs)))))))
theorem kG105 {p q : Int} (h : okL p q = true) (lim : Nat) (A : Heap) (hs : startsB heapN A = true) : Gives Tryz.prog envM lim 105 [I p, I q] A (.agg #[I (lowN p q), I (lowD p q)], A) :=
  Go.Abs.known_gives ((kn_skip rfl).trans ((kn_skip rfl).trans ((Env.fam_skip rfl).trans ((Env.fam_skip rfl).trans ((kn_skip rfl).trans ((kn_skip rfl).trans (kn_here (T := heapN) (by show (if okL p q = true then _ else none) = _; rw [if_pos h]) rfl rfl hs)))))))
theorem eqB (x y : Int) : (x == y) = decide (x = y) := rfl
theorem wh_form (x y n d : Int) : wh_r0 (!(n == x && (d == y && true))) 1 = if n = x ∧ d = y then 0 else 1 := by
  unfold wh_r0 wh_c0
  rw [eqB, eqB]
  by_cases h1 : n = x <;> by_cases h2 : d = y
  · rw [decide_eq_true h1, decide_eq_true h2, if_pos ⟨h1, h2⟩]; rfl
  · rw [decide_eq_true h1, decide_eq_false h2, if_neg (fun h => h2 h.2)]; rfl
  · rw [decide_eq_false h1, if_neg (fun h => h1 h.1)]; rfl
  · rw [decide_eq_false h1, if_neg (fun h => h1 h.1)]; rfl
theorem rw_form (x y n d : Int) : rwq_r0 (!(x == n && (y == d && true))) 1 = if n = x ∧ d = y then 0 else 1 := by
  unfold rwq_r0 rwq_c0
  rw [eqB, eqB]
  by_cases h1 : n = x <;> by_cases h2 : d = y
  · rw [decide_eq_true h1.symm, decide_eq_true h2.symm, if_pos ⟨h1, h2⟩]; rfl
  · rw [decide_eq_true h1.symm, decide_eq_false (fun e => h2 e.symm), if_neg (fun h => h2 h.2)]; rfl
  · rw [decide_eq_false (fun e => h1 e.symm), if_neg (fun h => h1 h.1)]; rfl
  · rw [decide_eq_false (fun e => h1 e.symm), if_neg (fun h => h1 h.1)]; rfl
theorem g158 (x y : Int) : Gives Tryz.prog envM 0 158 [.agg #[I x, I y]] heapN (I (ctE x y), heapN) := by
  unfold ctE
  by_cases h1 : -999999999 ≤ x ∧ x ≤ 999999999
  · have e1 : (!wi_r0 x (-999999999) 999999999) = false := by rw [wi_eq, decide_eq_true h1]; rfl
    by_cases h2 : 1 ≤ y ∧ y ≤ 999999999
    · have e2 : (!wi_r0 y 1 999999999) = false := by rw [wi_eq, decide_eq_true h2]; rfl
      rw [if_pos ⟨h1, h2⟩, ← wh_form]
      exact ct3_p0 x y _ _ e1 e2 (kG104 (decide_eq_true (by omega)))
    · rw [if_neg (fun h => h2 h.2)]
      exact ct2_p0 x y e1 (by rw [wi_eq, decide_eq_false h2]; rfl)
  · rw [if_neg (fun h => h1 h.1)]
    exact ct1_p0 x y (by rw [wi_eq, decide_eq_false h1]; rfl)
/-- The error of a ratio that is asked for. -/
def rkE (x y : Int) : Int := if (0 ≤ x ∧ x ≤ 999999999) ∧ (1 ≤ y ∧ y ≤ 999999999) then (if lowN x y = x ∧ lowD x y = y then (if x > y then 3 else 0) else 1) else 3
theorem g52 (x y : Int) : Gives Tryz.prog envM 0 52 [.agg #[I x, I y]] heapN (I (rkE x y), heapN) := by
  unfold rkE
  by_cases h1 : 0 ≤ x ∧ x ≤ 999999999
  · have e1 : (rcr_r0 x 0 999999999 != 0) = false := by rw [rcr_eq, if_pos h1]; rfl
    by_cases h2 : 1 ≤ y ∧ y ≤ 999999999
    · have e2 : (rcr_r0 y 1 999999999 != 0) = false := by rw [rcr_eq, if_pos h2]; rfl
      rw [if_pos ⟨h1, h2⟩]
      have hk := kG105 (p := x) (q := y) (decide_eq_true (by omega))
      by_cases h3 : lowN x y = x ∧ lowD x y = y
      · rw [if_pos h3]
        have e3 : (rwq_r0 (!(x == lowN x y && (y == lowD x y && true))) 1 != 0) = false := by rw [rw_form, if_pos h3]; rfl
        by_cases h4 : x > y
        · rw [if_pos h4]
          have := rk4_p0 x y _ _ e1 e2 hk e3 (by rw [decide_eq_true h4]; rfl)
          rw [show rwq_r0 (decide (x > y)) 3 = 3 from by rw [decide_eq_true h4]; rfl] at this
          exact this
        · rw [if_neg h4]
          exact rk5_p0 x y _ _ e1 e2 hk e3 (by rw [decide_eq_false h4]; rfl)
      · rw [if_neg h3]
        have e3 : rwq_r0 (!(x == lowN x y && (y == lowD x y && true))) 1 = 1 := by rw [rw_form, if_neg h3]
        have := rk3_p0 x y _ _ e1 e2 hk (by rw [e3]; rfl)
        rw [e3] at this
        exact this
    · rw [if_neg (fun h => h2 h.2)]
      have e2 : rcr_r0 y 1 999999999 = 3 := by rw [rcr_eq, if_neg h2]
      have := rk2_p0 x y e1 (by rw [e2]; rfl)
      rw [e2] at this
      exact this
  · rw [if_neg (fun h => h1 h.1)]
    have e1 : rcr_r0 x 0 999999999 = 3 := by rw [rcr_eq, if_neg h1]
    have := rk1_p0 x y (by rw [e1]; rfl)
    rw [e1] at this
    exact this
/-- Small numbers. -/
def okM (a b c d : Int) : Bool := decide ((0 ≤ a ∧ a < 4294967296) ∧ (0 ≤ b ∧ b < 4294967296) ∧ (0 ≤ c ∧ c < 4294967296) ∧ (0 ≤ d ∧ d < 4294967296))
theorem kM159 {a b : Int} (ha : 0 ≤ a) (ha' : a < 4294967296) (hb : 0 ≤ b) (hb' : b < 4294967296) (lim : Nat) (A : Heap) (hs : startsB heapN A = true) : Gives Tryz.prog envM lim 159 [.int .u64 (IntKind.u64.wrap a), .int .u64 (IntKind.u64.wrap b)] A (.tuple #[.int .u64 0, .int .u64 (a * b)], A) := by
  rw [wu ha (by omega), wu hb (by omega)]
  have h := Go.Abs.known_gives (P := Tryz.prog) (E := envM) (lim := lim) (f := 159) (kn_here (T := heapN) (args := [.int .u64 a, .int .u64 b]) (A := A) (v := .tuple #[.int .u64 (mu_r0 a b), .int .u64 (mu_r1 a b)]) rfl rfl rfl hs)
  rw [(mu0 ha ha' hb hb').1, (mu0 ha ha' hb hb').2] at h
  exact h
theorem g114 {a b c d : Int} (h : okM a b c d = true) : Gives Tryz.prog envM 0 114 [.agg #[I a, I b], .agg #[I c, I d]] heapN (I (cm_r0 (a * d) (c * b)), heapN) := by
  obtain ⟨⟨a1, a2⟩, ⟨b1, b2⟩, ⟨c1, c2⟩, ⟨d1, d2⟩⟩ := of_decide_eq_true h
  have := co_gives a b c d (a * d) (c * b) (kM159 a1 a2 d1 d2) (kM159 c1 c2 b1 b2)
  rw [show co_r0 a b c d (a * d) (c * b) = cm_r0 (a * d) (c * b) from by
    unfold co_r0 co_c0
    cases h : (cm_r0 (a * d) (c * b) != 0) with
    | true => rfl
    | false => simp at h; rw [h]; rfl] at this
  exact this
def B_envN (f : FuncId) (args : List Value) : Option (Heap × Value) :=
  if f == 158 then
    match args with
    | [.agg ⟨[.int .i64 x, .int .i64 y]⟩] => some (heapN, .int .i64 (ctE x y))
    | _ => none
  else  if f == 52 then
    match args with
    | [.agg ⟨[.int .i64 x, .int .i64 y]⟩] => some (heapN, .int .i64 (rkE x y))
    | _ => none
  else  if f == 114 then
    match args with
    | [.agg ⟨[.int .i64 a, .int .i64 b]⟩, .agg ⟨[.int .i64 c, .int .i64 d]⟩] => if okM a b c d then some (heapN, .int .i64 (cm_r0 (a * d) (c * b))) else none
    | _ => none
  else none
noncomputable def envN : Env := envM.with (baseKnown B_envN)
theorem envN_ok : EnvOK Tryz.prog 0 envN := env_base prog_ok envM_ok fun f args H v h => by
  unfold B_envN at h
  split at h
  · rename_i hf
    have hf : f = 158 := by simpa using hf
    subst hf
    split at h
    · cases h; exact heapN_ok (g158 _ _)
    · cases h
  · skip
    split at h
    · rename_i hf
      have hf : f = 52 := by simpa using hf
      subst hf
      split at h
      · cases h; exact heapN_ok (g52 _ _)
      · cases h
    · skip
      split at h
      · rename_i hf
        have hf : f = 114 := by simpa using hf
        subst hf
        split at h
        · split at h
          · rename_i hl; cases h; exact heapN_ok (g114 hl)
          · cases h
        · cases h
      · skip
        cases h
end Go.Proofs.YtinkgnklhcjejaaGreat
/-
The error of a ratio that is asked for.
-/
namespace Go.Proofs.YtinkgnklhcjejaaGreat
open Go Go.Abs
def ck_c0 (x : Int) (y : Int) : Bool := cr_r0 x 0 999999999 != 0
def ck_c1 (x : Int) (y : Int) : Bool := ctE x y != 0
def ck_c2 (x : Int) (y : Int) : Bool := cr_r0 x 0 y != 0
theorem ck_p0 (x : Int) (y : Int) (h0 : ck_c0 x y = true) : Gives Tryz.prog envN 0 111 [(.agg #[(.int .i64 (x)), (.int .i64 (y))])] heapN ((.int .i64 (cr_r0 x 0 999999999)), heapN) :=
  Gives.by (n := 1000) (os := [.br 86 26 true]) (os' := []) (by kernel_rfl) (ObsOK.cond h0 (ObsOK.nil))
theorem ck_p1 (x : Int) (y : Int) (h0 : ck_c0 x y = false) (h1 : ck_c1 x y = true) : Gives Tryz.prog envN 0 111 [(.agg #[(.int .i64 (x)), (.int .i64 (y))])] heapN ((.int .i64 (ctE x y)), heapN) :=
  Gives.by (n := 1000) (os := [.br 86 26 false, .br 86 26 true]) (os' := []) (by kernel_rfl) (ObsOK.cond h0 (ObsOK.cond h1 (ObsOK.nil)))
theorem ck_p2 (x : Int) (y : Int) (h0 : ck_c0 x y = false) (h1 : ck_c1 x y = false) (h2 : ck_c2 x y = true) : Gives Tryz.prog envN 0 111 [(.agg #[(.int .i64 (x)), (.int .i64 (y))])] heapN ((.int .i64 (cr_r0 x 0 y)), heapN) :=
  Gives.by (n := 1000) (os := [.br 86 26 false, .br 86 26 false, .br 86 26 true]) (os' := []) (by kernel_rfl) (ObsOK.cond h0 (ObsOK.cond h1 (ObsOK.cond h2 (ObsOK.nil))))
theorem ck_p3 (x : Int) (y : Int) (h0 : ck_c0 x y = false) (h1 : ck_c1 x y = false) (h2 : ck_c2 x y = false) : Gives Tryz.prog envN 0 111 [(.agg #[(.int .i64 (x)), (.int .i64 (y))])] heapN ((.int .i64 (0)), heapN) :=
  Gives.by (n := 1000) (os := [.br 86 26 false, .br 86 26 false, .br 86 26 false]) (os' := []) (by kernel_rfl) (ObsOK.cond h0 (ObsOK.cond h1 (ObsOK.cond h2 (ObsOK.nil))))
def ck_r0 (x : Int) (y : Int) : Int := (cond (ck_c0 x y) (cr_r0 x 0 999999999) (cond (ck_c1 x y) (ctE x y) (cond (ck_c2 x y) (cr_r0 x 0 y) (0))))
theorem ck_gives (x : Int) (y : Int) : Gives Tryz.prog envN 0 111 [(.agg #[(.int .i64 (x)), (.int .i64 (y))])] heapN ((.int .i64 (ck_r0 x y)), heapN) := by
  cases g0 : ck_c0 x y
  · skip
    cases g1 : ck_c1 x y
    · skip
      cases g2 : ck_c2 x y
      · skip
        simp only [ck_r0, g0, g1, g2, cond_true, cond_false]; exact ck_p3 x y g0 g1 g2
      · skip
        simp only [ck_r0, g0, g1, g2, cond_true, cond_false]; exact ck_p2 x y g0 g1 g2
    · skip
      simp only [ck_r0, g0, g1, cond_true, cond_false]; exact ck_p1 x y g0 g1
  · skip
    simp only [ck_r0, g0, cond_true, cond_false]; exact ck_p0 x y g0
def B_envO_111 (args : List Value) : Option (Heap × Value) :=
    match args with
    | [(.agg ⟨[(.int .i64 (x)), (.int .i64 (y))]⟩)] => some (heapN, (.int .i64 (ck_r0 x y)))
    | _ => none
theorem B_envO_111_ok {args : List Value} {H : Heap} {v : Value} (h : B_envO_111 args = some (H, v)) : 0 ≤ H.length ∧ H.all tableRow = true ∧ Gives Tryz.prog envN 0 111 args H (v, H) := by
  unfold B_envO_111 at h
  split at h
  · cases h; exact heapN_ok (ck_gives _ _)
  · cases h
def B_envO (f : FuncId) (args : List Value) : Option (Heap × Value) :=
  if f == 111 then B_envO_111 args else
  none
noncomputable def envO : Env := envN.with (baseKnown B_envO)
theorem envO_ok : EnvOK Tryz.prog 0 envO := env_base prog_ok envN_ok fun f args H v h => by
  unfold B_envO at h
  rcases ite_or h with ⟨hf, h⟩ | h
  · obtain rfl : f = 111 := eq_of_beq hf
    exact B_envO_111_ok h
  cases h
end Go.Proofs.YtinkgnklhcjejaaGreat
/-
Whether a plan is small enough.
-/
namespace Go.Proofs.YtinkgnklhcjejaaGreat
open Go Go.Abs
theorem en1_p0 (l n c g b a0 b0 a1 b1 x0 y0 x1 y1 p : Int) (h8 : ∀ (lim : Nat) (A : Heap), startsB heapN A = true → Gives Tryz.prog envO lim 108 [.agg #[.int .i64 l, .int .i64 n, .int .i64 c], .int .i64 g, .int .i64 b] A (.agg #[.int .i64 x0, .int .i64 y0, .int .i64 x1, .int .i64 y1], A)) (hc1 : ∀ (lim : Nat) (A : Heap), startsB heapN A = true → Gives Tryz.prog envO lim 114 [.agg #[.int .i64 x0, .int .i64 y0], .agg #[.int .i64 a0, .int .i64 b0]] A (.int .i64 p, A)) (f1 : decide (p ≤ 0) = false) : Gives Tryz.prog envO 0 113 [.agg #[I l, I n, I c], pt 0 0, pt 1 0, pt 2 0] [some (.cells [.int .i64 g] 3 .var), some (.cells [.int .i64 b] 3 .var), some (.cells [.int .i64 a0, .int .i64 b0, .int .i64 a1, .int .i64 b1] 75 .var)] ((.bool false), [some (.cells [.int .i64 g] 3 .var), some (.cells [.int .i64 b] 3 .var), some (.cells [.int .i64 a0, .int .i64 b0, .int .i64 a1, .int .i64 b1] 75 .var)]) :=
  Gives.by (n := 1000) (os := [.opw 113 11 (.agg #[(.int .i64 x0), (.int .i64 y0), (.int .i64 x1), (.int .i64 y1)]) [(.some (.cells [(.int .i64 g)] 3 .var)), (.some (.cells [(.int .i64 b)] 3 .var)), (.some (.cells [(.int .i64 a0), (.int .i64 b0), (.int .i64 a1), (.int .i64 b1)] 75 .var)), (.some (.cells [(.int .i64 l), (.int .i64 n), (.int .i64 c)] 74 .var))], .opw 113 16 (.int .i64 p) [(.some (.cells [(.int .i64 g)] 3 .var)), (.some (.cells [(.int .i64 b)] 3 .var)), (.some (.cells [(.int .i64 a0), (.int .i64 b0), (.int .i64 a1), (.int .i64 b1)] 75 .var)), (.some (.cells [(.int .i64 l), (.int .i64 n), (.int .i64 c)] 74 .var)), (.some (.cells [(.int .i64 x0), (.int .i64 y0), (.int .i64 x1), (.int .i64 y1)] 75 .var))], .br 113 36 false, .br 113 36 false, .br 113 36 false, .br 113 36 false, .br 113 36 false, .br 113 36 false, .br 113 51 false]) (os' := []) (by kernel_rfl) (ObsOK.call (h8 3 [(.some (.cells [(.int .i64 g)] 3 .var)), (.some (.cells [(.int .i64 b)] 3 .var)), (.some (.cells [(.int .i64 a0), (.int .i64 b0), (.int .i64 a1), (.int .i64 b1)] 75 .var)), (.some (.cells [(.int .i64 l), (.int .i64 n), (.int .i64 c)] 74 .var))] (by kernel_rfl)) (ObsOK.call (hc1 3 [(.some (.cells [(.int .i64 g)] 3 .var)), (.some (.cells [(.int .i64 b)] 3 .var)), (.some (.cells [(.int .i64 a0), (.int .i64 b0), (.int .i64 a1), (.int .i64 b1)] 75 .var)), (.some (.cells [(.int .i64 l), (.int .i64 n), (.int .i64 c)] 74 .var)), (.some (.cells [(.int .i64 x0), (.int .i64 y0), (.int .i64 x1), (.int .i64 y1)] 75 .var))] (by kernel_rfl)) (ObsOK.cond f1 (ObsOK.cond f1 (ObsOK.cond f1 (ObsOK.cond f1 (ObsOK.cond f1 (ObsOK.cond f1 (ObsOK.cond f1 (ObsOK.nil))))))))))
theorem en1_gives (l n c g b a0 b0 a1 b1 x0 y0 x1 y1 p : Int) (h8 : ∀ (lim : Nat) (A : Heap), startsB heapN A = true → Gives Tryz.prog envO lim 108 [.agg #[.int .i64 l, .int .i64 n, .int .i64 c], .int .i64 g, .int .i64 b] A (.agg #[.int .i64 x0, .int .i64 y0, .int .i64 x1, .int .i64 y1], A)) (hc1 : ∀ (lim : Nat) (A : Heap), startsB heapN A = true → Gives Tryz.prog envO lim 114 [.agg #[.int .i64 x0, .int .i64 y0], .agg #[.int .i64 a0, .int .i64 b0]] A (.int .i64 p, A)) (f1 : decide (p ≤ 0) = false) : Gives Tryz.prog envO 0 113 [.agg #[I l, I n, I c], pt 0 0, pt 1 0, pt 2 0] [some (.cells [.int .i64 g] 3 .var), some (.cells [.int .i64 b] 3 .var), some (.cells [.int .i64 a0, .int .i64 b0, .int .i64 a1, .int .i64 b1] 75 .var)] ((.bool (false)), [some (.cells [.int .i64 g] 3 .var), some (.cells [.int .i64 b] 3 .var), some (.cells [.int .i64 a0, .int .i64 b0, .int .i64 a1, .int .i64 b1] 75 .var)]) := by
  exact en1_p0 l n c g b a0 b0 a1 b1 x0 y0 x1 y1 p h8 hc1 f1
theorem en2_p0 (l n c g b a0 b0 a1 b1 x0 y0 x1 y1 p q : Int) (h8 : ∀ (lim : Nat) (A : Heap), startsB heapN A = true → Gives Tryz.prog envO lim 108 [.agg #[.int .i64 l, .int .i64 n, .int .i64 c], .int .i64 g, .int .i64 b] A (.agg #[.int .i64 x0, .int .i64 y0, .int .i64 x1, .int .i64 y1], A)) (hc1 : ∀ (lim : Nat) (A : Heap), startsB heapN A = true → Gives Tryz.prog envO lim 114 [.agg #[.int .i64 x0, .int .i64 y0], .agg #[.int .i64 a0, .int .i64 b0]] A (.int .i64 p, A)) (hc2 : ∀ (lim : Nat) (A : Heap), startsB heapN A = true → Gives Tryz.prog envO lim 114 [.agg #[.int .i64 x1, .int .i64 y1], .agg #[.int .i64 a1, .int .i64 b1]] A (.int .i64 q, A)) (f1 : decide (p ≤ 0) = true) : Gives Tryz.prog envO 0 113 [.agg #[I l, I n, I c], pt 0 0, pt 1 0, pt 2 0] [some (.cells [.int .i64 g] 3 .var), some (.cells [.int .i64 b] 3 .var), some (.cells [.int .i64 a0, .int .i64 b0, .int .i64 a1, .int .i64 b1] 75 .var)] ((.bool (decide (q ≤ 0))), [some (.cells [.int .i64 g] 3 .var), some (.cells [.int .i64 b] 3 .var), some (.cells [.int .i64 a0, .int .i64 b0, .int .i64 a1, .int .i64 b1] 75 .var)]) :=
  Gives.by (n := 1000) (os := [.opw 113 11 (.agg #[(.int .i64 x0), (.int .i64 y0), (.int .i64 x1), (.int .i64 y1)]) [(.some (.cells [(.int .i64 g)] 3 .var)), (.some (.cells [(.int .i64 b)] 3 .var)), (.some (.cells [(.int .i64 a0), (.int .i64 b0), (.int .i64 a1), (.int .i64 b1)] 75 .var)), (.some (.cells [(.int .i64 l), (.int .i64 n), (.int .i64 c)] 74 .var))], .opw 113 16 (.int .i64 p) [(.some (.cells [(.int .i64 g)] 3 .var)), (.some (.cells [(.int .i64 b)] 3 .var)), (.some (.cells [(.int .i64 a0), (.int .i64 b0), (.int .i64 a1), (.int .i64 b1)] 75 .var)), (.some (.cells [(.int .i64 l), (.int .i64 n), (.int .i64 c)] 74 .var)), (.some (.cells [(.int .i64 x0), (.int .i64 y0), (.int .i64 x1), (.int .i64 y1)] 75 .var))], .br 113 36 true, .br 113 36 true, .br 113 36 true, .br 113 36 true, .br 113 36 true, .opw 113 23 (.int .i64 q) [(.some (.cells [(.int .i64 g)] 3 .var)), (.some (.cells [(.int .i64 b)] 3 .var)), (.some (.cells [(.int .i64 a0), (.int .i64 b0), (.int .i64 a1), (.int .i64 b1)] 75 .var)), (.some (.cells [(.int .i64 l), (.int .i64 n), (.int .i64 c)] 74 .var)), (.some (.cells [(.int .i64 x0), (.int .i64 y0), (.int .i64 x1), (.int .i64 y1)] 75 .var))], .br 113 36 true, .br 113 51 true]) (os' := []) (by kernel_rfl) (ObsOK.call (h8 3 [(.some (.cells [(.int .i64 g)] 3 .var)), (.some (.cells [(.int .i64 b)] 3 .var)), (.some (.cells [(.int .i64 a0), (.int .i64 b0), (.int .i64 a1), (.int .i64 b1)] 75 .var)), (.some (.cells [(.int .i64 l), (.int .i64 n), (.int .i64 c)] 74 .var))] (by kernel_rfl)) (ObsOK.call (hc1 3 [(.some (.cells [(.int .i64 g)] 3 .var)), (.some (.cells [(.int .i64 b)] 3 .var)), (.some (.cells [(.int .i64 a0), (.int .i64 b0), (.int .i64 a1), (.int .i64 b1)] 75 .var)), (.some (.cells [(.int .i64 l), (.int .i64 n), (.int .i64 c)] 74 .var)), (.some (.cells [(.int .i64 x0), (.int .i64 y0), (.int .i64 x1), (.int .i64 y1)] 75 .var))] (by kernel_rfl)) (ObsOK.cond f1 (ObsOK.cond f1 (ObsOK.cond f1 (ObsOK.cond f1 (ObsOK.cond f1 (ObsOK.call (hc2 3 [(.some (.cells [(.int .i64 g)] 3 .var)), (.some (.cells [(.int .i64 b)] 3 .var)), (.some (.cells [(.int .i64 a0), (.int .i64 b0), (.int .i64 a1), (.int .i64 b1)] 75 .var)), (.some (.cells [(.int .i64 l), (.int .i64 n), (.int .i64 c)] 74 .var)), (.some (.cells [(.int .i64 x0), (.int .i64 y0), (.int .i64 x1), (.int .i64 y1)] 75 .var))] (by kernel_rfl)) (ObsOK.cond f1 (ObsOK.cond f1 (ObsOK.nil)))))))))))
def en2_r0 (l : Int) (n : Int) (c : Int) (g : Int) (b : Int) (a0 : Int) (b0 : Int) (a1 : Int) (b1 : Int) (x0 : Int) (y0 : Int) (x1 : Int) (y1 : Int) (p : Int) (q : Int) : Bool := (decide (q ≤ 0))
theorem en2_gives (l n c g b a0 b0 a1 b1 x0 y0 x1 y1 p q : Int) (h8 : ∀ (lim : Nat) (A : Heap), startsB heapN A = true → Gives Tryz.prog envO lim 108 [.agg #[.int .i64 l, .int .i64 n, .int .i64 c], .int .i64 g, .int .i64 b] A (.agg #[.int .i64 x0, .int .i64 y0, .int .i64 x1, .int .i64 y1], A)) (hc1 : ∀ (lim : Nat) (A : Heap), startsB heapN A = true → Gives Tryz.prog envO lim 114 [.agg #[.int .i64 x0, .int .i64 y0], .agg #[.int .i64 a0, .int .i64 b0]] A (.int .i64 p, A)) (hc2 : ∀ (lim : Nat) (A : Heap), startsB heapN A = true → Gives Tryz.prog envO lim 114 [.agg #[.int .i64 x1, .int .i64 y1], .agg #[.int .i64 a1, .int .i64 b1]] A (.int .i64 q, A)) (f1 : decide (p ≤ 0) = true) : Gives Tryz.prog envO 0 113 [.agg #[I l, I n, I c], pt 0 0, pt 1 0, pt 2 0] [some (.cells [.int .i64 g] 3 .var), some (.cells [.int .i64 b] 3 .var), some (.cells [.int .i64 a0, .int .i64 b0, .int .i64 a1, .int .i64 b1] 75 .var)] ((.bool (en2_r0 l n c g b a0 b0 a1 b1 x0 y0 x1 y1 p q)), [some (.cells [.int .i64 g] 3 .var), some (.cells [.int .i64 b] 3 .var), some (.cells [.int .i64 a0, .int .i64 b0, .int .i64 a1, .int .i64 b1] 75 .var)]) := by
  simp only [en2_r0, cond_true, cond_false]; exact en2_p0 l n c g b a0 b0 a1 b1 x0 y0 x1 y1 p q h8 hc1 hc2 f1
end Go.Proofs.YtinkgnklhcjejaaGreat
/-
Whether a plan is small enough: what the program finds.
-/
namespace Go.Proofs.YtinkgnklhcjejaaGreat
open Go Go.Abs
def grid12B : Bool := (List.range 12).all fun l => (List.range 12).all fun s => decide (l < s) || (List.range 13).all fun d => decide (l + 1 < d) || (List.range 12).all fun a => decide (s < a) || decide (accL chR ((l + 1 : Nat) : Int) ((s + 1 : Nat) : Int) (d : Int) (a + 1) ≤ chR ((l + 1 : Nat) : Int) ((s + 1 : Nat) : Int))
theorem grid12 : grid12B = true := by decide +kernel
theorem acc_le {l s a d : Int} (hl : l ≤ 12) (h : okA l s a d = true) : apW l s a d ≤ chR l s := by
  obtain ⟨h1, h2, h3, h4, h5, h6, h7, h8⟩ := of_decide_eq_true h
  have g := grid12
  unfold grid12B at g
  have g1 := List.all_eq_true.1 g (l - 1).toNat (List.mem_range.2 (by omega))
  have g2 := List.all_eq_true.1 g1 (s - 1).toNat (List.mem_range.2 (by omega))
  simp only [Bool.or_eq_true, decide_eq_true_eq] at g2
  have g3 := List.all_eq_true.1 (g2.resolve_left (by omega)) d.toNat (List.mem_range.2 (by omega))
  simp only [Bool.or_eq_true, decide_eq_true_eq] at g3
  have g4 := List.all_eq_true.1 (g3.resolve_left (by omega)) a.toNat (List.mem_range.2 (by omega))
  simp only [Bool.or_eq_true, decide_eq_true_eq] at g4
  have g5 := g4.resolve_left (by omega)
  have e1 : (((l - 1).toNat + 1 : Nat) : Int) = l := by omega
  have e2 : (((s - 1).toNat + 1 : Nat) : Int) = s := by omega
  have e3 : ((d.toNat : Nat) : Int) = d := by omega
  have e4 : a.toNat + 1 = (a + 1).toNat := by omega
  rw [e1, e2, e3, e4] at g5
  exact g5
/-- The probability's numbers. -/
theorem ap_bounds {l s a d : Int} (hl : l ≤ 12) (h : okA l s a d = true) : 0 ≤ apN l s a d ∧ apN l s a d ≤ apD l s a d ∧ apD l s a d ≤ 155117520 := by
  have hle := acc_le hl h
  obtain ⟨e1, _, _, e4⟩ := okA_low h
  obtain ⟨h1, h2, h3, h4, h5, h6, h7, h8⟩ := of_decide_eq_true h
  obtain ⟨_, c2, c3, c4⟩ := ch_grid (n := l) (k := s) ⟨by omega, h2⟩ ⟨by omega, by omega⟩
  have c5 := c4 h4
  unfold apN apD lowN lowD
  generalize apW l s a d = w at *
  generalize chR l s = c at *
  have hg : 0 ≤ ((Int.gcd w c : Nat) : Int) := Int.natCast_nonneg _
  rw [Int.tdiv_eq_ediv_of_nonneg e4, Int.tdiv_eq_ediv_of_nonneg c2]
  refine ⟨Int.ediv_nonneg e4 hg, ?_, ?_⟩
  · exact Int.ediv_le_ediv (by have := gcd_ne (p := w) (q := c) (by omega); omega) hle
  · exact Int.le_trans (Int.ediv_le_self _ c2) c3
theorem rN_eq {l s a d : Int} (hl : l ≤ 12) (h : okA l s a d = true) : rN l s a d = apD l s a d - apN l s a d := by
  obtain ⟨h1, h2, h3⟩ := ap_bounds hl h
  exact wSmall (by omega) (by omega)
theorem cm_le (p q : Int) : decide (cm_r0 p q ≤ 0) = decide (p ≤ q) := by
  unfold cm_r0 cm_c0 cm_c1 cm_c2 cm_c3
  simp only [bne_self_eq_false, cond_false]
  by_cases h1 : p < q
  · rw [decide_eq_true h1, cond_true, decide_eq_true (show p ≤ q by omega)]; rfl
  · rw [decide_eq_false h1, cond_false]
    by_cases h2 : p > q
    · rw [decide_eq_true h2, cond_true, decide_eq_false (show ¬ p ≤ q by omega)]; rfl
    · rw [decide_eq_false h2, cond_false, decide_eq_true (show p ≤ q by omega)]; rfl
/-- The plan is small enough. -/
def enough (l n c g b a0 b0 a1 b1 : Int) : Bool := decide (rN l n c g * b0 ≤ a0 * apD l n c g) && decide (apN l n c b * b1 ≤ a1 * apD l n c b)
def riskR (a b : Int) : Prop := 0 ≤ a ∧ a ≤ 999999999 ∧ 1 ≤ b ∧ b ≤ 999999999
theorem k108 {l s a g b : Int} (h : (okA l s a g && okA l s a b) = true) (lim : Nat) (A : Heap) (hs : startsB heapN A = true) : Gives Tryz.prog envO lim 108 [.agg #[I l, I s, I a], I g, I b] A (.agg #[I (rN l s a g), I (apD l s a g), I (apN l s a b), I (apD l s a b)], A) :=
  Go.Abs.known_gives ((kn_skip rfl).trans ((kn_skip rfl).trans ((kn_skip rfl).trans ((kn_skip rfl).trans ((Env.fam_skip rfl).trans ((Env.fam_skip rfl).trans (kn_here (T := heapN) (by show (if (okA l s a g && okA l s a b) = true then _ else none) = _; rw [if_pos h]) rfl rfl hs)))))))
theorem k114 {a b c d : Int} (h : okM a b c d = true) (lim : Nat) (A : Heap) (hs : startsB heapN A = true) : Gives Tryz.prog envO lim 114 [.agg #[I a, I b], .agg #[I c, I d]] A (I (cm_r0 (a * d) (c * b)), A) :=
  Go.Abs.known_gives ((kn_skip rfl).trans (kn_here (T := heapN) (by show (if okM a b c d = true then _ else none) = _; rw [if_pos h]) rfl rfl hs))
abbrev bx (x : Int) : Option ARow := some (.cells [I x] 3 .var)
abbrev bx4 (a0 b0 a1 b1 : Int) : Option ARow := some (.cells [I a0, I b0, I a1, I b1] 75 .var)
theorem g113 {l n c g b a0 b0 a1 b1 : Int} (hl : l ≤ 12) (h1 : okA l n c g = true) (h2 : okA l n c b = true) (r0 : riskR a0 b0) (r1 : riskR a1 b1) : Gives Tryz.prog envO 0 113 [.agg #[I l, I n, I c], pt 0 0, pt 1 0, pt 2 0] [bx g, bx b, bx4 a0 b0 a1 b1] (.bool (enough l n c g b a0 b0 a1 b1), [bx g, bx b, bx4 a0 b0 a1 b1]) := by
  obtain ⟨p1, p2, p3⟩ := ap_bounds hl h1
  obtain ⟨q1, q2, q3⟩ := ap_bounds hl h2
  have e := rN_eq hl h1
  obtain ⟨r01, r02, r03, r04⟩ := r0
  obtain ⟨r11, r12, r13, r14⟩ := r1
  have k8 := k108 (l := l) (s := n) (a := c) (g := g) (b := b) (by rw [h1, h2]; rfl)
  have c1 := k114 (a := rN l n c g) (b := apD l n c g) (c := a0) (d := b0) (decide_eq_true (by omega))
  have c2 := k114 (a := apN l n c b) (b := apD l n c b) (c := a1) (d := b1) (decide_eq_true (by omega))
  unfold enough
  cases hc : decide (rN l n c g * b0 ≤ a0 * apD l n c g) with
  | false => exact en1_p0 l n c g b a0 b0 a1 b1 _ _ _ _ _ k8 c1 (by rw [cm_le, hc])
  | true =>
    have := en2_p0 l n c g b a0 b0 a1 b1 _ _ _ _ _ _ k8 c1 c2 (by rw [cm_le, hc])
    rw [cm_le] at this
    exact this
structure EnI where
  (l n c g b a0 b0 a1 b1 : Int)
def famEn : Fam where
  ι := EnI
  ok i := i.l ≤ 12 ∧ okA i.l i.n i.c i.g = true ∧ okA i.l i.n i.c i.b = true ∧ riskR i.a0 i.b0 ∧ riskR i.a1 i.b1
  args i := [.agg #[I i.l, I i.n, I i.c], pt 0 0, pt 1 0, pt 2 0]
  rows i := [bx i.g, bx i.b, bx4 i.a0 i.b0 i.a1 i.b1]
  val i := .bool (enough i.l i.n i.c i.g i.b i.a0 i.b0 i.a1 i.b1)
  new _ := []
  one i j _ _ h1 h2 := by
    simp only [List.cons.injEq, Value.agg.injEq, Array.mk.injEq, Value.int.injEq, true_and, and_true] at h1
    simp only [List.cons.injEq, Option.some.injEq, ARow.cells.injEq, Value.int.injEq, true_and, and_true] at h2
    obtain ⟨e1, e2, e3⟩ := h1
    obtain ⟨f1, f2, f3, f4, f5, f6⟩ := h2
    rw [e1, e2, e3, f1, f2, f3, f4, f5, f6]; exact ⟨rfl, rfl⟩
noncomputable def envP : Env := envO.fam 0 [] 113 famEn
theorem envP_ok : EnvOK Tryz.prog 0 envP := Env.fam_ok envO_ok rfl rfl fun i hi => SaysAt.of_gives prog_ok envO_ok (g113 hi.1 hi.2.1 hi.2.2.1 hi.2.2.2.1 hi.2.2.2.2)
theorem k113 {l n c g b a0 b0 a1 b1 : Int} (hl : l ≤ 12) (h1 : okA l n c g = true) (h2 : okA l n c b = true) (r0 : riskR a0 b0) (r1 : riskR a1 b1) (lim : Nat) (A : Heap) (hA : (hget A 0, hget A 1, hget A 2) = (bx g, bx b, bx4 a0 b0 a1 b1)) : Gives Tryz.prog envP lim 113 [.agg #[I l, I n, I c], pt 0 0, pt 1 0, pt 2 0] A (.bool (enough l n c g b a0 b0 a1 b1), A) := by
  simp only [Prod.mk.injEq] at hA
  have hh := Env.fam_here (E := envO) (G := 0) (T := []) (f0 := 113) (lim := lim) (F := famEn) (args := [.agg #[I l, I n, I c], pt 0 0, pt 1 0, pt 2 0]) (A := A) (ids := [0, 1, 2]) (v' := .bool (enough l n c g b a0 b0 a1 b1)) ⟨l, n, c, g, b, a0, b0, a1, b1⟩ ⟨hl, h1, h2, r0, r1⟩ rfl rfl (by simp only [rowsAt, hA.1, hA.2.1, hA.2.2]; rfl) rfl rfl rfl rfl rfl
  rw [show A ++ famEn.new ⟨l, n, c, g, b, a0, b0, a1, b1⟩ = A from List.append_nil A] at hh
  exact Go.Abs.known_gives hh
end Go.Proofs.YtinkgnklhcjejaaGreat
/-
Rounds of the search for the smallest plan.
-/
namespace Go.Proofs.YtinkgnklhcjejaaGreat
open Go Go.Abs
theorem so1_p0 (v2 v3 v6 v7 v8 v9 v10 v11 v12 v13 v14 v15 v16 v17 v18 v19 v20 v21 v22 v23 v24 v25 v26 : Value) (l n c g b a0 b0 a1 b1 : Int) (r3 r4 : Option ARow) (f1 : decide (n ≤ l) = true) : Runs Tryz.prog envP 5 [.code (seqAt 0 (round 0 (bodyOf 112)))] [I l, .func (.func 113) #[] #[pt 0 0, pt 1 0, pt 2 0], v2, v3, pt 5 0, I n, v6, v7, v8, v9, v10, v11, v12, v13, v14, v15, v16, v17, v18, v19, v20, v21, v22, v23, v24, v25, v26] [some (.cells [.int .i64 g] 3 .var), some (.cells [.int .i64 b] 3 .var), some (.cells [.int .i64 a0, .int .i64 b0, .int .i64 a1, .int .i64 b1] 75 .var), r3, r4, some (.cells [I 0, I 0, I 0] 74 .var)] ([(.int .i64 l), (.func (.func 113) #[] #[(.pointer (.some (Go.Addr.mk 0 0 .none))), (.pointer (.some (Go.Addr.mk 1 0 .none))), (.pointer (.some (Go.Addr.mk 2 0 .none)))]), v2, v3, (.pointer (.some (Go.Addr.mk 5 0 .none))), (.int .i64 n), v6, v7, (.int .i64 n), (.int .i64 l), (.bool (decide (n ≤ l))), v11, v12, v13, v14, v15, v16, v17, v18, v19, v20, v21, v22, v23, v24, v25, v26], [(.some (.cells [(.int .i64 g)] 3 .var)), (.some (.cells [(.int .i64 b)] 3 .var)), (.some (.cells [(.int .i64 a0), (.int .i64 b0), (.int .i64 a1), (.int .i64 b1)] 75 .var)), r3, r4, (.some (.cells [(.int .i64 (0)), (.int .i64 (0)), (.int .i64 (0))] 74 .var))], none) :=
  Runs.by (n := 1000) (fid := 112) (os := [.br 112 22 true]) (os' := []) (by kernel_rfl) (ObsOK.cond f1 (ObsOK.nil))
theorem so2_p0 (v2 v3 v6 v7 v8 v9 v10 v11 v12 v13 v14 v15 v16 v17 v18 v19 v20 v21 v22 v23 v24 v25 v26 : Value) (l n c g b a0 b0 a1 b1 : Int) (r3 r4 : Option ARow) (f1 : decide (n ≤ l) = false) : Runs Tryz.prog envP 5 [.code (round 0 (bodyOf 112)), .inLoop (round 0 (bodyOf 112)), .inBlock 0] [I l, .func (.func 113) #[] #[pt 0 0, pt 1 0, pt 2 0], v2, v3, pt 5 0, I n, v6, v7, v8, v9, v10, v11, v12, v13, v14, v15, v16, v17, v18, v19, v20, v21, v22, v23, v24, v25, v26] [some (.cells [.int .i64 g] 3 .var), some (.cells [.int .i64 b] 3 .var), some (.cells [.int .i64 a0, .int .i64 b0, .int .i64 a1, .int .i64 b1] 75 .var), r3, r4, some (.cells [I 0, I 0, I 0] 74 .var)] ([(.int .i64 l), (.func (.func 113) #[] #[(.pointer (.some (Go.Addr.mk 0 0 .none))), (.pointer (.some (Go.Addr.mk 1 0 .none))), (.pointer (.some (Go.Addr.mk 2 0 .none)))]), v2, v3, (.pointer (.some (Go.Addr.mk 5 0 .none))), (.int .i64 n), v6, v7, (.int .i64 n), (.int .i64 l), (.bool (decide (n ≤ l))), v11, v12, v13, v14, v15, v16, v17, v18, v19, v20, v21, v22, v23, v24, v25, v26], [(.some (.cells [(.int .i64 g)] 3 .var)), (.some (.cells [(.int .i64 b)] 3 .var)), (.some (.cells [(.int .i64 a0), (.int .i64 b0), (.int .i64 a1), (.int .i64 b1)] 75 .var)), r3, r4, (.some (.cells [(.int .i64 (0)), (.int .i64 (0)), (.int .i64 (0))] 74 .var))], none) :=
  Runs.by (n := 1000) (fid := 112) (os := [.br 112 22 false]) (os' := []) (by kernel_rfl) (ObsOK.cond f1 (ObsOK.nil))
theorem so3_p0 (v2 v3 v6 v7 v8 v9 v10 v11 v12 v13 v14 v15 v16 v17 v18 v19 v20 v21 v22 v23 v24 v25 v26 : Value) (l n c g b a0 b0 a1 b1 : Int) (r3 r4 : Option ARow) : Runs Tryz.prog envP 5 [.code (dropS 2 (bodyOf 112))] [I l, .func (.func 113) #[] #[pt 0 0, pt 1 0, pt 2 0], v2, v3, pt 5 0, I n, v6, v7, v8, v9, v10, v11, v12, v13, v14, v15, v16, v17, v18, v19, v20, v21, v22, v23, v24, v25, v26] [some (.cells [.int .i64 g] 3 .var), some (.cells [.int .i64 b] 3 .var), some (.cells [.int .i64 a0, .int .i64 b0, .int .i64 a1, .int .i64 b1] 75 .var), r3, r4, some (.cells [I 0, I 0, I 0] 74 .var)] ([(.int .i64 l), (.func (.func 113) #[] #[(.pointer (.some (Go.Addr.mk 0 0 .none))), (.pointer (.some (Go.Addr.mk 1 0 .none))), (.pointer (.some (Go.Addr.mk 2 0 .none)))]), v2, v3, (.pointer (.some (Go.Addr.mk 5 0 .none))), (.int .i64 n), v6, v7, v8, v9, v10, v11, v12, v13, v14, v15, v16, v17, v18, v19, v20, v21, v22, v23, v24, v25, (.agg #[(.int .i64 (0)), (.int .i64 (0)), (.int .i64 (0))])], [(.some (.cells [(.int .i64 g)] 3 .var)), (.some (.cells [(.int .i64 b)] 3 .var)), (.some (.cells [(.int .i64 a0), (.int .i64 b0), (.int .i64 a1), (.int .i64 b1)] 75 .var)), r3, r4, (.some (.cells [(.int .i64 (0)), (.int .i64 (0)), (.int .i64 (0))] 74 .var))], some .ret) :=
  Runs.by (n := 1000) (fid := 112) (os := []) (os' := []) (by kernel_rfl) (ObsOK.nil)
theorem so4_p0 (v2 v3 v6 v7 v8 v9 v10 v11 v12 v13 v14 v15 v16 v17 v18 v19 v20 v21 v22 v23 v24 v25 v26 : Value) (l n c g b a0 b0 a1 b1 : Int) (r3 r4 : Option ARow) : Runs Tryz.prog envP 5 [.code (dropS 2 (round 0 (bodyOf 112)))] [I l, .func (.func 113) #[] #[pt 0 0, pt 1 0, pt 2 0], v2, v3, pt 5 0, I n, v6, v7, v8, v9, v10, v11, v12, v13, v14, v15, v16, v17, v18, v19, v20, v21, v22, v23, v24, v25, v26] [some (.cells [.int .i64 g] 3 .var), some (.cells [.int .i64 b] 3 .var), some (.cells [.int .i64 a0, .int .i64 b0, .int .i64 a1, .int .i64 b1] 75 .var), r3, r4, some (.cells [I 0, I 0, I 0] 74 .var)] ([(.int .i64 l), (.func (.func 113) #[] #[(.pointer (.some (Go.Addr.mk 0 0 .none))), (.pointer (.some (Go.Addr.mk 1 0 .none))), (.pointer (.some (Go.Addr.mk 2 0 .none)))]), v2, v3, (.pointer (.some (Go.Addr.mk 5 0 .none))), (.int .i64 (IntKind.i64.wrap (n + 1))), v6, v7, v8, v9, v10, (.int .i64 n), (.int .i64 (IntKind.i64.wrap (n + 1))), v13, v14, v15, v16, v17, v18, v19, v20, v21, v22, v23, v24, v25, v26], [(.some (.cells [(.int .i64 g)] 3 .var)), (.some (.cells [(.int .i64 b)] 3 .var)), (.some (.cells [(.int .i64 a0), (.int .i64 b0), (.int .i64 a1), (.int .i64 b1)] 75 .var)), r3, r4, (.some (.cells [(.int .i64 (0)), (.int .i64 (0)), (.int .i64 (0))] 74 .var))], none) :=
  Runs.by (n := 1000) (fid := 112) (os := []) (os' := []) (by kernel_rfl) (ObsOK.nil)
theorem si0_p0 (v2 v3 v6 v7 v8 v9 v10 v11 v12 v13 v14 v15 v16 v17 v18 v19 v20 v21 v22 v23 v24 v25 v26 : Value) (l n c g b a0 b0 a1 b1 : Int) (r3 r4 : Option ARow) : Runs Tryz.prog envP 5 [.code (seqAt 0 (bodyB (seqAt 1 (round 0 (bodyOf 112)))))] [I l, .func (.func 113) #[] #[pt 0 0, pt 1 0, pt 2 0], v2, v3, pt 5 0, I n, v6, v7, v8, v9, v10, v11, v12, v13, v14, v15, v16, v17, v18, v19, v20, v21, v22, v23, v24, v25, v26] [some (.cells [.int .i64 g] 3 .var), some (.cells [.int .i64 b] 3 .var), some (.cells [.int .i64 a0, .int .i64 b0, .int .i64 a1, .int .i64 b1] 75 .var), r3, r4, some (.cells [I 0, I 0, I 0] 74 .var)] ([(.int .i64 l), (.func (.func 113) #[] #[(.pointer (.some (Go.Addr.mk 0 0 .none))), (.pointer (.some (Go.Addr.mk 1 0 .none))), (.pointer (.some (Go.Addr.mk 2 0 .none)))]), v2, v3, (.pointer (.some (Go.Addr.mk 5 0 .none))), (.int .i64 n), v6, v7, v8, v9, v10, v11, v12, (.int .i64 n), (.int .i64 (0)), v15, v16, v17, v18, v19, v20, v21, v22, v23, v24, v25, v26], [(.some (.cells [(.int .i64 g)] 3 .var)), (.some (.cells [(.int .i64 b)] 3 .var)), (.some (.cells [(.int .i64 a0), (.int .i64 b0), (.int .i64 a1), (.int .i64 b1)] 75 .var)), r3, r4, (.some (.cells [(.int .i64 (0)), (.int .i64 (0)), (.int .i64 (0))] 74 .var))], none) :=
  Runs.by (n := 1000) (fid := 112) (os := []) (os' := []) (by kernel_rfl) (ObsOK.nil)
theorem siA_p0 (v2 v3 v6 v7 v8 v9 v10 v11 v12 v15 v16 v17 v18 v19 v20 v21 v22 v23 v24 v25 v26 : Value) (l n c g b a0 b0 a1 b1 : Int) (r3 r4 : Option ARow) (f1 : decide (c < n) = true) (hk : ∀ (lim : Nat) (A : Heap), (hget A 0, hget A 1, hget A 2) = (some (.cells [.int .i64 g] 3 .var), some (.cells [.int .i64 b] 3 .var), some (.cells [.int .i64 a0, .int .i64 b0, .int .i64 a1, .int .i64 b1] 75 .var)) → Gives Tryz.prog envP lim 113 [.agg #[.int .i64 l, .int .i64 n, .int .i64 c], pt 0 0, pt 1 0, pt 2 0] A (.bool false, A)) : Runs Tryz.prog envP 5 [.code (round 2 (bodyOf 112))] [I l, .func (.func 113) #[] #[pt 0 0, pt 1 0, pt 2 0], v2, v3, pt 5 0, I n, v6, v7, v8, v9, v10, v11, v12, I n, I c, v15, v16, v17, v18, v19, v20, v21, v22, v23, v24, v25, v26] [some (.cells [.int .i64 g] 3 .var), some (.cells [.int .i64 b] 3 .var), some (.cells [.int .i64 a0, .int .i64 b0, .int .i64 a1, .int .i64 b1] 75 .var), r3, r4, some (.cells [I 0, I 0, I 0] 74 .var)] ([(.int .i64 l), (.func (.func 113) #[] #[(.pointer (.some (Go.Addr.mk 0 0 .none))), (.pointer (.some (Go.Addr.mk 1 0 .none))), (.pointer (.some (Go.Addr.mk 2 0 .none)))]), v2, v3, (.pointer (.some (Go.Addr.mk 5 0 .none))), (.int .i64 n), (.int .i64 c), (.pointer (.some (Go.Addr.mk 6 0 .none))), v8, v9, v10, v11, v12, (.int .i64 n), (.int .i64 (IntKind.i64.wrap (c + 1))), (.bool (decide (c < n))), (.int .i64 c), (.int .i64 l), (.int .i64 n), (.int .i64 c), (.agg #[(.int .i64 l), (.int .i64 n), (.int .i64 c)]), (.func (.func 113) #[] #[(.pointer (.some (Go.Addr.mk 0 0 .none))), (.pointer (.some (Go.Addr.mk 1 0 .none))), (.pointer (.some (Go.Addr.mk 2 0 .none)))]), (.agg #[(.int .i64 l), (.int .i64 n), (.int .i64 c)]), (.bool false), v24, (.int .i64 (IntKind.i64.wrap (c + 1))), v26], [(.some (.cells [(.int .i64 g)] 3 .var)), (.some (.cells [(.int .i64 b)] 3 .var)), (.some (.cells [(.int .i64 a0), (.int .i64 b0), (.int .i64 a1), (.int .i64 b1)] 75 .var)), r3, r4, (.some (.cells [(.int .i64 (0)), (.int .i64 (0)), (.int .i64 (0))] 74 .var)), (.some (.cells [(.int .i64 l), (.int .i64 n), (.int .i64 c)] 74 .var))], none) :=
  Runs.by (n := 1000) (fid := 112) (os := [.br 112 32 true, .opw 112 24 (.bool false) [(.some (.cells [(.int .i64 g)] 3 .var)), (.some (.cells [(.int .i64 b)] 3 .var)), (.some (.cells [(.int .i64 a0), (.int .i64 b0), (.int .i64 a1), (.int .i64 b1)] 75 .var)), r3, r4, (.some (.cells [(.int .i64 (0)), (.int .i64 (0)), (.int .i64 (0))] 74 .var)), (.some (.cells [(.int .i64 l), (.int .i64 n), (.int .i64 c)] 74 .var))]]) (os' := []) (by kernel_rfl) (ObsOK.cond f1 (ObsOK.call (hk 5 [(.some (.cells [(.int .i64 g)] 3 .var)), (.some (.cells [(.int .i64 b)] 3 .var)), (.some (.cells [(.int .i64 a0), (.int .i64 b0), (.int .i64 a1), (.int .i64 b1)] 75 .var)), r3, r4, (.some (.cells [(.int .i64 (0)), (.int .i64 (0)), (.int .i64 (0))] 74 .var)), (.some (.cells [(.int .i64 l), (.int .i64 n), (.int .i64 c)] 74 .var))] (by kernel_rfl)) (ObsOK.nil)))
theorem siB_p0 (v2 v3 v6 v7 v8 v9 v10 v11 v12 v15 v16 v17 v18 v19 v20 v21 v22 v23 v24 v25 v26 : Value) (l n c g b a0 b0 a1 b1 : Int) (r3 r4 : Option ARow) (f1 : decide (c < n) = true) (hk : ∀ (lim : Nat) (A : Heap), (hget A 0, hget A 1, hget A 2) = (some (.cells [.int .i64 g] 3 .var), some (.cells [.int .i64 b] 3 .var), some (.cells [.int .i64 a0, .int .i64 b0, .int .i64 a1, .int .i64 b1] 75 .var)) → Gives Tryz.prog envP lim 113 [.agg #[.int .i64 l, .int .i64 n, .int .i64 c], pt 0 0, pt 1 0, pt 2 0] A (.bool true, A)) : Runs Tryz.prog envP 5 [.code (round 2 (bodyOf 112))] [I l, .func (.func 113) #[] #[pt 0 0, pt 1 0, pt 2 0], v2, v3, pt 5 0, I n, v6, v7, v8, v9, v10, v11, v12, I n, I c, v15, v16, v17, v18, v19, v20, v21, v22, v23, v24, v25, v26] [some (.cells [.int .i64 g] 3 .var), some (.cells [.int .i64 b] 3 .var), some (.cells [.int .i64 a0, .int .i64 b0, .int .i64 a1, .int .i64 b1] 75 .var), r3, r4, some (.cells [I 0, I 0, I 0] 74 .var)] ([(.int .i64 l), (.func (.func 113) #[] #[(.pointer (.some (Go.Addr.mk 0 0 .none))), (.pointer (.some (Go.Addr.mk 1 0 .none))), (.pointer (.some (Go.Addr.mk 2 0 .none)))]), v2, v3, (.pointer (.some (Go.Addr.mk 5 0 .none))), (.int .i64 n), (.int .i64 c), (.pointer (.some (Go.Addr.mk 6 0 .none))), v8, v9, v10, v11, v12, (.int .i64 n), (.int .i64 c), (.bool (decide (c < n))), (.int .i64 c), (.int .i64 l), (.int .i64 n), (.int .i64 c), (.agg #[(.int .i64 l), (.int .i64 n), (.int .i64 c)]), (.func (.func 113) #[] #[(.pointer (.some (Go.Addr.mk 0 0 .none))), (.pointer (.some (Go.Addr.mk 1 0 .none))), (.pointer (.some (Go.Addr.mk 2 0 .none)))]), (.agg #[(.int .i64 l), (.int .i64 n), (.int .i64 c)]), (.bool true), (.agg #[(.int .i64 l), (.int .i64 n), (.int .i64 c)]), v25, v26], [(.some (.cells [(.int .i64 g)] 3 .var)), (.some (.cells [(.int .i64 b)] 3 .var)), (.some (.cells [(.int .i64 a0), (.int .i64 b0), (.int .i64 a1), (.int .i64 b1)] 75 .var)), r3, r4, (.some (.cells [(.int .i64 l), (.int .i64 n), (.int .i64 c)] 74 .var)), (.some (.cells [(.int .i64 l), (.int .i64 n), (.int .i64 c)] 74 .var))], some .ret) :=
  Runs.by (n := 1000) (fid := 112) (os := [.br 112 32 true, .opw 112 24 (.bool true) [(.some (.cells [(.int .i64 g)] 3 .var)), (.some (.cells [(.int .i64 b)] 3 .var)), (.some (.cells [(.int .i64 a0), (.int .i64 b0), (.int .i64 a1), (.int .i64 b1)] 75 .var)), r3, r4, (.some (.cells [(.int .i64 (0)), (.int .i64 (0)), (.int .i64 (0))] 74 .var)), (.some (.cells [(.int .i64 l), (.int .i64 n), (.int .i64 c)] 74 .var))]]) (os' := []) (by kernel_rfl) (ObsOK.cond f1 (ObsOK.call (hk 5 [(.some (.cells [(.int .i64 g)] 3 .var)), (.some (.cells [(.int .i64 b)] 3 .var)), (.some (.cells [(.int .i64 a0), (.int .i64 b0), (.int .i64 a1), (.int .i64 b1)] 75 .var)), r3, r4, (.some (.cells [(.int .i64 (0)), (.int .i64 (0)), (.int .i64 (0))] 74 .var)), (.some (.cells [(.int .i64 l), (.int .i64 n), (.int .i64 c)] 74 .var))] (by kernel_rfl)) (ObsOK.nil)))
theorem siC_p0 (v2 v3 v6 v7 v8 v9 v10 v11 v12 v15 v16 v17 v18 v19 v20 v21 v22 v23 v24 v25 v26 : Value) (l n c g b a0 b0 a1 b1 : Int) (r3 r4 : Option ARow) (f1 : decide (c < n) = false) : Runs Tryz.prog envP 5 [.code (round 2 (bodyOf 112)), .inLoop (round 2 (bodyOf 112)), .inBlock 2] [I l, .func (.func 113) #[] #[pt 0 0, pt 1 0, pt 2 0], v2, v3, pt 5 0, I n, v6, v7, v8, v9, v10, v11, v12, I n, I c, v15, v16, v17, v18, v19, v20, v21, v22, v23, v24, v25, v26] [some (.cells [.int .i64 g] 3 .var), some (.cells [.int .i64 b] 3 .var), some (.cells [.int .i64 a0, .int .i64 b0, .int .i64 a1, .int .i64 b1] 75 .var), r3, r4, some (.cells [I 0, I 0, I 0] 74 .var)] ([(.int .i64 l), (.func (.func 113) #[] #[(.pointer (.some (Go.Addr.mk 0 0 .none))), (.pointer (.some (Go.Addr.mk 1 0 .none))), (.pointer (.some (Go.Addr.mk 2 0 .none)))]), v2, v3, (.pointer (.some (Go.Addr.mk 5 0 .none))), (.int .i64 n), v6, v7, v8, v9, v10, v11, v12, (.int .i64 n), (.int .i64 c), (.bool (decide (c < n))), v16, v17, v18, v19, v20, v21, v22, v23, v24, v25, v26], [(.some (.cells [(.int .i64 g)] 3 .var)), (.some (.cells [(.int .i64 b)] 3 .var)), (.some (.cells [(.int .i64 a0), (.int .i64 b0), (.int .i64 a1), (.int .i64 b1)] 75 .var)), r3, r4, (.some (.cells [(.int .i64 (0)), (.int .i64 (0)), (.int .i64 (0))] 74 .var))], none) :=
  Runs.by (n := 1000) (fid := 112) (os := [.br 112 32 false]) (os' := []) (by kernel_rfl) (ObsOK.cond f1 (ObsOK.nil))
end Go.Proofs.YtinkgnklhcjejaaGreat
/-
The search for the smallest plan: the program's loops.
-/
namespace Go.Proofs.YtinkgnklhcjejaaGreat
open Go Go.Abs
/-- The search: sample by sample, number by number. -/
def smO (pr : Nat → Nat → Bool) : Nat → Nat → Option (Nat × Nat)
  | _, 0 => none
  | n, d + 1 => match firstP (pr n) 0 n with
    | some c => some (n, c)
    | none => smO pr (n + 1) d
theorem EndsF_inBlock {fn : Func} {A0 A : Heap} {v : Value} {l : List Value} {id : Nat} {k : List It} (h : EndsF Tryz.prog 0 fn A0 v k l A) : EndsF Tryz.prog 0 fn A0 v (.inBlock id :: k) l A := let ⟨X, h⟩ := h; ⟨X, EndsA.inBlock h⟩
theorem EndsF_again {fn : Func} {A0 A : Heap} {v : Value} {l : List Value} {c : Code} {k : List It} (h : EndsF Tryz.prog 0 fn A0 v (.code c :: .inLoop c :: k) l A) : EndsF Tryz.prog 0 fn A0 v (.inLoop c :: k) l A := let ⟨X, h⟩ := h; ⟨X, EndsA.again h⟩
theorem EndsF_block {fn : Func} {A0 A : Heap} {v : Value} {l : List Value} {C B : Code} {id : Nat} {k : List It} (hC : C = .block id B) (h : EndsF Tryz.prog 0 fn A0 v (.code B :: .inBlock id :: k) l A) : EndsF Tryz.prog 0 fn A0 v (.code C :: k) l A := by
  subst hC
  obtain ⟨X, h⟩ := h
  exact ⟨X, EndsA.block h⟩
/-- What the program's search gives. -/
def valP (l : Int) : Option (Nat × Nat) → Value
  | some (n, c) => .agg #[I l, I n, I c]
  | none => .agg #[I 0, I 0, I 0]
def sm_SO (l g b a0 b0 a1 b1 : Int) (r3 r4 : Option ARow) (n : Nat) (ls : List Value) : Prop := ∃ v2 v3 v6 v7 v8 v9 v10 v11 v12 v13 v14 v15 v16 v17 v18 v19 v20 v21 v22 v23 v24 v25 v26 : Value, ls = [I l, .func (.func 113) #[] #[pt 0 0, pt 1 0, pt 2 0], v2, v3, pt 5 0, I (n : Int), v6, v7, v8, v9, v10, v11, v12, v13, v14, v15, v16, v17, v18, v19, v20, v21, v22, v23, v24, v25, v26] ∧ boolB v2 = false ∧ boolB v3 = false ∧ boolB v6 = false ∧ boolB v7 = false ∧ boolB v8 = false ∧ boolB v9 = false ∧ freeB v10 = true ∧ boolB v11 = false ∧ boolB v12 = false ∧ boolB v13 = false ∧ boolB v14 = false ∧ freeB v15 = true ∧ boolB v16 = false ∧ boolB v17 = false ∧ boolB v18 = false ∧ boolB v19 = false ∧ boolB v20 = false ∧ boolB v21 = false ∧ boolB v22 = false ∧ freeB v23 = true ∧ boolB v24 = false ∧ boolB v25 = false ∧ boolB v26 = false
def sm_SI (l g b a0 b0 a1 b1 : Int) (r3 r4 : Option ARow) (n c : Nat) (ls : List Value) : Prop := ∃ v2 v3 v6 v7 v8 v9 v10 v11 v12 v15 v16 v17 v18 v19 v20 v21 v22 v23 v24 v25 v26 : Value, ls = [I l, .func (.func 113) #[] #[pt 0 0, pt 1 0, pt 2 0], v2, v3, pt 5 0, I (n : Int), v6, v7, v8, v9, v10, v11, v12, I (n : Int), I (c : Int), v15, v16, v17, v18, v19, v20, v21, v22, v23, v24, v25, v26] ∧ boolB v2 = false ∧ boolB v3 = false ∧ boolB v6 = false ∧ boolB v7 = false ∧ boolB v8 = false ∧ boolB v9 = false ∧ freeB v10 = true ∧ boolB v11 = false ∧ boolB v12 = false ∧ freeB v15 = true ∧ boolB v16 = false ∧ boolB v17 = false ∧ boolB v18 = false ∧ boolB v19 = false ∧ boolB v20 = false ∧ boolB v21 = false ∧ boolB v22 = false ∧ freeB v23 = true ∧ boolB v24 = false ∧ boolB v25 = false ∧ boolB v26 = false
theorem sm_all {l g b a0 b0 a1 b1 : Int} {r3 r4 : Option ARow} {pr : Nat → Nat → Bool} (hl : l ≤ 1000) (hk : ∀ n c : Nat, c < n → (n : Int) ≤ l → ∀ (lim : Nat) (A : Heap), (hget A 0, hget A 1, hget A 2) = (bx g, bx b, bx4 a0 b0 a1 b1) → Gives Tryz.prog envP lim 113 [.agg #[I l, I n, I c], pt 0 0, pt 1 0, pt 2 0] A (.bool (pr n c), A)) : ∀ d n : Nat, (n : Int) + d = l + 1 → 1 ≤ n → ∀ v, v = valP l (smO pr n d) → ∀ ls, sm_SO l g b a0 b0 a1 b1 r3 r4 n ls → EndsF Tryz.prog 0 Tryz.f112 [bx g, bx b, bx4 a0 b0 a1 b1, r3, r4] v (.code (round 0 (bodyOf 112)) :: .inLoop (round 0 (bodyOf 112)) :: .inBlock 0 :: [.code (dropS 2 (bodyOf 112))]) ls ([bx g, bx b, bx4 a0 b0 a1 b1, r3, r4] ++ [some (.cells [I 0, I 0, I 0] 74 .var)]) := by
  intro d
  induction d with
  | zero =>
    rintro n hn hn1 v rfl ls ⟨v2, v3, v6, v7, v8, v9, v10, v11, v12, v13, v14, v15, v16, v17, v18, v19, v20, v21, v22, v23, v24, v25, v26, rfl, h2, h3, h6, h7, h8, h9, h10, h11, h12, h13, h14, h15, h16, h17, h18, h19, h20, h21, h22, h23, h24, h25, h26⟩
    have hr := so2_p0 v2 v3 v6 v7 v8 v9 v10 v11 v12 v13 v14 v15 v16 v17 v18 v19 v20 v21 v22 v23 v24 v25 v26 (l) (n) (0) (g) (b) (a0) (b0) (a1) (b1) (r3) (r4) (decide_eq_false (by omega))
    refine EndsF.run (k := [.code (round 0 (bodyOf 112)), .inLoop (round 0 (bodyOf 112)), .inBlock 0]) (kk := [.code (dropS 2 (bodyOf 112))]) prog_ok envP_ok hr ?_
    have hr2 := so3_p0 (v2) (v3) (v6) (v7) ((.int .i64 (n : Int))) ((.int .i64 l)) ((.bool (decide ((n : Int) ≤ l)))) (v11) (v12) (v13) (v14) (v15) (v16) (v17) (v18) (v19) (v20) (v21) (v22) (v23) (v24) (v25) (v26) (l) (n) (0) (g) (b) (a0) (b0) (a1) (b1) (r3) (r4)
    exact EndsF.out (k := [.code (dropS 2 (bodyOf 112))]) (kk := []) (X := [some (.cells [I 0, I 0, I 0] 74 .var)]) prog_ok envP_ok hr2 (by kernel_rfl)
  | succ d ih =>
    intro n hn hn1 v hv ls hls
    have inner : ∀ e c : Nat, c + e = n → ∀ v, v = (match firstP (pr n) c e with | some c' => valP l (some (n, c')) | none => valP l (smO pr (n + 1) d)) → ∀ ls, sm_SI l g b a0 b0 a1 b1 r3 r4 n c ls → EndsF Tryz.prog 0 Tryz.f112 [bx g, bx b, bx4 a0 b0 a1 b1, r3, r4] v (.code (round 2 (bodyOf 112)) :: .inLoop (round 2 (bodyOf 112)) :: .inBlock 2 :: .inBlock 1 :: .code (dropS 2 (round 0 (bodyOf 112))) :: .inLoop (round 0 (bodyOf 112)) :: .inBlock 0 :: [.code (dropS 2 (bodyOf 112))]) ls ([bx g, bx b, bx4 a0 b0 a1 b1, r3, r4] ++ [some (.cells [I 0, I 0, I 0] 74 .var)]) := by
      intro e
      induction e with
      | zero =>
        rintro c hc v rfl ls ⟨v2, v3, v6, v7, v8, v9, v10, v11, v12, v15, v16, v17, v18, v19, v20, v21, v22, v23, v24, v25, v26, rfl, h2, h3, h6, h7, h8, h9, h10, h11, h12, h15, h16, h17, h18, h19, h20, h21, h22, h23, h24, h25, h26⟩
        obtain rfl : c = n := by omega
        have hr := siC_p0 v2 v3 v6 v7 v8 v9 v10 v11 v12 v15 v16 v17 v18 v19 v20 v21 v22 v23 v24 v25 v26 (l) (c) (c) (g) (b) (a0) (b0) (a1) (b1) (r3) (r4) (decide_eq_false (by omega))
        refine EndsF.run (k := [.code (round 2 (bodyOf 112)), .inLoop (round 2 (bodyOf 112)), .inBlock 2]) (kk := .inBlock 1 :: .code (dropS 2 (round 0 (bodyOf 112))) :: .inLoop (round 0 (bodyOf 112)) :: .inBlock 0 :: [.code (dropS 2 (bodyOf 112))]) prog_ok envP_ok hr ?_
        refine EndsF_inBlock ?_
        have hr2 := so4_p0 (v2) (v3) (v6) (v7) (v8) (v9) (v10) (v11) (v12) ((.int .i64 (c : Int))) ((.int .i64 (c : Int))) ((.bool (decide ((c : Int) < (c : Int))))) (v16) (v17) (v18) (v19) (v20) (v21) (v22) (v23) (v24) (v25) (v26) (l) (c) (c) (g) (b) (a0) (b0) (a1) (b1) (r3) (r4)
        rw [wrap_s (by omega)] at hr2
        refine EndsF.run (k := [.code (dropS 2 (round 0 (bodyOf 112)))]) (kk := .inLoop (round 0 (bodyOf 112)) :: .inBlock 0 :: [.code (dropS 2 (bodyOf 112))]) prog_ok envP_ok hr2 ?_
        refine EndsF_again ?_
        exact ih (c + 1) (by omega) (by omega) _ rfl _ ⟨_, _, _, _, _, _, _, _, _, _, _, _, _, _, _, _, _, _, _, _, _, _, _, rfl, (by first | assumption | rfl), (by first | assumption | rfl), (by first | assumption | rfl), (by first | assumption | rfl), (by first | assumption | rfl), (by first | assumption | rfl), (by first | assumption | rfl), (by first | assumption | rfl), (by first | assumption | rfl), (by first | assumption | rfl), (by first | assumption | rfl), (by first | assumption | rfl), (by first | assumption | rfl), (by first | assumption | rfl), (by first | assumption | rfl), (by first | assumption | rfl), (by first | assumption | rfl), (by first | assumption | rfl), (by first | assumption | rfl), (by first | assumption | rfl), (by first | assumption | rfl), (by first | assumption | rfl), (by first | assumption | rfl)⟩
      | succ e ihe =>
        rintro c hc v hv ls ⟨v2, v3, v6, v7, v8, v9, v10, v11, v12, v15, v16, v17, v18, v19, v20, v21, v22, v23, v24, v25, v26, rfl, h2, h3, h6, h7, h8, h9, h10, h11, h12, h15, h16, h17, h18, h19, h20, h21, h22, h23, h24, h25, h26⟩
        have hk' := hk n c (by omega) (by omega)
        cases hp : pr n c with
        | true =>
          rw [hp] at hk'
          rw [show firstP (pr n) c (e + 1) = some c by simp only [firstP, hp, if_true]] at hv
          subst hv
          have hr := siB_p0 v2 v3 v6 v7 v8 v9 v10 v11 v12 v15 v16 v17 v18 v19 v20 v21 v22 v23 v24 v25 v26 (l) (n) (c) (g) (b) (a0) (b0) (a1) (b1) (r3) (r4) (decide_eq_true (by omega)) (hk')
          exact EndsF.out (k := [.code (round 2 (bodyOf 112))]) (kk := .inLoop (round 2 (bodyOf 112)) :: .inBlock 2 :: .inBlock 1 :: .code (dropS 2 (round 0 (bodyOf 112))) :: .inLoop (round 0 (bodyOf 112)) :: .inBlock 0 :: [.code (dropS 2 (bodyOf 112))]) (X := [_, _]) prog_ok envP_ok hr (by kernel_rfl)
        | false =>
          rw [hp] at hk'
          rw [show firstP (pr n) c (e + 1) = firstP (pr n) (c + 1) e by simp only [firstP, hp]; rfl] at hv
          have hr := siA_p0 v2 v3 v6 v7 v8 v9 v10 v11 v12 v15 v16 v17 v18 v19 v20 v21 v22 v23 v24 v25 v26 (l) (n) (c) (g) (b) (a0) (b0) (a1) (b1) (r3) (r4) (decide_eq_true (by omega)) (hk')
          rw [wrap_s (by omega)] at hr
          refine EndsF.round prog_ok envP_ok hr (EndsF.renumS (B := [bx g, bx b, bx4 a0 b0 a1 b1, r3, r4]) (R := [some (.cells [I 0, I 0, I 0] 74 .var)]) (ids := [5]) (m := [.free, .ren, .no, .no, .ren, .free, .no, .no, .no, .no, .free, .no, .no, .free, .free, .free, .no, .no, .no, .no, .no, .no, .no, .free, .no, .no, .no]) rfl (base_same (X := [some (.cells [I 0, I 0, I 0] 74 .var), some (.cells [I l, I n, I c] 74 .var)])) (by intro i hi; simp at hi ⊢; omega) rfl (of_decide_eq_true (by kernel_rfl)) (.cons rfl (.plain rfl) .nil) (.free (by first | assumption | rfl) (.ren rfl (.no (by first | assumption | rfl) (.no (by first | assumption | rfl) (.ren rfl (.free (by first | assumption | rfl) (.no (by first | assumption | rfl) (.no (by first | assumption | rfl) (.no (by first | assumption | rfl) (.no (by first | assumption | rfl) (.free (by first | assumption | rfl) (.no (by first | assumption | rfl) (.no (by first | assumption | rfl) (.free (by first | assumption | rfl) (.free (by first | assumption | rfl) (.free (by first | assumption | rfl) (.no (by first | assumption | rfl) (.no (by first | assumption | rfl) (.no (by first | assumption | rfl) (.no (by first | assumption | rfl) (.no (by first | assumption | rfl) (.no (by first | assumption | rfl) (.no (by first | assumption | rfl) (.free (by first | assumption | rfl) (.no (by first | assumption | rfl) (.no (by first | assumption | rfl) (.no (by first | assumption | rfl) .nil))))))))))))))))))))))))))) ?_)
          exact ihe (c + 1) (by omega) v hv _ ⟨_, _, _, _, _, _, _, _, _, _, _, _, _, _, _, _, _, _, _, _, _, rfl, (by first | assumption | rfl), (by first | assumption | rfl), (by first | assumption | rfl), (by first | assumption | rfl), (by first | assumption | rfl), (by first | assumption | rfl), (by first | assumption | rfl), (by first | assumption | rfl), (by first | assumption | rfl), (by first | assumption | rfl), (by first | assumption | rfl), (by first | assumption | rfl), (by first | assumption | rfl), (by first | assumption | rfl), (by first | assumption | rfl), (by first | assumption | rfl), (by first | assumption | rfl), (by first | assumption | rfl), (by first | assumption | rfl), (by first | assumption | rfl), (by first | assumption | rfl)⟩
    have hv2 : v = (match firstP (pr n) 0 n with | some c' => valP l (some (n, c')) | none => valP l (smO pr (n + 1) d)) := by
      rw [hv]
      show valP l (match firstP (pr n) 0 n with | some c => some (n, c) | none => smO pr (n + 1) d) = _
      cases firstP (pr n) 0 n <;> rfl
    obtain ⟨v2, v3, v6, v7, v8, v9, v10, v11, v12, v13, v14, v15, v16, v17, v18, v19, v20, v21, v22, v23, v24, v25, v26, rfl, h2, h3, h6, h7, h8, h9, h10, h11, h12, h13, h14, h15, h16, h17, h18, h19, h20, h21, h22, h23, h24, h25, h26⟩ := hls
    refine EndsF.cast (show (.code (round 0 (bodyOf 112)) :: .inLoop (round 0 (bodyOf 112)) :: .inBlock 0 :: [.code (dropS 2 (bodyOf 112))] : List It) = .code (dropS 0 (round 0 (bodyOf 112))) :: .inLoop (round 0 (bodyOf 112)) :: .inBlock 0 :: [.code (dropS 2 (bodyOf 112))] from rfl) ?_
    refine EndsF.dropSeq (by kernel_rfl) ?_
    have hr := so1_p0 v2 v3 v6 v7 v8 v9 v10 v11 v12 v13 v14 v15 v16 v17 v18 v19 v20 v21 v22 v23 v24 v25 v26 (l) (n) (0) (g) (b) (a0) (b0) (a1) (b1) (r3) (r4) (decide_eq_true (by omega))
    refine EndsF.run (k := [.code (seqAt 0 (round 0 (bodyOf 112)))]) (kk := .code (dropS 1 (round 0 (bodyOf 112))) :: .inLoop (round 0 (bodyOf 112)) :: .inBlock 0 :: [.code (dropS 2 (bodyOf 112))]) prog_ok envP_ok hr ?_
    refine EndsF.dropSeq (by kernel_rfl) ?_
    refine EndsF_block (B := bodyB (seqAt 1 (round 0 (bodyOf 112)))) (id := 1) (by kernel_rfl) ?_
    refine EndsF.cast (show (.code (bodyB (seqAt 1 (round 0 (bodyOf 112)))) :: .inBlock 1 :: .code (dropS 2 (round 0 (bodyOf 112))) :: .inLoop (round 0 (bodyOf 112)) :: .inBlock 0 :: [.code (dropS 2 (bodyOf 112))] : List It) = .code (dropS 0 (bodyB (seqAt 1 (round 0 (bodyOf 112))))) :: .inBlock 1 :: .code (dropS 2 (round 0 (bodyOf 112))) :: .inLoop (round 0 (bodyOf 112)) :: .inBlock 0 :: [.code (dropS 2 (bodyOf 112))] from rfl) ?_
    refine EndsF.dropSeq (by kernel_rfl) ?_
    have hr2 := si0_p0 (v2) (v3) (v6) (v7) ((.int .i64 (n : Int))) ((.int .i64 l)) ((.bool (decide ((n : Int) ≤ l)))) (v11) (v12) (v13) (v14) (v15) (v16) (v17) (v18) (v19) (v20) (v21) (v22) (v23) (v24) (v25) (v26) (l) (n) (0) (g) (b) (a0) (b0) (a1) (b1) (r3) (r4)
    refine EndsF.run (k := [.code (seqAt 0 (bodyB (seqAt 1 (round 0 (bodyOf 112)))))]) (kk := .code (dropS 1 (bodyB (seqAt 1 (round 0 (bodyOf 112))))) :: .inBlock 1 :: .code (dropS 2 (round 0 (bodyOf 112))) :: .inLoop (round 0 (bodyOf 112)) :: .inBlock 0 :: [.code (dropS 2 (bodyOf 112))]) prog_ok envP_ok hr2 ?_
    refine EndsF.blockLoop (B := (round 2 (bodyOf 112))) (id := 2) (by kernel_rfl) ?_
    exact inner n 0 (by omega) v hv2 _ ⟨_, _, _, _, _, _, _, _, _, _, _, _, _, _, _, _, _, _, _, _, _, rfl, (by first | assumption | rfl), (by first | assumption | rfl), (by first | assumption | rfl), (by first | assumption | rfl), (by first | assumption | rfl), (by first | assumption | rfl), (by first | assumption | rfl), (by first | assumption | rfl), (by first | assumption | rfl), (by first | assumption | rfl), (by first | assumption | rfl), (by first | assumption | rfl), (by first | assumption | rfl), (by first | assumption | rfl), (by first | assumption | rfl), (by first | assumption | rfl), (by first | assumption | rfl), (by first | assumption | rfl), (by first | assumption | rfl), (by first | assumption | rfl), (by first | assumption | rfl)⟩
end Go.Proofs.YtinkgnklhcjejaaGreat
/-
The head of the search.
-/
namespace Go.Proofs.YtinkgnklhcjejaaGreat
open Go Go.Abs
theorem sp0_p0 (l g b a0 b0 a1 b1 : Int) (r3 r4 : Option ARow) : Runs Tryz.prog envP 5 [.code (seqAt 0 (bodyOf 112))] [I l, .func (.func 113) #[] #[pt 0 0, pt 1 0, pt 2 0], U, U, U, U, U, U, U, U, U, U, U, U, U, U, U, U, U, U, U, U, U, U, U, U, U] [some (.cells [.int .i64 g] 3 .var), some (.cells [.int .i64 b] 3 .var), some (.cells [.int .i64 a0, .int .i64 b0, .int .i64 a1, .int .i64 b1] 75 .var), r3, r4] ([(.int .i64 l), (.func (.func 113) #[] #[(.pointer (.some (Go.Addr.mk 0 0 .none))), (.pointer (.some (Go.Addr.mk 1 0 .none))), (.pointer (.some (Go.Addr.mk 2 0 .none)))]), (.tuple #[]), (.tuple #[]), (.pointer (.some (Go.Addr.mk 5 0 .none))), (.tuple #[]), (.tuple #[]), (.tuple #[]), (.tuple #[]), (.tuple #[]), (.tuple #[]), (.tuple #[]), (.tuple #[]), (.tuple #[]), (.tuple #[]), (.tuple #[]), (.tuple #[]), (.tuple #[]), (.tuple #[]), (.tuple #[]), (.tuple #[]), (.tuple #[]), (.tuple #[]), (.tuple #[]), (.tuple #[]), (.tuple #[]), (.tuple #[])], [(.some (.cells [(.int .i64 g)] 3 .var)), (.some (.cells [(.int .i64 b)] 3 .var)), (.some (.cells [(.int .i64 a0), (.int .i64 b0), (.int .i64 a1), (.int .i64 b1)] 75 .var)), r3, r4, (.some (.cells [(.int .i64 (0)), (.int .i64 (0)), (.int .i64 (0))] 74 .var))], none) :=
  Runs.by (n := 1000) (fid := 112) (os := []) (os' := []) (by kernel_rfl) (ObsOK.nil)
theorem sp1_p0 (v2 v3 v5 v6 v7 v8 v9 v10 v11 v12 v13 v14 v15 v16 v17 v18 v19 v20 v21 v22 v23 v24 v25 v26 : Value) (l g b a0 b0 a1 b1 : Int) (r3 r4 : Option ARow) : Runs Tryz.prog envP 5 [.code (seqAt 0 (seqAt 1 (bodyOf 112)))] [I l, .func (.func 113) #[] #[pt 0 0, pt 1 0, pt 2 0], v2, v3, pt 5 0, v5, v6, v7, v8, v9, v10, v11, v12, v13, v14, v15, v16, v17, v18, v19, v20, v21, v22, v23, v24, v25, v26] [some (.cells [.int .i64 g] 3 .var), some (.cells [.int .i64 b] 3 .var), some (.cells [.int .i64 a0, .int .i64 b0, .int .i64 a1, .int .i64 b1] 75 .var), r3, r4, some (.cells [I 0, I 0, I 0] 74 .var)] ([(.int .i64 l), (.func (.func 113) #[] #[(.pointer (.some (Go.Addr.mk 0 0 .none))), (.pointer (.some (Go.Addr.mk 1 0 .none))), (.pointer (.some (Go.Addr.mk 2 0 .none)))]), v2, v3, (.pointer (.some (Go.Addr.mk 5 0 .none))), (.int .i64 (1)), v6, v7, v8, v9, v10, v11, v12, v13, v14, v15, v16, v17, v18, v19, v20, v21, v22, v23, v24, v25, v26], [(.some (.cells [(.int .i64 g)] 3 .var)), (.some (.cells [(.int .i64 b)] 3 .var)), (.some (.cells [(.int .i64 a0), (.int .i64 b0), (.int .i64 a1), (.int .i64 b1)] 75 .var)), r3, r4, (.some (.cells [(.int .i64 (0)), (.int .i64 (0)), (.int .i64 (0))] 74 .var))], none) :=
  Runs.by (n := 1000) (fid := 112) (os := []) (os' := []) (by kernel_rfl) (ObsOK.nil)
end Go.Proofs.YtinkgnklhcjejaaGreat
/-
The search for the smallest plan: what the program's call gives.
-/
namespace Go.Proofs.YtinkgnklhcjejaaGreat
open Go Go.Abs
theorem eq112 : seqAt 1 (bodyOf 112) = .seq (seqAt 0 (seqAt 1 (bodyOf 112))) (blk 0 (bodyOf 112)) := by kernel_rfl
theorem says112 {l g b a0 b0 a1 b1 : Int} {r3 r4 : Option ARow} {pr : Nat → Nat → Bool} (hl0 : 0 ≤ l) (hl : l ≤ 1000) (hk : ∀ n c : Nat, c < n → (n : Int) ≤ l → ∀ (lim : Nat) (A : Heap), (hget A 0, hget A 1, hget A 2) = (bx g, bx b, bx4 a0 b0 a1 b1) → Gives Tryz.prog envP lim 113 [.agg #[I l, I n, I c], pt 0 0, pt 1 0, pt 2 0] A (.bool (pr n c), A)) :
    SaysAt Tryz.prog 0 112 [I l, .func (.func 113) #[] #[pt 0 0, pt 1 0, pt 2 0]] [bx g, bx b, bx4 a0 b0 a1 b1, r3, r4] (valP l (smO pr 1 l.toNat)) [bx g, bx b, bx4 a0 b0 a1 b1, r3, r4] := by
  refine EndsF.says prog_ok (v := valP l (smO pr 1 l.toNat)) (c := bodyOf 112) Tryz.func112 (by kernel_rfl) (show ¬ Tryz.f112.ntmps < 2 from of_decide_eq_false (by kernel_rfl)) ?_ (fun X => by cases smO pr 1 l.toNat <;> rfl)
  refine EndsF.cast (show ([.code (bodyOf 112)] : List It) = .code (dropS 0 (bodyOf 112)) :: [] by kernel_rfl) ?_
  refine EndsF.dropSeq (by kernel_rfl) ?_
  have hr := sp0_p0 (l) (g) (b) (a0) (b0) (a1) (b1) (r3) (r4)
  refine EndsF.run (k := [.code (seqAt 0 (bodyOf 112))]) (kk := .code (dropS 1 (bodyOf 112)) :: []) prog_ok envP_ok hr ?_
  refine EndsF.dropSeq (by kernel_rfl) ?_
  refine EndsF.cast (congrArg (fun c => [It.code c, It.code (dropS 2 (bodyOf 112))]) eq112) ?_
  refine EndsF.seq ?_
  have hr2 := sp1_p0 ((.tuple #[])) ((.tuple #[])) ((.tuple #[])) ((.tuple #[])) ((.tuple #[])) ((.tuple #[])) ((.tuple #[])) ((.tuple #[])) ((.tuple #[])) ((.tuple #[])) ((.tuple #[])) ((.tuple #[])) ((.tuple #[])) ((.tuple #[])) ((.tuple #[])) ((.tuple #[])) ((.tuple #[])) ((.tuple #[])) ((.tuple #[])) ((.tuple #[])) ((.tuple #[])) ((.tuple #[])) ((.tuple #[])) ((.tuple #[])) (l) (g) (b) (a0) (b0) (a1) (b1) (r3) (r4)
  refine EndsF.run (k := [.code (seqAt 0 (seqAt 1 (bodyOf 112)))]) (kk := [.code (blk 0 (bodyOf 112)), .code (dropS 2 (bodyOf 112))]) prog_ok envP_ok hr2 ?_
  refine EndsF.blockLoop (B := (round 0 (bodyOf 112))) (id := 0) (by kernel_rfl) ?_
  exact sm_all hl hk l.toNat 1 (by omega) (by omega) _ rfl _ ⟨_, _, _, _, _, _, _, _, _, _, _, _, _, _, _, _, _, _, _, _, _, _, _, rfl, rfl, rfl, rfl, rfl, rfl, rfl, rfl, rfl, rfl, rfl, rfl, rfl, rfl, rfl, rfl, rfl, rfl, rfl, rfl, rfl, rfl, rfl, rfl⟩
end Go.Proofs.YtinkgnklhcjejaaGreat
/-
The search is known to its caller.
-/
namespace Go.Proofs.YtinkgnklhcjejaaGreat
open Go Go.Abs
abbrev fEn : Value := .func (.func 113) #[] #[pt 0 0, pt 1 0, pt 2 0]
structure SmI where
  (l g b a0 b0 a1 b1 : Int) (r3 r4 : Option ARow)
/-- What is asked of a search. -/
def smOK (l g b a0 b0 a1 b1 : Int) : Prop := 1 ≤ l ∧ l ≤ 12 ∧ 0 ≤ g ∧ g ≤ l ∧ 0 ≤ b ∧ b ≤ l ∧ riskR a0 b0 ∧ riskR a1 b1
def smF (l g b a0 b0 a1 b1 : Int) : Option (Nat × Nat) := smO (fun n c => enough l n c g b a0 b0 a1 b1) 1 l.toNat
def famSm : FamX where
  ι := SmI
  ok i := smOK i.l i.g i.b i.a0 i.b0 i.a1 i.b1
  args i := [I i.l, fEn]
  rows i := [bx i.g, bx i.b, bx4 i.a0 i.b0 i.a1 i.b1, i.r3, i.r4]
  val i := valP i.l (smF i.l i.g i.b i.a0 i.b0 i.a1 i.b1)
  out i := [bx i.g, bx i.b, bx4 i.a0 i.b0 i.a1 i.b1, i.r3, i.r4]
  one i j _ _ h1 h2 := by
    simp only [List.cons.injEq, Value.int.injEq, true_and, and_true] at h1
    simp only [List.cons.injEq, Option.some.injEq, ARow.cells.injEq, Value.int.injEq, true_and, and_true] at h2
    obtain ⟨f1, f2, ⟨f3, f4, f5, f6⟩, f7, f8⟩ := h2
    rw [h1, f1, f2, f3, f4, f5, f6, f7, f8]; exact ⟨rfl, rfl⟩
noncomputable def envQ : Env := envP.famX 112 5 famSm
theorem envQ_ok : EnvOK Tryz.prog 0 envQ := Env.famX_ok envP_ok fun i hi => by
  obtain ⟨h1, h2, h3, h4, h5, h6, h7, h8⟩ := hi
  refine ⟨says112 (by omega) (by omega) fun n c hc hn => ?_, Keeps.refl _ _⟩
  exact k113 h2 (decide_eq_true (by omega)) (decide_eq_true (by omega)) h7 h8
theorem k112 {l g b a0 b0 a1 b1 : Int} {r3 r4 : Option ARow} (h : smOK l g b a0 b0 a1 b1) : Gives Tryz.prog envQ 0 112 [I l, fEn] [bx g, bx b, bx4 a0 b0 a1 b1, r3, r4] (valP l (smF l g b a0 b0 a1 b1), [bx g, bx b, bx4 a0 b0 a1 b1, r3, r4]) :=
  Go.Abs.known_gives (Env.famX_here (F := famSm) ⟨l, g, b, a0, b0, a1, b1, r3, r4⟩ h (Nat.zero_le _))
end Go.Proofs.YtinkgnklhcjejaaGreat
/-
Smallest, case by case.
-/
namespace Go.Proofs.YtinkgnklhcjejaaGreat
open Go Go.Abs
theorem sl1_p0 (l g b a0 b0 a1 b1 : Int) (q1 : (cl_r0 l != 0) = true) : Gives Tryz.prog envQ 0 51 [I l, I g, I b, .agg #[I a0, I b0, I a1, I b1]] [] ((.tuple #[(.agg #[(.int .i64 (0)), (.int .i64 (0)), (.int .i64 (0))]), (.int .i64 (cl_r0 l))]), []) :=
  Gives.by (n := 1000) (os := [.br 86 26 true, .br 51 56 true]) (os' := []) (by kernel_rfl) (ObsOK.cond q1 (ObsOK.cond q1 (ObsOK.nil)))
def sl1_r3 (l : Int) (g : Int) (b : Int) (a0 : Int) (b0 : Int) (a1 : Int) (b1 : Int) : Int := (cl_r0 l)
theorem sl1_gives (l g b a0 b0 a1 b1 : Int) (q1 : (cl_r0 l != 0) = true) : Gives Tryz.prog envQ 0 51 [I l, I g, I b, .agg #[I a0, I b0, I a1, I b1]] [] ((.tuple #[(.agg #[(.int .i64 (0)), (.int .i64 (0)), (.int .i64 (0))]), (.int .i64 (sl1_r3 l g b a0 b0 a1 b1))]), []) := by
  simp only [sl1_r3, cond_true, cond_false]; exact sl1_p0 l g b a0 b0 a1 b1 q1
theorem sl2_p0 (l g b a0 b0 a1 b1 : Int) (q1 : (cl_r0 l != 0) = false) (q2 : (cd_r0 l g b != 0) = true) : Gives Tryz.prog envQ 0 51 [I l, I g, I b, .agg #[I a0, I b0, I a1, I b1]] [] ((.tuple #[(.agg #[(.int .i64 (0)), (.int .i64 (0)), (.int .i64 (0))]), (.int .i64 (cd_r0 l g b))]), []) :=
  Gives.by (n := 1000) (os := [.br 86 26 false, .br 86 26 true, .br 51 56 true]) (os' := []) (by kernel_rfl) (ObsOK.cond q1 (ObsOK.cond q2 (ObsOK.cond q2 (ObsOK.nil))))
def sl2_r3 (l : Int) (g : Int) (b : Int) (a0 : Int) (b0 : Int) (a1 : Int) (b1 : Int) : Int := (cd_r0 l g b)
theorem sl2_gives (l g b a0 b0 a1 b1 : Int) (q1 : (cl_r0 l != 0) = false) (q2 : (cd_r0 l g b != 0) = true) : Gives Tryz.prog envQ 0 51 [I l, I g, I b, .agg #[I a0, I b0, I a1, I b1]] [] ((.tuple #[(.agg #[(.int .i64 (0)), (.int .i64 (0)), (.int .i64 (0))]), (.int .i64 (sl2_r3 l g b a0 b0 a1 b1))]), []) := by
  simp only [sl2_r3, cond_true, cond_false]; exact sl2_p0 l g b a0 b0 a1 b1 q1 q2
theorem sl3_p0 (l g b a0 b0 a1 b1 : Int) (q1 : (cl_r0 l != 0) = false) (q2 : (cd_r0 l g b != 0) = false) (q3 : (ck_r0 a0 b0 != 0) = true) : Gives Tryz.prog envQ 0 51 [I l, I g, I b, .agg #[I a0, I b0, I a1, I b1]] [] ((.tuple #[(.agg #[(.int .i64 (0)), (.int .i64 (0)), (.int .i64 (0))]), (.int .i64 (ck_r0 a0 b0))]), []) :=
  Gives.by (n := 1000) (os := [.br 86 26 false, .br 86 26 false, .br 86 26 true, .br 51 56 true]) (os' := []) (by kernel_rfl) (ObsOK.cond q1 (ObsOK.cond q2 (ObsOK.cond q3 (ObsOK.cond q3 (ObsOK.nil)))))
def sl3_r3 (l : Int) (g : Int) (b : Int) (a0 : Int) (b0 : Int) (a1 : Int) (b1 : Int) : Int := (ck_r0 a0 b0)
theorem sl3_gives (l g b a0 b0 a1 b1 : Int) (q1 : (cl_r0 l != 0) = false) (q2 : (cd_r0 l g b != 0) = false) (q3 : (ck_r0 a0 b0 != 0) = true) : Gives Tryz.prog envQ 0 51 [I l, I g, I b, .agg #[I a0, I b0, I a1, I b1]] [] ((.tuple #[(.agg #[(.int .i64 (0)), (.int .i64 (0)), (.int .i64 (0))]), (.int .i64 (sl3_r3 l g b a0 b0 a1 b1))]), []) := by
  simp only [sl3_r3, cond_true, cond_false]; exact sl3_p0 l g b a0 b0 a1 b1 q1 q2 q3
theorem sl4_p0 (l g b a0 b0 a1 b1 : Int) (q1 : (cl_r0 l != 0) = false) (q2 : (cd_r0 l g b != 0) = false) (q3 : (ck_r0 a0 b0 != 0) = false) (q4 : (ck_r0 a1 b1 != 0) = true) : Gives Tryz.prog envQ 0 51 [I l, I g, I b, .agg #[I a0, I b0, I a1, I b1]] [] ((.tuple #[(.agg #[(.int .i64 (0)), (.int .i64 (0)), (.int .i64 (0))]), (.int .i64 (ck_r0 a1 b1))]), []) :=
  Gives.by (n := 1000) (os := [.br 86 26 false, .br 86 26 false, .br 86 26 false, .br 86 26 true, .br 51 56 true]) (os' := []) (by kernel_rfl) (ObsOK.cond q1 (ObsOK.cond q2 (ObsOK.cond q3 (ObsOK.cond q4 (ObsOK.cond q4 (ObsOK.nil))))))
def sl4_r3 (l : Int) (g : Int) (b : Int) (a0 : Int) (b0 : Int) (a1 : Int) (b1 : Int) : Int := (ck_r0 a1 b1)
theorem sl4_gives (l g b a0 b0 a1 b1 : Int) (q1 : (cl_r0 l != 0) = false) (q2 : (cd_r0 l g b != 0) = false) (q3 : (ck_r0 a0 b0 != 0) = false) (q4 : (ck_r0 a1 b1 != 0) = true) : Gives Tryz.prog envQ 0 51 [I l, I g, I b, .agg #[I a0, I b0, I a1, I b1]] [] ((.tuple #[(.agg #[(.int .i64 (0)), (.int .i64 (0)), (.int .i64 (0))]), (.int .i64 (sl4_r3 l g b a0 b0 a1 b1))]), []) := by
  simp only [sl4_r3, cond_true, cond_false]; exact sl4_p0 l g b a0 b0 a1 b1 q1 q2 q3 q4
theorem sl5_p0 (l g b a0 b0 a1 b1 x y z : Int) (q1 : (cl_r0 l != 0) = false) (q2 : (cd_r0 l g b != 0) = false) (q3 : (ck_r0 a0 b0 != 0) = false) (q4 : (ck_r0 a1 b1 != 0) = false) (hk : Gives Tryz.prog envQ 0 112 [I l, fEn] [some (.cells [I g] 3 .var), some (.cells [I b] 3 .var), some (.cells [I a0, I b0, I a1, I b1] 75 .var), some (.cells [I 0, I 0, I 0] 74 .var), some (.cells [I (cl_r0 l), I (cd_r0 l g b), I (ck_r0 a0 b0), I (ck_r0 a1 b1)] 31 .row)] (.agg #[I x, I y, I z], [some (.cells [I g] 3 .var), some (.cells [I b] 3 .var), some (.cells [I a0, I b0, I a1, I b1] 75 .var), some (.cells [I 0, I 0, I 0] 74 .var), some (.cells [I (cl_r0 l), I (cd_r0 l g b), I (ck_r0 a0 b0), I (ck_r0 a1 b1)] 31 .row)])) : Gives Tryz.prog envQ 0 51 [I l, I g, I b, .agg #[I a0, I b0, I a1, I b1]] [] ((.tuple #[(.agg #[(.int .i64 x), (.int .i64 y), (.int .i64 z)]), (.int .i64 (bif x == 0 && (y == 0 && (z == 0 && true)) then 24 else 0))]), []) :=
  Gives.by (n := 1000) (os := [.br 86 26 false, .br 86 26 false, .br 86 26 false, .br 86 26 false, .opw 51 33 (.agg #[(.int .i64 x), (.int .i64 y), (.int .i64 z)]) [(.some (.cells [(.int .i64 g)] 3 .var)), (.some (.cells [(.int .i64 b)] 3 .var)), (.some (.cells [(.int .i64 a0), (.int .i64 b0), (.int .i64 a1), (.int .i64 b1)] 75 .var)), (.some (.cells [(.int .i64 (0)), (.int .i64 (0)), (.int .i64 (0))] 74 .var)), (.some (.cells [(.int .i64 (cl_r0 l)), (.int .i64 (cd_r0 l g b)), (.int .i64 (ck_r0 a0 b0)), (.int .i64 (ck_r0 a1 b1))] 31 .row))]]) (os' := []) (by kernel_rfl) (ObsOK.cond q1 (ObsOK.cond q2 (ObsOK.cond q3 (ObsOK.cond q4 (ObsOK.call hk (ObsOK.nil))))))
def sl5_r3 (l : Int) (g : Int) (b : Int) (a0 : Int) (b0 : Int) (a1 : Int) (b1 : Int) (x : Int) (y : Int) (z : Int) : Int := (bif x == 0 && (y == 0 && (z == 0 && true)) then 24 else 0)
theorem sl5_gives (l g b a0 b0 a1 b1 x y z : Int) (q1 : (cl_r0 l != 0) = false) (q2 : (cd_r0 l g b != 0) = false) (q3 : (ck_r0 a0 b0 != 0) = false) (q4 : (ck_r0 a1 b1 != 0) = false) (hk : Gives Tryz.prog envQ 0 112 [I l, fEn] [some (.cells [I g] 3 .var), some (.cells [I b] 3 .var), some (.cells [I a0, I b0, I a1, I b1] 75 .var), some (.cells [I 0, I 0, I 0] 74 .var), some (.cells [I (cl_r0 l), I (cd_r0 l g b), I (ck_r0 a0 b0), I (ck_r0 a1 b1)] 31 .row)] (.agg #[I x, I y, I z], [some (.cells [I g] 3 .var), some (.cells [I b] 3 .var), some (.cells [I a0, I b0, I a1, I b1] 75 .var), some (.cells [I 0, I 0, I 0] 74 .var), some (.cells [I (cl_r0 l), I (cd_r0 l g b), I (ck_r0 a0 b0), I (ck_r0 a1 b1)] 31 .row)])) : Gives Tryz.prog envQ 0 51 [I l, I g, I b, .agg #[I a0, I b0, I a1, I b1]] [] ((.tuple #[(.agg #[(.int .i64 (x)), (.int .i64 (y)), (.int .i64 (z))]), (.int .i64 (sl5_r3 l g b a0 b0 a1 b1 x y z))]), []) := by
  simp only [sl5_r3, cond_true, cond_false]; exact sl5_p0 l g b a0 b0 a1 b1 x y z q1 q2 q3 q4 hk
end Go.Proofs.YtinkgnklhcjejaaGreat
/-
What Smallest gives.
-/
namespace Go.Proofs.YtinkgnklhcjejaaGreat
open Go Go.Abs
/-- The error of a ratio that is asked for is the reference's. -/
theorem ck_form (x y : Int) : ck_r0 x y = if 0 ≤ x ∧ x ≤ 999999999 then (if ctE x y = 0 then (if 0 ≤ x ∧ x ≤ y then 0 else 3) else ctE x y) else 3 := by
  unfold ck_r0 ck_c0 ck_c1 ck_c2
  rw [cr_eq, cr_eq]
  by_cases h1 : 0 ≤ x ∧ x ≤ 999999999
  · rw [if_pos h1, if_pos h1]
    by_cases h2 : ctE x y = 0
    · rw [h2, if_pos rfl]
      by_cases h3 : 0 ≤ x ∧ x ≤ y
      · rw [if_pos h3]; rfl
      · rw [if_neg h3]; rfl
    · rw [if_neg h2, show (ctE x y != 0) = true from bne_iff_ne.2 h2]; rfl
  · rw [if_neg h1, if_neg h1]; rfl
theorem ck_eq (x y : Int) : ck_r0 x y = rkE x y := by
  rw [ck_form]
  by_cases h1 : 0 ≤ x ∧ x ≤ 999999999
  · rw [if_pos h1]
    by_cases h2 : 1 ≤ y ∧ y ≤ 999999999
    · have h3 : (-999999999 ≤ x ∧ x ≤ 999999999) ∧ 1 ≤ y ∧ y ≤ 999999999 := ⟨⟨by omega, h1.2⟩, h2⟩
      by_cases h4 : lowN x y = x ∧ lowD x y = y
      · have eC : ctE x y = 0 := by unfold ctE; rw [if_pos h3, if_pos h4]
        have eR : rkE x y = if x > y then 3 else 0 := by unfold rkE; rw [if_pos ⟨h1, h2⟩, if_pos h4]
        rw [eC, eR, if_pos rfl]
        by_cases h5 : x > y
        · rw [if_pos h5, if_neg (by omega)]
        · rw [if_neg h5, if_pos (by omega)]
      · have eC : ctE x y = 1 := by unfold ctE; rw [if_pos h3, if_neg h4]
        have eR : rkE x y = 1 := by unfold rkE; rw [if_pos ⟨h1, h2⟩, if_neg h4]
        rw [eC, eR, if_neg (by decide)]
    · have eC : ctE x y = 3 := by unfold ctE; rw [if_neg (fun h => h2 h.2)]
      have eR : rkE x y = 3 := by unfold rkE; rw [if_neg (fun h => h2 h.2)]
      rw [eC, eR, if_neg (by decide)]
  · have eR : rkE x y = 3 := by unfold rkE; rw [if_neg (fun h => h1 h.1)]
    rw [if_neg h1, eR]
theorem rk_zero {x y : Int} (h : rkE x y = 0) : riskR x y := by
  unfold rkE at h
  split at h
  · rename_i hh; exact ⟨hh.1.1, hh.1.2, hh.2.1, hh.2.2⟩
  · cases h
/-- The error of what is asked for. -/
def slE (l g b a0 b0 a1 b1 : Int) : Int := cond (cl_r0 l != 0) (cl_r0 l) (cond (cd_r0 l g b != 0) (cd_r0 l g b) (cond (ck_r0 a0 b0 != 0) (ck_r0 a0 b0) (ck_r0 a1 b1)))
theorem sl_ok {l g b a0 b0 a1 b1 : Int} (hl : l ≤ 12 ∨ 30 < l) (q1 : (cl_r0 l != 0) = false) (q2 : (cd_r0 l g b != 0) = false) (q3 : (ck_r0 a0 b0 != 0) = false) (q4 : (ck_r0 a1 b1 != 0) = false) : smOK l g b a0 b0 a1 b1 := by
  have h1 : 1 ≤ l ∧ l ≤ 30 := cr_zero.1 q1
  have h2 := cd_zero.1 q2
  rw [ck_eq] at q3 q4
  exact ⟨h1.1, by omega, by omega, by omega, by omega, by omega, rk_zero (eq_zero q3), rk_zero (eq_zero q4)⟩
/-- What Smallest gives: a plan, and an error. -/
def slV (l g b a0 b0 a1 b1 : Int) : Int × Int × Int × Int := if (slE l g b a0 b0 a1 b1 != 0) = true then (0, 0, 0, slE l g b a0 b0 a1 b1) else match smF l g b a0 b0 a1 b1 with
  | some (n, c) => (l, n, c, 0)
  | none => (0, 0, 0, 24)
abbrev v4 (x : Int × Int × Int × Int) : Value := .tuple #[.agg #[I x.1, I x.2.1, I x.2.2.1], I x.2.2.2]
def okS (l : Int) : Bool := decide (l ≤ 12 ∨ 30 < l)
theorem g51 {l g b a0 b0 a1 b1 : Int} (h : okS l = true) : Gives Tryz.prog envQ 0 51 [I l, I g, I b, .agg #[I a0, I b0, I a1, I b1]] heapN (v4 (slV l g b a0 b0 a1 b1), heapN) := by
  have hl := of_decide_eq_true h
  unfold slV
  cases q1 : (cl_r0 l != 0) with
  | true =>
    have e : slE l g b a0 b0 a1 b1 = cl_r0 l := by unfold slE; rw [q1]; rfl
    rw [e, if_pos q1]; exact sl1_p0 l g b a0 b0 a1 b1 q1
  | false =>
    cases q2 : (cd_r0 l g b != 0) with
    | true =>
      have e : slE l g b a0 b0 a1 b1 = cd_r0 l g b := by unfold slE; rw [q1, q2]; rfl
      rw [e, if_pos q2]; exact sl2_p0 l g b a0 b0 a1 b1 q1 q2
    | false =>
      cases q3 : (ck_r0 a0 b0 != 0) with
      | true =>
        have e : slE l g b a0 b0 a1 b1 = ck_r0 a0 b0 := by unfold slE; rw [q1, q2, q3]; rfl
        rw [e, if_pos q3]; exact sl3_p0 l g b a0 b0 a1 b1 q1 q2 q3
      | false =>
        have e : slE l g b a0 b0 a1 b1 = ck_r0 a1 b1 := by unfold slE; rw [q1, q2, q3]; rfl
        cases q4 : (ck_r0 a1 b1 != 0) with
        | true => rw [e, if_pos q4]; exact sl4_p0 l g b a0 b0 a1 b1 q1 q2 q3 q4
        | false =>
          rw [e, q4, if_neg (by decide)]
          have hs := sl_ok hl q1 q2 q3 q4
          have hk := k112 (r3 := some (.cells [I 0, I 0, I 0] 74 .var)) (r4 := some (.cells [I (cl_r0 l), I (cd_r0 l g b), I (ck_r0 a0 b0), I (ck_r0 a1 b1)] 31 .row)) hs
          have h1 : 1 ≤ l := hs.1
          cases hf : smF l g b a0 b0 a1 b1 with
          | none =>
            rw [hf] at hk
            exact sl5_p0 l g b a0 b0 a1 b1 0 0 0 q1 q2 q3 q4 hk
          | some x =>
            obtain ⟨n, c⟩ := x
            rw [hf] at hk
            have := sl5_p0 l g b a0 b0 a1 b1 l n c q1 q2 q3 q4 hk
            rw [show (l == 0) = false from by rw [eqB]; exact decide_eq_false (by omega)] at this
            exact this
end Go.Proofs.YtinkgnklhcjejaaGreat
/-
Rounds of the reference's search for the smallest plan.
-/
namespace Go.Proofs.YtinkgnklhcjejaaGreat
open Go Go.Abs
theorem ro1_p0 (v3 v4 v5 v6 v9 v11 v12 v13 v14 v15 v16 v17 v18 v19 v20 v21 v22 v23 v24 v25 v26 v27 v28 v29 v30 v31 v32 v33 v34 v35 v36 v37 v38 v39 v40 v41 v42 v43 v44 v45 v46 v47 v48 v49 v50 v51 v52 v53 v54 v55 v56 v57 v58 v59 v60 v61 v62 v63 v64 v65 : Value) (l n c g b a0 b0 a1 b1 : Int) (f1 : decide (n ≤ l) = true) : Runs Tryz.prog envP 0 [.code (seqAt 0 (round 0 (bodyOf 53)))] [I l, I g, I b, v3, v4, v5, v6, pt 0 0, pt 1 0, v9, I n, v11, v12, v13, v14, v15, v16, v17, v18, v19, v20, v21, v22, v23, v24, v25, v26, v27, v28, v29, v30, v31, v32, v33, v34, v35, v36, v37, v38, v39, v40, v41, v42, v43, v44, v45, v46, v47, v48, v49, v50, v51, v52, v53, v54, v55, v56, v57, v58, v59, v60, v61, v62, v63, v64, v65] [some (.cells [.int .i64 a0, .int .i64 b0, .int .i64 a1, .int .i64 b1] 75 .var), some (.cells [I 0, I 0, I 0] 71 .var)] ([(.int .i64 l), (.int .i64 g), (.int .i64 b), v3, v4, v5, v6, (.pointer (.some (Go.Addr.mk 0 0 .none))), (.pointer (.some (Go.Addr.mk 1 0 .none))), v9, (.int .i64 n), v11, v12, v13, (.int .i64 n), (.int .i64 l), (.bool (decide (n ≤ l))), v17, v18, v19, v20, v21, v22, v23, v24, v25, v26, v27, v28, v29, v30, v31, v32, v33, v34, v35, v36, v37, v38, v39, v40, v41, v42, v43, v44, v45, v46, v47, v48, v49, v50, v51, v52, v53, v54, v55, v56, v57, v58, v59, v60, v61, v62, v63, v64, v65], [(.some (.cells [(.int .i64 a0), (.int .i64 b0), (.int .i64 a1), (.int .i64 b1)] 75 .var)), (.some (.cells [(.int .i64 (0)), (.int .i64 (0)), (.int .i64 (0))] 71 .var))], none) :=
  Runs.by (n := 1000) (fid := 53) (os := [.br 53 34 true]) (os' := []) (by kernel_rfl) (ObsOK.cond f1 (ObsOK.nil))
theorem ro2_p0 (v3 v4 v5 v6 v9 v11 v12 v13 v14 v15 v16 v17 v18 v19 v20 v21 v22 v23 v24 v25 v26 v27 v28 v29 v30 v31 v32 v33 v34 v35 v36 v37 v38 v39 v40 v41 v42 v43 v44 v45 v46 v47 v48 v49 v50 v51 v52 v53 v54 v55 v56 v57 v58 v59 v60 v61 v62 v63 v64 v65 : Value) (l n c g b a0 b0 a1 b1 : Int) (f1 : decide (n ≤ l) = false) : Runs Tryz.prog envP 0 [.code (round 0 (bodyOf 53)), .inLoop (round 0 (bodyOf 53)), .inBlock 0] [I l, I g, I b, v3, v4, v5, v6, pt 0 0, pt 1 0, v9, I n, v11, v12, v13, v14, v15, v16, v17, v18, v19, v20, v21, v22, v23, v24, v25, v26, v27, v28, v29, v30, v31, v32, v33, v34, v35, v36, v37, v38, v39, v40, v41, v42, v43, v44, v45, v46, v47, v48, v49, v50, v51, v52, v53, v54, v55, v56, v57, v58, v59, v60, v61, v62, v63, v64, v65] [some (.cells [.int .i64 a0, .int .i64 b0, .int .i64 a1, .int .i64 b1] 75 .var), some (.cells [I 0, I 0, I 0] 71 .var)] ([(.int .i64 l), (.int .i64 g), (.int .i64 b), v3, v4, v5, v6, (.pointer (.some (Go.Addr.mk 0 0 .none))), (.pointer (.some (Go.Addr.mk 1 0 .none))), v9, (.int .i64 n), v11, v12, v13, (.int .i64 n), (.int .i64 l), (.bool (decide (n ≤ l))), v17, v18, v19, v20, v21, v22, v23, v24, v25, v26, v27, v28, v29, v30, v31, v32, v33, v34, v35, v36, v37, v38, v39, v40, v41, v42, v43, v44, v45, v46, v47, v48, v49, v50, v51, v52, v53, v54, v55, v56, v57, v58, v59, v60, v61, v62, v63, v64, v65], [(.some (.cells [(.int .i64 a0), (.int .i64 b0), (.int .i64 a1), (.int .i64 b1)] 75 .var)), (.some (.cells [(.int .i64 (0)), (.int .i64 (0)), (.int .i64 (0))] 71 .var))], none) :=
  Runs.by (n := 1000) (fid := 53) (os := [.br 53 34 false]) (os' := []) (by kernel_rfl) (ObsOK.cond f1 (ObsOK.nil))
theorem ro3_p0 (v3 v4 v5 v6 v9 v11 v12 v13 v14 v15 v16 v17 v18 v19 v20 v21 v22 v23 v24 v25 v26 v27 v28 v29 v30 v31 v32 v33 v34 v35 v36 v37 v38 v39 v40 v41 v42 v43 v44 v45 v46 v47 v48 v49 v50 v51 v52 v53 v54 v55 v56 v57 v58 v59 v60 v61 v62 v63 v64 v65 : Value) (l n c g b a0 b0 a1 b1 : Int) : Runs Tryz.prog envP 0 [.code (dropS 2 (bodyOf 53))] [I l, I g, I b, v3, v4, v5, v6, pt 0 0, pt 1 0, v9, I n, v11, v12, v13, v14, v15, v16, v17, v18, v19, v20, v21, v22, v23, v24, v25, v26, v27, v28, v29, v30, v31, v32, v33, v34, v35, v36, v37, v38, v39, v40, v41, v42, v43, v44, v45, v46, v47, v48, v49, v50, v51, v52, v53, v54, v55, v56, v57, v58, v59, v60, v61, v62, v63, v64, v65] [some (.cells [.int .i64 a0, .int .i64 b0, .int .i64 a1, .int .i64 b1] 75 .var), some (.cells [I 0, I 0, I 0] 71 .var)] ([(.int .i64 l), (.int .i64 g), (.int .i64 b), v3, v4, v5, v6, (.pointer (.some (Go.Addr.mk 0 0 .none))), (.pointer (.some (Go.Addr.mk 1 0 .none))), (.int .i64 (24)), (.int .i64 n), v11, v12, v13, v14, v15, v16, v17, v18, v19, v20, v21, v22, v23, v24, v25, v26, v27, v28, v29, v30, v31, v32, v33, v34, v35, v36, v37, v38, v39, v40, v41, v42, v43, v44, v45, v46, v47, v48, v49, v50, v51, v52, v53, v54, v55, v56, v57, v58, v59, v60, v61, v62, v63, v64, (.agg #[(.int .i64 (0)), (.int .i64 (0)), (.int .i64 (0))])], [(.some (.cells [(.int .i64 a0), (.int .i64 b0), (.int .i64 a1), (.int .i64 b1)] 75 .var)), (.some (.cells [(.int .i64 (0)), (.int .i64 (0)), (.int .i64 (0))] 71 .var))], some .ret) :=
  Runs.by (n := 1000) (fid := 53) (os := []) (os' := []) (by kernel_rfl) (ObsOK.nil)
theorem ro4_p0 (v3 v4 v5 v6 v9 v11 v12 v13 v14 v15 v16 v17 v18 v19 v20 v21 v22 v23 v24 v25 v26 v27 v28 v29 v30 v31 v32 v33 v34 v35 v36 v37 v38 v39 v40 v41 v42 v43 v44 v45 v46 v47 v48 v49 v50 v51 v52 v53 v54 v55 v56 v57 v58 v59 v60 v61 v62 v63 v64 v65 : Value) (l n c g b a0 b0 a1 b1 : Int) : Runs Tryz.prog envP 0 [.code (dropS 2 (round 0 (bodyOf 53)))] [I l, I g, I b, v3, v4, v5, v6, pt 0 0, pt 1 0, v9, I n, v11, v12, v13, v14, v15, v16, v17, v18, v19, v20, v21, v22, v23, v24, v25, v26, v27, v28, v29, v30, v31, v32, v33, v34, v35, v36, v37, v38, v39, v40, v41, v42, v43, v44, v45, v46, v47, v48, v49, v50, v51, v52, v53, v54, v55, v56, v57, v58, v59, v60, v61, v62, v63, v64, v65] [some (.cells [.int .i64 a0, .int .i64 b0, .int .i64 a1, .int .i64 b1] 75 .var), some (.cells [I 0, I 0, I 0] 71 .var)] ([(.int .i64 l), (.int .i64 g), (.int .i64 b), v3, v4, v5, v6, (.pointer (.some (Go.Addr.mk 0 0 .none))), (.pointer (.some (Go.Addr.mk 1 0 .none))), v9, (.int .i64 (IntKind.i64.wrap (n + 1))), v11, v12, v13, v14, v15, v16, (.int .i64 n), (.int .i64 (IntKind.i64.wrap (n + 1))), v19, v20, v21, v22, v23, v24, v25, v26, v27, v28, v29, v30, v31, v32, v33, v34, v35, v36, v37, v38, v39, v40, v41, v42, v43, v44, v45, v46, v47, v48, v49, v50, v51, v52, v53, v54, v55, v56, v57, v58, v59, v60, v61, v62, v63, v64, v65], [(.some (.cells [(.int .i64 a0), (.int .i64 b0), (.int .i64 a1), (.int .i64 b1)] 75 .var)), (.some (.cells [(.int .i64 (0)), (.int .i64 (0)), (.int .i64 (0))] 71 .var))], none) :=
  Runs.by (n := 1000) (fid := 53) (os := []) (os' := []) (by kernel_rfl) (ObsOK.nil)
theorem ri0_p0 (v3 v4 v5 v6 v9 v11 v12 v13 v14 v15 v16 v17 v18 v19 v20 v21 v22 v23 v24 v25 v26 v27 v28 v29 v30 v31 v32 v33 v34 v35 v36 v37 v38 v39 v40 v41 v42 v43 v44 v45 v46 v47 v48 v49 v50 v51 v52 v53 v54 v55 v56 v57 v58 v59 v60 v61 v62 v63 v64 v65 : Value) (l n c g b a0 b0 a1 b1 : Int) : Runs Tryz.prog envP 0 [.code (seqAt 0 (bodyB (seqAt 1 (round 0 (bodyOf 53)))))] [I l, I g, I b, v3, v4, v5, v6, pt 0 0, pt 1 0, v9, I n, v11, v12, v13, v14, v15, v16, v17, v18, v19, v20, v21, v22, v23, v24, v25, v26, v27, v28, v29, v30, v31, v32, v33, v34, v35, v36, v37, v38, v39, v40, v41, v42, v43, v44, v45, v46, v47, v48, v49, v50, v51, v52, v53, v54, v55, v56, v57, v58, v59, v60, v61, v62, v63, v64, v65] [some (.cells [.int .i64 a0, .int .i64 b0, .int .i64 a1, .int .i64 b1] 75 .var), some (.cells [I 0, I 0, I 0] 71 .var)] ([(.int .i64 l), (.int .i64 g), (.int .i64 b), v3, v4, v5, v6, (.pointer (.some (Go.Addr.mk 0 0 .none))), (.pointer (.some (Go.Addr.mk 1 0 .none))), v9, (.int .i64 n), (.int .i64 (0)), v12, v13, v14, v15, v16, v17, v18, v19, v20, v21, v22, v23, v24, v25, v26, v27, v28, v29, v30, v31, v32, v33, v34, v35, v36, v37, v38, v39, v40, v41, v42, v43, v44, v45, v46, v47, v48, v49, v50, v51, v52, v53, v54, v55, v56, v57, v58, v59, v60, v61, v62, v63, v64, v65], [(.some (.cells [(.int .i64 a0), (.int .i64 b0), (.int .i64 a1), (.int .i64 b1)] 75 .var)), (.some (.cells [(.int .i64 (0)), (.int .i64 (0)), (.int .i64 (0))] 71 .var))], none) :=
  Runs.by (n := 1000) (fid := 53) (os := []) (os' := []) (by kernel_rfl) (ObsOK.nil)
theorem riA_p0 (v3 v4 v5 v6 v9 v12 v13 v14 v15 v16 v17 v18 v19 v20 v21 v22 v23 v24 v25 v26 v27 v28 v29 v30 v31 v32 v33 v34 v35 v36 v37 v38 v39 v40 v41 v42 v43 v44 v45 v46 v47 v48 v49 v50 v51 v52 v53 v54 v55 v56 v57 v58 v59 v60 v61 v62 v63 v64 v65 : Value) (l n c g b a0 b0 a1 b1 x0 y0 x1 y1 : Int) (f1 : decide (c < n) = true) (hk : ∀ (lim : Nat) (A : Heap), startsB heapN A = true → Gives Tryz.prog envP lim 48 [.agg #[.int .i64 l, .int .i64 n, .int .i64 c], .int .i64 g, .int .i64 b] A (.agg #[.int .i64 x0, .int .i64 y0, .int .i64 x1, .int .i64 y1], A)) (f2 : decide (IntKind.i64.wrap (x0 * b0) ≤ IntKind.i64.wrap (a0 * y0)) = false) : Runs Tryz.prog envP 0 [.code (round 2 (bodyOf 53))] [I l, I g, I b, v3, v4, v5, v6, pt 0 0, pt 1 0, v9, I n, I c, v12, v13, v14, v15, v16, v17, v18, v19, v20, v21, v22, v23, v24, v25, v26, v27, v28, v29, v30, v31, v32, v33, v34, v35, v36, v37, v38, v39, v40, v41, v42, v43, v44, v45, v46, v47, v48, v49, v50, v51, v52, v53, v54, v55, v56, v57, v58, v59, v60, v61, v62, v63, v64, v65] [some (.cells [.int .i64 a0, .int .i64 b0, .int .i64 a1, .int .i64 b1] 75 .var), some (.cells [I 0, I 0, I 0] 71 .var)] ([(.int .i64 l), (.int .i64 g), (.int .i64 b), v3, v4, v5, v6, (.pointer (.some (Go.Addr.mk 0 0 .none))), (.pointer (.some (Go.Addr.mk 1 0 .none))), v9, (.int .i64 n), (.int .i64 (IntKind.i64.wrap (c + 1))), (.pointer (.some (Go.Addr.mk 2 0 .none))), (.pointer (.some (Go.Addr.mk 3 0 .none))), v14, v15, v16, v17, v18, (.int .i64 c), (.int .i64 n), (.bool (decide (c < n))), (.int .i64 c), (.int .i64 (IntKind.i64.wrap (c + 1))), (.int .i64 l), (.int .i64 n), (.int .i64 c), (.agg #[(.int .i64 l), (.int .i64 n), (.int .i64 c)]), (.agg #[(.int .i64 l), (.int .i64 n), (.int .i64 c)]), (.int .i64 g), (.int .i64 b), (.agg #[(.int .i64 x0), (.int .i64 y0), (.int .i64 x1), (.int .i64 y1)]), (.pointer (.some (Go.Addr.mk 3 0 .none))), (.pointer (.some (Go.Addr.mk 3 0 .none))), (.int .i64 x0), (.pointer (.some (Go.Addr.mk 0 0 .none))), (.pointer (.some (Go.Addr.mk 0 1 .none))), (.int .i64 b0), (.int .i64 (IntKind.i64.wrap (x0 * b0))), (.pointer (.some (Go.Addr.mk 0 0 .none))), (.pointer (.some (Go.Addr.mk 0 0 .none))), (.int .i64 a0), (.pointer (.some (Go.Addr.mk 3 0 .none))), (.pointer (.some (Go.Addr.mk 3 1 .none))), (.int .i64 y0), (.int .i64 (IntKind.i64.wrap (a0 * y0))), (.bool (decide (IntKind.i64.wrap (x0 * b0) ≤ IntKind.i64.wrap (a0 * y0)))), (.bool (decide (IntKind.i64.wrap (x0 * b0) ≤ IntKind.i64.wrap (a0 * y0)))), (undef), (undef), (undef), (undef), (undef), (undef), (undef), (undef), (undef), (undef), (undef), (undef), (undef), (undef), (undef), (.bool false), v64, v65], [(.some (.cells [(.int .i64 a0), (.int .i64 b0), (.int .i64 a1), (.int .i64 b1)] 75 .var)), (.some (.cells [(.int .i64 (0)), (.int .i64 (0)), (.int .i64 (0))] 71 .var)), (.some (.cells [(.int .i64 l), (.int .i64 n), (.int .i64 c)] 71 .var)), (.some (.cells [(.int .i64 x0), (.int .i64 y0), (.int .i64 x1), (.int .i64 y1)] 75 .var))], none) :=
  Runs.by (n := 1000) (fid := 53) (os := [.br 53 44 true, .opw 53 32 (.agg #[(.int .i64 x0), (.int .i64 y0), (.int .i64 x1), (.int .i64 y1)]) [(.some (.cells [(.int .i64 a0), (.int .i64 b0), (.int .i64 a1), (.int .i64 b1)] 75 .var)), (.some (.cells [(.int .i64 (0)), (.int .i64 (0)), (.int .i64 (0))] 71 .var)), (.some (.cells [(.int .i64 l), (.int .i64 n), (.int .i64 c)] 71 .var))], .br 53 96 false, .br 53 96 false, .br 53 96 false, .br 53 96 false, .br 53 96 false, .br 53 96 false, .br 53 96 false, .br 53 96 false, .br 53 96 false, .br 53 96 false, .br 53 96 false, .br 53 96 false, .br 53 96 false, .br 53 96 false, .br 53 96 false, .br 53 129 false]) (os' := []) (by kernel_rfl) (ObsOK.cond f1 (ObsOK.call (hk 0 [(.some (.cells [(.int .i64 a0), (.int .i64 b0), (.int .i64 a1), (.int .i64 b1)] 75 .var)), (.some (.cells [(.int .i64 (0)), (.int .i64 (0)), (.int .i64 (0))] 71 .var)), (.some (.cells [(.int .i64 l), (.int .i64 n), (.int .i64 c)] 71 .var))] (by kernel_rfl)) (ObsOK.cond f2 (ObsOK.cond f2 (ObsOK.cond f2 (ObsOK.cond f2 (ObsOK.cond f2 (ObsOK.cond f2 (ObsOK.cond f2 (ObsOK.cond f2 (ObsOK.cond f2 (ObsOK.cond f2 (ObsOK.cond f2 (ObsOK.cond f2 (ObsOK.cond f2 (ObsOK.cond f2 (ObsOK.cond f2 (ObsOK.cond f2 (ObsOK.nil)))))))))))))))))))
theorem riD_p0 (v3 v4 v5 v6 v9 v12 v13 v14 v15 v16 v17 v18 v19 v20 v21 v22 v23 v24 v25 v26 v27 v28 v29 v30 v31 v32 v33 v34 v35 v36 v37 v38 v39 v40 v41 v42 v43 v44 v45 v46 v47 v48 v49 v50 v51 v52 v53 v54 v55 v56 v57 v58 v59 v60 v61 v62 v63 v64 v65 : Value) (l n c g b a0 b0 a1 b1 x0 y0 x1 y1 : Int) (f1 : decide (c < n) = true) (hk : ∀ (lim : Nat) (A : Heap), startsB heapN A = true → Gives Tryz.prog envP lim 48 [.agg #[.int .i64 l, .int .i64 n, .int .i64 c], .int .i64 g, .int .i64 b] A (.agg #[.int .i64 x0, .int .i64 y0, .int .i64 x1, .int .i64 y1], A)) (f2 : decide (IntKind.i64.wrap (x0 * b0) ≤ IntKind.i64.wrap (a0 * y0)) = true) (f3 : decide (IntKind.i64.wrap (x1 * b1) ≤ IntKind.i64.wrap (a1 * y1)) = false) : Runs Tryz.prog envP 0 [.code (round 2 (bodyOf 53))] [I l, I g, I b, v3, v4, v5, v6, pt 0 0, pt 1 0, v9, I n, I c, v12, v13, v14, v15, v16, v17, v18, v19, v20, v21, v22, v23, v24, v25, v26, v27, v28, v29, v30, v31, v32, v33, v34, v35, v36, v37, v38, v39, v40, v41, v42, v43, v44, v45, v46, v47, v48, v49, v50, v51, v52, v53, v54, v55, v56, v57, v58, v59, v60, v61, v62, v63, v64, v65] [some (.cells [.int .i64 a0, .int .i64 b0, .int .i64 a1, .int .i64 b1] 75 .var), some (.cells [I 0, I 0, I 0] 71 .var)] ([(.int .i64 l), (.int .i64 g), (.int .i64 b), v3, v4, v5, v6, (.pointer (.some (Go.Addr.mk 0 0 .none))), (.pointer (.some (Go.Addr.mk 1 0 .none))), v9, (.int .i64 n), (.int .i64 (IntKind.i64.wrap (c + 1))), (.pointer (.some (Go.Addr.mk 2 0 .none))), (.pointer (.some (Go.Addr.mk 3 0 .none))), v14, v15, v16, v17, v18, (.int .i64 c), (.int .i64 n), (.bool (decide (c < n))), (.int .i64 c), (.int .i64 (IntKind.i64.wrap (c + 1))), (.int .i64 l), (.int .i64 n), (.int .i64 c), (.agg #[(.int .i64 l), (.int .i64 n), (.int .i64 c)]), (.agg #[(.int .i64 l), (.int .i64 n), (.int .i64 c)]), (.int .i64 g), (.int .i64 b), (.agg #[(.int .i64 x0), (.int .i64 y0), (.int .i64 x1), (.int .i64 y1)]), (.pointer (.some (Go.Addr.mk 3 0 .none))), (.pointer (.some (Go.Addr.mk 3 0 .none))), (.int .i64 x0), (.pointer (.some (Go.Addr.mk 0 0 .none))), (.pointer (.some (Go.Addr.mk 0 1 .none))), (.int .i64 b0), (.int .i64 (IntKind.i64.wrap (x0 * b0))), (.pointer (.some (Go.Addr.mk 0 0 .none))), (.pointer (.some (Go.Addr.mk 0 0 .none))), (.int .i64 a0), (.pointer (.some (Go.Addr.mk 3 0 .none))), (.pointer (.some (Go.Addr.mk 3 1 .none))), (.int .i64 y0), (.int .i64 (IntKind.i64.wrap (a0 * y0))), (.bool (decide (IntKind.i64.wrap (x0 * b0) ≤ IntKind.i64.wrap (a0 * y0)))), (.bool (decide (IntKind.i64.wrap (x0 * b0) ≤ IntKind.i64.wrap (a0 * y0)))), (.pointer (.some (Go.Addr.mk 3 2 .none))), (.pointer (.some (Go.Addr.mk 3 2 .none))), (.int .i64 x1), (.pointer (.some (Go.Addr.mk 0 2 .none))), (.pointer (.some (Go.Addr.mk 0 3 .none))), (.int .i64 b1), (.int .i64 (IntKind.i64.wrap (x1 * b1))), (.pointer (.some (Go.Addr.mk 0 2 .none))), (.pointer (.some (Go.Addr.mk 0 2 .none))), (.int .i64 a1), (.pointer (.some (Go.Addr.mk 3 2 .none))), (.pointer (.some (Go.Addr.mk 3 3 .none))), (.int .i64 y1), (.int .i64 (IntKind.i64.wrap (a1 * y1))), (.bool (decide (IntKind.i64.wrap (x1 * b1) ≤ IntKind.i64.wrap (a1 * y1)))), (.bool (decide (IntKind.i64.wrap (x1 * b1) ≤ IntKind.i64.wrap (a1 * y1)))), v64, v65], [(.some (.cells [(.int .i64 a0), (.int .i64 b0), (.int .i64 a1), (.int .i64 b1)] 75 .var)), (.some (.cells [(.int .i64 (0)), (.int .i64 (0)), (.int .i64 (0))] 71 .var)), (.some (.cells [(.int .i64 l), (.int .i64 n), (.int .i64 c)] 71 .var)), (.some (.cells [(.int .i64 x0), (.int .i64 y0), (.int .i64 x1), (.int .i64 y1)] 75 .var))], none) :=
  Runs.by (n := 1000) (fid := 53) (os := [.br 53 44 true, .opw 53 32 (.agg #[(.int .i64 x0), (.int .i64 y0), (.int .i64 x1), (.int .i64 y1)]) [(.some (.cells [(.int .i64 a0), (.int .i64 b0), (.int .i64 a1), (.int .i64 b1)] 75 .var)), (.some (.cells [(.int .i64 (0)), (.int .i64 (0)), (.int .i64 (0))] 71 .var)), (.some (.cells [(.int .i64 l), (.int .i64 n), (.int .i64 c)] 71 .var))], .br 53 96 true, .br 53 96 true, .br 53 96 true, .br 53 96 true, .br 53 96 true, .br 53 96 true, .br 53 96 true, .br 53 96 true, .br 53 96 true, .br 53 96 true, .br 53 96 true, .br 53 96 true, .br 53 96 true, .br 53 96 true, .br 53 96 true, .br 53 129 true, .br 53 128 false]) (os' := []) (by kernel_rfl) (ObsOK.cond f1 (ObsOK.call (hk 0 [(.some (.cells [(.int .i64 a0), (.int .i64 b0), (.int .i64 a1), (.int .i64 b1)] 75 .var)), (.some (.cells [(.int .i64 (0)), (.int .i64 (0)), (.int .i64 (0))] 71 .var)), (.some (.cells [(.int .i64 l), (.int .i64 n), (.int .i64 c)] 71 .var))] (by kernel_rfl)) (ObsOK.cond f2 (ObsOK.cond f2 (ObsOK.cond f2 (ObsOK.cond f2 (ObsOK.cond f2 (ObsOK.cond f2 (ObsOK.cond f2 (ObsOK.cond f2 (ObsOK.cond f2 (ObsOK.cond f2 (ObsOK.cond f2 (ObsOK.cond f2 (ObsOK.cond f2 (ObsOK.cond f2 (ObsOK.cond f2 (ObsOK.cond f2 (ObsOK.cond f3 (ObsOK.nil))))))))))))))))))))
theorem riB_p0 (v3 v4 v5 v6 v9 v12 v13 v14 v15 v16 v17 v18 v19 v20 v21 v22 v23 v24 v25 v26 v27 v28 v29 v30 v31 v32 v33 v34 v35 v36 v37 v38 v39 v40 v41 v42 v43 v44 v45 v46 v47 v48 v49 v50 v51 v52 v53 v54 v55 v56 v57 v58 v59 v60 v61 v62 v63 v64 v65 : Value) (l n c g b a0 b0 a1 b1 x0 y0 x1 y1 : Int) (f1 : decide (c < n) = true) (hk : ∀ (lim : Nat) (A : Heap), startsB heapN A = true → Gives Tryz.prog envP lim 48 [.agg #[.int .i64 l, .int .i64 n, .int .i64 c], .int .i64 g, .int .i64 b] A (.agg #[.int .i64 x0, .int .i64 y0, .int .i64 x1, .int .i64 y1], A)) (f2 : decide (IntKind.i64.wrap (x0 * b0) ≤ IntKind.i64.wrap (a0 * y0)) = true) (f3 : decide (IntKind.i64.wrap (x1 * b1) ≤ IntKind.i64.wrap (a1 * y1)) = true) : Runs Tryz.prog envP 0 [.code (round 2 (bodyOf 53))] [I l, I g, I b, v3, v4, v5, v6, pt 0 0, pt 1 0, v9, I n, I c, v12, v13, v14, v15, v16, v17, v18, v19, v20, v21, v22, v23, v24, v25, v26, v27, v28, v29, v30, v31, v32, v33, v34, v35, v36, v37, v38, v39, v40, v41, v42, v43, v44, v45, v46, v47, v48, v49, v50, v51, v52, v53, v54, v55, v56, v57, v58, v59, v60, v61, v62, v63, v64, v65] [some (.cells [.int .i64 a0, .int .i64 b0, .int .i64 a1, .int .i64 b1] 75 .var), some (.cells [I 0, I 0, I 0] 71 .var)] ([(.int .i64 l), (.int .i64 g), (.int .i64 b), v3, v4, v5, v6, (.pointer (.some (Go.Addr.mk 0 0 .none))), (.pointer (.some (Go.Addr.mk 1 0 .none))), (.int .i64 (0)), (.int .i64 n), (.int .i64 c), (.pointer (.some (Go.Addr.mk 2 0 .none))), (.pointer (.some (Go.Addr.mk 3 0 .none))), v14, v15, v16, v17, v18, (.int .i64 c), (.int .i64 n), (.bool (decide (c < n))), v22, v23, (.int .i64 l), (.int .i64 n), (.int .i64 c), (.agg #[(.int .i64 l), (.int .i64 n), (.int .i64 c)]), (.agg #[(.int .i64 l), (.int .i64 n), (.int .i64 c)]), (.int .i64 g), (.int .i64 b), (.agg #[(.int .i64 x0), (.int .i64 y0), (.int .i64 x1), (.int .i64 y1)]), (.pointer (.some (Go.Addr.mk 3 0 .none))), (.pointer (.some (Go.Addr.mk 3 0 .none))), (.int .i64 x0), (.pointer (.some (Go.Addr.mk 0 0 .none))), (.pointer (.some (Go.Addr.mk 0 1 .none))), (.int .i64 b0), (.int .i64 (IntKind.i64.wrap (x0 * b0))), (.pointer (.some (Go.Addr.mk 0 0 .none))), (.pointer (.some (Go.Addr.mk 0 0 .none))), (.int .i64 a0), (.pointer (.some (Go.Addr.mk 3 0 .none))), (.pointer (.some (Go.Addr.mk 3 1 .none))), (.int .i64 y0), (.int .i64 (IntKind.i64.wrap (a0 * y0))), (.bool (decide (IntKind.i64.wrap (x0 * b0) ≤ IntKind.i64.wrap (a0 * y0)))), (.bool (decide (IntKind.i64.wrap (x0 * b0) ≤ IntKind.i64.wrap (a0 * y0)))), (.pointer (.some (Go.Addr.mk 3 2 .none))), (.pointer (.some (Go.Addr.mk 3 2 .none))), (.int .i64 x1), (.pointer (.some (Go.Addr.mk 0 2 .none))), (.pointer (.some (Go.Addr.mk 0 3 .none))), (.int .i64 b1), (.int .i64 (IntKind.i64.wrap (x1 * b1))), (.pointer (.some (Go.Addr.mk 0 2 .none))), (.pointer (.some (Go.Addr.mk 0 2 .none))), (.int .i64 a1), (.pointer (.some (Go.Addr.mk 3 2 .none))), (.pointer (.some (Go.Addr.mk 3 3 .none))), (.int .i64 y1), (.int .i64 (IntKind.i64.wrap (a1 * y1))), (.bool (decide (IntKind.i64.wrap (x1 * b1) ≤ IntKind.i64.wrap (a1 * y1)))), (.bool (decide (IntKind.i64.wrap (x1 * b1) ≤ IntKind.i64.wrap (a1 * y1)))), (.agg #[(.int .i64 l), (.int .i64 n), (.int .i64 c)]), v65], [(.some (.cells [(.int .i64 a0), (.int .i64 b0), (.int .i64 a1), (.int .i64 b1)] 75 .var)), (.some (.cells [(.int .i64 l), (.int .i64 n), (.int .i64 c)] 71 .var)), (.some (.cells [(.int .i64 l), (.int .i64 n), (.int .i64 c)] 71 .var)), (.some (.cells [(.int .i64 x0), (.int .i64 y0), (.int .i64 x1), (.int .i64 y1)] 75 .var))], some .ret) :=
  Runs.by (n := 1000) (fid := 53) (os := [.br 53 44 true, .opw 53 32 (.agg #[(.int .i64 x0), (.int .i64 y0), (.int .i64 x1), (.int .i64 y1)]) [(.some (.cells [(.int .i64 a0), (.int .i64 b0), (.int .i64 a1), (.int .i64 b1)] 75 .var)), (.some (.cells [(.int .i64 (0)), (.int .i64 (0)), (.int .i64 (0))] 71 .var)), (.some (.cells [(.int .i64 l), (.int .i64 n), (.int .i64 c)] 71 .var))], .br 53 96 true, .br 53 96 true, .br 53 96 true, .br 53 96 true, .br 53 96 true, .br 53 96 true, .br 53 96 true, .br 53 96 true, .br 53 96 true, .br 53 96 true, .br 53 96 true, .br 53 96 true, .br 53 96 true, .br 53 96 true, .br 53 96 true, .br 53 129 true, .br 53 128 true]) (os' := []) (by kernel_rfl) (ObsOK.cond f1 (ObsOK.call (hk 0 [(.some (.cells [(.int .i64 a0), (.int .i64 b0), (.int .i64 a1), (.int .i64 b1)] 75 .var)), (.some (.cells [(.int .i64 (0)), (.int .i64 (0)), (.int .i64 (0))] 71 .var)), (.some (.cells [(.int .i64 l), (.int .i64 n), (.int .i64 c)] 71 .var))] (by kernel_rfl)) (ObsOK.cond f2 (ObsOK.cond f2 (ObsOK.cond f2 (ObsOK.cond f2 (ObsOK.cond f2 (ObsOK.cond f2 (ObsOK.cond f2 (ObsOK.cond f2 (ObsOK.cond f2 (ObsOK.cond f2 (ObsOK.cond f2 (ObsOK.cond f2 (ObsOK.cond f2 (ObsOK.cond f2 (ObsOK.cond f2 (ObsOK.cond f2 (ObsOK.cond f3 (ObsOK.nil))))))))))))))))))))
theorem riC_p0 (v3 v4 v5 v6 v9 v12 v13 v14 v15 v16 v17 v18 v19 v20 v21 v22 v23 v24 v25 v26 v27 v28 v29 v30 v31 v32 v33 v34 v35 v36 v37 v38 v39 v40 v41 v42 v43 v44 v45 v46 v47 v48 v49 v50 v51 v52 v53 v54 v55 v56 v57 v58 v59 v60 v61 v62 v63 v64 v65 : Value) (l n c g b a0 b0 a1 b1 : Int) (f1 : decide (c < n) = false) : Runs Tryz.prog envP 0 [.code (round 2 (bodyOf 53)), .inLoop (round 2 (bodyOf 53)), .inBlock 2] [I l, I g, I b, v3, v4, v5, v6, pt 0 0, pt 1 0, v9, I n, I c, v12, v13, v14, v15, v16, v17, v18, v19, v20, v21, v22, v23, v24, v25, v26, v27, v28, v29, v30, v31, v32, v33, v34, v35, v36, v37, v38, v39, v40, v41, v42, v43, v44, v45, v46, v47, v48, v49, v50, v51, v52, v53, v54, v55, v56, v57, v58, v59, v60, v61, v62, v63, v64, v65] [some (.cells [.int .i64 a0, .int .i64 b0, .int .i64 a1, .int .i64 b1] 75 .var), some (.cells [I 0, I 0, I 0] 71 .var)] ([(.int .i64 l), (.int .i64 g), (.int .i64 b), v3, v4, v5, v6, (.pointer (.some (Go.Addr.mk 0 0 .none))), (.pointer (.some (Go.Addr.mk 1 0 .none))), v9, (.int .i64 n), (.int .i64 c), v12, v13, v14, v15, v16, v17, v18, (.int .i64 c), (.int .i64 n), (.bool (decide (c < n))), v22, v23, v24, v25, v26, v27, v28, v29, v30, v31, v32, v33, v34, v35, v36, v37, v38, v39, v40, v41, v42, v43, v44, v45, v46, v47, v48, v49, v50, v51, v52, v53, v54, v55, v56, v57, v58, v59, v60, v61, v62, v63, v64, v65], [(.some (.cells [(.int .i64 a0), (.int .i64 b0), (.int .i64 a1), (.int .i64 b1)] 75 .var)), (.some (.cells [(.int .i64 (0)), (.int .i64 (0)), (.int .i64 (0))] 71 .var))], none) :=
  Runs.by (n := 1000) (fid := 53) (os := [.br 53 44 false]) (os' := []) (by kernel_rfl) (ObsOK.cond f1 (ObsOK.nil))
end Go.Proofs.YtinkgnklhcjejaaGreat
/-
The search for the smallest plan: the reference's loops.
-/
namespace Go.Proofs.YtinkgnklhcjejaaGreat
open Go Go.Abs
/-- What the reference's search gives. -/
def valR (l : Int) : Option (Nat × Nat) → Value
  | some (n, c) => .tuple #[.agg #[I l, I n, I c], I 0]
  | none => .tuple #[.agg #[I 0, I 0, I 0], I 24]
/-- Slots of no interest: one of bs may hold a bool, no other one does. -/
def rsB (k : Nat) : Bool := [16, 21, 46, 47, 62, 63].elem k
def JF (f : Nat → Value) : Prop := ∀ k, (rsB k = true → freeB (f k) = true) ∧ (rsB k = false → boolB (f k) = false)
inductive JL : Nat → List Value → Prop
  | nil {k : Nat} : JL k []
  | bo {k : Nat} {v : Value} {l : List Value} (hb : rsB k = true) (h : freeB v = true) (t : JL (k + 1) l) : JL k (v :: l)
  | no {k : Nat} {v : Value} {l : List Value} (hb : rsB k = false) (h : boolB v = false) (t : JL (k + 1) l) : JL k (v :: l)
theorem JL.get {k : Nat} {l : List Value} (h : JL k l) : ∀ i, (rsB (k + i) = true → freeB (l.getD i (I 0)) = true) ∧ (rsB (k + i) = false → boolB (l.getD i (I 0)) = false) := by
  induction h with
  | nil => intro i; exact ⟨fun _ => rfl, fun _ => rfl⟩
  | @bo k v l hb hv _ ih =>
    intro i
    cases i with
    | zero => exact ⟨fun _ => hv, fun h => by rw [Nat.add_zero, hb] at h; cases h⟩
    | succ i => have := ih i; rw [show k + 1 + i = k + (i + 1) by omega] at this; exact this
  | @no k v l hb hv _ ih =>
    intro i
    cases i with
    | zero => exact ⟨fun h => (by rw [Nat.add_zero, hb] at h; cases h), fun _ => hv⟩
    | succ i => have := ih i; rw [show k + 1 + i = k + (i + 1) by omega] at this; exact this
theorem JL.fn {l : List Value} (h : JL 0 l) : JF (fun k => l.getD k (I 0)) := fun k => by
  have := h.get k
  rwa [Nat.zero_add] at this
def rs_bO (l g b a0 b0 a1 b1 : Int) (n : Nat) (f : Nat → Value) : List Value := [I l, I g, I b, f 3, f 4, f 5, f 6, pt 0 0, pt 1 0, f 9, I (n : Int), f 11, f 12, f 13, f 14, f 15, f 16, f 17, f 18, f 19, f 20, f 21, f 22, f 23, f 24, f 25, f 26, f 27, f 28, f 29, f 30, f 31, f 32, f 33, f 34, f 35, f 36, f 37, f 38, f 39, f 40, f 41, f 42, f 43, f 44, f 45, f 46, f 47, f 48, f 49, f 50, f 51, f 52, f 53, f 54, f 55, f 56, f 57, f 58, f 59, f 60, f 61, f 62, f 63, f 64, f 65]
def rs_bI (l g b a0 b0 a1 b1 : Int) (n c : Nat) (f : Nat → Value) : List Value := [I l, I g, I b, f 3, f 4, f 5, f 6, pt 0 0, pt 1 0, f 9, I (n : Int), I (c : Int), f 12, f 13, f 14, f 15, f 16, f 17, f 18, f 19, f 20, f 21, f 22, f 23, f 24, f 25, f 26, f 27, f 28, f 29, f 30, f 31, f 32, f 33, f 34, f 35, f 36, f 37, f 38, f 39, f 40, f 41, f 42, f 43, f 44, f 45, f 46, f 47, f 48, f 49, f 50, f 51, f 52, f 53, f 54, f 55, f 56, f 57, f 58, f 59, f 60, f 61, f 62, f 63, f 64, f 65]
def rs_SO (l g b a0 b0 a1 b1 : Int) (n : Nat) (ls : List Value) : Prop := ∃ f : Nat → Value, ls = rs_bO l g b a0 b0 a1 b1 n f ∧ JF f
def rs_SI (l g b a0 b0 a1 b1 : Int) (n c : Nat) (ls : List Value) : Prop := ∃ f : Nat → Value, ls = rs_bI l g b a0 b0 a1 b1 n c f ∧ JF f
theorem rs_SO.mk {l g b a0 b0 a1 b1 : Int} {n : Nat} {ls : List Value} (h : ls = rs_bO l g b a0 b0 a1 b1 n (fun k => ls.getD k (I 0))) (hj : JL 0 ls) : rs_SO l g b a0 b0 a1 b1 n ls := ⟨_, h, hj.fn⟩
theorem rs_SI.mk {l g b a0 b0 a1 b1 : Int} {n c : Nat} {ls : List Value} (h : ls = rs_bI l g b a0 b0 a1 b1 n c (fun k => ls.getD k (I 0))) (hj : JL 0 ls) : rs_SI l g b a0 b0 a1 b1 n c ls := ⟨_, h, hj.fn⟩
set_option maxRecDepth 100000 in
theorem rs_endI {l g b a0 b0 a1 b1 : Int} {v : Value} {n : Nat} (hn : (n : Int) ≤ 1000) (h : ∀ ls, rs_SO l g b a0 b0 a1 b1 (n + 1) ls → EndsF Tryz.prog 0 Tryz.f53 [] v (.code (round 0 (bodyOf 53)) :: .inLoop (round 0 (bodyOf 53)) :: .inBlock 0 :: [.code (dropS 2 (bodyOf 53))]) ls ([] ++ [some (.cells [I a0, I b0, I a1, I b1] 75 .var), some (.cells [I 0, I 0, I 0] 71 .var)])) : ∀ ls, rs_SI l g b a0 b0 a1 b1 n n ls → EndsF Tryz.prog 0 Tryz.f53 [] v (.code (round 2 (bodyOf 53)) :: .inLoop (round 2 (bodyOf 53)) :: .inBlock 2 :: .inBlock 1 :: .code (dropS 2 (round 0 (bodyOf 53))) :: .inLoop (round 0 (bodyOf 53)) :: .inBlock 0 :: [.code (dropS 2 (bodyOf 53))]) ls ([] ++ [some (.cells [I a0, I b0, I a1, I b1] 75 .var), some (.cells [I 0, I 0, I 0] 71 .var)]) := by
  rintro ls ⟨f, rfl, hj⟩
  have hr := riC_p0 (f 3) (f 4) (f 5) (f 6) (f 9) (f 12) (f 13) (f 14) (f 15) (f 16) (f 17) (f 18) (f 19) (f 20) (f 21) (f 22) (f 23) (f 24) (f 25) (f 26) (f 27) (f 28) (f 29) (f 30) (f 31) (f 32) (f 33) (f 34) (f 35) (f 36) (f 37) (f 38) (f 39) (f 40) (f 41) (f 42) (f 43) (f 44) (f 45) (f 46) (f 47) (f 48) (f 49) (f 50) (f 51) (f 52) (f 53) (f 54) (f 55) (f 56) (f 57) (f 58) (f 59) (f 60) (f 61) (f 62) (f 63) (f 64) (f 65) (l) (n) (n) (g) (b) (a0) (b0) (a1) (b1) (decide_eq_false (by omega))
  refine EndsF.run (k := [.code (round 2 (bodyOf 53)), .inLoop (round 2 (bodyOf 53)), .inBlock 2]) (kk := .inBlock 1 :: .code (dropS 2 (round 0 (bodyOf 53))) :: .inLoop (round 0 (bodyOf 53)) :: .inBlock 0 :: [.code (dropS 2 (bodyOf 53))]) prog_ok envP_ok hr ?_
  refine EndsF_inBlock ?_
  have hr2 := ro4_p0 ((f 3)) ((f 4)) ((f 5)) ((f 6)) ((f 9)) ((.int .i64 (n : Int))) ((f 12)) ((f 13)) ((f 14)) ((f 15)) ((f 16)) ((f 17)) ((f 18)) ((.int .i64 (n : Int))) ((.int .i64 (n : Int))) ((.bool (decide ((n : Int) < (n : Int))))) ((f 22)) ((f 23)) ((f 24)) ((f 25)) ((f 26)) ((f 27)) ((f 28)) ((f 29)) ((f 30)) ((f 31)) ((f 32)) ((f 33)) ((f 34)) ((f 35)) ((f 36)) ((f 37)) ((f 38)) ((f 39)) ((f 40)) ((f 41)) ((f 42)) ((f 43)) ((f 44)) ((f 45)) ((f 46)) ((f 47)) ((f 48)) ((f 49)) ((f 50)) ((f 51)) ((f 52)) ((f 53)) ((f 54)) ((f 55)) ((f 56)) ((f 57)) ((f 58)) ((f 59)) ((f 60)) ((f 61)) ((f 62)) ((f 63)) ((f 64)) ((f 65)) (l) (n) (n) (g) (b) (a0) (b0) (a1) (b1)
  rw [wrap_s (by omega)] at hr2
  refine EndsF.run (k := [.code (dropS 2 (round 0 (bodyOf 53)))]) (kk := .inLoop (round 0 (bodyOf 53)) :: .inBlock 0 :: [.code (dropS 2 (bodyOf 53))]) prog_ok envP_ok hr2 ?_
  refine EndsF_again ?_
  exact h _ (rs_SO.mk (by kernel_rfl) (.no rfl rfl (.no rfl rfl (.no rfl rfl (.no rfl ((hj 3).2 rfl) (.no rfl ((hj 4).2 rfl) (.no rfl ((hj 5).2 rfl) (.no rfl ((hj 6).2 rfl) (.no rfl rfl (.no rfl rfl (.no rfl ((hj 9).2 rfl) (.no rfl rfl (.no rfl rfl (.no rfl ((hj 12).2 rfl) (.no rfl ((hj 13).2 rfl) (.no rfl ((hj 14).2 rfl) (.no rfl ((hj 15).2 rfl) (.bo rfl ((hj 16).1 rfl) (.no rfl rfl (.no rfl rfl (.no rfl rfl (.no rfl rfl (.bo rfl rfl (.no rfl ((hj 22).2 rfl) (.no rfl ((hj 23).2 rfl) (.no rfl ((hj 24).2 rfl) (.no rfl ((hj 25).2 rfl) (.no rfl ((hj 26).2 rfl) (.no rfl ((hj 27).2 rfl) (.no rfl ((hj 28).2 rfl) (.no rfl ((hj 29).2 rfl) (.no rfl ((hj 30).2 rfl) (.no rfl ((hj 31).2 rfl) (.no rfl ((hj 32).2 rfl) (.no rfl ((hj 33).2 rfl) (.no rfl ((hj 34).2 rfl) (.no rfl ((hj 35).2 rfl) (.no rfl ((hj 36).2 rfl) (.no rfl ((hj 37).2 rfl) (.no rfl ((hj 38).2 rfl) (.no rfl ((hj 39).2 rfl) (.no rfl ((hj 40).2 rfl) (.no rfl ((hj 41).2 rfl) (.no rfl ((hj 42).2 rfl) (.no rfl ((hj 43).2 rfl) (.no rfl ((hj 44).2 rfl) (.no rfl ((hj 45).2 rfl) (.bo rfl ((hj 46).1 rfl) (.bo rfl ((hj 47).1 rfl) (.no rfl ((hj 48).2 rfl) (.no rfl ((hj 49).2 rfl) (.no rfl ((hj 50).2 rfl) (.no rfl ((hj 51).2 rfl) (.no rfl ((hj 52).2 rfl) (.no rfl ((hj 53).2 rfl) (.no rfl ((hj 54).2 rfl) (.no rfl ((hj 55).2 rfl) (.no rfl ((hj 56).2 rfl) (.no rfl ((hj 57).2 rfl) (.no rfl ((hj 58).2 rfl) (.no rfl ((hj 59).2 rfl) (.no rfl ((hj 60).2 rfl) (.no rfl ((hj 61).2 rfl) (.bo rfl ((hj 62).1 rfl) (.bo rfl ((hj 63).1 rfl) (.no rfl ((hj 64).2 rfl) (.no rfl ((hj 65).2 rfl) .nil)))))))))))))))))))))))))))))))))))))))))))))))))))))))))))))))))))
set_option maxRecDepth 100000 in
theorem rs_A {l g b a0 b0 a1 b1 : Int} {v : Value} {n c : Nat} {x0 y0 x1 y1 : Int} (hn : (n : Int) ≤ 1000) (hc : c < n) (hg : ∀ (lim : Nat) (A : Heap), startsB heapN A = true → Gives Tryz.prog envP lim 48 [.agg #[I l, I n, I c], I g, I b] A (.agg #[I x0, I y0, I x1, I y1], A)) (f2 : decide (IntKind.i64.wrap (x0 * b0) ≤ IntKind.i64.wrap (a0 * y0)) = false) (h : ∀ ls, rs_SI l g b a0 b0 a1 b1 n (c + 1) ls → EndsF Tryz.prog 0 Tryz.f53 [] v (.code (round 2 (bodyOf 53)) :: .inLoop (round 2 (bodyOf 53)) :: .inBlock 2 :: .inBlock 1 :: .code (dropS 2 (round 0 (bodyOf 53))) :: .inLoop (round 0 (bodyOf 53)) :: .inBlock 0 :: [.code (dropS 2 (bodyOf 53))]) ls ([] ++ [some (.cells [I a0, I b0, I a1, I b1] 75 .var), some (.cells [I 0, I 0, I 0] 71 .var)])) : ∀ ls, rs_SI l g b a0 b0 a1 b1 n c ls → EndsF Tryz.prog 0 Tryz.f53 [] v (.code (round 2 (bodyOf 53)) :: .inLoop (round 2 (bodyOf 53)) :: .inBlock 2 :: .inBlock 1 :: .code (dropS 2 (round 0 (bodyOf 53))) :: .inLoop (round 0 (bodyOf 53)) :: .inBlock 0 :: [.code (dropS 2 (bodyOf 53))]) ls ([] ++ [some (.cells [I a0, I b0, I a1, I b1] 75 .var), some (.cells [I 0, I 0, I 0] 71 .var)]) := by
  rintro ls ⟨f, rfl, hj⟩
  have hr := riA_p0 (f 3) (f 4) (f 5) (f 6) (f 9) (f 12) (f 13) (f 14) (f 15) (f 16) (f 17) (f 18) (f 19) (f 20) (f 21) (f 22) (f 23) (f 24) (f 25) (f 26) (f 27) (f 28) (f 29) (f 30) (f 31) (f 32) (f 33) (f 34) (f 35) (f 36) (f 37) (f 38) (f 39) (f 40) (f 41) (f 42) (f 43) (f 44) (f 45) (f 46) (f 47) (f 48) (f 49) (f 50) (f 51) (f 52) (f 53) (f 54) (f 55) (f 56) (f 57) (f 58) (f 59) (f 60) (f 61) (f 62) (f 63) (f 64) (f 65) (l) (n) (c) (g) (b) (a0) (b0) (a1) (b1) (x0) (y0) (x1) (y1) (decide_eq_true (by omega)) (hg) (f2)
  rw [wrap_s (by omega)] at hr
  refine EndsF.round prog_ok envP_ok hr (EndsF.renumS (B := []) (R := [some (.cells [I a0, I b0, I a1, I b1] 75 .var), some (.cells [I 0, I 0, I 0] 71 .var)]) (ids := [0, 1]) (m := [.free, .free, .free, .no, .no, .no, .no, .ren, .ren, .no, .free, .free, .no, .no, .no, .no, .free, .no, .no, .no, .no, .free, .no, .no, .no, .no, .no, .no, .no, .no, .no, .no, .no, .no, .no, .no, .no, .no, .no, .no, .no, .no, .no, .no, .no, .no, .free, .free, .no, .no, .no, .no, .no, .no, .no, .no, .no, .no, .no, .no, .no, .no, .free, .free, .no, .no]) rfl (base_same (X := [some (.cells [I a0, I b0, I a1, I b1] 75 .var), some (.cells [I 0, I 0, I 0] 71 .var), some (.cells [I l, I n, I c] 71 .var), some (.cells [I x0, I y0, I x1, I y1] 75 .var)])) (by intro i hi; simp at hi ⊢; try omega) rfl (of_decide_eq_true (by kernel_rfl)) (.cons rfl (.plain rfl) (.cons rfl (.plain rfl) .nil)) (.free rfl (.free rfl (.free rfl (.no ((hj 3).2 rfl) (.no ((hj 4).2 rfl) (.no ((hj 5).2 rfl) (.no ((hj 6).2 rfl) (.ren rfl (.ren rfl (.no ((hj 9).2 rfl) (.free rfl (.free rfl (.no rfl (.no rfl (.no ((hj 14).2 rfl) (.no ((hj 15).2 rfl) (.free ((hj 16).1 rfl) (.no ((hj 17).2 rfl) (.no ((hj 18).2 rfl) (.no rfl (.no rfl (.free rfl (.no rfl (.no rfl (.no rfl (.no rfl (.no rfl (.no rfl (.no rfl (.no rfl (.no rfl (.no rfl (.no rfl (.no rfl (.no rfl (.no rfl (.no rfl (.no rfl (.no rfl (.no rfl (.no rfl (.no rfl (.no rfl (.no rfl (.no rfl (.no rfl (.free rfl (.free rfl (.no rfl (.no rfl (.no rfl (.no rfl (.no rfl (.no rfl (.no rfl (.no rfl (.no rfl (.no rfl (.no rfl (.no rfl (.no rfl (.no rfl (.free rfl (.free rfl (.no ((hj 64).2 rfl) (.no ((hj 65).2 rfl) .nil)))))))))))))))))))))))))))))))))))))))))))))))))))))))))))))))))) ?_)
  exact h _ (rs_SI.mk (by kernel_rfl) (.no rfl rfl (.no rfl rfl (.no rfl rfl (.no rfl rfl (.no rfl rfl (.no rfl rfl (.no rfl rfl (.no rfl rfl (.no rfl rfl (.no rfl rfl (.no rfl rfl (.no rfl rfl (.no rfl rfl (.no rfl rfl (.no rfl rfl (.no rfl rfl (.bo rfl ((hj 16).1 rfl) (.no rfl rfl (.no rfl rfl (.no rfl rfl (.no rfl rfl (.bo rfl rfl (.no rfl rfl (.no rfl rfl (.no rfl rfl (.no rfl rfl (.no rfl rfl (.no rfl rfl (.no rfl rfl (.no rfl rfl (.no rfl rfl (.no rfl rfl (.no rfl rfl (.no rfl rfl (.no rfl rfl (.no rfl rfl (.no rfl rfl (.no rfl rfl (.no rfl rfl (.no rfl rfl (.no rfl rfl (.no rfl rfl (.no rfl rfl (.no rfl rfl (.no rfl rfl (.no rfl rfl (.bo rfl rfl (.bo rfl rfl (.no rfl rfl (.no rfl rfl (.no rfl rfl (.no rfl rfl (.no rfl rfl (.no rfl rfl (.no rfl rfl (.no rfl rfl (.no rfl rfl (.no rfl rfl (.no rfl rfl (.no rfl rfl (.no rfl rfl (.no rfl rfl (.bo rfl rfl (.bo rfl rfl (.no rfl rfl (.no rfl rfl .nil)))))))))))))))))))))))))))))))))))))))))))))))))))))))))))))))))))
set_option maxRecDepth 100000 in
theorem rs_D {l g b a0 b0 a1 b1 : Int} {v : Value} {n c : Nat} {x0 y0 x1 y1 : Int} (hn : (n : Int) ≤ 1000) (hc : c < n) (hg : ∀ (lim : Nat) (A : Heap), startsB heapN A = true → Gives Tryz.prog envP lim 48 [.agg #[I l, I n, I c], I g, I b] A (.agg #[I x0, I y0, I x1, I y1], A)) (f2 : decide (IntKind.i64.wrap (x0 * b0) ≤ IntKind.i64.wrap (a0 * y0)) = true) (f3 : decide (IntKind.i64.wrap (x1 * b1) ≤ IntKind.i64.wrap (a1 * y1)) = false) (h : ∀ ls, rs_SI l g b a0 b0 a1 b1 n (c + 1) ls → EndsF Tryz.prog 0 Tryz.f53 [] v (.code (round 2 (bodyOf 53)) :: .inLoop (round 2 (bodyOf 53)) :: .inBlock 2 :: .inBlock 1 :: .code (dropS 2 (round 0 (bodyOf 53))) :: .inLoop (round 0 (bodyOf 53)) :: .inBlock 0 :: [.code (dropS 2 (bodyOf 53))]) ls ([] ++ [some (.cells [I a0, I b0, I a1, I b1] 75 .var), some (.cells [I 0, I 0, I 0] 71 .var)])) : ∀ ls, rs_SI l g b a0 b0 a1 b1 n c ls → EndsF Tryz.prog 0 Tryz.f53 [] v (.code (round 2 (bodyOf 53)) :: .inLoop (round 2 (bodyOf 53)) :: .inBlock 2 :: .inBlock 1 :: .code (dropS 2 (round 0 (bodyOf 53))) :: .inLoop (round 0 (bodyOf 53)) :: .inBlock 0 :: [.code (dropS 2 (bodyOf 53))]) ls ([] ++ [some (.cells [I a0, I b0, I a1, I b1] 75 .var), some (.cells [I 0, I 0, I 0] 71 .var)]) := by
  rintro ls ⟨f, rfl, hj⟩
  have hr := riD_p0 (f 3) (f 4) (f 5) (f 6) (f 9) (f 12) (f 13) (f 14) (f 15) (f 16) (f 17) (f 18) (f 19) (f 20) (f 21) (f 22) (f 23) (f 24) (f 25) (f 26) (f 27) (f 28) (f 29) (f 30) (f 31) (f 32) (f 33) (f 34) (f 35) (f 36) (f 37) (f 38) (f 39) (f 40) (f 41) (f 42) (f 43) (f 44) (f 45) (f 46) (f 47) (f 48) (f 49) (f 50) (f 51) (f 52) (f 53) (f 54) (f 55) (f 56) (f 57) (f 58) (f 59) (f 60) (f 61) (f 62) (f 63) (f 64) (f 65) (l) (n) (c) (g) (b) (a0) (b0) (a1) (b1) (x0) (y0) (x1) (y1) (decide_eq_true (by omega)) (hg) (f2) (f3)
  rw [wrap_s (by omega)] at hr
  refine EndsF.round prog_ok envP_ok hr (EndsF.renumS (B := []) (R := [some (.cells [I a0, I b0, I a1, I b1] 75 .var), some (.cells [I 0, I 0, I 0] 71 .var)]) (ids := [0, 1]) (m := [.free, .free, .free, .no, .no, .no, .no, .ren, .ren, .no, .free, .free, .no, .no, .no, .no, .free, .no, .no, .no, .no, .free, .no, .no, .no, .no, .no, .no, .no, .no, .no, .no, .no, .no, .no, .no, .no, .no, .no, .no, .no, .no, .no, .no, .no, .no, .free, .free, .no, .no, .no, .no, .no, .no, .no, .no, .no, .no, .no, .no, .no, .no, .free, .free, .no, .no]) rfl (base_same (X := [some (.cells [I a0, I b0, I a1, I b1] 75 .var), some (.cells [I 0, I 0, I 0] 71 .var), some (.cells [I l, I n, I c] 71 .var), some (.cells [I x0, I y0, I x1, I y1] 75 .var)])) (by intro i hi; simp at hi ⊢; try omega) rfl (of_decide_eq_true (by kernel_rfl)) (.cons rfl (.plain rfl) (.cons rfl (.plain rfl) .nil)) (.free rfl (.free rfl (.free rfl (.no ((hj 3).2 rfl) (.no ((hj 4).2 rfl) (.no ((hj 5).2 rfl) (.no ((hj 6).2 rfl) (.ren rfl (.ren rfl (.no ((hj 9).2 rfl) (.free rfl (.free rfl (.no rfl (.no rfl (.no ((hj 14).2 rfl) (.no ((hj 15).2 rfl) (.free ((hj 16).1 rfl) (.no ((hj 17).2 rfl) (.no ((hj 18).2 rfl) (.no rfl (.no rfl (.free rfl (.no rfl (.no rfl (.no rfl (.no rfl (.no rfl (.no rfl (.no rfl (.no rfl (.no rfl (.no rfl (.no rfl (.no rfl (.no rfl (.no rfl (.no rfl (.no rfl (.no rfl (.no rfl (.no rfl (.no rfl (.no rfl (.no rfl (.no rfl (.no rfl (.free rfl (.free rfl (.no rfl (.no rfl (.no rfl (.no rfl (.no rfl (.no rfl (.no rfl (.no rfl (.no rfl (.no rfl (.no rfl (.no rfl (.no rfl (.no rfl (.free rfl (.free rfl (.no ((hj 64).2 rfl) (.no ((hj 65).2 rfl) .nil)))))))))))))))))))))))))))))))))))))))))))))))))))))))))))))))))) ?_)
  exact h _ (rs_SI.mk (by kernel_rfl) (.no rfl rfl (.no rfl rfl (.no rfl rfl (.no rfl rfl (.no rfl rfl (.no rfl rfl (.no rfl rfl (.no rfl rfl (.no rfl rfl (.no rfl rfl (.no rfl rfl (.no rfl rfl (.no rfl rfl (.no rfl rfl (.no rfl rfl (.no rfl rfl (.bo rfl ((hj 16).1 rfl) (.no rfl rfl (.no rfl rfl (.no rfl rfl (.no rfl rfl (.bo rfl rfl (.no rfl rfl (.no rfl rfl (.no rfl rfl (.no rfl rfl (.no rfl rfl (.no rfl rfl (.no rfl rfl (.no rfl rfl (.no rfl rfl (.no rfl rfl (.no rfl rfl (.no rfl rfl (.no rfl rfl (.no rfl rfl (.no rfl rfl (.no rfl rfl (.no rfl rfl (.no rfl rfl (.no rfl rfl (.no rfl rfl (.no rfl rfl (.no rfl rfl (.no rfl rfl (.no rfl rfl (.bo rfl rfl (.bo rfl rfl (.no rfl rfl (.no rfl rfl (.no rfl rfl (.no rfl rfl (.no rfl rfl (.no rfl rfl (.no rfl rfl (.no rfl rfl (.no rfl rfl (.no rfl rfl (.no rfl rfl (.no rfl rfl (.no rfl rfl (.no rfl rfl (.bo rfl rfl (.bo rfl rfl (.no rfl rfl (.no rfl rfl .nil)))))))))))))))))))))))))))))))))))))))))))))))))))))))))))))))))))
theorem rs_B {l g b a0 b0 a1 b1 : Int} {n c : Nat} {x0 y0 x1 y1 : Int} (hc : c < n) (hg : ∀ (lim : Nat) (A : Heap), startsB heapN A = true → Gives Tryz.prog envP lim 48 [.agg #[I l, I n, I c], I g, I b] A (.agg #[I x0, I y0, I x1, I y1], A)) (f2 : decide (IntKind.i64.wrap (x0 * b0) ≤ IntKind.i64.wrap (a0 * y0)) = true) (f3 : decide (IntKind.i64.wrap (x1 * b1) ≤ IntKind.i64.wrap (a1 * y1)) = true) : ∀ ls, rs_SI l g b a0 b0 a1 b1 n c ls → EndsF Tryz.prog 0 Tryz.f53 [] (valR l (some (n, c))) (.code (round 2 (bodyOf 53)) :: .inLoop (round 2 (bodyOf 53)) :: .inBlock 2 :: .inBlock 1 :: .code (dropS 2 (round 0 (bodyOf 53))) :: .inLoop (round 0 (bodyOf 53)) :: .inBlock 0 :: [.code (dropS 2 (bodyOf 53))]) ls ([] ++ [some (.cells [I a0, I b0, I a1, I b1] 75 .var), some (.cells [I 0, I 0, I 0] 71 .var)]) := by
  rintro ls ⟨f, rfl, hj⟩
  have hr := riB_p0 (f 3) (f 4) (f 5) (f 6) (f 9) (f 12) (f 13) (f 14) (f 15) (f 16) (f 17) (f 18) (f 19) (f 20) (f 21) (f 22) (f 23) (f 24) (f 25) (f 26) (f 27) (f 28) (f 29) (f 30) (f 31) (f 32) (f 33) (f 34) (f 35) (f 36) (f 37) (f 38) (f 39) (f 40) (f 41) (f 42) (f 43) (f 44) (f 45) (f 46) (f 47) (f 48) (f 49) (f 50) (f 51) (f 52) (f 53) (f 54) (f 55) (f 56) (f 57) (f 58) (f 59) (f 60) (f 61) (f 62) (f 63) (f 64) (f 65) (l) (n) (c) (g) (b) (a0) (b0) (a1) (b1) (x0) (y0) (x1) (y1) (decide_eq_true (by omega)) (hg) (f2) (f3)
  exact EndsF.out (k := [.code (round 2 (bodyOf 53))]) (kk := .inLoop (round 2 (bodyOf 53)) :: .inBlock 2 :: .inBlock 1 :: .code (dropS 2 (round 0 (bodyOf 53))) :: .inLoop (round 0 (bodyOf 53)) :: .inBlock 0 :: [.code (dropS 2 (bodyOf 53))]) (X := [_, _, _, _]) prog_ok envP_ok hr (by kernel_rfl)
theorem rs_end {l g b a0 b0 a1 b1 : Int} {n : Nat} (hn : ¬ (n : Int) ≤ l) : ∀ ls, rs_SO l g b a0 b0 a1 b1 n ls → EndsF Tryz.prog 0 Tryz.f53 [] (valR l none) (.code (round 0 (bodyOf 53)) :: .inLoop (round 0 (bodyOf 53)) :: .inBlock 0 :: [.code (dropS 2 (bodyOf 53))]) ls ([] ++ [some (.cells [I a0, I b0, I a1, I b1] 75 .var), some (.cells [I 0, I 0, I 0] 71 .var)]) := by
  rintro ls ⟨f, rfl, hj⟩
  have hr := ro2_p0 (f 3) (f 4) (f 5) (f 6) (f 9) (f 11) (f 12) (f 13) (f 14) (f 15) (f 16) (f 17) (f 18) (f 19) (f 20) (f 21) (f 22) (f 23) (f 24) (f 25) (f 26) (f 27) (f 28) (f 29) (f 30) (f 31) (f 32) (f 33) (f 34) (f 35) (f 36) (f 37) (f 38) (f 39) (f 40) (f 41) (f 42) (f 43) (f 44) (f 45) (f 46) (f 47) (f 48) (f 49) (f 50) (f 51) (f 52) (f 53) (f 54) (f 55) (f 56) (f 57) (f 58) (f 59) (f 60) (f 61) (f 62) (f 63) (f 64) (f 65) (l) (n) (0) (g) (b) (a0) (b0) (a1) (b1) (decide_eq_false hn)
  refine EndsF.run (k := [.code (round 0 (bodyOf 53)), .inLoop (round 0 (bodyOf 53)), .inBlock 0]) (kk := [.code (dropS 2 (bodyOf 53))]) prog_ok envP_ok hr ?_
  have hr2 := ro3_p0 ((f 3)) ((f 4)) ((f 5)) ((f 6)) ((f 9)) ((f 11)) ((f 12)) ((f 13)) ((.int .i64 (n : Int))) ((.int .i64 l)) ((.bool (decide ((n : Int) ≤ l)))) ((f 17)) ((f 18)) ((f 19)) ((f 20)) ((f 21)) ((f 22)) ((f 23)) ((f 24)) ((f 25)) ((f 26)) ((f 27)) ((f 28)) ((f 29)) ((f 30)) ((f 31)) ((f 32)) ((f 33)) ((f 34)) ((f 35)) ((f 36)) ((f 37)) ((f 38)) ((f 39)) ((f 40)) ((f 41)) ((f 42)) ((f 43)) ((f 44)) ((f 45)) ((f 46)) ((f 47)) ((f 48)) ((f 49)) ((f 50)) ((f 51)) ((f 52)) ((f 53)) ((f 54)) ((f 55)) ((f 56)) ((f 57)) ((f 58)) ((f 59)) ((f 60)) ((f 61)) ((f 62)) ((f 63)) ((f 64)) ((f 65)) (l) (n) (0) (g) (b) (a0) (b0) (a1) (b1)
  exact EndsF.out (k := [.code (dropS 2 (bodyOf 53))]) (kk := []) (X := [_, _]) prog_ok envP_ok hr2 (by kernel_rfl)
set_option maxRecDepth 100000 in
theorem rs_begin {l g b a0 b0 a1 b1 : Int} {v : Value} {n : Nat} (hn : (n : Int) ≤ l) (h : ∀ ls, rs_SI l g b a0 b0 a1 b1 n 0 ls → EndsF Tryz.prog 0 Tryz.f53 [] v (.code (round 2 (bodyOf 53)) :: .inLoop (round 2 (bodyOf 53)) :: .inBlock 2 :: .inBlock 1 :: .code (dropS 2 (round 0 (bodyOf 53))) :: .inLoop (round 0 (bodyOf 53)) :: .inBlock 0 :: [.code (dropS 2 (bodyOf 53))]) ls ([] ++ [some (.cells [I a0, I b0, I a1, I b1] 75 .var), some (.cells [I 0, I 0, I 0] 71 .var)])) : ∀ ls, rs_SO l g b a0 b0 a1 b1 n ls → EndsF Tryz.prog 0 Tryz.f53 [] v (.code (round 0 (bodyOf 53)) :: .inLoop (round 0 (bodyOf 53)) :: .inBlock 0 :: [.code (dropS 2 (bodyOf 53))]) ls ([] ++ [some (.cells [I a0, I b0, I a1, I b1] 75 .var), some (.cells [I 0, I 0, I 0] 71 .var)]) := by
  rintro ls ⟨f, rfl, hj⟩
  refine EndsF.cast (show (.code (round 0 (bodyOf 53)) :: .inLoop (round 0 (bodyOf 53)) :: .inBlock 0 :: [.code (dropS 2 (bodyOf 53))] : List It) = .code (dropS 0 (round 0 (bodyOf 53))) :: .inLoop (round 0 (bodyOf 53)) :: .inBlock 0 :: [.code (dropS 2 (bodyOf 53))] from rfl) ?_
  refine EndsF.dropSeq (by kernel_rfl) ?_
  have hr := ro1_p0 (f 3) (f 4) (f 5) (f 6) (f 9) (f 11) (f 12) (f 13) (f 14) (f 15) (f 16) (f 17) (f 18) (f 19) (f 20) (f 21) (f 22) (f 23) (f 24) (f 25) (f 26) (f 27) (f 28) (f 29) (f 30) (f 31) (f 32) (f 33) (f 34) (f 35) (f 36) (f 37) (f 38) (f 39) (f 40) (f 41) (f 42) (f 43) (f 44) (f 45) (f 46) (f 47) (f 48) (f 49) (f 50) (f 51) (f 52) (f 53) (f 54) (f 55) (f 56) (f 57) (f 58) (f 59) (f 60) (f 61) (f 62) (f 63) (f 64) (f 65) (l) (n) (0) (g) (b) (a0) (b0) (a1) (b1) (decide_eq_true hn)
  refine EndsF.run (k := [.code (seqAt 0 (round 0 (bodyOf 53)))]) (kk := .code (dropS 1 (round 0 (bodyOf 53))) :: .inLoop (round 0 (bodyOf 53)) :: .inBlock 0 :: [.code (dropS 2 (bodyOf 53))]) prog_ok envP_ok hr ?_
  refine EndsF.dropSeq (by kernel_rfl) ?_
  refine EndsF_block (B := bodyB (seqAt 1 (round 0 (bodyOf 53)))) (id := 1) (by kernel_rfl) ?_
  refine EndsF.cast (show (.code (bodyB (seqAt 1 (round 0 (bodyOf 53)))) :: .inBlock 1 :: .code (dropS 2 (round 0 (bodyOf 53))) :: .inLoop (round 0 (bodyOf 53)) :: .inBlock 0 :: [.code (dropS 2 (bodyOf 53))] : List It) = .code (dropS 0 (bodyB (seqAt 1 (round 0 (bodyOf 53))))) :: .inBlock 1 :: .code (dropS 2 (round 0 (bodyOf 53))) :: .inLoop (round 0 (bodyOf 53)) :: .inBlock 0 :: [.code (dropS 2 (bodyOf 53))] from rfl) ?_
  refine EndsF.dropSeq (by kernel_rfl) ?_
  have hr2 := ri0_p0 ((f 3)) ((f 4)) ((f 5)) ((f 6)) ((f 9)) ((f 11)) ((f 12)) ((f 13)) ((.int .i64 (n : Int))) ((.int .i64 l)) ((.bool (decide ((n : Int) ≤ l)))) ((f 17)) ((f 18)) ((f 19)) ((f 20)) ((f 21)) ((f 22)) ((f 23)) ((f 24)) ((f 25)) ((f 26)) ((f 27)) ((f 28)) ((f 29)) ((f 30)) ((f 31)) ((f 32)) ((f 33)) ((f 34)) ((f 35)) ((f 36)) ((f 37)) ((f 38)) ((f 39)) ((f 40)) ((f 41)) ((f 42)) ((f 43)) ((f 44)) ((f 45)) ((f 46)) ((f 47)) ((f 48)) ((f 49)) ((f 50)) ((f 51)) ((f 52)) ((f 53)) ((f 54)) ((f 55)) ((f 56)) ((f 57)) ((f 58)) ((f 59)) ((f 60)) ((f 61)) ((f 62)) ((f 63)) ((f 64)) ((f 65)) (l) (n) (0) (g) (b) (a0) (b0) (a1) (b1)
  refine EndsF.run (k := [.code (seqAt 0 (bodyB (seqAt 1 (round 0 (bodyOf 53)))))]) (kk := .code (dropS 1 (bodyB (seqAt 1 (round 0 (bodyOf 53))))) :: .inBlock 1 :: .code (dropS 2 (round 0 (bodyOf 53))) :: .inLoop (round 0 (bodyOf 53)) :: .inBlock 0 :: [.code (dropS 2 (bodyOf 53))]) prog_ok envP_ok hr2 ?_
  refine EndsF.blockLoop (B := (round 2 (bodyOf 53))) (id := 2) (by kernel_rfl) ?_
  exact h _ (rs_SI.mk (by kernel_rfl) (.no rfl rfl (.no rfl rfl (.no rfl rfl (.no rfl ((hj 3).2 rfl) (.no rfl ((hj 4).2 rfl) (.no rfl ((hj 5).2 rfl) (.no rfl ((hj 6).2 rfl) (.no rfl rfl (.no rfl rfl (.no rfl ((hj 9).2 rfl) (.no rfl rfl (.no rfl rfl (.no rfl ((hj 12).2 rfl) (.no rfl ((hj 13).2 rfl) (.no rfl rfl (.no rfl rfl (.bo rfl rfl (.no rfl ((hj 17).2 rfl) (.no rfl ((hj 18).2 rfl) (.no rfl ((hj 19).2 rfl) (.no rfl ((hj 20).2 rfl) (.bo rfl ((hj 21).1 rfl) (.no rfl ((hj 22).2 rfl) (.no rfl ((hj 23).2 rfl) (.no rfl ((hj 24).2 rfl) (.no rfl ((hj 25).2 rfl) (.no rfl ((hj 26).2 rfl) (.no rfl ((hj 27).2 rfl) (.no rfl ((hj 28).2 rfl) (.no rfl ((hj 29).2 rfl) (.no rfl ((hj 30).2 rfl) (.no rfl ((hj 31).2 rfl) (.no rfl ((hj 32).2 rfl) (.no rfl ((hj 33).2 rfl) (.no rfl ((hj 34).2 rfl) (.no rfl ((hj 35).2 rfl) (.no rfl ((hj 36).2 rfl) (.no rfl ((hj 37).2 rfl) (.no rfl ((hj 38).2 rfl) (.no rfl ((hj 39).2 rfl) (.no rfl ((hj 40).2 rfl) (.no rfl ((hj 41).2 rfl) (.no rfl ((hj 42).2 rfl) (.no rfl ((hj 43).2 rfl) (.no rfl ((hj 44).2 rfl) (.no rfl ((hj 45).2 rfl) (.bo rfl ((hj 46).1 rfl) (.bo rfl ((hj 47).1 rfl) (.no rfl ((hj 48).2 rfl) (.no rfl ((hj 49).2 rfl) (.no rfl ((hj 50).2 rfl) (.no rfl ((hj 51).2 rfl) (.no rfl ((hj 52).2 rfl) (.no rfl ((hj 53).2 rfl) (.no rfl ((hj 54).2 rfl) (.no rfl ((hj 55).2 rfl) (.no rfl ((hj 56).2 rfl) (.no rfl ((hj 57).2 rfl) (.no rfl ((hj 58).2 rfl) (.no rfl ((hj 59).2 rfl) (.no rfl ((hj 60).2 rfl) (.no rfl ((hj 61).2 rfl) (.bo rfl ((hj 62).1 rfl) (.bo rfl ((hj 63).1 rfl) (.no rfl ((hj 64).2 rfl) (.no rfl ((hj 65).2 rfl) .nil)))))))))))))))))))))))))))))))))))))))))))))))))))))))))))))))))))
theorem rs_all {l g b a0 b0 a1 b1 : Int} {pr : Nat → Nat → Bool} {X0 Y0 X1 Y1 : Nat → Nat → Int} (hl : l ≤ 1000) (hk : ∀ n c : Nat, c < n → (n : Int) ≤ l → (∀ (lim : Nat) (A : Heap), startsB heapN A = true → Gives Tryz.prog envP lim 48 [.agg #[I l, I n, I c], I g, I b] A (.agg #[I (X0 n c), I (Y0 n c), I (X1 n c), I (Y1 n c)], A)) ∧ pr n c = (decide (IntKind.i64.wrap (X0 n c * b0) ≤ IntKind.i64.wrap (a0 * Y0 n c)) && decide (IntKind.i64.wrap (X1 n c * b1) ≤ IntKind.i64.wrap (a1 * Y1 n c)))) : ∀ d n : Nat, (n : Int) + d = l + 1 → 1 ≤ n → ∀ v, v = valR l (smO pr n d) → ∀ ls, rs_SO l g b a0 b0 a1 b1 n ls → EndsF Tryz.prog 0 Tryz.f53 [] v (.code (round 0 (bodyOf 53)) :: .inLoop (round 0 (bodyOf 53)) :: .inBlock 0 :: [.code (dropS 2 (bodyOf 53))]) ls ([] ++ [some (.cells [I a0, I b0, I a1, I b1] 75 .var), some (.cells [I 0, I 0, I 0] 71 .var)]) := by
  intro d
  induction d with
  | zero =>
    rintro n hn hn1 v rfl
    exact rs_end (by omega)
  | succ d ih =>
    intro n hn hn1 v hv
    have inner : ∀ e c : Nat, c + e = n → ∀ v, v = (match firstP (pr n) c e with | some c' => valR l (some (n, c')) | none => valR l (smO pr (n + 1) d)) → ∀ ls, rs_SI l g b a0 b0 a1 b1 n c ls → EndsF Tryz.prog 0 Tryz.f53 [] v (.code (round 2 (bodyOf 53)) :: .inLoop (round 2 (bodyOf 53)) :: .inBlock 2 :: .inBlock 1 :: .code (dropS 2 (round 0 (bodyOf 53))) :: .inLoop (round 0 (bodyOf 53)) :: .inBlock 0 :: [.code (dropS 2 (bodyOf 53))]) ls ([] ++ [some (.cells [I a0, I b0, I a1, I b1] 75 .var), some (.cells [I 0, I 0, I 0] 71 .var)]) := by
      intro e
      induction e with
      | zero =>
        rintro c hc v rfl
        obtain rfl : c = n := by omega
        exact rs_endI (by omega) (ih (c + 1) (by omega) (by omega) _ rfl)
      | succ e ihe =>
        rintro c hc v hv
        obtain ⟨hg, he⟩ := hk n c (by omega) (by omega)
        cases hp : pr n c with
        | true =>
          rw [hp] at he
          have he2 := Bool.and_eq_true_iff.1 he.symm
          rw [show firstP (pr n) c (e + 1) = some c by simp only [firstP, hp, if_true]] at hv
          subst hv
          exact rs_B (by omega) hg he2.1 he2.2
        | false =>
          rw [hp] at he
          rw [show firstP (pr n) c (e + 1) = firstP (pr n) (c + 1) e by simp only [firstP, hp]; rfl] at hv
          cases h2 : decide (IntKind.i64.wrap (X0 n c * b0) ≤ IntKind.i64.wrap (a0 * Y0 n c)) with
          | false => exact rs_A (by omega) (by omega) hg h2 (ihe (c + 1) (by omega) v hv)
          | true =>
            have h3 : decide (IntKind.i64.wrap (X1 n c * b1) ≤ IntKind.i64.wrap (a1 * Y1 n c)) = false := by rw [h2, Bool.true_and] at he; exact he.symm
            exact rs_D (by omega) (by omega) hg h2 h3 (ihe (c + 1) (by omega) v hv)
    have hv2 : v = (match firstP (pr n) 0 n with | some c' => valR l (some (n, c')) | none => valR l (smO pr (n + 1) d)) := by
      rw [hv]
      show valR l (match firstP (pr n) 0 n with | some c => some (n, c) | none => smO pr (n + 1) d) = _
      cases firstP (pr n) 0 n <;> rfl
    exact rs_begin (by omega) (inner n 0 (by omega) v hv2)
end Go.Proofs.YtinkgnklhcjejaaGreat
/-
The head of the reference's search.
-/
namespace Go.Proofs.YtinkgnklhcjejaaGreat
open Go Go.Abs
theorem rp0_p0 (l g b a0 b0 a1 b1 : Int) : Runs Tryz.prog envP 0 [.code (seqAt 0 (bodyOf 53))] [I l, I g, I b, .agg #[I a0, I b0, I a1, I b1], U, U, U, U, U, U, U, U, U, U, U, U, U, U, U, U, U, U, U, U, U, U, U, U, U, U, U, U, U, U, U, U, U, U, U, U, U, U, U, U, U, U, U, U, U, U, U, U, U, U, U, U, U, U, U, U, U, U, U, U, U, U] [] ([(.int .i64 l), (.int .i64 g), (.int .i64 b), (.agg #[(.int .i64 a0), (.int .i64 b0), (.int .i64 a1), (.int .i64 b1)]), (.tuple #[]), (.tuple #[]), (.tuple #[]), (.pointer (.some (Go.Addr.mk 0 0 .none))), (.pointer (.some (Go.Addr.mk 1 0 .none))), (.int .i64 (0)), (.tuple #[]), (.tuple #[]), (.tuple #[]), (.tuple #[]), (.tuple #[]), (.tuple #[]), (.tuple #[]), (.tuple #[]), (.tuple #[]), (.tuple #[]), (.tuple #[]), (.tuple #[]), (.tuple #[]), (.tuple #[]), (.tuple #[]), (.tuple #[]), (.tuple #[]), (.tuple #[]), (.tuple #[]), (.tuple #[]), (.tuple #[]), (.tuple #[]), (.tuple #[]), (.tuple #[]), (.tuple #[]), (.tuple #[]), (.tuple #[]), (.tuple #[]), (.tuple #[]), (.tuple #[]), (.tuple #[]), (.tuple #[]), (.tuple #[]), (.tuple #[]), (.tuple #[]), (.tuple #[]), (.tuple #[]), (.tuple #[]), (.tuple #[]), (.tuple #[]), (.tuple #[]), (.tuple #[]), (.tuple #[]), (.tuple #[]), (.tuple #[]), (.tuple #[]), (.tuple #[]), (.tuple #[]), (.tuple #[]), (.tuple #[]), (.tuple #[]), (.tuple #[]), (.tuple #[]), (.tuple #[]), (.tuple #[]), (.tuple #[])], [(.some (.cells [(.int .i64 a0), (.int .i64 b0), (.int .i64 a1), (.int .i64 b1)] 75 .var)), (.some (.cells [(.int .i64 (0)), (.int .i64 (0)), (.int .i64 (0))] 71 .var))], none) :=
  Runs.by (n := 1000) (fid := 53) (os := []) (os' := []) (by kernel_rfl) (ObsOK.nil)
theorem rp1_p0 (v3 v4 v5 v6 v9 v10 v11 v12 v13 v14 v15 v16 v17 v18 v19 v20 v21 v22 v23 v24 v25 v26 v27 v28 v29 v30 v31 v32 v33 v34 v35 v36 v37 v38 v39 v40 v41 v42 v43 v44 v45 v46 v47 v48 v49 v50 v51 v52 v53 v54 v55 v56 v57 v58 v59 v60 v61 v62 v63 v64 v65 : Value) (l g b a0 b0 a1 b1 : Int) : Runs Tryz.prog envP 0 [.code (seqAt 0 (seqAt 1 (bodyOf 53)))] [I l, I g, I b, v3, v4, v5, v6, pt 0 0, pt 1 0, v9, v10, v11, v12, v13, v14, v15, v16, v17, v18, v19, v20, v21, v22, v23, v24, v25, v26, v27, v28, v29, v30, v31, v32, v33, v34, v35, v36, v37, v38, v39, v40, v41, v42, v43, v44, v45, v46, v47, v48, v49, v50, v51, v52, v53, v54, v55, v56, v57, v58, v59, v60, v61, v62, v63, v64, v65] [some (.cells [.int .i64 a0, .int .i64 b0, .int .i64 a1, .int .i64 b1] 75 .var), some (.cells [I 0, I 0, I 0] 71 .var)] ([(.int .i64 l), (.int .i64 g), (.int .i64 b), v3, v4, v5, v6, (.pointer (.some (Go.Addr.mk 0 0 .none))), (.pointer (.some (Go.Addr.mk 1 0 .none))), v9, (.int .i64 (1)), v11, v12, v13, v14, v15, v16, v17, v18, v19, v20, v21, v22, v23, v24, v25, v26, v27, v28, v29, v30, v31, v32, v33, v34, v35, v36, v37, v38, v39, v40, v41, v42, v43, v44, v45, v46, v47, v48, v49, v50, v51, v52, v53, v54, v55, v56, v57, v58, v59, v60, v61, v62, v63, v64, v65], [(.some (.cells [(.int .i64 a0), (.int .i64 b0), (.int .i64 a1), (.int .i64 b1)] 75 .var)), (.some (.cells [(.int .i64 (0)), (.int .i64 (0)), (.int .i64 (0))] 71 .var))], none) :=
  Runs.by (n := 1000) (fid := 53) (os := []) (os' := []) (by kernel_rfl) (ObsOK.nil)
end Go.Proofs.YtinkgnklhcjejaaGreat
/-
The search for the smallest plan: what the reference's call gives.
-/
namespace Go.Proofs.YtinkgnklhcjejaaGreat
open Go Go.Abs
theorem eq53 : seqAt 1 (bodyOf 53) = .seq (seqAt 0 (seqAt 1 (bodyOf 53))) (blk 0 (bodyOf 53)) := by kernel_rfl
set_option maxRecDepth 100000 in
theorem says53 {l g b a0 b0 a1 b1 : Int} {X0 Y0 X1 Y1 : Nat → Nat → Int} {pr : Nat → Nat → Bool} (hl0 : 0 ≤ l) (hl : l ≤ 1000) (hk : ∀ n c : Nat, c < n → (n : Int) ≤ l → (∀ (lim : Nat) (A : Heap), startsB heapN A = true → Gives Tryz.prog envP lim 48 [.agg #[I l, I n, I c], I g, I b] A (.agg #[I (X0 n c), I (Y0 n c), I (X1 n c), I (Y1 n c)], A)) ∧ pr n c = (decide (IntKind.i64.wrap (X0 n c * b0) ≤ IntKind.i64.wrap (a0 * Y0 n c)) && decide (IntKind.i64.wrap (X1 n c * b1) ≤ IntKind.i64.wrap (a1 * Y1 n c)))) :
    SaysAt Tryz.prog 0 53 [I l, I g, I b, .agg #[I a0, I b0, I a1, I b1]] [] (valR l (smO pr 1 l.toNat)) [] := by
  refine EndsF.says prog_ok (v := valR l (smO pr 1 l.toNat)) (c := bodyOf 53) Tryz.func53 (by kernel_rfl) (show ¬ Tryz.f53.ntmps < 4 from of_decide_eq_false (by kernel_rfl)) ?_ (fun X => by cases smO pr 1 l.toNat <;> rfl)
  refine EndsF.cast (show ([.code (bodyOf 53)] : List It) = .code (dropS 0 (bodyOf 53)) :: [] by kernel_rfl) ?_
  refine EndsF.dropSeq (by kernel_rfl) ?_
  have hr := rp0_p0 (l) (g) (b) (a0) (b0) (a1) (b1)
  refine EndsF.run (k := [.code (seqAt 0 (bodyOf 53))]) (kk := .code (dropS 1 (bodyOf 53)) :: []) prog_ok envP_ok hr ?_
  refine EndsF.dropSeq (by kernel_rfl) ?_
  refine EndsF.cast (congrArg (fun c => [It.code c, It.code (dropS 2 (bodyOf 53))]) eq53) ?_
  refine EndsF.seq ?_
  have hr2 := rp1_p0 ((.agg #[(.int .i64 a0), (.int .i64 b0), (.int .i64 a1), (.int .i64 b1)])) ((.tuple #[])) ((.tuple #[])) ((.tuple #[])) ((.int .i64 (0))) ((.tuple #[])) ((.tuple #[])) ((.tuple #[])) ((.tuple #[])) ((.tuple #[])) ((.tuple #[])) ((.tuple #[])) ((.tuple #[])) ((.tuple #[])) ((.tuple #[])) ((.tuple #[])) ((.tuple #[])) ((.tuple #[])) ((.tuple #[])) ((.tuple #[])) ((.tuple #[])) ((.tuple #[])) ((.tuple #[])) ((.tuple #[])) ((.tuple #[])) ((.tuple #[])) ((.tuple #[])) ((.tuple #[])) ((.tuple #[])) ((.tuple #[])) ((.tuple #[])) ((.tuple #[])) ((.tuple #[])) ((.tuple #[])) ((.tuple #[])) ((.tuple #[])) ((.tuple #[])) ((.tuple #[])) ((.tuple #[])) ((.tuple #[])) ((.tuple #[])) ((.tuple #[])) ((.tuple #[])) ((.tuple #[])) ((.tuple #[])) ((.tuple #[])) ((.tuple #[])) ((.tuple #[])) ((.tuple #[])) ((.tuple #[])) ((.tuple #[])) ((.tuple #[])) ((.tuple #[])) ((.tuple #[])) ((.tuple #[])) ((.tuple #[])) ((.tuple #[])) ((.tuple #[])) ((.tuple #[])) ((.tuple #[])) ((.tuple #[])) (l) (g) (b) (a0) (b0) (a1) (b1)
  refine EndsF.run (k := [.code (seqAt 0 (seqAt 1 (bodyOf 53)))]) (kk := [.code (blk 0 (bodyOf 53)), .code (dropS 2 (bodyOf 53))]) prog_ok envP_ok hr2 ?_
  refine EndsF.blockLoop (B := (round 0 (bodyOf 53))) (id := 0) (by kernel_rfl) ?_
  exact rs_all hl hk l.toNat 1 (by omega) (by omega) _ rfl _ (rs_SO.mk (by kernel_rfl) (.no rfl rfl (.no rfl rfl (.no rfl rfl (.no rfl rfl (.no rfl rfl (.no rfl rfl (.no rfl rfl (.no rfl rfl (.no rfl rfl (.no rfl rfl (.no rfl rfl (.no rfl rfl (.no rfl rfl (.no rfl rfl (.no rfl rfl (.no rfl rfl (.bo rfl rfl (.no rfl rfl (.no rfl rfl (.no rfl rfl (.no rfl rfl (.bo rfl rfl (.no rfl rfl (.no rfl rfl (.no rfl rfl (.no rfl rfl (.no rfl rfl (.no rfl rfl (.no rfl rfl (.no rfl rfl (.no rfl rfl (.no rfl rfl (.no rfl rfl (.no rfl rfl (.no rfl rfl (.no rfl rfl (.no rfl rfl (.no rfl rfl (.no rfl rfl (.no rfl rfl (.no rfl rfl (.no rfl rfl (.no rfl rfl (.no rfl rfl (.no rfl rfl (.no rfl rfl (.bo rfl rfl (.bo rfl rfl (.no rfl rfl (.no rfl rfl (.no rfl rfl (.no rfl rfl (.no rfl rfl (.no rfl rfl (.no rfl rfl (.no rfl rfl (.no rfl rfl (.no rfl rfl (.no rfl rfl (.no rfl rfl (.no rfl rfl (.no rfl rfl (.bo rfl rfl (.bo rfl rfl (.no rfl rfl (.no rfl rfl .nil)))))))))))))))))))))))))))))))))))))))))))))))))))))))))))))))))))
theorem k48P {l s a g b : Int} (h : (okA l s a g && okA l s a b) = true) (lim : Nat) (A : Heap) (hs : startsB heapN A = true) : Gives Tryz.prog envP lim 48 [.agg #[I l, I s, I a], I g, I b] A (.agg #[I (rN l s a g), I (apD l s a g), I (apN l s a b), I (apD l s a b)], A) :=
  Go.Abs.known_gives ((Env.fam_skip rfl).trans ((kn_skip rfl).trans ((kn_skip rfl).trans ((kn_skip rfl).trans ((kn_skip rfl).trans ((Env.fam_skip rfl).trans ((Env.fam_skip rfl).trans (kn_here (T := heapN) (by show (if (okA l s a g && okA l s a b) = true then _ else none) = _; rw [if_pos h]) rfl rfl hs))))))))
theorem wMul {x y : Int} (h1 : 0 ≤ x) (h2 : x ≤ 155117520) (h3 : 0 ≤ y) (h4 : y ≤ 999999999) : IntKind.i64.wrap (x * y) = x * y := by
  have e1 := Int.mul_nonneg h1 h3
  have e2 := Int.mul_le_mul h2 h4 h3 (show (0 : Int) ≤ 155117520 by omega)
  exact wSmall (by omega) (by omega)
/-- The reference's search finds what the program's does. -/
theorem says53' {l g b a0 b0 a1 b1 : Int} (h : smOK l g b a0 b0 a1 b1) : SaysAt Tryz.prog 0 53 [I l, I g, I b, .agg #[I a0, I b0, I a1, I b1]] [] (valR l (smF l g b a0 b0 a1 b1)) [] := by
  obtain ⟨h1, h2, h3, h4, h5, h6, ⟨r1, r2, r3, r4⟩, ⟨t1, t2, t3, t4⟩⟩ := h
  refine says53 (X0 := fun n c => rN l n c g) (Y0 := fun n c => apD l n c g) (X1 := fun n c => apN l n c b) (Y1 := fun n c => apD l n c b) (by omega) (by omega) fun n c hc hn => ?_
  have o1 : okA l n c g = true := decide_eq_true (by omega)
  have o2 : okA l n c b = true := decide_eq_true (by omega)
  refine ⟨k48P (by rw [o1, o2]; rfl), ?_⟩
  obtain ⟨p1, p2, p3⟩ := ap_bounds h2 o1
  obtain ⟨q1, q2, q3⟩ := ap_bounds h2 o2
  have e := rN_eq h2 o1
  have w1 : IntKind.i64.wrap (rN l n c g * b0) = rN l n c g * b0 := wMul (by omega) (by omega) (by omega) (by omega)
  have w2 : IntKind.i64.wrap (a0 * apD l n c g) = a0 * apD l n c g := by rw [Int.mul_comm]; exact wMul (by omega) (by omega) (by omega) (by omega)
  have w3 : IntKind.i64.wrap (apN l n c b * b1) = apN l n c b * b1 := wMul (by omega) (by omega) (by omega) (by omega)
  have w4 : IntKind.i64.wrap (a1 * apD l n c b) = a1 * apD l n c b := by rw [Int.mul_comm]; exact wMul (by omega) (by omega) (by omega) (by omega)
  show enough l n c g b a0 b0 a1 b1 = (decide (IntKind.i64.wrap (rN l n c g * b0) ≤ IntKind.i64.wrap (a0 * apD l n c g)) && decide (IntKind.i64.wrap (apN l n c b * b1) ≤ IntKind.i64.wrap (a1 * apD l n c b)))
  rw [w1, w2, w3, w4]; rfl
end Go.Proofs.YtinkgnklhcjejaaGreat
/-
Both searches are known to the law.
-/
namespace Go.Proofs.YtinkgnklhcjejaaGreat
open Go Go.Abs
instance {l g b a0 b0 a1 b1 : Int} : Decidable (smOK l g b a0 b0 a1 b1) := by unfold smOK riskR; infer_instance
def B_envR (f : FuncId) (args : List Value) : Option (Heap × Value) :=
  if f == 51 then
    match args with
    | [.int .i64 l, .int .i64 g, .int .i64 b, .agg ⟨[.int .i64 a0, .int .i64 b0, .int .i64 a1, .int .i64 b1]⟩] => if okS l = true then some ([], v4 (slV l g b a0 b0 a1 b1)) else none
    | _ => none
  else if f == 53 then
    match args with
    | [.int .i64 l, .int .i64 g, .int .i64 b, .agg ⟨[.int .i64 a0, .int .i64 b0, .int .i64 a1, .int .i64 b1]⟩] => if smOK l g b a0 b0 a1 b1 then some ([], valR l (smF l g b a0 b0 a1 b1)) else none
    | _ => none
  else none
noncomputable def envR : Env := envQ.with (baseKnown B_envR)
theorem envR_ok : EnvOK Tryz.prog 0 envR := env_base' envQ_ok fun f args H v h => by
  unfold B_envR at h
  split at h
  · rename_i hf
    obtain rfl : f = 51 := by simpa using hf
    split at h
    · split at h
      · rename_i hz
        cases h
        exact ⟨Nat.le_refl _, rfl, SaysAt.of_gives prog_ok envQ_ok (g51 hz)⟩
      · cases h
    · cases h
  split at h
  · rename_i hf
    obtain rfl : f = 53 := by simpa using hf
    split at h
    · split at h
      · rename_i hz
        cases h
        exact ⟨Nat.le_refl _, rfl, says53' hz⟩
      · cases h
    · cases h
  cases h
theorem k51 {l g b a0 b0 a1 b1 : Int} (h : okS l = true) (lim : Nat) (A : Heap) (hs : startsB heapN A = true) : Gives Tryz.prog envR lim 51 [I l, I g, I b, .agg #[I a0, I b0, I a1, I b1]] A (v4 (slV l g b a0 b0 a1 b1), A) :=
  Go.Abs.known_gives (kn_here (T := heapN) (by show (if okS l = true then _ else none) = _; rw [if_pos h]; rfl) rfl rfl hs)
theorem k53 {l g b a0 b0 a1 b1 : Int} (h : smOK l g b a0 b0 a1 b1) (lim : Nat) (A : Heap) (hs : startsB heapN A = true) : Gives Tryz.prog envR lim 53 [I l, I g, I b, .agg #[I a0, I b0, I a1, I b1]] A (valR l (smF l g b a0 b0 a1 b1), A) :=
  Go.Abs.known_gives (kn_here (T := heapN) (by show (if smOK l g b a0 b0 a1 b1 then _ else none) = _; rw [if_pos h]; rfl) rfl (by cases smF l g b a0 b0 a1 b1 <;> rfl) hs)
end Go.Proofs.YtinkgnklhcjejaaGreat
/-
The law on the smallest plan, case by case.
-/
namespace Go.Proofs.YtinkgnklhcjejaaGreat
open Go Go.Abs
theorem ml0_p0 (l g b a0 b0 a1 b1 : Int) (f1 : decide (l > 12) = true) (f2 : decide (l ≤ 30) = true) : Gives Tryz.prog envR 0 6 [I l, .agg #[I g, I b], .agg #[I a0, I b0, I a1, I b1]] [] ((.bool true), []) :=
  Gives.by (n := 1000) (os := [.br 6 34 true, .br 6 34 true, .br 6 41 true, .br 6 42 true]) (os' := []) (by kernel_rfl) (ObsOK.cond f1 (ObsOK.cond f1 (ObsOK.cond f1 (ObsOK.cond f2 (ObsOK.nil)))))
def mE1_c0 (l : Int) (g : Int) (b : Int) (a0 : Int) (b0 : Int) (a1 : Int) (b1 : Int) (x : Int) (y : Int) (z : Int) (e : Int) : Bool := x == 0 && (y == 0 && (z == 0 && true))
theorem mE1_p0 (l g b a0 b0 a1 b1 x y z e : Int) (f1 : decide (l > 12) = false) (hp : ∀ (lim : Nat) (A : Heap), startsB heapN A = true → Gives Tryz.prog envR lim 51 [.int .i64 l, .int .i64 g, .int .i64 b, .agg #[.int .i64 a0, .int .i64 b0, .int .i64 a1, .int .i64 b1]] A (.tuple #[.agg #[.int .i64 x, .int .i64 y, .int .i64 z], .int .i64 e], A)) (q1 : (rcr_r0 l 1 30 != 0) = true) (p1 : (rcr_r0 l 1 30 == 0) = false) (h0 : mE1_c0 l g b a0 b0 a1 b1 x y z e = true) : Gives Tryz.prog envR 0 6 [I l, .agg #[I g, I b], .agg #[I a0, I b0, I a1, I b1]] [] ((.bool (e == rcr_r0 l 1 30)), []) :=
  Gives.by (n := 1000) (os := [.br 6 34 false, .br 6 34 false, .br 6 41 false, .opw 6 30 (.tuple #[(.agg #[(.int .i64 x), (.int .i64 y), (.int .i64 z)]), (.int .i64 e)]) [(.some (.cells [(.int .i64 g), (.int .i64 b)] 26 .var)), (.some (.cells [(.int .i64 a0), (.int .i64 b0), (.int .i64 a1), (.int .i64 b1)] 75 .var))], .br 91 30 true, .br 6 100 false, .br 6 128 true, .br 6 128 true, .br 6 128 true, .br 6 137 true]) (os' := []) (by kernel_rfl) (ObsOK.cond f1 (ObsOK.cond f1 (ObsOK.cond f1 (ObsOK.call (hp 0 [(.some (.cells [(.int .i64 g), (.int .i64 b)] 26 .var)), (.some (.cells [(.int .i64 a0), (.int .i64 b0), (.int .i64 a1), (.int .i64 b1)] 75 .var))] (by kernel_rfl)) (ObsOK.cond q1 (ObsOK.cond p1 (ObsOK.cond h0 (ObsOK.cond h0 (ObsOK.cond h0 (ObsOK.cond h0 (ObsOK.nil)))))))))))
def mG1_c0 (l : Int) (g : Int) (b : Int) (a0 : Int) (b0 : Int) (a1 : Int) (b1 : Int) (x : Int) (y : Int) (z : Int) (e : Int) : Bool := x == 0 && (y == 0 && (z == 0 && true))
theorem mG1_p0 (l g b a0 b0 a1 b1 x y z e : Int) (f1 : decide (l > 12) = true) (f2 : decide (l ≤ 30) = false) (hp : ∀ (lim : Nat) (A : Heap), startsB heapN A = true → Gives Tryz.prog envR lim 51 [.int .i64 l, .int .i64 g, .int .i64 b, .agg #[.int .i64 a0, .int .i64 b0, .int .i64 a1, .int .i64 b1]] A (.tuple #[.agg #[.int .i64 x, .int .i64 y, .int .i64 z], .int .i64 e], A)) (q1 : (rcr_r0 l 1 30 != 0) = true) (p1 : (rcr_r0 l 1 30 == 0) = false) (h0 : mG1_c0 l g b a0 b0 a1 b1 x y z e = true) : Gives Tryz.prog envR 0 6 [I l, .agg #[I g, I b], .agg #[I a0, I b0, I a1, I b1]] [] ((.bool (e == rcr_r0 l 1 30)), []) :=
  Gives.by (n := 1000) (os := [.br 6 34 true, .br 6 34 true, .br 6 41 true, .br 6 42 false, .opw 6 30 (.tuple #[(.agg #[(.int .i64 x), (.int .i64 y), (.int .i64 z)]), (.int .i64 e)]) [(.some (.cells [(.int .i64 g), (.int .i64 b)] 26 .var)), (.some (.cells [(.int .i64 a0), (.int .i64 b0), (.int .i64 a1), (.int .i64 b1)] 75 .var))], .br 91 30 true, .br 6 100 false, .br 6 128 true, .br 6 128 true, .br 6 128 true, .br 6 137 true]) (os' := []) (by kernel_rfl) (ObsOK.cond f1 (ObsOK.cond f1 (ObsOK.cond f1 (ObsOK.cond f2 (ObsOK.call (hp 0 [(.some (.cells [(.int .i64 g), (.int .i64 b)] 26 .var)), (.some (.cells [(.int .i64 a0), (.int .i64 b0), (.int .i64 a1), (.int .i64 b1)] 75 .var))] (by kernel_rfl)) (ObsOK.cond q1 (ObsOK.cond p1 (ObsOK.cond h0 (ObsOK.cond h0 (ObsOK.cond h0 (ObsOK.cond h0 (ObsOK.nil))))))))))))
def mE2_c0 (l : Int) (g : Int) (b : Int) (a0 : Int) (b0 : Int) (a1 : Int) (b1 : Int) (x : Int) (y : Int) (z : Int) (e : Int) : Bool := x == 0 && (y == 0 && (z == 0 && true))
theorem mE2_p0 (l g b a0 b0 a1 b1 x y z e : Int) (f1 : decide (l > 12) = false) (hp : ∀ (lim : Nat) (A : Heap), startsB heapN A = true → Gives Tryz.prog envR lim 51 [.int .i64 l, .int .i64 g, .int .i64 b, .agg #[.int .i64 a0, .int .i64 b0, .int .i64 a1, .int .i64 b1]] A (.tuple #[.agg #[.int .i64 x, .int .i64 y, .int .i64 z], .int .i64 e], A)) (q1 : (rcr_r0 l 1 30 != 0) = false) (q2 : (rcd_r0 l g b != 0) = true) (p2 : (rcd_r0 l g b == 0) = false) (h0 : mE2_c0 l g b a0 b0 a1 b1 x y z e = true) : Gives Tryz.prog envR 0 6 [I l, .agg #[I g, I b], .agg #[I a0, I b0, I a1, I b1]] [] ((.bool (e == rcd_r0 l g b)), []) :=
  Gives.by (n := 1000) (os := [.br 6 34 false, .br 6 34 false, .br 6 41 false, .opw 6 30 (.tuple #[(.agg #[(.int .i64 x), (.int .i64 y), (.int .i64 z)]), (.int .i64 e)]) [(.some (.cells [(.int .i64 g), (.int .i64 b)] 26 .var)), (.some (.cells [(.int .i64 a0), (.int .i64 b0), (.int .i64 a1), (.int .i64 b1)] 75 .var))], .br 91 30 false, .br 91 30 true, .br 6 100 false, .br 6 128 true, .br 6 128 true, .br 6 128 true, .br 6 137 true]) (os' := []) (by kernel_rfl) (ObsOK.cond f1 (ObsOK.cond f1 (ObsOK.cond f1 (ObsOK.call (hp 0 [(.some (.cells [(.int .i64 g), (.int .i64 b)] 26 .var)), (.some (.cells [(.int .i64 a0), (.int .i64 b0), (.int .i64 a1), (.int .i64 b1)] 75 .var))] (by kernel_rfl)) (ObsOK.cond q1 (ObsOK.cond q2 (ObsOK.cond p2 (ObsOK.cond h0 (ObsOK.cond h0 (ObsOK.cond h0 (ObsOK.cond h0 (ObsOK.nil))))))))))))
def mE3_c0 (l : Int) (g : Int) (b : Int) (a0 : Int) (b0 : Int) (a1 : Int) (b1 : Int) (x : Int) (y : Int) (z : Int) (e : Int) : Bool := x == 0 && (y == 0 && (z == 0 && true))
theorem mE3_p0 (l g b a0 b0 a1 b1 x y z e : Int) (f1 : decide (l > 12) = false) (hp : ∀ (lim : Nat) (A : Heap), startsB heapN A = true → Gives Tryz.prog envR lim 51 [.int .i64 l, .int .i64 g, .int .i64 b, .agg #[.int .i64 a0, .int .i64 b0, .int .i64 a1, .int .i64 b1]] A (.tuple #[.agg #[.int .i64 x, .int .i64 y, .int .i64 z], .int .i64 e], A)) (q1 : (rcr_r0 l 1 30 != 0) = false) (q2 : (rcd_r0 l g b != 0) = false) (q3 : (rkE a0 b0 != 0) = true) (p3 : (rkE a0 b0 == 0) = false) (h0 : mE3_c0 l g b a0 b0 a1 b1 x y z e = true) : Gives Tryz.prog envR 0 6 [I l, .agg #[I g, I b], .agg #[I a0, I b0, I a1, I b1]] [] ((.bool (e == rkE a0 b0)), []) :=
  Gives.by (n := 1000) (os := [.br 6 34 false, .br 6 34 false, .br 6 41 false, .opw 6 30 (.tuple #[(.agg #[(.int .i64 x), (.int .i64 y), (.int .i64 z)]), (.int .i64 e)]) [(.some (.cells [(.int .i64 g), (.int .i64 b)] 26 .var)), (.some (.cells [(.int .i64 a0), (.int .i64 b0), (.int .i64 a1), (.int .i64 b1)] 75 .var))], .br 91 30 false, .br 91 30 false, .br 91 30 true, .br 6 100 false, .br 6 128 true, .br 6 128 true, .br 6 128 true, .br 6 137 true]) (os' := []) (by kernel_rfl) (ObsOK.cond f1 (ObsOK.cond f1 (ObsOK.cond f1 (ObsOK.call (hp 0 [(.some (.cells [(.int .i64 g), (.int .i64 b)] 26 .var)), (.some (.cells [(.int .i64 a0), (.int .i64 b0), (.int .i64 a1), (.int .i64 b1)] 75 .var))] (by kernel_rfl)) (ObsOK.cond q1 (ObsOK.cond q2 (ObsOK.cond q3 (ObsOK.cond p3 (ObsOK.cond h0 (ObsOK.cond h0 (ObsOK.cond h0 (ObsOK.cond h0 (ObsOK.nil)))))))))))))
def mE4_c0 (l : Int) (g : Int) (b : Int) (a0 : Int) (b0 : Int) (a1 : Int) (b1 : Int) (x : Int) (y : Int) (z : Int) (e : Int) : Bool := x == 0 && (y == 0 && (z == 0 && true))
theorem mE4_p0 (l g b a0 b0 a1 b1 x y z e : Int) (f1 : decide (l > 12) = false) (hp : ∀ (lim : Nat) (A : Heap), startsB heapN A = true → Gives Tryz.prog envR lim 51 [.int .i64 l, .int .i64 g, .int .i64 b, .agg #[.int .i64 a0, .int .i64 b0, .int .i64 a1, .int .i64 b1]] A (.tuple #[.agg #[.int .i64 x, .int .i64 y, .int .i64 z], .int .i64 e], A)) (q1 : (rcr_r0 l 1 30 != 0) = false) (q2 : (rcd_r0 l g b != 0) = false) (q3 : (rkE a0 b0 != 0) = false) (q4 : (rkE a1 b1 != 0) = true) (p4 : (rkE a1 b1 == 0) = false) (h0 : mE4_c0 l g b a0 b0 a1 b1 x y z e = true) : Gives Tryz.prog envR 0 6 [I l, .agg #[I g, I b], .agg #[I a0, I b0, I a1, I b1]] [] ((.bool (e == rkE a1 b1)), []) :=
  Gives.by (n := 1000) (os := [.br 6 34 false, .br 6 34 false, .br 6 41 false, .opw 6 30 (.tuple #[(.agg #[(.int .i64 x), (.int .i64 y), (.int .i64 z)]), (.int .i64 e)]) [(.some (.cells [(.int .i64 g), (.int .i64 b)] 26 .var)), (.some (.cells [(.int .i64 a0), (.int .i64 b0), (.int .i64 a1), (.int .i64 b1)] 75 .var))], .br 91 30 false, .br 91 30 false, .br 91 30 false, .br 91 30 true, .br 6 100 false, .br 6 128 true, .br 6 128 true, .br 6 128 true, .br 6 137 true]) (os' := []) (by kernel_rfl) (ObsOK.cond f1 (ObsOK.cond f1 (ObsOK.cond f1 (ObsOK.call (hp 0 [(.some (.cells [(.int .i64 g), (.int .i64 b)] 26 .var)), (.some (.cells [(.int .i64 a0), (.int .i64 b0), (.int .i64 a1), (.int .i64 b1)] 75 .var))] (by kernel_rfl)) (ObsOK.cond q1 (ObsOK.cond q2 (ObsOK.cond q3 (ObsOK.cond q4 (ObsOK.cond p4 (ObsOK.cond h0 (ObsOK.cond h0 (ObsOK.cond h0 (ObsOK.cond h0 (ObsOK.nil))))))))))))))
def mE5_c0 (l : Int) (g : Int) (b : Int) (a0 : Int) (b0 : Int) (a1 : Int) (b1 : Int) (x : Int) (y : Int) (z : Int) (e : Int) (u : Int) (v : Int) (w : Int) (d : Int) : Bool := x == u && (y == v && (z == w && true))
theorem mE5_p0 (l g b a0 b0 a1 b1 x y z e u v w d : Int) (f1 : decide (l > 12) = false) (hp : ∀ (lim : Nat) (A : Heap), startsB heapN A = true → Gives Tryz.prog envR lim 51 [.int .i64 l, .int .i64 g, .int .i64 b, .agg #[.int .i64 a0, .int .i64 b0, .int .i64 a1, .int .i64 b1]] A (.tuple #[.agg #[.int .i64 x, .int .i64 y, .int .i64 z], .int .i64 e], A)) (hr : ∀ (lim : Nat) (A : Heap), startsB heapN A = true → Gives Tryz.prog envR lim 53 [.int .i64 l, .int .i64 g, .int .i64 b, .agg #[.int .i64 a0, .int .i64 b0, .int .i64 a1, .int .i64 b1]] A (.tuple #[.agg #[.int .i64 u, .int .i64 v, .int .i64 w], .int .i64 d], A)) (q1 : (rcr_r0 l 1 30 != 0) = false) (q2 : (rcd_r0 l g b != 0) = false) (q3 : (rkE a0 b0 != 0) = false) (q4 : (rkE a1 b1 != 0) = false) (h0 : mE5_c0 l g b a0 b0 a1 b1 x y z e u v w d = true) : Gives Tryz.prog envR 0 6 [I l, .agg #[I g, I b], .agg #[I a0, I b0, I a1, I b1]] [] ((.bool (e == d)), []) :=
  Gives.by (n := 1000) (os := [.br 6 34 false, .br 6 34 false, .br 6 41 false, .opw 6 30 (.tuple #[(.agg #[(.int .i64 x), (.int .i64 y), (.int .i64 z)]), (.int .i64 e)]) [(.some (.cells [(.int .i64 g), (.int .i64 b)] 26 .var)), (.some (.cells [(.int .i64 a0), (.int .i64 b0), (.int .i64 a1), (.int .i64 b1)] 75 .var))], .br 91 30 false, .br 91 30 false, .br 91 30 false, .br 91 30 false, .opw 6 58 (.tuple #[(.agg #[(.int .i64 u), (.int .i64 v), (.int .i64 w)]), (.int .i64 d)]) [(.some (.cells [(.int .i64 g), (.int .i64 b)] 26 .var)), (.some (.cells [(.int .i64 a0), (.int .i64 b0), (.int .i64 a1), (.int .i64 b1)] 75 .var)), (.some (.cells [(.int .i64 x), (.int .i64 y), (.int .i64 z)] 74 .var)), (.some (.cells [(.int .i64 (rcr_r0 l 1 30)), (.int .i64 (rcd_r0 l g b)), (.int .i64 (rkE a0 b0)), (.int .i64 (rkE a1 b1))] 3 .row)), (.some (.cells [(.int .i64 (0)), (.int .i64 (0)), (.int .i64 (0))] 71 .var))], .br 6 128 true, .br 6 128 true, .br 6 128 true, .br 6 137 true]) (os' := []) (by kernel_rfl) (ObsOK.cond f1 (ObsOK.cond f1 (ObsOK.cond f1 (ObsOK.call (hp 0 [(.some (.cells [(.int .i64 g), (.int .i64 b)] 26 .var)), (.some (.cells [(.int .i64 a0), (.int .i64 b0), (.int .i64 a1), (.int .i64 b1)] 75 .var))] (by kernel_rfl)) (ObsOK.cond q1 (ObsOK.cond q2 (ObsOK.cond q3 (ObsOK.cond q4 (ObsOK.call (hr 0 [(.some (.cells [(.int .i64 g), (.int .i64 b)] 26 .var)), (.some (.cells [(.int .i64 a0), (.int .i64 b0), (.int .i64 a1), (.int .i64 b1)] 75 .var)), (.some (.cells [(.int .i64 x), (.int .i64 y), (.int .i64 z)] 74 .var)), (.some (.cells [(.int .i64 (rcr_r0 l 1 30)), (.int .i64 (rcd_r0 l g b)), (.int .i64 (rkE a0 b0)), (.int .i64 (rkE a1 b1))] 3 .row)), (.some (.cells [(.int .i64 (0)), (.int .i64 (0)), (.int .i64 (0))] 71 .var))] (by kernel_rfl)) (ObsOK.cond h0 (ObsOK.cond h0 (ObsOK.cond h0 (ObsOK.cond h0 (ObsOK.nil))))))))))))))
end Go.Proofs.YtinkgnklhcjejaaGreat
/-
The law on the smallest plan is true.
-/
namespace Go.Proofs.YtinkgnklhcjejaaGreat
open Go Go.Abs
theorem eE1 (l : Int) : cl_r0 l = rcr_r0 l 1 30 := by unfold cl_r0; rw [cr_eq, rcr_eq]
/-- The error of what is asked for, as the law has it. -/
theorem slE_eq (l g b a0 b0 a1 b1 : Int) : slE l g b a0 b0 a1 b1 = cond (rcr_r0 l 1 30 != 0) (rcr_r0 l 1 30) (cond (rcd_r0 l g b != 0) (rcd_r0 l g b) (cond (rkE a0 b0 != 0) (rkE a0 b0) (rkE a1 b1))) := by
  unfold slE
  rw [eE1, rcd_eq, ck_eq, ck_eq]
theorem ne_z {x : Int} (h : (x != 0) = true) : (x == 0) = false := by simpa using h
theorem slV_bad {l g b a0 b0 a1 b1 e : Int} (h : slE l g b a0 b0 a1 b1 = e) (he : (e != 0) = true) : slV l g b a0 b0 a1 b1 = (0, 0, 0, e) := by
  unfold slV
  rw [h, if_pos he]
theorem slV_good {l g b a0 b0 a1 b1 : Int} (h : slE l g b a0 b0 a1 b1 = 0) : slV l g b a0 b0 a1 b1 = match smF l g b a0 b0 a1 b1 with
    | some (n, c) => (l, (n : Int), (c : Int), 0)
    | none => (0, 0, 0, 24) := by
  unfold slV
  rw [h]
  rfl
theorem cast_true {l g b a0 b0 a1 b1 : Int} {x : Bool} (h : Gives Tryz.prog envR 0 6 [I l, .agg #[I g, I b], .agg #[I a0, I b0, I a1, I b1]] [] (.bool x, [])) (hx : x = true) : Gives Tryz.prog envR 0 6 [I l, .agg #[I g, I b], .agg #[I a0, I b0, I a1, I b1]] [] (.bool true, []) := by subst hx; exact h
theorem law6 (l g b a0 b0 a1 b1 : Int) : Gives Tryz.prog envR 0 6 [I l, .agg #[I g, I b], .agg #[I a0, I b0, I a1, I b1]] [] (.bool true, []) := by
  by_cases hs : l ≤ 12 ∨ 30 < l
  · have hp := k51 (l := l) (g := g) (b := b) (a0 := a0) (b0 := b0) (a1 := a1) (b1 := b1) (decide_eq_true hs)
    have hE := slE_eq l g b a0 b0 a1 b1
    cases q1 : (rcr_r0 l 1 30 != 0) with
    | true =>
      rw [q1, cond_true] at hE
      rw [slV_bad hE q1] at hp
      by_cases h12 : l > 12
      · exact cast_true (mG1_p0 l g b a0 b0 a1 b1 0 0 0 _ (decide_eq_true h12) (decide_eq_false (by omega)) hp q1 (ne_z q1) rfl) (beq_self_eq_true _)
      · exact cast_true (mE1_p0 l g b a0 b0 a1 b1 0 0 0 _ (decide_eq_false h12) hp q1 (ne_z q1) rfl) (beq_self_eq_true _)
    | false =>
      have hl : 1 ≤ l ∧ l ≤ 30 := cr_zero.1 (by rw [cr_eq, ← rcr_eq]; exact q1)
      have f1 : decide (l > 12) = false := decide_eq_false (by omega)
      rw [q1, cond_false] at hE
      cases q2 : (rcd_r0 l g b != 0) with
      | true =>
        rw [q2, cond_true] at hE
        rw [slV_bad hE q2] at hp
        exact cast_true (mE2_p0 l g b a0 b0 a1 b1 0 0 0 _ f1 hp q1 q2 (ne_z q2) rfl) (beq_self_eq_true _)
      | false =>
        rw [q2, cond_false] at hE
        cases q3 : (rkE a0 b0 != 0) with
        | true =>
          rw [q3, cond_true] at hE
          rw [slV_bad hE q3] at hp
          exact cast_true (mE3_p0 l g b a0 b0 a1 b1 0 0 0 _ f1 hp q1 q2 q3 (ne_z q3) rfl) (beq_self_eq_true _)
        | false =>
          rw [q3, cond_false] at hE
          cases q4 : (rkE a1 b1 != 0) with
          | true =>
            rw [slV_bad hE q4] at hp
            exact cast_true (mE4_p0 l g b a0 b0 a1 b1 0 0 0 _ f1 hp q1 q2 q3 q4 (ne_z q4) rfl) (beq_self_eq_true _)
          | false =>
            rw [eq_zero q4] at hE
            rw [slV_good hE] at hp
            have ok : smOK l g b a0 b0 a1 b1 := sl_ok hs (by rw [eE1]; exact q1) (by rw [← rcd_eq]; exact q2) (by rw [ck_eq]; exact q3) (by rw [ck_eq]; exact q4)
            have hr := k53 ok
            cases hf : smF l g b a0 b0 a1 b1 with
            | none =>
              rw [hf] at hp hr
              exact cast_true (mE5_p0 l g b a0 b0 a1 b1 0 0 0 24 0 0 0 24 f1 hp hr q1 q2 q3 q4 rfl) rfl
            | some x =>
              obtain ⟨n, c⟩ := x
              rw [hf] at hp hr
              exact cast_true (mE5_p0 l g b a0 b0 a1 b1 l n c 0 l n c 0 f1 hp hr q1 q2 q3 q4 (by unfold mE5_c0; simp)) rfl
  · exact ml0_p0 l g b a0 b0 a1 b1 (decide_eq_true (by omega)) (decide_eq_true (by omega))
end Go.Proofs.YtinkgnklhcjejaaGreat
/-
LineSmallest: from the rows to the statement.
-/
namespace Go.Proofs.YtinkgnklhcjejaaGreat.lineSmallest
open Go Go.Abs Go.ChangeShapes Go.WideShapes Go.ChangeAt Go.RowKit

theorem own : ownKnob Tryz.prog.godebug = none := by kernel_rfl
theorem heap0_eq : heap0 = tabRows Tryz.prog Rows.lineSmallestRow.laid 0 := by kernel_rfl
theorem still0 : noOwn heap0 = true := by kernel_rfl
section
variable {H : Type} {enc : TypeId × Value → H} {w : World} {base : Nat} {sp : Nat → Bool} {hd : Bool}
set_option maxRecDepth 100000 in
theorem arg26 {r : Reach} {b0 : Nat} {v : Value} {d : DataW H} {p : List MemPlace} (hv : Value.okWide Tryz.prog w r b0 26 v) (h : DataW.Trod enc Tryz.prog w base sp hd 26 v d p) :
    p = [] ∧ ∃ a0 a1 : Int, v = .agg #[.int .i64 a0, .int .i64 a1] := by
  obtain ⟨fuel, h⟩ := h
  simp only [Value.okWide, Tryz.underlying26] at hv
  obtain ⟨cs, rfl, _, _⟩ := hv
  obtain ⟨hi, hp⟩ := flat_of 9 26 [.i64, .i64] fuel _ _ (by kernel_rfl) h
  refine ⟨hp, ?_⟩
  simp only [Value.cells] at hi
  obtain ⟨a0, l0, e0, _, hi⟩ := hi.inv
  obtain ⟨a1, l1, e1, _, hi⟩ := hi.inv
  have ee := hi.end
  refine ⟨a0, a1, ?_⟩
  rw [← Array.toList_inj.1 (show cs.toList = (#[.int .i64 a0, .int .i64 a1] : Array Value).toList from by rw [e0, e1, ee])]
set_option maxRecDepth 100000 in
theorem arg75 {r : Reach} {b0 : Nat} {v : Value} {d : DataW H} {p : List MemPlace} (hv : Value.okWide Tryz.prog w r b0 75 v) (h : DataW.Trod enc Tryz.prog w base sp hd 75 v d p) :
    p = [] ∧ ∃ a0 a1 a2 a3 : Int, v = .agg #[.int .i64 a0, .int .i64 a1, .int .i64 a2, .int .i64 a3] := by
  obtain ⟨fuel, h⟩ := h
  simp only [Value.okWide, Tryz.underlying75] at hv
  obtain ⟨cs, rfl, _, _⟩ := hv
  obtain ⟨hi, hp⟩ := flat_of 9 75 [.i64, .i64, .i64, .i64] fuel _ _ (by kernel_rfl) h
  refine ⟨hp, ?_⟩
  simp only [Value.cells] at hi
  obtain ⟨a0, l0, e0, _, hi⟩ := hi.inv
  obtain ⟨a1, l1, e1, _, hi⟩ := hi.inv
  obtain ⟨a2, l2, e2, _, hi⟩ := hi.inv
  obtain ⟨a3, l3, e3, _, hi⟩ := hi.inv
  have ee := hi.end
  refine ⟨a0, a1, a2, a3, ?_⟩
  rw [← Array.toList_inj.1 (show cs.toList = (#[.int .i64 a0, .int .i64 a1, .int .i64 a2, .int .i64 a3] : Array Value).toList from by rw [e0, e1, e2, e3, ee])]
end
theorem calls (x0 x1 x2 x3 x4 x5 x6 : Int) (W : World) (hL : laidMetH Tryz.prog Rows.lineSmallestRow.laid W) :
    Calls Tryz.prog 6 #[.int .i64 x0, .agg #[.int .i64 x1, .int .i64 x2], .agg #[.int .i64 x3, .int .i64 x4, .int .i64 x5, .int .i64 x6]] W fun e w' =>
      e = .returned (.bool true) ∧ (w'.os = W.os ∧ w'.output = W.output) ∧ ∀ b, b < W.heap.size → w'.heap[b]? = W.heap[b]? := by
  obtain ⟨n, hn⟩ := law6 x0 x1 x2 x3 x4 x5 x6
  have hl : laidMet Tryz.prog Rows.lineSmallestRow.laid W := by rw [← MakeChecks.laidMetH_plain _ _ _ (by kernel_rfl)]; exact hL
  have hR : Rel Tryz.prog (tabLoc 0) heap0 W := by rw [heap0_eq]; exact tabRows_rel hl
  have hb : ∃ cd, Tryz.f6.body = some cd := ⟨_, rfl⟩
  obtain ⟨cd, hb⟩ := hb
  have hargs : VRs (tabLoc 0) [.int .i64 x0, .agg #[.int .i64 x1, .int .i64 x2], .agg #[.int .i64 x3, .int .i64 x4, .int .i64 x5, .int .i64 x6]] [.int .i64 x0, .agg #[.int .i64 x1, .int .i64 x2], .agg #[.int .i64 x3, .int .i64 x4, .int .i64 x5, .int .i64 x6]] := VRs.cons (VR.refl _ rfl) (VRs.cons (VR.refl _ rfl) (VRs.cons (VR.refl _ rfl) (VRs.nil _)))
  refine (calls_of (call_sound prog_ok envR_ok n) prog_ok Tryz.func6 hb hn hargs (tabLoc_globs 0) hR still0).mono ?_
  rintro e w' ⟨v', ρ', rfl, hv, _, hm, hs⟩
  rw [hv.atom_eq rfl]
  exact ⟨rfl, hm.out, hs⟩
theorem reads_ok : Reads Tryz.prog := ⟨by kernel_rfl, by kernel_rfl, by kernel_rfl⟩
theorem len_3 {α : Type} {l : List α} (h : l.length = 3) : ∃ y0 y1 y2 : α, l = [y0, y1, y2] := by
  match l, h with
  | [y0, y1, y2], _ => exact ⟨y0, y1, y2, rfl⟩

set_option maxRecDepth 100000 in
theorem contract (H : Type) (enc : TypeId × Value → H) (W : World) (base : Nat) (args : Array Value) (ds gs : List (DataW H)) (before : List MemPlace)
    (hval : ∀ (j : Nat) t v, Tryz.f6.params[j]? = some t → args[j]? = some v → Value.okWide Tryz.prog W .any base t v)
    (hW : DataW.Whole enc Tryz.prog Tryz.f6.params.toList Rows.lineSmallestSpec.vars false W args.toList ds gs before) (hL : laidMetH Tryz.prog Rows.lineSmallestRow.laid W) :
    Calls Tryz.prog 6 args W fun e W' => ∃ v, e = .returned v ∧ Rows.lineSmallestSpec.post enc Tryz.prog Tryz.f6 false true false false W args v W' := by
  have hW' := hW
  obtain ⟨p, q, hA, hV, rfl, hfz, hnd⟩ := hW
  have hA0 : DataW.TrodAll enc Tryz.prog W 0 (fun _ => true) true Tryz.f6.params.toList args.toList ds p := hA
  rw [Tryz.params6] at hA0 hval
  obtain ⟨v0, vs0, d0, ds0, p0, q0, hargs0, rfl, rfl, h0, r0⟩ := trodAll_cons hA0
  obtain ⟨v1, vs1, d1, ds1, p1, q1, hargs1, rfl, rfl, h1, r1⟩ := trodAll_cons r0
  obtain ⟨v2, vs2, d2, ds2, p2, q2, hargs2, rfl, rfl, h2, r2⟩ := trodAll_cons r1
  obtain ⟨rfl, rfl, rfl⟩ := trodAll_nil r2
  obtain rfl : args = #[v0, v1, v2] := by cases args; simp_all
  obtain ⟨x0, rfl, _, _, _⟩ := open_int Tryz.underlying3 (hval 0 3 v0 rfl rfl) h0
  obtain ⟨_, x1, x2, rfl⟩ := arg26 (hval 1 26 v1 rfl rfl) h1
  obtain ⟨_, x3, x4, x5, x6, rfl⟩ := arg75 (hval 2 75 v2 rfl rfl) h2
  refine (calls x0 x1 x2 x3 x4 x5 x6 W hL).mono fun e W' hr => ?_
  obtain ⟨rfl, ho, hb⟩ := hr
  refine ⟨_, rfl, law_post (bt := 4) reads_ok rfl (fun ds hl => ?_) (by kernel_rfl) Tryz.underlying4 (by kernel_rfl) hW' ho hb⟩
  rw [show Tryz.f6.params.size = 3 by kernel_rfl] at hl
  obtain ⟨y0, y1, y2, rfl⟩ := len_3 hl
  rfl
end Go.Proofs.YtinkgnklhcjejaaGreat.lineSmallest
/-
LineSmallest of the package wooferlaw09 returns true for every input, whatever the world: proved for all arguments, without conditions but those that the row names.
-/
namespace Go.Proofs.YtinkgnklhcjejaaGreat.lineSmallest
open Go Go.Abs Go.ChangeShapes Go.WideShapes Go.ChangeAt Go.RowKit

/-- The settled world, the tables laid. -/
noncomputable def putTab (A : Heap) (w : World) : World :=
  { w with heap := ((List.range 0).foldl (fun h g => match hget A g with
      | some (.cells cs _ _) => h.modify g fun
        | .cells _ t frozen => .cells cs.toArray t frozen
        | o => o
      | _ => h) w.heap) }
noncomputable def laidWorld (os : Os) : World := putTab heap0 (World.holding Tryz.prog os ⟨#[], #[], []⟩)
theorem laid_met (os : Os) : laidMet Tryz.prog Rows.lineSmallestRow.laid ((laidWorld os).forCall (fun _ _ => 0) ⟨#[], #[.int .i64 0, .agg #[.int .i64 0, .int .i64 0], .agg #[.int .i64 0, .int .i64 0, .int .i64 0, .int .i64 0]], []⟩).memory :=
  laidMet_of_run' 8 (by kernel_rfl) (by kernel_rfl)
theorem reads (os : Os) {H : Type} (enc : TypeId × Value → H) : ∃ places, DataW.whole enc Tryz.prog ((laidWorld os).forCall (fun _ _ => 0) ⟨#[], #[.int .i64 0, .agg #[.int .i64 0, .int .i64 0], .agg #[.int .i64 0, .int .i64 0, .int .i64 0, .int .i64 0]], []⟩).memory Tryz.f6.params.toList Rows.lineSmallestSpec.vars false (#[.int .i64 0, .agg #[.int .i64 0, .int .i64 0], .agg #[.int .i64 0, .int .i64 0, .int .i64 0, .int .i64 0]] : Array Value).toList 8 = some ([.lit (.int .i64 0), .agg [.lit (.int .i64 0), .lit (.int .i64 0)], .agg [.agg [.lit (.int .i64 0), .lit (.int .i64 0)], .agg [.lit (.int .i64 0), .lit (.int .i64 0)]]], [], places) :=
  ⟨[], by kernel_rfl⟩

set_option maxRecDepth 100000 in
theorem lifted (os : Os) (started : os.Started) (H : Type) (enc : TypeId × Value → H) (F : Stop.Interp) :
    ReturnsInHanded {} Tryz.checked os 6 .any ((OpenSpec.ofChange Rows.lineSmallestSpec).preRow enc Tryz.prog Tryz.f6 Rows.lineSmallestRow.domain false Rows.lineSmallestRow.laid) (((OpenSpec.ofChange Rows.lineSmallestSpec).at F).post enc Tryz.prog Tryz.f6 false true false false) := by
  obtain ⟨places, hx⟩ := reads os enc
  refine returnsInHanded_of_row (C := Tryz.checked) (s := OpenSpec.ofChange Rows.lineSmallestSpec) own started (by kernel_rfl) Tryz.func6
    (witness_row_at (enc := enc) (C := Tryz.checked) false (laidWorld os) #[.int .i64 0, .agg #[.int .i64 0, .int .i64 0], .agg #[.int .i64 0, .int .i64 0, .int .i64 0, .int .i64 0]] rfl (by kernel_rfl) (by kernel_rfl) (by kernel_rfl)
      (OpenSpec.preRow_of_cond 8 hx (by kernel_rfl) (fun k hk => by cases hk) (by kernel_rfl) (laid_met os))) ?_
  intro W base args ds gs before hval hW _ _ _ hL _ _
  exact contract H enc W base args ds gs before hval hW hL

theorem said : Rows.LineSmallestSaid :=
  OpenClaim.holds_of_cond 6 Tryz.f6 rfl rfl rfl rfl rfl rfl rfl ⟨rfl, rfl, rfl, rfl, rfl⟩ rfl rfl rfl rfl rfl (by kernel_rfl) Tryz.func6 (by kernel_rfl)
    (of_decide_eq_true (by kernel_rfl)) (by unfold Func.isWrapper; first | (rw [if_pos (by decide +kernel)]; kernel_rfl) | (rw [if_neg (by decide +kernel)]; exact ⟨rfl, rfl⟩))
    (fun os started H enc _ F => by rw [OpenClaim.pre_eq_preRow]; exact lifted os started H enc F)

end Go.Proofs.YtinkgnklhcjejaaGreat.lineSmallest
