/-
Joined: Fm.
-/
import Derived.Test.YtkndhhnjgpialaaGreatDoorMb7
set_option linter.unusedVariables false
set_option linter.unusedSimpArgs false
set_option linter.unusedSectionVars false
/-
Qualities, and what two resonances tell.
-/
namespace Go.Proofs.YtkndhhnjgpialaaGreatDoor
open Go Go.Abs
theorem ofInt_nat {x : Int} (h : 0 ≤ x) (h' : x < 18446744073709551616) : (BitVec.ofInt 64 x).toNat = x.toNat := by
  rw [BitVec.toNat_ofInt, Int.emod_eq_of_lt h (by omega)]
theorem and_small {x : Int} (h : 0 ≤ x ∧ x < 4294967296) : ((BitVec.ofInt IntKind.u64.bits x &&& BitVec.ofInt IntKind.u64.bits 4294967295).toNat : Int) = x := by
  have hb : IntKind.u64.bits = 64 := rfl
  rw [hb, BitVec.toNat_and, ofInt_nat h.1 (by omega), ofInt_nat (by omega) (by omega)]
  have h2 : (4294967295 : Int).toNat = 2 ^ 32 - 1 := by decide
  rw [h2, Nat.and_two_pow_sub_one_eq_mod, Nat.mod_eq_of_lt (by omega)]
  omega
theorem uSmall {x : Int} (h : 0 ≤ x) (h' : x < 18446744073709551616) : IntKind.u64.wrap x = x := by
  unfold IntKind.wrap
  simp only [IntKind.bits, IntKind.signed, Bool.false_and, Bool.false_eq_true, if_false]
  have h1 : (2 ^ 64 : Int) = 18446744073709551616 := by decide
  rw [h1]
  exact Int.emod_eq_of_lt h h'
theorem fdiv_small {x : Int} (h : 0 ≤ x) (h' : x < 4294967296) : x.fdiv 4294967296 = 0 := by
  rw [Int.fdiv_eq_ediv_of_nonneg _ (by omega)]; omega
theorem mul_small {x y : Int} (hx : 1 ≤ x ∧ x ≤ 10000) (hy : 1 ≤ y ∧ y ≤ 10000) : 0 ≤ x * y ∧ x * y ≤ 100000000 := by
  have := mulB (x := x) (y := y) (a := 10000) (b := 10000) (by omega) (by omega)
  have h0 : 0 ≤ x * y := Int.mul_nonneg (by omega) (by omega)
  omega
theorem hi_small {x y : Int} (hx : 1 ≤ x ∧ x ≤ 10000) (hy : 1 ≤ y ∧ y ≤ 10000) : f154_r0 x y = 0 := by
  have hm := mul_small hx hy
  have z0 : IntKind.u64.wrap 0 = 0 := by decide
  unfold f154_r0
  simp only [and_small (x := x) (by omega), and_small (x := y) (by omega), fdiv_small (x := x) (by omega) (by omega), fdiv_small (x := y) (by omega) (by omega), uSmall (x := x) (by omega) (by omega), uSmall (x := y) (by omega) (by omega), uSmall (x := x * y) (by omega) (by omega), fdiv_small (x := x * y) (by omega) (by omega), Int.zero_mul, Int.mul_zero, z0, Int.add_zero, Int.zero_add, and_small (x := 0) (by omega), fdiv_small (x := 0) (by omega) (by omega)]
theorem lo_small {x y : Int} (hx : 1 ≤ x ∧ x ≤ 10000) (hy : 1 ≤ y ∧ y ≤ 10000) : f154_r1 x y = x * y := by
  have hm := mul_small hx hy
  exact uSmall (by omega) (by omega)
theorem cmp_small {a b c d : Int} (h1 : okT a b = true) (h2 : okT c d = true) : decide (f115_r0 a b c d ≤ 0) = decide (a * d ≤ c * b) := by
  have h1 := of_decide_eq_true h1
  have h2 := of_decide_eq_true h2
  unfold f115_r0 f115_c0 f115_c1
  simp only [uSmall (x := a) (by omega) (by omega), uSmall (x := b) (by omega) (by omega), uSmall (x := c) (by omega) (by omega), uSmall (x := d) (by omega) (by omega), hi_small h1.1 h2.2, hi_small h2.1 h1.2, lo_small h1.1 h2.2, lo_small h2.1 h1.2]
  unfold f156_r0 f156_c0 f156_c1
  simp only [cond_dec]
  generalize a * d = x
  generalize c * b = y
  rw [Bool.eq_iff_iff, decide_eq_true_iff, decide_eq_true_iff]
  by_cases h3 : x < y
  · simp [h3] <;> omega
  · by_cases h4 : x > y
    · simp [h3, h4] <;> omega
    · simp [h3, h4] <;> omega
theorem w113 {p n d : Int} (h : okL (sqP p n) (sqQ d) = true) : ∀ (lim : Nat) (A : Heap), startsB heapN A = true → Gives Tryz.prog envFk lim 113 [.int .i64 p, .int .i64 n, .int .i64 d] A (.agg #[.int .i64 (lowN (sqP p n) (sqQ d)), .int .i64 (lowD (sqP p n) (sqQ d))], A) := fun lim A hs =>
  known_gives (H := heapN) (by show (if okL (sqP p n) (sqQ d) = true then _ else none) = _; rw [if_pos h]) rfl rfl hs
theorem w107 {p q : Int} (h : okL p q = true) : ∀ (lim : Nat) (A : Heap), startsB heapN A = true → Gives Tryz.prog envFk lim 107 [.agg #[.int .i64 p, .int .i64 q]] A (.agg #[.int .i64 (lowN p q), .int .i64 (lowD p q)], A) := fun lim A hs => known_of (show envL.known lim 107 _ A = _ from k107 h hs)
theorem w110 {p q : Int} (h : okL p q = true) : ∀ (lim : Nat) (A : Heap), startsB heapN A = true → Gives Tryz.prog envFk lim 110 [.int .i64 p, .int .i64 q] A (.agg #[.int .i64 (lowN p q), .int .i64 (lowD p q)], A) := fun lim A hs => known_of (show envL.known lim 110 _ A = _ from k110 h hs)
/-- The numbers of the qualities of a valid driver. -/
def both (d e : Int) : Int := IntKind.i64.wrap (e * d)
def sqB (c : Int) : Int := IntKind.i64.wrap (c * c)
def tot (a c f : Int) : Int := IntKind.i64.wrap (IntKind.i64.wrap (f * a) + IntKind.i64.wrap (c * c))
theorem prodB {x y a b : Int} (hx : 1 ≤ x ∧ x ≤ a) (hy : 1 ≤ y ∧ y ≤ b) : 1 ≤ x * y ∧ x * y ≤ a * b := by
  have h1 := Int.mul_le_mul hx.2 hy.2 (by omega) (by omega)
  have h2 := Int.mul_le_mul hx.1 hy.1 (by omega) (by omega)
  omega
theorem okL_of {p q : Int} (hp : 1 ≤ p ∧ p ≤ 9000000000000000000) (hq : 1 ≤ q ∧ q ≤ 9000000000000000000) : okL p q = true := decide_eq_true (by omega)
section
variable {a b c d e f : Int} (h : (dErr a b c d e f != 0) = false)
include h
theorem both_b : 1 ≤ both d e ∧ both d e ≤ 500000 := by
  have := dErr_zero h
  have h1 := prodB (x := e) (y := d) (a := 5000) (b := 100) (by omega) (by omega)
  unfold both
  rw [wSmall (by omega) (by omega)]
  omega
theorem sqB_b : 1 ≤ sqB c ∧ sqB c ≤ 400 := by
  have := dErr_zero h
  have h1 := prodB (x := c) (y := c) (a := 20) (b := 20) (by omega) (by omega)
  unfold sqB
  rw [wSmall (by omega) (by omega)]
  omega
theorem tot_b : 1 ≤ tot a c f ∧ tot a c f ≤ 5400 := by
  have := dErr_zero h
  have h1 := prodB (x := c) (y := c) (a := 20) (b := 20) (by omega) (by omega)
  have h2 := prodB (x := f) (y := a) (a := 100) (b := 50) (by omega) (by omega)
  unfold tot
  rw [wSmall (x := c * c) (by omega) (by omega), wSmall (x := f * a) (by omega) (by omega), wSmall (by omega) (by omega)]
  omega
theorem sqP_b {n : Int} (hn : 1 ≤ n ∧ n ≤ 50) : 1 ≤ sqP (both d e) n ∧ sqP (both d e) n ≤ 1250000000 := by
  have h1 := both_b h
  have h2 := prodB h1 hn
  have h3 := prodB h2 hn
  unfold sqP
  rw [wSmall (x := both d e * n) (by omega) (by omega), wSmall (by omega) (by omega)]
  omega
theorem qu_ok1 : okL (sqP (both d e) 1) (sqQ f) = true := by
  have := dErr_zero h
  have h1 := sqP_b h (n := 1) (by omega)
  have h2 := prodB (x := f) (y := f) (a := 100) (b := 100) (by omega) (by omega)
  refine okL_of (by omega) ?_
  unfold sqQ
  rw [wSmall (by omega) (by omega)]
  omega
theorem qu_ok2 : okL (sqP (both d e) a) (sqQ (sqB c)) = true := by
  have := dErr_zero h
  have h1 := sqP_b h (n := a) (by omega)
  have h2 := prodB (sqB_b h) (sqB_b h)
  refine okL_of (by omega) ?_
  unfold sqQ
  rw [wSmall (by omega) (by omega)]
  omega
theorem qu_ok3 : okL (sqP (both d e) a) (sqQ (tot a c f)) = true := by
  have := dErr_zero h
  have h1 := sqP_b h (n := a) (by omega)
  have h2 := prodB (tot_b h) (tot_b h)
  refine okL_of (by omega) ?_
  unfold sqQ
  rw [wSmall (by omega) (by omega)]
  omega
theorem both_one : sqP (both d e) 1 = both d e := by
  have h1 := both_b h
  have w := wSmall (x := both d e) (by omega) (by omega)
  unfold sqP
  rw [Int.mul_one, Int.mul_one, w, w]
end
def qN (k : Bool) (p q : Int) : Int := cond k 0 (lowN p q)
def qD (k : Bool) (p q : Int) : Int := cond k 0 (lowD p q)
def dBad (a b c d e f : Int) : Bool := dErr a b c d e f != 0
theorem g46 (a b c d e f : Int) : Gives Tryz.prog envFk 0 46 [.agg #[.int .i64 a, .int .i64 b, .int .i64 c, .int .i64 d, .int .i64 e, .int .i64 f]] heap0
    (.tuple #[.agg #[.int .i64 (qN (dBad a b c d e f) (sqP (both d e) 1) (sqQ f)), .int .i64 (qD (dBad a b c d e f) (sqP (both d e) 1) (sqQ f)), .int .i64 (qN (dBad a b c d e f) (sqP (both d e) a) (sqQ (sqB c))), .int .i64 (qD (dBad a b c d e f) (sqP (both d e) a) (sqQ (sqB c))), .int .i64 (qN (dBad a b c d e f) (sqP (both d e) a) (sqQ (tot a c f))), .int .i64 (qD (dBad a b c d e f) (sqP (both d e) a) (sqQ (tot a c f)))], .int .i64 (dErr a b c d e f)], heap0) := by
  unfold qN qD dBad
  cases hd : dErr a b c d e f != 0
  · rw [dErr_at hd]; exact f46b_p0 a b c d e f hd (w113 (qu_ok1 hd)) (w113 (qu_ok2 hd)) (w113 (qu_ok3 hd))
  · exact f46a_p0 a b c d e f hd
theorem g52 (a b c d e f : Int) (hd : (dErr a b c d e f != 0) = false) : Gives Tryz.prog envFk 0 52 [.agg #[.int .i64 a, .int .i64 b, .int .i64 c, .int .i64 d, .int .i64 e, .int .i64 f]] heapN
    (.agg #[.int .i64 (lowN (sqP (both d e) 1) (sqQ f)), .int .i64 (lowD (sqP (both d e) 1) (sqQ f)), .int .i64 (lowN (sqP (both d e) a) (sqQ (sqB c))), .int .i64 (lowD (sqP (both d e) a) (sqQ (sqB c))), .int .i64 (lowN (sqP (both d e) a) (sqQ (tot a c f))), .int .i64 (lowD (sqP (both d e) a) (sqQ (tot a c f)))], heapN) := by
  have h1 := qu_ok1 hd
  rw [both_one hd] at h1 ⊢
  exact f52_p0 a b c d e f (w110 h1) (w110 (qu_ok2 hd)) (w110 (qu_ok3 hd))
/-- What two resonances tell: the numbers before they are in lowest terms. -/
def wDf (n1 d1 n2 d2 : Int) : Int := IntKind.i64.wrap (IntKind.i64.wrap (n1 * d2) - IntKind.i64.wrap (n2 * d1))
def wMa (n2 d1 m : Int) : Int := IntKind.i64.wrap (IntKind.i64.wrap (m * n2) * d1)
theorem f111_m (m : Int) : f111_r0 m 1 100 = if 1 ≤ m ∧ m ≤ 100 then 0 else 3 := f111_eq m 1 100
theorem f48_m (m : Int) : f48_r0 m 1 100 = f111_r0 m 1 100 := by rw [f111_eq, f48_eq]
def mErr (m : Int) : Int := f111_r0 m 1 100
theorem tErr_zero {n d : Int} (h : (tErr n d != 0) = false) : okT n d = true ∧ lowN n d = n ∧ lowD n d = d ∧ (1 ≤ n ∧ n ≤ 10000) ∧ (1 ≤ d ∧ d ≤ 10000) := by
  unfold tErr at h
  by_cases h1 : (1 ≤ n ∧ n ≤ 10000) ∧ (1 ≤ d ∧ d ≤ 10000)
  · rw [if_pos h1] at h
    by_cases h2 : lowN n d = n ∧ lowD n d = d
    · exact ⟨decide_eq_true h1, h2.1, h2.2, h1⟩
    · rw [if_neg h2] at h; cases h
  · rw [if_neg h1] at h; cases h
theorem mErr_zero {m : Int} (h : (f111_r0 m 1 100 != 0) = false) : 1 ≤ m ∧ m ≤ 100 := by
  rw [f111_m] at h
  by_cases h1 : 1 ≤ m ∧ m ≤ 100
  · exact h1
  · rw [if_neg h1] at h; cases h
section
variable {n1 d1 n2 d2 m : Int} (h1 : (tErr n1 d1 != 0) = false) (h2 : (tErr n2 d2 != 0) = false)
include h1 h2
theorem wDf_eq : wDf n1 d1 n2 d2 = n1 * d2 - n2 * d1 ∧ -100000000 ≤ n1 * d2 - n2 * d1 ∧ n1 * d2 - n2 * d1 ≤ 100000000 := by
  obtain ⟨_, _, _, a1, a2⟩ := tErr_zero h1
  obtain ⟨_, _, _, b1, b2⟩ := tErr_zero h2
  have e1 := mul_small a1 b2
  have e2 := mul_small b1 a2
  unfold wDf
  rw [wSmall (x := n1 * d2) (by omega) (by omega), wSmall (x := n2 * d1) (by omega) (by omega), wSmall (by omega) (by omega)]
  omega
theorem wLe : decide (f115_r0 n1 d1 n2 d2 ≤ 0) = decide (wDf n1 d1 n2 d2 ≤ 0) := by
  obtain ⟨e1, _, _⟩ := wDf_eq h1 h2
  rw [cmp_small (tErr_zero h1).1 (tErr_zero h2).1, e1, Bool.eq_iff_iff, decide_eq_true_iff, decide_eq_true_iff]
  omega
theorem wMa_ok (h3 : (f111_r0 m 1 100 != 0) = false) (h4 : decide (wDf n1 d1 n2 d2 ≤ 0) = false) : okL (wMa n2 d1 m) (wDf n1 d1 n2 d2) = true ∧ okL (wMa n2 n1 m) (wDf n1 d1 n2 d2) = true := by
  obtain ⟨e1, e2, e3⟩ := wDf_eq h1 h2
  have h4 := of_decide_eq_false h4
  obtain ⟨_, _, _, a1, a2⟩ := tErr_zero h1
  obtain ⟨_, _, _, b1, b2⟩ := tErr_zero h2
  have h3 := mErr_zero h3
  have p1 := prodB h3 b1
  have p2 := prodB p1 a2
  have p3 := prodB p1 a1
  unfold wMa
  rw [wSmall (x := m * n2) (by omega) (by omega), wSmall (x := m * n2 * d1) (by omega) (by omega), wSmall (x := m * n2 * n1) (by omega) (by omega)]
  exact ⟨okL_of (by omega) (by omega), okL_of (by omega) (by omega)⟩
end
/-- The error of what two resonances tell. -/
def weE (n1 d1 n2 d2 m : Int) : Int := cond (tErr n1 d1 != 0) (tErr n1 d1) (cond (tErr n2 d2 != 0) (tErr n2 d2) (cond (f111_r0 m 1 100 != 0) (f111_r0 m 1 100) (cond (decide (wDf n1 d1 n2 d2 ≤ 0)) 11 0)))
theorem g47 (n1 d1 n2 d2 m : Int) : Gives Tryz.prog envFk 0 47 [.agg #[.int .i64 n1, .int .i64 d1], .agg #[.int .i64 n2, .int .i64 d2], .int .i64 m] heapN
    (.tuple #[.agg #[.int .i64 (qN (weE n1 d1 n2 d2 m != 0) (wMa n2 d1 m) (wDf n1 d1 n2 d2)), .int .i64 (qD (weE n1 d1 n2 d2 m != 0) (wMa n2 d1 m) (wDf n1 d1 n2 d2))], .agg #[.int .i64 (qN (weE n1 d1 n2 d2 m != 0) (wMa n2 n1 m) (wDf n1 d1 n2 d2)), .int .i64 (qD (weE n1 d1 n2 d2 m != 0) (wMa n2 n1 m) (wDf n1 d1 n2 d2))], .int .i64 (weE n1 d1 n2 d2 m)], heapN) := by
  unfold weE
  cases h1 : tErr n1 d1 != 0
  · cases h2 : tErr n2 d2 != 0
    · cases h3 : f111_r0 m 1 100 != 0
      · cases h4 : decide (wDf n1 d1 n2 d2 ≤ 0)
        · have e4 : (f93_r0 (decide (f115_r0 n1 d1 n2 d2 ≤ 0)) 11 != 0) = false := by rw [wLe h1 h2, h4]; rfl
          obtain ⟨o1, o2⟩ := wMa_ok h1 h2 h3 h4
          exact f47e_p0 n1 d1 n2 d2 m h1 h2 h3 e4 (w107 o1) (w107 o2)
        · have e4 : (f93_r0 (decide (f115_r0 n1 d1 n2 d2 ≤ 0)) 11 != 0) = true := by rw [wLe h1 h2, h4]; rfl
          have := f47d_p0 n1 d1 n2 d2 m h1 h2 h3 e4
          rw [wLe h1 h2, h4] at this
          exact this
      · have := f47c_p0 n1 d1 n2 d2 m h1 h2 h3
        simp only [cond_true, cond_false, h3, qN, qD]
        exact this
    · have := f47b_p0 n1 d1 n2 d2 m h1 h2
      simp only [cond_true, cond_false, h2, qN, qD]
      exact this
  · have := f47a_p0 n1 d1 n2 d2 m h1
    simp only [cond_true, h1, qN, qD]
    exact this
def okW4 (n1 d1 n2 d2 m : Int) : Bool := !(tErr n1 d1 != 0) && (!(tErr n2 d2 != 0) && !(f111_r0 m 1 100 != 0))
theorem g53 (n1 d1 n2 d2 m : Int) (h : okW4 n1 d1 n2 d2 m = true) : Gives Tryz.prog envFk 0 53 [.agg #[.int .i64 n1, .int .i64 d1], .agg #[.int .i64 n2, .int .i64 d2], .int .i64 m] heapN
    (.tuple #[.agg #[.int .i64 (qN (weE n1 d1 n2 d2 m != 0) (wMa n2 d1 m) (wDf n1 d1 n2 d2)), .int .i64 (qD (weE n1 d1 n2 d2 m != 0) (wMa n2 d1 m) (wDf n1 d1 n2 d2))], .agg #[.int .i64 (qN (weE n1 d1 n2 d2 m != 0) (wMa n2 n1 m) (wDf n1 d1 n2 d2)), .int .i64 (qD (weE n1 d1 n2 d2 m != 0) (wMa n2 n1 m) (wDf n1 d1 n2 d2))], .int .i64 (weE n1 d1 n2 d2 m)], heapN) := by
  unfold okW4 at h
  simp only [Bool.and_eq_true, Bool.not_eq_true'] at h
  obtain ⟨h1, h2, h3⟩ := h
  unfold weE
  rw [h1, h2, h3]
  cases h4 : decide (wDf n1 d1 n2 d2 ≤ 0)
  · obtain ⟨o1, o2⟩ := wMa_ok h1 h2 h3 h4
    exact f53b_p0 n1 d1 n2 d2 m h4 (w110 o1) (w110 o2)
  · exact f53a_p0 n1 d1 n2 d2 m h4
def B_envFm (f : FuncId) (args : List Value) : Option (Heap × Value) :=
  if f == 46 then
    match args with
    | [.agg ⟨[.int .i64 a, .int .i64 b, .int .i64 c, .int .i64 d, .int .i64 e, .int .i64 f]⟩] => some (heap0, .tuple #[.agg #[.int .i64 (qN (dBad a b c d e f) (sqP (both d e) 1) (sqQ f)), .int .i64 (qD (dBad a b c d e f) (sqP (both d e) 1) (sqQ f)), .int .i64 (qN (dBad a b c d e f) (sqP (both d e) a) (sqQ (sqB c))), .int .i64 (qD (dBad a b c d e f) (sqP (both d e) a) (sqQ (sqB c))), .int .i64 (qN (dBad a b c d e f) (sqP (both d e) a) (sqQ (tot a c f))), .int .i64 (qD (dBad a b c d e f) (sqP (both d e) a) (sqQ (tot a c f)))], .int .i64 (dErr a b c d e f)])
    | _ => none
  else  if f == 52 then
    match args with
    | [.agg ⟨[.int .i64 a, .int .i64 b, .int .i64 c, .int .i64 d, .int .i64 e, .int .i64 f]⟩] => if (dErr a b c d e f != 0) = false then some (heapN, .agg #[.int .i64 (lowN (sqP (both d e) 1) (sqQ f)), .int .i64 (lowD (sqP (both d e) 1) (sqQ f)), .int .i64 (lowN (sqP (both d e) a) (sqQ (sqB c))), .int .i64 (lowD (sqP (both d e) a) (sqQ (sqB c))), .int .i64 (lowN (sqP (both d e) a) (sqQ (tot a c f))), .int .i64 (lowD (sqP (both d e) a) (sqQ (tot a c f)))]) else none
    | _ => none
  else  if f == 47 then
    match args with
    | [.agg ⟨[.int .i64 n1, .int .i64 d1]⟩, .agg ⟨[.int .i64 n2, .int .i64 d2]⟩, .int .i64 m] => some (heapN, .tuple #[.agg #[.int .i64 (qN (weE n1 d1 n2 d2 m != 0) (wMa n2 d1 m) (wDf n1 d1 n2 d2)), .int .i64 (qD (weE n1 d1 n2 d2 m != 0) (wMa n2 d1 m) (wDf n1 d1 n2 d2))], .agg #[.int .i64 (qN (weE n1 d1 n2 d2 m != 0) (wMa n2 n1 m) (wDf n1 d1 n2 d2)), .int .i64 (qD (weE n1 d1 n2 d2 m != 0) (wMa n2 n1 m) (wDf n1 d1 n2 d2))], .int .i64 (weE n1 d1 n2 d2 m)])
    | _ => none
  else  if f == 53 then
    match args with
    | [.agg ⟨[.int .i64 n1, .int .i64 d1]⟩, .agg ⟨[.int .i64 n2, .int .i64 d2]⟩, .int .i64 m] => if okW4 n1 d1 n2 d2 m = true then some (heapN, .tuple #[.agg #[.int .i64 (qN (weE n1 d1 n2 d2 m != 0) (wMa n2 d1 m) (wDf n1 d1 n2 d2)), .int .i64 (qD (weE n1 d1 n2 d2 m != 0) (wMa n2 d1 m) (wDf n1 d1 n2 d2))], .agg #[.int .i64 (qN (weE n1 d1 n2 d2 m != 0) (wMa n2 n1 m) (wDf n1 d1 n2 d2)), .int .i64 (qD (weE n1 d1 n2 d2 m != 0) (wMa n2 n1 m) (wDf n1 d1 n2 d2))], .int .i64 (weE n1 d1 n2 d2 m)]) else none
    | _ => none
  else none
noncomputable def envFm : Env := envFk.with (baseKnown B_envFm)
theorem envFm_ok : EnvOK Tryz.prog 9 envFm := env_base prog_ok envFk_ok fun f args H v h => by
  unfold B_envFm at h
  split at h
  · rename_i hf
    have hf : f = 46 := by simpa using hf
    subst hf
    split at h
    · cases h; exact heap0_ok (g46 _ _ _ _ _ _)
    · cases h
  · skip
    split at h
    · rename_i hf
      have hf : f = 52 := by simpa using hf
      subst hf
      split at h
      · split at h
        · rename_i hl; cases h; exact heapN_ok (g52 _ _ _ _ _ _ hl)
        · cases h
      · cases h
    · skip
      split at h
      · rename_i hf
        have hf : f = 47 := by simpa using hf
        subst hf
        split at h
        · cases h; exact heapN_ok (g47 _ _ _ _ _)
        · cases h
      · skip
        split at h
        · rename_i hf
          have hf : f = 53 := by simpa using hf
          subst hf
          split at h
          · split at h
            · rename_i hl; cases h; exact heapN_ok (g53 _ _ _ _ _ hl)
            · cases h
          · cases h
        · skip
          cases h
end Go.Proofs.YtkndhhnjgpialaaGreatDoor
