/-
Joined: Seat, Sa, Sb, Sc, Sd.
-/
import Derived.Test.YtpmicgdplihlfaaDoorMr2
import Derived.Test.YtpmicgdplihlfaaDoorMr3
import Derived.Test.YtpmicgdplihlfaaDoorProg
import Derived.KernelRfl
set_option linter.unusedVariables false
set_option linter.unusedSimpArgs false
set_option linter.unusedSectionVars false
/-
The seat's program, its tables and its library, as the abstract machine wants them.
-/
namespace Go.Proofs.YtpmicgdplihlfaaDoor
open Go Go.Abs

theorem prog_ok : ProgOK Tryd.prog 5 := progOK_spec (by kernel_rfl)
def memN (l : List Nat) (n : Nat) : Bool := l.any fun m => m == n
/-- Functions that write rows of their callers; functions of the library without bodies. -/
def env0 : Env := { impure := memN [36, 66, 73, 74, 75, 86, 87, 94, 119], known := libKnown 89 90 5 }
theorem lib : LibOK Tryd.prog 89 90 5 where
  ne_ := ⟨_, Tryd.func89, by kernel_rfl, by kernel_rfl, by kernel_rfl, by kernel_rfl⟩
  mk_ := ⟨_, Tryd.f90.params, 126, Tryd.func90, by kernel_rfl, by kernel_rfl, by kernel_rfl, by kernel_rfl, by kernel_rfl⟩
  esz := by kernel_rfl
theorem env0_ok : EnvOK Tryd.prog 5 env0 := lib_ok lib
def lits (k : IntKind) (l : List Int) : List Value := l.map (.int k)
def H (X : Heap) : Heap :=
  some (.cells (lits .i64 [1,0,0,-1,-1,0,0,1]) 0 .ro) ::
  none ::
  some (.cells (lits .u64 [1,10,100,1000,10000,100000,1000000,10000000,100000000,1000000000,10000000000,100000000000,1000000000000,10000000000000,100000000000000,1000000000000000,10000000000000000,100000000000000000,1000000000000000000,10000000000000000000]) 0 .ro) ::
  some (.cells (lits .u8 [0,1,28,2,29,14,24,3,30,22,20,15,25,17,4,8,31,27,13,23,21,19,16,7,26,12,18,6,11,5,10,9]) 0 .ro) ::
  some (.cells (lits .u8 [0,1,56,2,57,49,28,3,61,58,42,50,38,29,17,4,62,47,59,36,45,43,51,22,53,39,33,30,24,18,12,5,63,55,48,27,60,41,37,16,46,35,44,21,52,32,23,11,54,26,40,15,34,20,31,10,25,14,19,9,13,8,7,6]) 0 .ro) ::
  X
/-- The tables, as rows. -/
def heap0 : Heap := H []
noncomputable def bodyOf (f : FuncId) : Code := match Tryd.prog.funcs[f]? with
  | some fn => fn.body.getD .skip
  | none => .skip
/-- A number. -/
abbrev I (n : Int) : Value := .int .i64 n
/-- A pointer; a slice; none; a variable's row; a slice's row; two numbers. -/
abbrev pt (i o : Nat) : Value := .pointer (some ⟨i, o, none⟩)
abbrev sl (i o n c : Nat) : Value := .slice (some ⟨i, o, none⟩) n c
abbrev sn : Value := .slice none 0 0
abbrev rvar (cs : List Value) (e : Nat) : Option ARow := some (.cells cs e .var)
abbrev rrow (cs : List Value) (e : Nat) : Option ARow := some (.cells cs e .row)
abbrev g2 (a b : Int) : Value := .agg #[I a, I b]
/-- Nothing. -/
abbrev U : Value := .tuple #[]
def us (n : Nat) : List Value := List.replicate n U
/-- No table at all. -/
def heapN : Heap := [none, none, none, none, none]
theorem heapN_ok {E : Env} {f : FuncId} {args : List Value} {v : Value} (h : Gives Tryd.prog E 0 f args heapN (v, heapN)) : 5 ≤ heapN.length ∧ heapN.all tableRow = true ∧ Gives Tryd.prog E 0 f args heapN (v, heapN) := ⟨by decide, by decide, h⟩
theorem heap0_ok {E : Env} {f : FuncId} {args : List Value} {v : Value} (h : Gives Tryd.prog E 0 f args heap0 (v, heap0)) : 5 ≤ heap0.length ∧ heap0.all tableRow = true ∧ Gives Tryd.prog E 0 f args heap0 (v, heap0) := ⟨by decide, by decide, h⟩
theorem known_of {P : Program} {E : Env} {lim : Nat} {f : FuncId} {args : List Value} {A A' : Heap} {v : Value} (h : E.known lim f args A = some (v, A')) : Gives P E lim f args A (v, A') := ⟨0, by simp only [aCall, aCallBy, h]⟩
theorem ite_or {α : Type} {c : Bool} {a b : Option α} {r : α} (h : (if c then a else b) = some r) : (c = true ∧ a = some r) ∨ b = some r := by
  cases c
  · exact .inr h
  · exact .inl ⟨rfl, h⟩
end Go.Proofs.YtpmicgdplihlfaaDoor
/-
What functions give.
-/
namespace Go.Proofs.YtpmicgdplihlfaaDoor
open Go Go.Abs
def cr_c0 (n : Int) (a : Int) (b : Int) : Bool := decide (a ≤ n)
def cr_c1 (n : Int) (a : Int) (b : Int) : Bool := !decide (n ≤ b)
theorem cr_p0 (n : Int) (a : Int) (b : Int) (h0 : cr_c0 n a b = true) (h1 : cr_c1 n a b = true) : Gives Tryd.prog env0 0 47 [(I n), (I a), (I b)] heapN ((I 3), heapN) :=
  Gives.by (n := 1000) (os := [.br 69 22 true, .br 69 22 true, .br 69 22 true, .br 69 31 true, .br 45 12 true]) (os' := []) (by kernel_rfl) (ObsOK.cond h0 (ObsOK.cond h0 (ObsOK.cond h0 (ObsOK.cond h0 (ObsOK.cond h1 (ObsOK.nil))))))
theorem cr_p1 (n : Int) (a : Int) (b : Int) (h0 : cr_c0 n a b = true) (h1 : cr_c1 n a b = false) : Gives Tryd.prog env0 0 47 [(I n), (I a), (I b)] heapN ((I 0), heapN) :=
  Gives.by (n := 1000) (os := [.br 69 22 true, .br 69 22 true, .br 69 22 true, .br 69 31 true, .br 45 12 false]) (os' := []) (by kernel_rfl) (ObsOK.cond h0 (ObsOK.cond h0 (ObsOK.cond h0 (ObsOK.cond h0 (ObsOK.cond h1 (ObsOK.nil))))))
theorem cr_p2 (n : Int) (a : Int) (b : Int) (h0 : cr_c0 n a b = false) : Gives Tryd.prog env0 0 47 [(I n), (I a), (I b)] heapN ((I 3), heapN) :=
  Gives.by (n := 1000) (os := [.br 69 22 false, .br 69 22 false, .br 69 22 false, .br 69 31 false]) (os' := []) (by kernel_rfl) (ObsOK.cond h0 (ObsOK.cond h0 (ObsOK.cond h0 (ObsOK.cond h0 (ObsOK.nil)))))
def cr_r0 (n : Int) (a : Int) (b : Int) : Int := (cond (cr_c0 n a b) (cond (cr_c1 n a b) (3) (0)) (3))
theorem cr_gives (n : Int) (a : Int) (b : Int) : Gives Tryd.prog env0 0 47 [(I n), (I a), (I b)] heapN ((I (cr_r0 n a b)), heapN) := by
  cases g0 : cr_c0 n a b
  · skip
    simp only [cr_r0, g0, cond_true, cond_false]; exact cr_p2 n a b g0
  · skip
    cases g1 : cr_c1 n a b
    · skip
      simp only [cr_r0, g0, g1, cond_true, cond_false]; exact cr_p1 n a b g0 g1
    · skip
      simp only [cr_r0, g0, g1, cond_true, cond_false]; exact cr_p0 n a b g0 g1
theorem lim_p0 (n : Int) : Gives Tryd.prog env0 0 64 [(I n)] heapN ((I (if 32767 < if -32767 > n then -32767 else n then 32767 else if -32767 > n then -32767 else n)), heapN) :=
  Gives.by (n := 1000) (os := []) (os' := []) (by kernel_rfl) (ObsOK.nil)
def lim_r0 (n : Int) : Int := (if 32767 < if -32767 > n then -32767 else n then 32767 else if -32767 > n then -32767 else n)
theorem lim_gives (n : Int) : Gives Tryd.prog env0 0 64 [(I n)] heapN ((I (lim_r0 n)), heapN) := by
  simp only [lim_r0, cond_true, cond_false]; exact lim_p0 n
theorem ab_p0 (n : Int) : Gives Tryd.prog env0 0 49 [(I n)] heapN ((I (if IntKind.i64.wrap (0 - n) > n then IntKind.i64.wrap (0 - n) else n)), heapN) :=
  Gives.by (n := 1000) (os := []) (os' := []) (by kernel_rfl) (ObsOK.nil)
def ab_r0 (n : Int) : Int := (if IntKind.i64.wrap (0 - n) > n then IntKind.i64.wrap (0 - n) else n)
theorem ab_gives (n : Int) : Gives Tryd.prog env0 0 49 [(I n)] heapN ((I (ab_r0 n)), heapN) := by
  simp only [ab_r0, cond_true, cond_false]; exact ab_p0 n
theorem pl_p0 (a : Int) (b : Int) (c : Int) (d : Int) : Gives Tryd.prog env0 0 70 [(.agg #[(I a), (I b)]), (.agg #[(I c), (I d)])] heapN ((.agg #[(I (IntKind.i64.wrap (a + c))), (I (IntKind.i64.wrap (b + d)))]), heapN) :=
  Gives.by (n := 1000) (os := []) (os' := []) (by kernel_rfl) (ObsOK.nil)
def pl_r0 (a : Int) (b : Int) (c : Int) (d : Int) : Int := (IntKind.i64.wrap (a + c))
def pl_r1 (a : Int) (b : Int) (c : Int) (d : Int) : Int := (IntKind.i64.wrap (b + d))
theorem pl_gives (a : Int) (b : Int) (c : Int) (d : Int) : Gives Tryd.prog env0 0 70 [(.agg #[(I a), (I b)]), (.agg #[(I c), (I d)])] heapN ((.agg #[(I (pl_r0 a b c d)), (I (pl_r1 a b c d))]), heapN) := by
  simp only [pl_r0, pl_r1, cond_true, cond_false]; exact pl_p0 a b c d
theorem ti_p0 (a : Int) (b : Int) (c : Int) (d : Int) : Gives Tryd.prog env0 0 71 [(.agg #[(I a), (I b)]), (.agg #[(I c), (I d)])] heapN ((.agg #[(I (IntKind.i64.wrap (IntKind.i64.wrap (a * c) - IntKind.i64.wrap (b * d)))), (I (IntKind.i64.wrap (IntKind.i64.wrap (a * d) + IntKind.i64.wrap (b * c))))]), heapN) :=
  Gives.by (n := 1000) (os := []) (os' := []) (by kernel_rfl) (ObsOK.nil)
def ti_r0 (a : Int) (b : Int) (c : Int) (d : Int) : Int := (IntKind.i64.wrap (IntKind.i64.wrap (a * c) - IntKind.i64.wrap (b * d)))
def ti_r1 (a : Int) (b : Int) (c : Int) (d : Int) : Int := (IntKind.i64.wrap (IntKind.i64.wrap (a * d) + IntKind.i64.wrap (b * c)))
theorem ti_gives (a : Int) (b : Int) (c : Int) (d : Int) : Gives Tryd.prog env0 0 71 [(.agg #[(I a), (I b)]), (.agg #[(I c), (I d)])] heapN ((.agg #[(I (ti_r0 a b c d)), (I (ti_r1 a b c d))]), heapN) := by
  simp only [ti_r0, ti_r1, cond_true, cond_false]; exact ti_p0 a b c d
def rcr_c0 (n : Int) (a : Int) (b : Int) : Bool := decide (n < a)
def rcr_c1 (n : Int) (a : Int) (b : Int) : Bool := decide (n > b)
theorem rcr_p0 (n : Int) (a : Int) (b : Int) (h0 : rcr_c0 n a b = true) : Gives Tryd.prog env0 0 39 [(I n), (I a), (I b)] heapN ((I 3), heapN) :=
  Gives.by (n := 1000) (os := [.br 39 22 true, .br 39 22 true, .br 39 22 true, .br 39 31 true]) (os' := []) (by kernel_rfl) (ObsOK.cond h0 (ObsOK.cond h0 (ObsOK.cond h0 (ObsOK.cond h0 (ObsOK.nil)))))
theorem rcr_p1 (n : Int) (a : Int) (b : Int) (h0 : rcr_c0 n a b = false) (h1 : rcr_c1 n a b = true) : Gives Tryd.prog env0 0 39 [(I n), (I a), (I b)] heapN ((I 3), heapN) :=
  Gives.by (n := 1000) (os := [.br 39 22 false, .br 39 22 false, .br 39 22 false, .br 39 31 false, .br 39 30 true]) (os' := []) (by kernel_rfl) (ObsOK.cond h0 (ObsOK.cond h0 (ObsOK.cond h0 (ObsOK.cond h0 (ObsOK.cond h1 (ObsOK.nil))))))
theorem rcr_p2 (n : Int) (a : Int) (b : Int) (h0 : rcr_c0 n a b = false) (h1 : rcr_c1 n a b = false) : Gives Tryd.prog env0 0 39 [(I n), (I a), (I b)] heapN ((I 0), heapN) :=
  Gives.by (n := 1000) (os := [.br 39 22 false, .br 39 22 false, .br 39 22 false, .br 39 31 false, .br 39 30 false]) (os' := []) (by kernel_rfl) (ObsOK.cond h0 (ObsOK.cond h0 (ObsOK.cond h0 (ObsOK.cond h0 (ObsOK.cond h1 (ObsOK.nil))))))
def rcr_r0 (n : Int) (a : Int) (b : Int) : Int := (cond (rcr_c0 n a b) (3) (cond (rcr_c1 n a b) (3) (0)))
theorem rcr_gives (n : Int) (a : Int) (b : Int) : Gives Tryd.prog env0 0 39 [(I n), (I a), (I b)] heapN ((I (rcr_r0 n a b)), heapN) := by
  cases g0 : rcr_c0 n a b
  · skip
    cases g1 : rcr_c1 n a b
    · skip
      simp only [rcr_r0, g0, g1, cond_true, cond_false]; exact rcr_p2 n a b g0 g1
    · skip
      simp only [rcr_r0, g0, g1, cond_true, cond_false]; exact rcr_p1 n a b g0 g1
  · skip
    simp only [rcr_r0, g0, cond_true, cond_false]; exact rcr_p0 n a b g0
theorem rab_p0 (n : Int) : Gives Tryd.prog env0 0 43 [(I n)] heapN ((I (if IntKind.i64.wrap (0 - n) > n then IntKind.i64.wrap (0 - n) else n)), heapN) :=
  Gives.by (n := 1000) (os := []) (os' := []) (by kernel_rfl) (ObsOK.nil)
def rab_r0 (n : Int) : Int := (if IntKind.i64.wrap (0 - n) > n then IntKind.i64.wrap (0 - n) else n)
theorem rab_gives (n : Int) : Gives Tryd.prog env0 0 43 [(I n)] heapN ((I (rab_r0 n)), heapN) := by
  simp only [rab_r0, cond_true, cond_false]; exact rab_p0 n
theorem un0_p0 (a : Int) (b : Int) (c : Int) (d : Int) (e : Int) : Gives Tryd.prog env0 0 50 [(.agg #[(I a), (I b), (I c), (I d), (I e), (I 0)])] heapN ((I 1), heapN) :=
  Gives.by (n := 1000) (os := []) (os' := []) (by kernel_rfl) (ObsOK.nil)
theorem un0_gives (a : Int) (b : Int) (c : Int) (d : Int) (e : Int) : Gives Tryd.prog env0 0 50 [(.agg #[(I a), (I b), (I c), (I d), (I e), (I 0)])] heapN ((I 1), heapN) := by
  exact un0_p0 a b c d e
theorem ru0_p0 (a : Int) (b : Int) (c : Int) (d : Int) (e : Int) : Gives Tryd.prog env0 0 68 [(.agg #[(I a), (I b), (I c), (I d), (I e), (I 0)])] heapN ((I 1), heapN) :=
  Gives.by (n := 1000) (os := []) (os' := []) (by kernel_rfl) (ObsOK.nil)
theorem ru0_gives (a : Int) (b : Int) (c : Int) (d : Int) (e : Int) : Gives Tryd.prog env0 0 68 [(.agg #[(I a), (I b), (I c), (I d), (I e), (I 0)])] heapN ((I 1), heapN) := by
  exact ru0_p0 a b c d e
theorem un1_p0 (a : Int) (b : Int) (c : Int) (d : Int) (e : Int) : Gives Tryd.prog env0 0 50 [(.agg #[(I a), (I b), (I c), (I d), (I e), (I 1)])] heapN ((I 2), heapN) :=
  Gives.by (n := 1000) (os := []) (os' := []) (by kernel_rfl) (ObsOK.nil)
theorem un1_gives (a : Int) (b : Int) (c : Int) (d : Int) (e : Int) : Gives Tryd.prog env0 0 50 [(.agg #[(I a), (I b), (I c), (I d), (I e), (I 1)])] heapN ((I 2), heapN) := by
  exact un1_p0 a b c d e
theorem ru1_p0 (a : Int) (b : Int) (c : Int) (d : Int) (e : Int) : Gives Tryd.prog env0 0 68 [(.agg #[(I a), (I b), (I c), (I d), (I e), (I 1)])] heapN ((I 2), heapN) :=
  Gives.by (n := 1000) (os := []) (os' := []) (by kernel_rfl) (ObsOK.nil)
theorem ru1_gives (a : Int) (b : Int) (c : Int) (d : Int) (e : Int) : Gives Tryd.prog env0 0 68 [(.agg #[(I a), (I b), (I c), (I d), (I e), (I 1)])] heapN ((I 2), heapN) := by
  exact ru1_p0 a b c d e
theorem un2_p0 (a : Int) (b : Int) (c : Int) (d : Int) (e : Int) : Gives Tryd.prog env0 0 50 [(.agg #[(I a), (I b), (I c), (I d), (I e), (I 2)])] heapN ((I 4), heapN) :=
  Gives.by (n := 1000) (os := []) (os' := []) (by kernel_rfl) (ObsOK.nil)
theorem un2_gives (a : Int) (b : Int) (c : Int) (d : Int) (e : Int) : Gives Tryd.prog env0 0 50 [(.agg #[(I a), (I b), (I c), (I d), (I e), (I 2)])] heapN ((I 4), heapN) := by
  exact un2_p0 a b c d e
theorem ru2_p0 (a : Int) (b : Int) (c : Int) (d : Int) (e : Int) : Gives Tryd.prog env0 0 68 [(.agg #[(I a), (I b), (I c), (I d), (I e), (I 2)])] heapN ((I 4), heapN) :=
  Gives.by (n := 1000) (os := []) (os' := []) (by kernel_rfl) (ObsOK.nil)
theorem ru2_gives (a : Int) (b : Int) (c : Int) (d : Int) (e : Int) : Gives Tryd.prog env0 0 68 [(.agg #[(I a), (I b), (I c), (I d), (I e), (I 2)])] heapN ((I 4), heapN) := by
  exact ru2_p0 a b c d e
theorem un3_p0 (a : Int) (b : Int) (c : Int) (d : Int) (e : Int) : Gives Tryd.prog env0 0 50 [(.agg #[(I a), (I b), (I c), (I d), (I e), (I 3)])] heapN ((I 8), heapN) :=
  Gives.by (n := 1000) (os := []) (os' := []) (by kernel_rfl) (ObsOK.nil)
theorem un3_gives (a : Int) (b : Int) (c : Int) (d : Int) (e : Int) : Gives Tryd.prog env0 0 50 [(.agg #[(I a), (I b), (I c), (I d), (I e), (I 3)])] heapN ((I 8), heapN) := by
  exact un3_p0 a b c d e
theorem ru3_p0 (a : Int) (b : Int) (c : Int) (d : Int) (e : Int) : Gives Tryd.prog env0 0 68 [(.agg #[(I a), (I b), (I c), (I d), (I e), (I 3)])] heapN ((I 8), heapN) :=
  Gives.by (n := 1000) (os := []) (os' := []) (by kernel_rfl) (ObsOK.nil)
theorem ru3_gives (a : Int) (b : Int) (c : Int) (d : Int) (e : Int) : Gives Tryd.prog env0 0 68 [(.agg #[(I a), (I b), (I c), (I d), (I e), (I 3)])] heapN ((I 8), heapN) := by
  exact ru3_p0 a b c d e
theorem un4_p0 (a : Int) (b : Int) (c : Int) (d : Int) (e : Int) : Gives Tryd.prog env0 0 50 [(.agg #[(I a), (I b), (I c), (I d), (I e), (I 4)])] heapN ((I 16), heapN) :=
  Gives.by (n := 1000) (os := []) (os' := []) (by kernel_rfl) (ObsOK.nil)
theorem un4_gives (a : Int) (b : Int) (c : Int) (d : Int) (e : Int) : Gives Tryd.prog env0 0 50 [(.agg #[(I a), (I b), (I c), (I d), (I e), (I 4)])] heapN ((I 16), heapN) := by
  exact un4_p0 a b c d e
theorem ru4_p0 (a : Int) (b : Int) (c : Int) (d : Int) (e : Int) : Gives Tryd.prog env0 0 68 [(.agg #[(I a), (I b), (I c), (I d), (I e), (I 4)])] heapN ((I 16), heapN) :=
  Gives.by (n := 1000) (os := []) (os' := []) (by kernel_rfl) (ObsOK.nil)
theorem ru4_gives (a : Int) (b : Int) (c : Int) (d : Int) (e : Int) : Gives Tryd.prog env0 0 68 [(.agg #[(I a), (I b), (I c), (I d), (I e), (I 4)])] heapN ((I 16), heapN) := by
  exact ru4_p0 a b c d e
theorem un5_p0 (a : Int) (b : Int) (c : Int) (d : Int) (e : Int) : Gives Tryd.prog env0 0 50 [(.agg #[(I a), (I b), (I c), (I d), (I e), (I 5)])] heapN ((I 32), heapN) :=
  Gives.by (n := 1000) (os := []) (os' := []) (by kernel_rfl) (ObsOK.nil)
theorem un5_gives (a : Int) (b : Int) (c : Int) (d : Int) (e : Int) : Gives Tryd.prog env0 0 50 [(.agg #[(I a), (I b), (I c), (I d), (I e), (I 5)])] heapN ((I 32), heapN) := by
  exact un5_p0 a b c d e
theorem ru5_p0 (a : Int) (b : Int) (c : Int) (d : Int) (e : Int) : Gives Tryd.prog env0 0 68 [(.agg #[(I a), (I b), (I c), (I d), (I e), (I 5)])] heapN ((I 32), heapN) :=
  Gives.by (n := 1000) (os := []) (os' := []) (by kernel_rfl) (ObsOK.nil)
theorem ru5_gives (a : Int) (b : Int) (c : Int) (d : Int) (e : Int) : Gives Tryd.prog env0 0 68 [(.agg #[(I a), (I b), (I c), (I d), (I e), (I 5)])] heapN ((I 32), heapN) := by
  exact ru5_p0 a b c d e
theorem un6_p0 (a : Int) (b : Int) (c : Int) (d : Int) (e : Int) : Gives Tryd.prog env0 0 50 [(.agg #[(I a), (I b), (I c), (I d), (I e), (I 6)])] heapN ((I 64), heapN) :=
  Gives.by (n := 1000) (os := []) (os' := []) (by kernel_rfl) (ObsOK.nil)
theorem un6_gives (a : Int) (b : Int) (c : Int) (d : Int) (e : Int) : Gives Tryd.prog env0 0 50 [(.agg #[(I a), (I b), (I c), (I d), (I e), (I 6)])] heapN ((I 64), heapN) := by
  exact un6_p0 a b c d e
theorem ru6_p0 (a : Int) (b : Int) (c : Int) (d : Int) (e : Int) : Gives Tryd.prog env0 0 68 [(.agg #[(I a), (I b), (I c), (I d), (I e), (I 6)])] heapN ((I 64), heapN) :=
  Gives.by (n := 1000) (os := []) (os' := []) (by kernel_rfl) (ObsOK.nil)
theorem ru6_gives (a : Int) (b : Int) (c : Int) (d : Int) (e : Int) : Gives Tryd.prog env0 0 68 [(.agg #[(I a), (I b), (I c), (I d), (I e), (I 6)])] heapN ((I 64), heapN) := by
  exact ru6_p0 a b c d e
theorem un7_p0 (a : Int) (b : Int) (c : Int) (d : Int) (e : Int) : Gives Tryd.prog env0 0 50 [(.agg #[(I a), (I b), (I c), (I d), (I e), (I 7)])] heapN ((I 128), heapN) :=
  Gives.by (n := 1000) (os := []) (os' := []) (by kernel_rfl) (ObsOK.nil)
theorem un7_gives (a : Int) (b : Int) (c : Int) (d : Int) (e : Int) : Gives Tryd.prog env0 0 50 [(.agg #[(I a), (I b), (I c), (I d), (I e), (I 7)])] heapN ((I 128), heapN) := by
  exact un7_p0 a b c d e
theorem ru7_p0 (a : Int) (b : Int) (c : Int) (d : Int) (e : Int) : Gives Tryd.prog env0 0 68 [(.agg #[(I a), (I b), (I c), (I d), (I e), (I 7)])] heapN ((I 128), heapN) :=
  Gives.by (n := 1000) (os := []) (os' := []) (by kernel_rfl) (ObsOK.nil)
theorem ru7_gives (a : Int) (b : Int) (c : Int) (d : Int) (e : Int) : Gives Tryd.prog env0 0 68 [(.agg #[(I a), (I b), (I c), (I d), (I e), (I 7)])] heapN ((I 128), heapN) := by
  exact ru7_p0 a b c d e
theorem un8_p0 (a : Int) (b : Int) (c : Int) (d : Int) (e : Int) : Gives Tryd.prog env0 0 50 [(.agg #[(I a), (I b), (I c), (I d), (I e), (I 8)])] heapN ((I 256), heapN) :=
  Gives.by (n := 1000) (os := []) (os' := []) (by kernel_rfl) (ObsOK.nil)
theorem un8_gives (a : Int) (b : Int) (c : Int) (d : Int) (e : Int) : Gives Tryd.prog env0 0 50 [(.agg #[(I a), (I b), (I c), (I d), (I e), (I 8)])] heapN ((I 256), heapN) := by
  exact un8_p0 a b c d e
theorem ru8_p0 (a : Int) (b : Int) (c : Int) (d : Int) (e : Int) : Gives Tryd.prog env0 0 68 [(.agg #[(I a), (I b), (I c), (I d), (I e), (I 8)])] heapN ((I 256), heapN) :=
  Gives.by (n := 1000) (os := []) (os' := []) (by kernel_rfl) (ObsOK.nil)
theorem ru8_gives (a : Int) (b : Int) (c : Int) (d : Int) (e : Int) : Gives Tryd.prog env0 0 68 [(.agg #[(I a), (I b), (I c), (I d), (I e), (I 8)])] heapN ((I 256), heapN) := by
  exact ru8_p0 a b c d e
theorem un9_p0 (a : Int) (b : Int) (c : Int) (d : Int) (e : Int) : Gives Tryd.prog env0 0 50 [(.agg #[(I a), (I b), (I c), (I d), (I e), (I 9)])] heapN ((I 512), heapN) :=
  Gives.by (n := 1000) (os := []) (os' := []) (by kernel_rfl) (ObsOK.nil)
theorem un9_gives (a : Int) (b : Int) (c : Int) (d : Int) (e : Int) : Gives Tryd.prog env0 0 50 [(.agg #[(I a), (I b), (I c), (I d), (I e), (I 9)])] heapN ((I 512), heapN) := by
  exact un9_p0 a b c d e
theorem ru9_p0 (a : Int) (b : Int) (c : Int) (d : Int) (e : Int) : Gives Tryd.prog env0 0 68 [(.agg #[(I a), (I b), (I c), (I d), (I e), (I 9)])] heapN ((I 512), heapN) :=
  Gives.by (n := 1000) (os := []) (os' := []) (by kernel_rfl) (ObsOK.nil)
theorem ru9_gives (a : Int) (b : Int) (c : Int) (d : Int) (e : Int) : Gives Tryd.prog env0 0 68 [(.agg #[(I a), (I b), (I c), (I d), (I e), (I 9)])] heapN ((I 512), heapN) := by
  exact ru9_p0 a b c d e
theorem un10_p0 (a : Int) (b : Int) (c : Int) (d : Int) (e : Int) : Gives Tryd.prog env0 0 50 [(.agg #[(I a), (I b), (I c), (I d), (I e), (I 10)])] heapN ((I 1024), heapN) :=
  Gives.by (n := 1000) (os := []) (os' := []) (by kernel_rfl) (ObsOK.nil)
theorem un10_gives (a : Int) (b : Int) (c : Int) (d : Int) (e : Int) : Gives Tryd.prog env0 0 50 [(.agg #[(I a), (I b), (I c), (I d), (I e), (I 10)])] heapN ((I 1024), heapN) := by
  exact un10_p0 a b c d e
theorem ru10_p0 (a : Int) (b : Int) (c : Int) (d : Int) (e : Int) : Gives Tryd.prog env0 0 68 [(.agg #[(I a), (I b), (I c), (I d), (I e), (I 10)])] heapN ((I 1024), heapN) :=
  Gives.by (n := 1000) (os := []) (os' := []) (by kernel_rfl) (ObsOK.nil)
theorem ru10_gives (a : Int) (b : Int) (c : Int) (d : Int) (e : Int) : Gives Tryd.prog env0 0 68 [(.agg #[(I a), (I b), (I c), (I d), (I e), (I 10)])] heapN ((I 1024), heapN) := by
  exact ru10_p0 a b c d e
theorem un11_p0 (a : Int) (b : Int) (c : Int) (d : Int) (e : Int) : Gives Tryd.prog env0 0 50 [(.agg #[(I a), (I b), (I c), (I d), (I e), (I 11)])] heapN ((I 2048), heapN) :=
  Gives.by (n := 1000) (os := []) (os' := []) (by kernel_rfl) (ObsOK.nil)
theorem un11_gives (a : Int) (b : Int) (c : Int) (d : Int) (e : Int) : Gives Tryd.prog env0 0 50 [(.agg #[(I a), (I b), (I c), (I d), (I e), (I 11)])] heapN ((I 2048), heapN) := by
  exact un11_p0 a b c d e
theorem ru11_p0 (a : Int) (b : Int) (c : Int) (d : Int) (e : Int) : Gives Tryd.prog env0 0 68 [(.agg #[(I a), (I b), (I c), (I d), (I e), (I 11)])] heapN ((I 2048), heapN) :=
  Gives.by (n := 1000) (os := []) (os' := []) (by kernel_rfl) (ObsOK.nil)
theorem ru11_gives (a : Int) (b : Int) (c : Int) (d : Int) (e : Int) : Gives Tryd.prog env0 0 68 [(.agg #[(I a), (I b), (I c), (I d), (I e), (I 11)])] heapN ((I 2048), heapN) := by
  exact ru11_p0 a b c d e
theorem un12_p0 (a : Int) (b : Int) (c : Int) (d : Int) (e : Int) : Gives Tryd.prog env0 0 50 [(.agg #[(I a), (I b), (I c), (I d), (I e), (I 12)])] heapN ((I 4096), heapN) :=
  Gives.by (n := 1000) (os := []) (os' := []) (by kernel_rfl) (ObsOK.nil)
theorem un12_gives (a : Int) (b : Int) (c : Int) (d : Int) (e : Int) : Gives Tryd.prog env0 0 50 [(.agg #[(I a), (I b), (I c), (I d), (I e), (I 12)])] heapN ((I 4096), heapN) := by
  exact un12_p0 a b c d e
theorem ru12_p0 (a : Int) (b : Int) (c : Int) (d : Int) (e : Int) : Gives Tryd.prog env0 0 68 [(.agg #[(I a), (I b), (I c), (I d), (I e), (I 12)])] heapN ((I 4096), heapN) :=
  Gives.by (n := 1000) (os := []) (os' := []) (by kernel_rfl) (ObsOK.nil)
theorem ru12_gives (a : Int) (b : Int) (c : Int) (d : Int) (e : Int) : Gives Tryd.prog env0 0 68 [(.agg #[(I a), (I b), (I c), (I d), (I e), (I 12)])] heapN ((I 4096), heapN) := by
  exact ru12_p0 a b c d e
theorem un13_p0 (a : Int) (b : Int) (c : Int) (d : Int) (e : Int) : Gives Tryd.prog env0 0 50 [(.agg #[(I a), (I b), (I c), (I d), (I e), (I 13)])] heapN ((I 8192), heapN) :=
  Gives.by (n := 1000) (os := []) (os' := []) (by kernel_rfl) (ObsOK.nil)
theorem un13_gives (a : Int) (b : Int) (c : Int) (d : Int) (e : Int) : Gives Tryd.prog env0 0 50 [(.agg #[(I a), (I b), (I c), (I d), (I e), (I 13)])] heapN ((I 8192), heapN) := by
  exact un13_p0 a b c d e
theorem ru13_p0 (a : Int) (b : Int) (c : Int) (d : Int) (e : Int) : Gives Tryd.prog env0 0 68 [(.agg #[(I a), (I b), (I c), (I d), (I e), (I 13)])] heapN ((I 8192), heapN) :=
  Gives.by (n := 1000) (os := []) (os' := []) (by kernel_rfl) (ObsOK.nil)
theorem ru13_gives (a : Int) (b : Int) (c : Int) (d : Int) (e : Int) : Gives Tryd.prog env0 0 68 [(.agg #[(I a), (I b), (I c), (I d), (I e), (I 13)])] heapN ((I 8192), heapN) := by
  exact ru13_p0 a b c d e
theorem un14_p0 (a : Int) (b : Int) (c : Int) (d : Int) (e : Int) : Gives Tryd.prog env0 0 50 [(.agg #[(I a), (I b), (I c), (I d), (I e), (I 14)])] heapN ((I 16384), heapN) :=
  Gives.by (n := 1000) (os := []) (os' := []) (by kernel_rfl) (ObsOK.nil)
theorem un14_gives (a : Int) (b : Int) (c : Int) (d : Int) (e : Int) : Gives Tryd.prog env0 0 50 [(.agg #[(I a), (I b), (I c), (I d), (I e), (I 14)])] heapN ((I 16384), heapN) := by
  exact un14_p0 a b c d e
theorem ru14_p0 (a : Int) (b : Int) (c : Int) (d : Int) (e : Int) : Gives Tryd.prog env0 0 68 [(.agg #[(I a), (I b), (I c), (I d), (I e), (I 14)])] heapN ((I 16384), heapN) :=
  Gives.by (n := 1000) (os := []) (os' := []) (by kernel_rfl) (ObsOK.nil)
theorem ru14_gives (a : Int) (b : Int) (c : Int) (d : Int) (e : Int) : Gives Tryd.prog env0 0 68 [(.agg #[(I a), (I b), (I c), (I d), (I e), (I 14)])] heapN ((I 16384), heapN) := by
  exact ru14_p0 a b c d e
theorem un15_p0 (a : Int) (b : Int) (c : Int) (d : Int) (e : Int) : Gives Tryd.prog env0 0 50 [(.agg #[(I a), (I b), (I c), (I d), (I e), (I 15)])] heapN ((I 32768), heapN) :=
  Gives.by (n := 1000) (os := []) (os' := []) (by kernel_rfl) (ObsOK.nil)
theorem un15_gives (a : Int) (b : Int) (c : Int) (d : Int) (e : Int) : Gives Tryd.prog env0 0 50 [(.agg #[(I a), (I b), (I c), (I d), (I e), (I 15)])] heapN ((I 32768), heapN) := by
  exact un15_p0 a b c d e
theorem ru15_p0 (a : Int) (b : Int) (c : Int) (d : Int) (e : Int) : Gives Tryd.prog env0 0 68 [(.agg #[(I a), (I b), (I c), (I d), (I e), (I 15)])] heapN ((I 32768), heapN) :=
  Gives.by (n := 1000) (os := []) (os' := []) (by kernel_rfl) (ObsOK.nil)
theorem ru15_gives (a : Int) (b : Int) (c : Int) (d : Int) (e : Int) : Gives Tryd.prog env0 0 68 [(.agg #[(I a), (I b), (I c), (I d), (I e), (I 15)])] heapN ((I 32768), heapN) := by
  exact ru15_p0 a b c d e
def B_envSa_47 (args : List Value) : Option (Heap × Value) :=
    match args with
    | [(.int .i64 (n)), (.int .i64 (a)), (.int .i64 (b))] => some (heapN, (.int .i64 (cr_r0 n a b)))
    | _ => none
theorem B_envSa_47_ok {args : List Value} {H : Heap} {v : Value} (h : B_envSa_47 args = some (H, v)) : 5 ≤ H.length ∧ H.all tableRow = true ∧ Gives Tryd.prog env0 0 47 args H (v, H) := by
  unfold B_envSa_47 at h
  split at h
  · cases h; exact heapN_ok (cr_gives _ _ _)
  · cases h
def B_envSa_64 (args : List Value) : Option (Heap × Value) :=
    match args with
    | [(.int .i64 (n))] => some (heapN, (.int .i64 (lim_r0 n)))
    | _ => none
theorem B_envSa_64_ok {args : List Value} {H : Heap} {v : Value} (h : B_envSa_64 args = some (H, v)) : 5 ≤ H.length ∧ H.all tableRow = true ∧ Gives Tryd.prog env0 0 64 args H (v, H) := by
  unfold B_envSa_64 at h
  split at h
  · cases h; exact heapN_ok (lim_gives _)
  · cases h
def B_envSa_49 (args : List Value) : Option (Heap × Value) :=
    match args with
    | [(.int .i64 (n))] => some (heapN, (.int .i64 (ab_r0 n)))
    | _ => none
theorem B_envSa_49_ok {args : List Value} {H : Heap} {v : Value} (h : B_envSa_49 args = some (H, v)) : 5 ≤ H.length ∧ H.all tableRow = true ∧ Gives Tryd.prog env0 0 49 args H (v, H) := by
  unfold B_envSa_49 at h
  split at h
  · cases h; exact heapN_ok (ab_gives _)
  · cases h
def B_envSa_70 (args : List Value) : Option (Heap × Value) :=
    match args with
    | [(.agg ⟨[(.int .i64 (a)), (.int .i64 (b))]⟩), (.agg ⟨[(.int .i64 (c)), (.int .i64 (d))]⟩)] => some (heapN, (.agg #[(.int .i64 (pl_r0 a b c d)), (.int .i64 (pl_r1 a b c d))]))
    | _ => none
theorem B_envSa_70_ok {args : List Value} {H : Heap} {v : Value} (h : B_envSa_70 args = some (H, v)) : 5 ≤ H.length ∧ H.all tableRow = true ∧ Gives Tryd.prog env0 0 70 args H (v, H) := by
  unfold B_envSa_70 at h
  split at h
  · cases h; exact heapN_ok (pl_gives _ _ _ _)
  · cases h
def B_envSa_71 (args : List Value) : Option (Heap × Value) :=
    match args with
    | [(.agg ⟨[(.int .i64 (a)), (.int .i64 (b))]⟩), (.agg ⟨[(.int .i64 (c)), (.int .i64 (d))]⟩)] => some (heapN, (.agg #[(.int .i64 (ti_r0 a b c d)), (.int .i64 (ti_r1 a b c d))]))
    | _ => none
theorem B_envSa_71_ok {args : List Value} {H : Heap} {v : Value} (h : B_envSa_71 args = some (H, v)) : 5 ≤ H.length ∧ H.all tableRow = true ∧ Gives Tryd.prog env0 0 71 args H (v, H) := by
  unfold B_envSa_71 at h
  split at h
  · cases h; exact heapN_ok (ti_gives _ _ _ _)
  · cases h
def B_envSa_39 (args : List Value) : Option (Heap × Value) :=
    match args with
    | [(.int .i64 (n)), (.int .i64 (a)), (.int .i64 (b))] => some (heapN, (.int .i64 (rcr_r0 n a b)))
    | _ => none
theorem B_envSa_39_ok {args : List Value} {H : Heap} {v : Value} (h : B_envSa_39 args = some (H, v)) : 5 ≤ H.length ∧ H.all tableRow = true ∧ Gives Tryd.prog env0 0 39 args H (v, H) := by
  unfold B_envSa_39 at h
  split at h
  · cases h; exact heapN_ok (rcr_gives _ _ _)
  · cases h
def B_envSa_43 (args : List Value) : Option (Heap × Value) :=
    match args with
    | [(.int .i64 (n))] => some (heapN, (.int .i64 (rab_r0 n)))
    | _ => none
theorem B_envSa_43_ok {args : List Value} {H : Heap} {v : Value} (h : B_envSa_43 args = some (H, v)) : 5 ≤ H.length ∧ H.all tableRow = true ∧ Gives Tryd.prog env0 0 43 args H (v, H) := by
  unfold B_envSa_43 at h
  split at h
  · cases h; exact heapN_ok (rab_gives _)
  · cases h
def B_envSa_50 (args : List Value) : Option (Heap × Value) :=
    match args with
    | [(.agg ⟨[(.int .i64 (a)), (.int .i64 (b)), (.int .i64 (c)), (.int .i64 (d)), (.int .i64 (e)), (.int .i64 (q0))]⟩)] =>
      if q0 == 0 then some (heapN, (I 1)) else
      if q0 == 1 then some (heapN, (I 2)) else
      if q0 == 2 then some (heapN, (I 4)) else
      if q0 == 3 then some (heapN, (I 8)) else
      if q0 == 4 then some (heapN, (I 16)) else
      if q0 == 5 then some (heapN, (I 32)) else
      if q0 == 6 then some (heapN, (I 64)) else
      if q0 == 7 then some (heapN, (I 128)) else
      if q0 == 8 then some (heapN, (I 256)) else
      if q0 == 9 then some (heapN, (I 512)) else
      if q0 == 10 then some (heapN, (I 1024)) else
      if q0 == 11 then some (heapN, (I 2048)) else
      if q0 == 12 then some (heapN, (I 4096)) else
      if q0 == 13 then some (heapN, (I 8192)) else
      if q0 == 14 then some (heapN, (I 16384)) else
      if q0 == 15 then some (heapN, (I 32768)) else
      none
    | _ => none
theorem B_envSa_50_ok {args : List Value} {H : Heap} {v : Value} (h : B_envSa_50 args = some (H, v)) : 5 ≤ H.length ∧ H.all tableRow = true ∧ Gives Tryd.prog env0 0 50 args H (v, H) := by
  unfold B_envSa_50 at h
  split at h
  · skip
    rcases ite_or h with ⟨hf, h⟩ | h
    · obtain rfl := eq_of_beq hf; cases h; exact heapN_ok (un0_gives _ _ _ _ _)
    rcases ite_or h with ⟨hf, h⟩ | h
    · obtain rfl := eq_of_beq hf; cases h; exact heapN_ok (un1_gives _ _ _ _ _)
    rcases ite_or h with ⟨hf, h⟩ | h
    · obtain rfl := eq_of_beq hf; cases h; exact heapN_ok (un2_gives _ _ _ _ _)
    rcases ite_or h with ⟨hf, h⟩ | h
    · obtain rfl := eq_of_beq hf; cases h; exact heapN_ok (un3_gives _ _ _ _ _)
    rcases ite_or h with ⟨hf, h⟩ | h
    · obtain rfl := eq_of_beq hf; cases h; exact heapN_ok (un4_gives _ _ _ _ _)
    rcases ite_or h with ⟨hf, h⟩ | h
    · obtain rfl := eq_of_beq hf; cases h; exact heapN_ok (un5_gives _ _ _ _ _)
    rcases ite_or h with ⟨hf, h⟩ | h
    · obtain rfl := eq_of_beq hf; cases h; exact heapN_ok (un6_gives _ _ _ _ _)
    rcases ite_or h with ⟨hf, h⟩ | h
    · obtain rfl := eq_of_beq hf; cases h; exact heapN_ok (un7_gives _ _ _ _ _)
    rcases ite_or h with ⟨hf, h⟩ | h
    · obtain rfl := eq_of_beq hf; cases h; exact heapN_ok (un8_gives _ _ _ _ _)
    rcases ite_or h with ⟨hf, h⟩ | h
    · obtain rfl := eq_of_beq hf; cases h; exact heapN_ok (un9_gives _ _ _ _ _)
    rcases ite_or h with ⟨hf, h⟩ | h
    · obtain rfl := eq_of_beq hf; cases h; exact heapN_ok (un10_gives _ _ _ _ _)
    rcases ite_or h with ⟨hf, h⟩ | h
    · obtain rfl := eq_of_beq hf; cases h; exact heapN_ok (un11_gives _ _ _ _ _)
    rcases ite_or h with ⟨hf, h⟩ | h
    · obtain rfl := eq_of_beq hf; cases h; exact heapN_ok (un12_gives _ _ _ _ _)
    rcases ite_or h with ⟨hf, h⟩ | h
    · obtain rfl := eq_of_beq hf; cases h; exact heapN_ok (un13_gives _ _ _ _ _)
    rcases ite_or h with ⟨hf, h⟩ | h
    · obtain rfl := eq_of_beq hf; cases h; exact heapN_ok (un14_gives _ _ _ _ _)
    rcases ite_or h with ⟨hf, h⟩ | h
    · obtain rfl := eq_of_beq hf; cases h; exact heapN_ok (un15_gives _ _ _ _ _)
    cases h
  · cases h
def B_envSa_68 (args : List Value) : Option (Heap × Value) :=
    match args with
    | [(.agg ⟨[(.int .i64 (a)), (.int .i64 (b)), (.int .i64 (c)), (.int .i64 (d)), (.int .i64 (e)), (.int .i64 (q0))]⟩)] =>
      if q0 == 0 then some (heapN, (I 1)) else
      if q0 == 1 then some (heapN, (I 2)) else
      if q0 == 2 then some (heapN, (I 4)) else
      if q0 == 3 then some (heapN, (I 8)) else
      if q0 == 4 then some (heapN, (I 16)) else
      if q0 == 5 then some (heapN, (I 32)) else
      if q0 == 6 then some (heapN, (I 64)) else
      if q0 == 7 then some (heapN, (I 128)) else
      if q0 == 8 then some (heapN, (I 256)) else
      if q0 == 9 then some (heapN, (I 512)) else
      if q0 == 10 then some (heapN, (I 1024)) else
      if q0 == 11 then some (heapN, (I 2048)) else
      if q0 == 12 then some (heapN, (I 4096)) else
      if q0 == 13 then some (heapN, (I 8192)) else
      if q0 == 14 then some (heapN, (I 16384)) else
      if q0 == 15 then some (heapN, (I 32768)) else
      none
    | _ => none
theorem B_envSa_68_ok {args : List Value} {H : Heap} {v : Value} (h : B_envSa_68 args = some (H, v)) : 5 ≤ H.length ∧ H.all tableRow = true ∧ Gives Tryd.prog env0 0 68 args H (v, H) := by
  unfold B_envSa_68 at h
  split at h
  · skip
    rcases ite_or h with ⟨hf, h⟩ | h
    · obtain rfl := eq_of_beq hf; cases h; exact heapN_ok (ru0_gives _ _ _ _ _)
    rcases ite_or h with ⟨hf, h⟩ | h
    · obtain rfl := eq_of_beq hf; cases h; exact heapN_ok (ru1_gives _ _ _ _ _)
    rcases ite_or h with ⟨hf, h⟩ | h
    · obtain rfl := eq_of_beq hf; cases h; exact heapN_ok (ru2_gives _ _ _ _ _)
    rcases ite_or h with ⟨hf, h⟩ | h
    · obtain rfl := eq_of_beq hf; cases h; exact heapN_ok (ru3_gives _ _ _ _ _)
    rcases ite_or h with ⟨hf, h⟩ | h
    · obtain rfl := eq_of_beq hf; cases h; exact heapN_ok (ru4_gives _ _ _ _ _)
    rcases ite_or h with ⟨hf, h⟩ | h
    · obtain rfl := eq_of_beq hf; cases h; exact heapN_ok (ru5_gives _ _ _ _ _)
    rcases ite_or h with ⟨hf, h⟩ | h
    · obtain rfl := eq_of_beq hf; cases h; exact heapN_ok (ru6_gives _ _ _ _ _)
    rcases ite_or h with ⟨hf, h⟩ | h
    · obtain rfl := eq_of_beq hf; cases h; exact heapN_ok (ru7_gives _ _ _ _ _)
    rcases ite_or h with ⟨hf, h⟩ | h
    · obtain rfl := eq_of_beq hf; cases h; exact heapN_ok (ru8_gives _ _ _ _ _)
    rcases ite_or h with ⟨hf, h⟩ | h
    · obtain rfl := eq_of_beq hf; cases h; exact heapN_ok (ru9_gives _ _ _ _ _)
    rcases ite_or h with ⟨hf, h⟩ | h
    · obtain rfl := eq_of_beq hf; cases h; exact heapN_ok (ru10_gives _ _ _ _ _)
    rcases ite_or h with ⟨hf, h⟩ | h
    · obtain rfl := eq_of_beq hf; cases h; exact heapN_ok (ru11_gives _ _ _ _ _)
    rcases ite_or h with ⟨hf, h⟩ | h
    · obtain rfl := eq_of_beq hf; cases h; exact heapN_ok (ru12_gives _ _ _ _ _)
    rcases ite_or h with ⟨hf, h⟩ | h
    · obtain rfl := eq_of_beq hf; cases h; exact heapN_ok (ru13_gives _ _ _ _ _)
    rcases ite_or h with ⟨hf, h⟩ | h
    · obtain rfl := eq_of_beq hf; cases h; exact heapN_ok (ru14_gives _ _ _ _ _)
    rcases ite_or h with ⟨hf, h⟩ | h
    · obtain rfl := eq_of_beq hf; cases h; exact heapN_ok (ru15_gives _ _ _ _ _)
    cases h
  · cases h
def B_envSa (f : FuncId) (args : List Value) : Option (Heap × Value) :=
  if f == 47 then B_envSa_47 args else
  if f == 64 then B_envSa_64 args else
  if f == 49 then B_envSa_49 args else
  if f == 70 then B_envSa_70 args else
  if f == 71 then B_envSa_71 args else
  if f == 39 then B_envSa_39 args else
  if f == 43 then B_envSa_43 args else
  if f == 50 then B_envSa_50 args else
  if f == 68 then B_envSa_68 args else
  none
noncomputable def envSa : Env := env0.with (baseKnown B_envSa)
theorem envSa_ok : EnvOK Tryd.prog 5 envSa := env_base prog_ok env0_ok fun f args H v h => by
  unfold B_envSa at h
  rcases ite_or h with ⟨hf, h⟩ | h
  · obtain rfl : f = 47 := eq_of_beq hf
    exact B_envSa_47_ok h
  rcases ite_or h with ⟨hf, h⟩ | h
  · obtain rfl : f = 64 := eq_of_beq hf
    exact B_envSa_64_ok h
  rcases ite_or h with ⟨hf, h⟩ | h
  · obtain rfl : f = 49 := eq_of_beq hf
    exact B_envSa_49_ok h
  rcases ite_or h with ⟨hf, h⟩ | h
  · obtain rfl : f = 70 := eq_of_beq hf
    exact B_envSa_70_ok h
  rcases ite_or h with ⟨hf, h⟩ | h
  · obtain rfl : f = 71 := eq_of_beq hf
    exact B_envSa_71_ok h
  rcases ite_or h with ⟨hf, h⟩ | h
  · obtain rfl : f = 39 := eq_of_beq hf
    exact B_envSa_39_ok h
  rcases ite_or h with ⟨hf, h⟩ | h
  · obtain rfl : f = 43 := eq_of_beq hf
    exact B_envSa_43_ok h
  rcases ite_or h with ⟨hf, h⟩ | h
  · obtain rfl : f = 50 := eq_of_beq hf
    exact B_envSa_50_ok h
  rcases ite_or h with ⟨hf, h⟩ | h
  · obtain rfl : f = 68 := eq_of_beq hf
    exact B_envSa_68_ok h
  cases h
end Go.Proofs.YtpmicgdplihlfaaDoor
/-
What functions give.
-/
namespace Go.Proofs.YtpmicgdplihlfaaDoor
open Go Go.Abs
def cs_c0 (a : Int) (b : Int) (c : Int) (d : Int) (e : Int) (s : Int) : Bool := cr_r0 a (-32767) 32767 != 0
def cs_c1 (a : Int) (b : Int) (c : Int) (d : Int) (e : Int) (s : Int) : Bool := cr_r0 b (-32767) 32767 != 0
def cs_c2 (a : Int) (b : Int) (c : Int) (d : Int) (e : Int) (s : Int) : Bool := cr_r0 c (-32767) 32767 != 0
def cs_c3 (a : Int) (b : Int) (c : Int) (d : Int) (e : Int) (s : Int) : Bool := cr_r0 d (-32767) 32767 != 0
def cs_c4 (a : Int) (b : Int) (c : Int) (d : Int) (e : Int) (s : Int) : Bool := cr_r0 e (-32767) 32767 != 0
def cs_c5 (a : Int) (b : Int) (c : Int) (d : Int) (e : Int) (s : Int) : Bool := cr_r0 s 0 15 != 0
theorem cs_p0 (a : Int) (b : Int) (c : Int) (d : Int) (e : Int) (s : Int) (h0 : cs_c0 a b c d e s = true) : Gives Tryd.prog envSa 0 32 [(.agg #[(I a), (I b), (I c), (I d), (I e), (I s)])] heapN ((I (cr_r0 a (-32767) 32767)), heapN) :=
  Gives.by (n := 1000) (os := [.br 31 26 true]) (os' := []) (by kernel_rfl) (ObsOK.cond h0 (ObsOK.nil))
theorem cs_p1 (a : Int) (b : Int) (c : Int) (d : Int) (e : Int) (s : Int) (h0 : cs_c0 a b c d e s = false) (h1 : cs_c1 a b c d e s = true) : Gives Tryd.prog envSa 0 32 [(.agg #[(I a), (I b), (I c), (I d), (I e), (I s)])] heapN ((I (cr_r0 b (-32767) 32767)), heapN) :=
  Gives.by (n := 1000) (os := [.br 31 26 false, .br 31 26 true]) (os' := []) (by kernel_rfl) (ObsOK.cond h0 (ObsOK.cond h1 (ObsOK.nil)))
theorem cs_p2 (a : Int) (b : Int) (c : Int) (d : Int) (e : Int) (s : Int) (h0 : cs_c0 a b c d e s = false) (h1 : cs_c1 a b c d e s = false) (h2 : cs_c2 a b c d e s = true) : Gives Tryd.prog envSa 0 32 [(.agg #[(I a), (I b), (I c), (I d), (I e), (I s)])] heapN ((I (cr_r0 c (-32767) 32767)), heapN) :=
  Gives.by (n := 1000) (os := [.br 31 26 false, .br 31 26 false, .br 31 26 true]) (os' := []) (by kernel_rfl) (ObsOK.cond h0 (ObsOK.cond h1 (ObsOK.cond h2 (ObsOK.nil))))
theorem cs_p3 (a : Int) (b : Int) (c : Int) (d : Int) (e : Int) (s : Int) (h0 : cs_c0 a b c d e s = false) (h1 : cs_c1 a b c d e s = false) (h2 : cs_c2 a b c d e s = false) (h3 : cs_c3 a b c d e s = true) : Gives Tryd.prog envSa 0 32 [(.agg #[(I a), (I b), (I c), (I d), (I e), (I s)])] heapN ((I (cr_r0 d (-32767) 32767)), heapN) :=
  Gives.by (n := 1000) (os := [.br 31 26 false, .br 31 26 false, .br 31 26 false, .br 31 26 true]) (os' := []) (by kernel_rfl) (ObsOK.cond h0 (ObsOK.cond h1 (ObsOK.cond h2 (ObsOK.cond h3 (ObsOK.nil)))))
theorem cs_p4 (a : Int) (b : Int) (c : Int) (d : Int) (e : Int) (s : Int) (h0 : cs_c0 a b c d e s = false) (h1 : cs_c1 a b c d e s = false) (h2 : cs_c2 a b c d e s = false) (h3 : cs_c3 a b c d e s = false) (h4 : cs_c4 a b c d e s = true) : Gives Tryd.prog envSa 0 32 [(.agg #[(I a), (I b), (I c), (I d), (I e), (I s)])] heapN ((I (cr_r0 e (-32767) 32767)), heapN) :=
  Gives.by (n := 1000) (os := [.br 31 26 false, .br 31 26 false, .br 31 26 false, .br 31 26 false, .br 31 26 true]) (os' := []) (by kernel_rfl) (ObsOK.cond h0 (ObsOK.cond h1 (ObsOK.cond h2 (ObsOK.cond h3 (ObsOK.cond h4 (ObsOK.nil))))))
theorem cs_p5 (a : Int) (b : Int) (c : Int) (d : Int) (e : Int) (s : Int) (h0 : cs_c0 a b c d e s = false) (h1 : cs_c1 a b c d e s = false) (h2 : cs_c2 a b c d e s = false) (h3 : cs_c3 a b c d e s = false) (h4 : cs_c4 a b c d e s = false) (h5 : cs_c5 a b c d e s = true) : Gives Tryd.prog envSa 0 32 [(.agg #[(I a), (I b), (I c), (I d), (I e), (I s)])] heapN ((I (cr_r0 s 0 15)), heapN) :=
  Gives.by (n := 1000) (os := [.br 31 26 false, .br 31 26 false, .br 31 26 false, .br 31 26 false, .br 31 26 false, .br 31 26 true]) (os' := []) (by kernel_rfl) (ObsOK.cond h0 (ObsOK.cond h1 (ObsOK.cond h2 (ObsOK.cond h3 (ObsOK.cond h4 (ObsOK.cond h5 (ObsOK.nil)))))))
theorem cs_p6 (a : Int) (b : Int) (c : Int) (d : Int) (e : Int) (s : Int) (h0 : cs_c0 a b c d e s = false) (h1 : cs_c1 a b c d e s = false) (h2 : cs_c2 a b c d e s = false) (h3 : cs_c3 a b c d e s = false) (h4 : cs_c4 a b c d e s = false) (h5 : cs_c5 a b c d e s = false) : Gives Tryd.prog envSa 0 32 [(.agg #[(I a), (I b), (I c), (I d), (I e), (I s)])] heapN ((I 0), heapN) :=
  Gives.by (n := 1000) (os := [.br 31 26 false, .br 31 26 false, .br 31 26 false, .br 31 26 false, .br 31 26 false, .br 31 26 false]) (os' := []) (by kernel_rfl) (ObsOK.cond h0 (ObsOK.cond h1 (ObsOK.cond h2 (ObsOK.cond h3 (ObsOK.cond h4 (ObsOK.cond h5 (ObsOK.nil)))))))
def cs_r0 (a : Int) (b : Int) (c : Int) (d : Int) (e : Int) (s : Int) : Int := (cond (cs_c0 a b c d e s) (cr_r0 a (-32767) 32767) (cond (cs_c1 a b c d e s) (cr_r0 b (-32767) 32767) (cond (cs_c2 a b c d e s) (cr_r0 c (-32767) 32767) (cond (cs_c3 a b c d e s) (cr_r0 d (-32767) 32767) (cond (cs_c4 a b c d e s) (cr_r0 e (-32767) 32767) (cond (cs_c5 a b c d e s) (cr_r0 s 0 15) (0)))))))
theorem cs_gives (a : Int) (b : Int) (c : Int) (d : Int) (e : Int) (s : Int) : Gives Tryd.prog envSa 0 32 [(.agg #[(I a), (I b), (I c), (I d), (I e), (I s)])] heapN ((I (cs_r0 a b c d e s)), heapN) := by
  cases g0 : cs_c0 a b c d e s
  · skip
    cases g1 : cs_c1 a b c d e s
    · skip
      cases g2 : cs_c2 a b c d e s
      · skip
        cases g3 : cs_c3 a b c d e s
        · skip
          cases g4 : cs_c4 a b c d e s
          · skip
            cases g5 : cs_c5 a b c d e s
            · skip
              simp only [cs_r0, g0, g1, g2, g3, g4, g5, cond_true, cond_false]; exact cs_p6 a b c d e s g0 g1 g2 g3 g4 g5
            · skip
              simp only [cs_r0, g0, g1, g2, g3, g4, g5, cond_true, cond_false]; exact cs_p5 a b c d e s g0 g1 g2 g3 g4 g5
          · skip
            simp only [cs_r0, g0, g1, g2, g3, g4, cond_true, cond_false]; exact cs_p4 a b c d e s g0 g1 g2 g3 g4
        · skip
          simp only [cs_r0, g0, g1, g2, g3, cond_true, cond_false]; exact cs_p3 a b c d e s g0 g1 g2 g3
      · skip
        simp only [cs_r0, g0, g1, g2, cond_true, cond_false]; exact cs_p2 a b c d e s g0 g1 g2
    · skip
      simp only [cs_r0, g0, g1, cond_true, cond_false]; exact cs_p1 a b c d e s g0 g1
  · skip
    simp only [cs_r0, g0, cond_true, cond_false]; exact cs_p0 a b c d e s g0
def st_c0 (a : Int) (b : Int) (c : Int) (d : Int) : Bool := !(lim_r0 a == a && (lim_r0 b == b && (lim_r0 c == c && (lim_r0 d == d && true))))
theorem st_p0 (a : Int) (b : Int) (c : Int) (d : Int) (h0 : st_c0 a b c d = true) : Gives Tryd.prog envSa 0 33 [(.agg #[(I a), (I b), (I c), (I d)])] heapN ((I 3), heapN) :=
  Gives.by (n := 1000) (os := [.br 45 12 true]) (os' := []) (by kernel_rfl) (ObsOK.cond h0 (ObsOK.nil))
theorem st_p1 (a : Int) (b : Int) (c : Int) (d : Int) (h0 : st_c0 a b c d = false) : Gives Tryd.prog envSa 0 33 [(.agg #[(I a), (I b), (I c), (I d)])] heapN ((I 0), heapN) :=
  Gives.by (n := 1000) (os := [.br 45 12 false]) (os' := []) (by kernel_rfl) (ObsOK.cond h0 (ObsOK.nil))
def st_r0 (a : Int) (b : Int) (c : Int) (d : Int) : Int := (cond (st_c0 a b c d) (3) (0))
theorem st_gives (a : Int) (b : Int) (c : Int) (d : Int) : Gives Tryd.prog envSa 0 33 [(.agg #[(I a), (I b), (I c), (I d)])] heapN ((I (st_r0 a b c d)), heapN) := by
  cases g0 : st_c0 a b c d
  · skip
    simp only [st_r0, g0, cond_true, cond_false]; exact st_p1 a b c d g0
  · skip
    simp only [st_r0, g0, cond_true, cond_false]; exact st_p0 a b c d g0
def cv_c0 (n : Int) : Bool := n != lim_r0 n
theorem cv_p0 (n : Int) (h0 : cv_c0 n = true) : Gives Tryd.prog envSa 0 46 [(I n)] heapN ((I 3), heapN) :=
  Gives.by (n := 1000) (os := [.br 45 12 true]) (os' := []) (by kernel_rfl) (ObsOK.cond h0 (ObsOK.nil))
theorem cv_p1 (n : Int) (h0 : cv_c0 n = false) : Gives Tryd.prog envSa 0 46 [(I n)] heapN ((I 0), heapN) :=
  Gives.by (n := 1000) (os := [.br 45 12 false]) (os' := []) (by kernel_rfl) (ObsOK.cond h0 (ObsOK.nil))
def cv_r0 (n : Int) : Int := (cond (cv_c0 n) (3) (0))
theorem cv_gives (n : Int) : Gives Tryd.prog envSa 0 46 [(I n)] heapN ((I (cv_r0 n)), heapN) := by
  cases g0 : cv_c0 n
  · skip
    simp only [cv_r0, g0, cond_true, cond_false]; exact cv_p1 n g0
  · skip
    simp only [cv_r0, g0, cond_true, cond_false]; exact cv_p0 n g0
theorem rci_p0 (n : Int) : Gives Tryd.prog envSa 0 40 [(I n)] heapN ((I (rcr_r0 n (-32767) 32767)), heapN) :=
  Gives.by (n := 1000) (os := []) (os' := []) (by kernel_rfl) (ObsOK.nil)
def rci_r0 (n : Int) : Int := (rcr_r0 n (-32767) 32767)
theorem rci_gives (n : Int) : Gives Tryd.prog envSa 0 40 [(I n)] heapN ((I (rci_r0 n)), heapN) := by
  simp only [rci_r0, cond_true, cond_false]; exact rci_p0 n
def rcs_c0 (a : Int) (b : Int) (c : Int) (d : Int) (e : Int) (s : Int) : Bool := rcr_r0 a (-32767) 32767 != 0
def rcs_c1 (a : Int) (b : Int) (c : Int) (d : Int) (e : Int) (s : Int) : Bool := rcr_r0 b (-32767) 32767 != 0
def rcs_c2 (a : Int) (b : Int) (c : Int) (d : Int) (e : Int) (s : Int) : Bool := rcr_r0 c (-32767) 32767 != 0
def rcs_c3 (a : Int) (b : Int) (c : Int) (d : Int) (e : Int) (s : Int) : Bool := rcr_r0 d (-32767) 32767 != 0
def rcs_c4 (a : Int) (b : Int) (c : Int) (d : Int) (e : Int) (s : Int) : Bool := rcr_r0 e (-32767) 32767 != 0
theorem rcs_p0 (a : Int) (b : Int) (c : Int) (d : Int) (e : Int) (s : Int) (h0 : rcs_c0 a b c d e s = true) : Gives Tryd.prog envSa 0 12 [(.agg #[(I a), (I b), (I c), (I d), (I e), (I s)])] heapN ((I (rcr_r0 a (-32767) 32767)), heapN) :=
  Gives.by (n := 1000) (os := [.br 12 38 true]) (os' := []) (by kernel_rfl) (ObsOK.cond h0 (ObsOK.nil))
theorem rcs_p1 (a : Int) (b : Int) (c : Int) (d : Int) (e : Int) (s : Int) (h0 : rcs_c0 a b c d e s = false) (h1 : rcs_c1 a b c d e s = true) : Gives Tryd.prog envSa 0 12 [(.agg #[(I a), (I b), (I c), (I d), (I e), (I s)])] heapN ((I (rcr_r0 b (-32767) 32767)), heapN) :=
  Gives.by (n := 1000) (os := [.br 12 38 false, .br 12 38 true]) (os' := []) (by kernel_rfl) (ObsOK.cond h0 (ObsOK.cond h1 (ObsOK.nil)))
theorem rcs_p2 (a : Int) (b : Int) (c : Int) (d : Int) (e : Int) (s : Int) (h0 : rcs_c0 a b c d e s = false) (h1 : rcs_c1 a b c d e s = false) (h2 : rcs_c2 a b c d e s = true) : Gives Tryd.prog envSa 0 12 [(.agg #[(I a), (I b), (I c), (I d), (I e), (I s)])] heapN ((I (rcr_r0 c (-32767) 32767)), heapN) :=
  Gives.by (n := 1000) (os := [.br 12 38 false, .br 12 38 false, .br 12 38 true]) (os' := []) (by kernel_rfl) (ObsOK.cond h0 (ObsOK.cond h1 (ObsOK.cond h2 (ObsOK.nil))))
theorem rcs_p3 (a : Int) (b : Int) (c : Int) (d : Int) (e : Int) (s : Int) (h0 : rcs_c0 a b c d e s = false) (h1 : rcs_c1 a b c d e s = false) (h2 : rcs_c2 a b c d e s = false) (h3 : rcs_c3 a b c d e s = true) : Gives Tryd.prog envSa 0 12 [(.agg #[(I a), (I b), (I c), (I d), (I e), (I s)])] heapN ((I (rcr_r0 d (-32767) 32767)), heapN) :=
  Gives.by (n := 1000) (os := [.br 12 38 false, .br 12 38 false, .br 12 38 false, .br 12 38 true]) (os' := []) (by kernel_rfl) (ObsOK.cond h0 (ObsOK.cond h1 (ObsOK.cond h2 (ObsOK.cond h3 (ObsOK.nil)))))
theorem rcs_p4 (a : Int) (b : Int) (c : Int) (d : Int) (e : Int) (s : Int) (h0 : rcs_c0 a b c d e s = false) (h1 : rcs_c1 a b c d e s = false) (h2 : rcs_c2 a b c d e s = false) (h3 : rcs_c3 a b c d e s = false) (h4 : rcs_c4 a b c d e s = true) : Gives Tryd.prog envSa 0 12 [(.agg #[(I a), (I b), (I c), (I d), (I e), (I s)])] heapN ((I (rcr_r0 e (-32767) 32767)), heapN) :=
  Gives.by (n := 1000) (os := [.br 12 38 false, .br 12 38 false, .br 12 38 false, .br 12 38 false, .br 12 38 true]) (os' := []) (by kernel_rfl) (ObsOK.cond h0 (ObsOK.cond h1 (ObsOK.cond h2 (ObsOK.cond h3 (ObsOK.cond h4 (ObsOK.nil))))))
theorem rcs_p5 (a : Int) (b : Int) (c : Int) (d : Int) (e : Int) (s : Int) (h0 : rcs_c0 a b c d e s = false) (h1 : rcs_c1 a b c d e s = false) (h2 : rcs_c2 a b c d e s = false) (h3 : rcs_c3 a b c d e s = false) (h4 : rcs_c4 a b c d e s = false) : Gives Tryd.prog envSa 0 12 [(.agg #[(I a), (I b), (I c), (I d), (I e), (I s)])] heapN ((I (rcr_r0 s 0 15)), heapN) :=
  Gives.by (n := 1000) (os := [.br 12 38 false, .br 12 38 false, .br 12 38 false, .br 12 38 false, .br 12 38 false]) (os' := []) (by kernel_rfl) (ObsOK.cond h0 (ObsOK.cond h1 (ObsOK.cond h2 (ObsOK.cond h3 (ObsOK.cond h4 (ObsOK.nil))))))
def rcs_r0 (a : Int) (b : Int) (c : Int) (d : Int) (e : Int) (s : Int) : Int := (cond (rcs_c0 a b c d e s) (rcr_r0 a (-32767) 32767) (cond (rcs_c1 a b c d e s) (rcr_r0 b (-32767) 32767) (cond (rcs_c2 a b c d e s) (rcr_r0 c (-32767) 32767) (cond (rcs_c3 a b c d e s) (rcr_r0 d (-32767) 32767) (cond (rcs_c4 a b c d e s) (rcr_r0 e (-32767) 32767) (rcr_r0 s 0 15))))))
theorem rcs_gives (a : Int) (b : Int) (c : Int) (d : Int) (e : Int) (s : Int) : Gives Tryd.prog envSa 0 12 [(.agg #[(I a), (I b), (I c), (I d), (I e), (I s)])] heapN ((I (rcs_r0 a b c d e s)), heapN) := by
  cases g0 : rcs_c0 a b c d e s
  · skip
    cases g1 : rcs_c1 a b c d e s
    · skip
      cases g2 : rcs_c2 a b c d e s
      · skip
        cases g3 : rcs_c3 a b c d e s
        · skip
          cases g4 : rcs_c4 a b c d e s
          · skip
            simp only [rcs_r0, g0, g1, g2, g3, g4, cond_true, cond_false]; exact rcs_p5 a b c d e s g0 g1 g2 g3 g4
          · skip
            simp only [rcs_r0, g0, g1, g2, g3, g4, cond_true, cond_false]; exact rcs_p4 a b c d e s g0 g1 g2 g3 g4
        · skip
          simp only [rcs_r0, g0, g1, g2, g3, cond_true, cond_false]; exact rcs_p3 a b c d e s g0 g1 g2 g3
      · skip
        simp only [rcs_r0, g0, g1, g2, cond_true, cond_false]; exact rcs_p2 a b c d e s g0 g1 g2
    · skip
      simp only [rcs_r0, g0, g1, cond_true, cond_false]; exact rcs_p1 a b c d e s g0 g1
  · skip
    simp only [rcs_r0, g0, cond_true, cond_false]; exact rcs_p0 a b c d e s g0
theorem nm_p0 (a : Int) (b : Int) (c : Int) (d : Int) (e : Int) (s : Int) : Gives Tryd.prog envSa 0 53 [(.agg #[(I a), (I b), (I c), (I d), (I e), (I s)])] heapN ((.agg #[I a, I b, I c, I d, I e, I s]), heapN) :=
  Gives.by (n := 1000) (os := []) (os' := []) (by kernel_rfl) (ObsOK.nil)
theorem nm_gives (a : Int) (b : Int) (c : Int) (d : Int) (e : Int) (s : Int) : Gives Tryd.prog envSa 0 53 [(.agg #[(I a), (I b), (I c), (I d), (I e), (I s)])] heapN ((.agg #[(I a), (I b), (I c), (I d), (I e), (I s)]), heapN) := by
  exact nm_p0 a b c d e s
theorem so0_p0 (a : Int) (b : Int) (c : Int) (d : Int) (e : Int) (x : Int) (y : Int) (z : Int) (w : Int) (i : Int) : Gives Tryd.prog envSa 0 44 [(.agg #[(I a), (I b), (I c), (I d), (I e), (I 0)]), (.agg #[(I x), (I y), (I z), (I w)]), (I i)] heapN ((.agg #[(I ((IntKind.i64.wrap (IntKind.i64.wrap (IntKind.i64.wrap (IntKind.i64.wrap (IntKind.i64.wrap (a * i) + IntKind.i64.wrap (b * x)) + IntKind.i64.wrap (c * y)) - IntKind.i64.wrap (d * z)) - IntKind.i64.wrap (e * w))).fdiv 1)), (I (lim_r0 ((IntKind.i64.wrap (IntKind.i64.wrap (IntKind.i64.wrap (IntKind.i64.wrap (IntKind.i64.wrap (a * i) + IntKind.i64.wrap (b * x)) + IntKind.i64.wrap (c * y)) - IntKind.i64.wrap (d * z)) - IntKind.i64.wrap (e * w))).fdiv 1))), I i, I x, (I (lim_r0 ((IntKind.i64.wrap (IntKind.i64.wrap (IntKind.i64.wrap (IntKind.i64.wrap (IntKind.i64.wrap (a * i) + IntKind.i64.wrap (b * x)) + IntKind.i64.wrap (c * y)) - IntKind.i64.wrap (d * z)) - IntKind.i64.wrap (e * w))).fdiv 1))), I z]), heapN) :=
  Gives.by (n := 1000) (os := []) (os' := []) (by kernel_rfl) (ObsOK.nil)
def so0_r0 (a : Int) (b : Int) (c : Int) (d : Int) (e : Int) (x : Int) (y : Int) (z : Int) (w : Int) (i : Int) : Int := ((IntKind.i64.wrap (IntKind.i64.wrap (IntKind.i64.wrap (IntKind.i64.wrap (IntKind.i64.wrap (a * i) + IntKind.i64.wrap (b * x)) + IntKind.i64.wrap (c * y)) - IntKind.i64.wrap (d * z)) - IntKind.i64.wrap (e * w))).fdiv 1)
def so0_r1 (a : Int) (b : Int) (c : Int) (d : Int) (e : Int) (x : Int) (y : Int) (z : Int) (w : Int) (i : Int) : Int := (lim_r0 ((IntKind.i64.wrap (IntKind.i64.wrap (IntKind.i64.wrap (IntKind.i64.wrap (IntKind.i64.wrap (a * i) + IntKind.i64.wrap (b * x)) + IntKind.i64.wrap (c * y)) - IntKind.i64.wrap (d * z)) - IntKind.i64.wrap (e * w))).fdiv 1))
def so0_r4 (a : Int) (b : Int) (c : Int) (d : Int) (e : Int) (x : Int) (y : Int) (z : Int) (w : Int) (i : Int) : Int := (lim_r0 ((IntKind.i64.wrap (IntKind.i64.wrap (IntKind.i64.wrap (IntKind.i64.wrap (IntKind.i64.wrap (a * i) + IntKind.i64.wrap (b * x)) + IntKind.i64.wrap (c * y)) - IntKind.i64.wrap (d * z)) - IntKind.i64.wrap (e * w))).fdiv 1))
theorem so0_gives (a : Int) (b : Int) (c : Int) (d : Int) (e : Int) (x : Int) (y : Int) (z : Int) (w : Int) (i : Int) : Gives Tryd.prog envSa 0 44 [(.agg #[(I a), (I b), (I c), (I d), (I e), (I 0)]), (.agg #[(I x), (I y), (I z), (I w)]), (I i)] heapN ((.agg #[(I (so0_r0 a b c d e x y z w i)), (I (so0_r1 a b c d e x y z w i)), (I i), (I x), (I (so0_r4 a b c d e x y z w i)), (I z)]), heapN) := by
  simp only [so0_r0, so0_r1, so0_r4, cond_true, cond_false]; exact so0_p0 a b c d e x y z w i
def rr0_c0 (a : Int) (b : Int) (c : Int) (d : Int) (e : Int) (x : Int) (y : Int) (z : Int) (w : Int) (i : Int) : Bool := decide (IntKind.i64.wrap (IntKind.i64.wrap ((IntKind.i64.wrap (IntKind.i64.wrap (IntKind.i64.wrap (IntKind.i64.wrap (IntKind.i64.wrap (a * i) + IntKind.i64.wrap (b * x)) + IntKind.i64.wrap (c * y)) - IntKind.i64.wrap (d * z)) - IntKind.i64.wrap (e * w))).tdiv 1) * 1) > IntKind.i64.wrap (IntKind.i64.wrap (IntKind.i64.wrap (IntKind.i64.wrap (IntKind.i64.wrap (a * i) + IntKind.i64.wrap (b * x)) + IntKind.i64.wrap (c * y)) - IntKind.i64.wrap (d * z)) - IntKind.i64.wrap (e * w)))
theorem rr0_p0 (a : Int) (b : Int) (c : Int) (d : Int) (e : Int) (x : Int) (y : Int) (z : Int) (w : Int) (i : Int) (h0 : rr0_c0 a b c d e x y z w i = true) : Gives Tryd.prog envSa 0 42 [(.agg #[(I a), (I b), (I c), (I d), (I e), (I 0)]), (.agg #[(I x), (I y), (I z), (I w)]), (I i)] heapN ((I (IntKind.i64.wrap (IntKind.i64.wrap ((IntKind.i64.wrap (IntKind.i64.wrap (IntKind.i64.wrap (IntKind.i64.wrap (IntKind.i64.wrap (a * i) + IntKind.i64.wrap (b * x)) + IntKind.i64.wrap (c * y)) - IntKind.i64.wrap (d * z)) - IntKind.i64.wrap (e * w))).tdiv 1) - 1))), heapN) :=
  Gives.by (n := 1000) (os := [.br 67 28 true]) (os' := []) (by kernel_rfl) (ObsOK.cond h0 (ObsOK.nil))
theorem rr0_p1 (a : Int) (b : Int) (c : Int) (d : Int) (e : Int) (x : Int) (y : Int) (z : Int) (w : Int) (i : Int) (h0 : rr0_c0 a b c d e x y z w i = false) : Gives Tryd.prog envSa 0 42 [(.agg #[(I a), (I b), (I c), (I d), (I e), (I 0)]), (.agg #[(I x), (I y), (I z), (I w)]), (I i)] heapN ((I (IntKind.i64.wrap ((IntKind.i64.wrap (IntKind.i64.wrap (IntKind.i64.wrap (IntKind.i64.wrap (IntKind.i64.wrap (a * i) + IntKind.i64.wrap (b * x)) + IntKind.i64.wrap (c * y)) - IntKind.i64.wrap (d * z)) - IntKind.i64.wrap (e * w))).tdiv 1))), heapN) :=
  Gives.by (n := 1000) (os := [.br 67 28 false]) (os' := []) (by kernel_rfl) (ObsOK.cond h0 (ObsOK.nil))
def rr0_r0 (a : Int) (b : Int) (c : Int) (d : Int) (e : Int) (x : Int) (y : Int) (z : Int) (w : Int) (i : Int) : Int := (cond (rr0_c0 a b c d e x y z w i) (IntKind.i64.wrap (IntKind.i64.wrap ((IntKind.i64.wrap (IntKind.i64.wrap (IntKind.i64.wrap (IntKind.i64.wrap (IntKind.i64.wrap (a * i) + IntKind.i64.wrap (b * x)) + IntKind.i64.wrap (c * y)) - IntKind.i64.wrap (d * z)) - IntKind.i64.wrap (e * w))).tdiv 1) - 1)) (IntKind.i64.wrap ((IntKind.i64.wrap (IntKind.i64.wrap (IntKind.i64.wrap (IntKind.i64.wrap (IntKind.i64.wrap (a * i) + IntKind.i64.wrap (b * x)) + IntKind.i64.wrap (c * y)) - IntKind.i64.wrap (d * z)) - IntKind.i64.wrap (e * w))).tdiv 1)))
theorem rr0_gives (a : Int) (b : Int) (c : Int) (d : Int) (e : Int) (x : Int) (y : Int) (z : Int) (w : Int) (i : Int) : Gives Tryd.prog envSa 0 42 [(.agg #[(I a), (I b), (I c), (I d), (I e), (I 0)]), (.agg #[(I x), (I y), (I z), (I w)]), (I i)] heapN ((I (rr0_r0 a b c d e x y z w i)), heapN) := by
  cases g0 : rr0_c0 a b c d e x y z w i
  · skip
    simp only [rr0_r0, g0, cond_true, cond_false]; exact rr0_p1 a b c d e x y z w i g0
  · skip
    simp only [rr0_r0, g0, cond_true, cond_false]; exact rr0_p0 a b c d e x y z w i g0
theorem so1_p0 (a : Int) (b : Int) (c : Int) (d : Int) (e : Int) (x : Int) (y : Int) (z : Int) (w : Int) (i : Int) : Gives Tryd.prog envSa 0 44 [(.agg #[(I a), (I b), (I c), (I d), (I e), (I 1)]), (.agg #[(I x), (I y), (I z), (I w)]), (I i)] heapN ((.agg #[(I ((IntKind.i64.wrap (IntKind.i64.wrap (IntKind.i64.wrap (IntKind.i64.wrap (IntKind.i64.wrap (a * i) + IntKind.i64.wrap (b * x)) + IntKind.i64.wrap (c * y)) - IntKind.i64.wrap (d * z)) - IntKind.i64.wrap (e * w))).fdiv 2)), (I (lim_r0 ((IntKind.i64.wrap (IntKind.i64.wrap (IntKind.i64.wrap (IntKind.i64.wrap (IntKind.i64.wrap (a * i) + IntKind.i64.wrap (b * x)) + IntKind.i64.wrap (c * y)) - IntKind.i64.wrap (d * z)) - IntKind.i64.wrap (e * w))).fdiv 2))), I i, I x, (I (lim_r0 ((IntKind.i64.wrap (IntKind.i64.wrap (IntKind.i64.wrap (IntKind.i64.wrap (IntKind.i64.wrap (a * i) + IntKind.i64.wrap (b * x)) + IntKind.i64.wrap (c * y)) - IntKind.i64.wrap (d * z)) - IntKind.i64.wrap (e * w))).fdiv 2))), I z]), heapN) :=
  Gives.by (n := 1000) (os := []) (os' := []) (by kernel_rfl) (ObsOK.nil)
def so1_r0 (a : Int) (b : Int) (c : Int) (d : Int) (e : Int) (x : Int) (y : Int) (z : Int) (w : Int) (i : Int) : Int := ((IntKind.i64.wrap (IntKind.i64.wrap (IntKind.i64.wrap (IntKind.i64.wrap (IntKind.i64.wrap (a * i) + IntKind.i64.wrap (b * x)) + IntKind.i64.wrap (c * y)) - IntKind.i64.wrap (d * z)) - IntKind.i64.wrap (e * w))).fdiv 2)
def so1_r1 (a : Int) (b : Int) (c : Int) (d : Int) (e : Int) (x : Int) (y : Int) (z : Int) (w : Int) (i : Int) : Int := (lim_r0 ((IntKind.i64.wrap (IntKind.i64.wrap (IntKind.i64.wrap (IntKind.i64.wrap (IntKind.i64.wrap (a * i) + IntKind.i64.wrap (b * x)) + IntKind.i64.wrap (c * y)) - IntKind.i64.wrap (d * z)) - IntKind.i64.wrap (e * w))).fdiv 2))
def so1_r4 (a : Int) (b : Int) (c : Int) (d : Int) (e : Int) (x : Int) (y : Int) (z : Int) (w : Int) (i : Int) : Int := (lim_r0 ((IntKind.i64.wrap (IntKind.i64.wrap (IntKind.i64.wrap (IntKind.i64.wrap (IntKind.i64.wrap (a * i) + IntKind.i64.wrap (b * x)) + IntKind.i64.wrap (c * y)) - IntKind.i64.wrap (d * z)) - IntKind.i64.wrap (e * w))).fdiv 2))
theorem so1_gives (a : Int) (b : Int) (c : Int) (d : Int) (e : Int) (x : Int) (y : Int) (z : Int) (w : Int) (i : Int) : Gives Tryd.prog envSa 0 44 [(.agg #[(I a), (I b), (I c), (I d), (I e), (I 1)]), (.agg #[(I x), (I y), (I z), (I w)]), (I i)] heapN ((.agg #[(I (so1_r0 a b c d e x y z w i)), (I (so1_r1 a b c d e x y z w i)), (I i), (I x), (I (so1_r4 a b c d e x y z w i)), (I z)]), heapN) := by
  simp only [so1_r0, so1_r1, so1_r4, cond_true, cond_false]; exact so1_p0 a b c d e x y z w i
def rr1_c0 (a : Int) (b : Int) (c : Int) (d : Int) (e : Int) (x : Int) (y : Int) (z : Int) (w : Int) (i : Int) : Bool := decide (IntKind.i64.wrap (IntKind.i64.wrap ((IntKind.i64.wrap (IntKind.i64.wrap (IntKind.i64.wrap (IntKind.i64.wrap (IntKind.i64.wrap (a * i) + IntKind.i64.wrap (b * x)) + IntKind.i64.wrap (c * y)) - IntKind.i64.wrap (d * z)) - IntKind.i64.wrap (e * w))).tdiv 2) * 2) > IntKind.i64.wrap (IntKind.i64.wrap (IntKind.i64.wrap (IntKind.i64.wrap (IntKind.i64.wrap (a * i) + IntKind.i64.wrap (b * x)) + IntKind.i64.wrap (c * y)) - IntKind.i64.wrap (d * z)) - IntKind.i64.wrap (e * w)))
theorem rr1_p0 (a : Int) (b : Int) (c : Int) (d : Int) (e : Int) (x : Int) (y : Int) (z : Int) (w : Int) (i : Int) (h0 : rr1_c0 a b c d e x y z w i = true) : Gives Tryd.prog envSa 0 42 [(.agg #[(I a), (I b), (I c), (I d), (I e), (I 1)]), (.agg #[(I x), (I y), (I z), (I w)]), (I i)] heapN ((I (IntKind.i64.wrap (IntKind.i64.wrap ((IntKind.i64.wrap (IntKind.i64.wrap (IntKind.i64.wrap (IntKind.i64.wrap (IntKind.i64.wrap (a * i) + IntKind.i64.wrap (b * x)) + IntKind.i64.wrap (c * y)) - IntKind.i64.wrap (d * z)) - IntKind.i64.wrap (e * w))).tdiv 2) - 1))), heapN) :=
  Gives.by (n := 1000) (os := [.br 67 28 true]) (os' := []) (by kernel_rfl) (ObsOK.cond h0 (ObsOK.nil))
theorem rr1_p1 (a : Int) (b : Int) (c : Int) (d : Int) (e : Int) (x : Int) (y : Int) (z : Int) (w : Int) (i : Int) (h0 : rr1_c0 a b c d e x y z w i = false) : Gives Tryd.prog envSa 0 42 [(.agg #[(I a), (I b), (I c), (I d), (I e), (I 1)]), (.agg #[(I x), (I y), (I z), (I w)]), (I i)] heapN ((I (IntKind.i64.wrap ((IntKind.i64.wrap (IntKind.i64.wrap (IntKind.i64.wrap (IntKind.i64.wrap (IntKind.i64.wrap (a * i) + IntKind.i64.wrap (b * x)) + IntKind.i64.wrap (c * y)) - IntKind.i64.wrap (d * z)) - IntKind.i64.wrap (e * w))).tdiv 2))), heapN) :=
  Gives.by (n := 1000) (os := [.br 67 28 false]) (os' := []) (by kernel_rfl) (ObsOK.cond h0 (ObsOK.nil))
def rr1_r0 (a : Int) (b : Int) (c : Int) (d : Int) (e : Int) (x : Int) (y : Int) (z : Int) (w : Int) (i : Int) : Int := (cond (rr1_c0 a b c d e x y z w i) (IntKind.i64.wrap (IntKind.i64.wrap ((IntKind.i64.wrap (IntKind.i64.wrap (IntKind.i64.wrap (IntKind.i64.wrap (IntKind.i64.wrap (a * i) + IntKind.i64.wrap (b * x)) + IntKind.i64.wrap (c * y)) - IntKind.i64.wrap (d * z)) - IntKind.i64.wrap (e * w))).tdiv 2) - 1)) (IntKind.i64.wrap ((IntKind.i64.wrap (IntKind.i64.wrap (IntKind.i64.wrap (IntKind.i64.wrap (IntKind.i64.wrap (a * i) + IntKind.i64.wrap (b * x)) + IntKind.i64.wrap (c * y)) - IntKind.i64.wrap (d * z)) - IntKind.i64.wrap (e * w))).tdiv 2)))
theorem rr1_gives (a : Int) (b : Int) (c : Int) (d : Int) (e : Int) (x : Int) (y : Int) (z : Int) (w : Int) (i : Int) : Gives Tryd.prog envSa 0 42 [(.agg #[(I a), (I b), (I c), (I d), (I e), (I 1)]), (.agg #[(I x), (I y), (I z), (I w)]), (I i)] heapN ((I (rr1_r0 a b c d e x y z w i)), heapN) := by
  cases g0 : rr1_c0 a b c d e x y z w i
  · skip
    simp only [rr1_r0, g0, cond_true, cond_false]; exact rr1_p1 a b c d e x y z w i g0
  · skip
    simp only [rr1_r0, g0, cond_true, cond_false]; exact rr1_p0 a b c d e x y z w i g0
theorem so2_p0 (a : Int) (b : Int) (c : Int) (d : Int) (e : Int) (x : Int) (y : Int) (z : Int) (w : Int) (i : Int) : Gives Tryd.prog envSa 0 44 [(.agg #[(I a), (I b), (I c), (I d), (I e), (I 2)]), (.agg #[(I x), (I y), (I z), (I w)]), (I i)] heapN ((.agg #[(I ((IntKind.i64.wrap (IntKind.i64.wrap (IntKind.i64.wrap (IntKind.i64.wrap (IntKind.i64.wrap (a * i) + IntKind.i64.wrap (b * x)) + IntKind.i64.wrap (c * y)) - IntKind.i64.wrap (d * z)) - IntKind.i64.wrap (e * w))).fdiv 4)), (I (lim_r0 ((IntKind.i64.wrap (IntKind.i64.wrap (IntKind.i64.wrap (IntKind.i64.wrap (IntKind.i64.wrap (a * i) + IntKind.i64.wrap (b * x)) + IntKind.i64.wrap (c * y)) - IntKind.i64.wrap (d * z)) - IntKind.i64.wrap (e * w))).fdiv 4))), I i, I x, (I (lim_r0 ((IntKind.i64.wrap (IntKind.i64.wrap (IntKind.i64.wrap (IntKind.i64.wrap (IntKind.i64.wrap (a * i) + IntKind.i64.wrap (b * x)) + IntKind.i64.wrap (c * y)) - IntKind.i64.wrap (d * z)) - IntKind.i64.wrap (e * w))).fdiv 4))), I z]), heapN) :=
  Gives.by (n := 1000) (os := []) (os' := []) (by kernel_rfl) (ObsOK.nil)
def so2_r0 (a : Int) (b : Int) (c : Int) (d : Int) (e : Int) (x : Int) (y : Int) (z : Int) (w : Int) (i : Int) : Int := ((IntKind.i64.wrap (IntKind.i64.wrap (IntKind.i64.wrap (IntKind.i64.wrap (IntKind.i64.wrap (a * i) + IntKind.i64.wrap (b * x)) + IntKind.i64.wrap (c * y)) - IntKind.i64.wrap (d * z)) - IntKind.i64.wrap (e * w))).fdiv 4)
def so2_r1 (a : Int) (b : Int) (c : Int) (d : Int) (e : Int) (x : Int) (y : Int) (z : Int) (w : Int) (i : Int) : Int := (lim_r0 ((IntKind.i64.wrap (IntKind.i64.wrap (IntKind.i64.wrap (IntKind.i64.wrap (IntKind.i64.wrap (a * i) + IntKind.i64.wrap (b * x)) + IntKind.i64.wrap (c * y)) - IntKind.i64.wrap (d * z)) - IntKind.i64.wrap (e * w))).fdiv 4))
def so2_r4 (a : Int) (b : Int) (c : Int) (d : Int) (e : Int) (x : Int) (y : Int) (z : Int) (w : Int) (i : Int) : Int := (lim_r0 ((IntKind.i64.wrap (IntKind.i64.wrap (IntKind.i64.wrap (IntKind.i64.wrap (IntKind.i64.wrap (a * i) + IntKind.i64.wrap (b * x)) + IntKind.i64.wrap (c * y)) - IntKind.i64.wrap (d * z)) - IntKind.i64.wrap (e * w))).fdiv 4))
theorem so2_gives (a : Int) (b : Int) (c : Int) (d : Int) (e : Int) (x : Int) (y : Int) (z : Int) (w : Int) (i : Int) : Gives Tryd.prog envSa 0 44 [(.agg #[(I a), (I b), (I c), (I d), (I e), (I 2)]), (.agg #[(I x), (I y), (I z), (I w)]), (I i)] heapN ((.agg #[(I (so2_r0 a b c d e x y z w i)), (I (so2_r1 a b c d e x y z w i)), (I i), (I x), (I (so2_r4 a b c d e x y z w i)), (I z)]), heapN) := by
  simp only [so2_r0, so2_r1, so2_r4, cond_true, cond_false]; exact so2_p0 a b c d e x y z w i
def rr2_c0 (a : Int) (b : Int) (c : Int) (d : Int) (e : Int) (x : Int) (y : Int) (z : Int) (w : Int) (i : Int) : Bool := decide (IntKind.i64.wrap (IntKind.i64.wrap ((IntKind.i64.wrap (IntKind.i64.wrap (IntKind.i64.wrap (IntKind.i64.wrap (IntKind.i64.wrap (a * i) + IntKind.i64.wrap (b * x)) + IntKind.i64.wrap (c * y)) - IntKind.i64.wrap (d * z)) - IntKind.i64.wrap (e * w))).tdiv 4) * 4) > IntKind.i64.wrap (IntKind.i64.wrap (IntKind.i64.wrap (IntKind.i64.wrap (IntKind.i64.wrap (a * i) + IntKind.i64.wrap (b * x)) + IntKind.i64.wrap (c * y)) - IntKind.i64.wrap (d * z)) - IntKind.i64.wrap (e * w)))
theorem rr2_p0 (a : Int) (b : Int) (c : Int) (d : Int) (e : Int) (x : Int) (y : Int) (z : Int) (w : Int) (i : Int) (h0 : rr2_c0 a b c d e x y z w i = true) : Gives Tryd.prog envSa 0 42 [(.agg #[(I a), (I b), (I c), (I d), (I e), (I 2)]), (.agg #[(I x), (I y), (I z), (I w)]), (I i)] heapN ((I (IntKind.i64.wrap (IntKind.i64.wrap ((IntKind.i64.wrap (IntKind.i64.wrap (IntKind.i64.wrap (IntKind.i64.wrap (IntKind.i64.wrap (a * i) + IntKind.i64.wrap (b * x)) + IntKind.i64.wrap (c * y)) - IntKind.i64.wrap (d * z)) - IntKind.i64.wrap (e * w))).tdiv 4) - 1))), heapN) :=
  Gives.by (n := 1000) (os := [.br 67 28 true]) (os' := []) (by kernel_rfl) (ObsOK.cond h0 (ObsOK.nil))
theorem rr2_p1 (a : Int) (b : Int) (c : Int) (d : Int) (e : Int) (x : Int) (y : Int) (z : Int) (w : Int) (i : Int) (h0 : rr2_c0 a b c d e x y z w i = false) : Gives Tryd.prog envSa 0 42 [(.agg #[(I a), (I b), (I c), (I d), (I e), (I 2)]), (.agg #[(I x), (I y), (I z), (I w)]), (I i)] heapN ((I (IntKind.i64.wrap ((IntKind.i64.wrap (IntKind.i64.wrap (IntKind.i64.wrap (IntKind.i64.wrap (IntKind.i64.wrap (a * i) + IntKind.i64.wrap (b * x)) + IntKind.i64.wrap (c * y)) - IntKind.i64.wrap (d * z)) - IntKind.i64.wrap (e * w))).tdiv 4))), heapN) :=
  Gives.by (n := 1000) (os := [.br 67 28 false]) (os' := []) (by kernel_rfl) (ObsOK.cond h0 (ObsOK.nil))
def rr2_r0 (a : Int) (b : Int) (c : Int) (d : Int) (e : Int) (x : Int) (y : Int) (z : Int) (w : Int) (i : Int) : Int := (cond (rr2_c0 a b c d e x y z w i) (IntKind.i64.wrap (IntKind.i64.wrap ((IntKind.i64.wrap (IntKind.i64.wrap (IntKind.i64.wrap (IntKind.i64.wrap (IntKind.i64.wrap (a * i) + IntKind.i64.wrap (b * x)) + IntKind.i64.wrap (c * y)) - IntKind.i64.wrap (d * z)) - IntKind.i64.wrap (e * w))).tdiv 4) - 1)) (IntKind.i64.wrap ((IntKind.i64.wrap (IntKind.i64.wrap (IntKind.i64.wrap (IntKind.i64.wrap (IntKind.i64.wrap (a * i) + IntKind.i64.wrap (b * x)) + IntKind.i64.wrap (c * y)) - IntKind.i64.wrap (d * z)) - IntKind.i64.wrap (e * w))).tdiv 4)))
theorem rr2_gives (a : Int) (b : Int) (c : Int) (d : Int) (e : Int) (x : Int) (y : Int) (z : Int) (w : Int) (i : Int) : Gives Tryd.prog envSa 0 42 [(.agg #[(I a), (I b), (I c), (I d), (I e), (I 2)]), (.agg #[(I x), (I y), (I z), (I w)]), (I i)] heapN ((I (rr2_r0 a b c d e x y z w i)), heapN) := by
  cases g0 : rr2_c0 a b c d e x y z w i
  · skip
    simp only [rr2_r0, g0, cond_true, cond_false]; exact rr2_p1 a b c d e x y z w i g0
  · skip
    simp only [rr2_r0, g0, cond_true, cond_false]; exact rr2_p0 a b c d e x y z w i g0
theorem so3_p0 (a : Int) (b : Int) (c : Int) (d : Int) (e : Int) (x : Int) (y : Int) (z : Int) (w : Int) (i : Int) : Gives Tryd.prog envSa 0 44 [(.agg #[(I a), (I b), (I c), (I d), (I e), (I 3)]), (.agg #[(I x), (I y), (I z), (I w)]), (I i)] heapN ((.agg #[(I ((IntKind.i64.wrap (IntKind.i64.wrap (IntKind.i64.wrap (IntKind.i64.wrap (IntKind.i64.wrap (a * i) + IntKind.i64.wrap (b * x)) + IntKind.i64.wrap (c * y)) - IntKind.i64.wrap (d * z)) - IntKind.i64.wrap (e * w))).fdiv 8)), (I (lim_r0 ((IntKind.i64.wrap (IntKind.i64.wrap (IntKind.i64.wrap (IntKind.i64.wrap (IntKind.i64.wrap (a * i) + IntKind.i64.wrap (b * x)) + IntKind.i64.wrap (c * y)) - IntKind.i64.wrap (d * z)) - IntKind.i64.wrap (e * w))).fdiv 8))), I i, I x, (I (lim_r0 ((IntKind.i64.wrap (IntKind.i64.wrap (IntKind.i64.wrap (IntKind.i64.wrap (IntKind.i64.wrap (a * i) + IntKind.i64.wrap (b * x)) + IntKind.i64.wrap (c * y)) - IntKind.i64.wrap (d * z)) - IntKind.i64.wrap (e * w))).fdiv 8))), I z]), heapN) :=
  Gives.by (n := 1000) (os := []) (os' := []) (by kernel_rfl) (ObsOK.nil)
def so3_r0 (a : Int) (b : Int) (c : Int) (d : Int) (e : Int) (x : Int) (y : Int) (z : Int) (w : Int) (i : Int) : Int := ((IntKind.i64.wrap (IntKind.i64.wrap (IntKind.i64.wrap (IntKind.i64.wrap (IntKind.i64.wrap (a * i) + IntKind.i64.wrap (b * x)) + IntKind.i64.wrap (c * y)) - IntKind.i64.wrap (d * z)) - IntKind.i64.wrap (e * w))).fdiv 8)
def so3_r1 (a : Int) (b : Int) (c : Int) (d : Int) (e : Int) (x : Int) (y : Int) (z : Int) (w : Int) (i : Int) : Int := (lim_r0 ((IntKind.i64.wrap (IntKind.i64.wrap (IntKind.i64.wrap (IntKind.i64.wrap (IntKind.i64.wrap (a * i) + IntKind.i64.wrap (b * x)) + IntKind.i64.wrap (c * y)) - IntKind.i64.wrap (d * z)) - IntKind.i64.wrap (e * w))).fdiv 8))
def so3_r4 (a : Int) (b : Int) (c : Int) (d : Int) (e : Int) (x : Int) (y : Int) (z : Int) (w : Int) (i : Int) : Int := (lim_r0 ((IntKind.i64.wrap (IntKind.i64.wrap (IntKind.i64.wrap (IntKind.i64.wrap (IntKind.i64.wrap (a * i) + IntKind.i64.wrap (b * x)) + IntKind.i64.wrap (c * y)) - IntKind.i64.wrap (d * z)) - IntKind.i64.wrap (e * w))).fdiv 8))
theorem so3_gives (a : Int) (b : Int) (c : Int) (d : Int) (e : Int) (x : Int) (y : Int) (z : Int) (w : Int) (i : Int) : Gives Tryd.prog envSa 0 44 [(.agg #[(I a), (I b), (I c), (I d), (I e), (I 3)]), (.agg #[(I x), (I y), (I z), (I w)]), (I i)] heapN ((.agg #[(I (so3_r0 a b c d e x y z w i)), (I (so3_r1 a b c d e x y z w i)), (I i), (I x), (I (so3_r4 a b c d e x y z w i)), (I z)]), heapN) := by
  simp only [so3_r0, so3_r1, so3_r4, cond_true, cond_false]; exact so3_p0 a b c d e x y z w i
def rr3_c0 (a : Int) (b : Int) (c : Int) (d : Int) (e : Int) (x : Int) (y : Int) (z : Int) (w : Int) (i : Int) : Bool := decide (IntKind.i64.wrap (IntKind.i64.wrap ((IntKind.i64.wrap (IntKind.i64.wrap (IntKind.i64.wrap (IntKind.i64.wrap (IntKind.i64.wrap (a * i) + IntKind.i64.wrap (b * x)) + IntKind.i64.wrap (c * y)) - IntKind.i64.wrap (d * z)) - IntKind.i64.wrap (e * w))).tdiv 8) * 8) > IntKind.i64.wrap (IntKind.i64.wrap (IntKind.i64.wrap (IntKind.i64.wrap (IntKind.i64.wrap (a * i) + IntKind.i64.wrap (b * x)) + IntKind.i64.wrap (c * y)) - IntKind.i64.wrap (d * z)) - IntKind.i64.wrap (e * w)))
theorem rr3_p0 (a : Int) (b : Int) (c : Int) (d : Int) (e : Int) (x : Int) (y : Int) (z : Int) (w : Int) (i : Int) (h0 : rr3_c0 a b c d e x y z w i = true) : Gives Tryd.prog envSa 0 42 [(.agg #[(I a), (I b), (I c), (I d), (I e), (I 3)]), (.agg #[(I x), (I y), (I z), (I w)]), (I i)] heapN ((I (IntKind.i64.wrap (IntKind.i64.wrap ((IntKind.i64.wrap (IntKind.i64.wrap (IntKind.i64.wrap (IntKind.i64.wrap (IntKind.i64.wrap (a * i) + IntKind.i64.wrap (b * x)) + IntKind.i64.wrap (c * y)) - IntKind.i64.wrap (d * z)) - IntKind.i64.wrap (e * w))).tdiv 8) - 1))), heapN) :=
  Gives.by (n := 1000) (os := [.br 67 28 true]) (os' := []) (by kernel_rfl) (ObsOK.cond h0 (ObsOK.nil))
theorem rr3_p1 (a : Int) (b : Int) (c : Int) (d : Int) (e : Int) (x : Int) (y : Int) (z : Int) (w : Int) (i : Int) (h0 : rr3_c0 a b c d e x y z w i = false) : Gives Tryd.prog envSa 0 42 [(.agg #[(I a), (I b), (I c), (I d), (I e), (I 3)]), (.agg #[(I x), (I y), (I z), (I w)]), (I i)] heapN ((I (IntKind.i64.wrap ((IntKind.i64.wrap (IntKind.i64.wrap (IntKind.i64.wrap (IntKind.i64.wrap (IntKind.i64.wrap (a * i) + IntKind.i64.wrap (b * x)) + IntKind.i64.wrap (c * y)) - IntKind.i64.wrap (d * z)) - IntKind.i64.wrap (e * w))).tdiv 8))), heapN) :=
  Gives.by (n := 1000) (os := [.br 67 28 false]) (os' := []) (by kernel_rfl) (ObsOK.cond h0 (ObsOK.nil))
def rr3_r0 (a : Int) (b : Int) (c : Int) (d : Int) (e : Int) (x : Int) (y : Int) (z : Int) (w : Int) (i : Int) : Int := (cond (rr3_c0 a b c d e x y z w i) (IntKind.i64.wrap (IntKind.i64.wrap ((IntKind.i64.wrap (IntKind.i64.wrap (IntKind.i64.wrap (IntKind.i64.wrap (IntKind.i64.wrap (a * i) + IntKind.i64.wrap (b * x)) + IntKind.i64.wrap (c * y)) - IntKind.i64.wrap (d * z)) - IntKind.i64.wrap (e * w))).tdiv 8) - 1)) (IntKind.i64.wrap ((IntKind.i64.wrap (IntKind.i64.wrap (IntKind.i64.wrap (IntKind.i64.wrap (IntKind.i64.wrap (a * i) + IntKind.i64.wrap (b * x)) + IntKind.i64.wrap (c * y)) - IntKind.i64.wrap (d * z)) - IntKind.i64.wrap (e * w))).tdiv 8)))
theorem rr3_gives (a : Int) (b : Int) (c : Int) (d : Int) (e : Int) (x : Int) (y : Int) (z : Int) (w : Int) (i : Int) : Gives Tryd.prog envSa 0 42 [(.agg #[(I a), (I b), (I c), (I d), (I e), (I 3)]), (.agg #[(I x), (I y), (I z), (I w)]), (I i)] heapN ((I (rr3_r0 a b c d e x y z w i)), heapN) := by
  cases g0 : rr3_c0 a b c d e x y z w i
  · skip
    simp only [rr3_r0, g0, cond_true, cond_false]; exact rr3_p1 a b c d e x y z w i g0
  · skip
    simp only [rr3_r0, g0, cond_true, cond_false]; exact rr3_p0 a b c d e x y z w i g0
theorem so4_p0 (a : Int) (b : Int) (c : Int) (d : Int) (e : Int) (x : Int) (y : Int) (z : Int) (w : Int) (i : Int) : Gives Tryd.prog envSa 0 44 [(.agg #[(I a), (I b), (I c), (I d), (I e), (I 4)]), (.agg #[(I x), (I y), (I z), (I w)]), (I i)] heapN ((.agg #[(I ((IntKind.i64.wrap (IntKind.i64.wrap (IntKind.i64.wrap (IntKind.i64.wrap (IntKind.i64.wrap (a * i) + IntKind.i64.wrap (b * x)) + IntKind.i64.wrap (c * y)) - IntKind.i64.wrap (d * z)) - IntKind.i64.wrap (e * w))).fdiv 16)), (I (lim_r0 ((IntKind.i64.wrap (IntKind.i64.wrap (IntKind.i64.wrap (IntKind.i64.wrap (IntKind.i64.wrap (a * i) + IntKind.i64.wrap (b * x)) + IntKind.i64.wrap (c * y)) - IntKind.i64.wrap (d * z)) - IntKind.i64.wrap (e * w))).fdiv 16))), I i, I x, (I (lim_r0 ((IntKind.i64.wrap (IntKind.i64.wrap (IntKind.i64.wrap (IntKind.i64.wrap (IntKind.i64.wrap (a * i) + IntKind.i64.wrap (b * x)) + IntKind.i64.wrap (c * y)) - IntKind.i64.wrap (d * z)) - IntKind.i64.wrap (e * w))).fdiv 16))), I z]), heapN) :=
  Gives.by (n := 1000) (os := []) (os' := []) (by kernel_rfl) (ObsOK.nil)
def so4_r0 (a : Int) (b : Int) (c : Int) (d : Int) (e : Int) (x : Int) (y : Int) (z : Int) (w : Int) (i : Int) : Int := ((IntKind.i64.wrap (IntKind.i64.wrap (IntKind.i64.wrap (IntKind.i64.wrap (IntKind.i64.wrap (a * i) + IntKind.i64.wrap (b * x)) + IntKind.i64.wrap (c * y)) - IntKind.i64.wrap (d * z)) - IntKind.i64.wrap (e * w))).fdiv 16)
def so4_r1 (a : Int) (b : Int) (c : Int) (d : Int) (e : Int) (x : Int) (y : Int) (z : Int) (w : Int) (i : Int) : Int := (lim_r0 ((IntKind.i64.wrap (IntKind.i64.wrap (IntKind.i64.wrap (IntKind.i64.wrap (IntKind.i64.wrap (a * i) + IntKind.i64.wrap (b * x)) + IntKind.i64.wrap (c * y)) - IntKind.i64.wrap (d * z)) - IntKind.i64.wrap (e * w))).fdiv 16))
def so4_r4 (a : Int) (b : Int) (c : Int) (d : Int) (e : Int) (x : Int) (y : Int) (z : Int) (w : Int) (i : Int) : Int := (lim_r0 ((IntKind.i64.wrap (IntKind.i64.wrap (IntKind.i64.wrap (IntKind.i64.wrap (IntKind.i64.wrap (a * i) + IntKind.i64.wrap (b * x)) + IntKind.i64.wrap (c * y)) - IntKind.i64.wrap (d * z)) - IntKind.i64.wrap (e * w))).fdiv 16))
theorem so4_gives (a : Int) (b : Int) (c : Int) (d : Int) (e : Int) (x : Int) (y : Int) (z : Int) (w : Int) (i : Int) : Gives Tryd.prog envSa 0 44 [(.agg #[(I a), (I b), (I c), (I d), (I e), (I 4)]), (.agg #[(I x), (I y), (I z), (I w)]), (I i)] heapN ((.agg #[(I (so4_r0 a b c d e x y z w i)), (I (so4_r1 a b c d e x y z w i)), (I i), (I x), (I (so4_r4 a b c d e x y z w i)), (I z)]), heapN) := by
  simp only [so4_r0, so4_r1, so4_r4, cond_true, cond_false]; exact so4_p0 a b c d e x y z w i
def rr4_c0 (a : Int) (b : Int) (c : Int) (d : Int) (e : Int) (x : Int) (y : Int) (z : Int) (w : Int) (i : Int) : Bool := decide (IntKind.i64.wrap (IntKind.i64.wrap ((IntKind.i64.wrap (IntKind.i64.wrap (IntKind.i64.wrap (IntKind.i64.wrap (IntKind.i64.wrap (a * i) + IntKind.i64.wrap (b * x)) + IntKind.i64.wrap (c * y)) - IntKind.i64.wrap (d * z)) - IntKind.i64.wrap (e * w))).tdiv 16) * 16) > IntKind.i64.wrap (IntKind.i64.wrap (IntKind.i64.wrap (IntKind.i64.wrap (IntKind.i64.wrap (a * i) + IntKind.i64.wrap (b * x)) + IntKind.i64.wrap (c * y)) - IntKind.i64.wrap (d * z)) - IntKind.i64.wrap (e * w)))
theorem rr4_p0 (a : Int) (b : Int) (c : Int) (d : Int) (e : Int) (x : Int) (y : Int) (z : Int) (w : Int) (i : Int) (h0 : rr4_c0 a b c d e x y z w i = true) : Gives Tryd.prog envSa 0 42 [(.agg #[(I a), (I b), (I c), (I d), (I e), (I 4)]), (.agg #[(I x), (I y), (I z), (I w)]), (I i)] heapN ((I (IntKind.i64.wrap (IntKind.i64.wrap ((IntKind.i64.wrap (IntKind.i64.wrap (IntKind.i64.wrap (IntKind.i64.wrap (IntKind.i64.wrap (a * i) + IntKind.i64.wrap (b * x)) + IntKind.i64.wrap (c * y)) - IntKind.i64.wrap (d * z)) - IntKind.i64.wrap (e * w))).tdiv 16) - 1))), heapN) :=
  Gives.by (n := 1000) (os := [.br 67 28 true]) (os' := []) (by kernel_rfl) (ObsOK.cond h0 (ObsOK.nil))
theorem rr4_p1 (a : Int) (b : Int) (c : Int) (d : Int) (e : Int) (x : Int) (y : Int) (z : Int) (w : Int) (i : Int) (h0 : rr4_c0 a b c d e x y z w i = false) : Gives Tryd.prog envSa 0 42 [(.agg #[(I a), (I b), (I c), (I d), (I e), (I 4)]), (.agg #[(I x), (I y), (I z), (I w)]), (I i)] heapN ((I (IntKind.i64.wrap ((IntKind.i64.wrap (IntKind.i64.wrap (IntKind.i64.wrap (IntKind.i64.wrap (IntKind.i64.wrap (a * i) + IntKind.i64.wrap (b * x)) + IntKind.i64.wrap (c * y)) - IntKind.i64.wrap (d * z)) - IntKind.i64.wrap (e * w))).tdiv 16))), heapN) :=
  Gives.by (n := 1000) (os := [.br 67 28 false]) (os' := []) (by kernel_rfl) (ObsOK.cond h0 (ObsOK.nil))
def rr4_r0 (a : Int) (b : Int) (c : Int) (d : Int) (e : Int) (x : Int) (y : Int) (z : Int) (w : Int) (i : Int) : Int := (cond (rr4_c0 a b c d e x y z w i) (IntKind.i64.wrap (IntKind.i64.wrap ((IntKind.i64.wrap (IntKind.i64.wrap (IntKind.i64.wrap (IntKind.i64.wrap (IntKind.i64.wrap (a * i) + IntKind.i64.wrap (b * x)) + IntKind.i64.wrap (c * y)) - IntKind.i64.wrap (d * z)) - IntKind.i64.wrap (e * w))).tdiv 16) - 1)) (IntKind.i64.wrap ((IntKind.i64.wrap (IntKind.i64.wrap (IntKind.i64.wrap (IntKind.i64.wrap (IntKind.i64.wrap (a * i) + IntKind.i64.wrap (b * x)) + IntKind.i64.wrap (c * y)) - IntKind.i64.wrap (d * z)) - IntKind.i64.wrap (e * w))).tdiv 16)))
theorem rr4_gives (a : Int) (b : Int) (c : Int) (d : Int) (e : Int) (x : Int) (y : Int) (z : Int) (w : Int) (i : Int) : Gives Tryd.prog envSa 0 42 [(.agg #[(I a), (I b), (I c), (I d), (I e), (I 4)]), (.agg #[(I x), (I y), (I z), (I w)]), (I i)] heapN ((I (rr4_r0 a b c d e x y z w i)), heapN) := by
  cases g0 : rr4_c0 a b c d e x y z w i
  · skip
    simp only [rr4_r0, g0, cond_true, cond_false]; exact rr4_p1 a b c d e x y z w i g0
  · skip
    simp only [rr4_r0, g0, cond_true, cond_false]; exact rr4_p0 a b c d e x y z w i g0
theorem so5_p0 (a : Int) (b : Int) (c : Int) (d : Int) (e : Int) (x : Int) (y : Int) (z : Int) (w : Int) (i : Int) : Gives Tryd.prog envSa 0 44 [(.agg #[(I a), (I b), (I c), (I d), (I e), (I 5)]), (.agg #[(I x), (I y), (I z), (I w)]), (I i)] heapN ((.agg #[(I ((IntKind.i64.wrap (IntKind.i64.wrap (IntKind.i64.wrap (IntKind.i64.wrap (IntKind.i64.wrap (a * i) + IntKind.i64.wrap (b * x)) + IntKind.i64.wrap (c * y)) - IntKind.i64.wrap (d * z)) - IntKind.i64.wrap (e * w))).fdiv 32)), (I (lim_r0 ((IntKind.i64.wrap (IntKind.i64.wrap (IntKind.i64.wrap (IntKind.i64.wrap (IntKind.i64.wrap (a * i) + IntKind.i64.wrap (b * x)) + IntKind.i64.wrap (c * y)) - IntKind.i64.wrap (d * z)) - IntKind.i64.wrap (e * w))).fdiv 32))), I i, I x, (I (lim_r0 ((IntKind.i64.wrap (IntKind.i64.wrap (IntKind.i64.wrap (IntKind.i64.wrap (IntKind.i64.wrap (a * i) + IntKind.i64.wrap (b * x)) + IntKind.i64.wrap (c * y)) - IntKind.i64.wrap (d * z)) - IntKind.i64.wrap (e * w))).fdiv 32))), I z]), heapN) :=
  Gives.by (n := 1000) (os := []) (os' := []) (by kernel_rfl) (ObsOK.nil)
def so5_r0 (a : Int) (b : Int) (c : Int) (d : Int) (e : Int) (x : Int) (y : Int) (z : Int) (w : Int) (i : Int) : Int := ((IntKind.i64.wrap (IntKind.i64.wrap (IntKind.i64.wrap (IntKind.i64.wrap (IntKind.i64.wrap (a * i) + IntKind.i64.wrap (b * x)) + IntKind.i64.wrap (c * y)) - IntKind.i64.wrap (d * z)) - IntKind.i64.wrap (e * w))).fdiv 32)
def so5_r1 (a : Int) (b : Int) (c : Int) (d : Int) (e : Int) (x : Int) (y : Int) (z : Int) (w : Int) (i : Int) : Int := (lim_r0 ((IntKind.i64.wrap (IntKind.i64.wrap (IntKind.i64.wrap (IntKind.i64.wrap (IntKind.i64.wrap (a * i) + IntKind.i64.wrap (b * x)) + IntKind.i64.wrap (c * y)) - IntKind.i64.wrap (d * z)) - IntKind.i64.wrap (e * w))).fdiv 32))
def so5_r4 (a : Int) (b : Int) (c : Int) (d : Int) (e : Int) (x : Int) (y : Int) (z : Int) (w : Int) (i : Int) : Int := (lim_r0 ((IntKind.i64.wrap (IntKind.i64.wrap (IntKind.i64.wrap (IntKind.i64.wrap (IntKind.i64.wrap (a * i) + IntKind.i64.wrap (b * x)) + IntKind.i64.wrap (c * y)) - IntKind.i64.wrap (d * z)) - IntKind.i64.wrap (e * w))).fdiv 32))
theorem so5_gives (a : Int) (b : Int) (c : Int) (d : Int) (e : Int) (x : Int) (y : Int) (z : Int) (w : Int) (i : Int) : Gives Tryd.prog envSa 0 44 [(.agg #[(I a), (I b), (I c), (I d), (I e), (I 5)]), (.agg #[(I x), (I y), (I z), (I w)]), (I i)] heapN ((.agg #[(I (so5_r0 a b c d e x y z w i)), (I (so5_r1 a b c d e x y z w i)), (I i), (I x), (I (so5_r4 a b c d e x y z w i)), (I z)]), heapN) := by
  simp only [so5_r0, so5_r1, so5_r4, cond_true, cond_false]; exact so5_p0 a b c d e x y z w i
def rr5_c0 (a : Int) (b : Int) (c : Int) (d : Int) (e : Int) (x : Int) (y : Int) (z : Int) (w : Int) (i : Int) : Bool := decide (IntKind.i64.wrap (IntKind.i64.wrap ((IntKind.i64.wrap (IntKind.i64.wrap (IntKind.i64.wrap (IntKind.i64.wrap (IntKind.i64.wrap (a * i) + IntKind.i64.wrap (b * x)) + IntKind.i64.wrap (c * y)) - IntKind.i64.wrap (d * z)) - IntKind.i64.wrap (e * w))).tdiv 32) * 32) > IntKind.i64.wrap (IntKind.i64.wrap (IntKind.i64.wrap (IntKind.i64.wrap (IntKind.i64.wrap (a * i) + IntKind.i64.wrap (b * x)) + IntKind.i64.wrap (c * y)) - IntKind.i64.wrap (d * z)) - IntKind.i64.wrap (e * w)))
theorem rr5_p0 (a : Int) (b : Int) (c : Int) (d : Int) (e : Int) (x : Int) (y : Int) (z : Int) (w : Int) (i : Int) (h0 : rr5_c0 a b c d e x y z w i = true) : Gives Tryd.prog envSa 0 42 [(.agg #[(I a), (I b), (I c), (I d), (I e), (I 5)]), (.agg #[(I x), (I y), (I z), (I w)]), (I i)] heapN ((I (IntKind.i64.wrap (IntKind.i64.wrap ((IntKind.i64.wrap (IntKind.i64.wrap (IntKind.i64.wrap (IntKind.i64.wrap (IntKind.i64.wrap (a * i) + IntKind.i64.wrap (b * x)) + IntKind.i64.wrap (c * y)) - IntKind.i64.wrap (d * z)) - IntKind.i64.wrap (e * w))).tdiv 32) - 1))), heapN) :=
  Gives.by (n := 1000) (os := [.br 67 28 true]) (os' := []) (by kernel_rfl) (ObsOK.cond h0 (ObsOK.nil))
theorem rr5_p1 (a : Int) (b : Int) (c : Int) (d : Int) (e : Int) (x : Int) (y : Int) (z : Int) (w : Int) (i : Int) (h0 : rr5_c0 a b c d e x y z w i = false) : Gives Tryd.prog envSa 0 42 [(.agg #[(I a), (I b), (I c), (I d), (I e), (I 5)]), (.agg #[(I x), (I y), (I z), (I w)]), (I i)] heapN ((I (IntKind.i64.wrap ((IntKind.i64.wrap (IntKind.i64.wrap (IntKind.i64.wrap (IntKind.i64.wrap (IntKind.i64.wrap (a * i) + IntKind.i64.wrap (b * x)) + IntKind.i64.wrap (c * y)) - IntKind.i64.wrap (d * z)) - IntKind.i64.wrap (e * w))).tdiv 32))), heapN) :=
  Gives.by (n := 1000) (os := [.br 67 28 false]) (os' := []) (by kernel_rfl) (ObsOK.cond h0 (ObsOK.nil))
def rr5_r0 (a : Int) (b : Int) (c : Int) (d : Int) (e : Int) (x : Int) (y : Int) (z : Int) (w : Int) (i : Int) : Int := (cond (rr5_c0 a b c d e x y z w i) (IntKind.i64.wrap (IntKind.i64.wrap ((IntKind.i64.wrap (IntKind.i64.wrap (IntKind.i64.wrap (IntKind.i64.wrap (IntKind.i64.wrap (a * i) + IntKind.i64.wrap (b * x)) + IntKind.i64.wrap (c * y)) - IntKind.i64.wrap (d * z)) - IntKind.i64.wrap (e * w))).tdiv 32) - 1)) (IntKind.i64.wrap ((IntKind.i64.wrap (IntKind.i64.wrap (IntKind.i64.wrap (IntKind.i64.wrap (IntKind.i64.wrap (a * i) + IntKind.i64.wrap (b * x)) + IntKind.i64.wrap (c * y)) - IntKind.i64.wrap (d * z)) - IntKind.i64.wrap (e * w))).tdiv 32)))
theorem rr5_gives (a : Int) (b : Int) (c : Int) (d : Int) (e : Int) (x : Int) (y : Int) (z : Int) (w : Int) (i : Int) : Gives Tryd.prog envSa 0 42 [(.agg #[(I a), (I b), (I c), (I d), (I e), (I 5)]), (.agg #[(I x), (I y), (I z), (I w)]), (I i)] heapN ((I (rr5_r0 a b c d e x y z w i)), heapN) := by
  cases g0 : rr5_c0 a b c d e x y z w i
  · skip
    simp only [rr5_r0, g0, cond_true, cond_false]; exact rr5_p1 a b c d e x y z w i g0
  · skip
    simp only [rr5_r0, g0, cond_true, cond_false]; exact rr5_p0 a b c d e x y z w i g0
theorem so6_p0 (a : Int) (b : Int) (c : Int) (d : Int) (e : Int) (x : Int) (y : Int) (z : Int) (w : Int) (i : Int) : Gives Tryd.prog envSa 0 44 [(.agg #[(I a), (I b), (I c), (I d), (I e), (I 6)]), (.agg #[(I x), (I y), (I z), (I w)]), (I i)] heapN ((.agg #[(I ((IntKind.i64.wrap (IntKind.i64.wrap (IntKind.i64.wrap (IntKind.i64.wrap (IntKind.i64.wrap (a * i) + IntKind.i64.wrap (b * x)) + IntKind.i64.wrap (c * y)) - IntKind.i64.wrap (d * z)) - IntKind.i64.wrap (e * w))).fdiv 64)), (I (lim_r0 ((IntKind.i64.wrap (IntKind.i64.wrap (IntKind.i64.wrap (IntKind.i64.wrap (IntKind.i64.wrap (a * i) + IntKind.i64.wrap (b * x)) + IntKind.i64.wrap (c * y)) - IntKind.i64.wrap (d * z)) - IntKind.i64.wrap (e * w))).fdiv 64))), I i, I x, (I (lim_r0 ((IntKind.i64.wrap (IntKind.i64.wrap (IntKind.i64.wrap (IntKind.i64.wrap (IntKind.i64.wrap (a * i) + IntKind.i64.wrap (b * x)) + IntKind.i64.wrap (c * y)) - IntKind.i64.wrap (d * z)) - IntKind.i64.wrap (e * w))).fdiv 64))), I z]), heapN) :=
  Gives.by (n := 1000) (os := []) (os' := []) (by kernel_rfl) (ObsOK.nil)
def so6_r0 (a : Int) (b : Int) (c : Int) (d : Int) (e : Int) (x : Int) (y : Int) (z : Int) (w : Int) (i : Int) : Int := ((IntKind.i64.wrap (IntKind.i64.wrap (IntKind.i64.wrap (IntKind.i64.wrap (IntKind.i64.wrap (a * i) + IntKind.i64.wrap (b * x)) + IntKind.i64.wrap (c * y)) - IntKind.i64.wrap (d * z)) - IntKind.i64.wrap (e * w))).fdiv 64)
def so6_r1 (a : Int) (b : Int) (c : Int) (d : Int) (e : Int) (x : Int) (y : Int) (z : Int) (w : Int) (i : Int) : Int := (lim_r0 ((IntKind.i64.wrap (IntKind.i64.wrap (IntKind.i64.wrap (IntKind.i64.wrap (IntKind.i64.wrap (a * i) + IntKind.i64.wrap (b * x)) + IntKind.i64.wrap (c * y)) - IntKind.i64.wrap (d * z)) - IntKind.i64.wrap (e * w))).fdiv 64))
def so6_r4 (a : Int) (b : Int) (c : Int) (d : Int) (e : Int) (x : Int) (y : Int) (z : Int) (w : Int) (i : Int) : Int := (lim_r0 ((IntKind.i64.wrap (IntKind.i64.wrap (IntKind.i64.wrap (IntKind.i64.wrap (IntKind.i64.wrap (a * i) + IntKind.i64.wrap (b * x)) + IntKind.i64.wrap (c * y)) - IntKind.i64.wrap (d * z)) - IntKind.i64.wrap (e * w))).fdiv 64))
theorem so6_gives (a : Int) (b : Int) (c : Int) (d : Int) (e : Int) (x : Int) (y : Int) (z : Int) (w : Int) (i : Int) : Gives Tryd.prog envSa 0 44 [(.agg #[(I a), (I b), (I c), (I d), (I e), (I 6)]), (.agg #[(I x), (I y), (I z), (I w)]), (I i)] heapN ((.agg #[(I (so6_r0 a b c d e x y z w i)), (I (so6_r1 a b c d e x y z w i)), (I i), (I x), (I (so6_r4 a b c d e x y z w i)), (I z)]), heapN) := by
  simp only [so6_r0, so6_r1, so6_r4, cond_true, cond_false]; exact so6_p0 a b c d e x y z w i
def rr6_c0 (a : Int) (b : Int) (c : Int) (d : Int) (e : Int) (x : Int) (y : Int) (z : Int) (w : Int) (i : Int) : Bool := decide (IntKind.i64.wrap (IntKind.i64.wrap ((IntKind.i64.wrap (IntKind.i64.wrap (IntKind.i64.wrap (IntKind.i64.wrap (IntKind.i64.wrap (a * i) + IntKind.i64.wrap (b * x)) + IntKind.i64.wrap (c * y)) - IntKind.i64.wrap (d * z)) - IntKind.i64.wrap (e * w))).tdiv 64) * 64) > IntKind.i64.wrap (IntKind.i64.wrap (IntKind.i64.wrap (IntKind.i64.wrap (IntKind.i64.wrap (a * i) + IntKind.i64.wrap (b * x)) + IntKind.i64.wrap (c * y)) - IntKind.i64.wrap (d * z)) - IntKind.i64.wrap (e * w)))
theorem rr6_p0 (a : Int) (b : Int) (c : Int) (d : Int) (e : Int) (x : Int) (y : Int) (z : Int) (w : Int) (i : Int) (h0 : rr6_c0 a b c d e x y z w i = true) : Gives Tryd.prog envSa 0 42 [(.agg #[(I a), (I b), (I c), (I d), (I e), (I 6)]), (.agg #[(I x), (I y), (I z), (I w)]), (I i)] heapN ((I (IntKind.i64.wrap (IntKind.i64.wrap ((IntKind.i64.wrap (IntKind.i64.wrap (IntKind.i64.wrap (IntKind.i64.wrap (IntKind.i64.wrap (a * i) + IntKind.i64.wrap (b * x)) + IntKind.i64.wrap (c * y)) - IntKind.i64.wrap (d * z)) - IntKind.i64.wrap (e * w))).tdiv 64) - 1))), heapN) :=
  Gives.by (n := 1000) (os := [.br 67 28 true]) (os' := []) (by kernel_rfl) (ObsOK.cond h0 (ObsOK.nil))
theorem rr6_p1 (a : Int) (b : Int) (c : Int) (d : Int) (e : Int) (x : Int) (y : Int) (z : Int) (w : Int) (i : Int) (h0 : rr6_c0 a b c d e x y z w i = false) : Gives Tryd.prog envSa 0 42 [(.agg #[(I a), (I b), (I c), (I d), (I e), (I 6)]), (.agg #[(I x), (I y), (I z), (I w)]), (I i)] heapN ((I (IntKind.i64.wrap ((IntKind.i64.wrap (IntKind.i64.wrap (IntKind.i64.wrap (IntKind.i64.wrap (IntKind.i64.wrap (a * i) + IntKind.i64.wrap (b * x)) + IntKind.i64.wrap (c * y)) - IntKind.i64.wrap (d * z)) - IntKind.i64.wrap (e * w))).tdiv 64))), heapN) :=
  Gives.by (n := 1000) (os := [.br 67 28 false]) (os' := []) (by kernel_rfl) (ObsOK.cond h0 (ObsOK.nil))
def rr6_r0 (a : Int) (b : Int) (c : Int) (d : Int) (e : Int) (x : Int) (y : Int) (z : Int) (w : Int) (i : Int) : Int := (cond (rr6_c0 a b c d e x y z w i) (IntKind.i64.wrap (IntKind.i64.wrap ((IntKind.i64.wrap (IntKind.i64.wrap (IntKind.i64.wrap (IntKind.i64.wrap (IntKind.i64.wrap (a * i) + IntKind.i64.wrap (b * x)) + IntKind.i64.wrap (c * y)) - IntKind.i64.wrap (d * z)) - IntKind.i64.wrap (e * w))).tdiv 64) - 1)) (IntKind.i64.wrap ((IntKind.i64.wrap (IntKind.i64.wrap (IntKind.i64.wrap (IntKind.i64.wrap (IntKind.i64.wrap (a * i) + IntKind.i64.wrap (b * x)) + IntKind.i64.wrap (c * y)) - IntKind.i64.wrap (d * z)) - IntKind.i64.wrap (e * w))).tdiv 64)))
theorem rr6_gives (a : Int) (b : Int) (c : Int) (d : Int) (e : Int) (x : Int) (y : Int) (z : Int) (w : Int) (i : Int) : Gives Tryd.prog envSa 0 42 [(.agg #[(I a), (I b), (I c), (I d), (I e), (I 6)]), (.agg #[(I x), (I y), (I z), (I w)]), (I i)] heapN ((I (rr6_r0 a b c d e x y z w i)), heapN) := by
  cases g0 : rr6_c0 a b c d e x y z w i
  · skip
    simp only [rr6_r0, g0, cond_true, cond_false]; exact rr6_p1 a b c d e x y z w i g0
  · skip
    simp only [rr6_r0, g0, cond_true, cond_false]; exact rr6_p0 a b c d e x y z w i g0
theorem so7_p0 (a : Int) (b : Int) (c : Int) (d : Int) (e : Int) (x : Int) (y : Int) (z : Int) (w : Int) (i : Int) : Gives Tryd.prog envSa 0 44 [(.agg #[(I a), (I b), (I c), (I d), (I e), (I 7)]), (.agg #[(I x), (I y), (I z), (I w)]), (I i)] heapN ((.agg #[(I ((IntKind.i64.wrap (IntKind.i64.wrap (IntKind.i64.wrap (IntKind.i64.wrap (IntKind.i64.wrap (a * i) + IntKind.i64.wrap (b * x)) + IntKind.i64.wrap (c * y)) - IntKind.i64.wrap (d * z)) - IntKind.i64.wrap (e * w))).fdiv 128)), (I (lim_r0 ((IntKind.i64.wrap (IntKind.i64.wrap (IntKind.i64.wrap (IntKind.i64.wrap (IntKind.i64.wrap (a * i) + IntKind.i64.wrap (b * x)) + IntKind.i64.wrap (c * y)) - IntKind.i64.wrap (d * z)) - IntKind.i64.wrap (e * w))).fdiv 128))), I i, I x, (I (lim_r0 ((IntKind.i64.wrap (IntKind.i64.wrap (IntKind.i64.wrap (IntKind.i64.wrap (IntKind.i64.wrap (a * i) + IntKind.i64.wrap (b * x)) + IntKind.i64.wrap (c * y)) - IntKind.i64.wrap (d * z)) - IntKind.i64.wrap (e * w))).fdiv 128))), I z]), heapN) :=
  Gives.by (n := 1000) (os := []) (os' := []) (by kernel_rfl) (ObsOK.nil)
def so7_r0 (a : Int) (b : Int) (c : Int) (d : Int) (e : Int) (x : Int) (y : Int) (z : Int) (w : Int) (i : Int) : Int := ((IntKind.i64.wrap (IntKind.i64.wrap (IntKind.i64.wrap (IntKind.i64.wrap (IntKind.i64.wrap (a * i) + IntKind.i64.wrap (b * x)) + IntKind.i64.wrap (c * y)) - IntKind.i64.wrap (d * z)) - IntKind.i64.wrap (e * w))).fdiv 128)
def so7_r1 (a : Int) (b : Int) (c : Int) (d : Int) (e : Int) (x : Int) (y : Int) (z : Int) (w : Int) (i : Int) : Int := (lim_r0 ((IntKind.i64.wrap (IntKind.i64.wrap (IntKind.i64.wrap (IntKind.i64.wrap (IntKind.i64.wrap (a * i) + IntKind.i64.wrap (b * x)) + IntKind.i64.wrap (c * y)) - IntKind.i64.wrap (d * z)) - IntKind.i64.wrap (e * w))).fdiv 128))
def so7_r4 (a : Int) (b : Int) (c : Int) (d : Int) (e : Int) (x : Int) (y : Int) (z : Int) (w : Int) (i : Int) : Int := (lim_r0 ((IntKind.i64.wrap (IntKind.i64.wrap (IntKind.i64.wrap (IntKind.i64.wrap (IntKind.i64.wrap (a * i) + IntKind.i64.wrap (b * x)) + IntKind.i64.wrap (c * y)) - IntKind.i64.wrap (d * z)) - IntKind.i64.wrap (e * w))).fdiv 128))
theorem so7_gives (a : Int) (b : Int) (c : Int) (d : Int) (e : Int) (x : Int) (y : Int) (z : Int) (w : Int) (i : Int) : Gives Tryd.prog envSa 0 44 [(.agg #[(I a), (I b), (I c), (I d), (I e), (I 7)]), (.agg #[(I x), (I y), (I z), (I w)]), (I i)] heapN ((.agg #[(I (so7_r0 a b c d e x y z w i)), (I (so7_r1 a b c d e x y z w i)), (I i), (I x), (I (so7_r4 a b c d e x y z w i)), (I z)]), heapN) := by
  simp only [so7_r0, so7_r1, so7_r4, cond_true, cond_false]; exact so7_p0 a b c d e x y z w i
def rr7_c0 (a : Int) (b : Int) (c : Int) (d : Int) (e : Int) (x : Int) (y : Int) (z : Int) (w : Int) (i : Int) : Bool := decide (IntKind.i64.wrap (IntKind.i64.wrap ((IntKind.i64.wrap (IntKind.i64.wrap (IntKind.i64.wrap (IntKind.i64.wrap (IntKind.i64.wrap (a * i) + IntKind.i64.wrap (b * x)) + IntKind.i64.wrap (c * y)) - IntKind.i64.wrap (d * z)) - IntKind.i64.wrap (e * w))).tdiv 128) * 128) > IntKind.i64.wrap (IntKind.i64.wrap (IntKind.i64.wrap (IntKind.i64.wrap (IntKind.i64.wrap (a * i) + IntKind.i64.wrap (b * x)) + IntKind.i64.wrap (c * y)) - IntKind.i64.wrap (d * z)) - IntKind.i64.wrap (e * w)))
theorem rr7_p0 (a : Int) (b : Int) (c : Int) (d : Int) (e : Int) (x : Int) (y : Int) (z : Int) (w : Int) (i : Int) (h0 : rr7_c0 a b c d e x y z w i = true) : Gives Tryd.prog envSa 0 42 [(.agg #[(I a), (I b), (I c), (I d), (I e), (I 7)]), (.agg #[(I x), (I y), (I z), (I w)]), (I i)] heapN ((I (IntKind.i64.wrap (IntKind.i64.wrap ((IntKind.i64.wrap (IntKind.i64.wrap (IntKind.i64.wrap (IntKind.i64.wrap (IntKind.i64.wrap (a * i) + IntKind.i64.wrap (b * x)) + IntKind.i64.wrap (c * y)) - IntKind.i64.wrap (d * z)) - IntKind.i64.wrap (e * w))).tdiv 128) - 1))), heapN) :=
  Gives.by (n := 1000) (os := [.br 67 28 true]) (os' := []) (by kernel_rfl) (ObsOK.cond h0 (ObsOK.nil))
theorem rr7_p1 (a : Int) (b : Int) (c : Int) (d : Int) (e : Int) (x : Int) (y : Int) (z : Int) (w : Int) (i : Int) (h0 : rr7_c0 a b c d e x y z w i = false) : Gives Tryd.prog envSa 0 42 [(.agg #[(I a), (I b), (I c), (I d), (I e), (I 7)]), (.agg #[(I x), (I y), (I z), (I w)]), (I i)] heapN ((I (IntKind.i64.wrap ((IntKind.i64.wrap (IntKind.i64.wrap (IntKind.i64.wrap (IntKind.i64.wrap (IntKind.i64.wrap (a * i) + IntKind.i64.wrap (b * x)) + IntKind.i64.wrap (c * y)) - IntKind.i64.wrap (d * z)) - IntKind.i64.wrap (e * w))).tdiv 128))), heapN) :=
  Gives.by (n := 1000) (os := [.br 67 28 false]) (os' := []) (by kernel_rfl) (ObsOK.cond h0 (ObsOK.nil))
def rr7_r0 (a : Int) (b : Int) (c : Int) (d : Int) (e : Int) (x : Int) (y : Int) (z : Int) (w : Int) (i : Int) : Int := (cond (rr7_c0 a b c d e x y z w i) (IntKind.i64.wrap (IntKind.i64.wrap ((IntKind.i64.wrap (IntKind.i64.wrap (IntKind.i64.wrap (IntKind.i64.wrap (IntKind.i64.wrap (a * i) + IntKind.i64.wrap (b * x)) + IntKind.i64.wrap (c * y)) - IntKind.i64.wrap (d * z)) - IntKind.i64.wrap (e * w))).tdiv 128) - 1)) (IntKind.i64.wrap ((IntKind.i64.wrap (IntKind.i64.wrap (IntKind.i64.wrap (IntKind.i64.wrap (IntKind.i64.wrap (a * i) + IntKind.i64.wrap (b * x)) + IntKind.i64.wrap (c * y)) - IntKind.i64.wrap (d * z)) - IntKind.i64.wrap (e * w))).tdiv 128)))
theorem rr7_gives (a : Int) (b : Int) (c : Int) (d : Int) (e : Int) (x : Int) (y : Int) (z : Int) (w : Int) (i : Int) : Gives Tryd.prog envSa 0 42 [(.agg #[(I a), (I b), (I c), (I d), (I e), (I 7)]), (.agg #[(I x), (I y), (I z), (I w)]), (I i)] heapN ((I (rr7_r0 a b c d e x y z w i)), heapN) := by
  cases g0 : rr7_c0 a b c d e x y z w i
  · skip
    simp only [rr7_r0, g0, cond_true, cond_false]; exact rr7_p1 a b c d e x y z w i g0
  · skip
    simp only [rr7_r0, g0, cond_true, cond_false]; exact rr7_p0 a b c d e x y z w i g0
theorem so8_p0 (a : Int) (b : Int) (c : Int) (d : Int) (e : Int) (x : Int) (y : Int) (z : Int) (w : Int) (i : Int) : Gives Tryd.prog envSa 0 44 [(.agg #[(I a), (I b), (I c), (I d), (I e), (I 8)]), (.agg #[(I x), (I y), (I z), (I w)]), (I i)] heapN ((.agg #[(I ((IntKind.i64.wrap (IntKind.i64.wrap (IntKind.i64.wrap (IntKind.i64.wrap (IntKind.i64.wrap (a * i) + IntKind.i64.wrap (b * x)) + IntKind.i64.wrap (c * y)) - IntKind.i64.wrap (d * z)) - IntKind.i64.wrap (e * w))).fdiv 256)), (I (lim_r0 ((IntKind.i64.wrap (IntKind.i64.wrap (IntKind.i64.wrap (IntKind.i64.wrap (IntKind.i64.wrap (a * i) + IntKind.i64.wrap (b * x)) + IntKind.i64.wrap (c * y)) - IntKind.i64.wrap (d * z)) - IntKind.i64.wrap (e * w))).fdiv 256))), I i, I x, (I (lim_r0 ((IntKind.i64.wrap (IntKind.i64.wrap (IntKind.i64.wrap (IntKind.i64.wrap (IntKind.i64.wrap (a * i) + IntKind.i64.wrap (b * x)) + IntKind.i64.wrap (c * y)) - IntKind.i64.wrap (d * z)) - IntKind.i64.wrap (e * w))).fdiv 256))), I z]), heapN) :=
  Gives.by (n := 1000) (os := []) (os' := []) (by kernel_rfl) (ObsOK.nil)
def so8_r0 (a : Int) (b : Int) (c : Int) (d : Int) (e : Int) (x : Int) (y : Int) (z : Int) (w : Int) (i : Int) : Int := ((IntKind.i64.wrap (IntKind.i64.wrap (IntKind.i64.wrap (IntKind.i64.wrap (IntKind.i64.wrap (a * i) + IntKind.i64.wrap (b * x)) + IntKind.i64.wrap (c * y)) - IntKind.i64.wrap (d * z)) - IntKind.i64.wrap (e * w))).fdiv 256)
def so8_r1 (a : Int) (b : Int) (c : Int) (d : Int) (e : Int) (x : Int) (y : Int) (z : Int) (w : Int) (i : Int) : Int := (lim_r0 ((IntKind.i64.wrap (IntKind.i64.wrap (IntKind.i64.wrap (IntKind.i64.wrap (IntKind.i64.wrap (a * i) + IntKind.i64.wrap (b * x)) + IntKind.i64.wrap (c * y)) - IntKind.i64.wrap (d * z)) - IntKind.i64.wrap (e * w))).fdiv 256))
def so8_r4 (a : Int) (b : Int) (c : Int) (d : Int) (e : Int) (x : Int) (y : Int) (z : Int) (w : Int) (i : Int) : Int := (lim_r0 ((IntKind.i64.wrap (IntKind.i64.wrap (IntKind.i64.wrap (IntKind.i64.wrap (IntKind.i64.wrap (a * i) + IntKind.i64.wrap (b * x)) + IntKind.i64.wrap (c * y)) - IntKind.i64.wrap (d * z)) - IntKind.i64.wrap (e * w))).fdiv 256))
theorem so8_gives (a : Int) (b : Int) (c : Int) (d : Int) (e : Int) (x : Int) (y : Int) (z : Int) (w : Int) (i : Int) : Gives Tryd.prog envSa 0 44 [(.agg #[(I a), (I b), (I c), (I d), (I e), (I 8)]), (.agg #[(I x), (I y), (I z), (I w)]), (I i)] heapN ((.agg #[(I (so8_r0 a b c d e x y z w i)), (I (so8_r1 a b c d e x y z w i)), (I i), (I x), (I (so8_r4 a b c d e x y z w i)), (I z)]), heapN) := by
  simp only [so8_r0, so8_r1, so8_r4, cond_true, cond_false]; exact so8_p0 a b c d e x y z w i
def rr8_c0 (a : Int) (b : Int) (c : Int) (d : Int) (e : Int) (x : Int) (y : Int) (z : Int) (w : Int) (i : Int) : Bool := decide (IntKind.i64.wrap (IntKind.i64.wrap ((IntKind.i64.wrap (IntKind.i64.wrap (IntKind.i64.wrap (IntKind.i64.wrap (IntKind.i64.wrap (a * i) + IntKind.i64.wrap (b * x)) + IntKind.i64.wrap (c * y)) - IntKind.i64.wrap (d * z)) - IntKind.i64.wrap (e * w))).tdiv 256) * 256) > IntKind.i64.wrap (IntKind.i64.wrap (IntKind.i64.wrap (IntKind.i64.wrap (IntKind.i64.wrap (a * i) + IntKind.i64.wrap (b * x)) + IntKind.i64.wrap (c * y)) - IntKind.i64.wrap (d * z)) - IntKind.i64.wrap (e * w)))
theorem rr8_p0 (a : Int) (b : Int) (c : Int) (d : Int) (e : Int) (x : Int) (y : Int) (z : Int) (w : Int) (i : Int) (h0 : rr8_c0 a b c d e x y z w i = true) : Gives Tryd.prog envSa 0 42 [(.agg #[(I a), (I b), (I c), (I d), (I e), (I 8)]), (.agg #[(I x), (I y), (I z), (I w)]), (I i)] heapN ((I (IntKind.i64.wrap (IntKind.i64.wrap ((IntKind.i64.wrap (IntKind.i64.wrap (IntKind.i64.wrap (IntKind.i64.wrap (IntKind.i64.wrap (a * i) + IntKind.i64.wrap (b * x)) + IntKind.i64.wrap (c * y)) - IntKind.i64.wrap (d * z)) - IntKind.i64.wrap (e * w))).tdiv 256) - 1))), heapN) :=
  Gives.by (n := 1000) (os := [.br 67 28 true]) (os' := []) (by kernel_rfl) (ObsOK.cond h0 (ObsOK.nil))
theorem rr8_p1 (a : Int) (b : Int) (c : Int) (d : Int) (e : Int) (x : Int) (y : Int) (z : Int) (w : Int) (i : Int) (h0 : rr8_c0 a b c d e x y z w i = false) : Gives Tryd.prog envSa 0 42 [(.agg #[(I a), (I b), (I c), (I d), (I e), (I 8)]), (.agg #[(I x), (I y), (I z), (I w)]), (I i)] heapN ((I (IntKind.i64.wrap ((IntKind.i64.wrap (IntKind.i64.wrap (IntKind.i64.wrap (IntKind.i64.wrap (IntKind.i64.wrap (a * i) + IntKind.i64.wrap (b * x)) + IntKind.i64.wrap (c * y)) - IntKind.i64.wrap (d * z)) - IntKind.i64.wrap (e * w))).tdiv 256))), heapN) :=
  Gives.by (n := 1000) (os := [.br 67 28 false]) (os' := []) (by kernel_rfl) (ObsOK.cond h0 (ObsOK.nil))
def rr8_r0 (a : Int) (b : Int) (c : Int) (d : Int) (e : Int) (x : Int) (y : Int) (z : Int) (w : Int) (i : Int) : Int := (cond (rr8_c0 a b c d e x y z w i) (IntKind.i64.wrap (IntKind.i64.wrap ((IntKind.i64.wrap (IntKind.i64.wrap (IntKind.i64.wrap (IntKind.i64.wrap (IntKind.i64.wrap (a * i) + IntKind.i64.wrap (b * x)) + IntKind.i64.wrap (c * y)) - IntKind.i64.wrap (d * z)) - IntKind.i64.wrap (e * w))).tdiv 256) - 1)) (IntKind.i64.wrap ((IntKind.i64.wrap (IntKind.i64.wrap (IntKind.i64.wrap (IntKind.i64.wrap (IntKind.i64.wrap (a * i) + IntKind.i64.wrap (b * x)) + IntKind.i64.wrap (c * y)) - IntKind.i64.wrap (d * z)) - IntKind.i64.wrap (e * w))).tdiv 256)))
theorem rr8_gives (a : Int) (b : Int) (c : Int) (d : Int) (e : Int) (x : Int) (y : Int) (z : Int) (w : Int) (i : Int) : Gives Tryd.prog envSa 0 42 [(.agg #[(I a), (I b), (I c), (I d), (I e), (I 8)]), (.agg #[(I x), (I y), (I z), (I w)]), (I i)] heapN ((I (rr8_r0 a b c d e x y z w i)), heapN) := by
  cases g0 : rr8_c0 a b c d e x y z w i
  · skip
    simp only [rr8_r0, g0, cond_true, cond_false]; exact rr8_p1 a b c d e x y z w i g0
  · skip
    simp only [rr8_r0, g0, cond_true, cond_false]; exact rr8_p0 a b c d e x y z w i g0
theorem so9_p0 (a : Int) (b : Int) (c : Int) (d : Int) (e : Int) (x : Int) (y : Int) (z : Int) (w : Int) (i : Int) : Gives Tryd.prog envSa 0 44 [(.agg #[(I a), (I b), (I c), (I d), (I e), (I 9)]), (.agg #[(I x), (I y), (I z), (I w)]), (I i)] heapN ((.agg #[(I ((IntKind.i64.wrap (IntKind.i64.wrap (IntKind.i64.wrap (IntKind.i64.wrap (IntKind.i64.wrap (a * i) + IntKind.i64.wrap (b * x)) + IntKind.i64.wrap (c * y)) - IntKind.i64.wrap (d * z)) - IntKind.i64.wrap (e * w))).fdiv 512)), (I (lim_r0 ((IntKind.i64.wrap (IntKind.i64.wrap (IntKind.i64.wrap (IntKind.i64.wrap (IntKind.i64.wrap (a * i) + IntKind.i64.wrap (b * x)) + IntKind.i64.wrap (c * y)) - IntKind.i64.wrap (d * z)) - IntKind.i64.wrap (e * w))).fdiv 512))), I i, I x, (I (lim_r0 ((IntKind.i64.wrap (IntKind.i64.wrap (IntKind.i64.wrap (IntKind.i64.wrap (IntKind.i64.wrap (a * i) + IntKind.i64.wrap (b * x)) + IntKind.i64.wrap (c * y)) - IntKind.i64.wrap (d * z)) - IntKind.i64.wrap (e * w))).fdiv 512))), I z]), heapN) :=
  Gives.by (n := 1000) (os := []) (os' := []) (by kernel_rfl) (ObsOK.nil)
def so9_r0 (a : Int) (b : Int) (c : Int) (d : Int) (e : Int) (x : Int) (y : Int) (z : Int) (w : Int) (i : Int) : Int := ((IntKind.i64.wrap (IntKind.i64.wrap (IntKind.i64.wrap (IntKind.i64.wrap (IntKind.i64.wrap (a * i) + IntKind.i64.wrap (b * x)) + IntKind.i64.wrap (c * y)) - IntKind.i64.wrap (d * z)) - IntKind.i64.wrap (e * w))).fdiv 512)
def so9_r1 (a : Int) (b : Int) (c : Int) (d : Int) (e : Int) (x : Int) (y : Int) (z : Int) (w : Int) (i : Int) : Int := (lim_r0 ((IntKind.i64.wrap (IntKind.i64.wrap (IntKind.i64.wrap (IntKind.i64.wrap (IntKind.i64.wrap (a * i) + IntKind.i64.wrap (b * x)) + IntKind.i64.wrap (c * y)) - IntKind.i64.wrap (d * z)) - IntKind.i64.wrap (e * w))).fdiv 512))
def so9_r4 (a : Int) (b : Int) (c : Int) (d : Int) (e : Int) (x : Int) (y : Int) (z : Int) (w : Int) (i : Int) : Int := (lim_r0 ((IntKind.i64.wrap (IntKind.i64.wrap (IntKind.i64.wrap (IntKind.i64.wrap (IntKind.i64.wrap (a * i) + IntKind.i64.wrap (b * x)) + IntKind.i64.wrap (c * y)) - IntKind.i64.wrap (d * z)) - IntKind.i64.wrap (e * w))).fdiv 512))
theorem so9_gives (a : Int) (b : Int) (c : Int) (d : Int) (e : Int) (x : Int) (y : Int) (z : Int) (w : Int) (i : Int) : Gives Tryd.prog envSa 0 44 [(.agg #[(I a), (I b), (I c), (I d), (I e), (I 9)]), (.agg #[(I x), (I y), (I z), (I w)]), (I i)] heapN ((.agg #[(I (so9_r0 a b c d e x y z w i)), (I (so9_r1 a b c d e x y z w i)), (I i), (I x), (I (so9_r4 a b c d e x y z w i)), (I z)]), heapN) := by
  simp only [so9_r0, so9_r1, so9_r4, cond_true, cond_false]; exact so9_p0 a b c d e x y z w i
def rr9_c0 (a : Int) (b : Int) (c : Int) (d : Int) (e : Int) (x : Int) (y : Int) (z : Int) (w : Int) (i : Int) : Bool := decide (IntKind.i64.wrap (IntKind.i64.wrap ((IntKind.i64.wrap (IntKind.i64.wrap (IntKind.i64.wrap (IntKind.i64.wrap (IntKind.i64.wrap (a * i) + IntKind.i64.wrap (b * x)) + IntKind.i64.wrap (c * y)) - IntKind.i64.wrap (d * z)) - IntKind.i64.wrap (e * w))).tdiv 512) * 512) > IntKind.i64.wrap (IntKind.i64.wrap (IntKind.i64.wrap (IntKind.i64.wrap (IntKind.i64.wrap (a * i) + IntKind.i64.wrap (b * x)) + IntKind.i64.wrap (c * y)) - IntKind.i64.wrap (d * z)) - IntKind.i64.wrap (e * w)))
theorem rr9_p0 (a : Int) (b : Int) (c : Int) (d : Int) (e : Int) (x : Int) (y : Int) (z : Int) (w : Int) (i : Int) (h0 : rr9_c0 a b c d e x y z w i = true) : Gives Tryd.prog envSa 0 42 [(.agg #[(I a), (I b), (I c), (I d), (I e), (I 9)]), (.agg #[(I x), (I y), (I z), (I w)]), (I i)] heapN ((I (IntKind.i64.wrap (IntKind.i64.wrap ((IntKind.i64.wrap (IntKind.i64.wrap (IntKind.i64.wrap (IntKind.i64.wrap (IntKind.i64.wrap (a * i) + IntKind.i64.wrap (b * x)) + IntKind.i64.wrap (c * y)) - IntKind.i64.wrap (d * z)) - IntKind.i64.wrap (e * w))).tdiv 512) - 1))), heapN) :=
  Gives.by (n := 1000) (os := [.br 67 28 true]) (os' := []) (by kernel_rfl) (ObsOK.cond h0 (ObsOK.nil))
theorem rr9_p1 (a : Int) (b : Int) (c : Int) (d : Int) (e : Int) (x : Int) (y : Int) (z : Int) (w : Int) (i : Int) (h0 : rr9_c0 a b c d e x y z w i = false) : Gives Tryd.prog envSa 0 42 [(.agg #[(I a), (I b), (I c), (I d), (I e), (I 9)]), (.agg #[(I x), (I y), (I z), (I w)]), (I i)] heapN ((I (IntKind.i64.wrap ((IntKind.i64.wrap (IntKind.i64.wrap (IntKind.i64.wrap (IntKind.i64.wrap (IntKind.i64.wrap (a * i) + IntKind.i64.wrap (b * x)) + IntKind.i64.wrap (c * y)) - IntKind.i64.wrap (d * z)) - IntKind.i64.wrap (e * w))).tdiv 512))), heapN) :=
  Gives.by (n := 1000) (os := [.br 67 28 false]) (os' := []) (by kernel_rfl) (ObsOK.cond h0 (ObsOK.nil))
def rr9_r0 (a : Int) (b : Int) (c : Int) (d : Int) (e : Int) (x : Int) (y : Int) (z : Int) (w : Int) (i : Int) : Int := (cond (rr9_c0 a b c d e x y z w i) (IntKind.i64.wrap (IntKind.i64.wrap ((IntKind.i64.wrap (IntKind.i64.wrap (IntKind.i64.wrap (IntKind.i64.wrap (IntKind.i64.wrap (a * i) + IntKind.i64.wrap (b * x)) + IntKind.i64.wrap (c * y)) - IntKind.i64.wrap (d * z)) - IntKind.i64.wrap (e * w))).tdiv 512) - 1)) (IntKind.i64.wrap ((IntKind.i64.wrap (IntKind.i64.wrap (IntKind.i64.wrap (IntKind.i64.wrap (IntKind.i64.wrap (a * i) + IntKind.i64.wrap (b * x)) + IntKind.i64.wrap (c * y)) - IntKind.i64.wrap (d * z)) - IntKind.i64.wrap (e * w))).tdiv 512)))
theorem rr9_gives (a : Int) (b : Int) (c : Int) (d : Int) (e : Int) (x : Int) (y : Int) (z : Int) (w : Int) (i : Int) : Gives Tryd.prog envSa 0 42 [(.agg #[(I a), (I b), (I c), (I d), (I e), (I 9)]), (.agg #[(I x), (I y), (I z), (I w)]), (I i)] heapN ((I (rr9_r0 a b c d e x y z w i)), heapN) := by
  cases g0 : rr9_c0 a b c d e x y z w i
  · skip
    simp only [rr9_r0, g0, cond_true, cond_false]; exact rr9_p1 a b c d e x y z w i g0
  · skip
    simp only [rr9_r0, g0, cond_true, cond_false]; exact rr9_p0 a b c d e x y z w i g0
theorem so10_p0 (a : Int) (b : Int) (c : Int) (d : Int) (e : Int) (x : Int) (y : Int) (z : Int) (w : Int) (i : Int) : Gives Tryd.prog envSa 0 44 [(.agg #[(I a), (I b), (I c), (I d), (I e), (I 10)]), (.agg #[(I x), (I y), (I z), (I w)]), (I i)] heapN ((.agg #[(I ((IntKind.i64.wrap (IntKind.i64.wrap (IntKind.i64.wrap (IntKind.i64.wrap (IntKind.i64.wrap (a * i) + IntKind.i64.wrap (b * x)) + IntKind.i64.wrap (c * y)) - IntKind.i64.wrap (d * z)) - IntKind.i64.wrap (e * w))).fdiv 1024)), (I (lim_r0 ((IntKind.i64.wrap (IntKind.i64.wrap (IntKind.i64.wrap (IntKind.i64.wrap (IntKind.i64.wrap (a * i) + IntKind.i64.wrap (b * x)) + IntKind.i64.wrap (c * y)) - IntKind.i64.wrap (d * z)) - IntKind.i64.wrap (e * w))).fdiv 1024))), I i, I x, (I (lim_r0 ((IntKind.i64.wrap (IntKind.i64.wrap (IntKind.i64.wrap (IntKind.i64.wrap (IntKind.i64.wrap (a * i) + IntKind.i64.wrap (b * x)) + IntKind.i64.wrap (c * y)) - IntKind.i64.wrap (d * z)) - IntKind.i64.wrap (e * w))).fdiv 1024))), I z]), heapN) :=
  Gives.by (n := 1000) (os := []) (os' := []) (by kernel_rfl) (ObsOK.nil)
def so10_r0 (a : Int) (b : Int) (c : Int) (d : Int) (e : Int) (x : Int) (y : Int) (z : Int) (w : Int) (i : Int) : Int := ((IntKind.i64.wrap (IntKind.i64.wrap (IntKind.i64.wrap (IntKind.i64.wrap (IntKind.i64.wrap (a * i) + IntKind.i64.wrap (b * x)) + IntKind.i64.wrap (c * y)) - IntKind.i64.wrap (d * z)) - IntKind.i64.wrap (e * w))).fdiv 1024)
def so10_r1 (a : Int) (b : Int) (c : Int) (d : Int) (e : Int) (x : Int) (y : Int) (z : Int) (w : Int) (i : Int) : Int := (lim_r0 ((IntKind.i64.wrap (IntKind.i64.wrap (IntKind.i64.wrap (IntKind.i64.wrap (IntKind.i64.wrap (a * i) + IntKind.i64.wrap (b * x)) + IntKind.i64.wrap (c * y)) - IntKind.i64.wrap (d * z)) - IntKind.i64.wrap (e * w))).fdiv 1024))
def so10_r4 (a : Int) (b : Int) (c : Int) (d : Int) (e : Int) (x : Int) (y : Int) (z : Int) (w : Int) (i : Int) : Int := (lim_r0 ((IntKind.i64.wrap (IntKind.i64.wrap (IntKind.i64.wrap (IntKind.i64.wrap (IntKind.i64.wrap (a * i) + IntKind.i64.wrap (b * x)) + IntKind.i64.wrap (c * y)) - IntKind.i64.wrap (d * z)) - IntKind.i64.wrap (e * w))).fdiv 1024))
theorem so10_gives (a : Int) (b : Int) (c : Int) (d : Int) (e : Int) (x : Int) (y : Int) (z : Int) (w : Int) (i : Int) : Gives Tryd.prog envSa 0 44 [(.agg #[(I a), (I b), (I c), (I d), (I e), (I 10)]), (.agg #[(I x), (I y), (I z), (I w)]), (I i)] heapN ((.agg #[(I (so10_r0 a b c d e x y z w i)), (I (so10_r1 a b c d e x y z w i)), (I i), (I x), (I (so10_r4 a b c d e x y z w i)), (I z)]), heapN) := by
  simp only [so10_r0, so10_r1, so10_r4, cond_true, cond_false]; exact so10_p0 a b c d e x y z w i
def rr10_c0 (a : Int) (b : Int) (c : Int) (d : Int) (e : Int) (x : Int) (y : Int) (z : Int) (w : Int) (i : Int) : Bool := decide (IntKind.i64.wrap (IntKind.i64.wrap ((IntKind.i64.wrap (IntKind.i64.wrap (IntKind.i64.wrap (IntKind.i64.wrap (IntKind.i64.wrap (a * i) + IntKind.i64.wrap (b * x)) + IntKind.i64.wrap (c * y)) - IntKind.i64.wrap (d * z)) - IntKind.i64.wrap (e * w))).tdiv 1024) * 1024) > IntKind.i64.wrap (IntKind.i64.wrap (IntKind.i64.wrap (IntKind.i64.wrap (IntKind.i64.wrap (a * i) + IntKind.i64.wrap (b * x)) + IntKind.i64.wrap (c * y)) - IntKind.i64.wrap (d * z)) - IntKind.i64.wrap (e * w)))
theorem rr10_p0 (a : Int) (b : Int) (c : Int) (d : Int) (e : Int) (x : Int) (y : Int) (z : Int) (w : Int) (i : Int) (h0 : rr10_c0 a b c d e x y z w i = true) : Gives Tryd.prog envSa 0 42 [(.agg #[(I a), (I b), (I c), (I d), (I e), (I 10)]), (.agg #[(I x), (I y), (I z), (I w)]), (I i)] heapN ((I (IntKind.i64.wrap (IntKind.i64.wrap ((IntKind.i64.wrap (IntKind.i64.wrap (IntKind.i64.wrap (IntKind.i64.wrap (IntKind.i64.wrap (a * i) + IntKind.i64.wrap (b * x)) + IntKind.i64.wrap (c * y)) - IntKind.i64.wrap (d * z)) - IntKind.i64.wrap (e * w))).tdiv 1024) - 1))), heapN) :=
  Gives.by (n := 1000) (os := [.br 67 28 true]) (os' := []) (by kernel_rfl) (ObsOK.cond h0 (ObsOK.nil))
theorem rr10_p1 (a : Int) (b : Int) (c : Int) (d : Int) (e : Int) (x : Int) (y : Int) (z : Int) (w : Int) (i : Int) (h0 : rr10_c0 a b c d e x y z w i = false) : Gives Tryd.prog envSa 0 42 [(.agg #[(I a), (I b), (I c), (I d), (I e), (I 10)]), (.agg #[(I x), (I y), (I z), (I w)]), (I i)] heapN ((I (IntKind.i64.wrap ((IntKind.i64.wrap (IntKind.i64.wrap (IntKind.i64.wrap (IntKind.i64.wrap (IntKind.i64.wrap (a * i) + IntKind.i64.wrap (b * x)) + IntKind.i64.wrap (c * y)) - IntKind.i64.wrap (d * z)) - IntKind.i64.wrap (e * w))).tdiv 1024))), heapN) :=
  Gives.by (n := 1000) (os := [.br 67 28 false]) (os' := []) (by kernel_rfl) (ObsOK.cond h0 (ObsOK.nil))
def rr10_r0 (a : Int) (b : Int) (c : Int) (d : Int) (e : Int) (x : Int) (y : Int) (z : Int) (w : Int) (i : Int) : Int := (cond (rr10_c0 a b c d e x y z w i) (IntKind.i64.wrap (IntKind.i64.wrap ((IntKind.i64.wrap (IntKind.i64.wrap (IntKind.i64.wrap (IntKind.i64.wrap (IntKind.i64.wrap (a * i) + IntKind.i64.wrap (b * x)) + IntKind.i64.wrap (c * y)) - IntKind.i64.wrap (d * z)) - IntKind.i64.wrap (e * w))).tdiv 1024) - 1)) (IntKind.i64.wrap ((IntKind.i64.wrap (IntKind.i64.wrap (IntKind.i64.wrap (IntKind.i64.wrap (IntKind.i64.wrap (a * i) + IntKind.i64.wrap (b * x)) + IntKind.i64.wrap (c * y)) - IntKind.i64.wrap (d * z)) - IntKind.i64.wrap (e * w))).tdiv 1024)))
theorem rr10_gives (a : Int) (b : Int) (c : Int) (d : Int) (e : Int) (x : Int) (y : Int) (z : Int) (w : Int) (i : Int) : Gives Tryd.prog envSa 0 42 [(.agg #[(I a), (I b), (I c), (I d), (I e), (I 10)]), (.agg #[(I x), (I y), (I z), (I w)]), (I i)] heapN ((I (rr10_r0 a b c d e x y z w i)), heapN) := by
  cases g0 : rr10_c0 a b c d e x y z w i
  · skip
    simp only [rr10_r0, g0, cond_true, cond_false]; exact rr10_p1 a b c d e x y z w i g0
  · skip
    simp only [rr10_r0, g0, cond_true, cond_false]; exact rr10_p0 a b c d e x y z w i g0
theorem so11_p0 (a : Int) (b : Int) (c : Int) (d : Int) (e : Int) (x : Int) (y : Int) (z : Int) (w : Int) (i : Int) : Gives Tryd.prog envSa 0 44 [(.agg #[(I a), (I b), (I c), (I d), (I e), (I 11)]), (.agg #[(I x), (I y), (I z), (I w)]), (I i)] heapN ((.agg #[(I ((IntKind.i64.wrap (IntKind.i64.wrap (IntKind.i64.wrap (IntKind.i64.wrap (IntKind.i64.wrap (a * i) + IntKind.i64.wrap (b * x)) + IntKind.i64.wrap (c * y)) - IntKind.i64.wrap (d * z)) - IntKind.i64.wrap (e * w))).fdiv 2048)), (I (lim_r0 ((IntKind.i64.wrap (IntKind.i64.wrap (IntKind.i64.wrap (IntKind.i64.wrap (IntKind.i64.wrap (a * i) + IntKind.i64.wrap (b * x)) + IntKind.i64.wrap (c * y)) - IntKind.i64.wrap (d * z)) - IntKind.i64.wrap (e * w))).fdiv 2048))), I i, I x, (I (lim_r0 ((IntKind.i64.wrap (IntKind.i64.wrap (IntKind.i64.wrap (IntKind.i64.wrap (IntKind.i64.wrap (a * i) + IntKind.i64.wrap (b * x)) + IntKind.i64.wrap (c * y)) - IntKind.i64.wrap (d * z)) - IntKind.i64.wrap (e * w))).fdiv 2048))), I z]), heapN) :=
  Gives.by (n := 1000) (os := []) (os' := []) (by kernel_rfl) (ObsOK.nil)
def so11_r0 (a : Int) (b : Int) (c : Int) (d : Int) (e : Int) (x : Int) (y : Int) (z : Int) (w : Int) (i : Int) : Int := ((IntKind.i64.wrap (IntKind.i64.wrap (IntKind.i64.wrap (IntKind.i64.wrap (IntKind.i64.wrap (a * i) + IntKind.i64.wrap (b * x)) + IntKind.i64.wrap (c * y)) - IntKind.i64.wrap (d * z)) - IntKind.i64.wrap (e * w))).fdiv 2048)
def so11_r1 (a : Int) (b : Int) (c : Int) (d : Int) (e : Int) (x : Int) (y : Int) (z : Int) (w : Int) (i : Int) : Int := (lim_r0 ((IntKind.i64.wrap (IntKind.i64.wrap (IntKind.i64.wrap (IntKind.i64.wrap (IntKind.i64.wrap (a * i) + IntKind.i64.wrap (b * x)) + IntKind.i64.wrap (c * y)) - IntKind.i64.wrap (d * z)) - IntKind.i64.wrap (e * w))).fdiv 2048))
def so11_r4 (a : Int) (b : Int) (c : Int) (d : Int) (e : Int) (x : Int) (y : Int) (z : Int) (w : Int) (i : Int) : Int := (lim_r0 ((IntKind.i64.wrap (IntKind.i64.wrap (IntKind.i64.wrap (IntKind.i64.wrap (IntKind.i64.wrap (a * i) + IntKind.i64.wrap (b * x)) + IntKind.i64.wrap (c * y)) - IntKind.i64.wrap (d * z)) - IntKind.i64.wrap (e * w))).fdiv 2048))
theorem so11_gives (a : Int) (b : Int) (c : Int) (d : Int) (e : Int) (x : Int) (y : Int) (z : Int) (w : Int) (i : Int) : Gives Tryd.prog envSa 0 44 [(.agg #[(I a), (I b), (I c), (I d), (I e), (I 11)]), (.agg #[(I x), (I y), (I z), (I w)]), (I i)] heapN ((.agg #[(I (so11_r0 a b c d e x y z w i)), (I (so11_r1 a b c d e x y z w i)), (I i), (I x), (I (so11_r4 a b c d e x y z w i)), (I z)]), heapN) := by
  simp only [so11_r0, so11_r1, so11_r4, cond_true, cond_false]; exact so11_p0 a b c d e x y z w i
def rr11_c0 (a : Int) (b : Int) (c : Int) (d : Int) (e : Int) (x : Int) (y : Int) (z : Int) (w : Int) (i : Int) : Bool := decide (IntKind.i64.wrap (IntKind.i64.wrap ((IntKind.i64.wrap (IntKind.i64.wrap (IntKind.i64.wrap (IntKind.i64.wrap (IntKind.i64.wrap (a * i) + IntKind.i64.wrap (b * x)) + IntKind.i64.wrap (c * y)) - IntKind.i64.wrap (d * z)) - IntKind.i64.wrap (e * w))).tdiv 2048) * 2048) > IntKind.i64.wrap (IntKind.i64.wrap (IntKind.i64.wrap (IntKind.i64.wrap (IntKind.i64.wrap (a * i) + IntKind.i64.wrap (b * x)) + IntKind.i64.wrap (c * y)) - IntKind.i64.wrap (d * z)) - IntKind.i64.wrap (e * w)))
theorem rr11_p0 (a : Int) (b : Int) (c : Int) (d : Int) (e : Int) (x : Int) (y : Int) (z : Int) (w : Int) (i : Int) (h0 : rr11_c0 a b c d e x y z w i = true) : Gives Tryd.prog envSa 0 42 [(.agg #[(I a), (I b), (I c), (I d), (I e), (I 11)]), (.agg #[(I x), (I y), (I z), (I w)]), (I i)] heapN ((I (IntKind.i64.wrap (IntKind.i64.wrap ((IntKind.i64.wrap (IntKind.i64.wrap (IntKind.i64.wrap (IntKind.i64.wrap (IntKind.i64.wrap (a * i) + IntKind.i64.wrap (b * x)) + IntKind.i64.wrap (c * y)) - IntKind.i64.wrap (d * z)) - IntKind.i64.wrap (e * w))).tdiv 2048) - 1))), heapN) :=
  Gives.by (n := 1000) (os := [.br 67 28 true]) (os' := []) (by kernel_rfl) (ObsOK.cond h0 (ObsOK.nil))
theorem rr11_p1 (a : Int) (b : Int) (c : Int) (d : Int) (e : Int) (x : Int) (y : Int) (z : Int) (w : Int) (i : Int) (h0 : rr11_c0 a b c d e x y z w i = false) : Gives Tryd.prog envSa 0 42 [(.agg #[(I a), (I b), (I c), (I d), (I e), (I 11)]), (.agg #[(I x), (I y), (I z), (I w)]), (I i)] heapN ((I (IntKind.i64.wrap ((IntKind.i64.wrap (IntKind.i64.wrap (IntKind.i64.wrap (IntKind.i64.wrap (IntKind.i64.wrap (a * i) + IntKind.i64.wrap (b * x)) + IntKind.i64.wrap (c * y)) - IntKind.i64.wrap (d * z)) - IntKind.i64.wrap (e * w))).tdiv 2048))), heapN) :=
  Gives.by (n := 1000) (os := [.br 67 28 false]) (os' := []) (by kernel_rfl) (ObsOK.cond h0 (ObsOK.nil))
def rr11_r0 (a : Int) (b : Int) (c : Int) (d : Int) (e : Int) (x : Int) (y : Int) (z : Int) (w : Int) (i : Int) : Int := (cond (rr11_c0 a b c d e x y z w i) (IntKind.i64.wrap (IntKind.i64.wrap ((IntKind.i64.wrap (IntKind.i64.wrap (IntKind.i64.wrap (IntKind.i64.wrap (IntKind.i64.wrap (a * i) + IntKind.i64.wrap (b * x)) + IntKind.i64.wrap (c * y)) - IntKind.i64.wrap (d * z)) - IntKind.i64.wrap (e * w))).tdiv 2048) - 1)) (IntKind.i64.wrap ((IntKind.i64.wrap (IntKind.i64.wrap (IntKind.i64.wrap (IntKind.i64.wrap (IntKind.i64.wrap (a * i) + IntKind.i64.wrap (b * x)) + IntKind.i64.wrap (c * y)) - IntKind.i64.wrap (d * z)) - IntKind.i64.wrap (e * w))).tdiv 2048)))
theorem rr11_gives (a : Int) (b : Int) (c : Int) (d : Int) (e : Int) (x : Int) (y : Int) (z : Int) (w : Int) (i : Int) : Gives Tryd.prog envSa 0 42 [(.agg #[(I a), (I b), (I c), (I d), (I e), (I 11)]), (.agg #[(I x), (I y), (I z), (I w)]), (I i)] heapN ((I (rr11_r0 a b c d e x y z w i)), heapN) := by
  cases g0 : rr11_c0 a b c d e x y z w i
  · skip
    simp only [rr11_r0, g0, cond_true, cond_false]; exact rr11_p1 a b c d e x y z w i g0
  · skip
    simp only [rr11_r0, g0, cond_true, cond_false]; exact rr11_p0 a b c d e x y z w i g0
theorem so12_p0 (a : Int) (b : Int) (c : Int) (d : Int) (e : Int) (x : Int) (y : Int) (z : Int) (w : Int) (i : Int) : Gives Tryd.prog envSa 0 44 [(.agg #[(I a), (I b), (I c), (I d), (I e), (I 12)]), (.agg #[(I x), (I y), (I z), (I w)]), (I i)] heapN ((.agg #[(I ((IntKind.i64.wrap (IntKind.i64.wrap (IntKind.i64.wrap (IntKind.i64.wrap (IntKind.i64.wrap (a * i) + IntKind.i64.wrap (b * x)) + IntKind.i64.wrap (c * y)) - IntKind.i64.wrap (d * z)) - IntKind.i64.wrap (e * w))).fdiv 4096)), (I (lim_r0 ((IntKind.i64.wrap (IntKind.i64.wrap (IntKind.i64.wrap (IntKind.i64.wrap (IntKind.i64.wrap (a * i) + IntKind.i64.wrap (b * x)) + IntKind.i64.wrap (c * y)) - IntKind.i64.wrap (d * z)) - IntKind.i64.wrap (e * w))).fdiv 4096))), I i, I x, (I (lim_r0 ((IntKind.i64.wrap (IntKind.i64.wrap (IntKind.i64.wrap (IntKind.i64.wrap (IntKind.i64.wrap (a * i) + IntKind.i64.wrap (b * x)) + IntKind.i64.wrap (c * y)) - IntKind.i64.wrap (d * z)) - IntKind.i64.wrap (e * w))).fdiv 4096))), I z]), heapN) :=
  Gives.by (n := 1000) (os := []) (os' := []) (by kernel_rfl) (ObsOK.nil)
def so12_r0 (a : Int) (b : Int) (c : Int) (d : Int) (e : Int) (x : Int) (y : Int) (z : Int) (w : Int) (i : Int) : Int := ((IntKind.i64.wrap (IntKind.i64.wrap (IntKind.i64.wrap (IntKind.i64.wrap (IntKind.i64.wrap (a * i) + IntKind.i64.wrap (b * x)) + IntKind.i64.wrap (c * y)) - IntKind.i64.wrap (d * z)) - IntKind.i64.wrap (e * w))).fdiv 4096)
def so12_r1 (a : Int) (b : Int) (c : Int) (d : Int) (e : Int) (x : Int) (y : Int) (z : Int) (w : Int) (i : Int) : Int := (lim_r0 ((IntKind.i64.wrap (IntKind.i64.wrap (IntKind.i64.wrap (IntKind.i64.wrap (IntKind.i64.wrap (a * i) + IntKind.i64.wrap (b * x)) + IntKind.i64.wrap (c * y)) - IntKind.i64.wrap (d * z)) - IntKind.i64.wrap (e * w))).fdiv 4096))
def so12_r4 (a : Int) (b : Int) (c : Int) (d : Int) (e : Int) (x : Int) (y : Int) (z : Int) (w : Int) (i : Int) : Int := (lim_r0 ((IntKind.i64.wrap (IntKind.i64.wrap (IntKind.i64.wrap (IntKind.i64.wrap (IntKind.i64.wrap (a * i) + IntKind.i64.wrap (b * x)) + IntKind.i64.wrap (c * y)) - IntKind.i64.wrap (d * z)) - IntKind.i64.wrap (e * w))).fdiv 4096))
theorem so12_gives (a : Int) (b : Int) (c : Int) (d : Int) (e : Int) (x : Int) (y : Int) (z : Int) (w : Int) (i : Int) : Gives Tryd.prog envSa 0 44 [(.agg #[(I a), (I b), (I c), (I d), (I e), (I 12)]), (.agg #[(I x), (I y), (I z), (I w)]), (I i)] heapN ((.agg #[(I (so12_r0 a b c d e x y z w i)), (I (so12_r1 a b c d e x y z w i)), (I i), (I x), (I (so12_r4 a b c d e x y z w i)), (I z)]), heapN) := by
  simp only [so12_r0, so12_r1, so12_r4, cond_true, cond_false]; exact so12_p0 a b c d e x y z w i
def rr12_c0 (a : Int) (b : Int) (c : Int) (d : Int) (e : Int) (x : Int) (y : Int) (z : Int) (w : Int) (i : Int) : Bool := decide (IntKind.i64.wrap (IntKind.i64.wrap ((IntKind.i64.wrap (IntKind.i64.wrap (IntKind.i64.wrap (IntKind.i64.wrap (IntKind.i64.wrap (a * i) + IntKind.i64.wrap (b * x)) + IntKind.i64.wrap (c * y)) - IntKind.i64.wrap (d * z)) - IntKind.i64.wrap (e * w))).tdiv 4096) * 4096) > IntKind.i64.wrap (IntKind.i64.wrap (IntKind.i64.wrap (IntKind.i64.wrap (IntKind.i64.wrap (a * i) + IntKind.i64.wrap (b * x)) + IntKind.i64.wrap (c * y)) - IntKind.i64.wrap (d * z)) - IntKind.i64.wrap (e * w)))
theorem rr12_p0 (a : Int) (b : Int) (c : Int) (d : Int) (e : Int) (x : Int) (y : Int) (z : Int) (w : Int) (i : Int) (h0 : rr12_c0 a b c d e x y z w i = true) : Gives Tryd.prog envSa 0 42 [(.agg #[(I a), (I b), (I c), (I d), (I e), (I 12)]), (.agg #[(I x), (I y), (I z), (I w)]), (I i)] heapN ((I (IntKind.i64.wrap (IntKind.i64.wrap ((IntKind.i64.wrap (IntKind.i64.wrap (IntKind.i64.wrap (IntKind.i64.wrap (IntKind.i64.wrap (a * i) + IntKind.i64.wrap (b * x)) + IntKind.i64.wrap (c * y)) - IntKind.i64.wrap (d * z)) - IntKind.i64.wrap (e * w))).tdiv 4096) - 1))), heapN) :=
  Gives.by (n := 1000) (os := [.br 67 28 true]) (os' := []) (by kernel_rfl) (ObsOK.cond h0 (ObsOK.nil))
theorem rr12_p1 (a : Int) (b : Int) (c : Int) (d : Int) (e : Int) (x : Int) (y : Int) (z : Int) (w : Int) (i : Int) (h0 : rr12_c0 a b c d e x y z w i = false) : Gives Tryd.prog envSa 0 42 [(.agg #[(I a), (I b), (I c), (I d), (I e), (I 12)]), (.agg #[(I x), (I y), (I z), (I w)]), (I i)] heapN ((I (IntKind.i64.wrap ((IntKind.i64.wrap (IntKind.i64.wrap (IntKind.i64.wrap (IntKind.i64.wrap (IntKind.i64.wrap (a * i) + IntKind.i64.wrap (b * x)) + IntKind.i64.wrap (c * y)) - IntKind.i64.wrap (d * z)) - IntKind.i64.wrap (e * w))).tdiv 4096))), heapN) :=
  Gives.by (n := 1000) (os := [.br 67 28 false]) (os' := []) (by kernel_rfl) (ObsOK.cond h0 (ObsOK.nil))
def rr12_r0 (a : Int) (b : Int) (c : Int) (d : Int) (e : Int) (x : Int) (y : Int) (z : Int) (w : Int) (i : Int) : Int := (cond (rr12_c0 a b c d e x y z w i) (IntKind.i64.wrap (IntKind.i64.wrap ((IntKind.i64.wrap (IntKind.i64.wrap (IntKind.i64.wrap (IntKind.i64.wrap (IntKind.i64.wrap (a * i) + IntKind.i64.wrap (b * x)) + IntKind.i64.wrap (c * y)) - IntKind.i64.wrap (d * z)) - IntKind.i64.wrap (e * w))).tdiv 4096) - 1)) (IntKind.i64.wrap ((IntKind.i64.wrap (IntKind.i64.wrap (IntKind.i64.wrap (IntKind.i64.wrap (IntKind.i64.wrap (a * i) + IntKind.i64.wrap (b * x)) + IntKind.i64.wrap (c * y)) - IntKind.i64.wrap (d * z)) - IntKind.i64.wrap (e * w))).tdiv 4096)))
theorem rr12_gives (a : Int) (b : Int) (c : Int) (d : Int) (e : Int) (x : Int) (y : Int) (z : Int) (w : Int) (i : Int) : Gives Tryd.prog envSa 0 42 [(.agg #[(I a), (I b), (I c), (I d), (I e), (I 12)]), (.agg #[(I x), (I y), (I z), (I w)]), (I i)] heapN ((I (rr12_r0 a b c d e x y z w i)), heapN) := by
  cases g0 : rr12_c0 a b c d e x y z w i
  · skip
    simp only [rr12_r0, g0, cond_true, cond_false]; exact rr12_p1 a b c d e x y z w i g0
  · skip
    simp only [rr12_r0, g0, cond_true, cond_false]; exact rr12_p0 a b c d e x y z w i g0
theorem so13_p0 (a : Int) (b : Int) (c : Int) (d : Int) (e : Int) (x : Int) (y : Int) (z : Int) (w : Int) (i : Int) : Gives Tryd.prog envSa 0 44 [(.agg #[(I a), (I b), (I c), (I d), (I e), (I 13)]), (.agg #[(I x), (I y), (I z), (I w)]), (I i)] heapN ((.agg #[(I ((IntKind.i64.wrap (IntKind.i64.wrap (IntKind.i64.wrap (IntKind.i64.wrap (IntKind.i64.wrap (a * i) + IntKind.i64.wrap (b * x)) + IntKind.i64.wrap (c * y)) - IntKind.i64.wrap (d * z)) - IntKind.i64.wrap (e * w))).fdiv 8192)), (I (lim_r0 ((IntKind.i64.wrap (IntKind.i64.wrap (IntKind.i64.wrap (IntKind.i64.wrap (IntKind.i64.wrap (a * i) + IntKind.i64.wrap (b * x)) + IntKind.i64.wrap (c * y)) - IntKind.i64.wrap (d * z)) - IntKind.i64.wrap (e * w))).fdiv 8192))), I i, I x, (I (lim_r0 ((IntKind.i64.wrap (IntKind.i64.wrap (IntKind.i64.wrap (IntKind.i64.wrap (IntKind.i64.wrap (a * i) + IntKind.i64.wrap (b * x)) + IntKind.i64.wrap (c * y)) - IntKind.i64.wrap (d * z)) - IntKind.i64.wrap (e * w))).fdiv 8192))), I z]), heapN) :=
  Gives.by (n := 1000) (os := []) (os' := []) (by kernel_rfl) (ObsOK.nil)
def so13_r0 (a : Int) (b : Int) (c : Int) (d : Int) (e : Int) (x : Int) (y : Int) (z : Int) (w : Int) (i : Int) : Int := ((IntKind.i64.wrap (IntKind.i64.wrap (IntKind.i64.wrap (IntKind.i64.wrap (IntKind.i64.wrap (a * i) + IntKind.i64.wrap (b * x)) + IntKind.i64.wrap (c * y)) - IntKind.i64.wrap (d * z)) - IntKind.i64.wrap (e * w))).fdiv 8192)
def so13_r1 (a : Int) (b : Int) (c : Int) (d : Int) (e : Int) (x : Int) (y : Int) (z : Int) (w : Int) (i : Int) : Int := (lim_r0 ((IntKind.i64.wrap (IntKind.i64.wrap (IntKind.i64.wrap (IntKind.i64.wrap (IntKind.i64.wrap (a * i) + IntKind.i64.wrap (b * x)) + IntKind.i64.wrap (c * y)) - IntKind.i64.wrap (d * z)) - IntKind.i64.wrap (e * w))).fdiv 8192))
def so13_r4 (a : Int) (b : Int) (c : Int) (d : Int) (e : Int) (x : Int) (y : Int) (z : Int) (w : Int) (i : Int) : Int := (lim_r0 ((IntKind.i64.wrap (IntKind.i64.wrap (IntKind.i64.wrap (IntKind.i64.wrap (IntKind.i64.wrap (a * i) + IntKind.i64.wrap (b * x)) + IntKind.i64.wrap (c * y)) - IntKind.i64.wrap (d * z)) - IntKind.i64.wrap (e * w))).fdiv 8192))
theorem so13_gives (a : Int) (b : Int) (c : Int) (d : Int) (e : Int) (x : Int) (y : Int) (z : Int) (w : Int) (i : Int) : Gives Tryd.prog envSa 0 44 [(.agg #[(I a), (I b), (I c), (I d), (I e), (I 13)]), (.agg #[(I x), (I y), (I z), (I w)]), (I i)] heapN ((.agg #[(I (so13_r0 a b c d e x y z w i)), (I (so13_r1 a b c d e x y z w i)), (I i), (I x), (I (so13_r4 a b c d e x y z w i)), (I z)]), heapN) := by
  simp only [so13_r0, so13_r1, so13_r4, cond_true, cond_false]; exact so13_p0 a b c d e x y z w i
def rr13_c0 (a : Int) (b : Int) (c : Int) (d : Int) (e : Int) (x : Int) (y : Int) (z : Int) (w : Int) (i : Int) : Bool := decide (IntKind.i64.wrap (IntKind.i64.wrap ((IntKind.i64.wrap (IntKind.i64.wrap (IntKind.i64.wrap (IntKind.i64.wrap (IntKind.i64.wrap (a * i) + IntKind.i64.wrap (b * x)) + IntKind.i64.wrap (c * y)) - IntKind.i64.wrap (d * z)) - IntKind.i64.wrap (e * w))).tdiv 8192) * 8192) > IntKind.i64.wrap (IntKind.i64.wrap (IntKind.i64.wrap (IntKind.i64.wrap (IntKind.i64.wrap (a * i) + IntKind.i64.wrap (b * x)) + IntKind.i64.wrap (c * y)) - IntKind.i64.wrap (d * z)) - IntKind.i64.wrap (e * w)))
theorem rr13_p0 (a : Int) (b : Int) (c : Int) (d : Int) (e : Int) (x : Int) (y : Int) (z : Int) (w : Int) (i : Int) (h0 : rr13_c0 a b c d e x y z w i = true) : Gives Tryd.prog envSa 0 42 [(.agg #[(I a), (I b), (I c), (I d), (I e), (I 13)]), (.agg #[(I x), (I y), (I z), (I w)]), (I i)] heapN ((I (IntKind.i64.wrap (IntKind.i64.wrap ((IntKind.i64.wrap (IntKind.i64.wrap (IntKind.i64.wrap (IntKind.i64.wrap (IntKind.i64.wrap (a * i) + IntKind.i64.wrap (b * x)) + IntKind.i64.wrap (c * y)) - IntKind.i64.wrap (d * z)) - IntKind.i64.wrap (e * w))).tdiv 8192) - 1))), heapN) :=
  Gives.by (n := 1000) (os := [.br 67 28 true]) (os' := []) (by kernel_rfl) (ObsOK.cond h0 (ObsOK.nil))
theorem rr13_p1 (a : Int) (b : Int) (c : Int) (d : Int) (e : Int) (x : Int) (y : Int) (z : Int) (w : Int) (i : Int) (h0 : rr13_c0 a b c d e x y z w i = false) : Gives Tryd.prog envSa 0 42 [(.agg #[(I a), (I b), (I c), (I d), (I e), (I 13)]), (.agg #[(I x), (I y), (I z), (I w)]), (I i)] heapN ((I (IntKind.i64.wrap ((IntKind.i64.wrap (IntKind.i64.wrap (IntKind.i64.wrap (IntKind.i64.wrap (IntKind.i64.wrap (a * i) + IntKind.i64.wrap (b * x)) + IntKind.i64.wrap (c * y)) - IntKind.i64.wrap (d * z)) - IntKind.i64.wrap (e * w))).tdiv 8192))), heapN) :=
  Gives.by (n := 1000) (os := [.br 67 28 false]) (os' := []) (by kernel_rfl) (ObsOK.cond h0 (ObsOK.nil))
def rr13_r0 (a : Int) (b : Int) (c : Int) (d : Int) (e : Int) (x : Int) (y : Int) (z : Int) (w : Int) (i : Int) : Int := (cond (rr13_c0 a b c d e x y z w i) (IntKind.i64.wrap (IntKind.i64.wrap ((IntKind.i64.wrap (IntKind.i64.wrap (IntKind.i64.wrap (IntKind.i64.wrap (IntKind.i64.wrap (a * i) + IntKind.i64.wrap (b * x)) + IntKind.i64.wrap (c * y)) - IntKind.i64.wrap (d * z)) - IntKind.i64.wrap (e * w))).tdiv 8192) - 1)) (IntKind.i64.wrap ((IntKind.i64.wrap (IntKind.i64.wrap (IntKind.i64.wrap (IntKind.i64.wrap (IntKind.i64.wrap (a * i) + IntKind.i64.wrap (b * x)) + IntKind.i64.wrap (c * y)) - IntKind.i64.wrap (d * z)) - IntKind.i64.wrap (e * w))).tdiv 8192)))
theorem rr13_gives (a : Int) (b : Int) (c : Int) (d : Int) (e : Int) (x : Int) (y : Int) (z : Int) (w : Int) (i : Int) : Gives Tryd.prog envSa 0 42 [(.agg #[(I a), (I b), (I c), (I d), (I e), (I 13)]), (.agg #[(I x), (I y), (I z), (I w)]), (I i)] heapN ((I (rr13_r0 a b c d e x y z w i)), heapN) := by
  cases g0 : rr13_c0 a b c d e x y z w i
  · skip
    simp only [rr13_r0, g0, cond_true, cond_false]; exact rr13_p1 a b c d e x y z w i g0
  · skip
    simp only [rr13_r0, g0, cond_true, cond_false]; exact rr13_p0 a b c d e x y z w i g0
theorem so14_p0 (a : Int) (b : Int) (c : Int) (d : Int) (e : Int) (x : Int) (y : Int) (z : Int) (w : Int) (i : Int) : Gives Tryd.prog envSa 0 44 [(.agg #[(I a), (I b), (I c), (I d), (I e), (I 14)]), (.agg #[(I x), (I y), (I z), (I w)]), (I i)] heapN ((.agg #[(I ((IntKind.i64.wrap (IntKind.i64.wrap (IntKind.i64.wrap (IntKind.i64.wrap (IntKind.i64.wrap (a * i) + IntKind.i64.wrap (b * x)) + IntKind.i64.wrap (c * y)) - IntKind.i64.wrap (d * z)) - IntKind.i64.wrap (e * w))).fdiv 16384)), (I (lim_r0 ((IntKind.i64.wrap (IntKind.i64.wrap (IntKind.i64.wrap (IntKind.i64.wrap (IntKind.i64.wrap (a * i) + IntKind.i64.wrap (b * x)) + IntKind.i64.wrap (c * y)) - IntKind.i64.wrap (d * z)) - IntKind.i64.wrap (e * w))).fdiv 16384))), I i, I x, (I (lim_r0 ((IntKind.i64.wrap (IntKind.i64.wrap (IntKind.i64.wrap (IntKind.i64.wrap (IntKind.i64.wrap (a * i) + IntKind.i64.wrap (b * x)) + IntKind.i64.wrap (c * y)) - IntKind.i64.wrap (d * z)) - IntKind.i64.wrap (e * w))).fdiv 16384))), I z]), heapN) :=
  Gives.by (n := 1000) (os := []) (os' := []) (by kernel_rfl) (ObsOK.nil)
def so14_r0 (a : Int) (b : Int) (c : Int) (d : Int) (e : Int) (x : Int) (y : Int) (z : Int) (w : Int) (i : Int) : Int := ((IntKind.i64.wrap (IntKind.i64.wrap (IntKind.i64.wrap (IntKind.i64.wrap (IntKind.i64.wrap (a * i) + IntKind.i64.wrap (b * x)) + IntKind.i64.wrap (c * y)) - IntKind.i64.wrap (d * z)) - IntKind.i64.wrap (e * w))).fdiv 16384)
def so14_r1 (a : Int) (b : Int) (c : Int) (d : Int) (e : Int) (x : Int) (y : Int) (z : Int) (w : Int) (i : Int) : Int := (lim_r0 ((IntKind.i64.wrap (IntKind.i64.wrap (IntKind.i64.wrap (IntKind.i64.wrap (IntKind.i64.wrap (a * i) + IntKind.i64.wrap (b * x)) + IntKind.i64.wrap (c * y)) - IntKind.i64.wrap (d * z)) - IntKind.i64.wrap (e * w))).fdiv 16384))
def so14_r4 (a : Int) (b : Int) (c : Int) (d : Int) (e : Int) (x : Int) (y : Int) (z : Int) (w : Int) (i : Int) : Int := (lim_r0 ((IntKind.i64.wrap (IntKind.i64.wrap (IntKind.i64.wrap (IntKind.i64.wrap (IntKind.i64.wrap (a * i) + IntKind.i64.wrap (b * x)) + IntKind.i64.wrap (c * y)) - IntKind.i64.wrap (d * z)) - IntKind.i64.wrap (e * w))).fdiv 16384))
theorem so14_gives (a : Int) (b : Int) (c : Int) (d : Int) (e : Int) (x : Int) (y : Int) (z : Int) (w : Int) (i : Int) : Gives Tryd.prog envSa 0 44 [(.agg #[(I a), (I b), (I c), (I d), (I e), (I 14)]), (.agg #[(I x), (I y), (I z), (I w)]), (I i)] heapN ((.agg #[(I (so14_r0 a b c d e x y z w i)), (I (so14_r1 a b c d e x y z w i)), (I i), (I x), (I (so14_r4 a b c d e x y z w i)), (I z)]), heapN) := by
  simp only [so14_r0, so14_r1, so14_r4, cond_true, cond_false]; exact so14_p0 a b c d e x y z w i
def rr14_c0 (a : Int) (b : Int) (c : Int) (d : Int) (e : Int) (x : Int) (y : Int) (z : Int) (w : Int) (i : Int) : Bool := decide (IntKind.i64.wrap (IntKind.i64.wrap ((IntKind.i64.wrap (IntKind.i64.wrap (IntKind.i64.wrap (IntKind.i64.wrap (IntKind.i64.wrap (a * i) + IntKind.i64.wrap (b * x)) + IntKind.i64.wrap (c * y)) - IntKind.i64.wrap (d * z)) - IntKind.i64.wrap (e * w))).tdiv 16384) * 16384) > IntKind.i64.wrap (IntKind.i64.wrap (IntKind.i64.wrap (IntKind.i64.wrap (IntKind.i64.wrap (a * i) + IntKind.i64.wrap (b * x)) + IntKind.i64.wrap (c * y)) - IntKind.i64.wrap (d * z)) - IntKind.i64.wrap (e * w)))
theorem rr14_p0 (a : Int) (b : Int) (c : Int) (d : Int) (e : Int) (x : Int) (y : Int) (z : Int) (w : Int) (i : Int) (h0 : rr14_c0 a b c d e x y z w i = true) : Gives Tryd.prog envSa 0 42 [(.agg #[(I a), (I b), (I c), (I d), (I e), (I 14)]), (.agg #[(I x), (I y), (I z), (I w)]), (I i)] heapN ((I (IntKind.i64.wrap (IntKind.i64.wrap ((IntKind.i64.wrap (IntKind.i64.wrap (IntKind.i64.wrap (IntKind.i64.wrap (IntKind.i64.wrap (a * i) + IntKind.i64.wrap (b * x)) + IntKind.i64.wrap (c * y)) - IntKind.i64.wrap (d * z)) - IntKind.i64.wrap (e * w))).tdiv 16384) - 1))), heapN) :=
  Gives.by (n := 1000) (os := [.br 67 28 true]) (os' := []) (by kernel_rfl) (ObsOK.cond h0 (ObsOK.nil))
theorem rr14_p1 (a : Int) (b : Int) (c : Int) (d : Int) (e : Int) (x : Int) (y : Int) (z : Int) (w : Int) (i : Int) (h0 : rr14_c0 a b c d e x y z w i = false) : Gives Tryd.prog envSa 0 42 [(.agg #[(I a), (I b), (I c), (I d), (I e), (I 14)]), (.agg #[(I x), (I y), (I z), (I w)]), (I i)] heapN ((I (IntKind.i64.wrap ((IntKind.i64.wrap (IntKind.i64.wrap (IntKind.i64.wrap (IntKind.i64.wrap (IntKind.i64.wrap (a * i) + IntKind.i64.wrap (b * x)) + IntKind.i64.wrap (c * y)) - IntKind.i64.wrap (d * z)) - IntKind.i64.wrap (e * w))).tdiv 16384))), heapN) :=
  Gives.by (n := 1000) (os := [.br 67 28 false]) (os' := []) (by kernel_rfl) (ObsOK.cond h0 (ObsOK.nil))
def rr14_r0 (a : Int) (b : Int) (c : Int) (d : Int) (e : Int) (x : Int) (y : Int) (z : Int) (w : Int) (i : Int) : Int := (cond (rr14_c0 a b c d e x y z w i) (IntKind.i64.wrap (IntKind.i64.wrap ((IntKind.i64.wrap (IntKind.i64.wrap (IntKind.i64.wrap (IntKind.i64.wrap (IntKind.i64.wrap (a * i) + IntKind.i64.wrap (b * x)) + IntKind.i64.wrap (c * y)) - IntKind.i64.wrap (d * z)) - IntKind.i64.wrap (e * w))).tdiv 16384) - 1)) (IntKind.i64.wrap ((IntKind.i64.wrap (IntKind.i64.wrap (IntKind.i64.wrap (IntKind.i64.wrap (IntKind.i64.wrap (a * i) + IntKind.i64.wrap (b * x)) + IntKind.i64.wrap (c * y)) - IntKind.i64.wrap (d * z)) - IntKind.i64.wrap (e * w))).tdiv 16384)))
theorem rr14_gives (a : Int) (b : Int) (c : Int) (d : Int) (e : Int) (x : Int) (y : Int) (z : Int) (w : Int) (i : Int) : Gives Tryd.prog envSa 0 42 [(.agg #[(I a), (I b), (I c), (I d), (I e), (I 14)]), (.agg #[(I x), (I y), (I z), (I w)]), (I i)] heapN ((I (rr14_r0 a b c d e x y z w i)), heapN) := by
  cases g0 : rr14_c0 a b c d e x y z w i
  · skip
    simp only [rr14_r0, g0, cond_true, cond_false]; exact rr14_p1 a b c d e x y z w i g0
  · skip
    simp only [rr14_r0, g0, cond_true, cond_false]; exact rr14_p0 a b c d e x y z w i g0
theorem so15_p0 (a : Int) (b : Int) (c : Int) (d : Int) (e : Int) (x : Int) (y : Int) (z : Int) (w : Int) (i : Int) : Gives Tryd.prog envSa 0 44 [(.agg #[(I a), (I b), (I c), (I d), (I e), (I 15)]), (.agg #[(I x), (I y), (I z), (I w)]), (I i)] heapN ((.agg #[(I ((IntKind.i64.wrap (IntKind.i64.wrap (IntKind.i64.wrap (IntKind.i64.wrap (IntKind.i64.wrap (a * i) + IntKind.i64.wrap (b * x)) + IntKind.i64.wrap (c * y)) - IntKind.i64.wrap (d * z)) - IntKind.i64.wrap (e * w))).fdiv 32768)), (I (lim_r0 ((IntKind.i64.wrap (IntKind.i64.wrap (IntKind.i64.wrap (IntKind.i64.wrap (IntKind.i64.wrap (a * i) + IntKind.i64.wrap (b * x)) + IntKind.i64.wrap (c * y)) - IntKind.i64.wrap (d * z)) - IntKind.i64.wrap (e * w))).fdiv 32768))), I i, I x, (I (lim_r0 ((IntKind.i64.wrap (IntKind.i64.wrap (IntKind.i64.wrap (IntKind.i64.wrap (IntKind.i64.wrap (a * i) + IntKind.i64.wrap (b * x)) + IntKind.i64.wrap (c * y)) - IntKind.i64.wrap (d * z)) - IntKind.i64.wrap (e * w))).fdiv 32768))), I z]), heapN) :=
  Gives.by (n := 1000) (os := []) (os' := []) (by kernel_rfl) (ObsOK.nil)
def so15_r0 (a : Int) (b : Int) (c : Int) (d : Int) (e : Int) (x : Int) (y : Int) (z : Int) (w : Int) (i : Int) : Int := ((IntKind.i64.wrap (IntKind.i64.wrap (IntKind.i64.wrap (IntKind.i64.wrap (IntKind.i64.wrap (a * i) + IntKind.i64.wrap (b * x)) + IntKind.i64.wrap (c * y)) - IntKind.i64.wrap (d * z)) - IntKind.i64.wrap (e * w))).fdiv 32768)
def so15_r1 (a : Int) (b : Int) (c : Int) (d : Int) (e : Int) (x : Int) (y : Int) (z : Int) (w : Int) (i : Int) : Int := (lim_r0 ((IntKind.i64.wrap (IntKind.i64.wrap (IntKind.i64.wrap (IntKind.i64.wrap (IntKind.i64.wrap (a * i) + IntKind.i64.wrap (b * x)) + IntKind.i64.wrap (c * y)) - IntKind.i64.wrap (d * z)) - IntKind.i64.wrap (e * w))).fdiv 32768))
def so15_r4 (a : Int) (b : Int) (c : Int) (d : Int) (e : Int) (x : Int) (y : Int) (z : Int) (w : Int) (i : Int) : Int := (lim_r0 ((IntKind.i64.wrap (IntKind.i64.wrap (IntKind.i64.wrap (IntKind.i64.wrap (IntKind.i64.wrap (a * i) + IntKind.i64.wrap (b * x)) + IntKind.i64.wrap (c * y)) - IntKind.i64.wrap (d * z)) - IntKind.i64.wrap (e * w))).fdiv 32768))
theorem so15_gives (a : Int) (b : Int) (c : Int) (d : Int) (e : Int) (x : Int) (y : Int) (z : Int) (w : Int) (i : Int) : Gives Tryd.prog envSa 0 44 [(.agg #[(I a), (I b), (I c), (I d), (I e), (I 15)]), (.agg #[(I x), (I y), (I z), (I w)]), (I i)] heapN ((.agg #[(I (so15_r0 a b c d e x y z w i)), (I (so15_r1 a b c d e x y z w i)), (I i), (I x), (I (so15_r4 a b c d e x y z w i)), (I z)]), heapN) := by
  simp only [so15_r0, so15_r1, so15_r4, cond_true, cond_false]; exact so15_p0 a b c d e x y z w i
def rr15_c0 (a : Int) (b : Int) (c : Int) (d : Int) (e : Int) (x : Int) (y : Int) (z : Int) (w : Int) (i : Int) : Bool := decide (IntKind.i64.wrap (IntKind.i64.wrap ((IntKind.i64.wrap (IntKind.i64.wrap (IntKind.i64.wrap (IntKind.i64.wrap (IntKind.i64.wrap (a * i) + IntKind.i64.wrap (b * x)) + IntKind.i64.wrap (c * y)) - IntKind.i64.wrap (d * z)) - IntKind.i64.wrap (e * w))).tdiv 32768) * 32768) > IntKind.i64.wrap (IntKind.i64.wrap (IntKind.i64.wrap (IntKind.i64.wrap (IntKind.i64.wrap (a * i) + IntKind.i64.wrap (b * x)) + IntKind.i64.wrap (c * y)) - IntKind.i64.wrap (d * z)) - IntKind.i64.wrap (e * w)))
theorem rr15_p0 (a : Int) (b : Int) (c : Int) (d : Int) (e : Int) (x : Int) (y : Int) (z : Int) (w : Int) (i : Int) (h0 : rr15_c0 a b c d e x y z w i = true) : Gives Tryd.prog envSa 0 42 [(.agg #[(I a), (I b), (I c), (I d), (I e), (I 15)]), (.agg #[(I x), (I y), (I z), (I w)]), (I i)] heapN ((I (IntKind.i64.wrap (IntKind.i64.wrap ((IntKind.i64.wrap (IntKind.i64.wrap (IntKind.i64.wrap (IntKind.i64.wrap (IntKind.i64.wrap (a * i) + IntKind.i64.wrap (b * x)) + IntKind.i64.wrap (c * y)) - IntKind.i64.wrap (d * z)) - IntKind.i64.wrap (e * w))).tdiv 32768) - 1))), heapN) :=
  Gives.by (n := 1000) (os := [.br 67 28 true]) (os' := []) (by kernel_rfl) (ObsOK.cond h0 (ObsOK.nil))
theorem rr15_p1 (a : Int) (b : Int) (c : Int) (d : Int) (e : Int) (x : Int) (y : Int) (z : Int) (w : Int) (i : Int) (h0 : rr15_c0 a b c d e x y z w i = false) : Gives Tryd.prog envSa 0 42 [(.agg #[(I a), (I b), (I c), (I d), (I e), (I 15)]), (.agg #[(I x), (I y), (I z), (I w)]), (I i)] heapN ((I (IntKind.i64.wrap ((IntKind.i64.wrap (IntKind.i64.wrap (IntKind.i64.wrap (IntKind.i64.wrap (IntKind.i64.wrap (a * i) + IntKind.i64.wrap (b * x)) + IntKind.i64.wrap (c * y)) - IntKind.i64.wrap (d * z)) - IntKind.i64.wrap (e * w))).tdiv 32768))), heapN) :=
  Gives.by (n := 1000) (os := [.br 67 28 false]) (os' := []) (by kernel_rfl) (ObsOK.cond h0 (ObsOK.nil))
def rr15_r0 (a : Int) (b : Int) (c : Int) (d : Int) (e : Int) (x : Int) (y : Int) (z : Int) (w : Int) (i : Int) : Int := (cond (rr15_c0 a b c d e x y z w i) (IntKind.i64.wrap (IntKind.i64.wrap ((IntKind.i64.wrap (IntKind.i64.wrap (IntKind.i64.wrap (IntKind.i64.wrap (IntKind.i64.wrap (a * i) + IntKind.i64.wrap (b * x)) + IntKind.i64.wrap (c * y)) - IntKind.i64.wrap (d * z)) - IntKind.i64.wrap (e * w))).tdiv 32768) - 1)) (IntKind.i64.wrap ((IntKind.i64.wrap (IntKind.i64.wrap (IntKind.i64.wrap (IntKind.i64.wrap (IntKind.i64.wrap (a * i) + IntKind.i64.wrap (b * x)) + IntKind.i64.wrap (c * y)) - IntKind.i64.wrap (d * z)) - IntKind.i64.wrap (e * w))).tdiv 32768)))
theorem rr15_gives (a : Int) (b : Int) (c : Int) (d : Int) (e : Int) (x : Int) (y : Int) (z : Int) (w : Int) (i : Int) : Gives Tryd.prog envSa 0 42 [(.agg #[(I a), (I b), (I c), (I d), (I e), (I 15)]), (.agg #[(I x), (I y), (I z), (I w)]), (I i)] heapN ((I (rr15_r0 a b c d e x y z w i)), heapN) := by
  cases g0 : rr15_c0 a b c d e x y z w i
  · skip
    simp only [rr15_r0, g0, cond_true, cond_false]; exact rr15_p1 a b c d e x y z w i g0
  · skip
    simp only [rr15_r0, g0, cond_true, cond_false]; exact rr15_p0 a b c d e x y z w i g0
def B_envSb_32 (args : List Value) : Option (Heap × Value) :=
    match args with
    | [(.agg ⟨[(.int .i64 (a)), (.int .i64 (b)), (.int .i64 (c)), (.int .i64 (d)), (.int .i64 (e)), (.int .i64 (s))]⟩)] => some (heapN, (.int .i64 (cs_r0 a b c d e s)))
    | _ => none
theorem B_envSb_32_ok {args : List Value} {H : Heap} {v : Value} (h : B_envSb_32 args = some (H, v)) : 5 ≤ H.length ∧ H.all tableRow = true ∧ Gives Tryd.prog envSa 0 32 args H (v, H) := by
  unfold B_envSb_32 at h
  split at h
  · cases h; exact heapN_ok (cs_gives _ _ _ _ _ _)
  · cases h
def B_envSb_33 (args : List Value) : Option (Heap × Value) :=
    match args with
    | [(.agg ⟨[(.int .i64 (a)), (.int .i64 (b)), (.int .i64 (c)), (.int .i64 (d))]⟩)] => some (heapN, (.int .i64 (st_r0 a b c d)))
    | _ => none
theorem B_envSb_33_ok {args : List Value} {H : Heap} {v : Value} (h : B_envSb_33 args = some (H, v)) : 5 ≤ H.length ∧ H.all tableRow = true ∧ Gives Tryd.prog envSa 0 33 args H (v, H) := by
  unfold B_envSb_33 at h
  split at h
  · cases h; exact heapN_ok (st_gives _ _ _ _)
  · cases h
def B_envSb_46 (args : List Value) : Option (Heap × Value) :=
    match args with
    | [(.int .i64 (n))] => some (heapN, (.int .i64 (cv_r0 n)))
    | _ => none
theorem B_envSb_46_ok {args : List Value} {H : Heap} {v : Value} (h : B_envSb_46 args = some (H, v)) : 5 ≤ H.length ∧ H.all tableRow = true ∧ Gives Tryd.prog envSa 0 46 args H (v, H) := by
  unfold B_envSb_46 at h
  split at h
  · cases h; exact heapN_ok (cv_gives _)
  · cases h
def B_envSb_40 (args : List Value) : Option (Heap × Value) :=
    match args with
    | [(.int .i64 (n))] => some (heapN, (.int .i64 (rci_r0 n)))
    | _ => none
theorem B_envSb_40_ok {args : List Value} {H : Heap} {v : Value} (h : B_envSb_40 args = some (H, v)) : 5 ≤ H.length ∧ H.all tableRow = true ∧ Gives Tryd.prog envSa 0 40 args H (v, H) := by
  unfold B_envSb_40 at h
  split at h
  · cases h; exact heapN_ok (rci_gives _)
  · cases h
def B_envSb_12 (args : List Value) : Option (Heap × Value) :=
    match args with
    | [(.agg ⟨[(.int .i64 (a)), (.int .i64 (b)), (.int .i64 (c)), (.int .i64 (d)), (.int .i64 (e)), (.int .i64 (s))]⟩)] => some (heapN, (.int .i64 (rcs_r0 a b c d e s)))
    | _ => none
theorem B_envSb_12_ok {args : List Value} {H : Heap} {v : Value} (h : B_envSb_12 args = some (H, v)) : 5 ≤ H.length ∧ H.all tableRow = true ∧ Gives Tryd.prog envSa 0 12 args H (v, H) := by
  unfold B_envSb_12 at h
  split at h
  · cases h; exact heapN_ok (rcs_gives _ _ _ _ _ _)
  · cases h
def B_envSb_53 (args : List Value) : Option (Heap × Value) :=
    match args with
    | [(.agg ⟨[(.int .i64 (a)), (.int .i64 (b)), (.int .i64 (c)), (.int .i64 (d)), (.int .i64 (e)), (.int .i64 (s))]⟩)] => some (heapN, (.agg #[(.int .i64 (a)), (.int .i64 (b)), (.int .i64 (c)), (.int .i64 (d)), (.int .i64 (e)), (.int .i64 (s))]))
    | _ => none
theorem B_envSb_53_ok {args : List Value} {H : Heap} {v : Value} (h : B_envSb_53 args = some (H, v)) : 5 ≤ H.length ∧ H.all tableRow = true ∧ Gives Tryd.prog envSa 0 53 args H (v, H) := by
  unfold B_envSb_53 at h
  split at h
  · cases h; exact heapN_ok (nm_gives _ _ _ _ _ _)
  · cases h
def B_envSb_44 (args : List Value) : Option (Heap × Value) :=
    match args with
    | [(.agg ⟨[(.int .i64 (a)), (.int .i64 (b)), (.int .i64 (c)), (.int .i64 (d)), (.int .i64 (e)), (.int .i64 (q0))]⟩), (.agg ⟨[(.int .i64 (x)), (.int .i64 (y)), (.int .i64 (z)), (.int .i64 (w))]⟩), (.int .i64 (i))] =>
      if q0 == 0 then some (heapN, (.agg #[(I (so0_r0 a b c d e x y z w i)), (I (so0_r1 a b c d e x y z w i)), (I i), (I x), (I (so0_r4 a b c d e x y z w i)), (I z)])) else
      if q0 == 1 then some (heapN, (.agg #[(I (so1_r0 a b c d e x y z w i)), (I (so1_r1 a b c d e x y z w i)), (I i), (I x), (I (so1_r4 a b c d e x y z w i)), (I z)])) else
      if q0 == 2 then some (heapN, (.agg #[(I (so2_r0 a b c d e x y z w i)), (I (so2_r1 a b c d e x y z w i)), (I i), (I x), (I (so2_r4 a b c d e x y z w i)), (I z)])) else
      if q0 == 3 then some (heapN, (.agg #[(I (so3_r0 a b c d e x y z w i)), (I (so3_r1 a b c d e x y z w i)), (I i), (I x), (I (so3_r4 a b c d e x y z w i)), (I z)])) else
      if q0 == 4 then some (heapN, (.agg #[(I (so4_r0 a b c d e x y z w i)), (I (so4_r1 a b c d e x y z w i)), (I i), (I x), (I (so4_r4 a b c d e x y z w i)), (I z)])) else
      if q0 == 5 then some (heapN, (.agg #[(I (so5_r0 a b c d e x y z w i)), (I (so5_r1 a b c d e x y z w i)), (I i), (I x), (I (so5_r4 a b c d e x y z w i)), (I z)])) else
      if q0 == 6 then some (heapN, (.agg #[(I (so6_r0 a b c d e x y z w i)), (I (so6_r1 a b c d e x y z w i)), (I i), (I x), (I (so6_r4 a b c d e x y z w i)), (I z)])) else
      if q0 == 7 then some (heapN, (.agg #[(I (so7_r0 a b c d e x y z w i)), (I (so7_r1 a b c d e x y z w i)), (I i), (I x), (I (so7_r4 a b c d e x y z w i)), (I z)])) else
      if q0 == 8 then some (heapN, (.agg #[(I (so8_r0 a b c d e x y z w i)), (I (so8_r1 a b c d e x y z w i)), (I i), (I x), (I (so8_r4 a b c d e x y z w i)), (I z)])) else
      if q0 == 9 then some (heapN, (.agg #[(I (so9_r0 a b c d e x y z w i)), (I (so9_r1 a b c d e x y z w i)), (I i), (I x), (I (so9_r4 a b c d e x y z w i)), (I z)])) else
      if q0 == 10 then some (heapN, (.agg #[(I (so10_r0 a b c d e x y z w i)), (I (so10_r1 a b c d e x y z w i)), (I i), (I x), (I (so10_r4 a b c d e x y z w i)), (I z)])) else
      if q0 == 11 then some (heapN, (.agg #[(I (so11_r0 a b c d e x y z w i)), (I (so11_r1 a b c d e x y z w i)), (I i), (I x), (I (so11_r4 a b c d e x y z w i)), (I z)])) else
      if q0 == 12 then some (heapN, (.agg #[(I (so12_r0 a b c d e x y z w i)), (I (so12_r1 a b c d e x y z w i)), (I i), (I x), (I (so12_r4 a b c d e x y z w i)), (I z)])) else
      if q0 == 13 then some (heapN, (.agg #[(I (so13_r0 a b c d e x y z w i)), (I (so13_r1 a b c d e x y z w i)), (I i), (I x), (I (so13_r4 a b c d e x y z w i)), (I z)])) else
      if q0 == 14 then some (heapN, (.agg #[(I (so14_r0 a b c d e x y z w i)), (I (so14_r1 a b c d e x y z w i)), (I i), (I x), (I (so14_r4 a b c d e x y z w i)), (I z)])) else
      if q0 == 15 then some (heapN, (.agg #[(I (so15_r0 a b c d e x y z w i)), (I (so15_r1 a b c d e x y z w i)), (I i), (I x), (I (so15_r4 a b c d e x y z w i)), (I z)])) else
      none
    | _ => none
theorem B_envSb_44_ok {args : List Value} {H : Heap} {v : Value} (h : B_envSb_44 args = some (H, v)) : 5 ≤ H.length ∧ H.all tableRow = true ∧ Gives Tryd.prog envSa 0 44 args H (v, H) := by
  unfold B_envSb_44 at h
  split at h
  · skip
    rcases ite_or h with ⟨hf, h⟩ | h
    · obtain rfl := eq_of_beq hf; cases h; exact heapN_ok (so0_gives _ _ _ _ _ _ _ _ _ _)
    rcases ite_or h with ⟨hf, h⟩ | h
    · obtain rfl := eq_of_beq hf; cases h; exact heapN_ok (so1_gives _ _ _ _ _ _ _ _ _ _)
    rcases ite_or h with ⟨hf, h⟩ | h
    · obtain rfl := eq_of_beq hf; cases h; exact heapN_ok (so2_gives _ _ _ _ _ _ _ _ _ _)
    rcases ite_or h with ⟨hf, h⟩ | h
    · obtain rfl := eq_of_beq hf; cases h; exact heapN_ok (so3_gives _ _ _ _ _ _ _ _ _ _)
    rcases ite_or h with ⟨hf, h⟩ | h
    · obtain rfl := eq_of_beq hf; cases h; exact heapN_ok (so4_gives _ _ _ _ _ _ _ _ _ _)
    rcases ite_or h with ⟨hf, h⟩ | h
    · obtain rfl := eq_of_beq hf; cases h; exact heapN_ok (so5_gives _ _ _ _ _ _ _ _ _ _)
    rcases ite_or h with ⟨hf, h⟩ | h
    · obtain rfl := eq_of_beq hf; cases h; exact heapN_ok (so6_gives _ _ _ _ _ _ _ _ _ _)
    rcases ite_or h with ⟨hf, h⟩ | h
    · obtain rfl := eq_of_beq hf; cases h; exact heapN_ok (so7_gives _ _ _ _ _ _ _ _ _ _)
    rcases ite_or h with ⟨hf, h⟩ | h
    · obtain rfl := eq_of_beq hf; cases h; exact heapN_ok (so8_gives _ _ _ _ _ _ _ _ _ _)
    rcases ite_or h with ⟨hf, h⟩ | h
    · obtain rfl := eq_of_beq hf; cases h; exact heapN_ok (so9_gives _ _ _ _ _ _ _ _ _ _)
    rcases ite_or h with ⟨hf, h⟩ | h
    · obtain rfl := eq_of_beq hf; cases h; exact heapN_ok (so10_gives _ _ _ _ _ _ _ _ _ _)
    rcases ite_or h with ⟨hf, h⟩ | h
    · obtain rfl := eq_of_beq hf; cases h; exact heapN_ok (so11_gives _ _ _ _ _ _ _ _ _ _)
    rcases ite_or h with ⟨hf, h⟩ | h
    · obtain rfl := eq_of_beq hf; cases h; exact heapN_ok (so12_gives _ _ _ _ _ _ _ _ _ _)
    rcases ite_or h with ⟨hf, h⟩ | h
    · obtain rfl := eq_of_beq hf; cases h; exact heapN_ok (so13_gives _ _ _ _ _ _ _ _ _ _)
    rcases ite_or h with ⟨hf, h⟩ | h
    · obtain rfl := eq_of_beq hf; cases h; exact heapN_ok (so14_gives _ _ _ _ _ _ _ _ _ _)
    rcases ite_or h with ⟨hf, h⟩ | h
    · obtain rfl := eq_of_beq hf; cases h; exact heapN_ok (so15_gives _ _ _ _ _ _ _ _ _ _)
    cases h
  · cases h
def B_envSb_42 (args : List Value) : Option (Heap × Value) :=
    match args with
    | [(.agg ⟨[(.int .i64 (a)), (.int .i64 (b)), (.int .i64 (c)), (.int .i64 (d)), (.int .i64 (e)), (.int .i64 (q0))]⟩), (.agg ⟨[(.int .i64 (x)), (.int .i64 (y)), (.int .i64 (z)), (.int .i64 (w))]⟩), (.int .i64 (i))] =>
      if q0 == 0 then some (heapN, (I (rr0_r0 a b c d e x y z w i))) else
      if q0 == 1 then some (heapN, (I (rr1_r0 a b c d e x y z w i))) else
      if q0 == 2 then some (heapN, (I (rr2_r0 a b c d e x y z w i))) else
      if q0 == 3 then some (heapN, (I (rr3_r0 a b c d e x y z w i))) else
      if q0 == 4 then some (heapN, (I (rr4_r0 a b c d e x y z w i))) else
      if q0 == 5 then some (heapN, (I (rr5_r0 a b c d e x y z w i))) else
      if q0 == 6 then some (heapN, (I (rr6_r0 a b c d e x y z w i))) else
      if q0 == 7 then some (heapN, (I (rr7_r0 a b c d e x y z w i))) else
      if q0 == 8 then some (heapN, (I (rr8_r0 a b c d e x y z w i))) else
      if q0 == 9 then some (heapN, (I (rr9_r0 a b c d e x y z w i))) else
      if q0 == 10 then some (heapN, (I (rr10_r0 a b c d e x y z w i))) else
      if q0 == 11 then some (heapN, (I (rr11_r0 a b c d e x y z w i))) else
      if q0 == 12 then some (heapN, (I (rr12_r0 a b c d e x y z w i))) else
      if q0 == 13 then some (heapN, (I (rr13_r0 a b c d e x y z w i))) else
      if q0 == 14 then some (heapN, (I (rr14_r0 a b c d e x y z w i))) else
      if q0 == 15 then some (heapN, (I (rr15_r0 a b c d e x y z w i))) else
      none
    | _ => none
theorem B_envSb_42_ok {args : List Value} {H : Heap} {v : Value} (h : B_envSb_42 args = some (H, v)) : 5 ≤ H.length ∧ H.all tableRow = true ∧ Gives Tryd.prog envSa 0 42 args H (v, H) := by
  unfold B_envSb_42 at h
  split at h
  · skip
    rcases ite_or h with ⟨hf, h⟩ | h
    · obtain rfl := eq_of_beq hf; cases h; exact heapN_ok (rr0_gives _ _ _ _ _ _ _ _ _ _)
    rcases ite_or h with ⟨hf, h⟩ | h
    · obtain rfl := eq_of_beq hf; cases h; exact heapN_ok (rr1_gives _ _ _ _ _ _ _ _ _ _)
    rcases ite_or h with ⟨hf, h⟩ | h
    · obtain rfl := eq_of_beq hf; cases h; exact heapN_ok (rr2_gives _ _ _ _ _ _ _ _ _ _)
    rcases ite_or h with ⟨hf, h⟩ | h
    · obtain rfl := eq_of_beq hf; cases h; exact heapN_ok (rr3_gives _ _ _ _ _ _ _ _ _ _)
    rcases ite_or h with ⟨hf, h⟩ | h
    · obtain rfl := eq_of_beq hf; cases h; exact heapN_ok (rr4_gives _ _ _ _ _ _ _ _ _ _)
    rcases ite_or h with ⟨hf, h⟩ | h
    · obtain rfl := eq_of_beq hf; cases h; exact heapN_ok (rr5_gives _ _ _ _ _ _ _ _ _ _)
    rcases ite_or h with ⟨hf, h⟩ | h
    · obtain rfl := eq_of_beq hf; cases h; exact heapN_ok (rr6_gives _ _ _ _ _ _ _ _ _ _)
    rcases ite_or h with ⟨hf, h⟩ | h
    · obtain rfl := eq_of_beq hf; cases h; exact heapN_ok (rr7_gives _ _ _ _ _ _ _ _ _ _)
    rcases ite_or h with ⟨hf, h⟩ | h
    · obtain rfl := eq_of_beq hf; cases h; exact heapN_ok (rr8_gives _ _ _ _ _ _ _ _ _ _)
    rcases ite_or h with ⟨hf, h⟩ | h
    · obtain rfl := eq_of_beq hf; cases h; exact heapN_ok (rr9_gives _ _ _ _ _ _ _ _ _ _)
    rcases ite_or h with ⟨hf, h⟩ | h
    · obtain rfl := eq_of_beq hf; cases h; exact heapN_ok (rr10_gives _ _ _ _ _ _ _ _ _ _)
    rcases ite_or h with ⟨hf, h⟩ | h
    · obtain rfl := eq_of_beq hf; cases h; exact heapN_ok (rr11_gives _ _ _ _ _ _ _ _ _ _)
    rcases ite_or h with ⟨hf, h⟩ | h
    · obtain rfl := eq_of_beq hf; cases h; exact heapN_ok (rr12_gives _ _ _ _ _ _ _ _ _ _)
    rcases ite_or h with ⟨hf, h⟩ | h
    · obtain rfl := eq_of_beq hf; cases h; exact heapN_ok (rr13_gives _ _ _ _ _ _ _ _ _ _)
    rcases ite_or h with ⟨hf, h⟩ | h
    · obtain rfl := eq_of_beq hf; cases h; exact heapN_ok (rr14_gives _ _ _ _ _ _ _ _ _ _)
    rcases ite_or h with ⟨hf, h⟩ | h
    · obtain rfl := eq_of_beq hf; cases h; exact heapN_ok (rr15_gives _ _ _ _ _ _ _ _ _ _)
    cases h
  · cases h
def B_envSb (f : FuncId) (args : List Value) : Option (Heap × Value) :=
  if f == 32 then B_envSb_32 args else
  if f == 33 then B_envSb_33 args else
  if f == 46 then B_envSb_46 args else
  if f == 40 then B_envSb_40 args else
  if f == 12 then B_envSb_12 args else
  if f == 53 then B_envSb_53 args else
  if f == 44 then B_envSb_44 args else
  if f == 42 then B_envSb_42 args else
  none
noncomputable def envSb : Env := envSa.with (baseKnown B_envSb)
theorem envSb_ok : EnvOK Tryd.prog 5 envSb := env_base prog_ok envSa_ok fun f args H v h => by
  unfold B_envSb at h
  rcases ite_or h with ⟨hf, h⟩ | h
  · obtain rfl : f = 32 := eq_of_beq hf
    exact B_envSb_32_ok h
  rcases ite_or h with ⟨hf, h⟩ | h
  · obtain rfl : f = 33 := eq_of_beq hf
    exact B_envSb_33_ok h
  rcases ite_or h with ⟨hf, h⟩ | h
  · obtain rfl : f = 46 := eq_of_beq hf
    exact B_envSb_46_ok h
  rcases ite_or h with ⟨hf, h⟩ | h
  · obtain rfl : f = 40 := eq_of_beq hf
    exact B_envSb_40_ok h
  rcases ite_or h with ⟨hf, h⟩ | h
  · obtain rfl : f = 12 := eq_of_beq hf
    exact B_envSb_12_ok h
  rcases ite_or h with ⟨hf, h⟩ | h
  · obtain rfl : f = 53 := eq_of_beq hf
    exact B_envSb_53_ok h
  rcases ite_or h with ⟨hf, h⟩ | h
  · obtain rfl : f = 44 := eq_of_beq hf
    exact B_envSb_44_ok h
  rcases ite_or h with ⟨hf, h⟩ | h
  · obtain rfl : f = 42 := eq_of_beq hf
    exact B_envSb_42_ok h
  cases h
end Go.Proofs.YtpmicgdplihlfaaDoor
/-
What functions give.
-/
namespace Go.Proofs.YtpmicgdplihlfaaDoor
open Go Go.Abs
def rst_c0 (a : Int) (b : Int) (c : Int) (d : Int) : Bool := rci_r0 a != 0
def rst_c1 (a : Int) (b : Int) (c : Int) (d : Int) : Bool := rci_r0 b != 0
def rst_c2 (a : Int) (b : Int) (c : Int) (d : Int) : Bool := rci_r0 c != 0
def rst_c3 (a : Int) (b : Int) (c : Int) (d : Int) : Bool := rci_r0 d != 0
theorem rst_p0 (a : Int) (b : Int) (c : Int) (d : Int) (h0 : rst_c0 a b c d = true) : Gives Tryd.prog envSb 0 14 [(.agg #[(.int .i64 (a)), (.int .i64 (b)), (.int .i64 (c)), (.int .i64 (d))])] heapN ((.int .i64 (rci_r0 a)), heapN) :=
  Gives.by (n := 1000) (os := [.br 11 30 true]) (os' := []) (by kernel_rfl) (ObsOK.cond h0 (ObsOK.nil))
theorem rst_p1 (a : Int) (b : Int) (c : Int) (d : Int) (h0 : rst_c0 a b c d = false) (h1 : rst_c1 a b c d = true) : Gives Tryd.prog envSb 0 14 [(.agg #[(.int .i64 (a)), (.int .i64 (b)), (.int .i64 (c)), (.int .i64 (d))])] heapN ((.int .i64 (rci_r0 b)), heapN) :=
  Gives.by (n := 1000) (os := [.br 11 30 false, .br 11 30 true]) (os' := []) (by kernel_rfl) (ObsOK.cond h0 (ObsOK.cond h1 (ObsOK.nil)))
theorem rst_p2 (a : Int) (b : Int) (c : Int) (d : Int) (h0 : rst_c0 a b c d = false) (h1 : rst_c1 a b c d = false) (h2 : rst_c2 a b c d = true) : Gives Tryd.prog envSb 0 14 [(.agg #[(.int .i64 (a)), (.int .i64 (b)), (.int .i64 (c)), (.int .i64 (d))])] heapN ((.int .i64 (rci_r0 c)), heapN) :=
  Gives.by (n := 1000) (os := [.br 11 30 false, .br 11 30 false, .br 11 30 true]) (os' := []) (by kernel_rfl) (ObsOK.cond h0 (ObsOK.cond h1 (ObsOK.cond h2 (ObsOK.nil))))
theorem rst_p3 (a : Int) (b : Int) (c : Int) (d : Int) (h0 : rst_c0 a b c d = false) (h1 : rst_c1 a b c d = false) (h2 : rst_c2 a b c d = false) (h3 : rst_c3 a b c d = true) : Gives Tryd.prog envSb 0 14 [(.agg #[(.int .i64 (a)), (.int .i64 (b)), (.int .i64 (c)), (.int .i64 (d))])] heapN ((.int .i64 (rci_r0 d)), heapN) :=
  Gives.by (n := 1000) (os := [.br 11 30 false, .br 11 30 false, .br 11 30 false, .br 11 30 true]) (os' := []) (by kernel_rfl) (ObsOK.cond h0 (ObsOK.cond h1 (ObsOK.cond h2 (ObsOK.cond h3 (ObsOK.nil)))))
theorem rst_p4 (a : Int) (b : Int) (c : Int) (d : Int) (h0 : rst_c0 a b c d = false) (h1 : rst_c1 a b c d = false) (h2 : rst_c2 a b c d = false) (h3 : rst_c3 a b c d = false) : Gives Tryd.prog envSb 0 14 [(.agg #[(.int .i64 (a)), (.int .i64 (b)), (.int .i64 (c)), (.int .i64 (d))])] heapN ((.int .i64 (0)), heapN) :=
  Gives.by (n := 1000) (os := [.br 11 30 false, .br 11 30 false, .br 11 30 false, .br 11 30 false]) (os' := []) (by kernel_rfl) (ObsOK.cond h0 (ObsOK.cond h1 (ObsOK.cond h2 (ObsOK.cond h3 (ObsOK.nil)))))
def rst_r0 (a : Int) (b : Int) (c : Int) (d : Int) : Int := (cond (rst_c0 a b c d) (rci_r0 a) (cond (rst_c1 a b c d) (rci_r0 b) (cond (rst_c2 a b c d) (rci_r0 c) (cond (rst_c3 a b c d) (rci_r0 d) (0)))))
theorem rst_gives (a : Int) (b : Int) (c : Int) (d : Int) : Gives Tryd.prog envSb 0 14 [(.agg #[(.int .i64 (a)), (.int .i64 (b)), (.int .i64 (c)), (.int .i64 (d))])] heapN ((.int .i64 (rst_r0 a b c d)), heapN) := by
  cases g0 : rst_c0 a b c d
  · skip
    cases g1 : rst_c1 a b c d
    · skip
      cases g2 : rst_c2 a b c d
      · skip
        cases g3 : rst_c3 a b c d
        · skip
          simp only [rst_r0, g0, g1, g2, g3, cond_true, cond_false]; exact rst_p4 a b c d g0 g1 g2 g3
        · skip
          simp only [rst_r0, g0, g1, g2, g3, cond_true, cond_false]; exact rst_p3 a b c d g0 g1 g2 g3
      · skip
        simp only [rst_r0, g0, g1, g2, cond_true, cond_false]; exact rst_p2 a b c d g0 g1 g2
    · skip
      simp only [rst_r0, g0, g1, cond_true, cond_false]; exact rst_p1 a b c d g0 g1
  · skip
    simp only [rst_r0, g0, cond_true, cond_false]; exact rst_p0 a b c d g0
def rsm_c0 (a : Int) (b : Int) (c : Int) (d : Int) (e : Int) (s : Int) (x : Int) (y : Int) (z : Int) (w : Int) : Bool := decide (s ≤ 6)
def rsm_c1 (a : Int) (b : Int) (c : Int) (d : Int) (e : Int) (s : Int) (x : Int) (y : Int) (z : Int) (w : Int) : Bool := decide (rab_r0 d ≤ 64)
def rsm_c2 (a : Int) (b : Int) (c : Int) (d : Int) (e : Int) (s : Int) (x : Int) (y : Int) (z : Int) (w : Int) : Bool := decide (rab_r0 e ≤ 64)
def rsm_c3 (a : Int) (b : Int) (c : Int) (d : Int) (e : Int) (s : Int) (x : Int) (y : Int) (z : Int) (w : Int) : Bool := decide (rab_r0 z ≤ 100)
theorem rsm_p0 (a : Int) (b : Int) (c : Int) (d : Int) (e : Int) (s : Int) (x : Int) (y : Int) (z : Int) (w : Int) (h0 : rsm_c0 a b c d e s x y z w = true) (h1 : rsm_c1 a b c d e s x y z w = true) (h2 : rsm_c2 a b c d e s x y z w = true) (h3 : rsm_c3 a b c d e s x y z w = true) : Gives Tryd.prog envSb 0 19 [(.agg #[(.int .i64 (a)), (.int .i64 (b)), (.int .i64 (c)), (.int .i64 (d)), (.int .i64 (e)), (.int .i64 (s))]), (.agg #[(.int .i64 (x)), (.int .i64 (y)), (.int .i64 (z)), (.int .i64 (w))])] heapN ((.bool (decide (rab_r0 w ≤ 100))), heapN) :=
  Gives.by (n := 1000) (os := [.br 19 18 true, .br 19 18 true, .br 19 18 true, .br 19 18 true, .br 19 29 true, .br 19 30 true, .br 19 30 true, .br 19 30 true, .br 19 30 true, .br 19 41 true, .br 19 42 true, .br 19 42 true, .br 19 42 true, .br 19 42 true, .br 19 53 true, .br 19 54 true, .br 19 54 true, .br 19 54 true, .br 19 54 true, .br 19 65 true]) (os' := []) (by kernel_rfl) (ObsOK.cond h0 (ObsOK.cond h0 (ObsOK.cond h0 (ObsOK.cond h0 (ObsOK.cond h0 (ObsOK.cond h1 (ObsOK.cond h1 (ObsOK.cond h1 (ObsOK.cond h1 (ObsOK.cond h1 (ObsOK.cond h2 (ObsOK.cond h2 (ObsOK.cond h2 (ObsOK.cond h2 (ObsOK.cond h2 (ObsOK.cond h3 (ObsOK.cond h3 (ObsOK.cond h3 (ObsOK.cond h3 (ObsOK.cond h3 (ObsOK.nil)))))))))))))))))))))
theorem rsm_p1 (a : Int) (b : Int) (c : Int) (d : Int) (e : Int) (s : Int) (x : Int) (y : Int) (z : Int) (w : Int) (h0 : rsm_c0 a b c d e s x y z w = true) (h1 : rsm_c1 a b c d e s x y z w = true) (h2 : rsm_c2 a b c d e s x y z w = true) (h3 : rsm_c3 a b c d e s x y z w = false) : Gives Tryd.prog envSb 0 19 [(.agg #[(.int .i64 (a)), (.int .i64 (b)), (.int .i64 (c)), (.int .i64 (d)), (.int .i64 (e)), (.int .i64 (s))]), (.agg #[(.int .i64 (x)), (.int .i64 (y)), (.int .i64 (z)), (.int .i64 (w))])] heapN ((.bool false), heapN) :=
  Gives.by (n := 1000) (os := [.br 19 18 true, .br 19 18 true, .br 19 18 true, .br 19 18 true, .br 19 29 true, .br 19 30 true, .br 19 30 true, .br 19 30 true, .br 19 30 true, .br 19 41 true, .br 19 42 true, .br 19 42 true, .br 19 42 true, .br 19 42 true, .br 19 53 true, .br 19 54 false, .br 19 54 false, .br 19 54 false, .br 19 54 false, .br 19 65 false]) (os' := []) (by kernel_rfl) (ObsOK.cond h0 (ObsOK.cond h0 (ObsOK.cond h0 (ObsOK.cond h0 (ObsOK.cond h0 (ObsOK.cond h1 (ObsOK.cond h1 (ObsOK.cond h1 (ObsOK.cond h1 (ObsOK.cond h1 (ObsOK.cond h2 (ObsOK.cond h2 (ObsOK.cond h2 (ObsOK.cond h2 (ObsOK.cond h2 (ObsOK.cond h3 (ObsOK.cond h3 (ObsOK.cond h3 (ObsOK.cond h3 (ObsOK.cond h3 (ObsOK.nil)))))))))))))))))))))
theorem rsm_p2 (a : Int) (b : Int) (c : Int) (d : Int) (e : Int) (s : Int) (x : Int) (y : Int) (z : Int) (w : Int) (h0 : rsm_c0 a b c d e s x y z w = true) (h1 : rsm_c1 a b c d e s x y z w = true) (h2 : rsm_c2 a b c d e s x y z w = false) : Gives Tryd.prog envSb 0 19 [(.agg #[(.int .i64 (a)), (.int .i64 (b)), (.int .i64 (c)), (.int .i64 (d)), (.int .i64 (e)), (.int .i64 (s))]), (.agg #[(.int .i64 (x)), (.int .i64 (y)), (.int .i64 (z)), (.int .i64 (w))])] heapN ((.bool false), heapN) :=
  Gives.by (n := 1000) (os := [.br 19 18 true, .br 19 18 true, .br 19 18 true, .br 19 18 true, .br 19 29 true, .br 19 30 true, .br 19 30 true, .br 19 30 true, .br 19 30 true, .br 19 41 true, .br 19 42 false, .br 19 42 false, .br 19 42 false, .br 19 42 false, .br 19 53 false]) (os' := []) (by kernel_rfl) (ObsOK.cond h0 (ObsOK.cond h0 (ObsOK.cond h0 (ObsOK.cond h0 (ObsOK.cond h0 (ObsOK.cond h1 (ObsOK.cond h1 (ObsOK.cond h1 (ObsOK.cond h1 (ObsOK.cond h1 (ObsOK.cond h2 (ObsOK.cond h2 (ObsOK.cond h2 (ObsOK.cond h2 (ObsOK.cond h2 (ObsOK.nil))))))))))))))))
theorem rsm_p3 (a : Int) (b : Int) (c : Int) (d : Int) (e : Int) (s : Int) (x : Int) (y : Int) (z : Int) (w : Int) (h0 : rsm_c0 a b c d e s x y z w = true) (h1 : rsm_c1 a b c d e s x y z w = false) : Gives Tryd.prog envSb 0 19 [(.agg #[(.int .i64 (a)), (.int .i64 (b)), (.int .i64 (c)), (.int .i64 (d)), (.int .i64 (e)), (.int .i64 (s))]), (.agg #[(.int .i64 (x)), (.int .i64 (y)), (.int .i64 (z)), (.int .i64 (w))])] heapN ((.bool false), heapN) :=
  Gives.by (n := 1000) (os := [.br 19 18 true, .br 19 18 true, .br 19 18 true, .br 19 18 true, .br 19 29 true, .br 19 30 false, .br 19 30 false, .br 19 30 false, .br 19 30 false, .br 19 41 false]) (os' := []) (by kernel_rfl) (ObsOK.cond h0 (ObsOK.cond h0 (ObsOK.cond h0 (ObsOK.cond h0 (ObsOK.cond h0 (ObsOK.cond h1 (ObsOK.cond h1 (ObsOK.cond h1 (ObsOK.cond h1 (ObsOK.cond h1 (ObsOK.nil)))))))))))
theorem rsm_p4 (a : Int) (b : Int) (c : Int) (d : Int) (e : Int) (s : Int) (x : Int) (y : Int) (z : Int) (w : Int) (h0 : rsm_c0 a b c d e s x y z w = false) : Gives Tryd.prog envSb 0 19 [(.agg #[(.int .i64 (a)), (.int .i64 (b)), (.int .i64 (c)), (.int .i64 (d)), (.int .i64 (e)), (.int .i64 (s))]), (.agg #[(.int .i64 (x)), (.int .i64 (y)), (.int .i64 (z)), (.int .i64 (w))])] heapN ((.bool false), heapN) :=
  Gives.by (n := 1000) (os := [.br 19 18 false, .br 19 18 false, .br 19 18 false, .br 19 18 false, .br 19 29 false]) (os' := []) (by kernel_rfl) (ObsOK.cond h0 (ObsOK.cond h0 (ObsOK.cond h0 (ObsOK.cond h0 (ObsOK.cond h0 (ObsOK.nil))))))
def rsm_r0 (a : Int) (b : Int) (c : Int) (d : Int) (e : Int) (s : Int) (x : Int) (y : Int) (z : Int) (w : Int) : Bool := (cond (rsm_c0 a b c d e s x y z w) (cond (rsm_c1 a b c d e s x y z w) (cond (rsm_c2 a b c d e s x y z w) (cond (rsm_c3 a b c d e s x y z w) (decide (rab_r0 w ≤ 100)) (false)) (false)) (false)) (false))
theorem rsm_gives (a : Int) (b : Int) (c : Int) (d : Int) (e : Int) (s : Int) (x : Int) (y : Int) (z : Int) (w : Int) : Gives Tryd.prog envSb 0 19 [(.agg #[(.int .i64 (a)), (.int .i64 (b)), (.int .i64 (c)), (.int .i64 (d)), (.int .i64 (e)), (.int .i64 (s))]), (.agg #[(.int .i64 (x)), (.int .i64 (y)), (.int .i64 (z)), (.int .i64 (w))])] heapN ((.bool (rsm_r0 a b c d e s x y z w)), heapN) := by
  cases g0 : rsm_c0 a b c d e s x y z w
  · skip
    simp only [rsm_r0, g0, cond_true, cond_false]; exact rsm_p4 a b c d e s x y z w g0
  · skip
    cases g1 : rsm_c1 a b c d e s x y z w
    · skip
      simp only [rsm_r0, g0, g1, cond_true, cond_false]; exact rsm_p3 a b c d e s x y z w g0 g1
    · skip
      cases g2 : rsm_c2 a b c d e s x y z w
      · skip
        simp only [rsm_r0, g0, g1, g2, cond_true, cond_false]; exact rsm_p2 a b c d e s x y z w g0 g1 g2
      · skip
        cases g3 : rsm_c3 a b c d e s x y z w
        · skip
          simp only [rsm_r0, g0, g1, g2, g3, cond_true, cond_false]; exact rsm_p1 a b c d e s x y z w g0 g1 g2 g3
        · skip
          simp only [rsm_r0, g0, g1, g2, g3, cond_true, cond_false]; exact rsm_p0 a b c d e s x y z w g0 g1 g2 g3
def B_envSc_14 (args : List Value) : Option (Heap × Value) :=
    match args with
    | [(.agg ⟨[(.int .i64 (a)), (.int .i64 (b)), (.int .i64 (c)), (.int .i64 (d))]⟩)] => some (heapN, (.int .i64 (rst_r0 a b c d)))
    | _ => none
theorem B_envSc_14_ok {args : List Value} {H : Heap} {v : Value} (h : B_envSc_14 args = some (H, v)) : 5 ≤ H.length ∧ H.all tableRow = true ∧ Gives Tryd.prog envSb 0 14 args H (v, H) := by
  unfold B_envSc_14 at h
  split at h
  · cases h; exact heapN_ok (rst_gives _ _ _ _)
  · cases h
def B_envSc_19 (args : List Value) : Option (Heap × Value) :=
    match args with
    | [(.agg ⟨[(.int .i64 (a)), (.int .i64 (b)), (.int .i64 (c)), (.int .i64 (d)), (.int .i64 (e)), (.int .i64 (s))]⟩), (.agg ⟨[(.int .i64 (x)), (.int .i64 (y)), (.int .i64 (z)), (.int .i64 (w))]⟩)] => some (heapN, (.bool (rsm_r0 a b c d e s x y z w)))
    | _ => none
theorem B_envSc_19_ok {args : List Value} {H : Heap} {v : Value} (h : B_envSc_19 args = some (H, v)) : 5 ≤ H.length ∧ H.all tableRow = true ∧ Gives Tryd.prog envSb 0 19 args H (v, H) := by
  unfold B_envSc_19 at h
  split at h
  · cases h; exact heapN_ok (rsm_gives _ _ _ _ _ _ _ _ _ _)
  · cases h
def B_envSc (f : FuncId) (args : List Value) : Option (Heap × Value) :=
  if f == 14 then B_envSc_14 args else
  if f == 19 then B_envSc_19 args else
  none
noncomputable def envSc : Env := envSb.with (baseKnown B_envSc)
theorem envSc_ok : EnvOK Tryd.prog 5 envSc := env_base prog_ok envSb_ok fun f args H v h => by
  unfold B_envSc at h
  rcases ite_or h with ⟨hf, h⟩ | h
  · obtain rfl : f = 14 := eq_of_beq hf
    exact B_envSc_14_ok h
  rcases ite_or h with ⟨hf, h⟩ | h
  · obtain rfl : f = 19 := eq_of_beq hf
    exact B_envSc_19_ok h
  cases h
end Go.Proofs.YtpmicgdplihlfaaDoor
/-
What functions give.
-/
namespace Go.Proofs.YtpmicgdplihlfaaDoor
open Go Go.Abs
theorem ib_p0 (n : Int) : Gives Tryd.prog envSc 0 56 [(.int .i64 (n))] heapN ((.bool (n != lim_r0 n)), heapN) :=
  Gives.by (n := 1000) (os := []) (os' := []) (by kernel_rfl) (ObsOK.nil)
def ib_r0 (n : Int) : Bool := (n != lim_r0 n)
theorem ib_gives (n : Int) : Gives Tryd.prog envSc 0 56 [(.int .i64 (n))] heapN ((.bool (ib_r0 n)), heapN) := by
  simp only [ib_r0, cond_true, cond_false]; exact ib_p0 n
def B_envSd_56 (args : List Value) : Option (Heap × Value) :=
    match args with
    | [(.int .i64 (n))] => some (heapN, (.bool (ib_r0 n)))
    | _ => none
theorem B_envSd_56_ok {args : List Value} {H : Heap} {v : Value} (h : B_envSd_56 args = some (H, v)) : 5 ≤ H.length ∧ H.all tableRow = true ∧ Gives Tryd.prog envSc 0 56 args H (v, H) := by
  unfold B_envSd_56 at h
  split at h
  · cases h; exact heapN_ok (ib_gives _)
  · cases h
def B_envSd (f : FuncId) (args : List Value) : Option (Heap × Value) :=
  if f == 56 then B_envSd_56 args else
  none
noncomputable def envSd : Env := envSc.with (baseKnown B_envSd)
theorem envSd_ok : EnvOK Tryd.prog 5 envSd := env_base prog_ok envSc_ok fun f args H v h => by
  unfold B_envSd at h
  rcases ite_or h with ⟨hf, h⟩ | h
  · obtain rfl : f = 56 := eq_of_beq hf
    exact B_envSd_56_ok h
  cases h
end Go.Proofs.YtpmicgdplihlfaaDoor
