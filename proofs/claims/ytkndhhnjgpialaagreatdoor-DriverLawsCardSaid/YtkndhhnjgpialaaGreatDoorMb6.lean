/-
Joined: AwA, AwB, AwC, AwD, AwZ, AbW, AbF, Ab29, AbN, La, Lb, Lc, Ld, Le, Lf, Lg, Lh, Li.
-/
import Derived.Test.YtkndhhnjgpialaaGreatDoorMb5
import GoSem.Core.View
import Derived.OpenShut
import Derived.KernelRfl
import Derived.Test.YtkndhhnjgpialaaGreatDoorMb2
import Derived.Lib.LaidTab
import Derived.ReadAgain
import Derived.ChangeCalls
import Derived.RowKit
import Derived.Test.YtkndhhnjgpialaaGreatDoorMb3
set_option linter.unusedVariables false
set_option linter.unusedSimpArgs false
set_option linter.unusedSectionVars false
/-
The document's examples, run: statements 0 to 8 of awake.
-/
namespace Go.Proofs.YtkndhhnjgpialaaGreatDoor
open Go Go.Abs
theorem c0 : aRun Tryz.prog envM 100000 9 [.code (seqAt 0 (bodyOf 15))] L0 X0 = some (L1, X1, none) := by kernel_rfl
theorem c1 : aRun Tryz.prog envM 100000 9 [.code (seqAt 1 (bodyOf 15))] L1 X1 = some (L2, X2, none) := by kernel_rfl
theorem c2 : aRun Tryz.prog envM 100000 9 [.code (seqAt 2 (bodyOf 15))] L2 X2 = some (L3, X3, none) := by kernel_rfl
theorem c3 : aRun Tryz.prog envM 100000 9 [.code (seqAt 3 (bodyOf 15))] L3 X3 = some (L4, X4, none) := by kernel_rfl
theorem c4 : aRun Tryz.prog envM 100000 9 [.code (seqAt 4 (bodyOf 15))] L4 X4 = some (L5, X5, none) := by kernel_rfl
theorem c5 : aRun Tryz.prog envM 100000 9 [.code (seqAt 5 (bodyOf 15))] L5 X5 = some (L6, X6, none) := by kernel_rfl
theorem c6 : aRun Tryz.prog envM 100000 9 [.code (seqAt 6 (bodyOf 15))] L6 X6 = some (L7, X7, none) := by kernel_rfl
theorem c7 : aRun Tryz.prog envM 100000 9 [.code (seqAt 7 (bodyOf 15))] L7 X7 = some (L8, X8, none) := by kernel_rfl
theorem c8 : aRun Tryz.prog envM 100000 9 [.code (seqAt 8 (bodyOf 15))] L8 X8 = some (L9, X9, none) := by kernel_rfl
end Go.Proofs.YtkndhhnjgpialaaGreatDoor
/-
The document's examples, run: statements 9 to 13 of awake.
-/
namespace Go.Proofs.YtkndhhnjgpialaaGreatDoor
open Go Go.Abs
theorem c9 : aRun Tryz.prog envM 100000 9 [.code (seqAt 9 (bodyOf 15))] L9 X9 = some (L10, X10, none) := by kernel_rfl
theorem c10 : aRun Tryz.prog envM 100000 9 [.code (seqAt 10 (bodyOf 15))] L10 X10 = some (L11, X11, none) := by kernel_rfl
theorem c11 : aRun Tryz.prog envM 100000 9 [.code (seqAt 11 (bodyOf 15))] L11 X11 = some (L12, X12, none) := by kernel_rfl
theorem c12 : aRun Tryz.prog envM 100000 9 [.code (seqAt 12 (bodyOf 15))] L12 X12 = some (L13, X13, none) := by kernel_rfl
theorem c13 : aRun Tryz.prog envM 100000 9 [.code (seqAt 13 (bodyOf 15))] L13 X13 = some (L14, X14, none) := by kernel_rfl
end Go.Proofs.YtkndhhnjgpialaaGreatDoor
/-
The document's examples, run: statements 14 to 17 of awake.
-/
namespace Go.Proofs.YtkndhhnjgpialaaGreatDoor
open Go Go.Abs
theorem c14 : aRun Tryz.prog envM 100000 9 [.code (seqAt 14 (bodyOf 15))] L14 X14 = some (L15, X15, none) := by kernel_rfl
theorem c15 : aRun Tryz.prog envM 100000 9 [.code (seqAt 15 (bodyOf 15))] L15 X15 = some (L16, X16, none) := by kernel_rfl
theorem c16 : aRun Tryz.prog envM 100000 9 [.code (seqAt 16 (bodyOf 15))] L16 X16 = some (L17, X17, none) := by kernel_rfl
theorem c17 : aRun Tryz.prog envM 100000 9 [.code (seqAt 17 (bodyOf 15))] L17 X17 = some (L18, X18, none) := by kernel_rfl
end Go.Proofs.YtkndhhnjgpialaaGreatDoor
/-
The document's examples, run: statements 18 to 25 of awake.
-/
namespace Go.Proofs.YtkndhhnjgpialaaGreatDoor
open Go Go.Abs
theorem c18 : aRun Tryz.prog envM 100000 9 [.code (seqAt 18 (bodyOf 15))] L18 X18 = some (L19, X19, none) := by kernel_rfl
theorem c19 : aRun Tryz.prog envM 100000 9 [.code (seqAt 19 (bodyOf 15))] L19 X19 = some (L20, X20, none) := by kernel_rfl
theorem c20 : aRun Tryz.prog envM 100000 9 [.code (seqAt 20 (bodyOf 15))] L20 X20 = some (L21, X21, none) := by kernel_rfl
theorem c21 : aRun Tryz.prog envM 100000 9 [.code (seqAt 21 (bodyOf 15))] L21 X21 = some (L22, X22, none) := by kernel_rfl
theorem c22 : aRun Tryz.prog envM 100000 9 [.code (seqAt 22 (bodyOf 15))] L22 X22 = some (L23, X23, none) := by kernel_rfl
theorem c23 : aRun Tryz.prog envM 100000 9 [.code (seqAt 23 (bodyOf 15))] L23 X23 = some (L24, X24, none) := by kernel_rfl
theorem c24 : aRun Tryz.prog envM 100000 9 [.code (seqAt 24 (bodyOf 15))] L24 X24 = some (L25, X25, none) := by kernel_rfl
theorem c25 : aRun Tryz.prog envM 100000 9 [.code (seqAt 25 (bodyOf 15))] L25 X25 = some (L26, X26, some .ret) := by kernel_rfl
end Go.Proofs.YtkndhhnjgpialaaGreatDoor
/-
The document's examples, run: awake gives true, and is known from here on.
-/
namespace Go.Proofs.YtkndhhnjgpialaaGreatDoor
open Go Go.Abs
theorem awake_runs : Runs Tryz.prog envM 9 [.code (dropS 0 (bodyOf 15))] L0 X0 (L26, X26, some .ret) := by
  refine runs_drop (by kernel_rfl) ⟨_, c0⟩ ?_
  refine runs_drop (by kernel_rfl) ⟨_, c1⟩ ?_
  refine runs_drop (by kernel_rfl) ⟨_, c2⟩ ?_
  refine runs_drop (by kernel_rfl) ⟨_, c3⟩ ?_
  refine runs_drop (by kernel_rfl) ⟨_, c4⟩ ?_
  refine runs_drop (by kernel_rfl) ⟨_, c5⟩ ?_
  refine runs_drop (by kernel_rfl) ⟨_, c6⟩ ?_
  refine runs_drop (by kernel_rfl) ⟨_, c7⟩ ?_
  refine runs_drop (by kernel_rfl) ⟨_, c8⟩ ?_
  refine runs_drop (by kernel_rfl) ⟨_, c9⟩ ?_
  refine runs_drop (by kernel_rfl) ⟨_, c10⟩ ?_
  refine runs_drop (by kernel_rfl) ⟨_, c11⟩ ?_
  refine runs_drop (by kernel_rfl) ⟨_, c12⟩ ?_
  refine runs_drop (by kernel_rfl) ⟨_, c13⟩ ?_
  refine runs_drop (by kernel_rfl) ⟨_, c14⟩ ?_
  refine runs_drop (by kernel_rfl) ⟨_, c15⟩ ?_
  refine runs_drop (by kernel_rfl) ⟨_, c16⟩ ?_
  refine runs_drop (by kernel_rfl) ⟨_, c17⟩ ?_
  refine runs_drop (by kernel_rfl) ⟨_, c18⟩ ?_
  refine runs_drop (by kernel_rfl) ⟨_, c19⟩ ?_
  refine runs_drop (by kernel_rfl) ⟨_, c20⟩ ?_
  refine runs_drop (by kernel_rfl) ⟨_, c21⟩ ?_
  refine runs_drop (by kernel_rfl) ⟨_, c22⟩ ?_
  refine runs_drop (by kernel_rfl) ⟨_, c23⟩ ?_
  refine runs_drop (by kernel_rfl) ⟨_, c24⟩ ?_
  exact runs_last (by kernel_rfl) ⟨_, c25⟩
/-- The examples are as the document says. -/
theorem awake_gives : Gives Tryz.prog envM 0 15 [] heap0 (.bool true, heap0) :=
  Gives.of_body (c := bodyOf 15) (j := some .ret) (v := .bool true) (l1 := L26) (A1 := X26) (fun _ _ => by kernel_rfl) Tryz.func15 (by kernel_rfl) (by kernel_rfl) (by kernel_rfl) (runs_eq awake_runs (by kernel_rfl) (by kernel_rfl) (by kernel_rfl) (by kernel_rfl)) rfl (by kernel_rfl)
def BA (f : FuncId) (args : List Value) : Option (Heap × Value) :=
  if f == 15 then
    match args with
    | [] => some (heap0, .bool true)
    | _ => none
  else none
noncomputable def envA : Env := envM.with (baseKnown BA)
theorem envA_ok : EnvOK Tryz.prog 9 envA := env_base prog_ok envM_ok fun f args H v h => by
  unfold BA at h
  split at h
  · rename_i hf
    have hf : f = 15 := by simpa using hf
    subst hf
    split at h
    · cases h; exact ⟨by decide, by decide, awake_gives⟩
    · cases h
  · cases h
theorem heapN_ok {E : Env} {f : FuncId} {args : List Value} {v : Value} (h : Gives Tryz.prog E 0 f args heapN (v, heapN)) : 9 ≤ heapN.length ∧ heapN.all tableRow = true ∧ Gives Tryz.prog E 0 f args heapN (v, heapN) := ⟨by decide, by decide, h⟩
theorem heap0_ok {E : Env} {f : FuncId} {args : List Value} {v : Value} (h : Gives Tryz.prog E 0 f args heap0 (v, heap0)) : 9 ≤ heap0.length ∧ heap0.all tableRow = true ∧ Gives Tryz.prog E 0 f args heap0 (v, heap0) := ⟨by decide, by decide, h⟩
end Go.Proofs.YtkndhhnjgpialaaGreatDoor
/-
Numbers of 64 bits: sums, differences and products may be wrapped at the end.
-/
namespace Go.Abs
open Go

theorem wrap_mod (x : Int) : IntKind.i64.wrap x = x.bmod 18446744073709551616 := by
  unfold IntKind.wrap Int.bmod
  simp only [IntKind.bits, IntKind.signed, Bool.true_and, ge_iff_le, decide_eq_true_eq]
  have h1 : (2 ^ 64 : Int) = 18446744073709551616 := by decide
  have h2 : (2 ^ (64 - 1) : Int) = 9223372036854775808 := by decide
  rw [h1, h2]
  have h3 : (((18446744073709551616 : Nat) : Int)) = 18446744073709551616 := rfl
  simp only [h3]
  split <;> split <;> omega
theorem wAdd_l (x y : Int) : IntKind.i64.wrap (IntKind.i64.wrap x + y) = IntKind.i64.wrap (x + y) := by simp only [wrap_mod, Int.bmod_add_bmod]
theorem wAdd_r (x y : Int) : IntKind.i64.wrap (x + IntKind.i64.wrap y) = IntKind.i64.wrap (x + y) := by simp only [wrap_mod, Int.add_bmod_bmod]
theorem wSub_l (x y : Int) : IntKind.i64.wrap (IntKind.i64.wrap x - y) = IntKind.i64.wrap (x - y) := by simp only [wrap_mod, Int.bmod_sub_bmod]
theorem wSub_r (x y : Int) : IntKind.i64.wrap (x - IntKind.i64.wrap y) = IntKind.i64.wrap (x - y) := by simp only [wrap_mod, Int.sub_bmod_bmod]
theorem wMul_l (x y : Int) : IntKind.i64.wrap (IntKind.i64.wrap x * y) = IntKind.i64.wrap (x * y) := by simp only [wrap_mod, Int.bmod_mul_bmod]
theorem wMul_r (x y : Int) : IntKind.i64.wrap (x * IntKind.i64.wrap y) = IntKind.i64.wrap (x * y) := by simp only [wrap_mod, Int.mul_bmod_bmod]
theorem wWrap (x : Int) : IntKind.i64.wrap (IntKind.i64.wrap x) = IntKind.i64.wrap x := by simp only [wrap_mod, Int.bmod_bmod]
/-- Numbers that are small stay as they are. -/
theorem wSmall {x : Int} (h : -9223372036854775808 ≤ x) (h' : x < 9223372036854775808) : IntKind.i64.wrap x = x := by
  rw [wrap_mod]
  exact Int.bmod_eq_of_le (by omega) (by omega)
/-- A product of small numbers. -/
theorem mulB {x y a b : Int} (hx : -a ≤ x ∧ x ≤ a) (hy : -b ≤ y ∧ y ≤ b) : -(a * b) ≤ x * y ∧ x * y ≤ a * b := by
  have h1 : x.natAbs ≤ a.natAbs := by omega
  have h2 : y.natAbs ≤ b.natAbs := by omega
  have h3 := Nat.mul_le_mul h1 h2
  rw [← Int.natAbs_mul, ← Int.natAbs_mul] at h3
  have h4 : 0 ≤ a * b := Int.mul_nonneg (by omega) (by omega)
  omega
end Go.Abs
/-
Arguments of whole numbers alone: structs and arrays of them, cell by cell.
-/
namespace Go.Abs
open Go

/-- Cells that are whole numbers of these kinds. -/
inductive IntsAs : List IntKind → List Value → Prop
  | nil : IntsAs [] []
  | cons {k : IntKind} {a : Int} {ks : List IntKind} {cs : List Value} (h : (Lit.int k a).wf = true) (t : IntsAs ks cs) : IntsAs (k :: ks) (.int k a :: cs)
theorem IntsAs.append {ks ls : List IntKind} {cs ds : List Value} (h : IntsAs ks cs) (h' : IntsAs ls ds) : IntsAs (ks ++ ls) (cs ++ ds) := by
  induction h with
  | nil => exact h'
  | cons h _ ih => exact .cons h ih
theorem IntsAs.inv {k : IntKind} {ks : List IntKind} {cs : List Value} (h : IntsAs (k :: ks) cs) : ∃ a cs', cs = .int k a :: cs' ∧ (Lit.int k a).wf = true ∧ IntsAs ks cs' := by
  cases h with
  | cons h t => exact ⟨_, _, rfl, h, t⟩
theorem IntsAs.end {cs : List Value} (h : IntsAs [] cs) : cs = [] := by cases h; rfl

def flatKinds (F : TypeId → Option (List IntKind)) (P : Program) : List Field → Nat → Option (List IntKind)
  | [], _ => some []
  | f :: fs, off => match F f.type with
    | some l => if f.offset == off && P.cellsOf f.type == l.length then (flatKinds F P fs (off + l.length)).map (l ++ ·) else none
    | none => none
/-- The kinds of the cells of a type that has whole numbers alone. -/
def flatInts (P : Program) : Nat → TypeId → Option (List IntKind)
  | 0, _ => none
  | n + 1, t => match P.underlying t with
    | some (.int k) => some [k]
    | some (.struct fs) => match flatKinds (flatInts P n) P fs.toList 0 with
      | some l => if P.cellsOf t == l.length then some l else none
      | none => none
    | some (.array m e) => match flatInts P n e with
      | some l => if P.cellsOf e == l.length && P.cellsOf t == m * l.length then some (List.replicate m l).flatten else none
      | none => none
    | _ => none

section
variable {H : Type} {enc : TypeId × Value → H} {P : Program} {w : World} {base : Nat} {spare : Nat → Bool} {held : Bool}
theorem flat_row {F : TypeId → Option (List IntKind)} {T : TypeId → List Value → Option (DataW H × List MemPlace)} (hT : ∀ t l c x, F t = some l → T t c = some x → IntsAs l c ∧ x.2 = []) :
    ∀ (fs : List Field) (off : Nat) (ks : List IntKind) (cs : List Value) (xs : List (DataW H × List MemPlace)), flatKinds F P fs off = some ks → fs.mapM (fun f => T f.type ((cs.drop f.offset).take (P.cellsOf f.type))) = some xs → off + ks.length = cs.length →
      IntsAs ks (cs.drop off) ∧ xs.flatMap (·.2) = []
  | [], off, ks, cs, xs, h, hm, hl => by
    cases h
    simp at hm hl
    subst hm
    rw [List.drop_eq_nil_of_le (by omega)]
    exact ⟨.nil, rfl⟩
  | f :: fs, off, ks, cs, xs, h, hm, hl => by
    unfold flatKinds at h
    split at h
    · rename_i l hF
      split at h
      · rename_i hc
        simp only [Bool.and_eq_true, beq_iff_eq] at hc
        cases hr : flatKinds F P fs (off + l.length) with
        | none => rw [hr] at h; cases h
        | some r =>
          rw [hr] at h
          simp only [Option.map_some, Option.some.injEq] at h
          subst h
          rw [List.mapM_cons] at hm
          cases h1 : T f.type ((cs.drop f.offset).take (P.cellsOf f.type)) with
          | none => rw [h1] at hm; simp at hm
          | some x =>
            cases h2 : fs.mapM (fun f => T f.type ((cs.drop f.offset).take (P.cellsOf f.type))) with
            | none => rw [h1, h2] at hm; simp at hm
            | some ys =>
              rw [h1, h2] at hm
              simp at hm
              subst hm
              simp only [List.length_append] at hl
              obtain ⟨g1, g2⟩ := flat_row hT fs (off + l.length) r cs ys hr h2 (by omega)
              obtain ⟨g3, g4⟩ := hT _ _ _ _ hF h1
              rw [hc.1, hc.2] at g3
              refine ⟨?_, by simp [g4, g2]⟩
              have := g3.append g1
              rwa [← List.drop_drop, List.take_append_drop] at this
      · cases h
    · cases h
theorem flat_arr {l : List IntKind} {n : Nat} {cs : List Value} {xs : List (DataW H × List MemPlace)} (hlen : cs.length = n * l.length) (hx : xs.length = n)
    (hT : ∀ i, i < n → ∃ x, xs[i]? = some x ∧ IntsAs l ((cs.drop (i * l.length)).take l.length) ∧ x.2 = []) : ∀ (m k : Nat), k + m = n → IntsAs (List.replicate m l).flatten (cs.drop (k * l.length)) ∧ (xs.drop k).flatMap (·.2) = []
  | 0, k, h => by
    have : k = n := by omega
    subst this
    rw [List.drop_eq_nil_of_le (by omega), List.drop_eq_nil_of_le (by omega)]
    exact ⟨.nil, rfl⟩
  | m + 1, k, h => by
    obtain ⟨x, h1, h2, h3⟩ := hT k (by omega)
    obtain ⟨g1, g2⟩ := flat_arr hlen hx hT m (k + 1) (by omega)
    constructor
    · rw [List.replicate_succ, List.flatten_cons]
      have := h2.append g1
      rwa [Nat.succ_mul, ← List.drop_drop, List.take_append_drop] at this
    · have hk : k < xs.length := by omega
      rw [List.getElem?_eq_getElem hk] at h1
      cases h1
      rw [List.drop_eq_getElem_cons hk, List.flatMap_cons, h3]
      exact g2
/-- WHAT IS READ AS SUCH A TYPE: whole numbers, and no place in memory. -/
theorem flat_of : ∀ (n : Nat) (t : TypeId) (ks : List IntKind) (fuel : Nat) (cs : List Value) (x : DataW H × List MemPlace), flatInts P n t = some ks → DataW.trod enc P w base spare held fuel t cs = some x → IntsAs ks cs ∧ x.2 = []
  | 0, t, ks, fuel, cs, x, h, _ => by cases h
  | n + 1, t, ks, 0, cs, x, h, hx => by simp [DataW.trod] at hx
  | n + 1, t, ks, fuel + 1, cs, x, h, hx => by
    have ih := fun t ks cs x => flat_of n t ks fuel cs x
    unfold flatInts at h
    split at h
    · rename_i k ht
      cases h
      obtain ⟨a, rfl, rfl, hw⟩ := DataW.trod_int ht hx
      exact ⟨.cons hw .nil, rfl⟩
    · rename_i fs ht
      split at h
      · rename_i l hl
        split at h
        · rename_i hc
          cases h
          have hc : P.cellsOf t = ks.length := by simpa using hc
          unfold DataW.trod at hx
          rw [ht] at hx
          have hx' : (if cs.length = P.cellsOf t then (fs.toList.mapM fun f => DataW.trod enc P w base spare held fuel f.type ((cs.drop f.offset).take (P.cellsOf f.type))).map fun xs => ((.agg (xs.map (·.1)), xs.flatMap (·.2)) : DataW H × List MemPlace) else none) = some x := by
            split at hx <;> simp_all
          split at hx'
          · rename_i hcs
            cases hm : fs.toList.mapM fun f => DataW.trod enc P w base spare held fuel f.type ((cs.drop f.offset).take (P.cellsOf f.type)) with
            | none => rw [hm] at hx'; cases hx'
            | some xs =>
              rw [hm] at hx'
              cases hx'
              have := flat_row (T := DataW.trod enc P w base spare held fuel) ih fs.toList 0 ks cs xs hl hm (by omega)
              simpa using this
          · cases hx'
        · cases h
      · cases h
    · rename_i m e ht
      split at h
      · rename_i l hl
        split at h
        · rename_i hc
          cases h
          simp only [Bool.and_eq_true, beq_iff_eq] at hc
          obtain ⟨xs, f', hf, rfl, h1, h2, h3⟩ := DataW.trod_array ht hx
          cases hf
          have := flat_arr (l := l) (n := m) (cs := cs) (xs := xs) (by rw [h1, hc.2]) h2 (fun i hi => by
            have h4 := h3 i hi
            have hi' : i < xs.length := by omega
            rw [List.getElem?_eq_getElem hi'] at h4
            obtain ⟨g1, g2⟩ := ih _ _ _ _ hl h4
            rw [hc.1] at g1
            exact ⟨_, List.getElem?_eq_getElem hi', g1, g2⟩) m 0 (by omega)
          simpa using this
        · cases h
      · cases h
    · cases h
end
end Go.Abs
/-
The abstract machine: the tables that a row lists, as rows of the first heap; and behind a call that leaves all old blocks, what a row asks.
-/
namespace Go.Abs
open Go

/-- Where the parts begin. -/
def offs (ls : List (List Value)) : List Nat := (List.range ls.length).map fun i => (ls.take i).flatten.length
/-- The cells of a datum of plain parts, in their order. -/
def flatRow {H : Type} (P : Program) : Nat → TypeId → DataW H → Option (List Value)
  | 0, _, _ => none
  | fuel + 1, t, d =>
    match P.underlying t, d with
    | some .bool, .lit (.bool b) => some [.bool b]
    | some (.int k), .lit (.int k' n) => if k' = k then some [.int k n] else none
    | some (.array n e), .agg ds => (ds.mapM fun d => flatRow P fuel e d).bind fun ls => if ds.length = n ∧ offs ls = (List.range n).map (· * P.cellsOf e) then some ls.flatten else none
    | some (.struct fs), .agg ds => ((fs.toList.zip ds).mapM fun x => flatRow P fuel x.1.type x.2).bind fun ls => if ds.length = fs.size ∧ offs ls = fs.toList.map (·.offset) then some ls.flatten else none
    | _, _ => none

theorem flat_get : ∀ {ls : List (List Value)} {o : Nat} {v : Value}, ls.flatten[o]? = some v → ∃ (i : Nat) (a : List Value) (j : Nat), ls[i]? = some a ∧ a[j]? = some v ∧ o = (ls.take i).flatten.length + j
  | [], o, v, h => by simp at h
  | a :: ls, o, v, h => by
    rw [List.flatten_cons, List.getElem?_append] at h
    split at h
    · exact ⟨0, a, o, rfl, h, by simp⟩
    · rename_i hn
      obtain ⟨i, b, j, h1, h2, h3⟩ := flat_get h
      refine ⟨i + 1, b, j, by simpa using h1, h2, ?_⟩
      simp only [List.take_succ_cons, List.flatten_cons, List.length_append]
      omega
theorem offs_at {ls : List (List Value)} {i : Nat} {a : List Value} (h : ls[i]? = some a) : (offs ls)[i]? = some (ls.take i).flatten.length := by
  have hi : i < ls.length := (List.getElem?_eq_some_iff.1 h).1
  simp [offs, hi]
theorem mapM_back {α β : Type} {f : α → Option β} {l : List α} {r : List β} (h : l.mapM f = some r) {i : Nat} {b : β} (hb : r[i]? = some b) : ∃ a, l[i]? = some a ∧ f a = some b := by
  have hi : i < r.length := (List.getElem?_eq_some_iff.1 hb).1
  have hl : i < l.length := by rw [← Lib.mapM_length h]; exact hi
  obtain ⟨b', h1, h2⟩ := Lib.mapM_at h i l[i] (List.getElem?_eq_getElem hl)
  rw [hb] at h1
  cases h1
  exact ⟨l[i], List.getElem?_eq_getElem hl, h2⟩
theorem cut_get {cs : List Value} {o n j : Nat} {v : Value} (h : ((cs.drop o).take n)[j]? = some v) : cs[o + j]? = some v := by
  rw [List.getElem?_take] at h
  split at h
  · simpa [List.getElem?_drop] using h
  · cases h

theorem flatRow_spec {H : Type} {enc : TypeId × Value → H} {P : Program} {w : World} {base : Nat} {sp : Nat → Bool} {hd : Bool} : ∀ (n m : Nat) (t : TypeId) (d : DataW H) (l cs : List Value) (p : List MemPlace), flatRow P n t d = some l →
    DataW.trod enc P w base sp hd m t cs = some (d, p) → ∀ (o : Nat) (v : Value), l[o]? = some v → cs[o]? = some v
  | 0, _, _, _, _, _, _, h, _ => by cases h
  | n + 1, m, t, d, l, cs, p, h, ht => by
    intro o v ho
    unfold flatRow at h
    split at h
    · rename_i hu
      obtain ⟨b, rfl, e⟩ := DataW.trod_bool hu ht
      cases e; cases h; exact ho
    · rename_i k k' z hu
      obtain ⟨b, rfl, e, _⟩ := DataW.trod_int hu ht
      cases e
      simp only [if_true, Option.some.injEq] at h
      subst h; exact ho
    · rename_i na e ds hu
      obtain ⟨xs, m', rfl, ex, hlen, hxl, hx⟩ := DataW.trod_array hu ht
      obtain ⟨ls, hls, h⟩ := Option.bind_eq_some_iff.1 h
      split at h
      · rename_i hc
        cases h
        obtain ⟨i, a, j, h1, h2, rfl⟩ := flat_get ho
        obtain ⟨d', hd', hf⟩ := mapM_back hls h1
        cases ex
        simp only [List.getElem?_map, Option.map_eq_some_iff] at hd'
        obtain ⟨x, hx1, rfl⟩ := hd'
        have hi : i < na := by rw [← hxl]; exact (List.getElem?_eq_some_iff.1 hx1).1
        have hr := hx i hi
        rw [hx1] at hr
        have := flatRow_spec n m' e x.1 a _ x.2 hf hr j v h2
        have ho' := offs_at h1
        rw [hc.2] at ho'
        simp only [List.getElem?_map, List.getElem?_range hi, Option.map_some, Option.some.injEq] at ho'
        rw [← ho']
        exact cut_get this
      · cases h
    · rename_i fs ds hu
      obtain ⟨xs, m', rfl, ex, hlen, hxl, hx⟩ := DataW.trod_struct hu ht
      obtain ⟨ls, hls, h⟩ := Option.bind_eq_some_iff.1 h
      split at h
      · rename_i hc
        cases h
        obtain ⟨i, a, j, h1, h2, rfl⟩ := flat_get ho
        obtain ⟨fd, hd', hf⟩ := mapM_back hls h1
        cases ex
        obtain ⟨hf1, hd1⟩ := List.getElem?_zip_eq_some.1 hd'
        simp only [List.getElem?_map, Option.map_eq_some_iff] at hd1
        obtain ⟨x, hx1, hx2⟩ := hd1
        have hr := hx i fd.1 (by simpa using hf1)
        rw [hx1] at hr
        rw [← hx2] at hf
        have := flatRow_spec n m' fd.1.type x.1 a _ x.2 hf hr j v h2
        have ho' := offs_at h1
        rw [hc.2] at ho'
        simp only [List.getElem?_map, hf1, Option.map_some, Option.some.injEq] at ho'
        rw [← ho']
        exact cut_get this
      · cases h
    · cases h

/-- The tables of the list, as rows; other variables have none. -/
def tabRow (P : Program) (laid : List (String × DataW Unit)) (g : Nat) : Option ARow :=
  laid.findSome? fun x => if P.globalNamed x.1 = some g then (P.globals[g]?).bind fun v => (flatRow P 9 v.type x.2).bind fun cs => if cs.all atomB = true then some (.cells cs 0 .ro) else none else none
def tabRows (P : Program) (laid : List (String × DataW Unit)) (G : Nat) : Heap := (List.range G).map (tabRow P laid)
def tabLoc (G : Nat) : Loc := fun i => if i < G then some ⟨i, 0, 0, 0⟩ else none
theorem tabLoc_globs (G : Nat) : Globs (tabLoc G) G := fun g hg => ⟨0, 0, by simp [tabLoc, hg]⟩

theorem laidVars_mem {P : Program} {w : World} : ∀ {l : List (String × DataW Unit)} {ps : List MemPlace}, DataW.LaidVars P w l ps → ∀ x ∈ l, ∃ g t cs fuel p, P.globalNamed x.1 = some g ∧ (P.globals[g]?).map (·.type) = some t ∧ w.var? P x.1 = some cs ∧
    DataW.trod (fun _ => ()) P w 0 (fun _ => true) false fuel t cs.toList = some (x.2, p)
  | [], _, _, x, hx => by cases hx
  | y :: l, _, ⟨g, t, cs, fuel, p, q, h1, h2, h3, h4, h5, _⟩, x, hx => by
    rcases List.mem_cons.1 hx with rfl | hx
    · exact ⟨g, t, cs, fuel, p, h1, h2, h3, h4⟩
    · exact laidVars_mem h5 x hx

theorem tabRows_rel {P : Program} {laid : List (String × DataW Unit)} {G : Nat} {w : World} (h : laidMet P laid w) : Rel P (tabLoc G) (tabRows P laid G) w := by
  have get : ∀ i r, hget (tabRows P laid G) i = some r → i < G ∧ tabRow P laid i = some r := by
    intro i r hi
    rw [hget_eq] at hi
    simp only [tabRows, List.getElem?_map, Option.map_eq_some_iff] at hi
    obtain ⟨j, hj, hr⟩ := hi
    have hlt : i < G := by have := (List.getElem?_eq_some_iff.1 hj).1; simpa using this
    simp [hlt] at hj
    subst hj
    exact ⟨hlt, hr⟩
  have row : ∀ i r, tabRow P laid i = some r → ∃ cs, r = .cells cs 0 .ro ∧ ∃ cs' e' fz, w.heap[i]? = some (.cells cs' e' fz) ∧ cs.all atomB = true ∧ ∀ (o : Nat) (v : Value), cs[o]? = some v → cs'[o]? = some v := by
    intro i r hr
    obtain ⟨x, hx, hr⟩ := List.exists_of_findSome?_eq_some hr
    split at hr
    · rename_i hn
      obtain ⟨v, hv, hr⟩ := Option.bind_eq_some_iff.1 hr
      obtain ⟨cs, hcs, hr⟩ := Option.bind_eq_some_iff.1 hr
      by_cases hat : cs.all atomB = true
      case neg => rw [if_neg hat] at hr; cases hr
      rw [if_pos hat] at hr; cases hr
      obtain ⟨ps, hl, _⟩ := h
      obtain ⟨g, t, cs', fuel, p, h1, h2, h3, h4⟩ := laidVars_mem hl x hx
      rw [hn] at h1; cases h1
      rw [hv] at h2; cases h2
      refine ⟨cs, rfl, ?_⟩
      simp only [World.var?, hn, Option.bind_some] at h3
      split at h3
      · rename_i c e fz hw
        cases h3
        exact ⟨_, _, _, hw, hat, fun o v ho => by simpa using flatRow_spec 9 fuel _ _ cs _ p hcs h4 o v ho⟩
      · cases h3
    · cases hr
  have loc : ∀ i, i < G → tabLoc G i = some ⟨i, 0, 0, 0⟩ := fun i hi => by simp [tabLoc, hi]
  refine ⟨fun i hi => ?_, fun i r hi => ⟨_, loc i (get i r hi).1⟩, fun i r L hi hL => ?_, fun i j r s L M hi hj hL hM _ ho => ?_⟩
  · simp [tabRows] at hi
    simp [tabLoc, Nat.not_lt.2 hi]
  · obtain ⟨hlt, hr⟩ := get i r hi
    rw [loc i hlt] at hL; cases hL
    obtain ⟨cs, rfl, cs', e', fz, hw, hat, hc⟩ := row i r hr
    refine ⟨cs', e', fz, hw, fun o v hv => ⟨v, by simpa using hc o v hv, ?_⟩, fun _ => rfl, fun h => absurd rfl h⟩
    exact .atom (List.all_eq_true.1 hat v (List.mem_of_getElem? hv))
  · obtain ⟨hlt, hr⟩ := get i r hi
    obtain ⟨cs, rfl, _⟩ := row i r hr
    cases ho

open Go.ChangeShapes in
theorem post_of_still {H : Type} {enc : TypeId × Value → H} {P : Program} {f : Func} {s : ChangeSpec} {apart fresh handsOn again : Bool} {W W' : World} {args : Array Value} {v : Value} {ds gs : List (DataW H)} {before pa pv : List MemPlace}
    (hW : DataW.Whole enc P f.params.toList s.vars apart W args.toList ds gs before)
    (hres : ∀ (b : Nat) (sp : Nat → Bool) (hd : Bool), DataW.TrodAll enc P W' b sp hd f.resultTypes.toList (v.resultList f.resultTypes.size) (s.fn H (ds ++ gs)).results [])
    (hargs : ∀ sp : Nat → Bool, (∀ p ∈ before, sp p.block = true) → DataW.TrodAll enc P W' 0 sp true f.params.toList args.toList (s.fn H (ds ++ gs)).args pa)
    (hvars : ∀ sp : Nat → Bool, (∀ p ∈ before, sp p.block = true) → DataW.TrodVars enc P W' sp s.vars (s.fn H (ds ++ gs)).vars pv)
    (hps : before = pa ++ pv) (ho : W'.os = W.os ∧ W'.output = W.output) (hb : ∀ b, b < W.heap.size → W'.heap[b]? = W.heap[b]?)
    (hok : ∀ (j : Nat) (t : TypeId) (r : Value), f.resultTypes[j]? = some t → (v.resultList f.resultTypes.size)[j]? = some r → Value.okWide P W' .any 0 t r) :
    s.post enc P f apart fresh handsOn again W args v W' := by
  have hlt := hW.lt
  have hold : ∀ p ∈ before, (fun b => decide (b < W.heap.size)) p.block = true := fun p hp => by simpa using hlt p hp
  refine ⟨ds, gs, before, [], pa, pv, hW, hres _ _ _, hargs _ hold, hvars _ hold, kept_of_same ho hb _, fun _ => ?_⟩
  obtain ⟨_, _, _, _, _, hz, hn⟩ := hW
  refine ⟨hok, _, _, ([] ++ pa) ++ pv, ⟨[] ++ pa, pv, trodAll_append (hargs _ (fun _ _ => rfl)) (hres _ _ _), hvars _ (fun _ _ => rfl), rfl, ?_, ?_⟩, ?_⟩
  · intro b off hp
    have hp' : MemPlace.cell b off ∈ before := by rw [hps]; simpa using hp
    rw [frozen_of_same hb (hlt _ hp')]
    exact hz b off hp'
  · intro ha
    have := hn ha
    rw [hps] at this
    simpa using this
  · intro p hp _
    rw [hps]
    simpa using hp

/-- Behind a call that leaves all old blocks the arguments read as before. -/
theorem trodAll_still {H : Type} {enc : TypeId × Value → H} {P : Program} {W W' : World} (hb : ∀ b, b < W.heap.size → W'.heap[b]? = W.heap[b]?) : ∀ {ts : List TypeId} {vs : List Value} {ds : List (DataW H)} {ps : List MemPlace} {sp : Nat → Bool} {hd : Bool}, (∀ p ∈ ps, p.block < W.heap.size) → DataW.TrodAll enc P W 0 sp hd ts vs ds ps → DataW.TrodAll enc P W' 0 sp hd ts vs ds ps
  | [], [], [], _, _, _, _, h => h
  | _ :: _, _ :: _, _ :: _, _, _, _, hl, ⟨p, q, ⟨n, h1⟩, h2, e⟩ => ⟨p, q, ⟨n, DataW.trod_carry n _ _ _ h1 fun x hx => by
      have := hl x (by rw [e]; exact List.mem_append_left _ hx)
      cases x with
      | cell b off => simp only [World.sameAt, World.cell?, hb b this]
      | map b => exact hb b this⟩, trodAll_still hb (fun x hx => hl x (by rw [e]; exact List.mem_append_right _ hx)) h2, e⟩
  | [], _ :: _, _, _, _, _, _, h => h.elim
  | [], [], _ :: _, _, _, _, _, h => h.elim
  | _ :: _, [], _, _, _, _, _, h => h.elim
  | _ :: _, _ :: _, [], _, _, _, _, h => h.elim

/-- What is asked of the program's types, that arguments read again. -/
structure Reads (P : Program) : Prop where
  out : laidOutB P = true
  maps : mapsRowed P = true
  full : ((List.range P.types.size).all fun t => match P.underlying t with | some (.slice e) => decide (0 < P.cellsOf e) | _ => true) = true

open Go.ChangeShapes Go.RowKit in
/-- WHAT A LAW's ROW ASKS: true came back, all old blocks are as they were. -/
theorem law_post {H : Type} {enc : TypeId × Value → H} {P : Program} (hP : Reads P) {f : Func} {s : ChangeSpec} {apart fresh handsOn again : Bool} {W W' : World} {args : Array Value} {ds gs : List (DataW H)} {before : List MemPlace} {bt : TypeId}
    (hv : s.vars = []) (hfn : ∀ ds : List (DataW H), ds.length = f.params.size → s.fn H ds = { results := [.lit (.bool true)], args := ds }) (hr : f.resultTypes = #[bt]) (hu : P.underlying bt = some .bool) (hts : f.params.toList.all (fun t => decide (t < P.types.size)) = true)
    (hW : DataW.Whole enc P f.params.toList s.vars apart W args.toList ds gs before) (ho : W'.os = W.os ∧ W'.output = W.output) (hb : ∀ b, b < W.heap.size → W'.heap[b]? = W.heap[b]?) :
    s.post enc P f apart fresh handsOn again W args (.bool true) W' := by
  have hW0 := hW
  have hlt := hW.lt
  obtain ⟨p, q, hA, hV, rfl, hz, hn⟩ := hW
  rw [hv] at hV
  obtain ⟨rfl, rfl⟩ : gs = [] ∧ q = [] := by
    cases gs with
    | nil => exact ⟨rfl, hV⟩
    | cons => exact hV.elim
  have hlen : ds.length = f.params.size := by simpa using (Go.trodAll_length hA).2
  have hf := hfn ds hlen
  refine post_of_still (pa := p) (pv := []) hW0 (fun b sp hd => ?_) (fun sp hs => ?_) (fun sp _ => ?_) rfl ho hb ?_
  · rw [List.append_nil, hf, hr]
    exact trodAll_cons_mk (shut_bool hu true) trodAll_mk0
  · rw [List.append_nil, hf]
    refine trodAll_still hb (fun x hx => hlt x (by simpa using hx)) ?_
    exact DataW.TrodAll.respare (kids_rows hP.out hP.maps) (fun t e ht => slices_full_of P hP.full t e ht) (fun t ht => by simpa using List.all_eq_true.1 hts t ht) hA (fun x hx => hs x (by simpa using hx))
  · rw [List.append_nil, hf, hv]
    exact rfl
  · exact ok_one hr rfl (okWide_bool_mk hu true)
end Go.Abs
/-
The abstract machine: what is left of a call, from a state in its midst: rows may get other numbers on the way, and slots be forgotten.
-/
namespace Go.Abs
open Go

theorem run_sound {P : Program} {G : Nat} {E : Env} (hP : ProgOK P G) (hE : EnvOK P G E) (n lim : Nat) : RunSays P G (aRun P E n lim) ∧ RunKeeps lim (aRun P E n lim) :=
  run_says hP hE (fun _ _ hC => draw_says hP.mixed hC) (fun _ _ hC => draw_keeps hC) n lim

/-- What a contract says of the model. -/
def SaysAt (P : Program) (G : Nat) (f : FuncId) (args : List Value) (A : Heap) (v : Value) (A' : Heap) : Prop :=
  ∀ (ρ : Loc) (w : World) (args' : List Value), VRs ρ args args' → Globs ρ G → Rel P ρ A w → CallSays P ρ A w f args' v A'
theorem SaysAt.of_gives {P : Program} {G : Nat} {E : Env} (hP : ProgOK P G) (hE : EnvOK P G E) {lim : Nat} {f : FuncId} {args : List Value} {A A' : Heap} {v : Value} (h : Gives P E lim f args A (v, A')) : SaysAt P G f args A v A' := by
  obtain ⟨n, hn⟩ := h
  exact (call_sound hP hE n).says lim f args A v A' hn

/-- THE REST OF A CALL of fn, whose rows at its begin were A0: from a state on it comes to its end with the value v and the rows A1. -/
def Ends (P : Program) (G : Nat) (fn : Func) (A0 : Heap) (v : Value) (A1 : Heap) (todo : List It) (l : List Value) (A : Heap) : Prop :=
  todo.all (okIt G fn.ntmps) = true → ∀ (ρ0 ρ : Loc) (w0 w : World) (a : Act) (b : Frame) (cs : List Frame) (rs : List Nat), (∀ r, b.roundOf = some r → IsLoop w r) → Globs ρ0 G → Rel P ρ0 A0 w0 → StR ρ fn.ntmps l a → Rel P ρ A w → Moves ρ0 A0 w0 ρ A w →
    MarksOK w a.defers rs → (∀ r ∈ rs, w0.heap.size ≤ r) →
    ∃ ρ' a' w' td j l1 rs', Steps P (lone (b.atR a (todo.map It.real)) cs w) (lone (b.atR a' td) cs w') ∧ Left [] j td ∧ retB j = true ∧ StR ρ' fn.ntmps l1 a' ∧ aResults P fn l1 A1 = some v ∧ Rel P ρ' A1 w' ∧ Moves ρ0 A0 w0 ρ' A1 w' ∧ MarksOK w' a'.defers rs' ∧ ∀ r ∈ rs', w0.heap.size ≤ r

section
variable {P : Program} {G : Nat} {E : Env} {fn : Func} {A0 A1 A A2 : Heap} {v : Value} {l l1 l2 : List Value} {lim : Nat}
theorem Ends.run (hP : ProgOK P G) (hE : EnvOK P G E) {k kk : List It} (h1 : Runs P E lim k l A (l2, A2, none)) (h2 : Ends P G fn A0 v A1 kk l2 A2) : Ends P G fn A0 v A1 (k ++ kk) l A := by
  intro hok ρ0 ρ w0 w a b cs rs hro hG0 hR0 hS hR hM hmk hrs
  rw [List.all_append, Bool.and_eq_true] at hok
  obtain ⟨n, hn⟩ := h1
  obtain ⟨ρ1, a1, w1, td, s1, hleft, hS1, hR1, hM1, rs1, hmk1, hrs1⟩ := (run_sound hP hE n lim).1 k l A l2 A2 none hn fn.ntmps hok.1 ρ a w b cs rs (kk.map It.real) (fun h => absurd rfl h) hro hS (hG0.mono hM.pre) hR hmk
  simp only [Left] at hleft
  subst hleft
  obtain ⟨ρ', a', w', td', j, l1, rs', s2, h3, h4, h5, h6, h7, h8, h9, h10⟩ := h2 hok.2 ρ0 ρ1 w0 w1 a1 b cs rs1 (fun r hr => hM1.loops _ (hro r hr)) hG0 hR0 hS1 hR1 (hM.trans hM1) hmk1 (fun r hr => by
    rcases hrs1 r hr with h | h
    · exact hrs r h
    · exact Nat.le_trans hM.size h)
  refine ⟨ρ', a', w', td', j, l1, rs', ?_, h3, h4, h5, h6, h7, h8, h9, h10⟩
  rw [List.map_append]
  exact s1.trans s2
theorem Ends.ret (hP : ProgOK P G) (hE : EnvOK P G E) {k : List It} {j : Option Code} (h1 : Runs P E lim k l A (l1, A1, j)) (hj : retB j = true) (hres : aResults P fn l1 A1 = some v) : Ends P G fn A0 v A1 k l A := by
  intro hok ρ0 ρ w0 w a b cs rs hro hG0 hR0 hS hR hM hmk hrs
  obtain ⟨n, hn⟩ := h1
  obtain ⟨ρ1, a1, w1, td, s1, hleft, hS1, hR1, hM1, rs1, hmk1, hrs1⟩ := (run_sound hP hE n lim).1 k l A l1 A1 j hn fn.ntmps hok ρ a w b cs rs [] (fun _ => rfl) hro hS (hG0.mono hM.pre) hR hmk
  rw [List.append_nil] at s1
  exact ⟨ρ1, a1, w1, td, j, l1, rs1, s1, hleft, hj, hS1, hres, hR1, hM.trans hM1, hmk1, fun r hr => by
    rcases hrs1 r hr with h | h
    · exact hrs r h
    · exact Nat.le_trans hM.size h⟩
/-- A return out of the midst. -/
theorem Ends.out (hP : ProgOK P G) (hE : EnvOK P G E) {k kk : List It} (h1 : Runs P E lim k l A (l1, A1, some .ret)) (hres : aResults P fn l1 A1 = some v) : Ends P G fn A0 v A1 (k ++ kk) l A := by
  obtain ⟨n, hn⟩ := h1
  exact Ends.ret hP hE ⟨n, run_ret (kk := kk) n _ _ _ hn⟩ rfl hres
theorem Ends.step {todo todo' : List It} (hst : ∀ (a : Act) (b : Frame) (cs : List Frame) (w : World), step P (lone (b.atR a (todo.map It.real)) cs w) = .next (lone (b.atR a (todo'.map It.real)) cs w)) (hok : todo.all (okIt G fn.ntmps) = true → todo'.all (okIt G fn.ntmps) = true) (h : Ends P G fn A0 v A1 todo' l A) : Ends P G fn A0 v A1 todo l A := by
  intro hk ρ0 ρ w0 w a b cs rs hro hG0 hR0 hS hR hM hmk hrs
  obtain ⟨ρ', a', w', td', j, l1, rs', s2, h3⟩ := h (hok hk) ρ0 ρ w0 w a b cs rs hro hG0 hR0 hS hR hM hmk hrs
  exact ⟨ρ', a', w', td', j, l1, rs', (Steps.one (hst a b cs w)).trans s2, h3⟩
theorem Ends.seq {c d : Code} {k : List It} (h : Ends P G fn A0 v A1 (.code c :: .code d :: k) l A) : Ends P G fn A0 v A1 (.code (.seq c d) :: k) l A :=
  Ends.step (fun _ _ _ _ => stepR_seq) (fun h => by simp only [List.all_cons, okIt, okCode, Bool.and_eq_true] at h ⊢; exact ⟨h.1.1, h.1.2, h.2⟩) h
theorem Ends.block {id : Nat} {c : Code} {k : List It} (h : Ends P G fn A0 v A1 (.code c :: .inBlock id :: k) l A) : Ends P G fn A0 v A1 (.code (.block id c) :: k) l A :=
  Ends.step (fun _ _ _ _ => stepR_block) (fun h => by simp only [List.all_cons, okIt, okCode, Bool.and_eq_true] at h ⊢; exact ⟨h.1, trivial, h.2⟩) h
theorem Ends.loop {c : Code} {k : List It} (h : Ends P G fn A0 v A1 (.code c :: .inLoop c :: k) l A) : Ends P G fn A0 v A1 (.code (.loop c) :: k) l A :=
  Ends.step (fun _ _ _ _ => stepR_loop) (fun h => by simp only [List.all_cons, okIt, okCode, Bool.and_eq_true] at h ⊢; exact ⟨h.1, h.1, h.2⟩) h
/-- One round more. -/
theorem Ends.round (hP : ProgOK P G) (hE : EnvOK P G E) {c : Code} {k : List It} (h1 : Runs P E lim [.code c] l A (l2, A2, none)) (h2 : Ends P G fn A0 v A1 (.code c :: .inLoop c :: k) l2 A2) : Ends P G fn A0 v A1 (.code c :: .inLoop c :: k) l A :=
  Ends.run hP hE h1 (Ends.step (fun _ _ _ _ => stepR_inLoop) (fun h => by simp only [List.all_cons, okIt, Bool.and_eq_true] at h ⊢; exact ⟨h.1, h.1, h.2⟩) h2)
theorem Ends.inBlock {id : Nat} {k : List It} (h : Ends P G fn A0 v A1 k l A) : Ends P G fn A0 v A1 (.inBlock id :: k) l A :=
  Ends.step (fun _ _ _ _ => stepR_inBlock) (fun h => by simp only [List.all_cons, okIt, Bool.and_eq_true] at h ⊢; exact h.2) h
theorem Ends.exit {id : Nat} {k k' : List It} (hx : aExit id k = some k') (h : Ends P G fn A0 v A1 k' l A) : Ends P G fn A0 v A1 (.code (.exit id) :: k) l A :=
  Ends.step (fun _ _ _ _ => stepR_exit (by have := exit_real id [] k; rw [hx] at this; simpa using this)) (fun h => by simp only [List.all_cons, Bool.and_eq_true] at h; exact exit_ok hx h.2) h
theorem Ends.cond {x : Operand} {c d : Code} {k : List It} {t : Bool} (ht : ev l x = .bool t) (h : Ends P G fn A0 v A1 (.code (if t then c else d) :: k) l A) : Ends P G fn A0 v A1 (.code (.cond x c d) :: k) l A := by
  intro hk ρ0 ρ w0 w a b cs rs hro hG0 hR0 hS hR hM hmk hrs
  simp only [List.all_cons, okIt, okCode, Bool.and_eq_true] at hk
  have he : a.eval x = .bool t := by have := hS.ev (hG0.mono hM.pre) hk.1.1.1; rw [ht] at this; exact this.bool_inv
  obtain ⟨ρ', a', w', td', j, l1, rs', s2, h3⟩ := h (by cases t <;> simp [okIt, hk]) ρ0 ρ w0 w a b cs rs hro hG0 hR0 hS hR hM hmk hrs
  refine ⟨ρ', a', w', td', j, l1, rs', (Steps.one ?_).trans s2, h3⟩
  have := stepR_cond (P := P) (b := b) (k := k.map It.real) (cs := cs) (w := w) (x := c) (y := d) he
  cases t <;> simpa [It.real] using this
/-- The whole call. -/
theorem Ends.says (hP : ProgOK P G) {f : FuncId} {c : Code} {args : List Value} {v' : Value} {A' : Heap} (hf : P.funcs[f]? = some fn) (hb : fn.body = some c) (hnt : ¬ fn.ntmps < args.length) (h : Ends P G fn A v A1 [.code c] (padTo fn.ntmps args) A)
    (hlen : A.length ≤ A1.length) (hkeep : ∀ i, i < A.length → hget A1 i = hget A i) (hgc : aGC A v A1 = (v', A')) : SaysAt P G f args A v' A' := by
  intro ρ w args' hargs hG hR
  have hne : ¬ fn.name = "runtime.NumGoroutine" := by simpa using hP.name f fn hf
  refine .inr ⟨by simp [callFunc, hf, hne, hb], ?_⟩
  have key : Calls P f args'.toArray w fun e w' => ∃ v' ρ', e = .returned v' ∧ VR ρ' v v' ∧ Rel P ρ' A1 w' ∧ Moves ρ A w ρ' A1 w' := by
    intro cs
    let b : Frame := { (default : Frame) with fn := f, kind := .normal }
    have hal := hargs.1
    have henter : Frame.enter P f args'.toArray .normal = b.at { tmps := args'.toArray ++ Array.replicate (fn.ntmps - args'.toArray.size) undef, defers := [] } [.code c] := by
      simp [Frame.enter, Frame.at, hf, hb, b]
    have hS : StR ρ fn.ntmps (padTo fn.ntmps args) { tmps := args'.toArray ++ Array.replicate (fn.ntmps - args'.toArray.size) undef, defers := [] } := by
      refine ⟨by simp; omega, fun t => ?_⟩
      rw [tget_pad, tget_eq]
      by_cases ht : t < args.length
      · have ht' : t < args'.length := by omega
        have := hargs.2 t args[t] args'[t] (List.getElem?_eq_getElem ht) (List.getElem?_eq_getElem ht')
        simpa [Array.getD_eq_getD_getElem?, Array.getElem?_append_left, ht, ht', List.getElem?_eq_getElem] using this
      · have ht' : ¬ t < args'.length := by omega
        have h1 : args[t]? = none := List.getElem?_eq_none (by omega)
        rw [h1]
        have h2 : ((args'.toArray ++ Array.replicate (fn.ntmps - args'.toArray.size) undef).getD t undef) = undef := by
          rw [Array.getD_eq_getD_getElem?, Array.getElem?_append_right (by simp; omega)]
          rw [Array.getElem?_replicate]
          split <;> rfl
        simp only [Option.getD_none]
        rw [h2]
        exact VR.undef ρ
    obtain ⟨ρ', a', w', td, j, l', rs', hsteps0, hleft, hj, hS', hres, hR1, hM1, hmk, hrs⟩ := h (by simp [okIt, hP.code f fn c hf hb]) ρ ρ w w _ b cs [] (fun r hr => by cases hr) hG hR hS hR (Moves.refl _ _ _) ⟨rfl, List.nodup_nil, fun r hr => by cases hr⟩ (fun r hr => by cases hr)
    have hb0 : b.roundOf = none := rfl
    have hsteps : Steps P _ (lone { b.at a' td with mode := .returning } cs w') := hsteps0.trans (.one (by
      rw [← Frame.atR_of_none hb0]
      cases j with
      | none => simp only [Left] at hleft; subst hleft; exact stepR_end hb0
      | some c' =>
        cases c' with
        | ret => obtain ⟨k', rfl⟩ := hleft; exact stepR_ret hb0
        | _ => simp [retB] at hj))
    rw [Frame.atR_of_none hb0] at hsteps
    obtain ⟨w2, hsteps2, hR', hM⟩ := marks_run rs' { b.at a' td with mode := .returning } cs w' a'.defers hmk (fun r hr => hrs r hr) (by simp) rfl hR1 hM1
    obtain ⟨v', hv', hvr⟩ := results_run hS' hR' hres
    refine ⟨.returned v', w2, { { b.at a' td with mode := .returning } with defers := [] }, ⟨v', ρ', rfl, hvr, hR', hM⟩, ?_, rfl, rfl, rfl, rfl, fn, hf, hv'⟩
    rw [henter]
    exact hsteps.trans hsteps2
  refine key.mono ?_
  rintro e w' ⟨v2, ρ2, rfl, hv, hR2, hM⟩
  obtain ⟨ρ', h1, h2, h3⟩ := gc_sound hR hR2 hM hlen hkeep hv hgc
  exact ⟨v2, ρ', rfl, h1, h2, h3⟩

/-- A value by other numbers of rows. -/
def vBy (g : Nat → Option Nat) : Nat → Value → Option Value
  | 0, _ => none
  | n + 1, v => if freeB v then some v else match v with
    | .pointer (some ⟨i, o, none⟩) => (g i).map fun j => .pointer (some ⟨j, o, none⟩)
    | .slice (some ⟨i, o, none⟩) m c => (g i).map fun j => .slice (some ⟨j, o, none⟩) m c
    | .map (some i) => (g i).map fun j => .map (some j)
    | .agg cs => (listRen (vBy g n) cs.toList).map fun l => .agg l.toArray
    | .tuple cs => (listRen (vBy g n) cs.toList).map fun l => .tuple l.toArray
    | .func (.func f) fs cs => match listRen (vBy g n) fs.toList, listRen (vBy g n) cs.toList with
      | some l, some m => some (.func (.func f) l.toArray m.toArray)
      | _, _ => none
    | .iface t x => (vBy g n x).map fun y => .iface t y
    | .chan (some 0) => some (.chan (some 0))
    | _ => none
theorem vBy_sound {ρ ρ' : Loc} {g : Nat → Option Nat} (h : ∀ i j, g i = some j → ρ' j = ρ i) : ∀ (n : Nat) {v v' c : Value}, vBy g n v = some v' → VR ρ v c → VR ρ' v' c
  | 0, v, v', c, hr, hv => by cases hr
  | n + 1, v, v', c, hr, hv => by
    have ih := fun v v' c => vBy_sound h n (v := v) (v' := v') (c := c)
    unfold vBy at hr
    split at hr
    · rename_i hf; cases hr; rw [hv.free_eq hf]; exact VR.refl _ hf
    · split at hr
      · rename_i i o _
        obtain ⟨L, hL, rfl⟩ := hv.ptr_inv
        cases hg : g i with
        | none => rw [hg] at hr; cases hr
        | some j => rw [hg] at hr; cases hr; exact .ptr (by rw [h i j hg]; exact hL)
      · rename_i i o m k _
        obtain ⟨L, p, c', hL, rfl, a1, a2, a3⟩ := hv.slice_inv
        cases hg : g i with
        | none => rw [hg] at hr; cases hr
        | some j => rw [hg] at hr; cases hr; exact .slice (by rw [h i j hg]; exact hL) a1 a2 a3
      · rename_i i _
        cases hg : g i with
        | none => rw [hg] at hr; cases hr
        | some j =>
          rw [hg] at hr; cases hr
          cases hv with
          | atom ha => simp [atomB] at ha
          | map hL => exact .map (by rw [h i j hg]; exact hL)
      · rename_i cs _
        cases hl : listRen (vBy g n) cs.toList with
        | none => rw [hl] at hr; cases hr
        | some l =>
          rw [hl] at hr; cases hr
          cases hv with
          | atom ha => simp [atomB] at ha
          | agg hs hh =>
            have := listRen_sound (ρ' := ρ') (ρ2 := ρ) ih _ _ _ hl ⟨by simpa using hs, hh⟩
            exact .agg (by simpa using this.1) (by simpa using this.2)
      · rename_i cs _
        cases hl : listRen (vBy g n) cs.toList with
        | none => rw [hl] at hr; cases hr
        | some l =>
          rw [hl] at hr; cases hr
          cases hv with
          | atom ha => simp [atomB] at ha
          | tuple hs hh =>
            have := listRen_sound (ρ' := ρ') (ρ2 := ρ) ih _ _ _ hl ⟨by simpa using hs, hh⟩
            exact .tuple (by simpa using this.1) (by simpa using this.2)
      · rename_i f fs cs _
        split at hr
        · rename_i l m h1 h2
          cases hr
          cases hv with
          | atom ha => simp [atomB] at ha
          | func b1 b2 b3 b4 b5 =>
            have g1 := listRen_sound (ρ' := ρ') (ρ2 := ρ) ih _ _ _ h1 ⟨by simpa using b2, b4⟩
            have g2 := listRen_sound (ρ' := ρ') (ρ2 := ρ) ih _ _ _ h2 ⟨by simpa using b3, b5⟩
            exact .func b1 (by simpa using g1.1) (by simpa using g2.1) (by simpa using g1.2) (by simpa using g2.2)
        · cases hr
      · rename_i t x _
        cases hl : vBy g n x with
        | none => rw [hl] at hr; cases hr
        | some y =>
          rw [hl] at hr; cases hr
          cases hv with
          | atom ha => simp [atomB] at ha
          | iface hx => exact .iface (ih _ _ _ hl hx)
      · cases hr
        cases hv with
        | atom ha => simp [atomB] at ha
        | junk h => exact .junk h
      · cases hr

/-- What becomes of a slot: it is forgotten, it gets other numbers, it has no address. -/
inductive Keep where
  | no | ren | free
def boolB : Value → Bool
  | .bool _ => true
  | _ => false
theorem VR.not_bool {ρ : Loc} {v v' : Value} (h : VR ρ v v') (hb : boolB v = false) : ∀ b, v' ≠ .bool b := by
  intro b e
  subst e
  cases h with
  | atom => simp [boolB] at hb
  | junk h => exact h b rfl
/-- Slots by other numbers; and those that are to have no address. -/
def slotsTo (g : Nat → Option Nat) : List Keep → List Value → Option (List Value × List Value)
  | [], _ => some ([], [])
  | .no :: m, l => match boolB (l.headD undef), slotsTo g m l.tail with
    | false, some (r, fs) => some (junk :: r, fs)
    | _, _ => none
  | .ren :: m, l => match vBy g 6 (l.headD undef), slotsTo g m l.tail with
    | some x, some (r, fs) => some (x :: r, fs)
    | _, _ => none
  | .free :: m, l => match slotsTo g m l.tail with
    | some (r, fs) => some (l.headD undef :: r, l.headD undef :: fs)
    | none => none
def SlotBy (g : Nat → Option Nat) (x y : Value) : Prop := (y = junk ∧ boolB x = false) ∨ vBy g 6 x = some y ∨ (y = x ∧ freeB x = true)
theorem SlotBy.sound {ρ ρ' : Loc} {g : Nat → Option Nat} {x y c : Value} (h : SlotBy g x y) (hg : ∀ i j, g i = some j → ρ' j = ρ i) (hv : VR ρ x c) : VR ρ' y c := by
  rcases h with ⟨rfl, hb⟩ | h | ⟨rfl, hf⟩
  · exact .junk (hv.not_bool hb)
  · exact vBy_sound hg 6 h hv
  · rw [hv.free_eq hf]; exact VR.refl _ hf
theorem slotsTo_get {g : Nat → Option Nat} : ∀ {m : List Keep} {l l2 fs : List Value}, slotsTo g m l = some (l2, fs) → (∀ v ∈ fs, freeB v = true) → l2.length = m.length ∧ ∀ t, t < m.length → SlotBy g (tget l t) (tget l2 t)
  | [], l, l2, fs, h, _ => by cases h; exact ⟨rfl, fun t ht => by simp at ht⟩
  | b :: m, l, l2, fs, h, hf => by
    have hd : tget l 0 = l.headD undef := by cases l <;> rfl
    have tl : ∀ t, tget l (t + 1) = tget l.tail t := fun t => by cases l <;> rfl
    cases b with
    | no =>
      unfold slotsTo at h
      split at h
      · rename_i r fs' hb hr
        cases h
        obtain ⟨h1, h2⟩ := slotsTo_get hr hf
        refine ⟨by simp [h1], fun t ht => ?_⟩
        cases t with
        | zero => rw [hd]; exact .inl ⟨rfl, hb⟩
        | succ t => simp only [tget_succ, tl]; exact h2 t (by simpa using ht)
      · cases h
    | ren =>
      unfold slotsTo at h
      split at h
      · rename_i x r fs' hx hr
        cases h
        obtain ⟨h1, h2⟩ := slotsTo_get hr hf
        refine ⟨by simp [h1], fun t ht => ?_⟩
        cases t with
        | zero => rw [hd]; exact .inr (.inl hx)
        | succ t => simp only [tget_succ, tl]; exact h2 t (by simpa using ht)
      · cases h
    | free =>
      unfold slotsTo at h
      split at h
      · rename_i r fs' hr
        cases h
        obtain ⟨h1, h2⟩ := slotsTo_get hr (fun v hv => hf v (by simp [hv]))
        refine ⟨by simp [h1], fun t ht => ?_⟩
        cases t with
        | zero => rw [hd]; exact .inr (.inr ⟨rfl, hf _ (by simp)⟩)
        | succ t => simp only [tget_succ, tl]; exact h2 t (by simpa using ht)
      · cases h
/-- A bool, or nothing. -/
def obB : Option Bool → Value
  | none => undef
  | some b => .bool b
theorem free_ob (x : Option Bool) : freeB (obB x) = true := by cases x <;> rfl
theorem listRen_len {f : Value → Option Value} : ∀ {l l2 : List Value}, listRen f l = some l2 → l2.length = l.length
  | [], l2, h => by cases h; rfl
  | v :: l, l2, h => by
    unfold listRen at h
    split at h
    · rename_i x r hx hr
      cases h
      simp [listRen_len hr]
    · cases h
theorem listRen_at {f : Value → Option Value} : ∀ {l l2 : List Value}, listRen f l = some l2 → ∀ {k : Nat} {x : Value}, l2[k]? = some x → ∃ y, l[k]? = some y ∧ f y = some x
  | [], l2, h, k, x, hx => by cases h; simp at hx
  | v :: l, l2, h, k, x, hx => by
    unfold listRen at h
    split at h
    · rename_i y r hy hr
      cases h
      cases k with
      | zero => simp at hx; subst hx; exact ⟨v, rfl, hy⟩
      | succ k => simpa using listRen_at hr (by simpa using hx)
    · cases h
/-- A row by other numbers. -/
inductive RowBy (g : Nat → Option Nat) : ARow → ARow → Prop
  | plain {cs : List Value} {e : TypeId} {u : Use} (h : cs.all atomB = true) : RowBy g (.cells cs e u) (.cells cs e u)
  | cells {cs cs2 : List Value} {e : TypeId} {u : Use} (h : listRen (vBy g 6) cs = some cs2) : RowBy g (.cells cs e u) (.cells cs2 e u)
  | iter {s : ByteArray} {p : Nat} : RowBy g (.iter s p) (.iter s p)
  | map {es : List (Value × Value × Nat)} {c : Nat} (h : es.all (fun x => atomB x.2.1) = true) : RowBy g (.map es c) (.map es c)
inductive RowsBy (g : Nat → Option Nat) (A : Heap) : List Nat → Heap → Prop
  | nil : RowsBy g A [] []
  | cons {i : Nat} {ids : List Nat} {r r2 : ARow} {R : Heap} (h : hget A i = some r) (hr : RowBy g r r2) (t : RowsBy g A ids R) : RowsBy g A (i :: ids) (some r2 :: R)
theorem RowsBy.length {g : Nat → Option Nat} {ids : List Nat} {R : Heap} (h : RowsBy g A ids R) : R.length = ids.length := by
  induction h with
  | nil => rfl
  | cons _ _ _ ih => simp [ih]
theorem RowsBy.get {g : Nat → Option Nat} {ids : List Nat} {R : Heap} (h : RowsBy g A ids R) : ∀ {k : Nat} {r2 : ARow}, hget R k = some r2 → ∃ i r, ids[k]? = some i ∧ hget A i = some r ∧ RowBy g r r2 := by
  induction h with
  | nil => intro k r2 hk; simp at hk
  | cons h hr _ ih =>
    intro k r2 hk
    cases k with
    | zero => simp at hk; subst hk; exact ⟨_, _, by simp, h, hr⟩
    | succ k => simpa using ih (by simpa using hk)
theorem RowBy.ok {g : Nat → Option Nat} {ρ ρ' : Loc} {r r2 : ARow} {w : World} {L : L4} (h : RowBy g r r2) (hg : ∀ i j, g i = some j → ρ' j = ρ i) (ho : RowOK P ρ w L r) : RowOK P ρ' w L r2 := by
  cases h with
  | plain ha =>
    obtain ⟨cs', e', fz, b1, b2, b3⟩ := ho
    exact ⟨cs', e', fz, b1, fun o x hx => let ⟨x2, y1, y2⟩ := b2 o x hx; ⟨x2, y1, by
      have hax := List.all_eq_true.1 ha x (List.mem_of_getElem? hx)
      rw [y2.atom_eq hax]; exact .atom hax⟩, b3⟩
  | cells hl =>
    rename_i cs cs2 e u
    obtain ⟨cs', e', fz, b1, b2, b3⟩ := ho
    have len := listRen_len hl
    refine ⟨cs', e', fz, b1, fun o x hx => ?_, b3⟩
    obtain ⟨y, hy, hv⟩ := listRen_at hl hx
    obtain ⟨x2, y1, y2⟩ := b2 o y hy
    exact ⟨x2, y1, vBy_sound hg 6 hv y2⟩
  | iter => exact ho
  | map ha =>
    obtain ⟨es', b1, b2, b3⟩ := ho
    exact ⟨es', b1, b2, fun k key val born hk => let ⟨e2, y1, y2, y3, y4⟩ := b3 k key val born hk; ⟨e2, y1, y2, y3, by
      have hax := List.all_eq_true.1 ha _ (List.mem_of_getElem? hk)
      rw [y4.atom_eq hax]; exact .atom hax⟩⟩
theorem RowBy.own {g : Nat → Option Nat} {r r2 : ARow} (h : RowBy g r r2) : r2.isOwn = r.isOwn := by
  cases h with
  | cells h => rename_i cs cs2 e u; cases u <;> rfl
  | _ => rfl

/-- OTHER NUMBERS FOR THE ROWS THAT THE CALL HAS MADE; those that are not named are forgotten. -/
theorem Ends.renum {todo : List It} {X R : Heap} {ids : List Nat} {m : List Keep} {fs : List Value} (hids : ∀ i ∈ ids, A0.length ≤ i) (hnd : nodupB ids = true) (hm : fn.ntmps ≤ m.length) (hl : slotsTo (inNum A0.length ids) m l = some (l2, fs)) (hfs : ∀ v ∈ fs, freeB v = true) (hrows : RowsBy (inNum A0.length ids) (A0 ++ X) ids R)
    (h : Ends P G fn A0 v A1 todo l2 (A0 ++ R)) : Ends P G fn A0 v A1 todo l (A0 ++ X) := by
  intro hok ρ0 ρ w0 w a b cs rs hro hG0 hR0 hS hR hM hmk hrs
  let ρ2 : Loc := fun i => if i < A0.length then ρ i else match ids[i - A0.length]? with | some j => ρ j | none => none
  have a1 : ∀ i, i < A0.length → ρ2 i = ρ i := fun i hi => by simp [ρ2, hi]
  have a2 : ∀ k j, ids[k]? = some j → ρ2 (A0.length + k) = ρ j := fun k j hk => by
    have : ¬ A0.length + k < A0.length := by omega
    simp only [ρ2, if_neg this, Nat.add_sub_cancel_left, hk]
  have hin : ∀ i j, inNum A0.length ids i = some j → ρ2 j = ρ i := by
    intro i j h
    unfold inNum at h
    split at h
    · rename_i hi; cases h; exact a1 _ hi
    · cases hp : place i ids with
      | none => rw [hp] at h; cases h
      | some k => rw [hp] at h; cases h; exact a2 k i (place_get hp)
  have hRl := hrows.length
  have trans : ∀ {x x1 x2 : Value}, VR ρ0 x x1 → VR ρ x x2 → VR ρ2 x x2 := fun h1 h2 => VR.transfer (fun i L hi => a1 i (by
    rcases Nat.lt_or_ge i A0.length with h | h
    · exact h
    · rw [hR0.sup i h] at hi; cases hi)) h1 h2
  have getA : ∀ i r, hget (A0 ++ R) i = some r → (i < A0.length ∧ hget A0 i = some r ∧ hget (A0 ++ X) i = some r) ∨ (∃ k j r0, i = A0.length + k ∧ ids[k]? = some j ∧ hget (A0 ++ X) j = some r0 ∧ RowBy (inNum A0.length ids) r0 r) := by
    intro i r hi
    rw [hget_append] at hi
    split at hi
    · rename_i hlt
      exact .inl ⟨hlt, hi, by rw [hget_append, if_pos hlt]; exact hi⟩
    · rename_i hge
      obtain ⟨j, r0, h1, h2, h3⟩ := hrows.get hi
      exact .inr ⟨i - A0.length, j, r0, by omega, h1, h2, h3⟩
  have hS2 : StR ρ2 fn.ntmps l2 a := by
    obtain ⟨hlen, hget⟩ := slotsTo_get hl hfs
    refine ⟨hS.size, fun t => ?_⟩
    by_cases ht : t < m.length
    · exact (hget t ht).sound hin (hS.tmps t)
    · have h1 : tget l2 t = undef := by rw [tget_eq, List.getElem?_eq_none (by omega)]; rfl
      have h2 : a.tmps.getD t undef = undef := by
        rw [Array.getD_eq_getD_getElem?, Array.getElem?_eq_none (by rw [hS.size]; omega)]; rfl
      rw [h1, h2]
      exact VR.undef _
  have hR2 : Rel P ρ2 (A0 ++ R) w := by
    refine ⟨fun i hi => ?_, fun i r hi => ?_, fun i r L hi hL => ?_, fun i j r q L M hi hj hL hM' hne hr => ?_⟩
    · simp only [List.length_append, hRl] at hi
      have h1 : ¬ i < A0.length := by omega
      have h2 : ids[i - A0.length]? = none := List.getElem?_eq_none (by omega)
      simp only [ρ2, if_neg h1, h2]
    · rcases getA i r hi with ⟨hlt, _, h2⟩ | ⟨k, j, r0, rfl, hj, hg, _⟩
      · rw [a1 i hlt]; exact hR.has i r h2
      · rw [a2 k j hj]; exact hR.has j r0 hg
    · rcases getA i r hi with ⟨hlt, h1, h2⟩ | ⟨k, j, r0, rfl, hj, hg, hby⟩
      · rw [a1 i hlt] at hL
        have hr2 := hR.row i r L h2 hL
        obtain ⟨L1, hL1, hr1⟩ := hR0.found h1
        cases r with
        | cells cs e use =>
          obtain ⟨cs', e', fz, b1, b2, b3, b4⟩ := hr2
          obtain ⟨ds', d', dz, c1, c2, c3, c4⟩ := hr1
          exact ⟨cs', e', fz, b1, fun o x hx => let ⟨x2, y1, y2⟩ := b2 o x hx; let ⟨x1, _, z2⟩ := c2 o x hx; ⟨x2, y1, trans z2 y2⟩, b3, b4⟩
        | iter s p => exact hr2
        | loop =>
          obtain ⟨t2, f2, d2, b1, b2, b3⟩ := hr2
          obtain ⟨t1, f1, d1, c1, c2, _⟩ := hr1
          exact ⟨t2, f2, d2, b1, fun k => trans (c2 k) (b2 k), b3⟩
        | map =>
          obtain ⟨es2, b1, b2, b3⟩ := hr2
          obtain ⟨es1, c1, c2, c3⟩ := hr1
          exact ⟨es2, b1, b2, fun k key val born hk => let ⟨e2, y1, y2, y3, y4⟩ := b3 k key val born hk; let ⟨e1, _, _, _, z4⟩ := c3 k key val born hk; ⟨e2, y1, y2, y3, trans z4 y4⟩⟩
      · rw [a2 k j hj] at hL
        exact hby.ok hin (hR.row j r0 L hg hL)
    · have ge : ∀ {k j : Nat}, ids[k]? = some j → A0.length ≤ j := fun h => hids _ (List.mem_of_getElem? h)
      rcases getA i r hi with ⟨hlt, _, h2⟩ | ⟨k, i', r0, rfl, hi', hg, hby⟩ <;> rcases getA j q hj with ⟨hlt', _, h2'⟩ | ⟨k', j', q0, rfl, hj', hg', hby'⟩
      · rw [a1 i hlt] at hL; rw [a1 j hlt'] at hM'
        exact hR.sep i j r q L M h2 h2' hL hM' hne hr
      · rw [a1 i hlt] at hL; rw [a2 _ _ hj'] at hM'
        exact hR.sep i j' r _ L M h2 hg' hL hM' (by have := ge hj'; omega) hr
      · rw [a2 _ _ hi'] at hL; rw [a1 j hlt'] at hM'
        exact hR.sep i' j _ q L M hg h2' hL hM' (by have := ge hi'; omega) (hby.own ▸ hr)
      · rw [a2 _ _ hi'] at hL; rw [a2 _ _ hj'] at hM'
        exact hR.sep i' j' _ _ L M hg hg' hL hM' (fun e => hne (by subst e; rw [nodup_get hnd k k' i' hi' hj'])) (hby.own ▸ hr)
  have hM2 : Moves ρ0 A0 w0 ρ2 (A0 ++ R) w := by
    refine ⟨fun i L hi => ?_, by simp, fun i hi => (a1 i hi).trans (hM.same i hi), hM.size, hM.frame, fun i r L hi hL => ?_, hM.out, hM.loops⟩
    · have hlt : i < A0.length := by
        rcases Nat.lt_or_ge i A0.length with h | h
        · exact h
        · rw [hR0.sup i h] at hi; cases hi
      rw [a1 i hlt]; exact hM.pre i L hi
    · rcases getA i r hi with ⟨hlt, h1, h2⟩ | ⟨k, j, r0, rfl, hj, hg, hby⟩
      · exact .inl ⟨hlt, r, h1, id⟩
      · rw [a2 _ _ hj] at hL
        rcases hM.rows j r0 L hg hL with ⟨hlt, _⟩ | h2 | h2
        · have := hids j (List.mem_of_getElem? hj); omega
        · exact .inr (.inl h2)
        · exact .inr (.inr h2)
  exact h hok ρ0 ρ2 w0 w a b cs rs hro hG0 hR0 hS2 hR2 hM2 hmk hrs
end
end Go.Abs
/-
What functions give.
-/
namespace Go.Proofs.YtkndhhnjgpialaaGreatDoor
open Go Go.Abs
def f48_c0 (x : Int) (l : Int) (m : Int) : Bool := decide (x < l)
def f48_c1 (x : Int) (l : Int) (m : Int) : Bool := decide (x > m)
theorem f48_p0 (x : Int) (l : Int) (m : Int) (h0 : f48_c0 x l m = true) : Gives Tryz.prog envA 0 48 [(.int .i64 (x)), (.int .i64 (l)), (.int .i64 (m))] heapN ((.int .i64 (3)), heapN) :=
  Gives.by (n := 1000) (os := [.br 48 22 true, .br 48 22 true, .br 48 22 true, .br 48 31 true]) (os' := []) (by kernel_rfl) (ObsOK.cond h0 (ObsOK.cond h0 (ObsOK.cond h0 (ObsOK.cond h0 (ObsOK.nil)))))
theorem f48_p1 (x : Int) (l : Int) (m : Int) (h0 : f48_c0 x l m = false) (h1 : f48_c1 x l m = true) : Gives Tryz.prog envA 0 48 [(.int .i64 (x)), (.int .i64 (l)), (.int .i64 (m))] heapN ((.int .i64 (3)), heapN) :=
  Gives.by (n := 1000) (os := [.br 48 22 false, .br 48 22 false, .br 48 22 false, .br 48 31 false, .br 48 30 true]) (os' := []) (by kernel_rfl) (ObsOK.cond h0 (ObsOK.cond h0 (ObsOK.cond h0 (ObsOK.cond h0 (ObsOK.cond h1 (ObsOK.nil))))))
theorem f48_p2 (x : Int) (l : Int) (m : Int) (h0 : f48_c0 x l m = false) (h1 : f48_c1 x l m = false) : Gives Tryz.prog envA 0 48 [(.int .i64 (x)), (.int .i64 (l)), (.int .i64 (m))] heapN ((.int .i64 (0)), heapN) :=
  Gives.by (n := 1000) (os := [.br 48 22 false, .br 48 22 false, .br 48 22 false, .br 48 31 false, .br 48 30 false]) (os' := []) (by kernel_rfl) (ObsOK.cond h0 (ObsOK.cond h0 (ObsOK.cond h0 (ObsOK.cond h0 (ObsOK.cond h1 (ObsOK.nil))))))
def f48_r0 (x : Int) (l : Int) (m : Int) : Int := (cond (f48_c0 x l m) (3) (cond (f48_c1 x l m) (3) (0)))
theorem f48_gives (x : Int) (l : Int) (m : Int) : Gives Tryz.prog envA 0 48 [(.int .i64 (x)), (.int .i64 (l)), (.int .i64 (m))] heapN ((.int .i64 (f48_r0 x l m)), heapN) := by
  cases g0 : f48_c0 x l m
  · skip
    cases g1 : f48_c1 x l m
    · skip
      simp only [f48_r0, g0, g1, cond_true, cond_false]; exact f48_p2 x l m g0 g1
    · skip
      simp only [f48_r0, g0, g1, cond_true, cond_false]; exact f48_p1 x l m g0 g1
  · skip
    simp only [f48_r0, g0, cond_true, cond_false]; exact f48_p0 x l m g0
def f140_c0 (x : Int) (l : Int) (m : Int) : Bool := decide (l ≤ x)
theorem f140_p0 (x : Int) (l : Int) (m : Int) (h0 : f140_c0 x l m = true) : Gives Tryz.prog envA 0 140 [(.int .i64 (x)), (.int .i64 (l)), (.int .i64 (m))] heapN ((.bool (decide (x ≤ m))), heapN) :=
  Gives.by (n := 1000) (os := [.br 140 22 true, .br 140 22 true, .br 140 22 true, .br 140 31 true]) (os' := []) (by kernel_rfl) (ObsOK.cond h0 (ObsOK.cond h0 (ObsOK.cond h0 (ObsOK.cond h0 (ObsOK.nil)))))
theorem f140_p1 (x : Int) (l : Int) (m : Int) (h0 : f140_c0 x l m = false) : Gives Tryz.prog envA 0 140 [(.int .i64 (x)), (.int .i64 (l)), (.int .i64 (m))] heapN ((.bool false), heapN) :=
  Gives.by (n := 1000) (os := [.br 140 22 false, .br 140 22 false, .br 140 22 false, .br 140 31 false]) (os' := []) (by kernel_rfl) (ObsOK.cond h0 (ObsOK.cond h0 (ObsOK.cond h0 (ObsOK.cond h0 (ObsOK.nil)))))
def f140_r0 (x : Int) (l : Int) (m : Int) : Bool := (cond (f140_c0 x l m) (decide (x ≤ m)) (false))
theorem f140_gives (x : Int) (l : Int) (m : Int) : Gives Tryz.prog envA 0 140 [(.int .i64 (x)), (.int .i64 (l)), (.int .i64 (m))] heapN ((.bool (f140_r0 x l m)), heapN) := by
  cases g0 : f140_c0 x l m
  · skip
    simp only [f140_r0, g0, cond_true, cond_false]; exact f140_p1 x l m g0
  · skip
    simp only [f140_r0, g0, cond_true, cond_false]; exact f140_p0 x l m g0
def f93_c0 (p : Bool) (e : Int) : Bool := p
theorem f93_p0 (p : Bool) (e : Int) (h0 : f93_c0 p e = true) : Gives Tryz.prog envA 0 93 [(.bool (p)), (.int .i64 (e))] heapN ((.int .i64 e), heapN) :=
  Gives.by (n := 1000) (os := [.br 93 12 true]) (os' := []) (by kernel_rfl) (ObsOK.cond h0 (ObsOK.nil))
theorem f93_p1 (p : Bool) (e : Int) (h0 : f93_c0 p e = false) : Gives Tryz.prog envA 0 93 [(.bool (p)), (.int .i64 (e))] heapN ((.int .i64 (0)), heapN) :=
  Gives.by (n := 1000) (os := [.br 93 12 false]) (os' := []) (by kernel_rfl) (ObsOK.cond h0 (ObsOK.nil))
def f93_r0 (p : Bool) (e : Int) : Int := (cond (f93_c0 p e) (e) (0))
theorem f93_gives (p : Bool) (e : Int) : Gives Tryz.prog envA 0 93 [(.bool (p)), (.int .i64 (e))] heapN ((.int .i64 (f93_r0 p e)), heapN) := by
  cases g0 : f93_c0 p e
  · skip
    simp only [f93_r0, g0, cond_true, cond_false]; exact f93_p1 p e g0
  · skip
    simp only [f93_r0, g0, cond_true, cond_false]; exact f93_p0 p e g0
def B_envB (f : FuncId) (args : List Value) : Option (Heap × Value) :=
  if f == 48 then
    match args with
    | [(.int .i64 (x)), (.int .i64 (l)), (.int .i64 (m))] => some (heapN, (.int .i64 (f48_r0 x l m)))
    | _ => none
  else  if f == 140 then
    match args with
    | [(.int .i64 (x)), (.int .i64 (l)), (.int .i64 (m))] => some (heapN, (.bool (f140_r0 x l m)))
    | _ => none
  else  if f == 93 then
    match args with
    | [(.bool (p)), (.int .i64 (e))] => some (heapN, (.int .i64 (f93_r0 p e)))
    | _ => none
  else none
noncomputable def envB : Env := envA.with (baseKnown B_envB)
theorem envB_ok : EnvOK Tryz.prog 9 envB := env_base prog_ok envA_ok fun f args H v h => by
  unfold B_envB at h
  split at h
  · rename_i hf
    have hf : f = 48 := by simpa using hf
    subst hf
    split at h
    · cases h; exact heapN_ok (f48_gives _ _ _)
    · cases h
  · skip
    split at h
    · rename_i hf
      have hf : f = 140 := by simpa using hf
      subst hf
      split at h
      · cases h; exact heapN_ok (f140_gives _ _ _)
      · cases h
    · skip
      split at h
      · rename_i hf
        have hf : f = 93 := by simpa using hf
        subst hf
        split at h
        · cases h; exact heapN_ok (f93_gives _ _)
        · cases h
      · skip
        cases h
end Go.Proofs.YtkndhhnjgpialaaGreatDoor
/-
What functions give.
-/
namespace Go.Proofs.YtkndhhnjgpialaaGreatDoor
open Go Go.Abs
theorem f111_p0 (x : Int) (l : Int) (m : Int) : Gives Tryz.prog envB 0 111 [(.int .i64 (x)), (.int .i64 (l)), (.int .i64 (m))] heapN ((.int .i64 (f93_r0 (!f140_r0 x l m) 3)), heapN) :=
  Gives.by (n := 1000) (os := []) (os' := []) (by kernel_rfl) (ObsOK.nil)
def f111_r0 (x : Int) (l : Int) (m : Int) : Int := (f93_r0 (!f140_r0 x l m) 3)
theorem f111_gives (x : Int) (l : Int) (m : Int) : Gives Tryz.prog envB 0 111 [(.int .i64 (x)), (.int .i64 (l)), (.int .i64 (m))] heapN ((.int .i64 (f111_r0 x l m)), heapN) := by
  simp only [f111_r0, cond_true, cond_false]; exact f111_p0 x l m
def B_envC (f : FuncId) (args : List Value) : Option (Heap × Value) :=
  if f == 111 then
    match args with
    | [(.int .i64 (x)), (.int .i64 (l)), (.int .i64 (m))] => some (heapN, (.int .i64 (f111_r0 x l m)))
    | _ => none
  else none
noncomputable def envC : Env := envB.with (baseKnown B_envC)
theorem envC_ok : EnvOK Tryz.prog 9 envC := env_base prog_ok envB_ok fun f args H v h => by
  unfold B_envC at h
  split at h
  · rename_i hf
    have hf : f = 111 := by simpa using hf
    subst hf
    split at h
    · cases h; exact heapN_ok (f111_gives _ _ _)
    · cases h
  · skip
    cases h
end Go.Proofs.YtkndhhnjgpialaaGreatDoor
/-
What functions give.
-/
namespace Go.Proofs.YtkndhhnjgpialaaGreatDoor
open Go Go.Abs
theorem f143_p0 (w : Int) : Gives Tryz.prog envC 0 143 [(.int .i64 (w))] heapN ((.int .i64 (f111_r0 w 1 8)), heapN) :=
  Gives.by (n := 1000) (os := []) (os' := []) (by kernel_rfl) (ObsOK.nil)
def f143_r0 (w : Int) : Int := (f111_r0 w 1 8)
theorem f143_gives (w : Int) : Gives Tryz.prog envC 0 143 [(.int .i64 (w))] heapN ((.int .i64 (f143_r0 w)), heapN) := by
  simp only [f143_r0, cond_true, cond_false]; exact f143_p0 w
def f112_c0 (a : Int) (b : Int) (c : Int) (d : Int) : Bool := !b != 0
def f112_c1 (a : Int) (b : Int) (c : Int) (d : Int) : Bool := c != 0
def f112_c2 (a : Int) (b : Int) (c : Int) (d : Int) : Bool := f111_r0 b 1 100 != 0
def f112_c3 (a : Int) (b : Int) (c : Int) (d : Int) : Bool := f111_r0 c 0 5000 != 0
def f112_c4 (a : Int) (b : Int) (c : Int) (d : Int) : Bool := f111_r0 d 1 100 != 0
theorem f112_p0 (a : Int) (b : Int) (c : Int) (d : Int) (h0 : f112_c0 a b c d = true) (h1 : f112_c1 a b c d = true) : Gives Tryz.prog envC 0 112 [(.agg #[(.int .i64 (a)), (.int .i64 (b)), (.int .i64 (c)), (.int .i64 (d))])] heapN ((.int .i64 (2)), heapN) :=
  Gives.by (n := 1000) (os := [.br 112 12 true, .br 112 20 true, .br 112 20 true, .br 112 20 true, .br 112 29 true]) (os' := []) (by kernel_rfl) (ObsOK.cond h0 (ObsOK.cond h1 (ObsOK.cond h1 (ObsOK.cond h1 (ObsOK.cond h1 (ObsOK.nil))))))
theorem f112_p1 (a : Int) (b : Int) (c : Int) (d : Int) (h0 : f112_c0 a b c d = true) (h1 : f112_c1 a b c d = false) : Gives Tryz.prog envC 0 112 [(.agg #[(.int .i64 (a)), (.int .i64 (b)), (.int .i64 (c)), (.int .i64 (d))])] heapN ((.int .i64 (f93_r0 (d != 0) 2)), heapN) :=
  Gives.by (n := 1000) (os := [.br 112 12 true, .br 112 20 false, .br 112 20 false, .br 112 20 false, .br 112 29 false]) (os' := []) (by kernel_rfl) (ObsOK.cond h0 (ObsOK.cond h1 (ObsOK.cond h1 (ObsOK.cond h1 (ObsOK.cond h1 (ObsOK.nil))))))
theorem f112_p2 (a : Int) (b : Int) (c : Int) (d : Int) (h0 : f112_c0 a b c d = false) (h1 : f112_c2 a b c d = true) : Gives Tryz.prog envC 0 112 [(.agg #[(.int .i64 (a)), (.int .i64 (b)), (.int .i64 (c)), (.int .i64 (d))])] heapN ((.int .i64 (f111_r0 b 1 100)), heapN) :=
  Gives.by (n := 1000) (os := [.br 112 12 false, .br 105 26 true]) (os' := []) (by kernel_rfl) (ObsOK.cond h0 (ObsOK.cond h1 (ObsOK.nil)))
theorem f112_p3 (a : Int) (b : Int) (c : Int) (d : Int) (h0 : f112_c0 a b c d = false) (h1 : f112_c2 a b c d = false) (h2 : f112_c3 a b c d = true) : Gives Tryz.prog envC 0 112 [(.agg #[(.int .i64 (a)), (.int .i64 (b)), (.int .i64 (c)), (.int .i64 (d))])] heapN ((.int .i64 (f111_r0 c 0 5000)), heapN) :=
  Gives.by (n := 1000) (os := [.br 112 12 false, .br 105 26 false, .br 105 26 true]) (os' := []) (by kernel_rfl) (ObsOK.cond h0 (ObsOK.cond h1 (ObsOK.cond h2 (ObsOK.nil))))
theorem f112_p4 (a : Int) (b : Int) (c : Int) (d : Int) (h0 : f112_c0 a b c d = false) (h1 : f112_c2 a b c d = false) (h2 : f112_c3 a b c d = false) (h3 : f112_c4 a b c d = true) : Gives Tryz.prog envC 0 112 [(.agg #[(.int .i64 (a)), (.int .i64 (b)), (.int .i64 (c)), (.int .i64 (d))])] heapN ((.int .i64 (f111_r0 d 1 100)), heapN) :=
  Gives.by (n := 1000) (os := [.br 112 12 false, .br 105 26 false, .br 105 26 false, .br 105 26 true]) (os' := []) (by kernel_rfl) (ObsOK.cond h0 (ObsOK.cond h1 (ObsOK.cond h2 (ObsOK.cond h3 (ObsOK.nil)))))
theorem f112_p5 (a : Int) (b : Int) (c : Int) (d : Int) (h0 : f112_c0 a b c d = false) (h1 : f112_c2 a b c d = false) (h2 : f112_c3 a b c d = false) (h3 : f112_c4 a b c d = false) : Gives Tryz.prog envC 0 112 [(.agg #[(.int .i64 (a)), (.int .i64 (b)), (.int .i64 (c)), (.int .i64 (d))])] heapN ((.int .i64 (0)), heapN) :=
  Gives.by (n := 1000) (os := [.br 112 12 false, .br 105 26 false, .br 105 26 false, .br 105 26 false]) (os' := []) (by kernel_rfl) (ObsOK.cond h0 (ObsOK.cond h1 (ObsOK.cond h2 (ObsOK.cond h3 (ObsOK.nil)))))
def f112_r0 (a : Int) (b : Int) (c : Int) (d : Int) : Int := (cond (f112_c0 a b c d) (cond (f112_c1 a b c d) (2) (f93_r0 (d != 0) 2)) (cond (f112_c2 a b c d) (f111_r0 b 1 100) (cond (f112_c3 a b c d) (f111_r0 c 0 5000) (cond (f112_c4 a b c d) (f111_r0 d 1 100) (0)))))
theorem f112_gives (a : Int) (b : Int) (c : Int) (d : Int) : Gives Tryz.prog envC 0 112 [(.agg #[(.int .i64 (a)), (.int .i64 (b)), (.int .i64 (c)), (.int .i64 (d))])] heapN ((.int .i64 (f112_r0 a b c d)), heapN) := by
  cases g0 : f112_c0 a b c d
  · skip
    cases g2 : f112_c2 a b c d
    · skip
      cases g3 : f112_c3 a b c d
      · skip
        cases g4 : f112_c4 a b c d
        · skip
          simp only [f112_r0, g0, g2, g3, g4, cond_true, cond_false]; exact f112_p5 a b c d g0 g2 g3 g4
        · skip
          simp only [f112_r0, g0, g2, g3, g4, cond_true, cond_false]; exact f112_p4 a b c d g0 g2 g3 g4
      · skip
        simp only [f112_r0, g0, g2, g3, cond_true, cond_false]; exact f112_p3 a b c d g0 g2 g3
    · skip
      simp only [f112_r0, g0, g2, cond_true, cond_false]; exact f112_p2 a b c d g0 g2
  · skip
    cases g1 : f112_c1 a b c d
    · skip
      simp only [f112_r0, g0, g1, cond_true, cond_false]; exact f112_p1 a b c d g0 g1
    · skip
      simp only [f112_r0, g0, g1, cond_true, cond_false]; exact f112_p0 a b c d g0 g1
theorem f27_p0 (a : Int) (b : Int) (c : Int) (d : Int) (e : Int) (f : Int) : Gives Tryz.prog envC 0 27 [(.agg #[(.int .i64 (a)), (.int .i64 (b)), (.int .i64 (c)), (.int .i64 (d)), (.int .i64 (e)), (.int .i64 (f))])] heap0 ((.int .i64 (f93_r0 (!((if 50 < if 1 > a then 1 else a then 50 else if 1 > a then 1 else a) == a && ((if 10 < if 0 > b then 0 else b then 10 else if 0 > b then 0 else b) == b && ((if 20 < if 1 > c then 1 else c then 20 else if 1 > c then 1 else c) == c && ((if 100 < if 1 > d then 1 else d then 100 else if 1 > d then 1 else d) == d && ((if 5000 < if 1 > e then 1 else e then 5000 else if 1 > e then 1 else e) == e && ((if 100 < if 1 > f then 1 else f then 100 else if 1 > f then 1 else f) == f && true))))))) 3)), heap0) :=
  Gives.by (n := 1000) (os := []) (os' := []) (by kernel_rfl) (ObsOK.nil)
def f27_r0 (a : Int) (b : Int) (c : Int) (d : Int) (e : Int) (f : Int) : Int := (f93_r0 (!((if 50 < if 1 > a then 1 else a then 50 else if 1 > a then 1 else a) == a && ((if 10 < if 0 > b then 0 else b then 10 else if 0 > b then 0 else b) == b && ((if 20 < if 1 > c then 1 else c then 20 else if 1 > c then 1 else c) == c && ((if 100 < if 1 > d then 1 else d then 100 else if 1 > d then 1 else d) == d && ((if 5000 < if 1 > e then 1 else e then 5000 else if 1 > e then 1 else e) == e && ((if 100 < if 1 > f then 1 else f then 100 else if 1 > f then 1 else f) == f && true))))))) 3)
theorem f27_gives (a : Int) (b : Int) (c : Int) (d : Int) (e : Int) (f : Int) : Gives Tryz.prog envC 0 27 [(.agg #[(.int .i64 (a)), (.int .i64 (b)), (.int .i64 (c)), (.int .i64 (d)), (.int .i64 (e)), (.int .i64 (f))])] heap0 ((.int .i64 (f27_r0 a b c d e f)), heap0) := by
  simp only [f27_r0, cond_true, cond_false]; exact f27_p0 a b c d e f
def f21_c0 (a : Int) (b : Int) (c : Int) (d : Int) (e : Int) (f : Int) : Bool := f48_r0 a 1 50 != 0
def f21_c1 (a : Int) (b : Int) (c : Int) (d : Int) (e : Int) (f : Int) : Bool := f48_r0 b 0 10 != 0
def f21_c2 (a : Int) (b : Int) (c : Int) (d : Int) (e : Int) (f : Int) : Bool := f48_r0 c 1 20 != 0
def f21_c3 (a : Int) (b : Int) (c : Int) (d : Int) (e : Int) (f : Int) : Bool := f48_r0 d 1 100 != 0
def f21_c4 (a : Int) (b : Int) (c : Int) (d : Int) (e : Int) (f : Int) : Bool := f48_r0 e 1 5000 != 0
def f21_c5 (a : Int) (b : Int) (c : Int) (d : Int) (e : Int) (f : Int) : Bool := f48_r0 f 1 100 != 0
theorem f21_p0 (a : Int) (b : Int) (c : Int) (d : Int) (e : Int) (f : Int) (h0 : f21_c0 a b c d e f = true) : Gives Tryz.prog envC 0 21 [(.agg #[(.int .i64 (a)), (.int .i64 (b)), (.int .i64 (c)), (.int .i64 (d)), (.int .i64 (e)), (.int .i64 (f))])] heapN ((.int .i64 (f48_r0 a 1 50)), heapN) :=
  Gives.by (n := 1000) (os := [.br 20 30 true]) (os' := []) (by kernel_rfl) (ObsOK.cond h0 (ObsOK.nil))
theorem f21_p1 (a : Int) (b : Int) (c : Int) (d : Int) (e : Int) (f : Int) (h0 : f21_c0 a b c d e f = false) (h1 : f21_c1 a b c d e f = true) : Gives Tryz.prog envC 0 21 [(.agg #[(.int .i64 (a)), (.int .i64 (b)), (.int .i64 (c)), (.int .i64 (d)), (.int .i64 (e)), (.int .i64 (f))])] heapN ((.int .i64 (f48_r0 b 0 10)), heapN) :=
  Gives.by (n := 1000) (os := [.br 20 30 false, .br 20 30 true]) (os' := []) (by kernel_rfl) (ObsOK.cond h0 (ObsOK.cond h1 (ObsOK.nil)))
theorem f21_p2 (a : Int) (b : Int) (c : Int) (d : Int) (e : Int) (f : Int) (h0 : f21_c0 a b c d e f = false) (h1 : f21_c1 a b c d e f = false) (h2 : f21_c2 a b c d e f = true) : Gives Tryz.prog envC 0 21 [(.agg #[(.int .i64 (a)), (.int .i64 (b)), (.int .i64 (c)), (.int .i64 (d)), (.int .i64 (e)), (.int .i64 (f))])] heapN ((.int .i64 (f48_r0 c 1 20)), heapN) :=
  Gives.by (n := 1000) (os := [.br 20 30 false, .br 20 30 false, .br 20 30 true]) (os' := []) (by kernel_rfl) (ObsOK.cond h0 (ObsOK.cond h1 (ObsOK.cond h2 (ObsOK.nil))))
theorem f21_p3 (a : Int) (b : Int) (c : Int) (d : Int) (e : Int) (f : Int) (h0 : f21_c0 a b c d e f = false) (h1 : f21_c1 a b c d e f = false) (h2 : f21_c2 a b c d e f = false) (h3 : f21_c3 a b c d e f = true) : Gives Tryz.prog envC 0 21 [(.agg #[(.int .i64 (a)), (.int .i64 (b)), (.int .i64 (c)), (.int .i64 (d)), (.int .i64 (e)), (.int .i64 (f))])] heapN ((.int .i64 (f48_r0 d 1 100)), heapN) :=
  Gives.by (n := 1000) (os := [.br 20 30 false, .br 20 30 false, .br 20 30 false, .br 20 30 true]) (os' := []) (by kernel_rfl) (ObsOK.cond h0 (ObsOK.cond h1 (ObsOK.cond h2 (ObsOK.cond h3 (ObsOK.nil)))))
theorem f21_p4 (a : Int) (b : Int) (c : Int) (d : Int) (e : Int) (f : Int) (h0 : f21_c0 a b c d e f = false) (h1 : f21_c1 a b c d e f = false) (h2 : f21_c2 a b c d e f = false) (h3 : f21_c3 a b c d e f = false) (h4 : f21_c4 a b c d e f = true) : Gives Tryz.prog envC 0 21 [(.agg #[(.int .i64 (a)), (.int .i64 (b)), (.int .i64 (c)), (.int .i64 (d)), (.int .i64 (e)), (.int .i64 (f))])] heapN ((.int .i64 (f48_r0 e 1 5000)), heapN) :=
  Gives.by (n := 1000) (os := [.br 20 30 false, .br 20 30 false, .br 20 30 false, .br 20 30 false, .br 20 30 true]) (os' := []) (by kernel_rfl) (ObsOK.cond h0 (ObsOK.cond h1 (ObsOK.cond h2 (ObsOK.cond h3 (ObsOK.cond h4 (ObsOK.nil))))))
theorem f21_p5 (a : Int) (b : Int) (c : Int) (d : Int) (e : Int) (f : Int) (h0 : f21_c0 a b c d e f = false) (h1 : f21_c1 a b c d e f = false) (h2 : f21_c2 a b c d e f = false) (h3 : f21_c3 a b c d e f = false) (h4 : f21_c4 a b c d e f = false) (h5 : f21_c5 a b c d e f = true) : Gives Tryz.prog envC 0 21 [(.agg #[(.int .i64 (a)), (.int .i64 (b)), (.int .i64 (c)), (.int .i64 (d)), (.int .i64 (e)), (.int .i64 (f))])] heapN ((.int .i64 (f48_r0 f 1 100)), heapN) :=
  Gives.by (n := 1000) (os := [.br 20 30 false, .br 20 30 false, .br 20 30 false, .br 20 30 false, .br 20 30 false, .br 20 30 true]) (os' := []) (by kernel_rfl) (ObsOK.cond h0 (ObsOK.cond h1 (ObsOK.cond h2 (ObsOK.cond h3 (ObsOK.cond h4 (ObsOK.cond h5 (ObsOK.nil)))))))
theorem f21_p6 (a : Int) (b : Int) (c : Int) (d : Int) (e : Int) (f : Int) (h0 : f21_c0 a b c d e f = false) (h1 : f21_c1 a b c d e f = false) (h2 : f21_c2 a b c d e f = false) (h3 : f21_c3 a b c d e f = false) (h4 : f21_c4 a b c d e f = false) (h5 : f21_c5 a b c d e f = false) : Gives Tryz.prog envC 0 21 [(.agg #[(.int .i64 (a)), (.int .i64 (b)), (.int .i64 (c)), (.int .i64 (d)), (.int .i64 (e)), (.int .i64 (f))])] heapN ((.int .i64 (0)), heapN) :=
  Gives.by (n := 1000) (os := [.br 20 30 false, .br 20 30 false, .br 20 30 false, .br 20 30 false, .br 20 30 false, .br 20 30 false]) (os' := []) (by kernel_rfl) (ObsOK.cond h0 (ObsOK.cond h1 (ObsOK.cond h2 (ObsOK.cond h3 (ObsOK.cond h4 (ObsOK.cond h5 (ObsOK.nil)))))))
def f21_r0 (a : Int) (b : Int) (c : Int) (d : Int) (e : Int) (f : Int) : Int := (cond (f21_c0 a b c d e f) (f48_r0 a 1 50) (cond (f21_c1 a b c d e f) (f48_r0 b 0 10) (cond (f21_c2 a b c d e f) (f48_r0 c 1 20) (cond (f21_c3 a b c d e f) (f48_r0 d 1 100) (cond (f21_c4 a b c d e f) (f48_r0 e 1 5000) (cond (f21_c5 a b c d e f) (f48_r0 f 1 100) (0)))))))
theorem f21_gives (a : Int) (b : Int) (c : Int) (d : Int) (e : Int) (f : Int) : Gives Tryz.prog envC 0 21 [(.agg #[(.int .i64 (a)), (.int .i64 (b)), (.int .i64 (c)), (.int .i64 (d)), (.int .i64 (e)), (.int .i64 (f))])] heapN ((.int .i64 (f21_r0 a b c d e f)), heapN) := by
  cases g0 : f21_c0 a b c d e f
  · skip
    cases g1 : f21_c1 a b c d e f
    · skip
      cases g2 : f21_c2 a b c d e f
      · skip
        cases g3 : f21_c3 a b c d e f
        · skip
          cases g4 : f21_c4 a b c d e f
          · skip
            cases g5 : f21_c5 a b c d e f
            · skip
              simp only [f21_r0, g0, g1, g2, g3, g4, g5, cond_true, cond_false]; exact f21_p6 a b c d e f g0 g1 g2 g3 g4 g5
            · skip
              simp only [f21_r0, g0, g1, g2, g3, g4, g5, cond_true, cond_false]; exact f21_p5 a b c d e f g0 g1 g2 g3 g4 g5
          · skip
            simp only [f21_r0, g0, g1, g2, g3, g4, cond_true, cond_false]; exact f21_p4 a b c d e f g0 g1 g2 g3 g4
        · skip
          simp only [f21_r0, g0, g1, g2, g3, cond_true, cond_false]; exact f21_p3 a b c d e f g0 g1 g2 g3
      · skip
        simp only [f21_r0, g0, g1, g2, cond_true, cond_false]; exact f21_p2 a b c d e f g0 g1 g2
    · skip
      simp only [f21_r0, g0, g1, cond_true, cond_false]; exact f21_p1 a b c d e f g0 g1
  · skip
    simp only [f21_r0, g0, cond_true, cond_false]; exact f21_p0 a b c d e f g0
theorem f22_p0 (w : Int) : Gives Tryz.prog envC 0 22 [(.int .i64 (w))] heapN ((.int .i64 (f48_r0 w 1 8)), heapN) :=
  Gives.by (n := 1000) (os := []) (os' := []) (by kernel_rfl) (ObsOK.nil)
def f22_r0 (w : Int) : Int := (f48_r0 w 1 8)
theorem f22_gives (w : Int) : Gives Tryz.prog envC 0 22 [(.int .i64 (w))] heapN ((.int .i64 (f22_r0 w)), heapN) := by
  simp only [f22_r0, cond_true, cond_false]; exact f22_p0 w
def f37_c0 (a : Int) (b : Int) (c : Int) (d : Int) : Bool := f48_r0 a 1 5000 != 0
def f37_c1 (a : Int) (b : Int) (c : Int) (d : Int) : Bool := b == 0
def f37_c2 (a : Int) (b : Int) (c : Int) (d : Int) : Bool := c != 0
def f37_c3 (a : Int) (b : Int) (c : Int) (d : Int) : Bool := d != 0
def f37_c4 (a : Int) (b : Int) (c : Int) (d : Int) : Bool := f48_r0 b 1 100 != 0
def f37_c5 (a : Int) (b : Int) (c : Int) (d : Int) : Bool := f48_r0 c 0 5000 != 0
def f37_c6 (a : Int) (b : Int) (c : Int) (d : Int) : Bool := f48_r0 d 1 100 != 0
theorem f37_p0 (a : Int) (b : Int) (c : Int) (d : Int) (h0 : f37_c0 a b c d = true) : Gives Tryz.prog envC 0 37 [(.agg #[(.int .i64 (a)), (.int .i64 (b)), (.int .i64 (c)), (.int .i64 (d))])] heapN ((.int .i64 (f48_r0 a 1 5000)), heapN) :=
  Gives.by (n := 1000) (os := [.br 37 18 true]) (os' := []) (by kernel_rfl) (ObsOK.cond h0 (ObsOK.nil))
theorem f37_p1 (a : Int) (b : Int) (c : Int) (d : Int) (h0 : f37_c0 a b c d = false) (h1 : f37_c1 a b c d = true) (h2 : f37_c2 a b c d = true) : Gives Tryz.prog envC 0 37 [(.agg #[(.int .i64 (a)), (.int .i64 (b)), (.int .i64 (c)), (.int .i64 (d))])] heapN ((.int .i64 (2)), heapN) :=
  Gives.by (n := 1000) (os := [.br 37 18 false, .br 37 26 true, .br 37 34 true, .br 37 34 true, .br 37 34 true, .br 37 43 true]) (os' := []) (by kernel_rfl) (ObsOK.cond h0 (ObsOK.cond h1 (ObsOK.cond h2 (ObsOK.cond h2 (ObsOK.cond h2 (ObsOK.cond h2 (ObsOK.nil)))))))
theorem f37_p2 (a : Int) (b : Int) (c : Int) (d : Int) (h0 : f37_c0 a b c d = false) (h1 : f37_c1 a b c d = true) (h2 : f37_c2 a b c d = false) (h3 : f37_c3 a b c d = true) : Gives Tryz.prog envC 0 37 [(.agg #[(.int .i64 (a)), (.int .i64 (b)), (.int .i64 (c)), (.int .i64 (d))])] heapN ((.int .i64 (2)), heapN) :=
  Gives.by (n := 1000) (os := [.br 37 18 false, .br 37 26 true, .br 37 34 false, .br 37 34 false, .br 37 34 false, .br 37 43 false, .br 37 42 true]) (os' := []) (by kernel_rfl) (ObsOK.cond h0 (ObsOK.cond h1 (ObsOK.cond h2 (ObsOK.cond h2 (ObsOK.cond h2 (ObsOK.cond h2 (ObsOK.cond h3 (ObsOK.nil))))))))
theorem f37_p3 (a : Int) (b : Int) (c : Int) (d : Int) (h0 : f37_c0 a b c d = false) (h1 : f37_c1 a b c d = true) (h2 : f37_c2 a b c d = false) (h3 : f37_c3 a b c d = false) : Gives Tryz.prog envC 0 37 [(.agg #[(.int .i64 (a)), (.int .i64 (b)), (.int .i64 (c)), (.int .i64 (d))])] heapN ((.int .i64 (0)), heapN) :=
  Gives.by (n := 1000) (os := [.br 37 18 false, .br 37 26 true, .br 37 34 false, .br 37 34 false, .br 37 34 false, .br 37 43 false, .br 37 42 false]) (os' := []) (by kernel_rfl) (ObsOK.cond h0 (ObsOK.cond h1 (ObsOK.cond h2 (ObsOK.cond h2 (ObsOK.cond h2 (ObsOK.cond h2 (ObsOK.cond h3 (ObsOK.nil))))))))
theorem f37_p4 (a : Int) (b : Int) (c : Int) (d : Int) (h0 : f37_c0 a b c d = false) (h1 : f37_c1 a b c d = false) (h2 : f37_c4 a b c d = true) : Gives Tryz.prog envC 0 37 [(.agg #[(.int .i64 (a)), (.int .i64 (b)), (.int .i64 (c)), (.int .i64 (d))])] heapN ((.int .i64 (f48_r0 b 1 100)), heapN) :=
  Gives.by (n := 1000) (os := [.br 37 18 false, .br 37 26 false, .br 20 30 true]) (os' := []) (by kernel_rfl) (ObsOK.cond h0 (ObsOK.cond h1 (ObsOK.cond h2 (ObsOK.nil))))
theorem f37_p5 (a : Int) (b : Int) (c : Int) (d : Int) (h0 : f37_c0 a b c d = false) (h1 : f37_c1 a b c d = false) (h2 : f37_c4 a b c d = false) (h3 : f37_c5 a b c d = true) : Gives Tryz.prog envC 0 37 [(.agg #[(.int .i64 (a)), (.int .i64 (b)), (.int .i64 (c)), (.int .i64 (d))])] heapN ((.int .i64 (f48_r0 c 0 5000)), heapN) :=
  Gives.by (n := 1000) (os := [.br 37 18 false, .br 37 26 false, .br 20 30 false, .br 20 30 true]) (os' := []) (by kernel_rfl) (ObsOK.cond h0 (ObsOK.cond h1 (ObsOK.cond h2 (ObsOK.cond h3 (ObsOK.nil)))))
theorem f37_p6 (a : Int) (b : Int) (c : Int) (d : Int) (h0 : f37_c0 a b c d = false) (h1 : f37_c1 a b c d = false) (h2 : f37_c4 a b c d = false) (h3 : f37_c5 a b c d = false) (h4 : f37_c6 a b c d = true) : Gives Tryz.prog envC 0 37 [(.agg #[(.int .i64 (a)), (.int .i64 (b)), (.int .i64 (c)), (.int .i64 (d))])] heapN ((.int .i64 (f48_r0 d 1 100)), heapN) :=
  Gives.by (n := 1000) (os := [.br 37 18 false, .br 37 26 false, .br 20 30 false, .br 20 30 false, .br 20 30 true]) (os' := []) (by kernel_rfl) (ObsOK.cond h0 (ObsOK.cond h1 (ObsOK.cond h2 (ObsOK.cond h3 (ObsOK.cond h4 (ObsOK.nil))))))
theorem f37_p7 (a : Int) (b : Int) (c : Int) (d : Int) (h0 : f37_c0 a b c d = false) (h1 : f37_c1 a b c d = false) (h2 : f37_c4 a b c d = false) (h3 : f37_c5 a b c d = false) (h4 : f37_c6 a b c d = false) : Gives Tryz.prog envC 0 37 [(.agg #[(.int .i64 (a)), (.int .i64 (b)), (.int .i64 (c)), (.int .i64 (d))])] heapN ((.int .i64 (0)), heapN) :=
  Gives.by (n := 1000) (os := [.br 37 18 false, .br 37 26 false, .br 20 30 false, .br 20 30 false, .br 20 30 false]) (os' := []) (by kernel_rfl) (ObsOK.cond h0 (ObsOK.cond h1 (ObsOK.cond h2 (ObsOK.cond h3 (ObsOK.cond h4 (ObsOK.nil))))))
def f37_r0 (a : Int) (b : Int) (c : Int) (d : Int) : Int := (cond (f37_c0 a b c d) (f48_r0 a 1 5000) (cond (f37_c1 a b c d) (cond (f37_c2 a b c d) (2) (cond (f37_c3 a b c d) (2) (0))) (cond (f37_c4 a b c d) (f48_r0 b 1 100) (cond (f37_c5 a b c d) (f48_r0 c 0 5000) (cond (f37_c6 a b c d) (f48_r0 d 1 100) (0))))))
theorem f37_gives (a : Int) (b : Int) (c : Int) (d : Int) : Gives Tryz.prog envC 0 37 [(.agg #[(.int .i64 (a)), (.int .i64 (b)), (.int .i64 (c)), (.int .i64 (d))])] heapN ((.int .i64 (f37_r0 a b c d)), heapN) := by
  cases g0 : f37_c0 a b c d
  · skip
    cases g1 : f37_c1 a b c d
    · skip
      cases g4 : f37_c4 a b c d
      · skip
        cases g5 : f37_c5 a b c d
        · skip
          cases g6 : f37_c6 a b c d
          · skip
            simp only [f37_r0, g0, g1, g4, g5, g6, cond_true, cond_false]; exact f37_p7 a b c d g0 g1 g4 g5 g6
          · skip
            simp only [f37_r0, g0, g1, g4, g5, g6, cond_true, cond_false]; exact f37_p6 a b c d g0 g1 g4 g5 g6
        · skip
          simp only [f37_r0, g0, g1, g4, g5, cond_true, cond_false]; exact f37_p5 a b c d g0 g1 g4 g5
      · skip
        simp only [f37_r0, g0, g1, g4, cond_true, cond_false]; exact f37_p4 a b c d g0 g1 g4
    · skip
      cases g2 : f37_c2 a b c d
      · skip
        cases g3 : f37_c3 a b c d
        · skip
          simp only [f37_r0, g0, g1, g2, g3, cond_true, cond_false]; exact f37_p3 a b c d g0 g1 g2 g3
        · skip
          simp only [f37_r0, g0, g1, g2, g3, cond_true, cond_false]; exact f37_p2 a b c d g0 g1 g2 g3
      · skip
        simp only [f37_r0, g0, g1, g2, cond_true, cond_false]; exact f37_p1 a b c d g0 g1 g2
  · skip
    simp only [f37_r0, g0, cond_true, cond_false]; exact f37_p0 a b c d g0
def B_envD (f : FuncId) (args : List Value) : Option (Heap × Value) :=
  if f == 143 then
    match args with
    | [(.int .i64 (w))] => some (heapN, (.int .i64 (f143_r0 w)))
    | _ => none
  else  if f == 112 then
    match args with
    | [(.agg ⟨[(.int .i64 (a)), (.int .i64 (b)), (.int .i64 (c)), (.int .i64 (d))]⟩)] => some (heapN, (.int .i64 (f112_r0 a b c d)))
    | _ => none
  else  if f == 27 then
    match args with
    | [(.agg ⟨[(.int .i64 (a)), (.int .i64 (b)), (.int .i64 (c)), (.int .i64 (d)), (.int .i64 (e)), (.int .i64 (f))]⟩)] => some (heap0, (.int .i64 (f27_r0 a b c d e f)))
    | _ => none
  else  if f == 21 then
    match args with
    | [(.agg ⟨[(.int .i64 (a)), (.int .i64 (b)), (.int .i64 (c)), (.int .i64 (d)), (.int .i64 (e)), (.int .i64 (f))]⟩)] => some (heapN, (.int .i64 (f21_r0 a b c d e f)))
    | _ => none
  else  if f == 22 then
    match args with
    | [(.int .i64 (w))] => some (heapN, (.int .i64 (f22_r0 w)))
    | _ => none
  else  if f == 37 then
    match args with
    | [(.agg ⟨[(.int .i64 (a)), (.int .i64 (b)), (.int .i64 (c)), (.int .i64 (d))]⟩)] => some (heapN, (.int .i64 (f37_r0 a b c d)))
    | _ => none
  else none
noncomputable def envD : Env := envC.with (baseKnown B_envD)
theorem envD_ok : EnvOK Tryz.prog 9 envD := env_base prog_ok envC_ok fun f args H v h => by
  unfold B_envD at h
  split at h
  · rename_i hf
    have hf : f = 143 := by simpa using hf
    subst hf
    split at h
    · cases h; exact heapN_ok (f143_gives _)
    · cases h
  · skip
    split at h
    · rename_i hf
      have hf : f = 112 := by simpa using hf
      subst hf
      split at h
      · cases h; exact heapN_ok (f112_gives _ _ _ _)
      · cases h
    · skip
      split at h
      · rename_i hf
        have hf : f = 27 := by simpa using hf
        subst hf
        split at h
        · cases h; exact heap0_ok (f27_gives _ _ _ _ _ _)
        · cases h
      · skip
        split at h
        · rename_i hf
          have hf : f = 21 := by simpa using hf
          subst hf
          split at h
          · cases h; exact heapN_ok (f21_gives _ _ _ _ _ _)
          · cases h
        · skip
          split at h
          · rename_i hf
            have hf : f = 22 := by simpa using hf
            subst hf
            split at h
            · cases h; exact heapN_ok (f22_gives _)
            · cases h
          · skip
            split at h
            · rename_i hf
              have hf : f = 37 := by simpa using hf
              subst hf
              split at h
              · cases h; exact heapN_ok (f37_gives _ _ _ _)
              · cases h
            · skip
              cases h
end Go.Proofs.YtkndhhnjgpialaaGreatDoor
/-
What functions give.
-/
namespace Go.Proofs.YtkndhhnjgpialaaGreatDoor
open Go Go.Abs
def f42_c0 (a : Int) (b : Int) (c : Int) (d : Int) : Bool := f111_r0 a 1 5000 != 0
def f42_c1 (a : Int) (b : Int) (c : Int) (d : Int) : Bool := f112_r0 a b c d != 0
theorem f42_p0 (a : Int) (b : Int) (c : Int) (d : Int) (h0 : f42_c0 a b c d = true) : Gives Tryz.prog envD 0 42 [(.agg #[(.int .i64 (a)), (.int .i64 (b)), (.int .i64 (c)), (.int .i64 (d))])] heapN ((.int .i64 (f111_r0 a 1 5000)), heapN) :=
  Gives.by (n := 1000) (os := [.br 105 26 true]) (os' := []) (by kernel_rfl) (ObsOK.cond h0 (ObsOK.nil))
theorem f42_p1 (a : Int) (b : Int) (c : Int) (d : Int) (h0 : f42_c0 a b c d = false) (h1 : f42_c1 a b c d = true) : Gives Tryz.prog envD 0 42 [(.agg #[(.int .i64 (a)), (.int .i64 (b)), (.int .i64 (c)), (.int .i64 (d))])] heapN ((.int .i64 (f112_r0 a b c d)), heapN) :=
  Gives.by (n := 1000) (os := [.br 105 26 false, .br 105 26 true]) (os' := []) (by kernel_rfl) (ObsOK.cond h0 (ObsOK.cond h1 (ObsOK.nil)))
theorem f42_p2 (a : Int) (b : Int) (c : Int) (d : Int) (h0 : f42_c0 a b c d = false) (h1 : f42_c1 a b c d = false) : Gives Tryz.prog envD 0 42 [(.agg #[(.int .i64 (a)), (.int .i64 (b)), (.int .i64 (c)), (.int .i64 (d))])] heapN ((.int .i64 (0)), heapN) :=
  Gives.by (n := 1000) (os := [.br 105 26 false, .br 105 26 false]) (os' := []) (by kernel_rfl) (ObsOK.cond h0 (ObsOK.cond h1 (ObsOK.nil)))
def f42_r0 (a : Int) (b : Int) (c : Int) (d : Int) : Int := (cond (f42_c0 a b c d) (f111_r0 a 1 5000) (cond (f42_c1 a b c d) (f112_r0 a b c d) (0)))
theorem f42_gives (a : Int) (b : Int) (c : Int) (d : Int) : Gives Tryz.prog envD 0 42 [(.agg #[(.int .i64 (a)), (.int .i64 (b)), (.int .i64 (c)), (.int .i64 (d))])] heapN ((.int .i64 (f42_r0 a b c d)), heapN) := by
  cases g0 : f42_c0 a b c d
  · skip
    cases g1 : f42_c1 a b c d
    · skip
      simp only [f42_r0, g0, g1, cond_true, cond_false]; exact f42_p2 a b c d g0 g1
    · skip
      simp only [f42_r0, g0, g1, cond_true, cond_false]; exact f42_p1 a b c d g0 g1
  · skip
    simp only [f42_r0, g0, cond_true, cond_false]; exact f42_p0 a b c d g0
def B_envE (f : FuncId) (args : List Value) : Option (Heap × Value) :=
  if f == 42 then
    match args with
    | [(.agg ⟨[(.int .i64 (a)), (.int .i64 (b)), (.int .i64 (c)), (.int .i64 (d))]⟩)] => some (heapN, (.int .i64 (f42_r0 a b c d)))
    | _ => none
  else none
noncomputable def envE : Env := envD.with (baseKnown B_envE)
theorem envE_ok : EnvOK Tryz.prog 9 envE := env_base prog_ok envD_ok fun f args H v h => by
  unfold B_envE at h
  split at h
  · rename_i hf
    have hf : f = 42 := by simpa using hf
    subst hf
    split at h
    · cases h; exact heapN_ok (f42_gives _ _ _ _)
    · cases h
  · skip
    cases h
end Go.Proofs.YtkndhhnjgpialaaGreatDoor
/-
Which drivers, frequencies and boxes are valid, said once for the program and for the reference.
-/
namespace Go.Proofs.YtkndhhnjgpialaaGreatDoor
open Go Go.Abs
theorem cond_dec {α : Type} (p : Prop) [Decidable p] (a b : α) : cond (decide p) a b = if p then a else b := by
  by_cases h : p <;> simp [h]
theorem cond_not {α : Type} (c : Bool) (a b : α) : cond (!c) a b = cond c b a := by cases c <;> rfl
theorem f48_eq (x l m : Int) : f48_r0 x l m = if l ≤ x ∧ x ≤ m then 0 else 3 := by
  unfold f48_r0 f48_c0 f48_c1
  simp only [cond_dec]
  by_cases h1 : x < l
  · rw [if_pos h1, if_neg (by omega)]
  · rw [if_neg h1]
    by_cases h2 : x > m
    · rw [if_pos h2, if_neg (by omega)]
    · rw [if_neg h2, if_pos (by omega)]
theorem f140_eq (x l m : Int) : f140_r0 x l m = decide (l ≤ x ∧ x ≤ m) := by
  unfold f140_r0 f140_c0
  rw [cond_dec, Bool.eq_iff_iff, decide_eq_true_iff]
  split <;> simp <;> omega
theorem f93_eq (p : Bool) (e : Int) : f93_r0 p e = cond p e 0 := rfl
theorem f111_eq (x l m : Int) : f111_r0 x l m = if l ≤ x ∧ x ≤ m then 0 else 3 := by
  unfold f111_r0
  rw [f93_eq, f140_eq, cond_not, cond_dec]
def okD (a b c d e f : Int) : Bool := decide (1 ≤ a ∧ a ≤ 50 ∧ 0 ≤ b ∧ b ≤ 10 ∧ 1 ≤ c ∧ c ≤ 20 ∧ 1 ≤ d ∧ d ≤ 100 ∧ 1 ≤ e ∧ e ≤ 5000 ∧ 1 ≤ f ∧ f ≤ 100)
def dErr (a b c d e f : Int) : Int := cond (okD a b c d e f) 0 3
def okW (w : Int) : Bool := decide (1 ≤ w ∧ w ≤ 8)
def wErr (w : Int) : Int := cond (okW w) 0 3
/-- The error of a box. -/
def bErr (a b c d : Int) : Int := if 1 ≤ a ∧ a ≤ 5000 then if b = 0 then (if c = 0 ∧ d = 0 then 0 else 2) else if 1 ≤ b ∧ b ≤ 100 ∧ 0 ≤ c ∧ c ≤ 5000 ∧ 1 ≤ d ∧ d ≤ 100 then 0 else 3 else 3
theorem f143_eq (w : Int) : f143_r0 w = wErr w := by
  unfold f143_r0 wErr okW
  rw [f111_eq, cond_dec]
theorem f22_eq (w : Int) : f22_r0 w = wErr w := by
  unfold f22_r0 wErr okW
  rw [f48_eq, cond_dec]
theorem clip_eq (x l m : Int) (h : l ≤ m) : ((if m < (if l > x then l else x) then m else (if l > x then l else x)) == x) = decide (l ≤ x ∧ x ≤ m) := by
  rw [Bool.eq_iff_iff, beq_iff_eq, decide_eq_true_iff]
  split <;> split <;> omega
theorem f27_eq (a b c d e f : Int) : f27_r0 a b c d e f = dErr a b c d e f := by
  unfold f27_r0 dErr okD
  rw [clip_eq a 1 50 (by omega), clip_eq b 0 10 (by omega), clip_eq c 1 20 (by omega), clip_eq d 1 100 (by omega), clip_eq e 1 5000 (by omega), clip_eq f 1 100 (by omega)]
  rw [f93_eq, cond_not]
  congr 1
  rw [Bool.eq_iff_iff]
  simp only [Bool.and_eq_true, decide_eq_true_eq, and_true]
  omega
theorem nz (p : Prop) [Decidable p] : ((if p then (0 : Int) else 3) != 0) = decide ¬p := by by_cases h : p <;> simp [h]
theorem f21_eq (a b c d e f : Int) : f21_r0 a b c d e f = dErr a b c d e f := by
  unfold f21_r0 f21_c0 f21_c1 f21_c2 f21_c3 f21_c4 f21_c5 dErr okD
  simp only [f48_eq, nz, cond_dec]
  by_cases h1 : 1 ≤ a ∧ a ≤ 50
  case neg => rw [if_pos h1, if_neg h1, if_neg (by omega)]
  rw [if_neg (fun h => h h1)]
  by_cases h2 : 0 ≤ b ∧ b ≤ 10
  case neg => rw [if_pos h2, if_neg h2, if_neg (by omega)]
  rw [if_neg (fun h => h h2)]
  by_cases h3 : 1 ≤ c ∧ c ≤ 20
  case neg => rw [if_pos h3, if_neg h3, if_neg (by omega)]
  rw [if_neg (fun h => h h3)]
  by_cases h4 : 1 ≤ d ∧ d ≤ 100
  case neg => rw [if_pos h4, if_neg h4, if_neg (by omega)]
  rw [if_neg (fun h => h h4)]
  by_cases h5 : 1 ≤ e ∧ e ≤ 5000
  case neg => rw [if_pos h5, if_neg h5, if_neg (by omega)]
  rw [if_neg (fun h => h h5)]
  by_cases h6 : 1 ≤ f ∧ f ≤ 100
  case neg => rw [if_pos h6, if_neg h6, if_neg (by omega)]
  rw [if_neg (fun h => h h6), if_pos (by omega)]
theorem bne_eq {α : Type} (x : Int) (a b : α) : cond (x != 0) a b = if x = 0 then b else a := by
  by_cases h : x = 0
  · simp [h]
  · rw [if_neg h, show (x != 0) = true by simpa using h, cond_true]
theorem f112_eq (a b c d : Int) : f112_r0 a b c d = if b = 0 then (if c = 0 ∧ d = 0 then 0 else 2) else if 1 ≤ b ∧ b ≤ 100 ∧ 0 ≤ c ∧ c ≤ 5000 ∧ 1 ≤ d ∧ d ≤ 100 then 0 else 3 := by
  unfold f112_r0 f112_c0 f112_c1 f112_c2 f112_c3 f112_c4
  simp only [f111_eq, nz, cond_dec, f93_eq]
  by_cases h0 : b = 0
  · subst h0
    by_cases h1 : c = 0 <;> by_cases h2 : d = 0 <;> simp [h1, h2, bne_eq]
  · rw [if_neg h0]
    have : (!b != 0) = false := by simp [h0]
    rw [this, cond_false]
    by_cases h4 : 1 ≤ b ∧ b ≤ 100
    case neg => rw [if_pos h4, if_neg h4, if_neg (by omega)]
    rw [if_neg (fun h => h h4)]
    by_cases h5 : 0 ≤ c ∧ c ≤ 5000
    case neg => rw [if_pos h5, if_neg h5, if_neg (by omega)]
    rw [if_neg (fun h => h h5)]
    by_cases h6 : 1 ≤ d ∧ d ≤ 100
    case neg => rw [if_pos h6, if_neg h6, if_neg (by omega)]
    rw [if_neg (fun h => h h6), if_pos (by omega)]
theorem f42_eq (a b c d : Int) : f42_r0 a b c d = bErr a b c d := by
  unfold f42_r0 f42_c0 f42_c1 bErr
  simp only [f111_eq, nz, cond_dec, f112_eq]
  by_cases h1 : 1 ≤ a ∧ a ≤ 5000
  case neg => rw [if_pos h1, if_neg h1, if_neg h1]
  rw [if_neg (fun h => h h1), if_pos h1]
  generalize (if b = 0 then (if c = 0 ∧ d = 0 then (0 : Int) else 2) else if 1 ≤ b ∧ b ≤ 100 ∧ 0 ≤ c ∧ c ≤ 5000 ∧ 1 ≤ d ∧ d ≤ 100 then 0 else 3) = x
  cases h : x != 0 <;> simp_all
theorem f37_eq (a b c d : Int) : f37_r0 a b c d = bErr a b c d := by
  unfold f37_r0 f37_c0 f37_c1 f37_c2 f37_c3 f37_c4 f37_c5 f37_c6 bErr
  simp only [f48_eq, nz, cond_dec]
  by_cases h1 : 1 ≤ a ∧ a ≤ 5000
  case neg => rw [if_pos h1, if_neg h1, if_neg h1]
  rw [if_neg (fun h => h h1), if_pos h1]
  by_cases h0 : b = 0
  · subst h0
    by_cases h1 : c = 0 <;> by_cases h2 : d = 0 <;> simp [h1, h2, bne_eq]
  · rw [if_neg h0]
    have : (b == 0) = false := by simp [h0]
    rw [this, cond_false]
    by_cases h4 : 1 ≤ b ∧ b ≤ 100
    case neg => rw [if_pos h4, if_neg h4, if_neg (by omega)]
    rw [if_neg (fun h => h h4)]
    by_cases h5 : 0 ≤ c ∧ c ≤ 5000
    case neg => rw [if_pos h5, if_neg h5, if_neg (by omega)]
    rw [if_neg (fun h => h h5)]
    by_cases h6 : 1 ≤ d ∧ d ≤ 100
    case neg => rw [if_pos h6, if_neg h6, if_neg (by omega)]
    rw [if_neg (fun h => h h6), if_pos (by omega)]
theorem g27 (a b c d e f : Int) : Gives Tryz.prog envE 0 27 [.agg #[.int .i64 a, .int .i64 b, .int .i64 c, .int .i64 d, .int .i64 e, .int .i64 f]] heap0 (.int .i64 (dErr a b c d e f), heap0) := ⟨1, by rw [← f27_eq]; kernel_rfl⟩
theorem g21 (a b c d e f : Int) : Gives Tryz.prog envE 0 21 [.agg #[.int .i64 a, .int .i64 b, .int .i64 c, .int .i64 d, .int .i64 e, .int .i64 f]] heapN (.int .i64 (dErr a b c d e f), heapN) := ⟨1, by rw [← f21_eq]; kernel_rfl⟩
theorem g143 (w : Int) : Gives Tryz.prog envE 0 143 [.int .i64 w] heapN (.int .i64 (wErr w), heapN) := ⟨1, by rw [← f143_eq]; kernel_rfl⟩
theorem g22 (w : Int) : Gives Tryz.prog envE 0 22 [.int .i64 w] heapN (.int .i64 (wErr w), heapN) := ⟨1, by rw [← f22_eq]; kernel_rfl⟩
theorem g42 (a b c d : Int) : Gives Tryz.prog envE 0 42 [.agg #[.int .i64 a, .int .i64 b, .int .i64 c, .int .i64 d]] heapN (.int .i64 (bErr a b c d), heapN) := ⟨1, by rw [← f42_eq]; kernel_rfl⟩
theorem g37 (a b c d : Int) : Gives Tryz.prog envE 0 37 [.agg #[.int .i64 a, .int .i64 b, .int .i64 c, .int .i64 d]] heapN (.int .i64 (bErr a b c d), heapN) := ⟨1, by rw [← f37_eq]; kernel_rfl⟩
def B_envF (f : FuncId) (args : List Value) : Option (Heap × Value) :=
  if f == 27 then
    match args with
    | [.agg ⟨[.int .i64 a, .int .i64 b, .int .i64 c, .int .i64 d, .int .i64 e, .int .i64 f]⟩] => some (heap0, .int .i64 (dErr a b c d e f))
    | _ => none
  else  if f == 21 then
    match args with
    | [.agg ⟨[.int .i64 a, .int .i64 b, .int .i64 c, .int .i64 d, .int .i64 e, .int .i64 f]⟩] => some (heapN, .int .i64 (dErr a b c d e f))
    | _ => none
  else  if f == 143 then
    match args with
    | [.int .i64 w] => some (heapN, .int .i64 (wErr w))
    | _ => none
  else  if f == 22 then
    match args with
    | [.int .i64 w] => some (heapN, .int .i64 (wErr w))
    | _ => none
  else  if f == 42 then
    match args with
    | [.agg ⟨[.int .i64 a, .int .i64 b, .int .i64 c, .int .i64 d]⟩] => some (heapN, .int .i64 (bErr a b c d))
    | _ => none
  else  if f == 37 then
    match args with
    | [.agg ⟨[.int .i64 a, .int .i64 b, .int .i64 c, .int .i64 d]⟩] => some (heapN, .int .i64 (bErr a b c d))
    | _ => none
  else none
noncomputable def envF : Env := envE.with (baseKnown B_envF)
theorem envF_ok : EnvOK Tryz.prog 9 envF := env_base prog_ok envE_ok fun f args H v h => by
  unfold B_envF at h
  split at h
  · rename_i hf
    have hf : f = 27 := by simpa using hf
    subst hf
    split at h
    · cases h; exact heap0_ok (g27 _ _ _ _ _ _)
    · cases h
  · skip
    split at h
    · rename_i hf
      have hf : f = 21 := by simpa using hf
      subst hf
      split at h
      · cases h; exact heapN_ok (g21 _ _ _ _ _ _)
      · cases h
    · skip
      split at h
      · rename_i hf
        have hf : f = 143 := by simpa using hf
        subst hf
        split at h
        · cases h; exact heapN_ok (g143 _)
        · cases h
      · skip
        split at h
        · rename_i hf
          have hf : f = 22 := by simpa using hf
          subst hf
          split at h
          · cases h; exact heapN_ok (g22 _)
          · cases h
        · skip
          split at h
          · rename_i hf
            have hf : f = 42 := by simpa using hf
            subst hf
            split at h
            · cases h; exact heapN_ok (g42 _ _ _ _)
            · cases h
          · skip
            split at h
            · rename_i hf
              have hf : f = 37 := by simpa using hf
              subst hf
              split at h
              · cases h; exact heapN_ok (g37 _ _ _ _)
              · cases h
            · skip
              cases h
end Go.Proofs.YtkndhhnjgpialaaGreatDoor
/-
What functions give.
-/
namespace Go.Proofs.YtkndhhnjgpialaaGreatDoor
open Go Go.Abs
theorem f177_p0 (a : Int) (b : Int) (c : Int) (d : Int) : Gives Tryz.prog envF 0 177 [(.agg #[(.int .i64 (a)), (.int .i64 (b))]), (.agg #[(.int .i64 (c)), (.int .i64 (d))])] heapN ((.agg #[(.int .i64 (IntKind.i64.wrap (IntKind.i64.wrap (a * c) - IntKind.i64.wrap (b * d)))), (.int .i64 (IntKind.i64.wrap (IntKind.i64.wrap (a * d) + IntKind.i64.wrap (b * c))))]), heapN) :=
  Gives.by (n := 1000) (os := []) (os' := []) (by kernel_rfl) (ObsOK.nil)
def f177_r0 (a : Int) (b : Int) (c : Int) (d : Int) : Int := (IntKind.i64.wrap (IntKind.i64.wrap (a * c) - IntKind.i64.wrap (b * d)))
def f177_r1 (a : Int) (b : Int) (c : Int) (d : Int) : Int := (IntKind.i64.wrap (IntKind.i64.wrap (a * d) + IntKind.i64.wrap (b * c)))
theorem f177_gives (a : Int) (b : Int) (c : Int) (d : Int) : Gives Tryz.prog envF 0 177 [(.agg #[(.int .i64 (a)), (.int .i64 (b))]), (.agg #[(.int .i64 (c)), (.int .i64 (d))])] heapN ((.agg #[(.int .i64 (f177_r0 a b c d)), (.int .i64 (f177_r1 a b c d))]), heapN) := by
  simp only [f177_r0, f177_r1, cond_true, cond_false]; exact f177_p0 a b c d
theorem f82_p0 (a : Int) (b : Int) (c : Int) (d : Int) : Gives Tryz.prog envF 0 82 [(.agg #[(.int .i64 (a)), (.int .i64 (b))]), (.agg #[(.int .i64 (c)), (.int .i64 (d))])] heapN ((.agg #[(.int .i64 (IntKind.i64.wrap (IntKind.i64.wrap (a * c) - IntKind.i64.wrap (b * d)))), (.int .i64 (IntKind.i64.wrap (IntKind.i64.wrap (a * d) + IntKind.i64.wrap (b * c))))]), heapN) :=
  Gives.by (n := 1000) (os := []) (os' := []) (by kernel_rfl) (ObsOK.nil)
def f82_r0 (a : Int) (b : Int) (c : Int) (d : Int) : Int := (IntKind.i64.wrap (IntKind.i64.wrap (a * c) - IntKind.i64.wrap (b * d)))
def f82_r1 (a : Int) (b : Int) (c : Int) (d : Int) : Int := (IntKind.i64.wrap (IntKind.i64.wrap (a * d) + IntKind.i64.wrap (b * c)))
theorem f82_gives (a : Int) (b : Int) (c : Int) (d : Int) : Gives Tryz.prog envF 0 82 [(.agg #[(.int .i64 (a)), (.int .i64 (b))]), (.agg #[(.int .i64 (c)), (.int .i64 (d))])] heapN ((.agg #[(.int .i64 (f82_r0 a b c d)), (.int .i64 (f82_r1 a b c d))]), heapN) := by
  simp only [f82_r0, f82_r1, cond_true, cond_false]; exact f82_p0 a b c d
theorem f151_p0 (a : Int) (b : Int) (c : Int) (d : Int) : Gives Tryz.prog envF 0 151 [(.agg #[(.int .i64 (a)), (.int .i64 (b))]), (.agg #[(.int .i64 (c)), (.int .i64 (d))])] heapN ((.agg #[(.int .i64 (IntKind.i64.wrap (a + c))), (.int .i64 (IntKind.i64.wrap (b + d)))]), heapN) :=
  Gives.by (n := 1000) (os := []) (os' := []) (by kernel_rfl) (ObsOK.nil)
def f151_r0 (a : Int) (b : Int) (c : Int) (d : Int) : Int := (IntKind.i64.wrap (a + c))
def f151_r1 (a : Int) (b : Int) (c : Int) (d : Int) : Int := (IntKind.i64.wrap (b + d))
theorem f151_gives (a : Int) (b : Int) (c : Int) (d : Int) : Gives Tryz.prog envF 0 151 [(.agg #[(.int .i64 (a)), (.int .i64 (b))]), (.agg #[(.int .i64 (c)), (.int .i64 (d))])] heapN ((.agg #[(.int .i64 (f151_r0 a b c d)), (.int .i64 (f151_r1 a b c d))]), heapN) := by
  simp only [f151_r0, f151_r1, cond_true, cond_false]; exact f151_p0 a b c d
theorem f152_p0 (a : Int) (b : Int) (c : Int) (d : Int) : Gives Tryz.prog envF 0 152 [(.agg #[(.int .i64 (a)), (.int .i64 (b))]), (.agg #[(.int .i64 (c)), (.int .i64 (d))])] heapN ((.agg #[(.int .i64 (IntKind.i64.wrap (a + c))), (.int .i64 (IntKind.i64.wrap (b + d)))]), heapN) :=
  Gives.by (n := 1000) (os := []) (os' := []) (by kernel_rfl) (ObsOK.nil)
def f152_r0 (a : Int) (b : Int) (c : Int) (d : Int) : Int := (IntKind.i64.wrap (a + c))
def f152_r1 (a : Int) (b : Int) (c : Int) (d : Int) : Int := (IntKind.i64.wrap (b + d))
theorem f152_gives (a : Int) (b : Int) (c : Int) (d : Int) : Gives Tryz.prog envF 0 152 [(.agg #[(.int .i64 (a)), (.int .i64 (b))]), (.agg #[(.int .i64 (c)), (.int .i64 (d))])] heapN ((.agg #[(.int .i64 (f152_r0 a b c d)), (.int .i64 (f152_r1 a b c d))]), heapN) := by
  simp only [f152_r0, f152_r1, cond_true, cond_false]; exact f152_p0 a b c d
theorem f86_p0 (a : Int) (b : Int) (c : Int) (d : Int) : Gives Tryz.prog envF 0 86 [(.agg #[(.int .i64 (a)), (.int .i64 (b))]), (.agg #[(.int .i64 (c)), (.int .i64 (d))])] heapN ((.agg #[(.int .i64 (IntKind.i64.wrap (a - c))), (.int .i64 (IntKind.i64.wrap (b - d)))]), heapN) :=
  Gives.by (n := 1000) (os := []) (os' := []) (by kernel_rfl) (ObsOK.nil)
def f86_r0 (a : Int) (b : Int) (c : Int) (d : Int) : Int := (IntKind.i64.wrap (a - c))
def f86_r1 (a : Int) (b : Int) (c : Int) (d : Int) : Int := (IntKind.i64.wrap (b - d))
theorem f86_gives (a : Int) (b : Int) (c : Int) (d : Int) : Gives Tryz.prog envF 0 86 [(.agg #[(.int .i64 (a)), (.int .i64 (b))]), (.agg #[(.int .i64 (c)), (.int .i64 (d))])] heapN ((.agg #[(.int .i64 (f86_r0 a b c d)), (.int .i64 (f86_r1 a b c d))]), heapN) := by
  simp only [f86_r0, f86_r1, cond_true, cond_false]; exact f86_p0 a b c d
theorem f83_p0 (a : Int) (b : Int) : Gives Tryz.prog envF 0 83 [(.agg #[(.int .i64 (a)), (.int .i64 (b))])] heapN ((.agg #[(.int .i64 a), (.int .i64 (IntKind.i64.wrap (0 - b)))]), heapN) :=
  Gives.by (n := 1000) (os := []) (os' := []) (by kernel_rfl) (ObsOK.nil)
def f83_r1 (a : Int) (b : Int) : Int := (IntKind.i64.wrap (0 - b))
theorem f83_gives (a : Int) (b : Int) : Gives Tryz.prog envF 0 83 [(.agg #[(.int .i64 (a)), (.int .i64 (b))])] heapN ((.agg #[(.int .i64 (a)), (.int .i64 (f83_r1 a b))]), heapN) := by
  simp only [f83_r1, cond_true, cond_false]; exact f83_p0 a b
theorem f84_p0 (a : Int) (b : Int) : Gives Tryz.prog envF 0 84 [(.agg #[(.int .i64 (a)), (.int .i64 (b))])] heapN ((.int .i64 (IntKind.i64.wrap (IntKind.i64.wrap (a * a) + IntKind.i64.wrap (b * b)))), heapN) :=
  Gives.by (n := 1000) (os := []) (os' := []) (by kernel_rfl) (ObsOK.nil)
def f84_r0 (a : Int) (b : Int) : Int := (IntKind.i64.wrap (IntKind.i64.wrap (a * a) + IntKind.i64.wrap (b * b)))
theorem f84_gives (a : Int) (b : Int) : Gives Tryz.prog envF 0 84 [(.agg #[(.int .i64 (a)), (.int .i64 (b))])] heapN ((.int .i64 (f84_r0 a b)), heapN) := by
  simp only [f84_r0, cond_true, cond_false]; exact f84_p0 a b
theorem f160_p0 (a : Int) (b : Int) : Gives Tryz.prog envF 0 160 [(.agg #[(.int .i64 (a)), (.int .i64 (b))])] heapN ((.int .i64 (IntKind.i64.wrap (IntKind.i64.wrap (a * a) + IntKind.i64.wrap (b * b)))), heapN) :=
  Gives.by (n := 1000) (os := []) (os' := []) (by kernel_rfl) (ObsOK.nil)
def f160_r0 (a : Int) (b : Int) : Int := (IntKind.i64.wrap (IntKind.i64.wrap (a * a) + IntKind.i64.wrap (b * b)))
theorem f160_gives (a : Int) (b : Int) : Gives Tryz.prog envF 0 160 [(.agg #[(.int .i64 (a)), (.int .i64 (b))])] heapN ((.int .i64 (f160_r0 a b)), heapN) := by
  simp only [f160_r0, cond_true, cond_false]; exact f160_p0 a b
theorem f149_p0 (a : Int) (b : Int) (c : Int) (w : Int) : Gives Tryz.prog envF 0 149 [(.int .i64 (a)), (.int .i64 (b)), (.int .i64 (c)), (.int .i64 (w))] heapN ((.agg #[(.int .i64 (IntKind.i64.wrap (a - IntKind.i64.wrap (IntKind.i64.wrap (w * w) * b)))), (.int .i64 (IntKind.i64.wrap (w * c)))]), heapN) :=
  Gives.by (n := 1000) (os := []) (os' := []) (by kernel_rfl) (ObsOK.nil)
def f149_r0 (a : Int) (b : Int) (c : Int) (w : Int) : Int := (IntKind.i64.wrap (a - IntKind.i64.wrap (IntKind.i64.wrap (w * w) * b)))
def f149_r1 (a : Int) (b : Int) (c : Int) (w : Int) : Int := (IntKind.i64.wrap (w * c))
theorem f149_gives (a : Int) (b : Int) (c : Int) (w : Int) : Gives Tryz.prog envF 0 149 [(.int .i64 (a)), (.int .i64 (b)), (.int .i64 (c)), (.int .i64 (w))] heapN ((.agg #[(.int .i64 (f149_r0 a b c w)), (.int .i64 (f149_r1 a b c w))]), heapN) := by
  simp only [f149_r0, f149_r1, cond_true, cond_false]; exact f149_p0 a b c w
theorem f91_p0 (a : Int) (b : Int) (c : Int) (w : Int) : Gives Tryz.prog envF 0 91 [(.int .i64 (a)), (.int .i64 (b)), (.int .i64 (c)), (.int .i64 (w))] heapN ((.agg #[(.int .i64 (IntKind.i64.wrap (a - IntKind.i64.wrap (IntKind.i64.wrap (w * w) * b)))), (.int .i64 (IntKind.i64.wrap (w * c)))]), heapN) :=
  Gives.by (n := 1000) (os := []) (os' := []) (by kernel_rfl) (ObsOK.nil)
def f91_r0 (a : Int) (b : Int) (c : Int) (w : Int) : Int := (IntKind.i64.wrap (a - IntKind.i64.wrap (IntKind.i64.wrap (w * w) * b)))
def f91_r1 (a : Int) (b : Int) (c : Int) (w : Int) : Int := (IntKind.i64.wrap (w * c))
theorem f91_gives (a : Int) (b : Int) (c : Int) (w : Int) : Gives Tryz.prog envF 0 91 [(.int .i64 (a)), (.int .i64 (b)), (.int .i64 (c)), (.int .i64 (w))] heapN ((.agg #[(.int .i64 (f91_r0 a b c w)), (.int .i64 (f91_r1 a b c w))]), heapN) := by
  simp only [f91_r0, f91_r1, cond_true, cond_false]; exact f91_p0 a b c w
def B_envG (f : FuncId) (args : List Value) : Option (Heap × Value) :=
  if f == 177 then
    match args with
    | [(.agg ⟨[(.int .i64 (a)), (.int .i64 (b))]⟩), (.agg ⟨[(.int .i64 (c)), (.int .i64 (d))]⟩)] => some (heapN, (.agg #[(.int .i64 (f177_r0 a b c d)), (.int .i64 (f177_r1 a b c d))]))
    | _ => none
  else  if f == 82 then
    match args with
    | [(.agg ⟨[(.int .i64 (a)), (.int .i64 (b))]⟩), (.agg ⟨[(.int .i64 (c)), (.int .i64 (d))]⟩)] => some (heapN, (.agg #[(.int .i64 (f82_r0 a b c d)), (.int .i64 (f82_r1 a b c d))]))
    | _ => none
  else  if f == 151 then
    match args with
    | [(.agg ⟨[(.int .i64 (a)), (.int .i64 (b))]⟩), (.agg ⟨[(.int .i64 (c)), (.int .i64 (d))]⟩)] => some (heapN, (.agg #[(.int .i64 (f151_r0 a b c d)), (.int .i64 (f151_r1 a b c d))]))
    | _ => none
  else  if f == 152 then
    match args with
    | [(.agg ⟨[(.int .i64 (a)), (.int .i64 (b))]⟩), (.agg ⟨[(.int .i64 (c)), (.int .i64 (d))]⟩)] => some (heapN, (.agg #[(.int .i64 (f152_r0 a b c d)), (.int .i64 (f152_r1 a b c d))]))
    | _ => none
  else  if f == 86 then
    match args with
    | [(.agg ⟨[(.int .i64 (a)), (.int .i64 (b))]⟩), (.agg ⟨[(.int .i64 (c)), (.int .i64 (d))]⟩)] => some (heapN, (.agg #[(.int .i64 (f86_r0 a b c d)), (.int .i64 (f86_r1 a b c d))]))
    | _ => none
  else  if f == 83 then
    match args with
    | [(.agg ⟨[(.int .i64 (a)), (.int .i64 (b))]⟩)] => some (heapN, (.agg #[(.int .i64 (a)), (.int .i64 (f83_r1 a b))]))
    | _ => none
  else  if f == 84 then
    match args with
    | [(.agg ⟨[(.int .i64 (a)), (.int .i64 (b))]⟩)] => some (heapN, (.int .i64 (f84_r0 a b)))
    | _ => none
  else  if f == 160 then
    match args with
    | [(.agg ⟨[(.int .i64 (a)), (.int .i64 (b))]⟩)] => some (heapN, (.int .i64 (f160_r0 a b)))
    | _ => none
  else  if f == 149 then
    match args with
    | [(.int .i64 (a)), (.int .i64 (b)), (.int .i64 (c)), (.int .i64 (w))] => some (heapN, (.agg #[(.int .i64 (f149_r0 a b c w)), (.int .i64 (f149_r1 a b c w))]))
    | _ => none
  else  if f == 91 then
    match args with
    | [(.int .i64 (a)), (.int .i64 (b)), (.int .i64 (c)), (.int .i64 (w))] => some (heapN, (.agg #[(.int .i64 (f91_r0 a b c w)), (.int .i64 (f91_r1 a b c w))]))
    | _ => none
  else none
noncomputable def envG : Env := envF.with (baseKnown B_envG)
theorem envG_ok : EnvOK Tryz.prog 9 envG := env_base prog_ok envF_ok fun f args H v h => by
  unfold B_envG at h
  split at h
  · rename_i hf
    have hf : f = 177 := by simpa using hf
    subst hf
    split at h
    · cases h; exact heapN_ok (f177_gives _ _ _ _)
    · cases h
  · skip
    split at h
    · rename_i hf
      have hf : f = 82 := by simpa using hf
      subst hf
      split at h
      · cases h; exact heapN_ok (f82_gives _ _ _ _)
      · cases h
    · skip
      split at h
      · rename_i hf
        have hf : f = 151 := by simpa using hf
        subst hf
        split at h
        · cases h; exact heapN_ok (f151_gives _ _ _ _)
        · cases h
      · skip
        split at h
        · rename_i hf
          have hf : f = 152 := by simpa using hf
          subst hf
          split at h
          · cases h; exact heapN_ok (f152_gives _ _ _ _)
          · cases h
        · skip
          split at h
          · rename_i hf
            have hf : f = 86 := by simpa using hf
            subst hf
            split at h
            · cases h; exact heapN_ok (f86_gives _ _ _ _)
            · cases h
          · skip
            split at h
            · rename_i hf
              have hf : f = 83 := by simpa using hf
              subst hf
              split at h
              · cases h; exact heapN_ok (f83_gives _ _)
              · cases h
            · skip
              split at h
              · rename_i hf
                have hf : f = 84 := by simpa using hf
                subst hf
                split at h
                · cases h; exact heapN_ok (f84_gives _ _)
                · cases h
              · skip
                split at h
                · rename_i hf
                  have hf : f = 160 := by simpa using hf
                  subst hf
                  split at h
                  · cases h; exact heapN_ok (f160_gives _ _)
                  · cases h
                · skip
                  split at h
                  · rename_i hf
                    have hf : f = 149 := by simpa using hf
                    subst hf
                    split at h
                    · cases h; exact heapN_ok (f149_gives _ _ _ _)
                    · cases h
                  · skip
                    split at h
                    · rename_i hf
                      have hf : f = 91 := by simpa using hf
                      subst hf
                      split at h
                      · cases h; exact heapN_ok (f91_gives _ _ _ _)
                      · cases h
                    · skip
                      cases h
end Go.Proofs.YtkndhhnjgpialaaGreatDoor
/-
What functions give.
-/
namespace Go.Proofs.YtkndhhnjgpialaaGreatDoor
open Go Go.Abs
theorem f150_p0 (a : Int) (b : Int) (c : Int) (d : Int) (e : Int) (f : Int) (w : Int) (g : Int) (h : Int) (i : Int) (j : Int) (k : Int) (l : Int) : Gives Tryz.prog envG 0 150 [(.agg #[(.int .i64 (a)), (.int .i64 (b)), (.int .i64 (c)), (.int .i64 (d)), (.int .i64 (e)), (.int .i64 (f))]), (.int .i64 (w)), (.agg #[(.int .i64 (g)), (.int .i64 (h)), (.int .i64 (i)), (.int .i64 (j)), (.int .i64 (k)), (.int .i64 (l))])] heapN ((.agg #[(.int .i64 (f149_r0 e d f w)), (.int .i64 (f149_r1 e d f w)), (.int .i64 (f151_r0 (f177_r0 a (IntKind.i64.wrap (w * b)) (f151_r0 (f177_r0 (f149_r0 e d f w) (f149_r1 e d f w) k l) (f177_r1 (f149_r0 e d f w) (f149_r1 e d f w) k l) (f177_r0 g h i j) (f177_r1 g h i j)) (f151_r1 (f177_r0 (f149_r0 e d f w) (f149_r1 e d f w) k l) (f177_r1 (f149_r0 e d f w) (f149_r1 e d f w) k l) (f177_r0 g h i j) (f177_r1 g h i j))) (f177_r1 a (IntKind.i64.wrap (w * b)) (f151_r0 (f177_r0 (f149_r0 e d f w) (f149_r1 e d f w) k l) (f177_r1 (f149_r0 e d f w) (f149_r1 e d f w) k l) (f177_r0 g h i j) (f177_r1 g h i j)) (f151_r1 (f177_r0 (f149_r0 e d f w) (f149_r1 e d f w) k l) (f177_r1 (f149_r0 e d f w) (f149_r1 e d f w) k l) (f177_r0 g h i j) (f177_r1 g h i j))) (f177_r0 0 (IntKind.i64.wrap (IntKind.i64.wrap (w * c) * c)) k l) (f177_r1 0 (IntKind.i64.wrap (IntKind.i64.wrap (w * c) * c)) k l))), (.int .i64 (f151_r1 (f177_r0 a (IntKind.i64.wrap (w * b)) (f151_r0 (f177_r0 (f149_r0 e d f w) (f149_r1 e d f w) k l) (f177_r1 (f149_r0 e d f w) (f149_r1 e d f w) k l) (f177_r0 g h i j) (f177_r1 g h i j)) (f151_r1 (f177_r0 (f149_r0 e d f w) (f149_r1 e d f w) k l) (f177_r1 (f149_r0 e d f w) (f149_r1 e d f w) k l) (f177_r0 g h i j) (f177_r1 g h i j))) (f177_r1 a (IntKind.i64.wrap (w * b)) (f151_r0 (f177_r0 (f149_r0 e d f w) (f149_r1 e d f w) k l) (f177_r1 (f149_r0 e d f w) (f149_r1 e d f w) k l) (f177_r0 g h i j) (f177_r1 g h i j)) (f151_r1 (f177_r0 (f149_r0 e d f w) (f149_r1 e d f w) k l) (f177_r1 (f149_r0 e d f w) (f149_r1 e d f w) k l) (f177_r0 g h i j) (f177_r1 g h i j))) (f177_r0 0 (IntKind.i64.wrap (IntKind.i64.wrap (w * c) * c)) k l) (f177_r1 0 (IntKind.i64.wrap (IntKind.i64.wrap (w * c) * c)) k l))), (.int .i64 (f151_r0 (f177_r0 (f149_r0 e d f w) (f149_r1 e d f w) k l) (f177_r1 (f149_r0 e d f w) (f149_r1 e d f w) k l) (f177_r0 g h i j) (f177_r1 g h i j))), (.int .i64 (f151_r1 (f177_r0 (f149_r0 e d f w) (f149_r1 e d f w) k l) (f177_r1 (f149_r0 e d f w) (f149_r1 e d f w) k l) (f177_r0 g h i j) (f177_r1 g h i j))), (.int .i64 (f177_r0 c 0 k l)), (.int .i64 (f177_r1 c 0 k l)), (.int .i64 (f151_r0 (f177_r0 a (IntKind.i64.wrap (w * b)) (f151_r0 (f177_r0 (f149_r0 e d f w) (f149_r1 e d f w) k l) (f177_r1 (f149_r0 e d f w) (f149_r1 e d f w) k l) (f177_r0 g h i j) (f177_r1 g h i j)) (f151_r1 (f177_r0 (f149_r0 e d f w) (f149_r1 e d f w) k l) (f177_r1 (f149_r0 e d f w) (f149_r1 e d f w) k l) (f177_r0 g h i j) (f177_r1 g h i j))) (f177_r1 a (IntKind.i64.wrap (w * b)) (f151_r0 (f177_r0 (f149_r0 e d f w) (f149_r1 e d f w) k l) (f177_r1 (f149_r0 e d f w) (f149_r1 e d f w) k l) (f177_r0 g h i j) (f177_r1 g h i j)) (f151_r1 (f177_r0 (f149_r0 e d f w) (f149_r1 e d f w) k l) (f177_r1 (f149_r0 e d f w) (f149_r1 e d f w) k l) (f177_r0 g h i j) (f177_r1 g h i j))) (f177_r0 0 (IntKind.i64.wrap (IntKind.i64.wrap (w * c) * c)) k l) (f177_r1 0 (IntKind.i64.wrap (IntKind.i64.wrap (w * c) * c)) k l))), (.int .i64 (f151_r1 (f177_r0 a (IntKind.i64.wrap (w * b)) (f151_r0 (f177_r0 (f149_r0 e d f w) (f149_r1 e d f w) k l) (f177_r1 (f149_r0 e d f w) (f149_r1 e d f w) k l) (f177_r0 g h i j) (f177_r1 g h i j)) (f151_r1 (f177_r0 (f149_r0 e d f w) (f149_r1 e d f w) k l) (f177_r1 (f149_r0 e d f w) (f149_r1 e d f w) k l) (f177_r0 g h i j) (f177_r1 g h i j))) (f177_r1 a (IntKind.i64.wrap (w * b)) (f151_r0 (f177_r0 (f149_r0 e d f w) (f149_r1 e d f w) k l) (f177_r1 (f149_r0 e d f w) (f149_r1 e d f w) k l) (f177_r0 g h i j) (f177_r1 g h i j)) (f151_r1 (f177_r0 (f149_r0 e d f w) (f149_r1 e d f w) k l) (f177_r1 (f149_r0 e d f w) (f149_r1 e d f w) k l) (f177_r0 g h i j) (f177_r1 g h i j))) (f177_r0 0 (IntKind.i64.wrap (IntKind.i64.wrap (w * c) * c)) k l) (f177_r1 0 (IntKind.i64.wrap (IntKind.i64.wrap (w * c) * c)) k l))), (.int .i64 (f177_r0 c 0 g h)), (.int .i64 (f177_r1 c 0 g h)), (.int .i64 (f151_r0 (f177_r0 a (IntKind.i64.wrap (w * b)) (f151_r0 (f177_r0 (f149_r0 e d f w) (f149_r1 e d f w) k l) (f177_r1 (f149_r0 e d f w) (f149_r1 e d f w) k l) (f177_r0 g h i j) (f177_r1 g h i j)) (f151_r1 (f177_r0 (f149_r0 e d f w) (f149_r1 e d f w) k l) (f177_r1 (f149_r0 e d f w) (f149_r1 e d f w) k l) (f177_r0 g h i j) (f177_r1 g h i j))) (f177_r1 a (IntKind.i64.wrap (w * b)) (f151_r0 (f177_r0 (f149_r0 e d f w) (f149_r1 e d f w) k l) (f177_r1 (f149_r0 e d f w) (f149_r1 e d f w) k l) (f177_r0 g h i j) (f177_r1 g h i j)) (f151_r1 (f177_r0 (f149_r0 e d f w) (f149_r1 e d f w) k l) (f177_r1 (f149_r0 e d f w) (f149_r1 e d f w) k l) (f177_r0 g h i j) (f177_r1 g h i j))) (f177_r0 0 (IntKind.i64.wrap (IntKind.i64.wrap (w * c) * c)) k l) (f177_r1 0 (IntKind.i64.wrap (IntKind.i64.wrap (w * c) * c)) k l))), (.int .i64 (f151_r1 (f177_r0 a (IntKind.i64.wrap (w * b)) (f151_r0 (f177_r0 (f149_r0 e d f w) (f149_r1 e d f w) k l) (f177_r1 (f149_r0 e d f w) (f149_r1 e d f w) k l) (f177_r0 g h i j) (f177_r1 g h i j)) (f151_r1 (f177_r0 (f149_r0 e d f w) (f149_r1 e d f w) k l) (f177_r1 (f149_r0 e d f w) (f149_r1 e d f w) k l) (f177_r0 g h i j) (f177_r1 g h i j))) (f177_r1 a (IntKind.i64.wrap (w * b)) (f151_r0 (f177_r0 (f149_r0 e d f w) (f149_r1 e d f w) k l) (f177_r1 (f149_r0 e d f w) (f149_r1 e d f w) k l) (f177_r0 g h i j) (f177_r1 g h i j)) (f151_r1 (f177_r0 (f149_r0 e d f w) (f149_r1 e d f w) k l) (f177_r1 (f149_r0 e d f w) (f149_r1 e d f w) k l) (f177_r0 g h i j) (f177_r1 g h i j))) (f177_r0 0 (IntKind.i64.wrap (IntKind.i64.wrap (w * c) * c)) k l) (f177_r1 0 (IntKind.i64.wrap (IntKind.i64.wrap (w * c) * c)) k l))), (.int .i64 (f177_r0 (IntKind.i64.wrap (IntKind.i64.wrap (IntKind.i64.wrap (0 - w) * w) * c)) 0 i j)), (.int .i64 (f177_r1 (IntKind.i64.wrap (IntKind.i64.wrap (IntKind.i64.wrap (0 - w) * w) * c)) 0 i j)), (.int .i64 (f151_r0 (f177_r0 a (IntKind.i64.wrap (w * b)) (f151_r0 (f177_r0 (f149_r0 e d f w) (f149_r1 e d f w) k l) (f177_r1 (f149_r0 e d f w) (f149_r1 e d f w) k l) (f177_r0 g h i j) (f177_r1 g h i j)) (f151_r1 (f177_r0 (f149_r0 e d f w) (f149_r1 e d f w) k l) (f177_r1 (f149_r0 e d f w) (f149_r1 e d f w) k l) (f177_r0 g h i j) (f177_r1 g h i j))) (f177_r1 a (IntKind.i64.wrap (w * b)) (f151_r0 (f177_r0 (f149_r0 e d f w) (f149_r1 e d f w) k l) (f177_r1 (f149_r0 e d f w) (f149_r1 e d f w) k l) (f177_r0 g h i j) (f177_r1 g h i j)) (f151_r1 (f177_r0 (f149_r0 e d f w) (f149_r1 e d f w) k l) (f177_r1 (f149_r0 e d f w) (f149_r1 e d f w) k l) (f177_r0 g h i j) (f177_r1 g h i j))) (f177_r0 0 (IntKind.i64.wrap (IntKind.i64.wrap (w * c) * c)) k l) (f177_r1 0 (IntKind.i64.wrap (IntKind.i64.wrap (w * c) * c)) k l))), (.int .i64 (f151_r1 (f177_r0 a (IntKind.i64.wrap (w * b)) (f151_r0 (f177_r0 (f149_r0 e d f w) (f149_r1 e d f w) k l) (f177_r1 (f149_r0 e d f w) (f149_r1 e d f w) k l) (f177_r0 g h i j) (f177_r1 g h i j)) (f151_r1 (f177_r0 (f149_r0 e d f w) (f149_r1 e d f w) k l) (f177_r1 (f149_r0 e d f w) (f149_r1 e d f w) k l) (f177_r0 g h i j) (f177_r1 g h i j))) (f177_r1 a (IntKind.i64.wrap (w * b)) (f151_r0 (f177_r0 (f149_r0 e d f w) (f149_r1 e d f w) k l) (f177_r1 (f149_r0 e d f w) (f149_r1 e d f w) k l) (f177_r0 g h i j) (f177_r1 g h i j)) (f151_r1 (f177_r0 (f149_r0 e d f w) (f149_r1 e d f w) k l) (f177_r1 (f149_r0 e d f w) (f149_r1 e d f w) k l) (f177_r0 g h i j) (f177_r1 g h i j))) (f177_r0 0 (IntKind.i64.wrap (IntKind.i64.wrap (w * c) * c)) k l) (f177_r1 0 (IntKind.i64.wrap (IntKind.i64.wrap (w * c) * c)) k l)))]), heapN) :=
  Gives.by (n := 1000) (os := []) (os' := []) (by kernel_rfl) (ObsOK.nil)
def f150_r0 (a : Int) (b : Int) (c : Int) (d : Int) (e : Int) (f : Int) (w : Int) (g : Int) (h : Int) (i : Int) (j : Int) (k : Int) (l : Int) : Int := (f149_r0 e d f w)
def f150_r1 (a : Int) (b : Int) (c : Int) (d : Int) (e : Int) (f : Int) (w : Int) (g : Int) (h : Int) (i : Int) (j : Int) (k : Int) (l : Int) : Int := (f149_r1 e d f w)
def f150_r2 (a : Int) (b : Int) (c : Int) (d : Int) (e : Int) (f : Int) (w : Int) (g : Int) (h : Int) (i : Int) (j : Int) (k : Int) (l : Int) : Int := (f151_r0 (f177_r0 a (IntKind.i64.wrap (w * b)) (f151_r0 (f177_r0 (f149_r0 e d f w) (f149_r1 e d f w) k l) (f177_r1 (f149_r0 e d f w) (f149_r1 e d f w) k l) (f177_r0 g h i j) (f177_r1 g h i j)) (f151_r1 (f177_r0 (f149_r0 e d f w) (f149_r1 e d f w) k l) (f177_r1 (f149_r0 e d f w) (f149_r1 e d f w) k l) (f177_r0 g h i j) (f177_r1 g h i j))) (f177_r1 a (IntKind.i64.wrap (w * b)) (f151_r0 (f177_r0 (f149_r0 e d f w) (f149_r1 e d f w) k l) (f177_r1 (f149_r0 e d f w) (f149_r1 e d f w) k l) (f177_r0 g h i j) (f177_r1 g h i j)) (f151_r1 (f177_r0 (f149_r0 e d f w) (f149_r1 e d f w) k l) (f177_r1 (f149_r0 e d f w) (f149_r1 e d f w) k l) (f177_r0 g h i j) (f177_r1 g h i j))) (f177_r0 0 (IntKind.i64.wrap (IntKind.i64.wrap (w * c) * c)) k l) (f177_r1 0 (IntKind.i64.wrap (IntKind.i64.wrap (w * c) * c)) k l))
def f150_r3 (a : Int) (b : Int) (c : Int) (d : Int) (e : Int) (f : Int) (w : Int) (g : Int) (h : Int) (i : Int) (j : Int) (k : Int) (l : Int) : Int := (f151_r1 (f177_r0 a (IntKind.i64.wrap (w * b)) (f151_r0 (f177_r0 (f149_r0 e d f w) (f149_r1 e d f w) k l) (f177_r1 (f149_r0 e d f w) (f149_r1 e d f w) k l) (f177_r0 g h i j) (f177_r1 g h i j)) (f151_r1 (f177_r0 (f149_r0 e d f w) (f149_r1 e d f w) k l) (f177_r1 (f149_r0 e d f w) (f149_r1 e d f w) k l) (f177_r0 g h i j) (f177_r1 g h i j))) (f177_r1 a (IntKind.i64.wrap (w * b)) (f151_r0 (f177_r0 (f149_r0 e d f w) (f149_r1 e d f w) k l) (f177_r1 (f149_r0 e d f w) (f149_r1 e d f w) k l) (f177_r0 g h i j) (f177_r1 g h i j)) (f151_r1 (f177_r0 (f149_r0 e d f w) (f149_r1 e d f w) k l) (f177_r1 (f149_r0 e d f w) (f149_r1 e d f w) k l) (f177_r0 g h i j) (f177_r1 g h i j))) (f177_r0 0 (IntKind.i64.wrap (IntKind.i64.wrap (w * c) * c)) k l) (f177_r1 0 (IntKind.i64.wrap (IntKind.i64.wrap (w * c) * c)) k l))
def f150_r4 (a : Int) (b : Int) (c : Int) (d : Int) (e : Int) (f : Int) (w : Int) (g : Int) (h : Int) (i : Int) (j : Int) (k : Int) (l : Int) : Int := (f151_r0 (f177_r0 (f149_r0 e d f w) (f149_r1 e d f w) k l) (f177_r1 (f149_r0 e d f w) (f149_r1 e d f w) k l) (f177_r0 g h i j) (f177_r1 g h i j))
def f150_r5 (a : Int) (b : Int) (c : Int) (d : Int) (e : Int) (f : Int) (w : Int) (g : Int) (h : Int) (i : Int) (j : Int) (k : Int) (l : Int) : Int := (f151_r1 (f177_r0 (f149_r0 e d f w) (f149_r1 e d f w) k l) (f177_r1 (f149_r0 e d f w) (f149_r1 e d f w) k l) (f177_r0 g h i j) (f177_r1 g h i j))
def f150_r6 (a : Int) (b : Int) (c : Int) (d : Int) (e : Int) (f : Int) (w : Int) (g : Int) (h : Int) (i : Int) (j : Int) (k : Int) (l : Int) : Int := (f177_r0 c 0 k l)
def f150_r7 (a : Int) (b : Int) (c : Int) (d : Int) (e : Int) (f : Int) (w : Int) (g : Int) (h : Int) (i : Int) (j : Int) (k : Int) (l : Int) : Int := (f177_r1 c 0 k l)
def f150_r8 (a : Int) (b : Int) (c : Int) (d : Int) (e : Int) (f : Int) (w : Int) (g : Int) (h : Int) (i : Int) (j : Int) (k : Int) (l : Int) : Int := (f151_r0 (f177_r0 a (IntKind.i64.wrap (w * b)) (f151_r0 (f177_r0 (f149_r0 e d f w) (f149_r1 e d f w) k l) (f177_r1 (f149_r0 e d f w) (f149_r1 e d f w) k l) (f177_r0 g h i j) (f177_r1 g h i j)) (f151_r1 (f177_r0 (f149_r0 e d f w) (f149_r1 e d f w) k l) (f177_r1 (f149_r0 e d f w) (f149_r1 e d f w) k l) (f177_r0 g h i j) (f177_r1 g h i j))) (f177_r1 a (IntKind.i64.wrap (w * b)) (f151_r0 (f177_r0 (f149_r0 e d f w) (f149_r1 e d f w) k l) (f177_r1 (f149_r0 e d f w) (f149_r1 e d f w) k l) (f177_r0 g h i j) (f177_r1 g h i j)) (f151_r1 (f177_r0 (f149_r0 e d f w) (f149_r1 e d f w) k l) (f177_r1 (f149_r0 e d f w) (f149_r1 e d f w) k l) (f177_r0 g h i j) (f177_r1 g h i j))) (f177_r0 0 (IntKind.i64.wrap (IntKind.i64.wrap (w * c) * c)) k l) (f177_r1 0 (IntKind.i64.wrap (IntKind.i64.wrap (w * c) * c)) k l))
def f150_r9 (a : Int) (b : Int) (c : Int) (d : Int) (e : Int) (f : Int) (w : Int) (g : Int) (h : Int) (i : Int) (j : Int) (k : Int) (l : Int) : Int := (f151_r1 (f177_r0 a (IntKind.i64.wrap (w * b)) (f151_r0 (f177_r0 (f149_r0 e d f w) (f149_r1 e d f w) k l) (f177_r1 (f149_r0 e d f w) (f149_r1 e d f w) k l) (f177_r0 g h i j) (f177_r1 g h i j)) (f151_r1 (f177_r0 (f149_r0 e d f w) (f149_r1 e d f w) k l) (f177_r1 (f149_r0 e d f w) (f149_r1 e d f w) k l) (f177_r0 g h i j) (f177_r1 g h i j))) (f177_r1 a (IntKind.i64.wrap (w * b)) (f151_r0 (f177_r0 (f149_r0 e d f w) (f149_r1 e d f w) k l) (f177_r1 (f149_r0 e d f w) (f149_r1 e d f w) k l) (f177_r0 g h i j) (f177_r1 g h i j)) (f151_r1 (f177_r0 (f149_r0 e d f w) (f149_r1 e d f w) k l) (f177_r1 (f149_r0 e d f w) (f149_r1 e d f w) k l) (f177_r0 g h i j) (f177_r1 g h i j))) (f177_r0 0 (IntKind.i64.wrap (IntKind.i64.wrap (w * c) * c)) k l) (f177_r1 0 (IntKind.i64.wrap (IntKind.i64.wrap (w * c) * c)) k l))
def f150_r10 (a : Int) (b : Int) (c : Int) (d : Int) (e : Int) (f : Int) (w : Int) (g : Int) (h : Int) (i : Int) (j : Int) (k : Int) (l : Int) : Int := (f177_r0 c 0 g h)
def f150_r11 (a : Int) (b : Int) (c : Int) (d : Int) (e : Int) (f : Int) (w : Int) (g : Int) (h : Int) (i : Int) (j : Int) (k : Int) (l : Int) : Int := (f177_r1 c 0 g h)
def f150_r12 (a : Int) (b : Int) (c : Int) (d : Int) (e : Int) (f : Int) (w : Int) (g : Int) (h : Int) (i : Int) (j : Int) (k : Int) (l : Int) : Int := (f151_r0 (f177_r0 a (IntKind.i64.wrap (w * b)) (f151_r0 (f177_r0 (f149_r0 e d f w) (f149_r1 e d f w) k l) (f177_r1 (f149_r0 e d f w) (f149_r1 e d f w) k l) (f177_r0 g h i j) (f177_r1 g h i j)) (f151_r1 (f177_r0 (f149_r0 e d f w) (f149_r1 e d f w) k l) (f177_r1 (f149_r0 e d f w) (f149_r1 e d f w) k l) (f177_r0 g h i j) (f177_r1 g h i j))) (f177_r1 a (IntKind.i64.wrap (w * b)) (f151_r0 (f177_r0 (f149_r0 e d f w) (f149_r1 e d f w) k l) (f177_r1 (f149_r0 e d f w) (f149_r1 e d f w) k l) (f177_r0 g h i j) (f177_r1 g h i j)) (f151_r1 (f177_r0 (f149_r0 e d f w) (f149_r1 e d f w) k l) (f177_r1 (f149_r0 e d f w) (f149_r1 e d f w) k l) (f177_r0 g h i j) (f177_r1 g h i j))) (f177_r0 0 (IntKind.i64.wrap (IntKind.i64.wrap (w * c) * c)) k l) (f177_r1 0 (IntKind.i64.wrap (IntKind.i64.wrap (w * c) * c)) k l))
def f150_r13 (a : Int) (b : Int) (c : Int) (d : Int) (e : Int) (f : Int) (w : Int) (g : Int) (h : Int) (i : Int) (j : Int) (k : Int) (l : Int) : Int := (f151_r1 (f177_r0 a (IntKind.i64.wrap (w * b)) (f151_r0 (f177_r0 (f149_r0 e d f w) (f149_r1 e d f w) k l) (f177_r1 (f149_r0 e d f w) (f149_r1 e d f w) k l) (f177_r0 g h i j) (f177_r1 g h i j)) (f151_r1 (f177_r0 (f149_r0 e d f w) (f149_r1 e d f w) k l) (f177_r1 (f149_r0 e d f w) (f149_r1 e d f w) k l) (f177_r0 g h i j) (f177_r1 g h i j))) (f177_r1 a (IntKind.i64.wrap (w * b)) (f151_r0 (f177_r0 (f149_r0 e d f w) (f149_r1 e d f w) k l) (f177_r1 (f149_r0 e d f w) (f149_r1 e d f w) k l) (f177_r0 g h i j) (f177_r1 g h i j)) (f151_r1 (f177_r0 (f149_r0 e d f w) (f149_r1 e d f w) k l) (f177_r1 (f149_r0 e d f w) (f149_r1 e d f w) k l) (f177_r0 g h i j) (f177_r1 g h i j))) (f177_r0 0 (IntKind.i64.wrap (IntKind.i64.wrap (w * c) * c)) k l) (f177_r1 0 (IntKind.i64.wrap (IntKind.i64.wrap (w * c) * c)) k l))
def f150_r14 (a : Int) (b : Int) (c : Int) (d : Int) (e : Int) (f : Int) (w : Int) (g : Int) (h : Int) (i : Int) (j : Int) (k : Int) (l : Int) : Int := (f177_r0 (IntKind.i64.wrap (IntKind.i64.wrap (IntKind.i64.wrap (0 - w) * w) * c)) 0 i j)
def f150_r15 (a : Int) (b : Int) (c : Int) (d : Int) (e : Int) (f : Int) (w : Int) (g : Int) (h : Int) (i : Int) (j : Int) (k : Int) (l : Int) : Int := (f177_r1 (IntKind.i64.wrap (IntKind.i64.wrap (IntKind.i64.wrap (0 - w) * w) * c)) 0 i j)
def f150_r16 (a : Int) (b : Int) (c : Int) (d : Int) (e : Int) (f : Int) (w : Int) (g : Int) (h : Int) (i : Int) (j : Int) (k : Int) (l : Int) : Int := (f151_r0 (f177_r0 a (IntKind.i64.wrap (w * b)) (f151_r0 (f177_r0 (f149_r0 e d f w) (f149_r1 e d f w) k l) (f177_r1 (f149_r0 e d f w) (f149_r1 e d f w) k l) (f177_r0 g h i j) (f177_r1 g h i j)) (f151_r1 (f177_r0 (f149_r0 e d f w) (f149_r1 e d f w) k l) (f177_r1 (f149_r0 e d f w) (f149_r1 e d f w) k l) (f177_r0 g h i j) (f177_r1 g h i j))) (f177_r1 a (IntKind.i64.wrap (w * b)) (f151_r0 (f177_r0 (f149_r0 e d f w) (f149_r1 e d f w) k l) (f177_r1 (f149_r0 e d f w) (f149_r1 e d f w) k l) (f177_r0 g h i j) (f177_r1 g h i j)) (f151_r1 (f177_r0 (f149_r0 e d f w) (f149_r1 e d f w) k l) (f177_r1 (f149_r0 e d f w) (f149_r1 e d f w) k l) (f177_r0 g h i j) (f177_r1 g h i j))) (f177_r0 0 (IntKind.i64.wrap (IntKind.i64.wrap (w * c) * c)) k l) (f177_r1 0 (IntKind.i64.wrap (IntKind.i64.wrap (w * c) * c)) k l))
def f150_r17 (a : Int) (b : Int) (c : Int) (d : Int) (e : Int) (f : Int) (w : Int) (g : Int) (h : Int) (i : Int) (j : Int) (k : Int) (l : Int) : Int := (f151_r1 (f177_r0 a (IntKind.i64.wrap (w * b)) (f151_r0 (f177_r0 (f149_r0 e d f w) (f149_r1 e d f w) k l) (f177_r1 (f149_r0 e d f w) (f149_r1 e d f w) k l) (f177_r0 g h i j) (f177_r1 g h i j)) (f151_r1 (f177_r0 (f149_r0 e d f w) (f149_r1 e d f w) k l) (f177_r1 (f149_r0 e d f w) (f149_r1 e d f w) k l) (f177_r0 g h i j) (f177_r1 g h i j))) (f177_r1 a (IntKind.i64.wrap (w * b)) (f151_r0 (f177_r0 (f149_r0 e d f w) (f149_r1 e d f w) k l) (f177_r1 (f149_r0 e d f w) (f149_r1 e d f w) k l) (f177_r0 g h i j) (f177_r1 g h i j)) (f151_r1 (f177_r0 (f149_r0 e d f w) (f149_r1 e d f w) k l) (f177_r1 (f149_r0 e d f w) (f149_r1 e d f w) k l) (f177_r0 g h i j) (f177_r1 g h i j))) (f177_r0 0 (IntKind.i64.wrap (IntKind.i64.wrap (w * c) * c)) k l) (f177_r1 0 (IntKind.i64.wrap (IntKind.i64.wrap (w * c) * c)) k l))
theorem f150_gives (a : Int) (b : Int) (c : Int) (d : Int) (e : Int) (f : Int) (w : Int) (g : Int) (h : Int) (i : Int) (j : Int) (k : Int) (l : Int) : Gives Tryz.prog envG 0 150 [(.agg #[(.int .i64 (a)), (.int .i64 (b)), (.int .i64 (c)), (.int .i64 (d)), (.int .i64 (e)), (.int .i64 (f))]), (.int .i64 (w)), (.agg #[(.int .i64 (g)), (.int .i64 (h)), (.int .i64 (i)), (.int .i64 (j)), (.int .i64 (k)), (.int .i64 (l))])] heapN ((.agg #[(.int .i64 (f150_r0 a b c d e f w g h i j k l)), (.int .i64 (f150_r1 a b c d e f w g h i j k l)), (.int .i64 (f150_r2 a b c d e f w g h i j k l)), (.int .i64 (f150_r3 a b c d e f w g h i j k l)), (.int .i64 (f150_r4 a b c d e f w g h i j k l)), (.int .i64 (f150_r5 a b c d e f w g h i j k l)), (.int .i64 (f150_r6 a b c d e f w g h i j k l)), (.int .i64 (f150_r7 a b c d e f w g h i j k l)), (.int .i64 (f150_r8 a b c d e f w g h i j k l)), (.int .i64 (f150_r9 a b c d e f w g h i j k l)), (.int .i64 (f150_r10 a b c d e f w g h i j k l)), (.int .i64 (f150_r11 a b c d e f w g h i j k l)), (.int .i64 (f150_r12 a b c d e f w g h i j k l)), (.int .i64 (f150_r13 a b c d e f w g h i j k l)), (.int .i64 (f150_r14 a b c d e f w g h i j k l)), (.int .i64 (f150_r15 a b c d e f w g h i j k l)), (.int .i64 (f150_r16 a b c d e f w g h i j k l)), (.int .i64 (f150_r17 a b c d e f w g h i j k l))]), heapN) := by
  simp only [f150_r0, f150_r1, f150_r2, f150_r3, f150_r4, f150_r5, f150_r6, f150_r7, f150_r8, f150_r9, f150_r10, f150_r11, f150_r12, f150_r13, f150_r14, f150_r15, f150_r16, f150_r17, cond_true, cond_false]; exact f150_p0 a b c d e f w g h i j k l
def f108_c0 (a : Int) (b : Int) (c : Int) (d : Int) (e : Int) (f : Int) (g : Int) (h : Int) (i : Int) (j : Int) (w : Int) : Bool := h == 0
theorem f108_p0 (a : Int) (b : Int) (c : Int) (d : Int) (e : Int) (f : Int) (g : Int) (h : Int) (i : Int) (j : Int) (w : Int) (h0 : f108_c0 a b c d e f g h i j w = true) : Gives Tryz.prog envG 0 108 [(.agg #[(.int .i64 (a)), (.int .i64 (b)), (.int .i64 (c)), (.int .i64 (d)), (.int .i64 (e)), (.int .i64 (f))]), (.agg #[(.int .i64 (g)), (.int .i64 (h)), (.int .i64 (i)), (.int .i64 (j))]), (.int .i64 (w))] heapN ((.agg #[(.int .i64 (f152_r0 (f82_r0 a (IntKind.i64.wrap (w * b)) (f91_r0 (IntKind.i64.wrap (e + g)) d f w) (f91_r1 (IntKind.i64.wrap (e + g)) d f w)) (f82_r1 a (IntKind.i64.wrap (w * b)) (f91_r0 (IntKind.i64.wrap (e + g)) d f w) (f91_r1 (IntKind.i64.wrap (e + g)) d f w)) (f82_r0 0 (IntKind.i64.wrap (IntKind.i64.wrap (w * c) * c)) 1 0) (f82_r1 0 (IntKind.i64.wrap (IntKind.i64.wrap (w * c) * c)) 1 0))), (.int .i64 (f152_r1 (f82_r0 a (IntKind.i64.wrap (w * b)) (f91_r0 (IntKind.i64.wrap (e + g)) d f w) (f91_r1 (IntKind.i64.wrap (e + g)) d f w)) (f82_r1 a (IntKind.i64.wrap (w * b)) (f91_r0 (IntKind.i64.wrap (e + g)) d f w) (f91_r1 (IntKind.i64.wrap (e + g)) d f w)) (f82_r0 0 (IntKind.i64.wrap (IntKind.i64.wrap (w * c) * c)) 1 0) (f82_r1 0 (IntKind.i64.wrap (IntKind.i64.wrap (w * c) * c)) 1 0))), (.int .i64 (f91_r0 (IntKind.i64.wrap (e + g)) d f w)), (.int .i64 (f91_r1 (IntKind.i64.wrap (e + g)) d f w)), (.int .i64 (1)), (.int .i64 (0)), (.int .i64 (0)), (.int .i64 (0)), (.int .i64 (1)), (.int .i64 (0))]), heapN) :=
  Gives.by (n := 1000) (os := [.br 108 60 true]) (os' := []) (by kernel_rfl) (ObsOK.cond h0 (ObsOK.nil))
theorem f108_p1 (a : Int) (b : Int) (c : Int) (d : Int) (e : Int) (f : Int) (g : Int) (h : Int) (i : Int) (j : Int) (w : Int) (h0 : f108_c0 a b c d e f g h i j w = false) : Gives Tryz.prog envG 0 108 [(.agg #[(.int .i64 (a)), (.int .i64 (b)), (.int .i64 (c)), (.int .i64 (d)), (.int .i64 (e)), (.int .i64 (f))]), (.agg #[(.int .i64 (g)), (.int .i64 (h)), (.int .i64 (i)), (.int .i64 (j))]), (.int .i64 (w))] heapN ((.agg #[(.int .i64 (f152_r0 (f82_r0 a (IntKind.i64.wrap (w * b)) (f152_r0 (f82_r0 (f91_r0 e d f w) (f91_r1 e d f w) (f152_r0 g 0 (f91_r0 i h j w) (f91_r1 i h j w)) (f152_r1 g 0 (f91_r0 i h j w) (f91_r1 i h j w))) (f82_r1 (f91_r0 e d f w) (f91_r1 e d f w) (f152_r0 g 0 (f91_r0 i h j w) (f91_r1 i h j w)) (f152_r1 g 0 (f91_r0 i h j w) (f91_r1 i h j w))) (f82_r0 g 0 (f91_r0 i h j w) (f91_r1 i h j w)) (f82_r1 g 0 (f91_r0 i h j w) (f91_r1 i h j w))) (f152_r1 (f82_r0 (f91_r0 e d f w) (f91_r1 e d f w) (f152_r0 g 0 (f91_r0 i h j w) (f91_r1 i h j w)) (f152_r1 g 0 (f91_r0 i h j w) (f91_r1 i h j w))) (f82_r1 (f91_r0 e d f w) (f91_r1 e d f w) (f152_r0 g 0 (f91_r0 i h j w) (f91_r1 i h j w)) (f152_r1 g 0 (f91_r0 i h j w) (f91_r1 i h j w))) (f82_r0 g 0 (f91_r0 i h j w) (f91_r1 i h j w)) (f82_r1 g 0 (f91_r0 i h j w) (f91_r1 i h j w)))) (f82_r1 a (IntKind.i64.wrap (w * b)) (f152_r0 (f82_r0 (f91_r0 e d f w) (f91_r1 e d f w) (f152_r0 g 0 (f91_r0 i h j w) (f91_r1 i h j w)) (f152_r1 g 0 (f91_r0 i h j w) (f91_r1 i h j w))) (f82_r1 (f91_r0 e d f w) (f91_r1 e d f w) (f152_r0 g 0 (f91_r0 i h j w) (f91_r1 i h j w)) (f152_r1 g 0 (f91_r0 i h j w) (f91_r1 i h j w))) (f82_r0 g 0 (f91_r0 i h j w) (f91_r1 i h j w)) (f82_r1 g 0 (f91_r0 i h j w) (f91_r1 i h j w))) (f152_r1 (f82_r0 (f91_r0 e d f w) (f91_r1 e d f w) (f152_r0 g 0 (f91_r0 i h j w) (f91_r1 i h j w)) (f152_r1 g 0 (f91_r0 i h j w) (f91_r1 i h j w))) (f82_r1 (f91_r0 e d f w) (f91_r1 e d f w) (f152_r0 g 0 (f91_r0 i h j w) (f91_r1 i h j w)) (f152_r1 g 0 (f91_r0 i h j w) (f91_r1 i h j w))) (f82_r0 g 0 (f91_r0 i h j w) (f91_r1 i h j w)) (f82_r1 g 0 (f91_r0 i h j w) (f91_r1 i h j w)))) (f82_r0 0 (IntKind.i64.wrap (IntKind.i64.wrap (w * c) * c)) (f152_r0 g 0 (f91_r0 i h j w) (f91_r1 i h j w)) (f152_r1 g 0 (f91_r0 i h j w) (f91_r1 i h j w))) (f82_r1 0 (IntKind.i64.wrap (IntKind.i64.wrap (w * c) * c)) (f152_r0 g 0 (f91_r0 i h j w) (f91_r1 i h j w)) (f152_r1 g 0 (f91_r0 i h j w) (f91_r1 i h j w))))), (.int .i64 (f152_r1 (f82_r0 a (IntKind.i64.wrap (w * b)) (f152_r0 (f82_r0 (f91_r0 e d f w) (f91_r1 e d f w) (f152_r0 g 0 (f91_r0 i h j w) (f91_r1 i h j w)) (f152_r1 g 0 (f91_r0 i h j w) (f91_r1 i h j w))) (f82_r1 (f91_r0 e d f w) (f91_r1 e d f w) (f152_r0 g 0 (f91_r0 i h j w) (f91_r1 i h j w)) (f152_r1 g 0 (f91_r0 i h j w) (f91_r1 i h j w))) (f82_r0 g 0 (f91_r0 i h j w) (f91_r1 i h j w)) (f82_r1 g 0 (f91_r0 i h j w) (f91_r1 i h j w))) (f152_r1 (f82_r0 (f91_r0 e d f w) (f91_r1 e d f w) (f152_r0 g 0 (f91_r0 i h j w) (f91_r1 i h j w)) (f152_r1 g 0 (f91_r0 i h j w) (f91_r1 i h j w))) (f82_r1 (f91_r0 e d f w) (f91_r1 e d f w) (f152_r0 g 0 (f91_r0 i h j w) (f91_r1 i h j w)) (f152_r1 g 0 (f91_r0 i h j w) (f91_r1 i h j w))) (f82_r0 g 0 (f91_r0 i h j w) (f91_r1 i h j w)) (f82_r1 g 0 (f91_r0 i h j w) (f91_r1 i h j w)))) (f82_r1 a (IntKind.i64.wrap (w * b)) (f152_r0 (f82_r0 (f91_r0 e d f w) (f91_r1 e d f w) (f152_r0 g 0 (f91_r0 i h j w) (f91_r1 i h j w)) (f152_r1 g 0 (f91_r0 i h j w) (f91_r1 i h j w))) (f82_r1 (f91_r0 e d f w) (f91_r1 e d f w) (f152_r0 g 0 (f91_r0 i h j w) (f91_r1 i h j w)) (f152_r1 g 0 (f91_r0 i h j w) (f91_r1 i h j w))) (f82_r0 g 0 (f91_r0 i h j w) (f91_r1 i h j w)) (f82_r1 g 0 (f91_r0 i h j w) (f91_r1 i h j w))) (f152_r1 (f82_r0 (f91_r0 e d f w) (f91_r1 e d f w) (f152_r0 g 0 (f91_r0 i h j w) (f91_r1 i h j w)) (f152_r1 g 0 (f91_r0 i h j w) (f91_r1 i h j w))) (f82_r1 (f91_r0 e d f w) (f91_r1 e d f w) (f152_r0 g 0 (f91_r0 i h j w) (f91_r1 i h j w)) (f152_r1 g 0 (f91_r0 i h j w) (f91_r1 i h j w))) (f82_r0 g 0 (f91_r0 i h j w) (f91_r1 i h j w)) (f82_r1 g 0 (f91_r0 i h j w) (f91_r1 i h j w)))) (f82_r0 0 (IntKind.i64.wrap (IntKind.i64.wrap (w * c) * c)) (f152_r0 g 0 (f91_r0 i h j w) (f91_r1 i h j w)) (f152_r1 g 0 (f91_r0 i h j w) (f91_r1 i h j w))) (f82_r1 0 (IntKind.i64.wrap (IntKind.i64.wrap (w * c) * c)) (f152_r0 g 0 (f91_r0 i h j w) (f91_r1 i h j w)) (f152_r1 g 0 (f91_r0 i h j w) (f91_r1 i h j w))))), (.int .i64 (f152_r0 (f82_r0 (f91_r0 e d f w) (f91_r1 e d f w) (f152_r0 g 0 (f91_r0 i h j w) (f91_r1 i h j w)) (f152_r1 g 0 (f91_r0 i h j w) (f91_r1 i h j w))) (f82_r1 (f91_r0 e d f w) (f91_r1 e d f w) (f152_r0 g 0 (f91_r0 i h j w) (f91_r1 i h j w)) (f152_r1 g 0 (f91_r0 i h j w) (f91_r1 i h j w))) (f82_r0 g 0 (f91_r0 i h j w) (f91_r1 i h j w)) (f82_r1 g 0 (f91_r0 i h j w) (f91_r1 i h j w)))), (.int .i64 (f152_r1 (f82_r0 (f91_r0 e d f w) (f91_r1 e d f w) (f152_r0 g 0 (f91_r0 i h j w) (f91_r1 i h j w)) (f152_r1 g 0 (f91_r0 i h j w) (f91_r1 i h j w))) (f82_r1 (f91_r0 e d f w) (f91_r1 e d f w) (f152_r0 g 0 (f91_r0 i h j w) (f91_r1 i h j w)) (f152_r1 g 0 (f91_r0 i h j w) (f91_r1 i h j w))) (f82_r0 g 0 (f91_r0 i h j w) (f91_r1 i h j w)) (f82_r1 g 0 (f91_r0 i h j w) (f91_r1 i h j w)))), (.int .i64 (f152_r0 g 0 (f91_r0 i h j w) (f91_r1 i h j w))), (.int .i64 (f152_r1 g 0 (f91_r0 i h j w) (f91_r1 i h j w))), (.int .i64 g), (.int .i64 (0)), (.int .i64 (f91_r0 i h j w)), (.int .i64 (f91_r1 i h j w))]), heapN) :=
  Gives.by (n := 1000) (os := [.br 108 60 false]) (os' := []) (by kernel_rfl) (ObsOK.cond h0 (ObsOK.nil))
def f108_r0 (a : Int) (b : Int) (c : Int) (d : Int) (e : Int) (f : Int) (g : Int) (h : Int) (i : Int) (j : Int) (w : Int) : Int := (cond (f108_c0 a b c d e f g h i j w) (f152_r0 (f82_r0 a (IntKind.i64.wrap (w * b)) (f91_r0 (IntKind.i64.wrap (e + g)) d f w) (f91_r1 (IntKind.i64.wrap (e + g)) d f w)) (f82_r1 a (IntKind.i64.wrap (w * b)) (f91_r0 (IntKind.i64.wrap (e + g)) d f w) (f91_r1 (IntKind.i64.wrap (e + g)) d f w)) (f82_r0 0 (IntKind.i64.wrap (IntKind.i64.wrap (w * c) * c)) 1 0) (f82_r1 0 (IntKind.i64.wrap (IntKind.i64.wrap (w * c) * c)) 1 0)) (f152_r0 (f82_r0 a (IntKind.i64.wrap (w * b)) (f152_r0 (f82_r0 (f91_r0 e d f w) (f91_r1 e d f w) (f152_r0 g 0 (f91_r0 i h j w) (f91_r1 i h j w)) (f152_r1 g 0 (f91_r0 i h j w) (f91_r1 i h j w))) (f82_r1 (f91_r0 e d f w) (f91_r1 e d f w) (f152_r0 g 0 (f91_r0 i h j w) (f91_r1 i h j w)) (f152_r1 g 0 (f91_r0 i h j w) (f91_r1 i h j w))) (f82_r0 g 0 (f91_r0 i h j w) (f91_r1 i h j w)) (f82_r1 g 0 (f91_r0 i h j w) (f91_r1 i h j w))) (f152_r1 (f82_r0 (f91_r0 e d f w) (f91_r1 e d f w) (f152_r0 g 0 (f91_r0 i h j w) (f91_r1 i h j w)) (f152_r1 g 0 (f91_r0 i h j w) (f91_r1 i h j w))) (f82_r1 (f91_r0 e d f w) (f91_r1 e d f w) (f152_r0 g 0 (f91_r0 i h j w) (f91_r1 i h j w)) (f152_r1 g 0 (f91_r0 i h j w) (f91_r1 i h j w))) (f82_r0 g 0 (f91_r0 i h j w) (f91_r1 i h j w)) (f82_r1 g 0 (f91_r0 i h j w) (f91_r1 i h j w)))) (f82_r1 a (IntKind.i64.wrap (w * b)) (f152_r0 (f82_r0 (f91_r0 e d f w) (f91_r1 e d f w) (f152_r0 g 0 (f91_r0 i h j w) (f91_r1 i h j w)) (f152_r1 g 0 (f91_r0 i h j w) (f91_r1 i h j w))) (f82_r1 (f91_r0 e d f w) (f91_r1 e d f w) (f152_r0 g 0 (f91_r0 i h j w) (f91_r1 i h j w)) (f152_r1 g 0 (f91_r0 i h j w) (f91_r1 i h j w))) (f82_r0 g 0 (f91_r0 i h j w) (f91_r1 i h j w)) (f82_r1 g 0 (f91_r0 i h j w) (f91_r1 i h j w))) (f152_r1 (f82_r0 (f91_r0 e d f w) (f91_r1 e d f w) (f152_r0 g 0 (f91_r0 i h j w) (f91_r1 i h j w)) (f152_r1 g 0 (f91_r0 i h j w) (f91_r1 i h j w))) (f82_r1 (f91_r0 e d f w) (f91_r1 e d f w) (f152_r0 g 0 (f91_r0 i h j w) (f91_r1 i h j w)) (f152_r1 g 0 (f91_r0 i h j w) (f91_r1 i h j w))) (f82_r0 g 0 (f91_r0 i h j w) (f91_r1 i h j w)) (f82_r1 g 0 (f91_r0 i h j w) (f91_r1 i h j w)))) (f82_r0 0 (IntKind.i64.wrap (IntKind.i64.wrap (w * c) * c)) (f152_r0 g 0 (f91_r0 i h j w) (f91_r1 i h j w)) (f152_r1 g 0 (f91_r0 i h j w) (f91_r1 i h j w))) (f82_r1 0 (IntKind.i64.wrap (IntKind.i64.wrap (w * c) * c)) (f152_r0 g 0 (f91_r0 i h j w) (f91_r1 i h j w)) (f152_r1 g 0 (f91_r0 i h j w) (f91_r1 i h j w)))))
def f108_r1 (a : Int) (b : Int) (c : Int) (d : Int) (e : Int) (f : Int) (g : Int) (h : Int) (i : Int) (j : Int) (w : Int) : Int := (cond (f108_c0 a b c d e f g h i j w) (f152_r1 (f82_r0 a (IntKind.i64.wrap (w * b)) (f91_r0 (IntKind.i64.wrap (e + g)) d f w) (f91_r1 (IntKind.i64.wrap (e + g)) d f w)) (f82_r1 a (IntKind.i64.wrap (w * b)) (f91_r0 (IntKind.i64.wrap (e + g)) d f w) (f91_r1 (IntKind.i64.wrap (e + g)) d f w)) (f82_r0 0 (IntKind.i64.wrap (IntKind.i64.wrap (w * c) * c)) 1 0) (f82_r1 0 (IntKind.i64.wrap (IntKind.i64.wrap (w * c) * c)) 1 0)) (f152_r1 (f82_r0 a (IntKind.i64.wrap (w * b)) (f152_r0 (f82_r0 (f91_r0 e d f w) (f91_r1 e d f w) (f152_r0 g 0 (f91_r0 i h j w) (f91_r1 i h j w)) (f152_r1 g 0 (f91_r0 i h j w) (f91_r1 i h j w))) (f82_r1 (f91_r0 e d f w) (f91_r1 e d f w) (f152_r0 g 0 (f91_r0 i h j w) (f91_r1 i h j w)) (f152_r1 g 0 (f91_r0 i h j w) (f91_r1 i h j w))) (f82_r0 g 0 (f91_r0 i h j w) (f91_r1 i h j w)) (f82_r1 g 0 (f91_r0 i h j w) (f91_r1 i h j w))) (f152_r1 (f82_r0 (f91_r0 e d f w) (f91_r1 e d f w) (f152_r0 g 0 (f91_r0 i h j w) (f91_r1 i h j w)) (f152_r1 g 0 (f91_r0 i h j w) (f91_r1 i h j w))) (f82_r1 (f91_r0 e d f w) (f91_r1 e d f w) (f152_r0 g 0 (f91_r0 i h j w) (f91_r1 i h j w)) (f152_r1 g 0 (f91_r0 i h j w) (f91_r1 i h j w))) (f82_r0 g 0 (f91_r0 i h j w) (f91_r1 i h j w)) (f82_r1 g 0 (f91_r0 i h j w) (f91_r1 i h j w)))) (f82_r1 a (IntKind.i64.wrap (w * b)) (f152_r0 (f82_r0 (f91_r0 e d f w) (f91_r1 e d f w) (f152_r0 g 0 (f91_r0 i h j w) (f91_r1 i h j w)) (f152_r1 g 0 (f91_r0 i h j w) (f91_r1 i h j w))) (f82_r1 (f91_r0 e d f w) (f91_r1 e d f w) (f152_r0 g 0 (f91_r0 i h j w) (f91_r1 i h j w)) (f152_r1 g 0 (f91_r0 i h j w) (f91_r1 i h j w))) (f82_r0 g 0 (f91_r0 i h j w) (f91_r1 i h j w)) (f82_r1 g 0 (f91_r0 i h j w) (f91_r1 i h j w))) (f152_r1 (f82_r0 (f91_r0 e d f w) (f91_r1 e d f w) (f152_r0 g 0 (f91_r0 i h j w) (f91_r1 i h j w)) (f152_r1 g 0 (f91_r0 i h j w) (f91_r1 i h j w))) (f82_r1 (f91_r0 e d f w) (f91_r1 e d f w) (f152_r0 g 0 (f91_r0 i h j w) (f91_r1 i h j w)) (f152_r1 g 0 (f91_r0 i h j w) (f91_r1 i h j w))) (f82_r0 g 0 (f91_r0 i h j w) (f91_r1 i h j w)) (f82_r1 g 0 (f91_r0 i h j w) (f91_r1 i h j w)))) (f82_r0 0 (IntKind.i64.wrap (IntKind.i64.wrap (w * c) * c)) (f152_r0 g 0 (f91_r0 i h j w) (f91_r1 i h j w)) (f152_r1 g 0 (f91_r0 i h j w) (f91_r1 i h j w))) (f82_r1 0 (IntKind.i64.wrap (IntKind.i64.wrap (w * c) * c)) (f152_r0 g 0 (f91_r0 i h j w) (f91_r1 i h j w)) (f152_r1 g 0 (f91_r0 i h j w) (f91_r1 i h j w)))))
def f108_r2 (a : Int) (b : Int) (c : Int) (d : Int) (e : Int) (f : Int) (g : Int) (h : Int) (i : Int) (j : Int) (w : Int) : Int := (cond (f108_c0 a b c d e f g h i j w) (f91_r0 (IntKind.i64.wrap (e + g)) d f w) (f152_r0 (f82_r0 (f91_r0 e d f w) (f91_r1 e d f w) (f152_r0 g 0 (f91_r0 i h j w) (f91_r1 i h j w)) (f152_r1 g 0 (f91_r0 i h j w) (f91_r1 i h j w))) (f82_r1 (f91_r0 e d f w) (f91_r1 e d f w) (f152_r0 g 0 (f91_r0 i h j w) (f91_r1 i h j w)) (f152_r1 g 0 (f91_r0 i h j w) (f91_r1 i h j w))) (f82_r0 g 0 (f91_r0 i h j w) (f91_r1 i h j w)) (f82_r1 g 0 (f91_r0 i h j w) (f91_r1 i h j w))))
def f108_r3 (a : Int) (b : Int) (c : Int) (d : Int) (e : Int) (f : Int) (g : Int) (h : Int) (i : Int) (j : Int) (w : Int) : Int := (cond (f108_c0 a b c d e f g h i j w) (f91_r1 (IntKind.i64.wrap (e + g)) d f w) (f152_r1 (f82_r0 (f91_r0 e d f w) (f91_r1 e d f w) (f152_r0 g 0 (f91_r0 i h j w) (f91_r1 i h j w)) (f152_r1 g 0 (f91_r0 i h j w) (f91_r1 i h j w))) (f82_r1 (f91_r0 e d f w) (f91_r1 e d f w) (f152_r0 g 0 (f91_r0 i h j w) (f91_r1 i h j w)) (f152_r1 g 0 (f91_r0 i h j w) (f91_r1 i h j w))) (f82_r0 g 0 (f91_r0 i h j w) (f91_r1 i h j w)) (f82_r1 g 0 (f91_r0 i h j w) (f91_r1 i h j w))))
def f108_r4 (a : Int) (b : Int) (c : Int) (d : Int) (e : Int) (f : Int) (g : Int) (h : Int) (i : Int) (j : Int) (w : Int) : Int := (cond (f108_c0 a b c d e f g h i j w) (1) (f152_r0 g 0 (f91_r0 i h j w) (f91_r1 i h j w)))
def f108_r5 (a : Int) (b : Int) (c : Int) (d : Int) (e : Int) (f : Int) (g : Int) (h : Int) (i : Int) (j : Int) (w : Int) : Int := (cond (f108_c0 a b c d e f g h i j w) (0) (f152_r1 g 0 (f91_r0 i h j w) (f91_r1 i h j w)))
def f108_r6 (a : Int) (b : Int) (c : Int) (d : Int) (e : Int) (f : Int) (g : Int) (h : Int) (i : Int) (j : Int) (w : Int) : Int := (cond (f108_c0 a b c d e f g h i j w) (0) (g))
def f108_r8 (a : Int) (b : Int) (c : Int) (d : Int) (e : Int) (f : Int) (g : Int) (h : Int) (i : Int) (j : Int) (w : Int) : Int := (cond (f108_c0 a b c d e f g h i j w) (1) (f91_r0 i h j w))
def f108_r9 (a : Int) (b : Int) (c : Int) (d : Int) (e : Int) (f : Int) (g : Int) (h : Int) (i : Int) (j : Int) (w : Int) : Int := (cond (f108_c0 a b c d e f g h i j w) (0) (f91_r1 i h j w))
theorem f108_gives (a : Int) (b : Int) (c : Int) (d : Int) (e : Int) (f : Int) (g : Int) (h : Int) (i : Int) (j : Int) (w : Int) : Gives Tryz.prog envG 0 108 [(.agg #[(.int .i64 (a)), (.int .i64 (b)), (.int .i64 (c)), (.int .i64 (d)), (.int .i64 (e)), (.int .i64 (f))]), (.agg #[(.int .i64 (g)), (.int .i64 (h)), (.int .i64 (i)), (.int .i64 (j))]), (.int .i64 (w))] heapN ((.agg #[(.int .i64 (f108_r0 a b c d e f g h i j w)), (.int .i64 (f108_r1 a b c d e f g h i j w)), (.int .i64 (f108_r2 a b c d e f g h i j w)), (.int .i64 (f108_r3 a b c d e f g h i j w)), (.int .i64 (f108_r4 a b c d e f g h i j w)), (.int .i64 (f108_r5 a b c d e f g h i j w)), (.int .i64 (f108_r6 a b c d e f g h i j w)), (.int .i64 (0)), (.int .i64 (f108_r8 a b c d e f g h i j w)), (.int .i64 (f108_r9 a b c d e f g h i j w))]), heapN) := by
  cases g0 : f108_c0 a b c d e f g h i j w
  · skip
    simp only [f108_r0, f108_r1, f108_r2, f108_r3, f108_r4, f108_r5, f108_r6, f108_r8, f108_r9, g0, cond_true, cond_false]; exact f108_p1 a b c d e f g h i j w g0
  · skip
    simp only [f108_r0, f108_r1, f108_r2, f108_r3, f108_r4, f108_r5, f108_r6, f108_r8, f108_r9, g0, cond_true, cond_false]; exact f108_p0 a b c d e f g h i j w g0
def f28_c0 (a : Int) (b : Int) (c : Int) (d : Int) (e : Int) (x : Int) (a' : Int) (b' : Int) (c' : Int) (d' : Int) : Bool := e == x
def f28_c1 (a : Int) (b : Int) (c : Int) (d : Int) (e : Int) (x : Int) (a' : Int) (b' : Int) (c' : Int) (d' : Int) : Bool := x != 0
def f28_c2 (a : Int) (b : Int) (c : Int) (d : Int) (e : Int) (x : Int) (a' : Int) (b' : Int) (c' : Int) (d' : Int) : Bool := a == 0 && (b == 0 && true) && (c == 0 && (d == 0 && true) && true)
def f28_c3 (a : Int) (b : Int) (c : Int) (d : Int) (e : Int) (x : Int) (a' : Int) (b' : Int) (c' : Int) (d' : Int) : Bool := x == 0
theorem f28_p0 (a : Int) (b : Int) (c : Int) (d : Int) (e : Int) (x : Int) (a' : Int) (b' : Int) (c' : Int) (d' : Int) (h0 : f28_c0 a b c d e x a' b' c' d' = true) (h1 : f28_c1 a b c d e x a' b' c' d' = true) (h2 : f28_c2 a b c d e x a' b' c' d' = true) : Gives Tryz.prog envG 0 28 [(.agg #[(.int .i64 (a)), (.int .i64 (b)), (.int .i64 (c)), (.int .i64 (d))]), (.int .i64 (e)), (.int .i64 (x)), (.agg #[(.int .i64 (a')), (.int .i64 (b')), (.int .i64 (c')), (.int .i64 (d'))])] heapN ((.bool true), heapN) :=
  Gives.by (n := 1000) (os := [.br 28 26 true, .br 28 26 true, .br 28 26 true, .br 28 32 true, .br 28 32 true, .br 28 32 true, .br 28 26 true, .br 28 41 true, .br 28 26 true, .br 28 42 true, .br 28 42 true, .br 28 42 true, .br 28 42 true, .br 28 26 true, .br 28 59 true, .br 28 61 true]) (os' := []) (by kernel_rfl) (ObsOK.cond h0 (ObsOK.cond h0 (ObsOK.cond h0 (ObsOK.cond h1 (ObsOK.cond h1 (ObsOK.cond h1 (ObsOK.cond h0 (ObsOK.cond h1 (ObsOK.cond h0 (ObsOK.cond h2 (ObsOK.cond h2 (ObsOK.cond h2 (ObsOK.cond h2 (ObsOK.cond h0 (ObsOK.cond h2 (ObsOK.cond h0 (ObsOK.nil)))))))))))))))))
theorem f28_p1 (a : Int) (b : Int) (c : Int) (d : Int) (e : Int) (x : Int) (a' : Int) (b' : Int) (c' : Int) (d' : Int) (h0 : f28_c0 a b c d e x a' b' c' d' = true) (h1 : f28_c1 a b c d e x a' b' c' d' = true) (h2 : f28_c2 a b c d e x a' b' c' d' = false) (h3 : f28_c3 a b c d e x a' b' c' d' = true) : Gives Tryz.prog envG 0 28 [(.agg #[(.int .i64 (a)), (.int .i64 (b)), (.int .i64 (c)), (.int .i64 (d))]), (.int .i64 (e)), (.int .i64 (x)), (.agg #[(.int .i64 (a')), (.int .i64 (b')), (.int .i64 (c')), (.int .i64 (d'))])] heapN ((.bool (a == a' && (b == b' && true) && (c == c' && (d == d' && true) && true))), heapN) :=
  Gives.by (n := 1000) (os := [.br 28 26 true, .br 28 26 true, .br 28 26 true, .br 28 32 true, .br 28 32 true, .br 28 32 true, .br 28 26 true, .br 28 41 true, .br 28 26 true, .br 28 42 false, .br 28 42 false, .br 28 42 false, .br 28 48 true, .br 28 48 true, .br 28 48 true, .br 28 42 false, .br 28 57 true, .br 28 26 true, .br 28 59 false, .br 28 61 true]) (os' := []) (by kernel_rfl) (ObsOK.cond h0 (ObsOK.cond h0 (ObsOK.cond h0 (ObsOK.cond h1 (ObsOK.cond h1 (ObsOK.cond h1 (ObsOK.cond h0 (ObsOK.cond h1 (ObsOK.cond h0 (ObsOK.cond h2 (ObsOK.cond h2 (ObsOK.cond h2 (ObsOK.cond h3 (ObsOK.cond h3 (ObsOK.cond h3 (ObsOK.cond h2 (ObsOK.cond h3 (ObsOK.cond h0 (ObsOK.cond h2 (ObsOK.cond h0 (ObsOK.nil)))))))))))))))))))))
theorem f28_p2 (a : Int) (b : Int) (c : Int) (d : Int) (e : Int) (x : Int) (a' : Int) (b' : Int) (c' : Int) (d' : Int) (h0 : f28_c0 a b c d e x a' b' c' d' = true) (h1 : f28_c1 a b c d e x a' b' c' d' = true) (h2 : f28_c2 a b c d e x a' b' c' d' = false) (h3 : f28_c3 a b c d e x a' b' c' d' = false) : Gives Tryz.prog envG 0 28 [(.agg #[(.int .i64 (a)), (.int .i64 (b)), (.int .i64 (c)), (.int .i64 (d))]), (.int .i64 (e)), (.int .i64 (x)), (.agg #[(.int .i64 (a')), (.int .i64 (b')), (.int .i64 (c')), (.int .i64 (d'))])] heapN ((.bool false), heapN) :=
  Gives.by (n := 1000) (os := [.br 28 26 true, .br 28 26 true, .br 28 26 true, .br 28 32 true, .br 28 32 true, .br 28 32 true, .br 28 26 true, .br 28 41 true, .br 28 26 true, .br 28 42 false, .br 28 42 false, .br 28 42 false, .br 28 48 false, .br 28 48 false, .br 28 48 false, .br 28 42 false, .br 28 57 false, .br 28 26 true, .br 28 59 false, .br 28 61 true]) (os' := []) (by kernel_rfl) (ObsOK.cond h0 (ObsOK.cond h0 (ObsOK.cond h0 (ObsOK.cond h1 (ObsOK.cond h1 (ObsOK.cond h1 (ObsOK.cond h0 (ObsOK.cond h1 (ObsOK.cond h0 (ObsOK.cond h2 (ObsOK.cond h2 (ObsOK.cond h2 (ObsOK.cond h3 (ObsOK.cond h3 (ObsOK.cond h3 (ObsOK.cond h2 (ObsOK.cond h3 (ObsOK.cond h0 (ObsOK.cond h2 (ObsOK.cond h0 (ObsOK.nil)))))))))))))))))))))
theorem f28_p3 (a : Int) (b : Int) (c : Int) (d : Int) (e : Int) (x : Int) (a' : Int) (b' : Int) (c' : Int) (d' : Int) (h0 : f28_c0 a b c d e x a' b' c' d' = true) (h1 : f28_c1 a b c d e x a' b' c' d' = false) (h2 : f28_c3 a b c d e x a' b' c' d' = true) : Gives Tryz.prog envG 0 28 [(.agg #[(.int .i64 (a)), (.int .i64 (b)), (.int .i64 (c)), (.int .i64 (d))]), (.int .i64 (e)), (.int .i64 (x)), (.agg #[(.int .i64 (a')), (.int .i64 (b')), (.int .i64 (c')), (.int .i64 (d'))])] heapN ((.bool (a == a' && (b == b' && true) && (c == c' && (d == d' && true) && true))), heapN) :=
  Gives.by (n := 1000) (os := [.br 28 26 true, .br 28 26 true, .br 28 26 true, .br 28 32 false, .br 28 32 false, .br 28 32 false, .br 28 26 true, .br 28 41 false, .br 28 26 true, .br 28 48 true, .br 28 48 true, .br 28 48 true, .br 28 57 true, .br 28 26 true, .br 28 61 true]) (os' := []) (by kernel_rfl) (ObsOK.cond h0 (ObsOK.cond h0 (ObsOK.cond h0 (ObsOK.cond h1 (ObsOK.cond h1 (ObsOK.cond h1 (ObsOK.cond h0 (ObsOK.cond h1 (ObsOK.cond h0 (ObsOK.cond h2 (ObsOK.cond h2 (ObsOK.cond h2 (ObsOK.cond h2 (ObsOK.cond h0 (ObsOK.cond h0 (ObsOK.nil))))))))))))))))
theorem f28_p4 (a : Int) (b : Int) (c : Int) (d : Int) (e : Int) (x : Int) (a' : Int) (b' : Int) (c' : Int) (d' : Int) (h0 : f28_c0 a b c d e x a' b' c' d' = true) (h1 : f28_c1 a b c d e x a' b' c' d' = false) (h2 : f28_c3 a b c d e x a' b' c' d' = false) : Gives Tryz.prog envG 0 28 [(.agg #[(.int .i64 (a)), (.int .i64 (b)), (.int .i64 (c)), (.int .i64 (d))]), (.int .i64 (e)), (.int .i64 (x)), (.agg #[(.int .i64 (a')), (.int .i64 (b')), (.int .i64 (c')), (.int .i64 (d'))])] heapN ((.bool false), heapN) :=
  Gives.by (n := 1000) (os := [.br 28 26 true, .br 28 26 true, .br 28 26 true, .br 28 32 false, .br 28 32 false, .br 28 32 false, .br 28 26 true, .br 28 41 false, .br 28 26 true, .br 28 48 false, .br 28 48 false, .br 28 48 false, .br 28 57 false, .br 28 26 true, .br 28 61 true]) (os' := []) (by kernel_rfl) (ObsOK.cond h0 (ObsOK.cond h0 (ObsOK.cond h0 (ObsOK.cond h1 (ObsOK.cond h1 (ObsOK.cond h1 (ObsOK.cond h0 (ObsOK.cond h1 (ObsOK.cond h0 (ObsOK.cond h2 (ObsOK.cond h2 (ObsOK.cond h2 (ObsOK.cond h2 (ObsOK.cond h0 (ObsOK.cond h0 (ObsOK.nil))))))))))))))))
theorem f28_p5 (a : Int) (b : Int) (c : Int) (d : Int) (e : Int) (x : Int) (a' : Int) (b' : Int) (c' : Int) (d' : Int) (h0 : f28_c0 a b c d e x a' b' c' d' = false) : Gives Tryz.prog envG 0 28 [(.agg #[(.int .i64 (a)), (.int .i64 (b)), (.int .i64 (c)), (.int .i64 (d))]), (.int .i64 (e)), (.int .i64 (x)), (.agg #[(.int .i64 (a')), (.int .i64 (b')), (.int .i64 (c')), (.int .i64 (d'))])] heapN ((.bool false), heapN) :=
  Gives.by (n := 1000) (os := [.br 28 26 false, .br 28 26 false, .br 28 26 false, .br 28 26 false, .br 28 26 false, .br 28 26 false, .br 28 61 false]) (os' := []) (by kernel_rfl) (ObsOK.cond h0 (ObsOK.cond h0 (ObsOK.cond h0 (ObsOK.cond h0 (ObsOK.cond h0 (ObsOK.cond h0 (ObsOK.cond h0 (ObsOK.nil))))))))
def f28_r0 (a : Int) (b : Int) (c : Int) (d : Int) (e : Int) (x : Int) (a' : Int) (b' : Int) (c' : Int) (d' : Int) : Bool := (cond (f28_c0 a b c d e x a' b' c' d') (cond (f28_c1 a b c d e x a' b' c' d') (cond (f28_c2 a b c d e x a' b' c' d') (true) (cond (f28_c3 a b c d e x a' b' c' d') (a == a' && (b == b' && true) && (c == c' && (d == d' && true) && true)) (false))) (cond (f28_c3 a b c d e x a' b' c' d') (a == a' && (b == b' && true) && (c == c' && (d == d' && true) && true)) (false))) (false))
theorem f28_gives (a : Int) (b : Int) (c : Int) (d : Int) (e : Int) (x : Int) (a' : Int) (b' : Int) (c' : Int) (d' : Int) : Gives Tryz.prog envG 0 28 [(.agg #[(.int .i64 (a)), (.int .i64 (b)), (.int .i64 (c)), (.int .i64 (d))]), (.int .i64 (e)), (.int .i64 (x)), (.agg #[(.int .i64 (a')), (.int .i64 (b')), (.int .i64 (c')), (.int .i64 (d'))])] heapN ((.bool (f28_r0 a b c d e x a' b' c' d')), heapN) := by
  cases g0 : f28_c0 a b c d e x a' b' c' d'
  · skip
    simp only [f28_r0, g0, cond_true, cond_false]; exact f28_p5 a b c d e x a' b' c' d' g0
  · skip
    cases g1 : f28_c1 a b c d e x a' b' c' d'
    · skip
      cases g3 : f28_c3 a b c d e x a' b' c' d'
      · skip
        simp only [f28_r0, g0, g1, g3, cond_true, cond_false]; exact f28_p4 a b c d e x a' b' c' d' g0 g1 g3
      · skip
        simp only [f28_r0, g0, g1, g3, cond_true, cond_false]; exact f28_p3 a b c d e x a' b' c' d' g0 g1 g3
    · skip
      cases g2 : f28_c2 a b c d e x a' b' c' d'
      · skip
        cases g3 : f28_c3 a b c d e x a' b' c' d'
        · skip
          simp only [f28_r0, g0, g1, g2, g3, cond_true, cond_false]; exact f28_p2 a b c d e x a' b' c' d' g0 g1 g2 g3
        · skip
          simp only [f28_r0, g0, g1, g2, g3, cond_true, cond_false]; exact f28_p1 a b c d e x a' b' c' d' g0 g1 g2 g3
      · skip
        simp only [f28_r0, g0, g1, g2, cond_true, cond_false]; exact f28_p0 a b c d e x a' b' c' d' g0 g1 g2
def f43_c0 (a : Int) (b : Int) (e : Int) (x : Int) (a' : Int) (b' : Int) : Bool := e == x
def f43_c1 (a : Int) (b : Int) (e : Int) (x : Int) (a' : Int) (b' : Int) : Bool := x != 0
def f43_c2 (a : Int) (b : Int) (e : Int) (x : Int) (a' : Int) (b' : Int) : Bool := a == 0 && (b == 0 && true)
def f43_c3 (a : Int) (b : Int) (e : Int) (x : Int) (a' : Int) (b' : Int) : Bool := x == 0
theorem f43_p0 (a : Int) (b : Int) (e : Int) (x : Int) (a' : Int) (b' : Int) (h0 : f43_c0 a b e x a' b' = true) (h1 : f43_c1 a b e x a' b' = true) (h2 : f43_c2 a b e x a' b' = true) : Gives Tryz.prog envG 0 43 [(.agg #[(.int .i64 (a)), (.int .i64 (b))]), (.int .i64 (e)), (.int .i64 (x)), (.agg #[(.int .i64 (a')), (.int .i64 (b'))])] heapN ((.bool true), heapN) :=
  Gives.by (n := 1000) (os := [.br 43 26 true, .br 43 26 true, .br 43 26 true, .br 43 32 true, .br 43 32 true, .br 43 32 true, .br 43 26 true, .br 43 41 true, .br 43 26 true, .br 43 42 true, .br 43 42 true, .br 43 42 true, .br 43 42 true, .br 43 26 true, .br 43 59 true, .br 43 61 true]) (os' := []) (by kernel_rfl) (ObsOK.cond h0 (ObsOK.cond h0 (ObsOK.cond h0 (ObsOK.cond h1 (ObsOK.cond h1 (ObsOK.cond h1 (ObsOK.cond h0 (ObsOK.cond h1 (ObsOK.cond h0 (ObsOK.cond h2 (ObsOK.cond h2 (ObsOK.cond h2 (ObsOK.cond h2 (ObsOK.cond h0 (ObsOK.cond h2 (ObsOK.cond h0 (ObsOK.nil)))))))))))))))))
theorem f43_p1 (a : Int) (b : Int) (e : Int) (x : Int) (a' : Int) (b' : Int) (h0 : f43_c0 a b e x a' b' = true) (h1 : f43_c1 a b e x a' b' = true) (h2 : f43_c2 a b e x a' b' = false) (h3 : f43_c3 a b e x a' b' = true) : Gives Tryz.prog envG 0 43 [(.agg #[(.int .i64 (a)), (.int .i64 (b))]), (.int .i64 (e)), (.int .i64 (x)), (.agg #[(.int .i64 (a')), (.int .i64 (b'))])] heapN ((.bool (a == a' && (b == b' && true))), heapN) :=
  Gives.by (n := 1000) (os := [.br 43 26 true, .br 43 26 true, .br 43 26 true, .br 43 32 true, .br 43 32 true, .br 43 32 true, .br 43 26 true, .br 43 41 true, .br 43 26 true, .br 43 42 false, .br 43 42 false, .br 43 42 false, .br 43 48 true, .br 43 48 true, .br 43 48 true, .br 43 42 false, .br 43 57 true, .br 43 26 true, .br 43 59 false, .br 43 61 true]) (os' := []) (by kernel_rfl) (ObsOK.cond h0 (ObsOK.cond h0 (ObsOK.cond h0 (ObsOK.cond h1 (ObsOK.cond h1 (ObsOK.cond h1 (ObsOK.cond h0 (ObsOK.cond h1 (ObsOK.cond h0 (ObsOK.cond h2 (ObsOK.cond h2 (ObsOK.cond h2 (ObsOK.cond h3 (ObsOK.cond h3 (ObsOK.cond h3 (ObsOK.cond h2 (ObsOK.cond h3 (ObsOK.cond h0 (ObsOK.cond h2 (ObsOK.cond h0 (ObsOK.nil)))))))))))))))))))))
theorem f43_p2 (a : Int) (b : Int) (e : Int) (x : Int) (a' : Int) (b' : Int) (h0 : f43_c0 a b e x a' b' = true) (h1 : f43_c1 a b e x a' b' = true) (h2 : f43_c2 a b e x a' b' = false) (h3 : f43_c3 a b e x a' b' = false) : Gives Tryz.prog envG 0 43 [(.agg #[(.int .i64 (a)), (.int .i64 (b))]), (.int .i64 (e)), (.int .i64 (x)), (.agg #[(.int .i64 (a')), (.int .i64 (b'))])] heapN ((.bool false), heapN) :=
  Gives.by (n := 1000) (os := [.br 43 26 true, .br 43 26 true, .br 43 26 true, .br 43 32 true, .br 43 32 true, .br 43 32 true, .br 43 26 true, .br 43 41 true, .br 43 26 true, .br 43 42 false, .br 43 42 false, .br 43 42 false, .br 43 48 false, .br 43 48 false, .br 43 48 false, .br 43 42 false, .br 43 57 false, .br 43 26 true, .br 43 59 false, .br 43 61 true]) (os' := []) (by kernel_rfl) (ObsOK.cond h0 (ObsOK.cond h0 (ObsOK.cond h0 (ObsOK.cond h1 (ObsOK.cond h1 (ObsOK.cond h1 (ObsOK.cond h0 (ObsOK.cond h1 (ObsOK.cond h0 (ObsOK.cond h2 (ObsOK.cond h2 (ObsOK.cond h2 (ObsOK.cond h3 (ObsOK.cond h3 (ObsOK.cond h3 (ObsOK.cond h2 (ObsOK.cond h3 (ObsOK.cond h0 (ObsOK.cond h2 (ObsOK.cond h0 (ObsOK.nil)))))))))))))))))))))
theorem f43_p3 (a : Int) (b : Int) (e : Int) (x : Int) (a' : Int) (b' : Int) (h0 : f43_c0 a b e x a' b' = true) (h1 : f43_c1 a b e x a' b' = false) (h2 : f43_c3 a b e x a' b' = true) : Gives Tryz.prog envG 0 43 [(.agg #[(.int .i64 (a)), (.int .i64 (b))]), (.int .i64 (e)), (.int .i64 (x)), (.agg #[(.int .i64 (a')), (.int .i64 (b'))])] heapN ((.bool (a == a' && (b == b' && true))), heapN) :=
  Gives.by (n := 1000) (os := [.br 43 26 true, .br 43 26 true, .br 43 26 true, .br 43 32 false, .br 43 32 false, .br 43 32 false, .br 43 26 true, .br 43 41 false, .br 43 26 true, .br 43 48 true, .br 43 48 true, .br 43 48 true, .br 43 57 true, .br 43 26 true, .br 43 61 true]) (os' := []) (by kernel_rfl) (ObsOK.cond h0 (ObsOK.cond h0 (ObsOK.cond h0 (ObsOK.cond h1 (ObsOK.cond h1 (ObsOK.cond h1 (ObsOK.cond h0 (ObsOK.cond h1 (ObsOK.cond h0 (ObsOK.cond h2 (ObsOK.cond h2 (ObsOK.cond h2 (ObsOK.cond h2 (ObsOK.cond h0 (ObsOK.cond h0 (ObsOK.nil))))))))))))))))
theorem f43_p4 (a : Int) (b : Int) (e : Int) (x : Int) (a' : Int) (b' : Int) (h0 : f43_c0 a b e x a' b' = true) (h1 : f43_c1 a b e x a' b' = false) (h2 : f43_c3 a b e x a' b' = false) : Gives Tryz.prog envG 0 43 [(.agg #[(.int .i64 (a)), (.int .i64 (b))]), (.int .i64 (e)), (.int .i64 (x)), (.agg #[(.int .i64 (a')), (.int .i64 (b'))])] heapN ((.bool false), heapN) :=
  Gives.by (n := 1000) (os := [.br 43 26 true, .br 43 26 true, .br 43 26 true, .br 43 32 false, .br 43 32 false, .br 43 32 false, .br 43 26 true, .br 43 41 false, .br 43 26 true, .br 43 48 false, .br 43 48 false, .br 43 48 false, .br 43 57 false, .br 43 26 true, .br 43 61 true]) (os' := []) (by kernel_rfl) (ObsOK.cond h0 (ObsOK.cond h0 (ObsOK.cond h0 (ObsOK.cond h1 (ObsOK.cond h1 (ObsOK.cond h1 (ObsOK.cond h0 (ObsOK.cond h1 (ObsOK.cond h0 (ObsOK.cond h2 (ObsOK.cond h2 (ObsOK.cond h2 (ObsOK.cond h2 (ObsOK.cond h0 (ObsOK.cond h0 (ObsOK.nil))))))))))))))))
theorem f43_p5 (a : Int) (b : Int) (e : Int) (x : Int) (a' : Int) (b' : Int) (h0 : f43_c0 a b e x a' b' = false) : Gives Tryz.prog envG 0 43 [(.agg #[(.int .i64 (a)), (.int .i64 (b))]), (.int .i64 (e)), (.int .i64 (x)), (.agg #[(.int .i64 (a')), (.int .i64 (b'))])] heapN ((.bool false), heapN) :=
  Gives.by (n := 1000) (os := [.br 43 26 false, .br 43 26 false, .br 43 26 false, .br 43 26 false, .br 43 26 false, .br 43 26 false, .br 43 61 false]) (os' := []) (by kernel_rfl) (ObsOK.cond h0 (ObsOK.cond h0 (ObsOK.cond h0 (ObsOK.cond h0 (ObsOK.cond h0 (ObsOK.cond h0 (ObsOK.cond h0 (ObsOK.nil))))))))
def f43_r0 (a : Int) (b : Int) (e : Int) (x : Int) (a' : Int) (b' : Int) : Bool := (cond (f43_c0 a b e x a' b') (cond (f43_c1 a b e x a' b') (cond (f43_c2 a b e x a' b') (true) (cond (f43_c3 a b e x a' b') (a == a' && (b == b' && true)) (false))) (cond (f43_c3 a b e x a' b') (a == a' && (b == b' && true)) (false))) (false))
theorem f43_gives (a : Int) (b : Int) (e : Int) (x : Int) (a' : Int) (b' : Int) : Gives Tryz.prog envG 0 43 [(.agg #[(.int .i64 (a)), (.int .i64 (b))]), (.int .i64 (e)), (.int .i64 (x)), (.agg #[(.int .i64 (a')), (.int .i64 (b'))])] heapN ((.bool (f43_r0 a b e x a' b')), heapN) := by
  cases g0 : f43_c0 a b e x a' b'
  · skip
    simp only [f43_r0, g0, cond_true, cond_false]; exact f43_p5 a b e x a' b' g0
  · skip
    cases g1 : f43_c1 a b e x a' b'
    · skip
      cases g3 : f43_c3 a b e x a' b'
      · skip
        simp only [f43_r0, g0, g1, g3, cond_true, cond_false]; exact f43_p4 a b e x a' b' g0 g1 g3
      · skip
        simp only [f43_r0, g0, g1, g3, cond_true, cond_false]; exact f43_p3 a b e x a' b' g0 g1 g3
    · skip
      cases g2 : f43_c2 a b e x a' b'
      · skip
        cases g3 : f43_c3 a b e x a' b'
        · skip
          simp only [f43_r0, g0, g1, g2, g3, cond_true, cond_false]; exact f43_p2 a b e x a' b' g0 g1 g2 g3
        · skip
          simp only [f43_r0, g0, g1, g2, g3, cond_true, cond_false]; exact f43_p1 a b e x a' b' g0 g1 g2 g3
      · skip
        simp only [f43_r0, g0, g1, g2, cond_true, cond_false]; exact f43_p0 a b e x a' b' g0 g1 g2
def B_envH (f : FuncId) (args : List Value) : Option (Heap × Value) :=
  if f == 150 then
    match args with
    | [(.agg ⟨[(.int .i64 (a)), (.int .i64 (b)), (.int .i64 (c)), (.int .i64 (d)), (.int .i64 (e)), (.int .i64 (f))]⟩), (.int .i64 (w)), (.agg ⟨[(.int .i64 (g)), (.int .i64 (h)), (.int .i64 (i)), (.int .i64 (j)), (.int .i64 (k)), (.int .i64 (l))]⟩)] => some (heapN, (.agg #[(.int .i64 (f150_r0 a b c d e f w g h i j k l)), (.int .i64 (f150_r1 a b c d e f w g h i j k l)), (.int .i64 (f150_r2 a b c d e f w g h i j k l)), (.int .i64 (f150_r3 a b c d e f w g h i j k l)), (.int .i64 (f150_r4 a b c d e f w g h i j k l)), (.int .i64 (f150_r5 a b c d e f w g h i j k l)), (.int .i64 (f150_r6 a b c d e f w g h i j k l)), (.int .i64 (f150_r7 a b c d e f w g h i j k l)), (.int .i64 (f150_r8 a b c d e f w g h i j k l)), (.int .i64 (f150_r9 a b c d e f w g h i j k l)), (.int .i64 (f150_r10 a b c d e f w g h i j k l)), (.int .i64 (f150_r11 a b c d e f w g h i j k l)), (.int .i64 (f150_r12 a b c d e f w g h i j k l)), (.int .i64 (f150_r13 a b c d e f w g h i j k l)), (.int .i64 (f150_r14 a b c d e f w g h i j k l)), (.int .i64 (f150_r15 a b c d e f w g h i j k l)), (.int .i64 (f150_r16 a b c d e f w g h i j k l)), (.int .i64 (f150_r17 a b c d e f w g h i j k l))]))
    | _ => none
  else  if f == 108 then
    match args with
    | [(.agg ⟨[(.int .i64 (a)), (.int .i64 (b)), (.int .i64 (c)), (.int .i64 (d)), (.int .i64 (e)), (.int .i64 (f))]⟩), (.agg ⟨[(.int .i64 (g)), (.int .i64 (h)), (.int .i64 (i)), (.int .i64 (j))]⟩), (.int .i64 (w))] => some (heapN, (.agg #[(.int .i64 (f108_r0 a b c d e f g h i j w)), (.int .i64 (f108_r1 a b c d e f g h i j w)), (.int .i64 (f108_r2 a b c d e f g h i j w)), (.int .i64 (f108_r3 a b c d e f g h i j w)), (.int .i64 (f108_r4 a b c d e f g h i j w)), (.int .i64 (f108_r5 a b c d e f g h i j w)), (.int .i64 (f108_r6 a b c d e f g h i j w)), (.int .i64 (0)), (.int .i64 (f108_r8 a b c d e f g h i j w)), (.int .i64 (f108_r9 a b c d e f g h i j w))]))
    | _ => none
  else  if f == 28 then
    match args with
    | [(.agg ⟨[(.int .i64 (a)), (.int .i64 (b)), (.int .i64 (c)), (.int .i64 (d))]⟩), (.int .i64 (e)), (.int .i64 (x)), (.agg ⟨[(.int .i64 (a')), (.int .i64 (b')), (.int .i64 (c')), (.int .i64 (d'))]⟩)] => some (heapN, (.bool (f28_r0 a b c d e x a' b' c' d')))
    | _ => none
  else  if f == 43 then
    match args with
    | [(.agg ⟨[(.int .i64 (a)), (.int .i64 (b))]⟩), (.int .i64 (e)), (.int .i64 (x)), (.agg ⟨[(.int .i64 (a')), (.int .i64 (b'))]⟩)] => some (heapN, (.bool (f43_r0 a b e x a' b')))
    | _ => none
  else none
noncomputable def envH : Env := envG.with (baseKnown B_envH)
theorem envH_ok : EnvOK Tryz.prog 9 envH := env_base prog_ok envG_ok fun f args H v h => by
  unfold B_envH at h
  split at h
  · rename_i hf
    have hf : f = 150 := by simpa using hf
    subst hf
    split at h
    · cases h; exact heapN_ok (f150_gives _ _ _ _ _ _ _ _ _ _ _ _ _)
    · cases h
  · skip
    split at h
    · rename_i hf
      have hf : f = 108 := by simpa using hf
      subst hf
      split at h
      · cases h; exact heapN_ok (f108_gives _ _ _ _ _ _ _ _ _ _ _)
      · cases h
    · skip
      split at h
      · rename_i hf
        have hf : f = 28 := by simpa using hf
        subst hf
        split at h
        · cases h; exact heapN_ok (f28_gives _ _ _ _ _ _ _ _ _ _)
        · cases h
      · skip
        split at h
        · rename_i hf
          have hf : f = 43 := by simpa using hf
          subst hf
          split at h
          · cases h; exact heapN_ok (f43_gives _ _ _ _ _ _)
          · cases h
        · skip
          cases h
end Go.Proofs.YtkndhhnjgpialaaGreatDoor
/-
What functions give.
-/
namespace Go.Proofs.YtkndhhnjgpialaaGreatDoor
open Go Go.Abs
theorem f144_p0 (a : Int) (b : Int) (c : Int) (d : Int) (e : Int) (f : Int) (w : Int) : Gives Tryz.prog envH 0 144 [(.agg #[(.int .i64 (a)), (.int .i64 (b)), (.int .i64 (c)), (.int .i64 (d)), (.int .i64 (e)), (.int .i64 (f))]), (.int .i64 (w))] heapN ((.agg #[(.int .i64 (f150_r0 a b c d e f w 0 0 1 0 1 0)), (.int .i64 (f150_r1 a b c d e f w 0 0 1 0 1 0)), (.int .i64 (f150_r2 a b c d e f w 0 0 1 0 1 0)), (.int .i64 (f150_r3 a b c d e f w 0 0 1 0 1 0)), (.int .i64 (f150_r4 a b c d e f w 0 0 1 0 1 0)), (.int .i64 (f150_r5 a b c d e f w 0 0 1 0 1 0)), (.int .i64 (f150_r6 a b c d e f w 0 0 1 0 1 0)), (.int .i64 (f150_r7 a b c d e f w 0 0 1 0 1 0)), (.int .i64 (f150_r8 a b c d e f w 0 0 1 0 1 0)), (.int .i64 (f150_r9 a b c d e f w 0 0 1 0 1 0)), (.int .i64 (0)), (.int .i64 (0)), (.int .i64 (1)), (.int .i64 (0)), (.int .i64 (f150_r14 a b c d e f w 0 0 1 0 1 0)), (.int .i64 (f150_r15 a b c d e f w 0 0 1 0 1 0)), (.int .i64 (f150_r16 a b c d e f w 0 0 1 0 1 0)), (.int .i64 (f150_r17 a b c d e f w 0 0 1 0 1 0))]), heapN) :=
  Gives.by (n := 1000) (os := []) (os' := []) (by kernel_rfl) (ObsOK.nil)
def f144_r0 (a : Int) (b : Int) (c : Int) (d : Int) (e : Int) (f : Int) (w : Int) : Int := (f150_r0 a b c d e f w 0 0 1 0 1 0)
def f144_r1 (a : Int) (b : Int) (c : Int) (d : Int) (e : Int) (f : Int) (w : Int) : Int := (f150_r1 a b c d e f w 0 0 1 0 1 0)
def f144_r2 (a : Int) (b : Int) (c : Int) (d : Int) (e : Int) (f : Int) (w : Int) : Int := (f150_r2 a b c d e f w 0 0 1 0 1 0)
def f144_r3 (a : Int) (b : Int) (c : Int) (d : Int) (e : Int) (f : Int) (w : Int) : Int := (f150_r3 a b c d e f w 0 0 1 0 1 0)
def f144_r4 (a : Int) (b : Int) (c : Int) (d : Int) (e : Int) (f : Int) (w : Int) : Int := (f150_r4 a b c d e f w 0 0 1 0 1 0)
def f144_r5 (a : Int) (b : Int) (c : Int) (d : Int) (e : Int) (f : Int) (w : Int) : Int := (f150_r5 a b c d e f w 0 0 1 0 1 0)
def f144_r6 (a : Int) (b : Int) (c : Int) (d : Int) (e : Int) (f : Int) (w : Int) : Int := (f150_r6 a b c d e f w 0 0 1 0 1 0)
def f144_r7 (a : Int) (b : Int) (c : Int) (d : Int) (e : Int) (f : Int) (w : Int) : Int := (f150_r7 a b c d e f w 0 0 1 0 1 0)
def f144_r8 (a : Int) (b : Int) (c : Int) (d : Int) (e : Int) (f : Int) (w : Int) : Int := (f150_r8 a b c d e f w 0 0 1 0 1 0)
def f144_r9 (a : Int) (b : Int) (c : Int) (d : Int) (e : Int) (f : Int) (w : Int) : Int := (f150_r9 a b c d e f w 0 0 1 0 1 0)
def f144_r14 (a : Int) (b : Int) (c : Int) (d : Int) (e : Int) (f : Int) (w : Int) : Int := (f150_r14 a b c d e f w 0 0 1 0 1 0)
def f144_r15 (a : Int) (b : Int) (c : Int) (d : Int) (e : Int) (f : Int) (w : Int) : Int := (f150_r15 a b c d e f w 0 0 1 0 1 0)
def f144_r16 (a : Int) (b : Int) (c : Int) (d : Int) (e : Int) (f : Int) (w : Int) : Int := (f150_r16 a b c d e f w 0 0 1 0 1 0)
def f144_r17 (a : Int) (b : Int) (c : Int) (d : Int) (e : Int) (f : Int) (w : Int) : Int := (f150_r17 a b c d e f w 0 0 1 0 1 0)
theorem f144_gives (a : Int) (b : Int) (c : Int) (d : Int) (e : Int) (f : Int) (w : Int) : Gives Tryz.prog envH 0 144 [(.agg #[(.int .i64 (a)), (.int .i64 (b)), (.int .i64 (c)), (.int .i64 (d)), (.int .i64 (e)), (.int .i64 (f))]), (.int .i64 (w))] heapN ((.agg #[(.int .i64 (f144_r0 a b c d e f w)), (.int .i64 (f144_r1 a b c d e f w)), (.int .i64 (f144_r2 a b c d e f w)), (.int .i64 (f144_r3 a b c d e f w)), (.int .i64 (f144_r4 a b c d e f w)), (.int .i64 (f144_r5 a b c d e f w)), (.int .i64 (f144_r6 a b c d e f w)), (.int .i64 (f144_r7 a b c d e f w)), (.int .i64 (f144_r8 a b c d e f w)), (.int .i64 (f144_r9 a b c d e f w)), (.int .i64 (0)), (.int .i64 (0)), (.int .i64 (1)), (.int .i64 (0)), (.int .i64 (f144_r14 a b c d e f w)), (.int .i64 (f144_r15 a b c d e f w)), (.int .i64 (f144_r16 a b c d e f w)), (.int .i64 (f144_r17 a b c d e f w))]), heapN) := by
  simp only [f144_r0, f144_r1, f144_r2, f144_r3, f144_r4, f144_r5, f144_r6, f144_r7, f144_r8, f144_r9, f144_r14, f144_r15, f144_r16, f144_r17, cond_true, cond_false]; exact f144_p0 a b c d e f w
theorem f38_p0 (a : Int) (b : Int) (c : Int) (d : Int) (e : Int) (f : Int) (g : Int) (h : Int) (i : Int) (j : Int) (w : Int) : Gives Tryz.prog envH 0 38 [(.agg #[(.int .i64 (a)), (.int .i64 (b)), (.int .i64 (c)), (.int .i64 (d)), (.int .i64 (e)), (.int .i64 (f))]), (.agg #[(.int .i64 (g)), (.int .i64 (h)), (.int .i64 (i)), (.int .i64 (j))]), (.int .i64 (w))] heapN ((.agg #[(.int .i64 (f108_r0 a b c d e f g h i j w)), (.int .i64 (f108_r1 a b c d e f g h i j w)), (.int .i64 (f108_r2 a b c d e f g h i j w)), (.int .i64 (f108_r3 a b c d e f g h i j w))]), heapN) :=
  Gives.by (n := 1000) (os := []) (os' := []) (by kernel_rfl) (ObsOK.nil)
def f38_r0 (a : Int) (b : Int) (c : Int) (d : Int) (e : Int) (f : Int) (g : Int) (h : Int) (i : Int) (j : Int) (w : Int) : Int := (f108_r0 a b c d e f g h i j w)
def f38_r1 (a : Int) (b : Int) (c : Int) (d : Int) (e : Int) (f : Int) (g : Int) (h : Int) (i : Int) (j : Int) (w : Int) : Int := (f108_r1 a b c d e f g h i j w)
def f38_r2 (a : Int) (b : Int) (c : Int) (d : Int) (e : Int) (f : Int) (g : Int) (h : Int) (i : Int) (j : Int) (w : Int) : Int := (f108_r2 a b c d e f g h i j w)
def f38_r3 (a : Int) (b : Int) (c : Int) (d : Int) (e : Int) (f : Int) (g : Int) (h : Int) (i : Int) (j : Int) (w : Int) : Int := (f108_r3 a b c d e f g h i j w)
theorem f38_gives (a : Int) (b : Int) (c : Int) (d : Int) (e : Int) (f : Int) (g : Int) (h : Int) (i : Int) (j : Int) (w : Int) : Gives Tryz.prog envH 0 38 [(.agg #[(.int .i64 (a)), (.int .i64 (b)), (.int .i64 (c)), (.int .i64 (d)), (.int .i64 (e)), (.int .i64 (f))]), (.agg #[(.int .i64 (g)), (.int .i64 (h)), (.int .i64 (i)), (.int .i64 (j))]), (.int .i64 (w))] heapN ((.agg #[(.int .i64 (f38_r0 a b c d e f g h i j w)), (.int .i64 (f38_r1 a b c d e f g h i j w)), (.int .i64 (f38_r2 a b c d e f g h i j w)), (.int .i64 (f38_r3 a b c d e f g h i j w))]), heapN) := by
  simp only [f38_r0, f38_r1, f38_r2, f38_r3, cond_true, cond_false]; exact f38_p0 a b c d e f g h i j w
theorem f39_p0 (a : Int) (b : Int) (c : Int) (d : Int) (e : Int) (f : Int) (g : Int) (h : Int) (i : Int) (j : Int) (w : Int) : Gives Tryz.prog envH 0 39 [(.agg #[(.int .i64 (a)), (.int .i64 (b)), (.int .i64 (c)), (.int .i64 (d)), (.int .i64 (e)), (.int .i64 (f))]), (.agg #[(.int .i64 (g)), (.int .i64 (h)), (.int .i64 (i)), (.int .i64 (j))]), (.int .i64 (w))] heapN ((.agg #[(.int .i64 (f82_r0 (IntKind.i64.wrap (0 - IntKind.i64.wrap (IntKind.i64.wrap (w * w) * c))) 0 (f108_r8 a b c d e f g h i j w) (f108_r9 a b c d e f g h i j w))), (.int .i64 (f82_r1 (IntKind.i64.wrap (0 - IntKind.i64.wrap (IntKind.i64.wrap (w * w) * c))) 0 (f108_r8 a b c d e f g h i j w) (f108_r9 a b c d e f g h i j w))), (.int .i64 (f108_r0 a b c d e f g h i j w)), (.int .i64 (f108_r1 a b c d e f g h i j w))]), heapN) :=
  Gives.by (n := 1000) (os := []) (os' := []) (by kernel_rfl) (ObsOK.nil)
def f39_r0 (a : Int) (b : Int) (c : Int) (d : Int) (e : Int) (f : Int) (g : Int) (h : Int) (i : Int) (j : Int) (w : Int) : Int := (f82_r0 (IntKind.i64.wrap (0 - IntKind.i64.wrap (IntKind.i64.wrap (w * w) * c))) 0 (f108_r8 a b c d e f g h i j w) (f108_r9 a b c d e f g h i j w))
def f39_r1 (a : Int) (b : Int) (c : Int) (d : Int) (e : Int) (f : Int) (g : Int) (h : Int) (i : Int) (j : Int) (w : Int) : Int := (f82_r1 (IntKind.i64.wrap (0 - IntKind.i64.wrap (IntKind.i64.wrap (w * w) * c))) 0 (f108_r8 a b c d e f g h i j w) (f108_r9 a b c d e f g h i j w))
def f39_r2 (a : Int) (b : Int) (c : Int) (d : Int) (e : Int) (f : Int) (g : Int) (h : Int) (i : Int) (j : Int) (w : Int) : Int := (f108_r0 a b c d e f g h i j w)
def f39_r3 (a : Int) (b : Int) (c : Int) (d : Int) (e : Int) (f : Int) (g : Int) (h : Int) (i : Int) (j : Int) (w : Int) : Int := (f108_r1 a b c d e f g h i j w)
theorem f39_gives (a : Int) (b : Int) (c : Int) (d : Int) (e : Int) (f : Int) (g : Int) (h : Int) (i : Int) (j : Int) (w : Int) : Gives Tryz.prog envH 0 39 [(.agg #[(.int .i64 (a)), (.int .i64 (b)), (.int .i64 (c)), (.int .i64 (d)), (.int .i64 (e)), (.int .i64 (f))]), (.agg #[(.int .i64 (g)), (.int .i64 (h)), (.int .i64 (i)), (.int .i64 (j))]), (.int .i64 (w))] heapN ((.agg #[(.int .i64 (f39_r0 a b c d e f g h i j w)), (.int .i64 (f39_r1 a b c d e f g h i j w)), (.int .i64 (f39_r2 a b c d e f g h i j w)), (.int .i64 (f39_r3 a b c d e f g h i j w))]), heapN) := by
  simp only [f39_r0, f39_r1, f39_r2, f39_r3, cond_true, cond_false]; exact f39_p0 a b c d e f g h i j w
def f40_c0 (a : Int) (b : Int) (c : Int) (d : Int) (e : Int) (f : Int) (g : Int) (h : Int) (i : Int) (j : Int) (w : Int) : Bool := h == 0
theorem f40_p0 (a : Int) (b : Int) (c : Int) (d : Int) (e : Int) (f : Int) (g : Int) (h : Int) (i : Int) (j : Int) (w : Int) (h0 : f40_c0 a b c d e f g h i j w = true) : Gives Tryz.prog envH 0 40 [(.agg #[(.int .i64 (a)), (.int .i64 (b)), (.int .i64 (c)), (.int .i64 (d)), (.int .i64 (e)), (.int .i64 (f))]), (.agg #[(.int .i64 (g)), (.int .i64 (h)), (.int .i64 (i)), (.int .i64 (j))]), (.int .i64 (w))] heapN ((.agg #[(.int .i64 (f82_r0 c 0 (f108_r4 a b c d e f g h i j w) (f108_r5 a b c d e f g h i j w))), (.int .i64 (f82_r1 c 0 (f108_r4 a b c d e f g h i j w) (f108_r5 a b c d e f g h i j w))), (.int .i64 (f108_r0 a b c d e f g h i j w)), (.int .i64 (f108_r1 a b c d e f g h i j w)), (.int .i64 (0)), (.int .i64 (0)), (.int .i64 (1)), (.int .i64 (0))]), heapN) :=
  Gives.by (n := 1000) (os := [.br 40 70 true]) (os' := []) (by kernel_rfl) (ObsOK.cond h0 (ObsOK.nil))
theorem f40_p1 (a : Int) (b : Int) (c : Int) (d : Int) (e : Int) (f : Int) (g : Int) (h : Int) (i : Int) (j : Int) (w : Int) (h0 : f40_c0 a b c d e f g h i j w = false) : Gives Tryz.prog envH 0 40 [(.agg #[(.int .i64 (a)), (.int .i64 (b)), (.int .i64 (c)), (.int .i64 (d)), (.int .i64 (e)), (.int .i64 (f))]), (.agg #[(.int .i64 (g)), (.int .i64 (h)), (.int .i64 (i)), (.int .i64 (j))]), (.int .i64 (w))] heapN ((.agg #[(.int .i64 (f82_r0 c 0 (f108_r4 a b c d e f g h i j w) (f108_r5 a b c d e f g h i j w))), (.int .i64 (f82_r1 c 0 (f108_r4 a b c d e f g h i j w) (f108_r5 a b c d e f g h i j w))), (.int .i64 (f108_r0 a b c d e f g h i j w)), (.int .i64 (f108_r1 a b c d e f g h i j w)), (.int .i64 (f82_r0 c 0 (f108_r6 a b c d e f g h i j w) 0)), (.int .i64 (f82_r1 c 0 (f108_r6 a b c d e f g h i j w) 0)), (.int .i64 (f108_r0 a b c d e f g h i j w)), (.int .i64 (f108_r1 a b c d e f g h i j w))]), heapN) :=
  Gives.by (n := 1000) (os := [.br 40 70 false]) (os' := []) (by kernel_rfl) (ObsOK.cond h0 (ObsOK.nil))
def f40_r0 (a : Int) (b : Int) (c : Int) (d : Int) (e : Int) (f : Int) (g : Int) (h : Int) (i : Int) (j : Int) (w : Int) : Int := (f82_r0 c 0 (f108_r4 a b c d e f g h i j w) (f108_r5 a b c d e f g h i j w))
def f40_r1 (a : Int) (b : Int) (c : Int) (d : Int) (e : Int) (f : Int) (g : Int) (h : Int) (i : Int) (j : Int) (w : Int) : Int := (f82_r1 c 0 (f108_r4 a b c d e f g h i j w) (f108_r5 a b c d e f g h i j w))
def f40_r2 (a : Int) (b : Int) (c : Int) (d : Int) (e : Int) (f : Int) (g : Int) (h : Int) (i : Int) (j : Int) (w : Int) : Int := (f108_r0 a b c d e f g h i j w)
def f40_r3 (a : Int) (b : Int) (c : Int) (d : Int) (e : Int) (f : Int) (g : Int) (h : Int) (i : Int) (j : Int) (w : Int) : Int := (f108_r1 a b c d e f g h i j w)
def f40_r4 (a : Int) (b : Int) (c : Int) (d : Int) (e : Int) (f : Int) (g : Int) (h : Int) (i : Int) (j : Int) (w : Int) : Int := (cond (f40_c0 a b c d e f g h i j w) (0) (f82_r0 c 0 (f108_r6 a b c d e f g h i j w) 0))
def f40_r5 (a : Int) (b : Int) (c : Int) (d : Int) (e : Int) (f : Int) (g : Int) (h : Int) (i : Int) (j : Int) (w : Int) : Int := (cond (f40_c0 a b c d e f g h i j w) (0) (f82_r1 c 0 (f108_r6 a b c d e f g h i j w) 0))
def f40_r6 (a : Int) (b : Int) (c : Int) (d : Int) (e : Int) (f : Int) (g : Int) (h : Int) (i : Int) (j : Int) (w : Int) : Int := (cond (f40_c0 a b c d e f g h i j w) (1) (f108_r0 a b c d e f g h i j w))
def f40_r7 (a : Int) (b : Int) (c : Int) (d : Int) (e : Int) (f : Int) (g : Int) (h : Int) (i : Int) (j : Int) (w : Int) : Int := (cond (f40_c0 a b c d e f g h i j w) (0) (f108_r1 a b c d e f g h i j w))
theorem f40_gives (a : Int) (b : Int) (c : Int) (d : Int) (e : Int) (f : Int) (g : Int) (h : Int) (i : Int) (j : Int) (w : Int) : Gives Tryz.prog envH 0 40 [(.agg #[(.int .i64 (a)), (.int .i64 (b)), (.int .i64 (c)), (.int .i64 (d)), (.int .i64 (e)), (.int .i64 (f))]), (.agg #[(.int .i64 (g)), (.int .i64 (h)), (.int .i64 (i)), (.int .i64 (j))]), (.int .i64 (w))] heapN ((.agg #[(.int .i64 (f40_r0 a b c d e f g h i j w)), (.int .i64 (f40_r1 a b c d e f g h i j w)), (.int .i64 (f40_r2 a b c d e f g h i j w)), (.int .i64 (f40_r3 a b c d e f g h i j w)), (.int .i64 (f40_r4 a b c d e f g h i j w)), (.int .i64 (f40_r5 a b c d e f g h i j w)), (.int .i64 (f40_r6 a b c d e f g h i j w)), (.int .i64 (f40_r7 a b c d e f g h i j w))]), heapN) := by
  cases g0 : f40_c0 a b c d e f g h i j w
  · skip
    simp only [f40_r0, f40_r1, f40_r2, f40_r3, f40_r4, f40_r5, f40_r6, f40_r7, g0, cond_true, cond_false]; exact f40_p1 a b c d e f g h i j w g0
  · skip
    simp only [f40_r0, f40_r1, f40_r2, f40_r3, f40_r4, f40_r5, f40_r6, f40_r7, g0, cond_true, cond_false]; exact f40_p0 a b c d e f g h i j w g0
def B_envI (f : FuncId) (args : List Value) : Option (Heap × Value) :=
  if f == 144 then
    match args with
    | [(.agg ⟨[(.int .i64 (a)), (.int .i64 (b)), (.int .i64 (c)), (.int .i64 (d)), (.int .i64 (e)), (.int .i64 (f))]⟩), (.int .i64 (w))] => some (heapN, (.agg #[(.int .i64 (f144_r0 a b c d e f w)), (.int .i64 (f144_r1 a b c d e f w)), (.int .i64 (f144_r2 a b c d e f w)), (.int .i64 (f144_r3 a b c d e f w)), (.int .i64 (f144_r4 a b c d e f w)), (.int .i64 (f144_r5 a b c d e f w)), (.int .i64 (f144_r6 a b c d e f w)), (.int .i64 (f144_r7 a b c d e f w)), (.int .i64 (f144_r8 a b c d e f w)), (.int .i64 (f144_r9 a b c d e f w)), (.int .i64 (0)), (.int .i64 (0)), (.int .i64 (1)), (.int .i64 (0)), (.int .i64 (f144_r14 a b c d e f w)), (.int .i64 (f144_r15 a b c d e f w)), (.int .i64 (f144_r16 a b c d e f w)), (.int .i64 (f144_r17 a b c d e f w))]))
    | _ => none
  else  if f == 38 then
    match args with
    | [(.agg ⟨[(.int .i64 (a)), (.int .i64 (b)), (.int .i64 (c)), (.int .i64 (d)), (.int .i64 (e)), (.int .i64 (f))]⟩), (.agg ⟨[(.int .i64 (g)), (.int .i64 (h)), (.int .i64 (i)), (.int .i64 (j))]⟩), (.int .i64 (w))] => some (heapN, (.agg #[(.int .i64 (f38_r0 a b c d e f g h i j w)), (.int .i64 (f38_r1 a b c d e f g h i j w)), (.int .i64 (f38_r2 a b c d e f g h i j w)), (.int .i64 (f38_r3 a b c d e f g h i j w))]))
    | _ => none
  else  if f == 39 then
    match args with
    | [(.agg ⟨[(.int .i64 (a)), (.int .i64 (b)), (.int .i64 (c)), (.int .i64 (d)), (.int .i64 (e)), (.int .i64 (f))]⟩), (.agg ⟨[(.int .i64 (g)), (.int .i64 (h)), (.int .i64 (i)), (.int .i64 (j))]⟩), (.int .i64 (w))] => some (heapN, (.agg #[(.int .i64 (f39_r0 a b c d e f g h i j w)), (.int .i64 (f39_r1 a b c d e f g h i j w)), (.int .i64 (f39_r2 a b c d e f g h i j w)), (.int .i64 (f39_r3 a b c d e f g h i j w))]))
    | _ => none
  else  if f == 40 then
    match args with
    | [(.agg ⟨[(.int .i64 (a)), (.int .i64 (b)), (.int .i64 (c)), (.int .i64 (d)), (.int .i64 (e)), (.int .i64 (f))]⟩), (.agg ⟨[(.int .i64 (g)), (.int .i64 (h)), (.int .i64 (i)), (.int .i64 (j))]⟩), (.int .i64 (w))] => some (heapN, (.agg #[(.int .i64 (f40_r0 a b c d e f g h i j w)), (.int .i64 (f40_r1 a b c d e f g h i j w)), (.int .i64 (f40_r2 a b c d e f g h i j w)), (.int .i64 (f40_r3 a b c d e f g h i j w)), (.int .i64 (f40_r4 a b c d e f g h i j w)), (.int .i64 (f40_r5 a b c d e f g h i j w)), (.int .i64 (f40_r6 a b c d e f g h i j w)), (.int .i64 (f40_r7 a b c d e f g h i j w))]))
    | _ => none
  else none
noncomputable def envI : Env := envH.with (baseKnown B_envI)
theorem envI_ok : EnvOK Tryz.prog 9 envI := env_base prog_ok envH_ok fun f args H v h => by
  unfold B_envI at h
  split at h
  · rename_i hf
    have hf : f = 144 := by simpa using hf
    subst hf
    split at h
    · cases h; exact heapN_ok (f144_gives _ _ _ _ _ _ _)
    · cases h
  · skip
    split at h
    · rename_i hf
      have hf : f = 38 := by simpa using hf
      subst hf
      split at h
      · cases h; exact heapN_ok (f38_gives _ _ _ _ _ _ _ _ _ _ _)
      · cases h
    · skip
      split at h
      · rename_i hf
        have hf : f = 39 := by simpa using hf
        subst hf
        split at h
        · cases h; exact heapN_ok (f39_gives _ _ _ _ _ _ _ _ _ _ _)
        · cases h
      · skip
        split at h
        · rename_i hf
          have hf : f = 40 := by simpa using hf
          subst hf
          split at h
          · cases h; exact heapN_ok (f40_gives _ _ _ _ _ _ _ _ _ _ _)
          · cases h
        · skip
          cases h
end Go.Proofs.YtkndhhnjgpialaaGreatDoor
/-
What functions give.
-/
namespace Go.Proofs.YtkndhhnjgpialaaGreatDoor
open Go Go.Abs
def f90_c0 (a : Int) (b : Int) (c : Int) (d : Int) (e : Int) (f : Int) (w : Int) : Bool := dErr a b c d e f != 0
def f90_c1 (a : Int) (b : Int) (c : Int) (d : Int) (e : Int) (f : Int) (w : Int) : Bool := wErr w != 0
theorem f90_p0 (a : Int) (b : Int) (c : Int) (d : Int) (e : Int) (f : Int) (w : Int) (h0 : f90_c0 a b c d e f w = true) : Gives Tryz.prog envI 0 90 [(.agg #[(.int .i64 (a)), (.int .i64 (b)), (.int .i64 (c)), (.int .i64 (d)), (.int .i64 (e)), (.int .i64 (f))]), (.int .i64 (w))] heap0 ((.tuple #[(.agg #[(.int .i64 (0)), (.int .i64 (0)), (.int .i64 (0)), (.int .i64 (0)), (.int .i64 (0)), (.int .i64 (0)), (.int .i64 (0)), (.int .i64 (0)), (.int .i64 (0)), (.int .i64 (0)), (.int .i64 (0)), (.int .i64 (0)), (.int .i64 (0)), (.int .i64 (0)), (.int .i64 (0)), (.int .i64 (0)), (.int .i64 (0)), (.int .i64 (0))]), (.int .i64 (dErr a b c d e f))]), heap0) :=
  Gives.by (n := 1000) (os := [.br 105 26 true, .br 90 30 true]) (os' := []) (by kernel_rfl) (ObsOK.cond h0 (ObsOK.cond h0 (ObsOK.nil)))
theorem f90_p1 (a : Int) (b : Int) (c : Int) (d : Int) (e : Int) (f : Int) (w : Int) (h0 : f90_c0 a b c d e f w = false) (h1 : f90_c1 a b c d e f w = true) : Gives Tryz.prog envI 0 90 [(.agg #[(.int .i64 (a)), (.int .i64 (b)), (.int .i64 (c)), (.int .i64 (d)), (.int .i64 (e)), (.int .i64 (f))]), (.int .i64 (w))] heap0 ((.tuple #[(.agg #[(.int .i64 (0)), (.int .i64 (0)), (.int .i64 (0)), (.int .i64 (0)), (.int .i64 (0)), (.int .i64 (0)), (.int .i64 (0)), (.int .i64 (0)), (.int .i64 (0)), (.int .i64 (0)), (.int .i64 (0)), (.int .i64 (0)), (.int .i64 (0)), (.int .i64 (0)), (.int .i64 (0)), (.int .i64 (0)), (.int .i64 (0)), (.int .i64 (0))]), (.int .i64 (wErr w))]), heap0) :=
  Gives.by (n := 1000) (os := [.br 105 26 false, .br 105 26 true, .br 90 30 true]) (os' := []) (by kernel_rfl) (ObsOK.cond h0 (ObsOK.cond h1 (ObsOK.cond h1 (ObsOK.nil))))
theorem f90_p2 (a : Int) (b : Int) (c : Int) (d : Int) (e : Int) (f : Int) (w : Int) (h0 : f90_c0 a b c d e f w = false) (h1 : f90_c1 a b c d e f w = false) : Gives Tryz.prog envI 0 90 [(.agg #[(.int .i64 (a)), (.int .i64 (b)), (.int .i64 (c)), (.int .i64 (d)), (.int .i64 (e)), (.int .i64 (f))]), (.int .i64 (w))] heap0 ((.tuple #[(.agg #[(.int .i64 (f144_r0 a b c d e f w)), (.int .i64 (f144_r1 a b c d e f w)), (.int .i64 (f144_r2 a b c d e f w)), (.int .i64 (f144_r3 a b c d e f w)), (.int .i64 (f144_r4 a b c d e f w)), (.int .i64 (f144_r5 a b c d e f w)), (.int .i64 (f144_r6 a b c d e f w)), (.int .i64 (f144_r7 a b c d e f w)), (.int .i64 (f144_r8 a b c d e f w)), (.int .i64 (f144_r9 a b c d e f w)), (.int .i64 (0)), (.int .i64 (0)), (.int .i64 (1)), (.int .i64 (0)), (.int .i64 (f144_r14 a b c d e f w)), (.int .i64 (f144_r15 a b c d e f w)), (.int .i64 (f144_r16 a b c d e f w)), (.int .i64 (f144_r17 a b c d e f w))]), (.int .i64 (0))]), heap0) :=
  Gives.by (n := 1000) (os := [.br 105 26 false, .br 105 26 false]) (os' := []) (by kernel_rfl) (ObsOK.cond h0 (ObsOK.cond h1 (ObsOK.nil)))
def f90_r0 (a : Int) (b : Int) (c : Int) (d : Int) (e : Int) (f : Int) (w : Int) : Int := (cond (f90_c0 a b c d e f w) (0) (cond (f90_c1 a b c d e f w) (0) (f144_r0 a b c d e f w)))
def f90_r1 (a : Int) (b : Int) (c : Int) (d : Int) (e : Int) (f : Int) (w : Int) : Int := (cond (f90_c0 a b c d e f w) (0) (cond (f90_c1 a b c d e f w) (0) (f144_r1 a b c d e f w)))
def f90_r2 (a : Int) (b : Int) (c : Int) (d : Int) (e : Int) (f : Int) (w : Int) : Int := (cond (f90_c0 a b c d e f w) (0) (cond (f90_c1 a b c d e f w) (0) (f144_r2 a b c d e f w)))
def f90_r3 (a : Int) (b : Int) (c : Int) (d : Int) (e : Int) (f : Int) (w : Int) : Int := (cond (f90_c0 a b c d e f w) (0) (cond (f90_c1 a b c d e f w) (0) (f144_r3 a b c d e f w)))
def f90_r4 (a : Int) (b : Int) (c : Int) (d : Int) (e : Int) (f : Int) (w : Int) : Int := (cond (f90_c0 a b c d e f w) (0) (cond (f90_c1 a b c d e f w) (0) (f144_r4 a b c d e f w)))
def f90_r5 (a : Int) (b : Int) (c : Int) (d : Int) (e : Int) (f : Int) (w : Int) : Int := (cond (f90_c0 a b c d e f w) (0) (cond (f90_c1 a b c d e f w) (0) (f144_r5 a b c d e f w)))
def f90_r6 (a : Int) (b : Int) (c : Int) (d : Int) (e : Int) (f : Int) (w : Int) : Int := (cond (f90_c0 a b c d e f w) (0) (cond (f90_c1 a b c d e f w) (0) (f144_r6 a b c d e f w)))
def f90_r7 (a : Int) (b : Int) (c : Int) (d : Int) (e : Int) (f : Int) (w : Int) : Int := (cond (f90_c0 a b c d e f w) (0) (cond (f90_c1 a b c d e f w) (0) (f144_r7 a b c d e f w)))
def f90_r8 (a : Int) (b : Int) (c : Int) (d : Int) (e : Int) (f : Int) (w : Int) : Int := (cond (f90_c0 a b c d e f w) (0) (cond (f90_c1 a b c d e f w) (0) (f144_r8 a b c d e f w)))
def f90_r9 (a : Int) (b : Int) (c : Int) (d : Int) (e : Int) (f : Int) (w : Int) : Int := (cond (f90_c0 a b c d e f w) (0) (cond (f90_c1 a b c d e f w) (0) (f144_r9 a b c d e f w)))
def f90_r12 (a : Int) (b : Int) (c : Int) (d : Int) (e : Int) (f : Int) (w : Int) : Int := (cond (f90_c0 a b c d e f w) (0) (cond (f90_c1 a b c d e f w) (0) (1)))
def f90_r14 (a : Int) (b : Int) (c : Int) (d : Int) (e : Int) (f : Int) (w : Int) : Int := (cond (f90_c0 a b c d e f w) (0) (cond (f90_c1 a b c d e f w) (0) (f144_r14 a b c d e f w)))
def f90_r15 (a : Int) (b : Int) (c : Int) (d : Int) (e : Int) (f : Int) (w : Int) : Int := (cond (f90_c0 a b c d e f w) (0) (cond (f90_c1 a b c d e f w) (0) (f144_r15 a b c d e f w)))
def f90_r16 (a : Int) (b : Int) (c : Int) (d : Int) (e : Int) (f : Int) (w : Int) : Int := (cond (f90_c0 a b c d e f w) (0) (cond (f90_c1 a b c d e f w) (0) (f144_r16 a b c d e f w)))
def f90_r17 (a : Int) (b : Int) (c : Int) (d : Int) (e : Int) (f : Int) (w : Int) : Int := (cond (f90_c0 a b c d e f w) (0) (cond (f90_c1 a b c d e f w) (0) (f144_r17 a b c d e f w)))
def f90_r18 (a : Int) (b : Int) (c : Int) (d : Int) (e : Int) (f : Int) (w : Int) : Int := (cond (f90_c0 a b c d e f w) (dErr a b c d e f) (cond (f90_c1 a b c d e f w) (wErr w) (0)))
theorem f90_gives (a : Int) (b : Int) (c : Int) (d : Int) (e : Int) (f : Int) (w : Int) : Gives Tryz.prog envI 0 90 [(.agg #[(.int .i64 (a)), (.int .i64 (b)), (.int .i64 (c)), (.int .i64 (d)), (.int .i64 (e)), (.int .i64 (f))]), (.int .i64 (w))] heap0 ((.tuple #[(.agg #[(.int .i64 (f90_r0 a b c d e f w)), (.int .i64 (f90_r1 a b c d e f w)), (.int .i64 (f90_r2 a b c d e f w)), (.int .i64 (f90_r3 a b c d e f w)), (.int .i64 (f90_r4 a b c d e f w)), (.int .i64 (f90_r5 a b c d e f w)), (.int .i64 (f90_r6 a b c d e f w)), (.int .i64 (f90_r7 a b c d e f w)), (.int .i64 (f90_r8 a b c d e f w)), (.int .i64 (f90_r9 a b c d e f w)), (.int .i64 (0)), (.int .i64 (0)), (.int .i64 (f90_r12 a b c d e f w)), (.int .i64 (0)), (.int .i64 (f90_r14 a b c d e f w)), (.int .i64 (f90_r15 a b c d e f w)), (.int .i64 (f90_r16 a b c d e f w)), (.int .i64 (f90_r17 a b c d e f w))]), (.int .i64 (f90_r18 a b c d e f w))]), heap0) := by
  cases g0 : f90_c0 a b c d e f w
  · skip
    cases g1 : f90_c1 a b c d e f w
    · skip
      simp only [f90_r0, f90_r1, f90_r2, f90_r3, f90_r4, f90_r5, f90_r6, f90_r7, f90_r8, f90_r9, f90_r12, f90_r14, f90_r15, f90_r16, f90_r17, f90_r18, g0, g1, cond_true, cond_false]; exact f90_p2 a b c d e f w g0 g1
    · skip
      simp only [f90_r0, f90_r1, f90_r2, f90_r3, f90_r4, f90_r5, f90_r6, f90_r7, f90_r8, f90_r9, f90_r12, f90_r14, f90_r15, f90_r16, f90_r17, f90_r18, g0, g1, cond_true, cond_false]; exact f90_p1 a b c d e f w g0 g1
  · skip
    simp only [f90_r0, f90_r1, f90_r2, f90_r3, f90_r4, f90_r5, f90_r6, f90_r7, f90_r8, f90_r9, f90_r12, f90_r14, f90_r15, f90_r16, f90_r17, f90_r18, g0, cond_true, cond_false]; exact f90_p0 a b c d e f w g0
def f104_c0 (a : Int) (b : Int) (c : Int) (d : Int) (e : Int) (f : Int) (g : Int) (h : Int) (i : Int) (j : Int) (w : Int) : Bool := dErr a b c d e f != 0
def f104_c1 (a : Int) (b : Int) (c : Int) (d : Int) (e : Int) (f : Int) (g : Int) (h : Int) (i : Int) (j : Int) (w : Int) : Bool := bErr g h i j != 0
def f104_c2 (a : Int) (b : Int) (c : Int) (d : Int) (e : Int) (f : Int) (g : Int) (h : Int) (i : Int) (j : Int) (w : Int) : Bool := wErr w != 0
def f104_c3 (a : Int) (b : Int) (c : Int) (d : Int) (e : Int) (f : Int) (g : Int) (h : Int) (i : Int) (j : Int) (w : Int) : Bool := !h != 0
theorem f104_p0 (a : Int) (b : Int) (c : Int) (d : Int) (e : Int) (f : Int) (g : Int) (h : Int) (i : Int) (j : Int) (w : Int) (h0 : f104_c0 a b c d e f g h i j w = true) : Gives Tryz.prog envI 0 104 [(.agg #[(.int .i64 (a)), (.int .i64 (b)), (.int .i64 (c)), (.int .i64 (d)), (.int .i64 (e)), (.int .i64 (f))]), (.agg #[(.int .i64 (g)), (.int .i64 (h)), (.int .i64 (i)), (.int .i64 (j))]), (.int .i64 (w))] heap0 ((.tuple #[(.agg #[(.int .i64 (0)), (.int .i64 (0)), (.int .i64 (0)), (.int .i64 (0)), (.int .i64 (0)), (.int .i64 (0)), (.int .i64 (0)), (.int .i64 (0)), (.int .i64 (0)), (.int .i64 (0)), (.int .i64 (0)), (.int .i64 (0)), (.int .i64 (0)), (.int .i64 (0)), (.int .i64 (0)), (.int .i64 (0)), (.int .i64 (0)), (.int .i64 (0))]), (.int .i64 (dErr a b c d e f))]), heap0) :=
  Gives.by (n := 1000) (os := [.br 105 26 true, .br 104 42 true]) (os' := []) (by kernel_rfl) (ObsOK.cond h0 (ObsOK.cond h0 (ObsOK.nil)))
theorem f104_p1 (a : Int) (b : Int) (c : Int) (d : Int) (e : Int) (f : Int) (g : Int) (h : Int) (i : Int) (j : Int) (w : Int) (h0 : f104_c0 a b c d e f g h i j w = false) (h1 : f104_c1 a b c d e f g h i j w = true) : Gives Tryz.prog envI 0 104 [(.agg #[(.int .i64 (a)), (.int .i64 (b)), (.int .i64 (c)), (.int .i64 (d)), (.int .i64 (e)), (.int .i64 (f))]), (.agg #[(.int .i64 (g)), (.int .i64 (h)), (.int .i64 (i)), (.int .i64 (j))]), (.int .i64 (w))] heap0 ((.tuple #[(.agg #[(.int .i64 (0)), (.int .i64 (0)), (.int .i64 (0)), (.int .i64 (0)), (.int .i64 (0)), (.int .i64 (0)), (.int .i64 (0)), (.int .i64 (0)), (.int .i64 (0)), (.int .i64 (0)), (.int .i64 (0)), (.int .i64 (0)), (.int .i64 (0)), (.int .i64 (0)), (.int .i64 (0)), (.int .i64 (0)), (.int .i64 (0)), (.int .i64 (0))]), (.int .i64 (bErr g h i j))]), heap0) :=
  Gives.by (n := 1000) (os := [.br 105 26 false, .br 105 26 true, .br 104 42 true]) (os' := []) (by kernel_rfl) (ObsOK.cond h0 (ObsOK.cond h1 (ObsOK.cond h1 (ObsOK.nil))))
theorem f104_p2 (a : Int) (b : Int) (c : Int) (d : Int) (e : Int) (f : Int) (g : Int) (h : Int) (i : Int) (j : Int) (w : Int) (h0 : f104_c0 a b c d e f g h i j w = false) (h1 : f104_c1 a b c d e f g h i j w = false) (h2 : f104_c2 a b c d e f g h i j w = true) : Gives Tryz.prog envI 0 104 [(.agg #[(.int .i64 (a)), (.int .i64 (b)), (.int .i64 (c)), (.int .i64 (d)), (.int .i64 (e)), (.int .i64 (f))]), (.agg #[(.int .i64 (g)), (.int .i64 (h)), (.int .i64 (i)), (.int .i64 (j))]), (.int .i64 (w))] heap0 ((.tuple #[(.agg #[(.int .i64 (0)), (.int .i64 (0)), (.int .i64 (0)), (.int .i64 (0)), (.int .i64 (0)), (.int .i64 (0)), (.int .i64 (0)), (.int .i64 (0)), (.int .i64 (0)), (.int .i64 (0)), (.int .i64 (0)), (.int .i64 (0)), (.int .i64 (0)), (.int .i64 (0)), (.int .i64 (0)), (.int .i64 (0)), (.int .i64 (0)), (.int .i64 (0))]), (.int .i64 (wErr w))]), heap0) :=
  Gives.by (n := 1000) (os := [.br 105 26 false, .br 105 26 false, .br 105 26 true, .br 104 42 true]) (os' := []) (by kernel_rfl) (ObsOK.cond h0 (ObsOK.cond h1 (ObsOK.cond h2 (ObsOK.cond h2 (ObsOK.nil)))))
theorem f104_p3 (a : Int) (b : Int) (c : Int) (d : Int) (e : Int) (f : Int) (g : Int) (h : Int) (i : Int) (j : Int) (w : Int) (h0 : f104_c0 a b c d e f g h i j w = false) (h1 : f104_c1 a b c d e f g h i j w = false) (h2 : f104_c2 a b c d e f g h i j w = false) (h3 : f104_c3 a b c d e f g h i j w = true) : Gives Tryz.prog envI 0 104 [(.agg #[(.int .i64 (a)), (.int .i64 (b)), (.int .i64 (c)), (.int .i64 (d)), (.int .i64 (e)), (.int .i64 (f))]), (.agg #[(.int .i64 (g)), (.int .i64 (h)), (.int .i64 (i)), (.int .i64 (j))]), (.int .i64 (w))] heap0 ((.tuple #[(.agg #[(.int .i64 (f144_r0 a b c d (IntKind.i64.wrap (e + g)) f w)), (.int .i64 (f144_r1 a b c d (IntKind.i64.wrap (e + g)) f w)), (.int .i64 (f144_r2 a b c d (IntKind.i64.wrap (e + g)) f w)), (.int .i64 (f144_r3 a b c d (IntKind.i64.wrap (e + g)) f w)), (.int .i64 (f144_r4 a b c d (IntKind.i64.wrap (e + g)) f w)), (.int .i64 (f144_r5 a b c d (IntKind.i64.wrap (e + g)) f w)), (.int .i64 (f144_r6 a b c d (IntKind.i64.wrap (e + g)) f w)), (.int .i64 (f144_r7 a b c d (IntKind.i64.wrap (e + g)) f w)), (.int .i64 (f144_r8 a b c d (IntKind.i64.wrap (e + g)) f w)), (.int .i64 (f144_r9 a b c d (IntKind.i64.wrap (e + g)) f w)), (.int .i64 (0)), (.int .i64 (0)), (.int .i64 (1)), (.int .i64 (0)), (.int .i64 (f144_r14 a b c d (IntKind.i64.wrap (e + g)) f w)), (.int .i64 (f144_r15 a b c d (IntKind.i64.wrap (e + g)) f w)), (.int .i64 (f144_r16 a b c d (IntKind.i64.wrap (e + g)) f w)), (.int .i64 (f144_r17 a b c d (IntKind.i64.wrap (e + g)) f w))]), (.int .i64 (0))]), heap0) :=
  Gives.by (n := 1000) (os := [.br 105 26 false, .br 105 26 false, .br 105 26 false, .br 104 52 true]) (os' := []) (by kernel_rfl) (ObsOK.cond h0 (ObsOK.cond h1 (ObsOK.cond h2 (ObsOK.cond h3 (ObsOK.nil)))))
theorem f104_p4 (a : Int) (b : Int) (c : Int) (d : Int) (e : Int) (f : Int) (g : Int) (h : Int) (i : Int) (j : Int) (w : Int) (h0 : f104_c0 a b c d e f g h i j w = false) (h1 : f104_c1 a b c d e f g h i j w = false) (h2 : f104_c2 a b c d e f g h i j w = false) (h3 : f104_c3 a b c d e f g h i j w = false) : Gives Tryz.prog envI 0 104 [(.agg #[(.int .i64 (a)), (.int .i64 (b)), (.int .i64 (c)), (.int .i64 (d)), (.int .i64 (e)), (.int .i64 (f))]), (.agg #[(.int .i64 (g)), (.int .i64 (h)), (.int .i64 (i)), (.int .i64 (j))]), (.int .i64 (w))] heap0 ((.tuple #[(.agg #[(.int .i64 (f150_r0 a b c d e f w g 0 (f149_r0 i h j w) (f149_r1 i h j w) (f151_r0 g 0 (f149_r0 i h j w) (f149_r1 i h j w)) (f151_r1 g 0 (f149_r0 i h j w) (f149_r1 i h j w)))), (.int .i64 (f150_r1 a b c d e f w g 0 (f149_r0 i h j w) (f149_r1 i h j w) (f151_r0 g 0 (f149_r0 i h j w) (f149_r1 i h j w)) (f151_r1 g 0 (f149_r0 i h j w) (f149_r1 i h j w)))), (.int .i64 (f150_r2 a b c d e f w g 0 (f149_r0 i h j w) (f149_r1 i h j w) (f151_r0 g 0 (f149_r0 i h j w) (f149_r1 i h j w)) (f151_r1 g 0 (f149_r0 i h j w) (f149_r1 i h j w)))), (.int .i64 (f150_r3 a b c d e f w g 0 (f149_r0 i h j w) (f149_r1 i h j w) (f151_r0 g 0 (f149_r0 i h j w) (f149_r1 i h j w)) (f151_r1 g 0 (f149_r0 i h j w) (f149_r1 i h j w)))), (.int .i64 (f150_r4 a b c d e f w g 0 (f149_r0 i h j w) (f149_r1 i h j w) (f151_r0 g 0 (f149_r0 i h j w) (f149_r1 i h j w)) (f151_r1 g 0 (f149_r0 i h j w) (f149_r1 i h j w)))), (.int .i64 (f150_r5 a b c d e f w g 0 (f149_r0 i h j w) (f149_r1 i h j w) (f151_r0 g 0 (f149_r0 i h j w) (f149_r1 i h j w)) (f151_r1 g 0 (f149_r0 i h j w) (f149_r1 i h j w)))), (.int .i64 (f150_r6 a b c d e f w g 0 (f149_r0 i h j w) (f149_r1 i h j w) (f151_r0 g 0 (f149_r0 i h j w) (f149_r1 i h j w)) (f151_r1 g 0 (f149_r0 i h j w) (f149_r1 i h j w)))), (.int .i64 (f150_r7 a b c d e f w g 0 (f149_r0 i h j w) (f149_r1 i h j w) (f151_r0 g 0 (f149_r0 i h j w) (f149_r1 i h j w)) (f151_r1 g 0 (f149_r0 i h j w) (f149_r1 i h j w)))), (.int .i64 (f150_r8 a b c d e f w g 0 (f149_r0 i h j w) (f149_r1 i h j w) (f151_r0 g 0 (f149_r0 i h j w) (f149_r1 i h j w)) (f151_r1 g 0 (f149_r0 i h j w) (f149_r1 i h j w)))), (.int .i64 (f150_r9 a b c d e f w g 0 (f149_r0 i h j w) (f149_r1 i h j w) (f151_r0 g 0 (f149_r0 i h j w) (f149_r1 i h j w)) (f151_r1 g 0 (f149_r0 i h j w) (f149_r1 i h j w)))), (.int .i64 (f150_r10 a b c d e f w g 0 (f149_r0 i h j w) (f149_r1 i h j w) (f151_r0 g 0 (f149_r0 i h j w) (f149_r1 i h j w)) (f151_r1 g 0 (f149_r0 i h j w) (f149_r1 i h j w)))), (.int .i64 (f150_r11 a b c d e f w g 0 (f149_r0 i h j w) (f149_r1 i h j w) (f151_r0 g 0 (f149_r0 i h j w) (f149_r1 i h j w)) (f151_r1 g 0 (f149_r0 i h j w) (f149_r1 i h j w)))), (.int .i64 (f150_r12 a b c d e f w g 0 (f149_r0 i h j w) (f149_r1 i h j w) (f151_r0 g 0 (f149_r0 i h j w) (f149_r1 i h j w)) (f151_r1 g 0 (f149_r0 i h j w) (f149_r1 i h j w)))), (.int .i64 (f150_r13 a b c d e f w g 0 (f149_r0 i h j w) (f149_r1 i h j w) (f151_r0 g 0 (f149_r0 i h j w) (f149_r1 i h j w)) (f151_r1 g 0 (f149_r0 i h j w) (f149_r1 i h j w)))), (.int .i64 (f150_r14 a b c d e f w g 0 (f149_r0 i h j w) (f149_r1 i h j w) (f151_r0 g 0 (f149_r0 i h j w) (f149_r1 i h j w)) (f151_r1 g 0 (f149_r0 i h j w) (f149_r1 i h j w)))), (.int .i64 (f150_r15 a b c d e f w g 0 (f149_r0 i h j w) (f149_r1 i h j w) (f151_r0 g 0 (f149_r0 i h j w) (f149_r1 i h j w)) (f151_r1 g 0 (f149_r0 i h j w) (f149_r1 i h j w)))), (.int .i64 (f150_r16 a b c d e f w g 0 (f149_r0 i h j w) (f149_r1 i h j w) (f151_r0 g 0 (f149_r0 i h j w) (f149_r1 i h j w)) (f151_r1 g 0 (f149_r0 i h j w) (f149_r1 i h j w)))), (.int .i64 (f150_r17 a b c d e f w g 0 (f149_r0 i h j w) (f149_r1 i h j w) (f151_r0 g 0 (f149_r0 i h j w) (f149_r1 i h j w)) (f151_r1 g 0 (f149_r0 i h j w) (f149_r1 i h j w))))]), (.int .i64 (0))]), heap0) :=
  Gives.by (n := 1000) (os := [.br 105 26 false, .br 105 26 false, .br 105 26 false, .br 104 52 false]) (os' := []) (by kernel_rfl) (ObsOK.cond h0 (ObsOK.cond h1 (ObsOK.cond h2 (ObsOK.cond h3 (ObsOK.nil)))))
def f104_r0 (a : Int) (b : Int) (c : Int) (d : Int) (e : Int) (f : Int) (g : Int) (h : Int) (i : Int) (j : Int) (w : Int) : Int := (cond (f104_c0 a b c d e f g h i j w) (0) (cond (f104_c1 a b c d e f g h i j w) (0) (cond (f104_c2 a b c d e f g h i j w) (0) (cond (f104_c3 a b c d e f g h i j w) (f144_r0 a b c d (IntKind.i64.wrap (e + g)) f w) (f150_r0 a b c d e f w g 0 (f149_r0 i h j w) (f149_r1 i h j w) (f151_r0 g 0 (f149_r0 i h j w) (f149_r1 i h j w)) (f151_r1 g 0 (f149_r0 i h j w) (f149_r1 i h j w)))))))
def f104_r1 (a : Int) (b : Int) (c : Int) (d : Int) (e : Int) (f : Int) (g : Int) (h : Int) (i : Int) (j : Int) (w : Int) : Int := (cond (f104_c0 a b c d e f g h i j w) (0) (cond (f104_c1 a b c d e f g h i j w) (0) (cond (f104_c2 a b c d e f g h i j w) (0) (cond (f104_c3 a b c d e f g h i j w) (f144_r1 a b c d (IntKind.i64.wrap (e + g)) f w) (f150_r1 a b c d e f w g 0 (f149_r0 i h j w) (f149_r1 i h j w) (f151_r0 g 0 (f149_r0 i h j w) (f149_r1 i h j w)) (f151_r1 g 0 (f149_r0 i h j w) (f149_r1 i h j w)))))))
def f104_r2 (a : Int) (b : Int) (c : Int) (d : Int) (e : Int) (f : Int) (g : Int) (h : Int) (i : Int) (j : Int) (w : Int) : Int := (cond (f104_c0 a b c d e f g h i j w) (0) (cond (f104_c1 a b c d e f g h i j w) (0) (cond (f104_c2 a b c d e f g h i j w) (0) (cond (f104_c3 a b c d e f g h i j w) (f144_r2 a b c d (IntKind.i64.wrap (e + g)) f w) (f150_r2 a b c d e f w g 0 (f149_r0 i h j w) (f149_r1 i h j w) (f151_r0 g 0 (f149_r0 i h j w) (f149_r1 i h j w)) (f151_r1 g 0 (f149_r0 i h j w) (f149_r1 i h j w)))))))
def f104_r3 (a : Int) (b : Int) (c : Int) (d : Int) (e : Int) (f : Int) (g : Int) (h : Int) (i : Int) (j : Int) (w : Int) : Int := (cond (f104_c0 a b c d e f g h i j w) (0) (cond (f104_c1 a b c d e f g h i j w) (0) (cond (f104_c2 a b c d e f g h i j w) (0) (cond (f104_c3 a b c d e f g h i j w) (f144_r3 a b c d (IntKind.i64.wrap (e + g)) f w) (f150_r3 a b c d e f w g 0 (f149_r0 i h j w) (f149_r1 i h j w) (f151_r0 g 0 (f149_r0 i h j w) (f149_r1 i h j w)) (f151_r1 g 0 (f149_r0 i h j w) (f149_r1 i h j w)))))))
def f104_r4 (a : Int) (b : Int) (c : Int) (d : Int) (e : Int) (f : Int) (g : Int) (h : Int) (i : Int) (j : Int) (w : Int) : Int := (cond (f104_c0 a b c d e f g h i j w) (0) (cond (f104_c1 a b c d e f g h i j w) (0) (cond (f104_c2 a b c d e f g h i j w) (0) (cond (f104_c3 a b c d e f g h i j w) (f144_r4 a b c d (IntKind.i64.wrap (e + g)) f w) (f150_r4 a b c d e f w g 0 (f149_r0 i h j w) (f149_r1 i h j w) (f151_r0 g 0 (f149_r0 i h j w) (f149_r1 i h j w)) (f151_r1 g 0 (f149_r0 i h j w) (f149_r1 i h j w)))))))
def f104_r5 (a : Int) (b : Int) (c : Int) (d : Int) (e : Int) (f : Int) (g : Int) (h : Int) (i : Int) (j : Int) (w : Int) : Int := (cond (f104_c0 a b c d e f g h i j w) (0) (cond (f104_c1 a b c d e f g h i j w) (0) (cond (f104_c2 a b c d e f g h i j w) (0) (cond (f104_c3 a b c d e f g h i j w) (f144_r5 a b c d (IntKind.i64.wrap (e + g)) f w) (f150_r5 a b c d e f w g 0 (f149_r0 i h j w) (f149_r1 i h j w) (f151_r0 g 0 (f149_r0 i h j w) (f149_r1 i h j w)) (f151_r1 g 0 (f149_r0 i h j w) (f149_r1 i h j w)))))))
def f104_r6 (a : Int) (b : Int) (c : Int) (d : Int) (e : Int) (f : Int) (g : Int) (h : Int) (i : Int) (j : Int) (w : Int) : Int := (cond (f104_c0 a b c d e f g h i j w) (0) (cond (f104_c1 a b c d e f g h i j w) (0) (cond (f104_c2 a b c d e f g h i j w) (0) (cond (f104_c3 a b c d e f g h i j w) (f144_r6 a b c d (IntKind.i64.wrap (e + g)) f w) (f150_r6 a b c d e f w g 0 (f149_r0 i h j w) (f149_r1 i h j w) (f151_r0 g 0 (f149_r0 i h j w) (f149_r1 i h j w)) (f151_r1 g 0 (f149_r0 i h j w) (f149_r1 i h j w)))))))
def f104_r7 (a : Int) (b : Int) (c : Int) (d : Int) (e : Int) (f : Int) (g : Int) (h : Int) (i : Int) (j : Int) (w : Int) : Int := (cond (f104_c0 a b c d e f g h i j w) (0) (cond (f104_c1 a b c d e f g h i j w) (0) (cond (f104_c2 a b c d e f g h i j w) (0) (cond (f104_c3 a b c d e f g h i j w) (f144_r7 a b c d (IntKind.i64.wrap (e + g)) f w) (f150_r7 a b c d e f w g 0 (f149_r0 i h j w) (f149_r1 i h j w) (f151_r0 g 0 (f149_r0 i h j w) (f149_r1 i h j w)) (f151_r1 g 0 (f149_r0 i h j w) (f149_r1 i h j w)))))))
def f104_r8 (a : Int) (b : Int) (c : Int) (d : Int) (e : Int) (f : Int) (g : Int) (h : Int) (i : Int) (j : Int) (w : Int) : Int := (cond (f104_c0 a b c d e f g h i j w) (0) (cond (f104_c1 a b c d e f g h i j w) (0) (cond (f104_c2 a b c d e f g h i j w) (0) (cond (f104_c3 a b c d e f g h i j w) (f144_r8 a b c d (IntKind.i64.wrap (e + g)) f w) (f150_r8 a b c d e f w g 0 (f149_r0 i h j w) (f149_r1 i h j w) (f151_r0 g 0 (f149_r0 i h j w) (f149_r1 i h j w)) (f151_r1 g 0 (f149_r0 i h j w) (f149_r1 i h j w)))))))
def f104_r9 (a : Int) (b : Int) (c : Int) (d : Int) (e : Int) (f : Int) (g : Int) (h : Int) (i : Int) (j : Int) (w : Int) : Int := (cond (f104_c0 a b c d e f g h i j w) (0) (cond (f104_c1 a b c d e f g h i j w) (0) (cond (f104_c2 a b c d e f g h i j w) (0) (cond (f104_c3 a b c d e f g h i j w) (f144_r9 a b c d (IntKind.i64.wrap (e + g)) f w) (f150_r9 a b c d e f w g 0 (f149_r0 i h j w) (f149_r1 i h j w) (f151_r0 g 0 (f149_r0 i h j w) (f149_r1 i h j w)) (f151_r1 g 0 (f149_r0 i h j w) (f149_r1 i h j w)))))))
def f104_r10 (a : Int) (b : Int) (c : Int) (d : Int) (e : Int) (f : Int) (g : Int) (h : Int) (i : Int) (j : Int) (w : Int) : Int := (cond (f104_c0 a b c d e f g h i j w) (0) (cond (f104_c1 a b c d e f g h i j w) (0) (cond (f104_c2 a b c d e f g h i j w) (0) (cond (f104_c3 a b c d e f g h i j w) (0) (f150_r10 a b c d e f w g 0 (f149_r0 i h j w) (f149_r1 i h j w) (f151_r0 g 0 (f149_r0 i h j w) (f149_r1 i h j w)) (f151_r1 g 0 (f149_r0 i h j w) (f149_r1 i h j w)))))))
def f104_r11 (a : Int) (b : Int) (c : Int) (d : Int) (e : Int) (f : Int) (g : Int) (h : Int) (i : Int) (j : Int) (w : Int) : Int := (cond (f104_c0 a b c d e f g h i j w) (0) (cond (f104_c1 a b c d e f g h i j w) (0) (cond (f104_c2 a b c d e f g h i j w) (0) (cond (f104_c3 a b c d e f g h i j w) (0) (f150_r11 a b c d e f w g 0 (f149_r0 i h j w) (f149_r1 i h j w) (f151_r0 g 0 (f149_r0 i h j w) (f149_r1 i h j w)) (f151_r1 g 0 (f149_r0 i h j w) (f149_r1 i h j w)))))))
def f104_r12 (a : Int) (b : Int) (c : Int) (d : Int) (e : Int) (f : Int) (g : Int) (h : Int) (i : Int) (j : Int) (w : Int) : Int := (cond (f104_c0 a b c d e f g h i j w) (0) (cond (f104_c1 a b c d e f g h i j w) (0) (cond (f104_c2 a b c d e f g h i j w) (0) (cond (f104_c3 a b c d e f g h i j w) (1) (f150_r12 a b c d e f w g 0 (f149_r0 i h j w) (f149_r1 i h j w) (f151_r0 g 0 (f149_r0 i h j w) (f149_r1 i h j w)) (f151_r1 g 0 (f149_r0 i h j w) (f149_r1 i h j w)))))))
def f104_r13 (a : Int) (b : Int) (c : Int) (d : Int) (e : Int) (f : Int) (g : Int) (h : Int) (i : Int) (j : Int) (w : Int) : Int := (cond (f104_c0 a b c d e f g h i j w) (0) (cond (f104_c1 a b c d e f g h i j w) (0) (cond (f104_c2 a b c d e f g h i j w) (0) (cond (f104_c3 a b c d e f g h i j w) (0) (f150_r13 a b c d e f w g 0 (f149_r0 i h j w) (f149_r1 i h j w) (f151_r0 g 0 (f149_r0 i h j w) (f149_r1 i h j w)) (f151_r1 g 0 (f149_r0 i h j w) (f149_r1 i h j w)))))))
def f104_r14 (a : Int) (b : Int) (c : Int) (d : Int) (e : Int) (f : Int) (g : Int) (h : Int) (i : Int) (j : Int) (w : Int) : Int := (cond (f104_c0 a b c d e f g h i j w) (0) (cond (f104_c1 a b c d e f g h i j w) (0) (cond (f104_c2 a b c d e f g h i j w) (0) (cond (f104_c3 a b c d e f g h i j w) (f144_r14 a b c d (IntKind.i64.wrap (e + g)) f w) (f150_r14 a b c d e f w g 0 (f149_r0 i h j w) (f149_r1 i h j w) (f151_r0 g 0 (f149_r0 i h j w) (f149_r1 i h j w)) (f151_r1 g 0 (f149_r0 i h j w) (f149_r1 i h j w)))))))
def f104_r15 (a : Int) (b : Int) (c : Int) (d : Int) (e : Int) (f : Int) (g : Int) (h : Int) (i : Int) (j : Int) (w : Int) : Int := (cond (f104_c0 a b c d e f g h i j w) (0) (cond (f104_c1 a b c d e f g h i j w) (0) (cond (f104_c2 a b c d e f g h i j w) (0) (cond (f104_c3 a b c d e f g h i j w) (f144_r15 a b c d (IntKind.i64.wrap (e + g)) f w) (f150_r15 a b c d e f w g 0 (f149_r0 i h j w) (f149_r1 i h j w) (f151_r0 g 0 (f149_r0 i h j w) (f149_r1 i h j w)) (f151_r1 g 0 (f149_r0 i h j w) (f149_r1 i h j w)))))))
def f104_r16 (a : Int) (b : Int) (c : Int) (d : Int) (e : Int) (f : Int) (g : Int) (h : Int) (i : Int) (j : Int) (w : Int) : Int := (cond (f104_c0 a b c d e f g h i j w) (0) (cond (f104_c1 a b c d e f g h i j w) (0) (cond (f104_c2 a b c d e f g h i j w) (0) (cond (f104_c3 a b c d e f g h i j w) (f144_r16 a b c d (IntKind.i64.wrap (e + g)) f w) (f150_r16 a b c d e f w g 0 (f149_r0 i h j w) (f149_r1 i h j w) (f151_r0 g 0 (f149_r0 i h j w) (f149_r1 i h j w)) (f151_r1 g 0 (f149_r0 i h j w) (f149_r1 i h j w)))))))
def f104_r17 (a : Int) (b : Int) (c : Int) (d : Int) (e : Int) (f : Int) (g : Int) (h : Int) (i : Int) (j : Int) (w : Int) : Int := (cond (f104_c0 a b c d e f g h i j w) (0) (cond (f104_c1 a b c d e f g h i j w) (0) (cond (f104_c2 a b c d e f g h i j w) (0) (cond (f104_c3 a b c d e f g h i j w) (f144_r17 a b c d (IntKind.i64.wrap (e + g)) f w) (f150_r17 a b c d e f w g 0 (f149_r0 i h j w) (f149_r1 i h j w) (f151_r0 g 0 (f149_r0 i h j w) (f149_r1 i h j w)) (f151_r1 g 0 (f149_r0 i h j w) (f149_r1 i h j w)))))))
def f104_r18 (a : Int) (b : Int) (c : Int) (d : Int) (e : Int) (f : Int) (g : Int) (h : Int) (i : Int) (j : Int) (w : Int) : Int := (cond (f104_c0 a b c d e f g h i j w) (dErr a b c d e f) (cond (f104_c1 a b c d e f g h i j w) (bErr g h i j) (cond (f104_c2 a b c d e f g h i j w) (wErr w) (0))))
theorem f104_gives (a : Int) (b : Int) (c : Int) (d : Int) (e : Int) (f : Int) (g : Int) (h : Int) (i : Int) (j : Int) (w : Int) : Gives Tryz.prog envI 0 104 [(.agg #[(.int .i64 (a)), (.int .i64 (b)), (.int .i64 (c)), (.int .i64 (d)), (.int .i64 (e)), (.int .i64 (f))]), (.agg #[(.int .i64 (g)), (.int .i64 (h)), (.int .i64 (i)), (.int .i64 (j))]), (.int .i64 (w))] heap0 ((.tuple #[(.agg #[(.int .i64 (f104_r0 a b c d e f g h i j w)), (.int .i64 (f104_r1 a b c d e f g h i j w)), (.int .i64 (f104_r2 a b c d e f g h i j w)), (.int .i64 (f104_r3 a b c d e f g h i j w)), (.int .i64 (f104_r4 a b c d e f g h i j w)), (.int .i64 (f104_r5 a b c d e f g h i j w)), (.int .i64 (f104_r6 a b c d e f g h i j w)), (.int .i64 (f104_r7 a b c d e f g h i j w)), (.int .i64 (f104_r8 a b c d e f g h i j w)), (.int .i64 (f104_r9 a b c d e f g h i j w)), (.int .i64 (f104_r10 a b c d e f g h i j w)), (.int .i64 (f104_r11 a b c d e f g h i j w)), (.int .i64 (f104_r12 a b c d e f g h i j w)), (.int .i64 (f104_r13 a b c d e f g h i j w)), (.int .i64 (f104_r14 a b c d e f g h i j w)), (.int .i64 (f104_r15 a b c d e f g h i j w)), (.int .i64 (f104_r16 a b c d e f g h i j w)), (.int .i64 (f104_r17 a b c d e f g h i j w))]), (.int .i64 (f104_r18 a b c d e f g h i j w))]), heap0) := by
  cases g0 : f104_c0 a b c d e f g h i j w
  · skip
    cases g1 : f104_c1 a b c d e f g h i j w
    · skip
      cases g2 : f104_c2 a b c d e f g h i j w
      · skip
        cases g3 : f104_c3 a b c d e f g h i j w
        · skip
          simp only [f104_r0, f104_r1, f104_r2, f104_r3, f104_r4, f104_r5, f104_r6, f104_r7, f104_r8, f104_r9, f104_r10, f104_r11, f104_r12, f104_r13, f104_r14, f104_r15, f104_r16, f104_r17, f104_r18, g0, g1, g2, g3, cond_true, cond_false]; exact f104_p4 a b c d e f g h i j w g0 g1 g2 g3
        · skip
          simp only [f104_r0, f104_r1, f104_r2, f104_r3, f104_r4, f104_r5, f104_r6, f104_r7, f104_r8, f104_r9, f104_r10, f104_r11, f104_r12, f104_r13, f104_r14, f104_r15, f104_r16, f104_r17, f104_r18, g0, g1, g2, g3, cond_true, cond_false]; exact f104_p3 a b c d e f g h i j w g0 g1 g2 g3
      · skip
        simp only [f104_r0, f104_r1, f104_r2, f104_r3, f104_r4, f104_r5, f104_r6, f104_r7, f104_r8, f104_r9, f104_r10, f104_r11, f104_r12, f104_r13, f104_r14, f104_r15, f104_r16, f104_r17, f104_r18, g0, g1, g2, cond_true, cond_false]; exact f104_p2 a b c d e f g h i j w g0 g1 g2
    · skip
      simp only [f104_r0, f104_r1, f104_r2, f104_r3, f104_r4, f104_r5, f104_r6, f104_r7, f104_r8, f104_r9, f104_r10, f104_r11, f104_r12, f104_r13, f104_r14, f104_r15, f104_r16, f104_r17, f104_r18, g0, g1, cond_true, cond_false]; exact f104_p1 a b c d e f g h i j w g0 g1
  · skip
    simp only [f104_r0, f104_r1, f104_r2, f104_r3, f104_r4, f104_r5, f104_r6, f104_r7, f104_r8, f104_r9, f104_r10, f104_r11, f104_r12, f104_r13, f104_r14, f104_r15, f104_r16, f104_r17, f104_r18, g0, cond_true, cond_false]; exact f104_p0 a b c d e f g h i j w g0
theorem f23_p0 (a : Int) (b : Int) (c : Int) (d : Int) (e : Int) (f : Int) (w : Int) : Gives Tryz.prog envI 0 23 [(.agg #[(.int .i64 (a)), (.int .i64 (b)), (.int .i64 (c)), (.int .i64 (d)), (.int .i64 (e)), (.int .i64 (f))]), (.int .i64 (w))] heapN ((.agg #[(.int .i64 (f91_r0 e d f w)), (.int .i64 (f91_r1 e d f w))]), heapN) :=
  Gives.by (n := 1000) (os := []) (os' := []) (by kernel_rfl) (ObsOK.nil)
def f23_r0 (a : Int) (b : Int) (c : Int) (d : Int) (e : Int) (f : Int) (w : Int) : Int := (f91_r0 e d f w)
def f23_r1 (a : Int) (b : Int) (c : Int) (d : Int) (e : Int) (f : Int) (w : Int) : Int := (f91_r1 e d f w)
theorem f23_gives (a : Int) (b : Int) (c : Int) (d : Int) (e : Int) (f : Int) (w : Int) : Gives Tryz.prog envI 0 23 [(.agg #[(.int .i64 (a)), (.int .i64 (b)), (.int .i64 (c)), (.int .i64 (d)), (.int .i64 (e)), (.int .i64 (f))]), (.int .i64 (w))] heapN ((.agg #[(.int .i64 (f23_r0 a b c d e f w)), (.int .i64 (f23_r1 a b c d e f w))]), heapN) := by
  simp only [f23_r0, f23_r1, cond_true, cond_false]; exact f23_p0 a b c d e f w
theorem f24_p0 (a : Int) (b : Int) (c : Int) (d : Int) (e : Int) (f : Int) (w : Int) : Gives Tryz.prog envI 0 24 [(.agg #[(.int .i64 (a)), (.int .i64 (b)), (.int .i64 (c)), (.int .i64 (d)), (.int .i64 (e)), (.int .i64 (f))]), (.int .i64 (w))] heapN ((.agg #[(.int .i64 (f38_r0 a b c d e f 0 0 0 0 w)), (.int .i64 (f38_r1 a b c d e f 0 0 0 0 w)), (.int .i64 (f38_r2 a b c d e f 0 0 0 0 w)), (.int .i64 (f38_r3 a b c d e f 0 0 0 0 w))]), heapN) :=
  Gives.by (n := 1000) (os := []) (os' := []) (by kernel_rfl) (ObsOK.nil)
def f24_r0 (a : Int) (b : Int) (c : Int) (d : Int) (e : Int) (f : Int) (w : Int) : Int := (f38_r0 a b c d e f 0 0 0 0 w)
def f24_r1 (a : Int) (b : Int) (c : Int) (d : Int) (e : Int) (f : Int) (w : Int) : Int := (f38_r1 a b c d e f 0 0 0 0 w)
def f24_r2 (a : Int) (b : Int) (c : Int) (d : Int) (e : Int) (f : Int) (w : Int) : Int := (f38_r2 a b c d e f 0 0 0 0 w)
def f24_r3 (a : Int) (b : Int) (c : Int) (d : Int) (e : Int) (f : Int) (w : Int) : Int := (f38_r3 a b c d e f 0 0 0 0 w)
theorem f24_gives (a : Int) (b : Int) (c : Int) (d : Int) (e : Int) (f : Int) (w : Int) : Gives Tryz.prog envI 0 24 [(.agg #[(.int .i64 (a)), (.int .i64 (b)), (.int .i64 (c)), (.int .i64 (d)), (.int .i64 (e)), (.int .i64 (f))]), (.int .i64 (w))] heapN ((.agg #[(.int .i64 (f24_r0 a b c d e f w)), (.int .i64 (f24_r1 a b c d e f w)), (.int .i64 (f24_r2 a b c d e f w)), (.int .i64 (f24_r3 a b c d e f w))]), heapN) := by
  simp only [f24_r0, f24_r1, f24_r2, f24_r3, cond_true, cond_false]; exact f24_p0 a b c d e f w
theorem f25_p0 (a : Int) (b : Int) (c : Int) (d : Int) (e : Int) (f : Int) (w : Int) : Gives Tryz.prog envI 0 25 [(.agg #[(.int .i64 (a)), (.int .i64 (b)), (.int .i64 (c)), (.int .i64 (d)), (.int .i64 (e)), (.int .i64 (f))]), (.int .i64 (w))] heapN ((.agg #[(.int .i64 (f40_r0 a b c d e f 0 0 0 0 w)), (.int .i64 (f40_r1 a b c d e f 0 0 0 0 w)), (.int .i64 (f40_r2 a b c d e f 0 0 0 0 w)), (.int .i64 (f40_r3 a b c d e f 0 0 0 0 w))]), heapN) :=
  Gives.by (n := 1000) (os := []) (os' := []) (by kernel_rfl) (ObsOK.nil)
def f25_r0 (a : Int) (b : Int) (c : Int) (d : Int) (e : Int) (f : Int) (w : Int) : Int := (f40_r0 a b c d e f 0 0 0 0 w)
def f25_r1 (a : Int) (b : Int) (c : Int) (d : Int) (e : Int) (f : Int) (w : Int) : Int := (f40_r1 a b c d e f 0 0 0 0 w)
def f25_r2 (a : Int) (b : Int) (c : Int) (d : Int) (e : Int) (f : Int) (w : Int) : Int := (f40_r2 a b c d e f 0 0 0 0 w)
def f25_r3 (a : Int) (b : Int) (c : Int) (d : Int) (e : Int) (f : Int) (w : Int) : Int := (f40_r3 a b c d e f 0 0 0 0 w)
theorem f25_gives (a : Int) (b : Int) (c : Int) (d : Int) (e : Int) (f : Int) (w : Int) : Gives Tryz.prog envI 0 25 [(.agg #[(.int .i64 (a)), (.int .i64 (b)), (.int .i64 (c)), (.int .i64 (d)), (.int .i64 (e)), (.int .i64 (f))]), (.int .i64 (w))] heapN ((.agg #[(.int .i64 (f25_r0 a b c d e f w)), (.int .i64 (f25_r1 a b c d e f w)), (.int .i64 (f25_r2 a b c d e f w)), (.int .i64 (f25_r3 a b c d e f w))]), heapN) := by
  simp only [f25_r0, f25_r1, f25_r2, f25_r3, cond_true, cond_false]; exact f25_p0 a b c d e f w
theorem f26_p0 (a : Int) (b : Int) (c : Int) (d : Int) (e : Int) (f : Int) (w : Int) : Gives Tryz.prog envI 0 26 [(.agg #[(.int .i64 (a)), (.int .i64 (b)), (.int .i64 (c)), (.int .i64 (d)), (.int .i64 (e)), (.int .i64 (f))]), (.int .i64 (w))] heapN ((.agg #[(.int .i64 (f39_r0 a b c d e f 0 0 0 0 w)), (.int .i64 (f39_r1 a b c d e f 0 0 0 0 w)), (.int .i64 (f39_r2 a b c d e f 0 0 0 0 w)), (.int .i64 (f39_r3 a b c d e f 0 0 0 0 w))]), heapN) :=
  Gives.by (n := 1000) (os := []) (os' := []) (by kernel_rfl) (ObsOK.nil)
def f26_r0 (a : Int) (b : Int) (c : Int) (d : Int) (e : Int) (f : Int) (w : Int) : Int := (f39_r0 a b c d e f 0 0 0 0 w)
def f26_r1 (a : Int) (b : Int) (c : Int) (d : Int) (e : Int) (f : Int) (w : Int) : Int := (f39_r1 a b c d e f 0 0 0 0 w)
def f26_r2 (a : Int) (b : Int) (c : Int) (d : Int) (e : Int) (f : Int) (w : Int) : Int := (f39_r2 a b c d e f 0 0 0 0 w)
def f26_r3 (a : Int) (b : Int) (c : Int) (d : Int) (e : Int) (f : Int) (w : Int) : Int := (f39_r3 a b c d e f 0 0 0 0 w)
theorem f26_gives (a : Int) (b : Int) (c : Int) (d : Int) (e : Int) (f : Int) (w : Int) : Gives Tryz.prog envI 0 26 [(.agg #[(.int .i64 (a)), (.int .i64 (b)), (.int .i64 (c)), (.int .i64 (d)), (.int .i64 (e)), (.int .i64 (f))]), (.int .i64 (w))] heapN ((.agg #[(.int .i64 (f26_r0 a b c d e f w)), (.int .i64 (f26_r1 a b c d e f w)), (.int .i64 (f26_r2 a b c d e f w)), (.int .i64 (f26_r3 a b c d e f w))]), heapN) := by
  simp only [f26_r0, f26_r1, f26_r2, f26_r3, cond_true, cond_false]; exact f26_p0 a b c d e f w
def B_envJ (f : FuncId) (args : List Value) : Option (Heap × Value) :=
  if f == 90 then
    match args with
    | [(.agg ⟨[(.int .i64 (a)), (.int .i64 (b)), (.int .i64 (c)), (.int .i64 (d)), (.int .i64 (e)), (.int .i64 (f))]⟩), (.int .i64 (w))] => some (heap0, (.tuple #[(.agg #[(.int .i64 (f90_r0 a b c d e f w)), (.int .i64 (f90_r1 a b c d e f w)), (.int .i64 (f90_r2 a b c d e f w)), (.int .i64 (f90_r3 a b c d e f w)), (.int .i64 (f90_r4 a b c d e f w)), (.int .i64 (f90_r5 a b c d e f w)), (.int .i64 (f90_r6 a b c d e f w)), (.int .i64 (f90_r7 a b c d e f w)), (.int .i64 (f90_r8 a b c d e f w)), (.int .i64 (f90_r9 a b c d e f w)), (.int .i64 (0)), (.int .i64 (0)), (.int .i64 (f90_r12 a b c d e f w)), (.int .i64 (0)), (.int .i64 (f90_r14 a b c d e f w)), (.int .i64 (f90_r15 a b c d e f w)), (.int .i64 (f90_r16 a b c d e f w)), (.int .i64 (f90_r17 a b c d e f w))]), (.int .i64 (f90_r18 a b c d e f w))]))
    | _ => none
  else  if f == 104 then
    match args with
    | [(.agg ⟨[(.int .i64 (a)), (.int .i64 (b)), (.int .i64 (c)), (.int .i64 (d)), (.int .i64 (e)), (.int .i64 (f))]⟩), (.agg ⟨[(.int .i64 (g)), (.int .i64 (h)), (.int .i64 (i)), (.int .i64 (j))]⟩), (.int .i64 (w))] => some (heap0, (.tuple #[(.agg #[(.int .i64 (f104_r0 a b c d e f g h i j w)), (.int .i64 (f104_r1 a b c d e f g h i j w)), (.int .i64 (f104_r2 a b c d e f g h i j w)), (.int .i64 (f104_r3 a b c d e f g h i j w)), (.int .i64 (f104_r4 a b c d e f g h i j w)), (.int .i64 (f104_r5 a b c d e f g h i j w)), (.int .i64 (f104_r6 a b c d e f g h i j w)), (.int .i64 (f104_r7 a b c d e f g h i j w)), (.int .i64 (f104_r8 a b c d e f g h i j w)), (.int .i64 (f104_r9 a b c d e f g h i j w)), (.int .i64 (f104_r10 a b c d e f g h i j w)), (.int .i64 (f104_r11 a b c d e f g h i j w)), (.int .i64 (f104_r12 a b c d e f g h i j w)), (.int .i64 (f104_r13 a b c d e f g h i j w)), (.int .i64 (f104_r14 a b c d e f g h i j w)), (.int .i64 (f104_r15 a b c d e f g h i j w)), (.int .i64 (f104_r16 a b c d e f g h i j w)), (.int .i64 (f104_r17 a b c d e f g h i j w))]), (.int .i64 (f104_r18 a b c d e f g h i j w))]))
    | _ => none
  else  if f == 23 then
    match args with
    | [(.agg ⟨[(.int .i64 (a)), (.int .i64 (b)), (.int .i64 (c)), (.int .i64 (d)), (.int .i64 (e)), (.int .i64 (f))]⟩), (.int .i64 (w))] => some (heapN, (.agg #[(.int .i64 (f23_r0 a b c d e f w)), (.int .i64 (f23_r1 a b c d e f w))]))
    | _ => none
  else  if f == 24 then
    match args with
    | [(.agg ⟨[(.int .i64 (a)), (.int .i64 (b)), (.int .i64 (c)), (.int .i64 (d)), (.int .i64 (e)), (.int .i64 (f))]⟩), (.int .i64 (w))] => some (heapN, (.agg #[(.int .i64 (f24_r0 a b c d e f w)), (.int .i64 (f24_r1 a b c d e f w)), (.int .i64 (f24_r2 a b c d e f w)), (.int .i64 (f24_r3 a b c d e f w))]))
    | _ => none
  else  if f == 25 then
    match args with
    | [(.agg ⟨[(.int .i64 (a)), (.int .i64 (b)), (.int .i64 (c)), (.int .i64 (d)), (.int .i64 (e)), (.int .i64 (f))]⟩), (.int .i64 (w))] => some (heapN, (.agg #[(.int .i64 (f25_r0 a b c d e f w)), (.int .i64 (f25_r1 a b c d e f w)), (.int .i64 (f25_r2 a b c d e f w)), (.int .i64 (f25_r3 a b c d e f w))]))
    | _ => none
  else  if f == 26 then
    match args with
    | [(.agg ⟨[(.int .i64 (a)), (.int .i64 (b)), (.int .i64 (c)), (.int .i64 (d)), (.int .i64 (e)), (.int .i64 (f))]⟩), (.int .i64 (w))] => some (heapN, (.agg #[(.int .i64 (f26_r0 a b c d e f w)), (.int .i64 (f26_r1 a b c d e f w)), (.int .i64 (f26_r2 a b c d e f w)), (.int .i64 (f26_r3 a b c d e f w))]))
    | _ => none
  else none
noncomputable def envJ : Env := envI.with (baseKnown B_envJ)
theorem envJ_ok : EnvOK Tryz.prog 9 envJ := env_base prog_ok envI_ok fun f args H v h => by
  unfold B_envJ at h
  split at h
  · rename_i hf
    have hf : f = 90 := by simpa using hf
    subst hf
    split at h
    · cases h; exact heap0_ok (f90_gives _ _ _ _ _ _ _)
    · cases h
  · skip
    split at h
    · rename_i hf
      have hf : f = 104 := by simpa using hf
      subst hf
      split at h
      · cases h; exact heap0_ok (f104_gives _ _ _ _ _ _ _ _ _ _ _)
      · cases h
    · skip
      split at h
      · rename_i hf
        have hf : f = 23 := by simpa using hf
        subst hf
        split at h
        · cases h; exact heapN_ok (f23_gives _ _ _ _ _ _ _)
        · cases h
      · skip
        split at h
        · rename_i hf
          have hf : f = 24 := by simpa using hf
          subst hf
          split at h
          · cases h; exact heapN_ok (f24_gives _ _ _ _ _ _ _)
          · cases h
        · skip
          split at h
          · rename_i hf
            have hf : f = 25 := by simpa using hf
            subst hf
            split at h
            · cases h; exact heapN_ok (f25_gives _ _ _ _ _ _ _)
            · cases h
          · skip
            split at h
            · rename_i hf
              have hf : f = 26 := by simpa using hf
              subst hf
              split at h
              · cases h; exact heapN_ok (f26_gives _ _ _ _ _ _ _)
              · cases h
            · skip
              cases h
end Go.Proofs.YtkndhhnjgpialaaGreatDoor
