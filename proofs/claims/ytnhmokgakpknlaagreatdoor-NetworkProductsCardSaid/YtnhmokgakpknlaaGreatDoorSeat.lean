/-
The seat's program, its tables and its library, as the abstract machine wants them.
-/
import Derived.Test.YtnhmokgakpknlaaGreatDoorAb25
import Derived.Test.YtnhmokgakpknlaaGreatDoorAbE
import Derived.Test.YtnhmokgakpknlaaGreatDoorAb27
import Derived.Test.YtnhmokgakpknlaaGreatDoorAb28
import Derived.Test.YtnhmokgakpknlaaGreatDoorAbO
import Derived.Test.YtnhmokgakpknlaaGreatDoorProg
import Derived.KernelRfl
namespace Go.Abs
open Go
def dropS : Nat → Code → Code
  | 0, c => c
  | n + 1, .seq _ b => dropS n b
  | _ + 1, c => c
def headS : Code → Code
  | .seq a _ => a
  | c => c
def isSeq : Code → Bool
  | .seq _ _ => true
  | _ => false
def seqAt (k : Nat) (c : Code) : Code := headS (dropS k c)
theorem dropS_succ : ∀ (k : Nat) (c : Code), isSeq (dropS k c) = true → dropS k c = .seq (seqAt k c) (dropS (k + 1) c)
  | 0, c, h => by cases c <;> first | rfl | cases h
  | k + 1, c, h => by
    cases c with
    | seq a b => exact dropS_succ k b h
    | _ => cases h
theorem runs_drop {P : Program} {E : Env} {lim k : Nat} {c : Code} {kk : List It} {l l1 : List Value} {A A1 : Heap} {r : List Value × Heap × Option Code} (h : isSeq (dropS k c) = true) (h1 : Runs P E lim [.code (seqAt k c)] l A (l1, A1, none)) (h2 : Runs P E lim (.code (dropS (k + 1) c) :: kk) l1 A1 r) :
    Runs P E lim (.code (dropS k c) :: kk) l A r := by
  rw [dropS_succ k c h]
  exact h1.seq h2
theorem runs_eq {P : Program} {E : Env} {lim lim' : Nat} {k k' : List It} {l l' : List Value} {A A' : Heap} {r : List Value × Heap × Option Code} (h : Runs P E lim k l A r) (e1 : lim' = lim) (e2 : k' = k) (e3 : l' = l) (e4 : A' = A) : Runs P E lim' k' l' A' r := by
  subst e1; subst e2; subst e3; subst e4; exact h
theorem runs_last {P : Program} {E : Env} {lim k : Nat} {c : Code} {l : List Value} {A : Heap} {r : List Value × Heap × Option Code} (h : isSeq (dropS k c) = false) (h1 : Runs P E lim [.code (seqAt k c)] l A r) : Runs P E lim [.code (dropS k c)] l A r := by
  unfold seqAt at h1
  cases hd : dropS k c with
  | seq a b => rw [hd] at h; cases h
  | _ => rw [hd] at h1; exact h1
end Go.Abs
namespace Go.Proofs.YtnhmokgakpknlaaGreatDoor
open Go Go.Abs

theorem prog_ok : ProgOK Tryz.prog 9 := progOK_spec (by kernel_rfl)
def memN (l : List Nat) (n : Nat) : Bool := l.any fun m => m == n
/-- Functions that write rows of their callers; functions of the library without bodies. -/
def env0 : Env := { impure := memN [153, 154, 176, 177, 152, 188, 117, 181, 185], known := libKnown 190 191 5 }
theorem lib : LibOK Tryz.prog 190 191 5 where
  ne_ := ⟨_, Tryz.func190, by kernel_rfl, by kernel_rfl, by kernel_rfl, by kernel_rfl⟩
  mk_ := ⟨_, Tryz.f191.params, 201, Tryz.func191, by kernel_rfl, by kernel_rfl, by kernel_rfl, by kernel_rfl, by kernel_rfl⟩
  esz := by kernel_rfl
theorem env0_ok : EnvOK Tryz.prog 9 env0 := lib_ok lib
def lits (k : IntKind) (l : List Int) : List Value := l.map (.int k)
def H (X : Heap) : Heap :=
  some (.cells (lits .i64 [1,0,0,1,-1,0,0,-1]) 0 .ro) ::
  some (.cells (lits .u64 [1,10,100,1000,10000,100000,1000000,10000000,100000000,1000000000,10000000000,100000000000,1000000000000,10000000000000,100000000000000,1000000000000000,10000000000000000,100000000000000000,1000000000000000000,10000000000000000000]) 0 .ro) ::
  none ::
  some (.cells (lits .u8 [0,1,28,2,29,14,24,3,30,22,20,15,25,17,4,8,31,27,13,23,21,19,16,7,26,12,18,6,11,5,10,9]) 0 .ro) ::
  some (.cells (lits .u8 [0,1,56,2,57,49,28,3,61,58,42,50,38,29,17,4,62,47,59,36,45,43,51,22,53,39,33,30,24,18,12,5,63,55,48,27,60,41,37,16,46,35,44,21,52,32,23,11,54,26,40,15,34,20,31,10,25,14,19,9,13,8,7,6]) 0 .ro) ::
  none :: none :: none :: none :: X
/-- The tables, as rows. -/
def heap0 : Heap := H []
noncomputable def bodyOf (f : FuncId) : Code := match Tryz.prog.funcs[f]? with
  | some fn => fn.body.getD .skip
  | none => .skip
/-- No table at all. -/
def heapN : Heap := [none, none, none, none, none, none, none, none, none]
end Go.Proofs.YtnhmokgakpknlaaGreatDoor
