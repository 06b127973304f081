/-
The abstract machine: regions whose order is open; the run.
-/
import Derived.Test.YtnhmokgakpknlaaGreatDoorAb10
namespace Go.Abs
open Go

/-- Operations that turn rows that are there. -/
def isWriter (imp : FuncId → Bool) : Op → Bool
  | .store .. | .next .. | .mapUpdate .. | .insert .. => true
  | .call { callee := .builtin .append, .. } => true
  | .call { callee := .builtin .copy, .. } => true
  | .call { callee := .builtin .unsafeString, .. } => true
  | .call { callee := .value (.func f), .. } => imp f
  | _ => false

/-- An operation that turns rows that are there: it may be a call of a value. -/
noncomputable def isWriterAt (imp : FuncId → Bool) (l : List Value) (o : Oper) : Bool :=
  isWriter imp o.op || (aYieldOf l o).isSome || (match aCallOf l o with
    | some (f, _) => imp f
    | none => false)
def isLoad : Op → Bool
  | .load .. => true
  | _ => false
def cmpIn (an : List Nat) (i j : Nat) : Bool := (an.getD i 0).testBit j || (an.getD j 0).testBit i
/-- The places of the operations that turn rows. -/
def writersOf (imp : FuncId → Bool) (ops : List Oper) : List Nat := (ops.zipIdx.filter fun x => isWriter imp x.1.op).map (·.2)
/-- A load that may come before or behind a writer. -/
def isFree (ws an : List Nat) (o : Oper) (i : Nat) : Bool := isLoad o.op && ws.any fun j => !(cmpIn an i j)
def solidIn (ws : List Nat) (ops : List Oper) (an : List Nat) (i : Nat) : Bool :=
  ops.zipIdx.all fun (o, j) => i == j || isPure o.op || isFree ws an o j || cmpIn an i j
/-- The row that a load reads; that a store writes. -/
noncomputable def loadRow (l : List Value) (o : Oper) : Option Nat :=
  match o.op with
  | .load _ a => match ev l a with
    | .pointer (some ⟨i, _, none⟩) => some i
    | _ => none
  | _ => none
noncomputable def storeRow (l : List Value) (o : Oper) : Option Nat :=
  match o.op with
  | .store _ a _ => match ev l a with
    | .pointer (some ⟨i, _, none⟩) => some i
    | _ => none
  | _ => none
def rowsApart (rs : List Nat) (wr : List (Option Nat)) : Bool := rs.all fun r => wr.all fun w => match w with
  | some w => !(w == r)
  | none => false

def flatRows : List (Nat × Heap) → Heap
  | [] => []
  | (_, N) :: l => N ++ flatRows l
def fullOf (B : Heap) (news : List (Nat × Heap)) : Heap :=
  match news with
  | [] => B
  | _ => B ++ flatRows news
theorem fullOf_eq (B : Heap) (news : List (Nat × Heap)) : fullOf B news = B ++ flatRows news := by
  cases news <;> simp [fullOf, flatRows]
def maskRows (m : Nat) : List (Nat × Heap) → Heap
  | [] => []
  | (j, N) :: l => (if m.testBit j then N else N.map fun _ => none) ++ maskRows m l

noncomputable def aDrawGo (P : Program) (c : Sub) (lim : Nat) (imp : FuncId → Bool) (all : Array Oper) (an ws : List Nat) (A0 : Heap) : List (Oper × Nat) → List Value → Heap → List (Nat × Heap) → List Nat → List (Option Nat) → Option (List Value × Heap)
  | [], l, B, news, rs, wr => if rowsApart rs wr then some (l, B ++ flatRows news) else none
  | (o, i) :: rest, l, B, news, rs, wr =>
    if aWanted all l o then
      if isPure o.op then
        match aOper P c lim l o [] with
        | some (v, _) => aDrawGo P c lim imp all an ws A0 rest (tput l o.dst v) B news rs wr
        | none => none
      else if isFree ws an o i then
        match loadRow l o with
        | some r => match aOper P c lim l o A0 with
          | some (v, _) => aDrawGo P c lim imp all an ws A0 rest (tput l o.dst v) B news (r :: rs) wr
          | none => none
        | none => none
      else if solidIn ws all.toList an i then
        match aOper P c (if isWriterAt imp l o then lim else (fullOf B news).length) l o (fullOf B news) with
        | some (v, R) => aDrawGo P c lim imp all an ws A0 rest (tput l o.dst v) R [] rs (if isWriterAt imp l o then storeRow l o :: wr else wr)
        | none => none
      else
        match aOper P c (B ++ flatRows news).length l o (B ++ maskRows (an.getD i 0) news) with
        | some (v, R) => aDrawGo P c lim imp all an ws A0 rest (tput l o.dst v) B (news ++ [(i, R.drop (B ++ flatRows news).length)]) rs wr
        | none => none
    else aDrawGo P c lim imp all an ws A0 rest (tput l o.dst undef) B news rs wr

noncomputable def aDraw (P : Program) (c : Sub) (lim : Nat) (imp : FuncId → Bool) (ops : Array Oper) (l : List Value) (A : Heap) : Option (List Value × Heap) :=
  aDrawGo P c lim imp ops (ancs ops.toList) (writersOf imp ops.toList) A ops.toList.zipIdx l A [] [] []

noncomputable def aRun (P : Program) (E : Env) : Nat → Nat → RunF
  | 0, _ => fun _ _ _ => none
  | n + 1, lim => aStep P ⟨aCallBy P E (aRun P E n), fun lim y args A => aYield lim (aRun P E n lim) y args A⟩ (aDraw P ⟨aCallBy P E (aRun P E n), fun lim y args A => aYield lim (aRun P E n lim) y args A⟩ lim E.impure) lim (aRun P E n lim)

noncomputable def aCall (P : Program) (E : Env) (n : Nat) : CallF := aCallBy P E (aRun P E n)
def noEnv : Env := { impure := fun _ => false, known := fun _ _ _ _ => none }
end Go.Abs
