/-
The abstract machine: how it runs code and calls. Everything here reckons.
-/
import Derived.Test.YtnhmokgakpknlaaGreatDoorAb9
namespace Go.Abs
open Go

/-- What is left to be done in a call. -/
inductive It where
  | code (c : Code)
  | inBlock (id : Nat)
  | inLoop (body : Code)
  | inScope (body : Code)
  | ops (all : Array Oper) (i : Nat)

def aExit (id : Nat) : List It → Option (List It)
  | .inBlock id' :: k => if id' == id then some k else aExit id k
  | .code _ :: k | .inLoop _ :: k | .inScope _ :: k | .ops _ _ :: k => aExit id k
  | [] => none
def aGoto (l : Nat) : List It → Option (List It)
  | .inScope body :: k =>
    match findLabel body l with
    | some rest => some (.code rest :: .inScope body :: k)
    | none => aGoto l k
  | .code _ :: k | .inLoop _ :: k | .inBlock _ :: k | .ops _ _ :: k => aGoto l k
  | [] => none

noncomputable def aYielded (ops : Array Oper) (l : List Value) (j : Nat) : Option Bool :=
  match (ops[j]?).bind (·.dst) with
  | some d => match tget l d with
    | .bool b => some b
    | _ => none
  | none => none
noncomputable def aWanted (ops : Array Oper) (l : List Value) (o : Oper) : Bool :=
  match o.guard with
  | none => true
  | some (j, want) => aYielded ops l j == some want

/-- A call of a Go function: which one, and with what. -/
noncomputable def aCallOf (l : List Value) (o : Oper) : Option (FuncId × List Value) :=
  match o.op with
  | .call { callee := .value x, args, .. } =>
    match ev l x with
    | .func (.func f) first captured => some (f, first.toList ++ args.toList.map (ev l) ++ captured.toList)
    | _ => none
  | _ => none

noncomputable def aResult (P : Program) (l : List Value) (A : Heap) : ResultVar → Option Value
  | .tmp t => some (tget l t)
  | .cell a t => aLoad P t (tget l a) A
noncomputable def aResults1 (P : Program) (l : List Value) (A : Heap) : List ResultVar → Option (List Value)
  | [] => some []
  | r :: rs =>
    match aResult P l A r, aResults1 P l A rs with
    | some v, some vs => some (v :: vs)
    | _, _ => none
noncomputable def aResults (P : Program) (fn : Func) (l : List Value) (A : Heap) : Option Value :=
  match aResults1 P l A fn.results.toList with
  | some [v] => some v
  | some vs => some (.tuple vs.toArray)
  | none => none

/-- The new rows that a value leads to. -/
def cellIds (s : Nat) : Value → List Nat
  | .pointer (some ⟨i, _, none⟩) => if s ≤ i then [i] else []
  | .slice (some ⟨i, _, none⟩) _ _ => if s ≤ i then [i] else []
  | _ => []
def aggIds (s : Nat) : Value → List Nat
  | .agg cs => cs.toList.flatMap (cellIds s)
  | v => cellIds s v
def valIds (s : Nat) : Value → List Nat
  | .tuple vs => vs.toList.flatMap (aggIds s)
  | v => aggIds s v
def place (i : Nat) : List Nat → Option Nat
  | [] => none
  | j :: l => if j = i then some 0 else (place i l).map (· + 1)
def cellRen (s : Nat) (ids : List Nat) : Value → Option Value
  | .pointer (some ⟨i, o, none⟩) => if i < s then some (.pointer (some ⟨i, o, none⟩)) else (place i ids).map fun j => .pointer (some ⟨s + j, o, none⟩)
  | .slice (some ⟨i, o, none⟩) n c => if i < s then some (.slice (some ⟨i, o, none⟩) n c) else (place i ids).map fun j => .slice (some ⟨s + j, o, none⟩) n c
  | v => if atomB v then some v else none
def listRen (f : Value → Option Value) : List Value → Option (List Value)
  | [] => some []
  | v :: l => match f v, listRen f l with
    | some v', some l' => some (v' :: l')
    | _, _ => none
def aggRen (s : Nat) (ids : List Nat) : Value → Option Value
  | .agg cs => (listRen (cellRen s ids) cs.toList).map fun l => .agg l.toArray
  | v => cellRen s ids v
def valRen (s : Nat) (ids : List Nat) : Value → Option Value
  | .tuple vs => (listRen (aggRen s ids) vs.toList).map fun l => .tuple l.toArray
  | v => aggRen s ids v
noncomputable def keptRows (A : Heap) : List Nat → Option Heap
  | [] => some []
  | i :: l => match hget A i, keptRows A l with
    | some (.cells cs e u), some R => if cs.all atomB then some (some (.cells cs e u) :: R) else none
    | _, _ => none
def nodupB : List Nat → Bool
  | [] => true
  | i :: l => (place i l).isNone && nodupB l
/-- Behind a call that wrote no row that was there: what the result does not lead to is forgotten. -/
noncomputable def aGC (A : Heap) (v : Value) (A' : Heap) : Value × Heap :=
  match valRen A.length (valIds A.length v) v, keptRows A' (valIds A.length v) with
  | some v', some [] => (v', A)
  | some v', some R => if nodupB (valIds A.length v) then (v', A ++ R) else (v, A')
  | _, _ => (v, A')

/-- The surroundings of a run: functions that write rows of their callers; functions whose results are known. -/
structure Env where
  impure : FuncId → Bool
  known : Nat → FuncId → List Value → Heap → Option (Value × Heap)

/-- A run: the slots and rows at its end, and the jump that left it (none: its end was reached). -/
abbrev RunF := List It → List Value → Heap → Option (List Value × Heap × Option Code)
/-- A jump by which a function's body may be left. -/
def retB : Option Code → Bool
  | none => true
  | some .ret => true
  | _ => false
abbrev CallF := Nat → FuncId → List Value → Heap → Option (Value × Heap)

/-- A call of the function that a range over a function hands over. -/
noncomputable def aYieldOf (l : List Value) (o : Oper) : Option (Nat × List Value) :=
  match o.op with
  | .call { callee := .value x, args, .. } =>
    match ev l x with
    | .func (.yield i) _ _ => some (i, args.toList.map (ev l))
    | _ => none
  | _ => none
noncomputable def putAll (l : List Value) (ps : List (Tmp × Value)) : List Value := ps.foldl (fun l p => tset l p.1 p.2) l
/-- One round of a range over a function. -/
noncomputable def aYield (lim : Nat) (ih : RunF) (i : Nat) (args : List Value) (A : Heap) : Option (Bool × Heap) :=
  match hget A i with
  | some (.loop tm ps assign body .ready _) =>
    if lim ≤ i ∧ args.length = ps.size then
      match ih [.code assign] (putAll tm (ps.toList.zip args)) A with
      | some (l1, A1, none) =>
        match hget A1 i with
        | some (.loop tm1 ps1 as1 bo1 .ready pend1) =>
          match ih [.code body] l1 (hset A1 i (some (.loop tm1 ps1 as1 bo1 .busy pend1))) with
          | some (_, A2, j) =>
            match hget A2 i with
            | some (.loop tm2 ps2 as2 bo2 _ _) => some (j.isNone, hset A2 i (some (.loop tm2 ps2 as2 bo2 (if j.isNone then .ready else .done) j)))
            | _ => none
          | none => none
        | _ => none
      | _ => none
    else none
  | _ => none
/-- What an operation may call: Go functions; a round of a range over a function. -/
structure Sub where
  call : CallF
  yld : Nat → Nat → List Value → Heap → Option (Bool × Heap)
/-- One operation. -/
noncomputable def aOper (P : Program) (c : Sub) (lim : Nat) (l : List Value) (o : Oper) (A : Heap) : Option (Value × Heap) :=
  match aYieldOf l o with
  | some (y, args) => match c.yld lim y args A with
    | some (t, A') => some (.bool t, A')
    | none => none
  | none => match aCallOf l o with
    | some (f, args) => c.call lim f args A
    | none => aOp P lim l o A

def isJump : Code → Bool
  | .ret | .exit _ | .goto _ => true
  | _ => false
/-- A range over a function: the jump that a round has left, and the rows. -/
noncomputable def aRangeFunc (call : CallF) (lim : Nat) (l : List Value) (g : Operand) (ps : Array Tmp) (assign body : Code) (A : Heap) : Option (Option Code × Heap) :=
  match ev l g with
  | .func (.func f) first captured =>
    match call lim f (first.toList ++ [.func (.yield A.length) #[] #[]] ++ captured.toList) (A ++ [some (.loop l ps assign body .ready none)]) with
    | some (_, A') =>
      match hget A' A.length with
      | some (.loop tm ps' as' bo' st pend) => if st ≠ .busy then some (pend, hset A' A.length (some (.loop tm ps' as' bo' .exhausted pend))) else none
      | _ => none
    | none => none
  | _ => none

noncomputable def aStep (P : Program) (c : Sub) (draw : Array Oper → List Value → Heap → Option (List Value × Heap)) (lim : Nat) (ih : RunF) : RunF
  | [], l, A => some (l, A, none)
  | .code co :: k, l, A =>
    match co with
    | .ret => some (l, A, some .ret)
    | .skip => ih k l A
    | .label _ => ih k l A
    | .seq a b => ih (.code a :: .code b :: k) l A
    | .cond x a b => match ev l x with
      | .bool t => if t then ih (.code a :: k) l A else ih (.code b :: k) l A
      | _ => none
    | .block id b => ih (.code b :: .inBlock id :: k) l A
    | .loop b => ih (.code b :: .inLoop b :: k) l A
    | .scope b => ih (.code b :: .inScope b :: k) l A
    | .exit id => match aExit id k with
      | some k' => ih k' l A
      | none => some (l, A, some (.exit id))
    | .goto g => match aGoto g k with
      | some k' => ih k' l A
      | none => some (l, A, some (.goto g))
    | .region _ ops false => ih (.ops ops 0 :: k) l A
    | .region _ ops true => match draw ops l A with
      | some (l', A') => ih k l' A'
      | none => none
    | .rangeFunc g ps assign body => match aRangeFunc c.call lim l g ps assign body A with
      | some (none, A') => ih k l A'
      | some (some j, A') => if isJump j then ih (.code j :: k) l A' else none
      | none => none
    | _ => none
  | .inBlock _ :: k, l, A => ih k l A
  | .inScope _ :: k, l, A => ih k l A
  | .inLoop b :: k, l, A => ih (.code b :: .inLoop b :: k) l A
  | .ops all i :: k, l, A =>
    match all[i]? with
    | none => ih k l A
    | some o =>
      if aWanted all l o then
        match aOper P c lim l o A with
        | some (v, A') => ih (.ops all (i + 1) :: k) (tput l o.dst v) A'
        | none => none
      else ih (.ops all (i + 1) :: k) (tput l o.dst undef) A

/-- A call, over what runs code. -/
noncomputable def aCallBy (P : Program) (E : Env) (run : Nat → RunF) : CallF := fun lim f args A =>
  match E.known lim f args A with
  | some r => some r
  | none =>
    match P.funcs[f]? with
    | none => none
    | some fn =>
      match fn.body with
      | none =>
        if args.all freeB then
          match pureVal P (callFunc f args.toArray) with
          | some v => if freeB v then some (v, A) else none
          | none => none
        else none
      | some c =>
        if fn.ntmps < args.length then none
        else if E.impure f then
          match run lim [.code c] args A with
          | some (l', A', j) => if retB j then match aResults P fn l' A' with
              | some v => some (v, A')
              | none => none
            else none
          | none => none
        else
          match run A.length [.code c] args A with
          | some (l', A', j) => if retB j then match aResults P fn l' A' with
              | some v => some (aGC A v A')
              | none => none
            else none
          | none => none
end Go.Abs
