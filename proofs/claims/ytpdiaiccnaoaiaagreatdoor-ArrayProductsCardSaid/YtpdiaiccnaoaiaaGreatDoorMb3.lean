/-
Joined: AbQ, AbE, Ab30, AbN, AbP, AbT.
-/
import Derived.Test.YtpdiaiccnaoaiaaGreatDoorMb2
import Derived.Laws.Externs
import Derived.Lib.MakeNoZero
import Derived.Lib.Builder
import Derived.Laws.IdiomRangeMap
set_option linter.unusedVariables false
set_option linter.unusedSimpArgs false
set_option linter.unusedSectionVars false
/-
The abstract machine, led by answers: where an answer is given for a place it is taken, and what was taken for true is told.
-/
namespace Go.Abs
open Go

/-- An answer for a place: a function, and a slot (or a block) of it. -/
inductive Ans where
  | br (f t : Nat) (b : Bool)
  | op (f t : Nat) (v : Value)
  | opw (f t : Nat) (v : Value) (A : Heap)
  | run (f t : Nat) (l : List Value) (A : Heap)
  | ret (f t : Nat) (l : List Value) (A : Heap)
  | gc (f : Nat) (v : Value) (A : Heap)

/-- What an answer owes. -/
inductive Ob where
  | cond (b t : Bool)
  | val (r : Option Value) (v : Value)
  | gc (r : Value × Heap) (v : Value) (A : Heap)
  | op (r : Option (Value × Heap)) (v : Value) (A : Heap)
  | call (lim : Nat) (f : FuncId) (args : List Value) (A : Heap) (v : Value) (A' : Heap)
  | run (lim : Nat) (c : Code) (l : List Value) (A : Heap) (r : List Value × Heap × Option Code)
abbrev Obs := List Ob
def Ob.holds (P : Program) (E : Env) : Ob → Prop
  | .cond b t => b = t
  | .val r v => r = some v
  | .gc r v A => r = (v, A)
  | .op r v A => r = some (v, A)
  | .call lim f args A v A' => Gives P E lim f args A (v, A')
  | .run lim c l A r => Runs P E lim [.code c] l A r
def ObsOK (P : Program) (E : Env) (t : Obs) : Prop := ∀ o ∈ t, o.holds P E
theorem ObsOK.nil {P : Program} {E : Env} : ObsOK P E [] := fun o h => by cases h
theorem ObsOK.cons {P : Program} {E : Env} {o : Ob} {t : Obs} (h : o.holds P E) (ht : ObsOK P E t) : ObsOK P E (o :: t) := fun d hd => by
  rcases List.mem_cons.1 hd with rfl | hd
  · exact h
  · exact ht d hd
section
variable {P : Program} {E : Env} {tk : Obs}
theorem ObsOK.cond {b t : Bool} (h : b = t) (ht : ObsOK P E tk) : ObsOK P E (.cond b t :: tk) := .cons h ht
theorem ObsOK.val {r : Option Value} {v : Value} (h : r = some v) (ht : ObsOK P E tk) : ObsOK P E (.val r v :: tk) := .cons h ht
theorem ObsOK.gc {r : Value × Heap} {v : Value} {A : Heap} (h : r = (v, A)) (ht : ObsOK P E tk) : ObsOK P E (.gc r v A :: tk) := .cons h ht
theorem ObsOK.both {r : Option (Value × Heap)} {v : Value} {A : Heap} (h : r = some (v, A)) (ht : ObsOK P E tk) : ObsOK P E (.op r v A :: tk) := .cons h ht
theorem ObsOK.heap {s : Option Heap} {A : Heap} (h : s = some A) (ht : ObsOK P E tk) : ObsOK P E (.op (s.map (undef, ·)) undef A :: tk) := .cons (show s.map (undef, ·) = some (undef, A) by rw [h]; rfl) ht
theorem ObsOK.call {lim : Nat} {f : FuncId} {args : List Value} {A A' : Heap} {v : Value} (h : Gives P E lim f args A (v, A')) (ht : ObsOK P E tk) : ObsOK P E (.call lim f args A v A' :: tk) := .cons h ht
theorem ObsOK.run {lim : Nat} {c : Code} {l : List Value} {A : Heap} {r : List Value × Heap × Option Code} (h : Runs P E lim [.code c] l A r) (ht : ObsOK P E tk) : ObsOK P E (.run lim c l A r :: tk) := .cons h ht
end
theorem ObsOK.app {P : Program} {E : Env} {t u : Obs} (h : ObsOK P E (t ++ u)) : ObsOK P E t ∧ ObsOK P E u := ⟨fun c hc => h c (List.mem_append_left _ hc), fun c hc => h c (List.mem_append_right _ hc)⟩
theorem ObsOK.uncons {P : Program} {E : Env} {o : Ob} {t : Obs} (h : ObsOK P E (o :: t)) : o.holds P E ∧ ObsOK P E t := ⟨h o (by simp), fun d hd => h d (by simp [hd])⟩

def hit (f t g u : Nat) : Bool := Nat.beq f g && Nat.beq t u
def ansB (f t : Nat) : List Ans → Option (Bool × List Ans)
  | .br g u b :: os => if hit f t g u then some (b, os) else none
  | _ => none
def ansV (f t : Nat) : List Ans → Option (Value × List Ans)
  | .op g u v :: os => if hit f t g u then some (v, os) else none
  | _ => none
def ansW (f t : Nat) : List Ans → Option ((Value × Heap) × List Ans)
  | .opw g u v B :: os => if hit f t g u then some ((v, B), os) else none
  | _ => none
def ansG (f : Nat) : List Ans → Option ((Value × Heap) × List Ans)
  | .gc g v B :: os => if Nat.beq f g then some ((v, B), os) else none
  | _ => none
def ansR (f t : Nat) : List Ans → Option ((List Value × Heap × Bool) × List Ans)
  | .run g u l A :: os => if hit f t g u then some ((l, A, false), os) else none
  | .ret g u l A :: os => if hit f t g u then some ((l, A, true), os) else none
  | _ => none
def dkey : Option Nat → Nat
  | some d => d + 1
  | none => 0
def okey : Operand → Nat
  | .tmp t => t + 1
  | _ => 0

abbrev CallQ := Nat → FuncId → List Value → Heap → List Ans → Option ((Value × Heap) × List Ans × Obs)
abbrev RunQ := List It → List Value → Heap → List Ans → Option ((List Value × Heap × Option Code) × List Ans × Obs)
structure SubQ where
  call : CallQ
  yld : Nat → Nat → List Value → Heap → List Ans → Option ((Bool × Heap) × List Ans × Obs)

/-- An operation with two operands. -/
noncomputable def aBin (P : Program) (op : BinOp) (t : TypeId) (x y : Operand) (a b : Value) : Option Value :=
  if freeB a && (freeB b && true) then
    match pureVal P (do
      let r ← (do eqGuard op t x y a b; binOp op t a b)
      pure (.value r)) with
    | some v => if freeB v then some v else none
    | none => none
  else none
def isArith : BinOp → Bool
  | .eql | .neq => false
  | _ => true
/-- What is owed for the value of an operation that leaves the rows. -/
noncomputable def obV (P : Program) (l : List Value) (o : Oper) (A : Heap) (v : Value) : Option Ob :=
  match o.op with
  | .load t a => some (.val (aLoad P t (ev l a) A) v)
  | .indexAddr t x i => some (.val (aIndexAddr P t (ev l x) (ev l i)) v)
  | .index t x i => some (.val (aIndex P t (ev l x) (ev l i)) v)
  | .lookup t x k ok => some (.val (aLookup P t (ev l x) (ev l k) ok A) v)
  | .binOp op t x y _ => if isArith op then some (.val (aBin P op t x y (ev l x) (ev l y)) v) else none
  | _ => none
theorem aBin_op {P : Program} {lim : Nat} {l : List Value} {o : Oper} {A : Heap} {op : BinOp} {t yt : TypeId} {x y : Operand} {v : Value} (ho : o.op = .binOp op t x y yt) (ha : isArith op = true) (h : aBin P op t x y (ev l x) (ev l y) = some v) : aOp P lim l o A = some (v, A) := by
  have hp : aOp P lim l o A = aPure P l o A := by
    obtain ⟨dst, op', type, pos, after, guard⟩ := o
    cases ho
    cases op <;> first | rfl | simp [isArith] at ha
  rw [hp]
  unfold aBin at h
  unfold aPure
  split at h
  · rename_i hf
    have hall : (o.op.operands.toList.all fun x => freeB (ev l x)) = true := by
      rw [ho]; simpa [Op.operands] using hf
    rw [if_pos hall]
    have hx : execOp (ev l) o = (do
        let r ← (do eqGuard op t x y (ev l x) (ev l y); binOp op t (ev l x) (ev l y))
        pure (.value r)) := by
      unfold execOp
      rw [ho]
    rw [hx]
    split at h
    · rename_i u hu
      rw [hu]
      simp only
      split at h
      · rename_i hfr
        cases h
        rw [if_pos hfr]
      · cases h
    · cases h
  · cases h
noncomputable def qOper (P : Program) (c : SubQ) (lim fid : Nat) (l : List Value) (o : Oper) (A : Heap) (os : List Ans) : Option ((Value × Heap) × List Ans × Obs) :=
  match aYieldOf l o with
  | some (y, args) => match c.yld lim y args A os with
    | some ((t, A'), os', tk) => some ((.bool t, A'), os', tk)
    | none => none
  | none => match aCallOf l o with
    | some (f, args) => match ansW fid (dkey o.dst) os with
      | some ((v, A'), os') => some ((v, A'), os', [.call lim f args A v A'])
      | none => c.call lim f args A os
    | none => match ansW fid (dkey o.dst) os with
      | some ((v, A'), os') => some ((v, A'), os', [.op (aOp P lim l o A) v A'])
      | none => match ansV fid (dkey o.dst) os with
       | some (v, os') => match obV P l o A v with
         | some b => some ((v, A), os', [b])
         | none => none
       | none => match o.op with
        | .pick x y z => match ansB fid (2 * dkey o.dst + 1) os with
          | some (b, os') => match ev l x with
            | .bool t => match b with
              | true => some ((ev l y, A), os', [.cond t true])
              | false => some ((ev l z, A), os', [.cond t false])
            | _ => none
          | none => match aOp P lim l o A with
            | some r => some (r, os, [])
            | none => none
        | _ => match aOp P lim l o A with
          | some r => some (r, os, [])
          | none => none

noncomputable def qWanted (fid : Nat) (ops : Array Oper) (l : List Value) (o : Oper) (os : List Ans) : Option (Bool × List Ans × Obs) :=
  match o.guard with
  | none => some (true, os, [])
  | some (j, want) => match (ops[j]?).bind (·.dst) with
    | some d => match tget l d with
      | .bool b => match ansB fid (2 * (d + 1)) os with
        | some (t, os') => some (t == want, os', [.cond b t])
        | none => some (b == want, os, [])
      | _ => some (false, os, [])
    | none => some (false, os, [])

/-- The function of the rounds of a range over a function, as far as answers go. -/
def yfid : Nat := 1000000
noncomputable def qYield (lim : Nat) (ih : RunQ) (i : Nat) (args : List Value) (A : Heap) (os : List Ans) : Option ((Bool × Heap) × List Ans × Obs) :=
  match hget A i with
  | some (.loop tm ps assign body .ready _) =>
    if lim ≤ i ∧ args.length = ps.size then
      match ih [.code assign] (putAll tm (ps.toList.zip args)) A os with
      | some ((l1, A1, none), os1, tk1) =>
        match hget A1 i with
        | some (.loop tm1 ps1 as1 bo1 .ready pend1) =>
          match ih [.code body] l1 (hset A1 i (some (.loop tm1 ps1 as1 bo1 .busy pend1))) os1 with
          | some ((_, A2, j), os2, tk2) =>
            match hget A2 i with
            | some (.loop tm2 ps2 as2 bo2 _ _) => some ((j.isNone, hset A2 i (some (.loop tm2 ps2 as2 bo2 (if j.isNone then .ready else .done) j))), os2, tk1 ++ tk2)
            | _ => none
          | none => none
        | _ => none
      | _ => none
    else none
  | _ => none

noncomputable def qRangeFunc (call : CallQ) (lim : Nat) (l : List Value) (g : Operand) (ps : Array Tmp) (assign body : Code) (A : Heap) (os : List Ans) : Option ((Option Code × Heap) × List Ans × Obs) :=
  match ev l g with
  | .func (.func f) first captured =>
    match call lim f (first.toList ++ [.func (.yield A.length) #[] #[]] ++ captured.toList) (A ++ [some (.loop l ps assign body .ready none)]) os with
    | some ((_, A'), os', tk) =>
      match hget A' A.length with
      | some (.loop tm ps' as' bo' st pend) => if st ≠ .busy then some ((pend, hset A' A.length (some (.loop tm ps' as' bo' .exhausted pend))), os', tk) else none
      | _ => none
    | none => none
  | _ => none

noncomputable def qDrawGo (P : Program) (c : SubQ) (lim fid : Nat) (imp : FuncId → Bool) (all : Array Oper) (an ws : List Nat) (A0 : Heap) : List (Oper × Nat) → List Value → Heap → List (Nat × Heap) → List Nat → List (Option Nat) → List Ans → Option ((List Value × Heap) × List Ans × Obs)
  | [], l, B, news, rs, wr, os => if rowsApart rs wr then some ((l, B ++ flatRows news), os, []) else none
  | (o, i) :: rest, l, B, news, rs, wr, os =>
    match qWanted fid all l o os with
    | some (true, os1, tk1) =>
      if isPure o.op then
        match qOper P c lim fid l o [] os1 with
        | some ((v, _), os2, tk2) => (qDrawGo P c lim fid imp all an ws A0 rest (tput l o.dst v) B news rs wr os2).map fun x => (x.1, x.2.1, tk1 ++ (tk2 ++ x.2.2))
        | none => none
      else if isFree ws an o i then
        match loadRow l o with
        | some r => match qOper P c lim fid l o A0 os1 with
          | some ((v, _), os2, tk2) => (qDrawGo P c lim fid imp all an ws A0 rest (tput l o.dst v) B news (r :: rs) wr os2).map fun x => (x.1, x.2.1, tk1 ++ (tk2 ++ x.2.2))
          | none => none
        | none => none
      else if solidIn ws all.toList an i then
        match qOper P c (if isWriterAt imp l o then lim else (fullOf B news).length) fid l o (fullOf B news) os1 with
        | some ((v, R), os2, tk2) => (qDrawGo P c lim fid imp all an ws A0 rest (tput l o.dst v) R [] rs (if isWriterAt imp l o then storeRow l o :: wr else wr) os2).map fun x => (x.1, x.2.1, tk1 ++ (tk2 ++ x.2.2))
        | none => none
      else
        match qOper P c (B ++ flatRows news).length fid l o (B ++ maskRows (an.getD i 0) news) os1 with
        | some ((v, R), os2, tk2) => (qDrawGo P c lim fid imp all an ws A0 rest (tput l o.dst v) B (news ++ [(i, R.drop (B ++ flatRows news).length)]) rs wr os2).map fun x => (x.1, x.2.1, tk1 ++ (tk2 ++ x.2.2))
        | none => none
    | some (false, os1, tk1) => (qDrawGo P c lim fid imp all an ws A0 rest (tput l o.dst undef) B news rs wr os1).map fun x => (x.1, x.2.1, tk1 ++ x.2.2)
    | none => none

noncomputable def qStep (P : Program) (c : SubQ) (imp : FuncId → Bool) (lim fid : Nat) (ih : RunQ) : RunQ
  | [], l, A, os => some ((l, A, none), os, [])
  | .code co :: k, l, A, os =>
    match co with
    | .ret => some ((l, A, some .ret), os, [])
    | .skip => ih k l A os
    | .label _ => ih k l A os
    | .seq a b => ih (.code a :: .code b :: k) l A os
    | .cond x a b => match ev l x with
      | .bool t => match ansB fid (2 * okey x) os with
        | some (true, os) => (ih (.code a :: k) l A os).map fun x => (x.1, x.2.1, [.cond t true] ++ x.2.2)
        | some (false, os) => (ih (.code b :: k) l A os).map fun x => (x.1, x.2.1, [.cond t false] ++ x.2.2)
        | none => match t with
          | true => ih (.code a :: k) l A os
          | false => ih (.code b :: k) l A os
      | _ => none
    | .block id b => match ansR fid id os with
      | some ((l', A', false), os) => (ih k l' A' os).map fun x => (x.1, x.2.1, [.run lim (.block id b) l A (l', A', none)] ++ x.2.2)
      | some ((l', A', true), os) => some ((l', A', some .ret), os, [.run lim (.block id b) l A (l', A', some .ret)])
      | none => ih (.code b :: .inBlock id :: k) l A os
    | .loop b => ih (.code b :: .inLoop b :: k) l A os
    | .scope b => ih (.code b :: .inScope b :: k) l A os
    | .exit id => match aExit id k with
      | some k' => ih k' l A os
      | none => some ((l, A, some (.exit id)), os, [])
    | .goto g => match aGoto g k with
      | some k' => ih k' l A os
      | none => some ((l, A, some (.goto g)), os, [])
    | .region _ ops false => ih (.ops ops 0 :: k) l A os
    | .region _ ops true => match qDrawGo P c lim fid imp ops (ancs ops.toList) (writersOf imp ops.toList) A ops.toList.zipIdx l A [] [] [] os with
      | some ((l', A'), os1, tk) => (ih k l' A' os1).map fun x => (x.1, x.2.1, tk ++ x.2.2)
      | none => none
    | .rangeFunc g ps assign body => match qRangeFunc c.call lim l g ps assign body A os with
      | some ((none, A'), os1, tk) => (ih k l A' os1).map fun x => (x.1, x.2.1, tk ++ x.2.2)
      | some ((some j, A'), os1, tk) => if isJump j then (ih (.code j :: k) l A' os1).map fun x => (x.1, x.2.1, tk ++ x.2.2) else none
      | none => none
    | _ => none
  | .inBlock _ :: k, l, A, os => ih k l A os
  | .inScope _ :: k, l, A, os => ih k l A os
  | .inLoop b :: k, l, A, os => ih (.code b :: .inLoop b :: k) l A os
  | .ops all i :: k, l, A, os =>
    match all[i]? with
    | none => ih k l A os
    | some o =>
      match qWanted fid all l o os with
      | some (true, os1, tk1) =>
        match qOper P c lim fid l o A os1 with
        | some ((v, A'), os2, tk2) => (ih (.ops all (i + 1) :: k) (tput l o.dst v) A' os2).map fun x => (x.1, x.2.1, tk1 ++ (tk2 ++ x.2.2))
        | none => none
      | some (false, os1, tk1) => (ih (.ops all (i + 1) :: k) (tput l o.dst undef) A os1).map fun x => (x.1, x.2.1, tk1 ++ x.2.2)
      | none => none

noncomputable def qCallBy (P : Program) (E : Env) (run : Nat → Nat → RunQ) : CallQ := fun lim f args A os =>
  match E.known lim f args A with
  | some r => some (r, os, [])
  | none =>
    match P.funcs[f]? with
    | none => none
    | some fn =>
      match fn.body with
      | none =>
        if args.all freeB then
          match pureVal P (callFunc f args.toArray) with
          | some v => if freeB v then some ((v, A), os, []) else none
          | none => none
        else none
      | some c =>
        if fn.ntmps < args.length then none
        else if E.impure f then
          match run lim f [.code c] (padTo fn.ntmps args) A os with
          | some ((l', A', j), os', tk) => if retB j then match aResults P fn l' A' with
              | some v => some ((v, A'), os', tk)
              | none => none
            else none
          | none => none
        else
          match run A.length f [.code c] (padTo fn.ntmps args) A os with
          | some ((l', A', j), os', tk) => if retB j then match aResults P fn l' A' with
              | some v => match ansG f os' with
                | some ((v1, A1), os2) => some ((v1, A1), os2, tk ++ [.gc (aGC A v A') v1 A1])
                | none => some (aGC A v A', os', tk)
              | none => none
            else none
          | none => none

noncomputable def qRun (P : Program) (E : Env) : Nat → Nat → Nat → RunQ
  | 0, _, _ => fun _ _ _ _ => none
  | n + 1, lim, fid => qStep P ⟨qCallBy P E (qRun P E n), fun lim y args A os => qYield lim (qRun P E n lim yfid) y args A os⟩ E.impure lim fid (qRun P E n lim fid)
noncomputable def qCall (P : Program) (E : Env) (n : Nat) : CallQ := qCallBy P E (qRun P E n)

/-- A run that returns does so whatever is behind it. -/
theorem aStep_ret {P : Program} {c c' : Sub} {d d' : Array Oper → List Value → Heap → Option (List Value × Heap)} {ih ih' : RunF} {lim : Nat} {kk : List It} {l1 : List Value} {A1 : Heap} (h : SubLe c c') (hd : ∀ ops l A r, d ops l A = some r → d' ops l A = some r)
    (hi : ∀ k l A, ih k l A = some (l1, A1, some .ret) → ih' (k ++ kk) l A = some (l1, A1, some .ret)) :
    ∀ k l A, aStep P c d lim ih k l A = some (l1, A1, some .ret) → aStep P c' d' lim ih' (k ++ kk) l A = some (l1, A1, some .ret) := by
  intro todo l A hr
  cases todo with
  | nil => cases hr
  | cons x k =>
    cases x with
    | inBlock id => exact hi _ _ _ hr
    | inScope c => exact hi _ _ _ hr
    | inLoop c => exact hi _ _ _ hr
    | ops all i =>
      simp only [List.cons_append, aStep] at hr ⊢
      split
      · rename_i hn; rw [hn] at hr; exact hi _ _ _ hr
      · rename_i o ho
        rw [ho] at hr
        simp only at hr
        split
        · rename_i hw
          rw [if_pos hw] at hr
          split at hr
          · rename_i v A1 hop
            rw [aOper_le h hop]
            exact hi _ _ _ hr
          · cases hr
        · rename_i hw
          rw [if_neg hw] at hr
          exact hi _ _ _ hr
    | code c =>
      cases c with
      | ret => exact hr
      | cond x c1 c2 =>
        simp only [List.cons_append, aStep] at hr ⊢
        split
        · rename_i t ht
          rw [ht] at hr
          simp only at hr
          split
          · rename_i hb; rw [if_pos hb] at hr; exact hi _ _ _ hr
          · rename_i hb; rw [if_neg hb] at hr; exact hi _ _ _ hr
        · rename_i hn
          split at hr
          · rename_i t ht; exact absurd ht (hn t)
          · cases hr
      | exit id =>
        simp only [List.cons_append, aStep] at hr ⊢
        split at hr
        · rename_i k' hk'; rw [exit_app kk hk']; exact hi _ _ _ hr
        · simp at hr
      | goto g =>
        simp only [List.cons_append, aStep] at hr ⊢
        split at hr
        · rename_i k' hk'; rw [goto_app kk hk']; exact hi _ _ _ hr
        · simp at hr
      | rangeFunc g ps as bo =>
        simp only [List.cons_append, aStep] at hr ⊢
        split at hr
        · rename_i A1 h1; rw [aRangeFunc_le h.call h1]; exact hi _ _ _ hr
        · rename_i c1 A1 h1
          rw [aRangeFunc_le h.call h1]
          split at hr
          · rename_i hj; simp only [hj, if_true]; exact hi _ _ _ hr
          · cases hr
        · cases hr
      | region id ops b =>
        cases b with
        | false => exact hi _ _ _ hr
        | true =>
          simp only [List.cons_append, aStep] at hr ⊢
          split at hr
          · rename_i l1 A1 h1; rw [hd _ _ _ _ h1]; exact hi _ _ _ hr
          · cases hr
      | _ => first | exact hi _ _ _ hr | cases hr
theorem run_ret {P : Program} {E : Env} {lim : Nat} {kk : List It} {l1 : List Value} {A1 : Heap} : ∀ (n : Nat) (k : List It) (l : List Value) (A : Heap), aRun P E n lim k l A = some (l1, A1, some .ret) → aRun P E n lim (k ++ kk) l A = some (l1, A1, some .ret)
  | 0, k, l, A, h => by cases h
  | n + 1, k, l, A, h => aStep_ret (subLe_mono (Nat.le_refl n)) (fun ops l A r h => h) (run_ret n) k l A h

/-- What a run may call, with fuel enough. -/
noncomputable def subAt (P : Program) (E : Env) (N : Nat) : Sub := ⟨aCallBy P E (aRun P E N), fun lim y args A => aYield lim (aRun P E N lim) y args A⟩
theorem subAt_le {P : Program} {E : Env} {n m : Nat} (h : n ≤ m) : SubLe (subAt P E n) (subAt P E m) := subLe_mono h

section
variable {P : Program} {E : Env} {lim fid : Nat} {c : SubQ}
def RunE (P : Program) (E : Env) (lim : Nat) (r : RunQ) : Prop := ∀ k l A os x os' tk, r k l A os = some (x, os', tk) → ObsOK P E tk → ∃ N, aRun P E N lim k l A = some x
def CallE (P : Program) (E : Env) (r : CallQ) : Prop := ∀ lim f args A os x os' tk, r lim f args A os = some (x, os', tk) → ObsOK P E tk → ∃ N, aCall P E N lim f args A = some x
structure SubE (P : Program) (E : Env) (c : SubQ) : Prop where
  call : CallE P E c.call
  yld : ∀ lim y args A os x os' tk, c.yld lim y args A os = some (x, os', tk) → ObsOK P E tk → ∃ N, aYield lim (aRun P E N lim) y args A = some x

theorem qmap {α β : Type} {x : Option (α × β × Obs)} {g : Obs → Obs} {a : α} {b : β} {c : Obs} (h : x.map (fun x => (x.1, x.2.1, g x.2.2)) = some (a, b, c)) : ∃ c', x = some (a, b, c') ∧ c = g c' := by
  cases x with
  | none => cases h
  | some x => obtain ⟨x1, x2, x3⟩ := x; cases h; exact ⟨x3, rfl, rfl⟩

theorem qOper_e (h : SubE P E c) {l : List Value} {o : Oper} {A : Heap} {os os' : List Ans} {x : Value × Heap} {tk : Obs} (ho : qOper P c lim fid l o A os = some (x, os', tk)) (ht : ObsOK P E tk) : ∃ N, aOper P (subAt P E N) lim l o A = some x := by
  unfold qOper at ho
  unfold aOper
  split at ho
  · rename_i hyo
    simp only [hyo]
    split at ho
    · rename_i hy
      cases ho
      obtain ⟨N, hN⟩ := h.yld _ _ _ _ _ _ _ _ hy ht
      refine ⟨N, ?_⟩
      simp only [subAt]
      rw [hN]
    · cases ho
  · rename_i hyo
    simp only [hyo]
    split at ho
    · rename_i hco
      simp only [hco]
      split at ho
      · cases ho
        exact (ht.uncons).1
      · exact h.call _ _ _ _ _ _ _ _ ho ht
    · rename_i hco
      simp only [hco]
      refine ⟨0, ?_⟩
      split at ho
      · cases ho
        exact (ht.uncons).1
      · split at ho
        · rename_i v os0 hans
          split at ho
          · rename_i b hb
            cases ho
            have hh := (ht.uncons).1
            unfold obV at hb
            split at hb
            · rename_i hop; cases hb; simp only [Ob.holds] at hh; simp [aOp, hop, hh]
            · rename_i hop; cases hb; simp only [Ob.holds] at hh; simp [aOp, hop, hh]
            · rename_i hop; cases hb; simp only [Ob.holds] at hh; simp [aOp, hop, hh]
            · rename_i hop; cases hb; simp only [Ob.holds] at hh; simp [aOp, hop, hh]
            · rename_i hop
              split at hb
              · rename_i ha
                cases hb
                exact aBin_op hop ha hh
              · cases hb
            · cases hb
          · cases ho
        · split at ho
          · rename_i u y z hop
            split at ho
            · split at ho
              · rename_i t hev
                split at ho
                · cases ho
                  have hb : t = true := (ht.uncons).1
                  subst hb
                  simp [aOp, hop, hev]
                · cases ho
                  have hb : t = false := (ht.uncons).1
                  subst hb
                  simp [aOp, hop, hev]
              · cases ho
            · split at ho
              · rename_i hr; cases ho; exact hr
              · cases ho
          · split at ho
            · rename_i hr; cases ho; exact hr
            · cases ho

theorem qWanted_e {ops : Array Oper} {l : List Value} {o : Oper} {os os' : List Ans} {b : Bool} {tk : Obs} (ho : qWanted fid ops l o os = some (b, os', tk)) (ht : ObsOK P E tk) : aWanted ops l o = b := by
  unfold qWanted at ho
  unfold aWanted
  split at ho
  · rename_i hg; cases ho; rw [hg]
  · rename_i j want hg
    rw [hg]
    simp only [aYielded]
    split at ho
    · rename_i dd hd
      rw [hd]
      simp only
      split at ho
      · rename_i b0 hb
        rw [hb]
        split at ho
        · rename_i t os0 hans
          cases ho
          have : b0 = t := (ht.uncons).1
          subst this
          cases b0 <;> cases want <;> rfl
        · cases ho
          cases b0 <;> cases want <;> rfl
      · rename_i hn
        cases ho
        split
        · rename_i b0 hb; exact absurd hb (hn b0)
        · rfl
    · rename_i hd
      cases ho
      rw [hd]
      rfl

theorem qYield_e {ih : RunQ} (hi : RunE P E lim ih) {y : Nat} {args : List Value} {A : Heap} {os os' : List Ans} {x : Bool × Heap} {tk : Obs} (h : qYield lim ih y args A os = some (x, os', tk)) (ht : ObsOK P E tk) : ∃ N, aYield lim (aRun P E N lim) y args A = some x := by
  unfold qYield at h
  unfold aYield
  split at h
  · rename_i hg
    simp only [hg]
    split at h
    · rename_i hc
      simp only [if_pos hc]
      split at h
      · rename_i h1
        split at h
        · rename_i hg1
          split at h
          · rename_i h2
            split at h
            · rename_i hg2
              cases h
              obtain ⟨t1, t2⟩ := ht.app
              obtain ⟨N1, e1⟩ := hi _ _ _ _ _ _ _ h1 t1
              obtain ⟨N2, e2⟩ := hi _ _ _ _ _ _ _ h2 t2
              refine ⟨max N1 N2, ?_⟩
              rw [aRun_mono (Nat.le_max_left N1 N2) lim _ _ _ _ e1]
              simp only
              rw [hg1]
              simp only
              rw [aRun_mono (Nat.le_max_right N1 N2) lim _ _ _ _ e2]
              simp only
              rw [hg2]
            · cases h
          · cases h
        · cases h
      · cases h
    · cases h
  · cases h
theorem qRangeFunc_e {c : CallQ} (hc : CallE P E c) {l : List Value} {g : Operand} {ps : Array Tmp} {as bo : Code} {A : Heap} {os os' : List Ans} {x : Option Code × Heap} {tk : Obs} (h : qRangeFunc c lim l g ps as bo A os = some (x, os', tk)) (ht : ObsOK P E tk) : ∃ N, aRangeFunc (aCall P E N) lim l g ps as bo A = some x := by
  unfold qRangeFunc at h
  unfold aRangeFunc
  split at h
  · rename_i hev
    simp only [hev]
    split at h
    · rename_i h1
      split at h
      · rename_i hg
        split at h
        · rename_i hst
          cases h
          obtain ⟨N, e⟩ := hc _ _ _ _ _ _ _ _ h1 ht
          refine ⟨N, ?_⟩
          rw [e]
          simp only
          rw [hg]
          simp only
          rw [if_pos hst]
        · cases h
      · cases h
    · cases h
  · cases h

theorem qDrawGo_e (h : SubE P E c) {imp : FuncId → Bool} {all : Array Oper} {an ws : List Nat} {A0 : Heap} : ∀ (rest : List (Oper × Nat)) (l : List Value) (B : Heap) (news : List (Nat × Heap)) (rs : List Nat) (wr : List (Option Nat)) (os os' : List Ans) (x : List Value × Heap) (tk : Obs),
    qDrawGo P c lim fid imp all an ws A0 rest l B news rs wr os = some (x, os', tk) → ObsOK P E tk → ∃ N, aDrawGo P (subAt P E N) lim imp all an ws A0 rest l B news rs wr = some x
  | [], l, B, news, rs, wr, os, os', x, tk, ho, ht => by
    simp only [qDrawGo] at ho
    refine ⟨0, ?_⟩
    simp only [aDrawGo]
    split at ho
    · rename_i hr; cases ho; rw [if_pos hr]
    · cases ho
  | (o, i) :: rest, l, B, news, rs, wr, os, os', x, tk, ho, ht => by
    simp only [qDrawGo] at ho
    simp only [aDrawGo]
    split at ho
    · rename_i os1 tk1 hw
      have step : ∀ {v : Value} {os2 : List Ans} {tk2 : Obs} {B' : Heap} {news' : List (Nat × Heap)} {rs' : List Nat} {wr' : List (Option Nat)}, (qDrawGo P c lim fid imp all an ws A0 rest (tput l o.dst v) B' news' rs' wr' os2).map (fun x => (x.1, x.2.1, tk1 ++ (tk2 ++ x.2.2))) = some (x, os', tk) →
          ObsOK P E tk1 ∧ ObsOK P E tk2 ∧ ∃ N, aDrawGo P (subAt P E N) lim imp all an ws A0 rest (tput l o.dst v) B' news' rs' wr' = some x := by
        intro v os2 tk2 B' news' rs' wr' hm
        obtain ⟨tk3, h3, rfl⟩ := qmap (g := fun z => tk1 ++ (tk2 ++ z)) hm
        obtain ⟨t1, t23⟩ := ht.app
        obtain ⟨t2, t3⟩ := t23.app
        exact ⟨t1, t2, qDrawGo_e h rest _ _ _ _ _ _ _ _ _ h3 t3⟩
      split at ho
      · rename_i hp
        split at ho
        · rename_i v R os2 tk2 hop
          obtain ⟨t1, t2, N2, hr⟩ := step ho
          obtain ⟨N1, e1⟩ := qOper_e h hop t2
          refine ⟨max N1 N2, ?_⟩
          rw [qWanted_e hw t1, if_pos rfl, if_pos hp, aOper_le (subAt_le (Nat.le_max_left N1 N2)) e1]
          exact aDrawGo_le (subAt_le (Nat.le_max_right N1 N2)) _ _ _ _ _ _ _ hr
        · cases ho
      · rename_i hp
        split at ho
        · rename_i hf
          split at ho
          · rename_i r hrow
            split at ho
            · rename_i v R os2 tk2 hop
              obtain ⟨t1, t2, N2, hr⟩ := step ho
              obtain ⟨N1, e1⟩ := qOper_e h hop t2
              refine ⟨max N1 N2, ?_⟩
              rw [qWanted_e hw t1, if_pos rfl, if_neg hp, if_pos hf, hrow]
              simp only
              rw [aOper_le (subAt_le (Nat.le_max_left N1 N2)) e1]
              exact aDrawGo_le (subAt_le (Nat.le_max_right N1 N2)) _ _ _ _ _ _ _ hr
            · cases ho
          · cases ho
        · rename_i hf
          split at ho
          · rename_i hs
            split at ho
            · rename_i v R os2 tk2 hop
              obtain ⟨t1, t2, N2, hr⟩ := step ho
              obtain ⟨N1, e1⟩ := qOper_e h hop t2
              refine ⟨max N1 N2, ?_⟩
              rw [qWanted_e hw t1, if_pos rfl, if_neg hp, if_neg hf, if_pos hs, aOper_le (subAt_le (Nat.le_max_left N1 N2)) e1]
              exact aDrawGo_le (subAt_le (Nat.le_max_right N1 N2)) _ _ _ _ _ _ _ hr
            · cases ho
          · rename_i hs
            split at ho
            · rename_i v R os2 tk2 hop
              obtain ⟨t1, t2, N2, hr⟩ := step ho
              obtain ⟨N1, e1⟩ := qOper_e h hop t2
              refine ⟨max N1 N2, ?_⟩
              rw [qWanted_e hw t1, if_pos rfl, if_neg hp, if_neg hf, if_neg hs, aOper_le (subAt_le (Nat.le_max_left N1 N2)) e1]
              exact aDrawGo_le (subAt_le (Nat.le_max_right N1 N2)) _ _ _ _ _ _ _ hr
            · cases ho
    · rename_i os1 tk1 hw
      obtain ⟨tk3, h3, rfl⟩ := qmap (g := fun z => tk1 ++ z) ho
      obtain ⟨t1, t3⟩ := ht.app
      obtain ⟨N, hN⟩ := qDrawGo_e h rest _ _ _ _ _ _ _ _ _ h3 t3
      refine ⟨N, ?_⟩
      rw [qWanted_e hw t1, if_neg (by simp)]
      exact hN
    · cases ho

theorem step_of {lim : Nat} {k k' : List It} {l l' : List Value} {A A' : Heap} {x : List Value × Heap × Option Code} (h : ∃ N, aRun P E N lim k' l' A' = some x) (hs : ∀ N, aRun P E (N + 1) lim k l A = aRun P E N lim k' l' A') : ∃ N, aRun P E N lim k l A = some x := by
  obtain ⟨N, h⟩ := h
  exact ⟨N + 1, (hs N).trans h⟩

theorem qStep_e (h : SubE P E c) {ih : RunQ} (hi : RunE P E lim ih) : RunE P E lim (qStep P c E.impure lim fid ih) := by
  intro todo l A os x os' tk ho ht
  have on : ∀ {k : List It} {l1 : List Value} {A1 : Heap} {os1 : List Ans} {tk1 : Obs}, (ih k l1 A1 os1).map (fun x => (x.1, x.2.1, tk1 ++ x.2.2)) = some (x, os', tk) → ObsOK P E tk1 ∧ ∃ N, aRun P E N lim k l1 A1 = some x := by
    intro k l1 A1 os1 tk1 hm
    obtain ⟨tk3, h3, rfl⟩ := qmap (g := fun z => tk1 ++ z) hm
    obtain ⟨t1, t3⟩ := ht.app
    exact ⟨t1, hi _ _ _ _ _ _ _ h3 t3⟩
  cases todo with
  | nil => cases ho; exact ⟨1, rfl⟩
  | cons y k =>
    cases y with
    | inBlock id => exact step_of (hi _ _ _ _ _ _ _ ho ht) fun _ => rfl
    | inScope c => exact step_of (hi _ _ _ _ _ _ _ ho ht) fun _ => rfl
    | inLoop c => exact step_of (hi _ _ _ _ _ _ _ ho ht) fun _ => rfl
    | ops all i =>
      simp only [qStep] at ho
      split at ho
      · rename_i hn
        refine step_of (hi _ _ _ _ _ _ _ ho ht) fun N => ?_
        show aStep P (subAt P E N) _ lim _ _ _ _ = _
        simp only [aStep, hn]
      · rename_i o hoo
        split at ho
        · rename_i os1 tk1 hw
          split at ho
          · rename_i v A' os2 tk2 hop
            obtain ⟨tk3, h3, rfl⟩ := qmap (g := fun z => tk1 ++ (tk2 ++ z)) ho
            obtain ⟨t1, t23⟩ := ht.app
            obtain ⟨t2, t3⟩ := t23.app
            obtain ⟨N1, e1⟩ := qOper_e h hop t2
            obtain ⟨N2, e2⟩ := hi _ _ _ _ _ _ _ h3 t3
            refine ⟨max N1 N2 + 1, ?_⟩
            show aStep P (subAt P E (max N1 N2)) _ lim _ _ _ _ = _
            simp only [aStep, hoo]
            rw [qWanted_e hw t1, if_pos rfl, aOper_le (subAt_le (Nat.le_max_left N1 N2)) e1]
            exact aRun_mono (Nat.le_max_right N1 N2) lim _ _ _ _ e2
          · cases ho
        · rename_i os1 tk1 hw
          obtain ⟨t1, hr⟩ := on ho
          refine step_of hr fun N => ?_
          show aStep P (subAt P E N) _ lim _ _ _ _ = _
          simp only [aStep, hoo]
          rw [qWanted_e hw t1, if_neg (by simp)]
        · cases ho
    | code co =>
      cases co with
      | ret => cases ho; exact ⟨1, rfl⟩
      | skip => exact step_of (hi _ _ _ _ _ _ _ ho ht) fun _ => rfl
      | label g => exact step_of (hi _ _ _ _ _ _ _ ho ht) fun _ => rfl
      | seq a b => exact step_of (hi _ _ _ _ _ _ _ ho ht) fun _ => rfl
      | cond v a b =>
        simp only [qStep] at ho
        split at ho
        · rename_i t hev
          have one : ∀ {bb : Bool}, t = bb → (∃ N, aRun P E N lim (.code (if bb = true then a else b) :: k) l A = some x) → ∃ N, aRun P E N lim (.code (.cond v a b) :: k) l A = some x := by
            intro bb hb hr
            subst hb
            refine step_of hr fun N => ?_
            show aStep P (subAt P E N) _ lim _ _ _ _ = _
            simp only [aStep, hev]
            cases t <;> rfl
          split at ho
          · obtain ⟨t1, hr⟩ := on ho
            exact one (t1.uncons).1 hr
          · obtain ⟨t1, hr⟩ := on ho
            exact one (t1.uncons).1 hr
          · split at ho
            · exact one rfl (hi _ _ _ _ _ _ _ ho ht)
            · exact one rfl (hi _ _ _ _ _ _ _ ho ht)
        · cases ho
      | block id a =>
        simp only [qStep] at ho
        split at ho
        · obtain ⟨t1, N2, e2⟩ := on ho
          obtain ⟨N1, e1⟩ := (t1.uncons).1
          exact ⟨N2 + N1, run_append e2 N1 _ _ _ e1⟩
        · cases ho
          obtain ⟨N1, e1⟩ := (ht.uncons).1
          exact ⟨N1, run_ret (kk := k) N1 _ _ _ e1⟩
        · exact step_of (hi _ _ _ _ _ _ _ ho ht) fun _ => rfl
      | loop a => exact step_of (hi _ _ _ _ _ _ _ ho ht) fun _ => rfl
      | scope a => exact step_of (hi _ _ _ _ _ _ _ ho ht) fun _ => rfl
      | exit id =>
        simp only [qStep] at ho
        split at ho
        · rename_i k' hk
          refine step_of (hi _ _ _ _ _ _ _ ho ht) fun N => ?_
          show aStep P (subAt P E N) _ lim _ _ _ _ = _
          simp only [aStep, hk]
        · rename_i hk
          cases ho
          refine ⟨1, ?_⟩
          show aStep P (subAt P E 0) _ lim _ _ _ _ = _
          simp only [aStep, hk]
      | goto g =>
        simp only [qStep] at ho
        split at ho
        · rename_i k' hk
          refine step_of (hi _ _ _ _ _ _ _ ho ht) fun N => ?_
          show aStep P (subAt P E N) _ lim _ _ _ _ = _
          simp only [aStep, hk]
        · rename_i hk
          cases ho
          refine ⟨1, ?_⟩
          show aStep P (subAt P E 0) _ lim _ _ _ _ = _
          simp only [aStep, hk]
      | region id ops b =>
        cases b with
        | false => exact step_of (hi _ _ _ _ _ _ _ ho ht) fun _ => rfl
        | true =>
          simp only [qStep] at ho
          split at ho
          · rename_i l1 A1 os1 tk1 hd
            obtain ⟨t1, N2, e2⟩ := on ho
            obtain ⟨N1, e1⟩ := qDrawGo_e h _ _ _ _ _ _ _ _ _ _ hd t1
            refine ⟨max N1 N2 + 1, ?_⟩
            show aStep P (subAt P E (max N1 N2)) (aDraw P (subAt P E (max N1 N2)) lim E.impure) lim _ _ _ _ = _
            simp only [aStep]
            unfold aDraw
            rw [aDrawGo_le (subAt_le (Nat.le_max_left N1 N2)) _ _ _ _ _ _ _ e1]
            exact aRun_mono (Nat.le_max_right N1 N2) lim _ _ _ _ e2
          · cases ho
      | rangeFunc g ps as bo =>
        simp only [qStep] at ho
        split at ho
        · rename_i A1 os1 tk1 hrf
          obtain ⟨t1, N2, e2⟩ := on ho
          obtain ⟨N1, e1⟩ := qRangeFunc_e h.call hrf t1
          refine ⟨max N1 N2 + 1, ?_⟩
          show aStep P (subAt P E (max N1 N2)) _ lim _ _ _ _ = _
          simp only [aStep]
          rw [aRangeFunc_le (subAt_le (P := P) (E := E) (Nat.le_max_left N1 N2)).call e1]
          exact aRun_mono (Nat.le_max_right N1 N2) lim _ _ _ _ e2
        · rename_i j A1 os1 tk1 hrf
          split at ho
          · rename_i hj
            obtain ⟨t1, N2, e2⟩ := on ho
            obtain ⟨N1, e1⟩ := qRangeFunc_e h.call hrf t1
            refine ⟨max N1 N2 + 1, ?_⟩
            show aStep P (subAt P E (max N1 N2)) _ lim _ _ _ _ = _
            simp only [aStep]
            rw [aRangeFunc_le (subAt_le (P := P) (E := E) (Nat.le_max_left N1 N2)).call e1]
            simp only [hj, if_true]
            exact aRun_mono (Nat.le_max_right N1 N2) lim _ _ _ _ e2
          · cases ho
        · cases ho
      | refuse s => cases ho

theorem qCallBy_e {run : Nat → Nat → RunQ} (hr : ∀ lim fid, RunE P E lim (run lim fid)) : CallE P E (qCallBy P E run) := by
  intro lim f args A os x os' tk ho ht
  unfold qCallBy at ho
  unfold aCall aCallBy
  split at ho
  · rename_i hk; cases ho; simp only [hk]; exact ⟨0, trivial⟩
  · rename_i hk
    simp only [hk]
    split at ho
    · cases ho
    · rename_i fn hf
      simp only [hf]
      split at ho
      · rename_i hb
        simp only [hb]
        refine ⟨0, ?_⟩
        split at ho
        · rename_i ha
          rw [if_pos ha]
          split at ho
          · rename_i u hu
            rw [hu]
            simp only
            split at ho
            · rename_i hv; cases ho; rw [if_pos hv]
            · cases ho
          · cases ho
        · cases ho
      · rename_i co hb
        simp only [hb]
        split at ho
        · cases ho
        · rename_i hn
          simp only [if_neg hn]
          split at ho
          · rename_i hi
            simp only [if_pos hi]
            split at ho
            · rename_i l1 A1 j os1 tk1 hrun
              split at ho
              · rename_i hj
                split at ho
                · rename_i u hres
                  cases ho
                  obtain ⟨N, e⟩ := hr _ _ _ _ _ _ _ _ _ hrun ht
                  refine ⟨N, ?_⟩
                  rw [e]
                  simp only
                  rw [if_pos hj, hres]
                · cases ho
              · cases ho
            · cases ho
          · rename_i hi
            simp only [if_neg hi]
            split at ho
            · rename_i l1 A1 j os1 tk1 hrun
              split at ho
              · rename_i hj
                split at ho
                · rename_i u hres
                  split at ho
                  · cases ho
                    obtain ⟨t1, t2⟩ := ht.app
                    obtain ⟨N, e⟩ := hr _ _ _ _ _ _ _ _ _ hrun t1
                    refine ⟨N, ?_⟩
                    rw [e]
                    simp only
                    rw [if_pos hj, hres]
                    exact congrArg some (t2.uncons).1
                  · cases ho
                    obtain ⟨N, e⟩ := hr _ _ _ _ _ _ _ _ _ hrun ht
                    refine ⟨N, ?_⟩
                    rw [e]
                    simp only
                    rw [if_pos hj, hres]
                · cases ho
              · cases ho
            · cases ho

theorem qRun_e : ∀ n lim fid, RunE P E lim (qRun P E n lim fid)
  | 0, lim, fid => fun k l A os x os' tk h => by cases h
  | n + 1, lim, fid => qStep_e ⟨qCallBy_e (fun lim fid => qRun_e n lim fid), fun lim y args A os x os' tk h ht => qYield_e (qRun_e n lim yfid) h ht⟩ (qRun_e n lim fid)
/-- A RUN, LED BY ANSWERS. -/
theorem Runs.by {n : Nat} {k : List It} {l : List Value} {A : Heap} {os os' : List Ans} {x : List Value × Heap × Option Code} {tk : Obs} (h : qRun P E n lim fid k l A os = some (x, os', tk)) (ht : ObsOK P E tk) : Runs P E lim k l A x := qRun_e n lim fid _ _ _ _ _ _ _ h ht
/-- A CALL, LED BY ANSWERS. -/
theorem Gives.by {n : Nat} {f : FuncId} {args : List Value} {A : Heap} {os os' : List Ans} {x : Value × Heap} {tk : Obs} (h : qCall P E n lim f args A os = some (x, os', tk)) (ht : ObsOK P E tk) : Gives P E lim f args A x := qCallBy_e (fun lim fid => qRun_e n lim fid) _ _ _ _ _ _ _ _ h ht
end
end Go.Abs
/-
The abstract machine: two functions of the library without bodies.
-/
namespace Go.Abs
open Go

/-- internal/abi.NoEscape hands its argument back; internal/bytealg.MakeNoZero makes a row of bytes that are not known. -/
def libKnown (ne mk : FuncId) (e : TypeId) : Nat → FuncId → List Value → Heap → Option (Value × Heap) := fun _ f args A =>
  if f == ne then
    match args with
    | [x] => some (x, A)
    | _ => none
  else if f == mk then
    match args with
    | [.int .i64 n] => if 0 ≤ n ∧ n ≤ 281474976710656 then some (.slice (some ⟨A.length, 0, none⟩) n.toNat n.toNat, A ++ [some (.cells [] e .row)]) else none
    | _ => none
  else none

structure LibOK (P : Program) (ne mk : FuncId) (e : TypeId) : Prop where
  ne_ : ∃ fn, P.funcs[ne]? = some fn ∧ (fn.name == "runtime.NumGoroutine") = false ∧ fn.body.isNone = true ∧ Extern.findNext fn = none ∧ Extern.find fn = some Extern.AbiNoEscape.same
  mk_ : ∃ fn ps t, P.funcs[mk]? = some fn ∧ (fn.name == "runtime.NumGoroutine") = false ∧ fn.body.isNone = true ∧ Extern.findNext fn = none ∧ Extern.find fn = some (Extern.BytealgMakeNoZero.makeNoZero ps #[t]) ∧ P.underlying t = some (.slice e)
  esz : P.cellsOf e = 1

theorem lib_ok {P : Program} {G : Nat} {ne mk : FuncId} {e : TypeId} {imp : FuncId → Bool} (h : LibOK P ne mk e) : EnvOK P G { impure := imp, known := libKnown ne mk e } := by
  refine ⟨?_, ?_⟩
  · intro lim f args A v A' hk ρ w args' hargs hG hR
    simp only [libKnown] at hk
    split at hk
    · rename_i hf
      have hf : f = ne := by simpa using hf
      subst hf
      obtain ⟨fn, f1, f2, f3, f4, f5⟩ := h.ne_
      split at hk
      · rename_i x
        cases hk
        obtain ⟨x', l', rfl, hx, hl⟩ := hargs.uncons
        obtain rfl : l' = [] := List.length_eq_zero_iff.1 (by simpa using hl.1.symm)
        refine .inl ⟨x', w, ρ, ?_, hx, hR, Moves.refl _ _ _⟩
        rw [run_callFunc_extern f1 f2 f3 f4 f5]
        rfl
      · cases hk
    · split at hk
      · rename_i hf
        have hf : f = mk := by simpa using hf
        subst hf
        obtain ⟨fn, ps, t, f1, f2, f3, f4, f5, f6⟩ := h.mk_
        split at hk
        · rename_i n
          split at hk
          · rename_i hn
            cases hk
            obtain ⟨x', l', rfl, hx, hl⟩ := hargs.uncons
            obtain rfl : l' = [] := List.length_eq_zero_iff.1 (by simpa using hl.1.symm)
            obtain rfl := hx.int_inv
            obtain ⟨k, rfl⟩ : ∃ k : Nat, n = k := ⟨n.toNat, by omega⟩
            obtain ⟨cs, hrun, hle, _⟩ := Lib.run_makeNoZero (P := P) w ps t e f6 k (by omega)
            obtain ⟨hR2, hM2⟩ := hR.heap (w' := w.drew.drew) rfl
            obtain ⟨hr, hm⟩ := hR2.alloc (o := .cells cs e) (r := .cells [] e .row) (esz := 1) (fin := cs.size)
              ⟨cs, e, (0, 0), heap_alloc_new _ _, fun o v hv => by simp at hv, fun hc => absurd rfl hc, fun _ => ⟨rfl, rfl, .inl rfl, rfl, fun _ => h.esz.symm, fun h => by cases h⟩⟩
            refine .inl ⟨.slice (some ⟨w.heap.size, 0, none⟩) k cs.size, _, _, ?_, ?_, hr, hM2.trans hm⟩
            · rw [run_callFunc_extern f1 f2 f3 f4 f5, hrun]; rfl
            · simp only [Int.toNat_natCast]
              exact .slice (Loc.put_self _ _ _) hle (.inr rfl) (fun _ => by simp)
          · cases hk
        · cases hk
      · cases hk
  · intro lim f args A v A' hk
    simp only [libKnown] at hk
    repeat' (split at hk)
    all_goals first | (cases hk; exact Keeps.refl _ _) | (cases hk; exact Keeps.push _ _ _) | cases hk
end Go.Abs
/-
The abstract machine: contracts of calls that look at the rows of their arguments, and make new ones: wherever these rows lie.
-/
namespace Go.Abs
open Go

/-- Rows by other numbers. -/
def cellBy (g : Nat → Option Nat) : Value → Option Value
  | .pointer (some ⟨i, o, none⟩) => (g i).map fun j => .pointer (some ⟨j, o, none⟩)
  | .slice (some ⟨i, o, none⟩) n c => (g i).map fun j => .slice (some ⟨j, o, none⟩) n c
  | v => if atomB v then some v else none
def aggBy (g : Nat → Option Nat) : Value → Option Value
  | .agg cs => (listRen (cellBy g) cs.toList).map fun l => .agg l.toArray
  | v => cellBy g v
def valBy (g : Nat → Option Nat) (v : Value) : Option Value :=
  if freeB v then some v else match v with
  | .tuple vs => (listRen (aggBy g) vs.toList).map fun l => .tuple l.toArray
  | v => aggBy g v

section
variable {ρ ρ' : Loc} {g : Nat → Option Nat}
theorem cellBy_sound (h : ∀ i j, g i = some j → ρ' j = ρ i) {v v' c : Value} (hr : cellBy g v = some v') (hv : VR ρ v c) : VR ρ' v' c := by
  have atoms : ∀ {v : Value}, (if atomB v then some v else none) = some v' → VR ρ v c → VR ρ' v' c := by
    intro v hr hv
    split at hr
    · rename_i ha; cases hr; rw [hv.atom_eq ha]; exact .atom ha
    · cases hr
  unfold cellBy at hr
  split at hr
  · rename_i i o
    cases hg : g i with
    | none => rw [hg] at hr; cases hr
    | some j =>
      rw [hg] at hr; cases hr
      cases hv with
      | atom ha => simp [atomB] at ha
      | ptr hL => exact .ptr (by rw [h i j hg]; exact hL)
  · rename_i i o n c'
    cases hg : g i with
    | none => rw [hg] at hr; cases hr
    | some j =>
      rw [hg] at hr; cases hr
      cases hv with
      | atom ha => simp [atomB] at ha
      | slice hL h1 h2 h3 => exact .slice (by rw [h i j hg]; exact hL) h1 h2 h3
  · exact atoms hr hv
theorem aggBy_sound (h : ∀ i j, g i = some j → ρ' j = ρ i) {v v' c : Value} (hr : aggBy g v = some v') (hv : VR ρ v c) : VR ρ' v' c := by
  unfold aggBy at hr
  split at hr
  · rename_i cs
    cases hl : listRen (cellBy g) cs.toList with
    | none => rw [hl] at hr; cases hr
    | some l =>
      rw [hl] at hr; cases hr
      cases hv with
      | atom ha => simp [atomB] at ha
      | agg hs hh =>
        have := listRen_sound (ρ' := ρ') (ρ2 := ρ) (fun v v' c a b => cellBy_sound h a b) _ _ _ hl ⟨by simpa using hs, hh⟩
        exact .agg (by simpa using this.1) (by simpa using this.2)
  · exact cellBy_sound h hr hv
theorem valBy_sound (h : ∀ i j, g i = some j → ρ' j = ρ i) {v v' c : Value} (hr : valBy g v = some v') (hv : VR ρ v c) : VR ρ' v' c := by
  unfold valBy at hr
  split at hr
  · rename_i hf; cases hr; rw [hv.free_eq hf]; exact VR.refl _ hf
  · split at hr
    · rename_i cs hf
      cases hl : listRen (aggBy g) cs.toList with
      | none => rw [hl] at hr; cases hr
      | some l =>
        rw [hl] at hr; cases hr
        cases hv with
        | atom ha => simp [atomB] at ha
        | tuple hs hh =>
          have := listRen_sound (ρ' := ρ') (ρ2 := ρ) (fun v v' c a b => aggBy_sound h a b) _ _ _ hl ⟨by simpa using hs, hh⟩
          exact .tuple (by simpa using this.1) (by simpa using this.2)
    · exact aggBy_sound h hr hv
end

/-- A row of values without addresses. -/
def plainRow : Option ARow → Bool
  | some (.cells cs _ _) => cs.all atomB
  | _ => false
noncomputable def rowsAt (A : Heap) : List Nat → Option Heap
  | [] => some []
  | i :: l => match hget A i, rowsAt A l with
    | some (.cells cs e u), some R => if cs.all atomB then some (some (.cells cs e u) :: R) else none
    | _, _ => none
theorem rowsAt_get {A : Heap} : ∀ {ids : List Nat} {R : Heap}, rowsAt A ids = some R → R.length = ids.length ∧ ∀ k i, ids[k]? = some i → ∃ cs e u, hget A i = some (.cells cs e u) ∧ cs.all atomB = true ∧ hget R k = some (.cells cs e u)
  | [], R, h => by cases h; exact ⟨rfl, fun k i hk => by simp at hk⟩
  | j :: l, R, h => by
    unfold rowsAt at h
    split at h
    · rename_i cs e u R' hg hR
      split at h
      · rename_i ha
        cases h
        obtain ⟨h1, h2⟩ := rowsAt_get hR
        refine ⟨by simp [h1], fun k i hk => ?_⟩
        cases k with
        | zero => simp at hk; subst hk; exact ⟨cs, e, u, hg, ha, by simp⟩
        | succ k => obtain ⟨c, d, f, a1, a2, a3⟩ := h2 k i (by simpa using hk); exact ⟨c, d, f, a1, a2, by simpa using a3⟩
      · cases h
    · cases h

def dedup : List Nat → List Nat
  | [] => []
  | i :: l => if (place i l).isSome then dedup l else i :: dedup l
def argIds (G : Nat) (v : Value) : List Nat := if freeB v then [] else valIds G v
/-- The numbers that rows of arguments have in a small heap. -/
def inNum (G : Nat) (ids : List Nat) (i : Nat) : Option Nat := if i < G then some i else (place i ids).map (G + ·)
def outNum (G : Nat) (ids : List Nat) (len i : Nat) : Option Nat := if i < G then some i else if i - G < ids.length then ids[i - G]? else some (len + (i - G - ids.length))

section
variable {P : Program} {G : Nat} {T A R0 R1 : Heap} {ρ : Loc} {w : World} {f : FuncId} {args args0 args' : List Value} {v0 v : Value} {ids : List Nat}
/-- A CALL THAT LOOKS AT TABLES AND AT THE ROWS OF ITS ARGUMENTS. -/
theorem rows_says (hTl : T.length = G) (hT : T.all tableRow = true) (hs : startsB T A = true) (hids : ∀ i ∈ ids, G ≤ i) (hnd : nodupB ids = true) (hrows : rowsAt A ids = some R0) (hargs0 : listRen (valBy (inNum G ids)) args = some args0)
    (hR1 : R1.all plainRow = true) (hv : valBy (outNum G ids A.length) v0 = some v)
    (hsay : ∀ ρ w args', VRs ρ args0 args' → Globs ρ G → Rel P ρ (T ++ R0) w → CallSays P ρ (T ++ R0) w f args' v0 (T ++ R0 ++ R1))
    (hargs : VRs ρ args args') (hG : Globs ρ G) (hR : Rel P ρ A w) : CallSays P ρ A w f args' v (A ++ R1) := by
  obtain ⟨hlen, hgT⟩ := startsB_get hs
  obtain ⟨hRl, hRg⟩ := rowsAt_get hrows
  have hids_lt : ∀ (k i : Nat), ids[k]? = some i → i < A.length := fun k i hk => let ⟨cs, e, u, h1, _⟩ := hRg k i hk; hget_lt h1
  let ρ0 : Loc := fun i => if i < G then ρ i else match ids[i - G]? with | some j => ρ j | none => none
  have a1 : ∀ i, i < G → ρ0 i = ρ i := fun i hi => by simp [ρ0, hi]
  have a2 : ∀ k j, ids[k]? = some j → ρ0 (G + k) = ρ j := fun k j hk => by
    have : ¬ G + k < G := by omega
    simp only [ρ0, if_neg this, Nat.add_sub_cancel_left, hk]
  have hin : ∀ i j, inNum G ids i = some j → ρ0 j = ρ i := by
    intro i j h
    unfold inNum at h
    split at h
    · rename_i hi; cases h; exact a1 _ hi
    · cases hp : place i ids with
      | none => rw [hp] at h; cases h
      | some k => rw [hp] at h; cases h; exact a2 k i (place_get hp)
  have hl0 : (T ++ R0).length = G + ids.length := by simp [hTl, hRl]
  -- the rows of the small heap
  have get0 : ∀ i r, hget (T ++ R0) i = some r → (i < G ∧ hget T i = some r ∧ hget A i = some r ∧ r.isOwn = false) ∨ (∃ k j, i = G + k ∧ ids[k]? = some j ∧ hget A j = some r ∧ ∃ cs e u, r = .cells cs e u ∧ cs.all atomB = true) := by
    intro i r hi
    rw [hget_append] at hi
    split at hi
    · rename_i hlt
      refine .inl ⟨by omega, hi, hgT i r hi, ?_⟩
      have := List.all_eq_true.1 hT (some r) (List.mem_of_getElem? ((hget_eq T i r).1 hi))
      unfold tableRow at this
      split at this
      · rename_i h; cases h
      · rename_i h; cases h; rfl
      · cases this
    · rename_i hge
      have hk : i - T.length < R0.length := hget_lt hi
      have hk' : i - T.length < ids.length := by omega
      obtain ⟨cs, e, u, b1, b2, b3⟩ := hRg (i - T.length) ids[i - T.length] (List.getElem?_eq_getElem hk')
      rw [b3] at hi; cases hi
      exact .inr ⟨i - T.length, _, by omega, List.getElem?_eq_getElem hk', b1, cs, e, u, rfl, b2⟩
  have hRel0 : Rel P ρ0 (T ++ R0) w := by
    refine ⟨fun i hi => ?_, fun i r hi => ?_, fun i r L hi hL => ?_, fun i j r s L M hi hj hL hM hne ho => ?_⟩
    · rw [hl0] at hi
      have h1 : ¬ i < G := by omega
      have h2 : ids[i - G]? = none := List.getElem?_eq_none (by omega)
      simp only [ρ0, if_neg h1, h2]
    · rcases get0 i r hi with ⟨hlt, _, h2, _⟩ | ⟨k, j, rfl, hj, hg, _⟩
      · rw [a1 i hlt]; exact hR.has i r h2
      · rw [a2 k j hj]; exact hR.has j r hg
    · rcases get0 i r hi with ⟨hlt, hT', h2, _⟩ | ⟨k, j, rfl, hj, hg, cs, e, u, rfl, ha⟩
      · rw [a1 i hlt] at hL
        have hr := hR.row i r L h2 hL
        have htab := List.all_eq_true.1 hT (some r) (List.mem_of_getElem? ((hget_eq T i r).1 hT'))
        unfold tableRow at htab
        split at htab
        · rename_i h; cases h
        · rename_i cs e h
          cases h
          obtain ⟨cs', e', fz, b1, b2, b3⟩ := hr
          exact ⟨cs', e', fz, b1, fun o x hx => let ⟨x', y1, y2⟩ := b2 o x hx; ⟨x', y1, by
            have hax := List.all_eq_true.1 htab x (List.mem_of_getElem? hx)
            rw [y2.atom_eq hax]; exact .atom hax⟩, b3⟩
        · cases htab
      · rw [a2 k j hj] at hL
        obtain ⟨cs', e', fz, b1, b2, b3⟩ := hR.row j _ L hg hL
        exact ⟨cs', e', fz, b1, fun o x hx => let ⟨x', y1, y2⟩ := b2 o x hx; ⟨x', y1, by
          have hax := List.all_eq_true.1 ha x (List.mem_of_getElem? hx)
          rw [y2.atom_eq hax]; exact .atom hax⟩, b3⟩
    · rcases get0 i r hi with ⟨hlt, _, h2, hno⟩ | ⟨k, i', rfl, hi', hg, _⟩
      · rw [hno] at ho; cases ho
      · rw [a2 k i' hi'] at hL
        rcases get0 j s hj with ⟨hlt, _, h2, _⟩ | ⟨k', j', rfl, hj', hg', _⟩
        · rw [a1 j hlt] at hM
          refine hR.sep i' j r s L M hg h2 hL hM (fun e => ?_) ho
          have := hids i' (List.mem_of_getElem? hi')
          omega
        · rw [a2 k' j' hj'] at hM
          exact hR.sep i' j' r s L M hg hg' hL hM (fun e => hne (by subst e; rw [nodup_get hnd k k' i' hi' hj'])) ho
  have hG0 : Globs ρ0 G := fun g hg => by
    obtain ⟨e, f, h⟩ := hG g hg
    exact ⟨e, f, (a1 g hg).trans h⟩
  have hargs0' : VRs ρ0 args0 args' := listRen_sound (ρ' := ρ0) (ρ2 := ρ) (fun v v' c a b => valBy_sound hin a b) _ _ _ hargs0 hargs
  have own_up : ∀ b, OwnIn ρ0 (T ++ R0) b → OwnIn ρ A b := by
    rintro b ⟨i, r, L, hi, hL, hr, rfl⟩
    rcases get0 i r hi with ⟨_, _, _, hno⟩ | ⟨k, j, rfl, hj, hg, _⟩
    · rw [hno] at hr; cases hr
    · rw [a2 k j hj] at hL
      exact ⟨j, r, L, hg, hL, hr, rfl⟩
  -- the other rows stay
  have back : ∀ {v' : Value} {w' : World} {ρ1 : Loc}, VR ρ1 v0 v' → Rel P ρ1 (T ++ R0 ++ R1) w' → Moves ρ0 (T ++ R0) w ρ1 (T ++ R0 ++ R1) w' → ∃ ρ', VR ρ' v v' ∧ Rel P ρ' (A ++ R1) w' ∧ Moves ρ A w ρ' (A ++ R1) w' := by
    intro v' w' ρ1 hvr hRel1 hM
    let ρ' : Loc := fun i => if i < A.length then ρ i else ρ1 (G + ids.length + (i - A.length))
    have c1 : ∀ i, i < A.length → ρ' i = ρ i := fun i hi => by simp [ρ', hi]
    have c2 : ∀ k, ρ' (A.length + k) = ρ1 (G + ids.length + k) := fun k => by
      have : ¬ A.length + k < A.length := by omega
      simp only [ρ', if_neg this, Nat.add_sub_cancel_left]
    have d1 : ∀ i, i < G + ids.length → ρ1 i = ρ0 i := fun i hi => hM.same i (by omega)
    have hout : ∀ i j, outNum G ids A.length i = some j → ρ' j = ρ1 i := by
      intro i j h
      unfold outNum at h
      split at h
      · rename_i hi; cases h; rw [c1 _ (by omega), d1 _ (by omega), a1 _ hi]
      · split at h
        · rename_i hi hk
          rw [c1 _ (hids_lt _ _ h), d1 _ (by omega)]
          have := a2 (i - G) j h
          rw [show G + (i - G) = i by omega] at this
          exact this.symm
        · rename_i hi hk
          cases h
          rw [c2]
          congr 1
          omega
    have new_get : ∀ k r, hget R1 k = some r → hget (T ++ R0 ++ R1) (G + ids.length + k) = some r ∧ ∃ cs e u, r = .cells cs e u ∧ cs.all atomB = true := by
      intro k r hk
      refine ⟨?_, ?_⟩
      · rw [hget_append, if_neg (by omega), hl0, Nat.add_sub_cancel_left]; exact hk
      · have := List.all_eq_true.1 hR1 (some r) (List.mem_of_getElem? ((hget_eq R1 k r).1 hk))
        unfold plainRow at this
        split at this
        · rename_i cs e u h; cases h; exact ⟨cs, e, u, rfl, this⟩
        · cases this
    have old_get : ∀ i r, hget (T ++ R0) i = some r → hget (T ++ R0 ++ R1) i = some r := fun i r h => by
      rw [hget_append, if_pos (hget_lt h)]; exact h
    -- a new row's block is new
    have fresh : ∀ k r L, hget R1 k = some r → ρ1 (G + ids.length + k) = some L → w.heap.size ≤ L.blk := by
      intro k r L hk hL
      obtain ⟨h1, _⟩ := new_get k r hk
      rcases hM.rows _ r L h1 hL with ⟨hlt, _⟩ | h2 | ⟨i, q, M, hi, hMl, hq, hb⟩
      · rw [hl0] at hlt; omega
      · exact h2
      · exfalso
        have hi1 := hget_lt hi
        have := hRel1.sep i (G + ids.length + k) q r M L (old_get i q hi) h1 (by rw [d1 i (by omega)]; exact hMl) hL (by omega) hq
        exact this hb
    have getA : ∀ i r, hget (A ++ R1) i = some r → (i < A.length ∧ hget A i = some r) ∨ (∃ k, i = A.length + k ∧ hget R1 k = some r) := by
      intro i r hi
      rw [hget_append] at hi
      split at hi
      · exact .inl ⟨‹_›, hi⟩
      · exact .inr ⟨i - A.length, by omega, hi⟩
    have hx : Ext ρ ρ' := fun i L hi => by
      have hlt : i < A.length := by
        rcases Nat.lt_or_ge i A.length with h | h
        · exact h
        · rw [hR.sup i h] at hi; cases hi
      rw [c1 i hlt]; exact hi
    refine ⟨ρ', valBy_sound hout hv hvr, ⟨?_, ?_, ?_, ?_⟩, ⟨hx, by simp, fun i hi => c1 i hi, hM.size, ?_, ?_, hM.out, hM.loops⟩⟩
    · intro i hi
      simp only [List.length_append] at hi
      have h1 : ¬ i < A.length := by omega
      simp only [ρ', if_neg h1]
      exact hRel1.sup _ (by simp only [List.length_append]; simp only [List.length_append] at hl0; omega)
    · intro i r hi
      rcases getA i r hi with ⟨hlt, h1⟩ | ⟨k, rfl, hk⟩
      · rw [c1 i hlt]; exact hR.has i r h1
      · rw [c2]; exact hRel1.has _ r (new_get k r hk).1
    · intro i r L hi hL
      rcases getA i r hi with ⟨hlt, h1⟩ | ⟨k, rfl, hk⟩
      · rw [c1 i hlt] at hL
        have h0 := hR.row i r L h1 hL
        by_cases ho : OwnIn ρ0 (T ++ R0) L.blk
        · obtain ⟨i0, r0, L0, hi0, hL0, hr0, hb⟩ := ho
          rcases get0 i0 r0 hi0 with ⟨_, _, _, hno⟩ | ⟨k, j, rfl, hj, hg, cs, e, u, rfl, ha⟩
          · rw [hno] at hr0; cases hr0
          · have hL0' := hL0
            rw [a2 k j hj] at hL0
            by_cases hji : j = i
            · subst hji
              rw [h1] at hg; cases hg
              rw [hL] at hL0; cases hL0
              obtain ⟨cs', e', fz, b1, b2, b3, b4⟩ := hRel1.row (G + k) _ L (old_get _ _ hi0) (by rw [d1 _ (by have := (List.getElem?_eq_some_iff.1 hj).1; omega)]; exact hL0')
              exact ⟨cs', e', fz, b1, fun o x hx => let ⟨x', y1, y2⟩ := b2 o x hx; ⟨x', y1, by
                have hax := List.all_eq_true.1 ha x (List.mem_of_getElem? hx)
                rw [y2.atom_eq hax]; exact .atom hax⟩, b3, b4⟩
            · exact absurd hb (hR.sep j i _ r L0 L hg h1 hL0 hL hji hr0)
        · exact h0.move hx (hM.frame _ h0.lt ho)
      · rw [c2] at hL
        obtain ⟨h1, cs, e, u, rfl, ha⟩ := new_get k r hk
        obtain ⟨cs', e', fz, b1, b2, b3, b4⟩ := hRel1.row _ _ L h1 hL
        exact ⟨cs', e', fz, b1, fun o x hx => let ⟨x', y1, y2⟩ := b2 o x hx; ⟨x', y1, by
          have hax := List.all_eq_true.1 ha x (List.mem_of_getElem? hx)
          rw [y2.atom_eq hax]; exact .atom hax⟩, b3, b4⟩
    · intro i j r s L M hi hj hL hMl hne ho
      rcases getA i r hi with ⟨hlt, h1⟩ | ⟨k, rfl, hk⟩ <;> rcases getA j s hj with ⟨hlt', h1'⟩ | ⟨k', rfl, hk'⟩
      · rw [c1 i hlt] at hL; rw [c1 j hlt'] at hMl
        exact hR.sep i j r s L M h1 h1' hL hMl hne ho
      · rw [c1 i hlt] at hL; rw [c2] at hMl
        have g1 := (hR.row i r L h1 hL).lt
        have g2 := fresh k' s M hk' hMl
        omega
      · rw [c2] at hL; rw [c1 j hlt'] at hMl
        have g1 := (hR.row j s M h1' hMl).lt
        have g2 := fresh k r L hk hL
        omega
      · rw [c2] at hL hMl
        exact hRel1.sep _ _ r s L M (new_get k r hk).1 (new_get k' s hk').1 hL hMl (by omega) ho
    · exact fun b hb hn => hM.frame b hb fun ho => hn (own_up b ho)
    · intro i r L hi hL
      rcases getA i r hi with ⟨hlt, h1⟩ | ⟨k, rfl, hk⟩
      · exact .inl ⟨hlt, r, h1, id⟩
      · rw [c2] at hL
        exact .inr (.inl (fresh k r L hk hL))
  rcases hsay ρ0 w args' hargs0' hG0 hRel0 with ⟨v', w', ρ1, h1, h2, h3, h4⟩ | ⟨h1, h2⟩
  · obtain ⟨ρ', g1, g2, g3⟩ := back h2 h3 h4
    exact .inl ⟨v', w', ρ', h1, g1, g2, g3⟩
  · refine .inr ⟨h1, h2.mono ?_⟩
    rintro e w' ⟨v', ρ1, rfl, h3, h4, h5⟩
    obtain ⟨ρ', g1, g2, g3⟩ := back h3 h4 h5
    exact ⟨v', ρ', rfl, g1, g2, g3⟩
end

/-- What a contract says: the tables it looks at, its value, its new rows. -/
abbrev RowsB := FuncId → List Value → Heap → Option (Heap × Value × Heap)
/-- Contracts of calls that look at the rows of their arguments: of a function, its arguments by small numbers, and their rows. -/
noncomputable def rowsKnown (G : Nat) (B : RowsB) : Nat → FuncId → List Value → Heap → Option (Value × Heap) := fun _ f args A =>
  match dedup (args.flatMap (argIds G)) with
  | ids => match listRen (valBy (inNum G ids)) args, rowsAt A ids with
    | some args0, some R0 => match B f args0 R0 with
      | some (T, v0, R1) => if startsB T A && R1.all plainRow && nodupB ids && ids.all (fun i => decide (G ≤ i)) then (valBy (outNum G ids A.length) v0).map fun v => (v, A ++ R1) else none
      | none => none
    | _, _ => none
end Go.Abs
/-
The abstract machine: what is left of a call, from a state in its midst: rows may get other numbers on the way, and slots be forgotten.
-/
namespace Go.Abs
open Go

theorem run_sound {P : Program} {G : Nat} {E : Env} (hP : ProgOK P G) (hE : EnvOK P G E) (n lim : Nat) : RunSays P G (aRun P E n lim) ∧ RunKeeps lim (aRun P E n lim) :=
  run_says hP hE (fun _ _ hC => draw_says hP.mixed hC) (fun _ _ hC => draw_keeps hC) n lim

/-- What a contract says of the model. -/
def SaysAt (P : Program) (G : Nat) (f : FuncId) (args : List Value) (A : Heap) (v : Value) (A' : Heap) : Prop :=
  ∀ (ρ : Loc) (w : World) (args' : List Value), VRs ρ args args' → Globs ρ G → Rel P ρ A w → CallSays P ρ A w f args' v A'
theorem SaysAt.of_gives {P : Program} {G : Nat} {E : Env} (hP : ProgOK P G) (hE : EnvOK P G E) {lim : Nat} {f : FuncId} {args : List Value} {A A' : Heap} {v : Value} (h : Gives P E lim f args A (v, A')) : SaysAt P G f args A v A' := by
  obtain ⟨n, hn⟩ := h
  exact (call_sound hP hE n).says lim f args A v A' hn

/-- THE REST OF A CALL of fn, whose rows at its begin were A0: from a state on it comes to its end with the value v and the rows A1. -/
def EndsA (P : Program) (G : Nat) (fn : Func) (A0 : Heap) (v : Value) (A1 : Heap) (todo : List It) (l : List Value) (A : Heap) : Prop :=
  todo.all (okIt G fn.ntmps) = true → ∀ (ρ0 ρ : Loc) (w0 w : World) (a : Act) (b : Frame) (cs : List Frame) (rs : List Nat), (∀ r, b.roundOf = some r → IsLoop w r) → Globs ρ0 G → Rel P ρ0 A0 w0 → StR ρ fn.ntmps l a → Rel P ρ A w → Moves ρ0 A0 w0 ρ A w →
    MarksOK w a.defers rs → (∀ r ∈ rs, w0.heap.size ≤ r) →
    ∃ ρ' a' w' td j l1 rs', Steps P (lone (b.atR a (todo.map It.real)) cs w) (lone (b.atR a' td) cs w') ∧ Left [] j td ∧ retB j = true ∧ StR ρ' fn.ntmps l1 a' ∧ aResults P fn l1 A1 = some v ∧ Rel P ρ' A1 w' ∧ Moves ρ0 A0 w0 ρ' A1 w' ∧ MarksOK w' a'.defers rs' ∧ ∀ r ∈ rs', w0.heap.size ≤ r

section
variable {P : Program} {G : Nat} {E : Env} {fn : Func} {A0 A1 A A2 : Heap} {v : Value} {l l1 l2 : List Value} {lim : Nat}
theorem EndsA.run (hP : ProgOK P G) (hE : EnvOK P G E) {k kk : List It} (h1 : Runs P E lim k l A (l2, A2, none)) (h2 : EndsA P G fn A0 v A1 kk l2 A2) : EndsA P G fn A0 v A1 (k ++ kk) l A := by
  intro hok ρ0 ρ w0 w a b cs rs hro hG0 hR0 hS hR hM hmk hrs
  rw [List.all_append, Bool.and_eq_true] at hok
  obtain ⟨n, hn⟩ := h1
  obtain ⟨ρ1, a1, w1, td, s1, hleft, hS1, hR1, hM1, rs1, hmk1, hrs1⟩ := (run_sound hP hE n lim).1 k l A l2 A2 none hn fn.ntmps hok.1 ρ a w b cs rs (kk.map It.real) (fun h => absurd rfl h) hro hS (hG0.mono hM.pre) hR hmk
  simp only [Left] at hleft
  subst hleft
  obtain ⟨ρ', a', w', td', j, l1, rs', s2, h3, h4, h5, h6, h7, h8, h9, h10⟩ := h2 hok.2 ρ0 ρ1 w0 w1 a1 b cs rs1 (fun r hr => hM1.loops _ (hro r hr)) hG0 hR0 hS1 hR1 (hM.trans hM1) hmk1 (fun r hr => by
    rcases hrs1 r hr with h | h
    · exact hrs r h
    · exact Nat.le_trans hM.size h)
  refine ⟨ρ', a', w', td', j, l1, rs', ?_, h3, h4, h5, h6, h7, h8, h9, h10⟩
  rw [List.map_append]
  exact s1.trans s2
theorem EndsA.ret (hP : ProgOK P G) (hE : EnvOK P G E) {k : List It} {j : Option Code} (h1 : Runs P E lim k l A (l1, A1, j)) (hj : retB j = true) (hres : aResults P fn l1 A1 = some v) : EndsA P G fn A0 v A1 k l A := by
  intro hok ρ0 ρ w0 w a b cs rs hro hG0 hR0 hS hR hM hmk hrs
  obtain ⟨n, hn⟩ := h1
  obtain ⟨ρ1, a1, w1, td, s1, hleft, hS1, hR1, hM1, rs1, hmk1, hrs1⟩ := (run_sound hP hE n lim).1 k l A l1 A1 j hn fn.ntmps hok ρ a w b cs rs [] (fun _ => rfl) hro hS (hG0.mono hM.pre) hR hmk
  rw [List.append_nil] at s1
  exact ⟨ρ1, a1, w1, td, j, l1, rs1, s1, hleft, hj, hS1, hres, hR1, hM.trans hM1, hmk1, fun r hr => by
    rcases hrs1 r hr with h | h
    · exact hrs r h
    · exact Nat.le_trans hM.size h⟩
/-- A return out of the midst. -/
theorem EndsA.out (hP : ProgOK P G) (hE : EnvOK P G E) {k kk : List It} (h1 : Runs P E lim k l A (l1, A1, some .ret)) (hres : aResults P fn l1 A1 = some v) : EndsA P G fn A0 v A1 (k ++ kk) l A := by
  obtain ⟨n, hn⟩ := h1
  exact EndsA.ret hP hE ⟨n, run_ret (kk := kk) n _ _ _ hn⟩ rfl hres
theorem EndsA.step {todo todo' : List It} (hst : ∀ (a : Act) (b : Frame) (cs : List Frame) (w : World), step P (lone (b.atR a (todo.map It.real)) cs w) = .next (lone (b.atR a (todo'.map It.real)) cs w)) (hok : todo.all (okIt G fn.ntmps) = true → todo'.all (okIt G fn.ntmps) = true) (h : EndsA P G fn A0 v A1 todo' l A) : EndsA P G fn A0 v A1 todo l A := by
  intro hk ρ0 ρ w0 w a b cs rs hro hG0 hR0 hS hR hM hmk hrs
  obtain ⟨ρ', a', w', td', j, l1, rs', s2, h3⟩ := h (hok hk) ρ0 ρ w0 w a b cs rs hro hG0 hR0 hS hR hM hmk hrs
  exact ⟨ρ', a', w', td', j, l1, rs', (Steps.one (hst a b cs w)).trans s2, h3⟩
theorem EndsA.seq {c d : Code} {k : List It} (h : EndsA P G fn A0 v A1 (.code c :: .code d :: k) l A) : EndsA P G fn A0 v A1 (.code (.seq c d) :: k) l A :=
  EndsA.step (fun _ _ _ _ => stepR_seq) (fun h => by simp only [List.all_cons, okIt, okCode, Bool.and_eq_true] at h ⊢; exact ⟨h.1.1, h.1.2, h.2⟩) h
theorem EndsA.block {id : Nat} {c : Code} {k : List It} (h : EndsA P G fn A0 v A1 (.code c :: .inBlock id :: k) l A) : EndsA P G fn A0 v A1 (.code (.block id c) :: k) l A :=
  EndsA.step (fun _ _ _ _ => stepR_block) (fun h => by simp only [List.all_cons, okIt, okCode, Bool.and_eq_true] at h ⊢; exact ⟨h.1, trivial, h.2⟩) h
theorem EndsA.loop {c : Code} {k : List It} (h : EndsA P G fn A0 v A1 (.code c :: .inLoop c :: k) l A) : EndsA P G fn A0 v A1 (.code (.loop c) :: k) l A :=
  EndsA.step (fun _ _ _ _ => stepR_loop) (fun h => by simp only [List.all_cons, okIt, okCode, Bool.and_eq_true] at h ⊢; exact ⟨h.1, h.1, h.2⟩) h
/-- One round more. -/
theorem EndsA.round (hP : ProgOK P G) (hE : EnvOK P G E) {c : Code} {k : List It} (h1 : Runs P E lim [.code c] l A (l2, A2, none)) (h2 : EndsA P G fn A0 v A1 (.code c :: .inLoop c :: k) l2 A2) : EndsA P G fn A0 v A1 (.code c :: .inLoop c :: k) l A :=
  EndsA.run hP hE h1 (EndsA.step (fun _ _ _ _ => stepR_inLoop) (fun h => by simp only [List.all_cons, okIt, Bool.and_eq_true] at h ⊢; exact ⟨h.1, h.1, h.2⟩) h2)
/-- The whole call. -/
theorem EndsA.says (hP : ProgOK P G) {f : FuncId} {c : Code} {args : List Value} {v' : Value} {A' : Heap} (hf : P.funcs[f]? = some fn) (hb : fn.body = some c) (hnt : ¬ fn.ntmps < args.length) (h : EndsA P G fn A v A1 [.code c] (padTo fn.ntmps args) A)
    (hlen : A.length ≤ A1.length) (hkeep : ∀ i, i < A.length → hget A1 i = hget A i) (hgc : aGC A v A1 = (v', A')) : SaysAt P G f args A v' A' := by
  intro ρ w args' hargs hG hR
  have hne : ¬ fn.name = "runtime.NumGoroutine" := by simpa using hP.name f fn hf
  refine .inr ⟨by simp [callFunc, hf, hne, hb], ?_⟩
  have key : Calls P f args'.toArray w fun e w' => ∃ v' ρ', e = .returned v' ∧ VR ρ' v v' ∧ Rel P ρ' A1 w' ∧ Moves ρ A w ρ' A1 w' := by
    intro cs
    let b : Frame := { (default : Frame) with fn := f, kind := .normal }
    have hal := hargs.1
    have henter : Frame.enter P f args'.toArray .normal = b.at { tmps := args'.toArray ++ Array.replicate (fn.ntmps - args'.toArray.size) undef, defers := [] } [.code c] := by
      simp [Frame.enter, Frame.at, hf, hb, b]
    have hS : StR ρ fn.ntmps (padTo fn.ntmps args) { tmps := args'.toArray ++ Array.replicate (fn.ntmps - args'.toArray.size) undef, defers := [] } := by
      refine ⟨by simp; omega, fun t => ?_⟩
      rw [tget_pad, tget_eq]
      by_cases ht : t < args.length
      · have ht' : t < args'.length := by omega
        have := hargs.2 t args[t] args'[t] (List.getElem?_eq_getElem ht) (List.getElem?_eq_getElem ht')
        simpa [Array.getD_eq_getD_getElem?, Array.getElem?_append_left, ht, ht', List.getElem?_eq_getElem] using this
      · have ht' : ¬ t < args'.length := by omega
        have h1 : args[t]? = none := List.getElem?_eq_none (by omega)
        rw [h1]
        have h2 : ((args'.toArray ++ Array.replicate (fn.ntmps - args'.toArray.size) undef).getD t undef) = undef := by
          rw [Array.getD_eq_getD_getElem?, Array.getElem?_append_right (by simp; omega)]
          rw [Array.getElem?_replicate]
          split <;> rfl
        simp only [Option.getD_none]
        rw [h2]
        exact VR.undef ρ
    obtain ⟨ρ', a', w', td, j, l', rs', hsteps0, hleft, hj, hS', hres, hR1, hM1, hmk, hrs⟩ := h (by simp [okIt, hP.code f fn c hf hb]) ρ ρ w w _ b cs [] (fun r hr => by cases hr) hG hR hS hR (Moves.refl _ _ _) ⟨rfl, List.nodup_nil, fun r hr => by cases hr⟩ (fun r hr => by cases hr)
    have hb0 : b.roundOf = none := rfl
    have hsteps : Steps P _ (lone { b.at a' td with mode := .returning } cs w') := hsteps0.trans (.one (by
      rw [← Frame.atR_of_none hb0]
      cases j with
      | none => simp only [Left] at hleft; subst hleft; exact stepR_end hb0
      | some c' =>
        cases c' with
        | ret => obtain ⟨k', rfl⟩ := hleft; exact stepR_ret hb0
        | _ => simp [retB] at hj))
    rw [Frame.atR_of_none hb0] at hsteps
    obtain ⟨w2, hsteps2, hR', hM⟩ := marks_run rs' { b.at a' td with mode := .returning } cs w' a'.defers hmk (fun r hr => hrs r hr) (by simp) rfl hR1 hM1
    obtain ⟨v', hv', hvr⟩ := results_run hS' hR' hres
    refine ⟨.returned v', w2, { { b.at a' td with mode := .returning } with defers := [] }, ⟨v', ρ', rfl, hvr, hR', hM⟩, ?_, rfl, rfl, rfl, rfl, fn, hf, hv'⟩
    rw [henter]
    exact hsteps.trans hsteps2
  refine key.mono ?_
  rintro e w' ⟨v2, ρ2, rfl, hv, hR2, hM⟩
  obtain ⟨ρ', h1, h2, h3⟩ := gc_sound hR hR2 hM hlen hkeep hv hgc
  exact ⟨v2, ρ', rfl, h1, h2, h3⟩

/-- A value by other numbers of rows. -/
def vBy (g : Nat → Option Nat) : Nat → Value → Option Value
  | 0, _ => none
  | n + 1, v => if freeB v then some v else match v with
    | .pointer (some ⟨i, o, none⟩) => (g i).map fun j => .pointer (some ⟨j, o, none⟩)
    | .slice (some ⟨i, o, none⟩) m c => (g i).map fun j => .slice (some ⟨j, o, none⟩) m c
    | .map (some i) => (g i).map fun j => .map (some j)
    | .agg cs => (listRen (vBy g n) cs.toList).map fun l => .agg l.toArray
    | .tuple cs => (listRen (vBy g n) cs.toList).map fun l => .tuple l.toArray
    | .func (.func f) fs cs => match listRen (vBy g n) fs.toList, listRen (vBy g n) cs.toList with
      | some l, some m => some (.func (.func f) l.toArray m.toArray)
      | _, _ => none
    | .iface t x => (vBy g n x).map fun y => .iface t y
    | .chan (some 0) => some (.chan (some 0))
    | _ => none
theorem vBy_sound {ρ ρ' : Loc} {g : Nat → Option Nat} (h : ∀ i j, g i = some j → ρ' j = ρ i) : ∀ (n : Nat) {v v' c : Value}, vBy g n v = some v' → VR ρ v c → VR ρ' v' c
  | 0, v, v', c, hr, hv => by cases hr
  | n + 1, v, v', c, hr, hv => by
    have ih := fun v v' c => vBy_sound h n (v := v) (v' := v') (c := c)
    unfold vBy at hr
    split at hr
    · rename_i hf; cases hr; rw [hv.free_eq hf]; exact VR.refl _ hf
    · split at hr
      · rename_i i o _
        obtain ⟨L, hL, rfl⟩ := hv.ptr_inv
        cases hg : g i with
        | none => rw [hg] at hr; cases hr
        | some j => rw [hg] at hr; cases hr; exact .ptr (by rw [h i j hg]; exact hL)
      · rename_i i o m k _
        obtain ⟨L, p, c', hL, rfl, a1, a2, a3⟩ := hv.slice_inv
        cases hg : g i with
        | none => rw [hg] at hr; cases hr
        | some j => rw [hg] at hr; cases hr; exact .slice (by rw [h i j hg]; exact hL) a1 a2 a3
      · rename_i i _
        cases hg : g i with
        | none => rw [hg] at hr; cases hr
        | some j =>
          rw [hg] at hr; cases hr
          cases hv with
          | atom ha => simp [atomB] at ha
          | map hL => exact .map (by rw [h i j hg]; exact hL)
      · rename_i cs _
        cases hl : listRen (vBy g n) cs.toList with
        | none => rw [hl] at hr; cases hr
        | some l =>
          rw [hl] at hr; cases hr
          cases hv with
          | atom ha => simp [atomB] at ha
          | agg hs hh =>
            have := listRen_sound (ρ' := ρ') (ρ2 := ρ) ih _ _ _ hl ⟨by simpa using hs, hh⟩
            exact .agg (by simpa using this.1) (by simpa using this.2)
      · rename_i cs _
        cases hl : listRen (vBy g n) cs.toList with
        | none => rw [hl] at hr; cases hr
        | some l =>
          rw [hl] at hr; cases hr
          cases hv with
          | atom ha => simp [atomB] at ha
          | tuple hs hh =>
            have := listRen_sound (ρ' := ρ') (ρ2 := ρ) ih _ _ _ hl ⟨by simpa using hs, hh⟩
            exact .tuple (by simpa using this.1) (by simpa using this.2)
      · rename_i f fs cs _
        split at hr
        · rename_i l m h1 h2
          cases hr
          cases hv with
          | atom ha => simp [atomB] at ha
          | func b1 b2 b3 b4 b5 =>
            have g1 := listRen_sound (ρ' := ρ') (ρ2 := ρ) ih _ _ _ h1 ⟨by simpa using b2, b4⟩
            have g2 := listRen_sound (ρ' := ρ') (ρ2 := ρ) ih _ _ _ h2 ⟨by simpa using b3, b5⟩
            exact .func b1 (by simpa using g1.1) (by simpa using g2.1) (by simpa using g1.2) (by simpa using g2.2)
        · cases hr
      · rename_i t x _
        cases hl : vBy g n x with
        | none => rw [hl] at hr; cases hr
        | some y =>
          rw [hl] at hr; cases hr
          cases hv with
          | atom ha => simp [atomB] at ha
          | iface hx => exact .iface (ih _ _ _ hl hx)
      · cases hr
        cases hv with
        | atom ha => simp [atomB] at ha
        | junk h => exact .junk h
      · cases hr

/-- What becomes of a slot: it is forgotten, it gets other numbers, it has no address. -/
inductive Keep where
  | no | ren | free
def boolB : Value → Bool
  | .bool _ => true
  | _ => false
theorem VR.not_bool {ρ : Loc} {v v' : Value} (h : VR ρ v v') (hb : boolB v = false) : ∀ b, v' ≠ .bool b := by
  intro b e
  subst e
  cases h with
  | atom => simp [boolB] at hb
  | junk h => exact h b rfl
/-- Slots by other numbers; and those that are to have no address. -/
def slotsTo (g : Nat → Option Nat) : List Keep → List Value → Option (List Value × List Value)
  | [], _ => some ([], [])
  | .no :: m, l => match boolB (l.headD undef), slotsTo g m l.tail with
    | false, some (r, fs) => some (junk :: r, fs)
    | _, _ => none
  | .ren :: m, l => match vBy g 6 (l.headD undef), slotsTo g m l.tail with
    | some x, some (r, fs) => some (x :: r, fs)
    | _, _ => none
  | .free :: m, l => match slotsTo g m l.tail with
    | some (r, fs) => some (l.headD undef :: r, l.headD undef :: fs)
    | none => none
def SlotBy (g : Nat → Option Nat) (x y : Value) : Prop := (y = junk ∧ boolB x = false) ∨ vBy g 6 x = some y ∨ (y = x ∧ freeB x = true)
theorem SlotBy.sound {ρ ρ' : Loc} {g : Nat → Option Nat} {x y c : Value} (h : SlotBy g x y) (hg : ∀ i j, g i = some j → ρ' j = ρ i) (hv : VR ρ x c) : VR ρ' y c := by
  rcases h with ⟨rfl, hb⟩ | h | ⟨rfl, hf⟩
  · exact .junk (hv.not_bool hb)
  · exact vBy_sound hg 6 h hv
  · rw [hv.free_eq hf]; exact VR.refl _ hf
theorem slotsTo_get {g : Nat → Option Nat} : ∀ {m : List Keep} {l l2 fs : List Value}, slotsTo g m l = some (l2, fs) → (∀ v ∈ fs, freeB v = true) → l2.length = m.length ∧ ∀ t, t < m.length → SlotBy g (tget l t) (tget l2 t)
  | [], l, l2, fs, h, _ => by cases h; exact ⟨rfl, fun t ht => by simp at ht⟩
  | b :: m, l, l2, fs, h, hf => by
    have hd : tget l 0 = l.headD undef := by cases l <;> rfl
    have tl : ∀ t, tget l (t + 1) = tget l.tail t := fun t => by cases l <;> rfl
    cases b with
    | no =>
      unfold slotsTo at h
      split at h
      · rename_i r fs' hb hr
        cases h
        obtain ⟨h1, h2⟩ := slotsTo_get hr hf
        refine ⟨by simp [h1], fun t ht => ?_⟩
        cases t with
        | zero => rw [hd]; exact .inl ⟨rfl, hb⟩
        | succ t => simp only [tget_succ, tl]; exact h2 t (by simpa using ht)
      · cases h
    | ren =>
      unfold slotsTo at h
      split at h
      · rename_i x r fs' hx hr
        cases h
        obtain ⟨h1, h2⟩ := slotsTo_get hr hf
        refine ⟨by simp [h1], fun t ht => ?_⟩
        cases t with
        | zero => rw [hd]; exact .inr (.inl hx)
        | succ t => simp only [tget_succ, tl]; exact h2 t (by simpa using ht)
      · cases h
    | free =>
      unfold slotsTo at h
      split at h
      · rename_i r fs' hr
        cases h
        obtain ⟨h1, h2⟩ := slotsTo_get hr (fun v hv => hf v (by simp [hv]))
        refine ⟨by simp [h1], fun t ht => ?_⟩
        cases t with
        | zero => rw [hd]; exact .inr (.inr ⟨rfl, hf _ (by simp)⟩)
        | succ t => simp only [tget_succ, tl]; exact h2 t (by simpa using ht)
      · cases h
theorem listRen_len {f : Value → Option Value} : ∀ {l l2 : List Value}, listRen f l = some l2 → l2.length = l.length
  | [], l2, h => by cases h; rfl
  | v :: l, l2, h => by
    unfold listRen at h
    split at h
    · rename_i x r hx hr
      cases h
      simp [listRen_len hr]
    · cases h
theorem listRen_at {f : Value → Option Value} : ∀ {l l2 : List Value}, listRen f l = some l2 → ∀ {k : Nat} {x : Value}, l2[k]? = some x → ∃ y, l[k]? = some y ∧ f y = some x
  | [], l2, h, k, x, hx => by cases h; simp at hx
  | v :: l, l2, h, k, x, hx => by
    unfold listRen at h
    split at h
    · rename_i y r hy hr
      cases h
      cases k with
      | zero => simp at hx; subst hx; exact ⟨v, rfl, hy⟩
      | succ k => simpa using listRen_at hr (by simpa using hx)
    · cases h
/-- A row by other numbers. -/
inductive RowBy (g : Nat → Option Nat) : ARow → ARow → Prop
  | plain {cs : List Value} {e : TypeId} {u : Use} (h : cs.all atomB = true) : RowBy g (.cells cs e u) (.cells cs e u)
  | cells {cs cs2 : List Value} {e : TypeId} {u : Use} (h : listRen (vBy g 6) cs = some cs2) : RowBy g (.cells cs e u) (.cells cs2 e u)
  | iter {s : ByteArray} {p : Nat} : RowBy g (.iter s p) (.iter s p)
  | map {es : List (Value × Value × Nat)} {c : Nat} (h : es.all (fun x => atomB x.2.1) = true) : RowBy g (.map es c) (.map es c)
inductive RowsBy (g : Nat → Option Nat) (A : Heap) : List Nat → Heap → Prop
  | nil : RowsBy g A [] []
  | cons {i : Nat} {ids : List Nat} {r r2 : ARow} {R : Heap} (h : hget A i = some r) (hr : RowBy g r r2) (t : RowsBy g A ids R) : RowsBy g A (i :: ids) (some r2 :: R)
theorem RowsBy.length {g : Nat → Option Nat} {ids : List Nat} {R : Heap} (h : RowsBy g A ids R) : R.length = ids.length := by
  induction h with
  | nil => rfl
  | cons _ _ _ ih => simp [ih]
theorem RowsBy.get {g : Nat → Option Nat} {ids : List Nat} {R : Heap} (h : RowsBy g A ids R) : ∀ {k : Nat} {r2 : ARow}, hget R k = some r2 → ∃ i r, ids[k]? = some i ∧ hget A i = some r ∧ RowBy g r r2 := by
  induction h with
  | nil => intro k r2 hk; simp at hk
  | cons h hr _ ih =>
    intro k r2 hk
    cases k with
    | zero => simp at hk; subst hk; exact ⟨_, _, by simp, h, hr⟩
    | succ k => simpa using ih (by simpa using hk)
theorem RowBy.ok {g : Nat → Option Nat} {ρ ρ' : Loc} {r r2 : ARow} {w : World} {L : L4} (h : RowBy g r r2) (hg : ∀ i j, g i = some j → ρ' j = ρ i) (ho : RowOK P ρ w L r) : RowOK P ρ' w L r2 := by
  cases h with
  | plain ha =>
    obtain ⟨cs', e', fz, b1, b2, b3⟩ := ho
    exact ⟨cs', e', fz, b1, fun o x hx => let ⟨x2, y1, y2⟩ := b2 o x hx; ⟨x2, y1, by
      have hax := List.all_eq_true.1 ha x (List.mem_of_getElem? hx)
      rw [y2.atom_eq hax]; exact .atom hax⟩, b3⟩
  | cells hl =>
    rename_i cs cs2 e u
    obtain ⟨cs', e', fz, b1, b2, b3⟩ := ho
    have len := listRen_len hl
    refine ⟨cs', e', fz, b1, fun o x hx => ?_, b3⟩
    obtain ⟨y, hy, hv⟩ := listRen_at hl hx
    obtain ⟨x2, y1, y2⟩ := b2 o y hy
    exact ⟨x2, y1, vBy_sound hg 6 hv y2⟩
  | iter => exact ho
  | map ha =>
    obtain ⟨es', b1, b2, b3⟩ := ho
    exact ⟨es', b1, b2, fun k key val born hk => let ⟨e2, y1, y2, y3, y4⟩ := b3 k key val born hk; ⟨e2, y1, y2, y3, by
      have hax := List.all_eq_true.1 ha _ (List.mem_of_getElem? hk)
      rw [y4.atom_eq hax]; exact .atom hax⟩⟩
theorem RowBy.own {g : Nat → Option Nat} {r r2 : ARow} (h : RowBy g r r2) : r2.isOwn = r.isOwn := by
  cases h with
  | cells h => rename_i cs cs2 e u; cases u <;> rfl
  | _ => rfl

/-- OTHER NUMBERS FOR THE ROWS THAT THE CALL HAS MADE; those that are not named are forgotten. -/
theorem EndsA.renum {todo : List It} {X R : Heap} {ids : List Nat} {m : List Keep} {fs : List Value} (hids : ∀ i ∈ ids, A0.length ≤ i) (hnd : nodupB ids = true) (hm : fn.ntmps ≤ m.length) (hl : slotsTo (inNum A0.length ids) m l = some (l2, fs)) (hfs : ∀ v ∈ fs, freeB v = true) (hrows : RowsBy (inNum A0.length ids) (A0 ++ X) ids R)
    (h : EndsA P G fn A0 v A1 todo l2 (A0 ++ R)) : EndsA P G fn A0 v A1 todo l (A0 ++ X) := by
  intro hok ρ0 ρ w0 w a b cs rs hro hG0 hR0 hS hR hM hmk hrs
  let ρ2 : Loc := fun i => if i < A0.length then ρ i else match ids[i - A0.length]? with | some j => ρ j | none => none
  have a1 : ∀ i, i < A0.length → ρ2 i = ρ i := fun i hi => by simp [ρ2, hi]
  have a2 : ∀ k j, ids[k]? = some j → ρ2 (A0.length + k) = ρ j := fun k j hk => by
    have : ¬ A0.length + k < A0.length := by omega
    simp only [ρ2, if_neg this, Nat.add_sub_cancel_left, hk]
  have hin : ∀ i j, inNum A0.length ids i = some j → ρ2 j = ρ i := by
    intro i j h
    unfold inNum at h
    split at h
    · rename_i hi; cases h; exact a1 _ hi
    · cases hp : place i ids with
      | none => rw [hp] at h; cases h
      | some k => rw [hp] at h; cases h; exact a2 k i (place_get hp)
  have hRl := hrows.length
  have trans : ∀ {x x1 x2 : Value}, VR ρ0 x x1 → VR ρ x x2 → VR ρ2 x x2 := fun h1 h2 => VR.transfer (fun i L hi => a1 i (by
    rcases Nat.lt_or_ge i A0.length with h | h
    · exact h
    · rw [hR0.sup i h] at hi; cases hi)) h1 h2
  have getA : ∀ i r, hget (A0 ++ R) i = some r → (i < A0.length ∧ hget A0 i = some r ∧ hget (A0 ++ X) i = some r) ∨ (∃ k j r0, i = A0.length + k ∧ ids[k]? = some j ∧ hget (A0 ++ X) j = some r0 ∧ RowBy (inNum A0.length ids) r0 r) := by
    intro i r hi
    rw [hget_append] at hi
    split at hi
    · rename_i hlt
      exact .inl ⟨hlt, hi, by rw [hget_append, if_pos hlt]; exact hi⟩
    · rename_i hge
      obtain ⟨j, r0, h1, h2, h3⟩ := hrows.get hi
      exact .inr ⟨i - A0.length, j, r0, by omega, h1, h2, h3⟩
  have hS2 : StR ρ2 fn.ntmps l2 a := by
    obtain ⟨hlen, hget⟩ := slotsTo_get hl hfs
    refine ⟨hS.size, fun t => ?_⟩
    by_cases ht : t < m.length
    · exact (hget t ht).sound hin (hS.tmps t)
    · have h1 : tget l2 t = undef := by rw [tget_eq, List.getElem?_eq_none (by omega)]; rfl
      have h2 : a.tmps.getD t undef = undef := by
        rw [Array.getD_eq_getD_getElem?, Array.getElem?_eq_none (by rw [hS.size]; omega)]; rfl
      rw [h1, h2]
      exact VR.undef _
  have hR2 : Rel P ρ2 (A0 ++ R) w := by
    refine ⟨fun i hi => ?_, fun i r hi => ?_, fun i r L hi hL => ?_, fun i j r q L M hi hj hL hM' hne hr => ?_⟩
    · simp only [List.length_append, hRl] at hi
      have h1 : ¬ i < A0.length := by omega
      have h2 : ids[i - A0.length]? = none := List.getElem?_eq_none (by omega)
      simp only [ρ2, if_neg h1, h2]
    · rcases getA i r hi with ⟨hlt, _, h2⟩ | ⟨k, j, r0, rfl, hj, hg, _⟩
      · rw [a1 i hlt]; exact hR.has i r h2
      · rw [a2 k j hj]; exact hR.has j r0 hg
    · rcases getA i r hi with ⟨hlt, h1, h2⟩ | ⟨k, j, r0, rfl, hj, hg, hby⟩
      · rw [a1 i hlt] at hL
        have hr2 := hR.row i r L h2 hL
        obtain ⟨L1, hL1, hr1⟩ := hR0.found h1
        cases r with
        | cells cs e use =>
          obtain ⟨cs', e', fz, b1, b2, b3, b4⟩ := hr2
          obtain ⟨ds', d', dz, c1, c2, c3, c4⟩ := hr1
          exact ⟨cs', e', fz, b1, fun o x hx => let ⟨x2, y1, y2⟩ := b2 o x hx; let ⟨x1, _, z2⟩ := c2 o x hx; ⟨x2, y1, trans z2 y2⟩, b3, b4⟩
        | iter s p => exact hr2
        | loop =>
          obtain ⟨t2, f2, d2, b1, b2, b3⟩ := hr2
          obtain ⟨t1, f1, d1, c1, c2, _⟩ := hr1
          exact ⟨t2, f2, d2, b1, fun k => trans (c2 k) (b2 k), b3⟩
        | map =>
          obtain ⟨es2, b1, b2, b3⟩ := hr2
          obtain ⟨es1, c1, c2, c3⟩ := hr1
          exact ⟨es2, b1, b2, fun k key val born hk => let ⟨e2, y1, y2, y3, y4⟩ := b3 k key val born hk; let ⟨e1, _, _, _, z4⟩ := c3 k key val born hk; ⟨e2, y1, y2, y3, trans z4 y4⟩⟩
        | miter =>
          obtain ⟨o2, M2, b1, b2⟩ := hr2
          obtain ⟨_, M1, c1, _⟩ := hr1
          obtain ⟨L3, hL3, he⟩ := (trans (VR.ptr (o := 0) c1) (VR.ptr (o := 0) b1)).ptr_inv
          have he' : M2.blk = L3.blk := by simp only [Value.pointer.injEq, Option.some.injEq, Addr.mk.injEq] at he; exact he.1
          exact ⟨o2, L3, hL3, by rw [← he']; exact b2⟩
      · rw [a2 k j hj] at hL
        exact hby.ok hin (hR.row j r0 L hg hL)
    · have ge : ∀ {k j : Nat}, ids[k]? = some j → A0.length ≤ j := fun h => hids _ (List.mem_of_getElem? h)
      rcases getA i r hi with ⟨hlt, _, h2⟩ | ⟨k, i', r0, rfl, hi', hg, hby⟩ <;> rcases getA j q hj with ⟨hlt', _, h2'⟩ | ⟨k', j', q0, rfl, hj', hg', hby'⟩
      · rw [a1 i hlt] at hL; rw [a1 j hlt'] at hM'
        exact hR.sep i j r q L M h2 h2' hL hM' hne hr
      · rw [a1 i hlt] at hL; rw [a2 _ _ hj'] at hM'
        exact hR.sep i j' r _ L M h2 hg' hL hM' (by have := ge hj'; omega) hr
      · rw [a2 _ _ hi'] at hL; rw [a1 j hlt'] at hM'
        exact hR.sep i' j _ q L M hg h2' hL hM' (by have := ge hi'; omega) (hby.own ▸ hr)
      · rw [a2 _ _ hi'] at hL; rw [a2 _ _ hj'] at hM'
        exact hR.sep i' j' _ _ L M hg hg' hL hM' (fun e => hne (by subst e; rw [nodup_get hnd k k' i' hi' hj'])) (hby.own ▸ hr)
  have hM2 : Moves ρ0 A0 w0 ρ2 (A0 ++ R) w := by
    refine ⟨fun i L hi => ?_, by simp, fun i hi => (a1 i hi).trans (hM.same i hi), hM.size, hM.frame, fun i r L hi hL => ?_, hM.out, hM.loops⟩
    · have hlt : i < A0.length := by
        rcases Nat.lt_or_ge i A0.length with h | h
        · exact h
        · rw [hR0.sup i h] at hi; cases hi
      rw [a1 i hlt]; exact hM.pre i L hi
    · rcases getA i r hi with ⟨hlt, h1, h2⟩ | ⟨k, j, r0, rfl, hj, hg, hby⟩
      · exact .inl ⟨hlt, r, h1, id⟩
      · rw [a2 _ _ hj] at hL
        rcases hM.rows j r0 L hg hL with ⟨hlt, _⟩ | h2 | h2
        · have := hids j (List.mem_of_getElem? hj); omega
        · exact .inr (.inl h2)
        · exact .inr (.inr h2)
  exact h hok ρ0 ρ2 w0 w a b cs rs hro hG0 hR0 hS2 hR2 hM2 hmk hrs
end
end Go.Abs
/-
The abstract machine: contracts that are known of the model alone; a round that jumps out of its loop.
-/
namespace Go.Abs
open Go

/-- CONTRACTS THAT ARE KNOWN OF THE MODEL ALONE. -/
theorem env_says {P : Program} {G : Nat} {E : Env} {K : Nat → FuncId → List Value → Heap → Option (Value × Heap)} (hE : EnvOK P G E) (hK : ∀ lim f args A v A', K lim f args A = some (v, A') → SaysAt P G f args A v A' ∧ Keeps lim A A') : EnvOK P G (E.with K) := by
  refine ⟨?_, ?_⟩
  · intro lim f args A v A' h
    simp only [Env.with] at h
    split at h
    · rename_i r hr
      cases h
      exact (hK _ _ _ _ _ _ hr).1
    · exact hE.says lim f args A v A' h
  · intro lim f args A v A' h
    simp only [Env.with] at h
    split at h
    · rename_i r hr
      cases h
      exact (hK _ _ _ _ _ _ hr).2
    · exact hE.keeps lim f args A v A' h

theorem base_at {P : Program} {G : Nat} {B : FuncId → List Value → Option (Heap × Value)} (hB : ∀ f args H v, B f args = some (H, v) → G ≤ H.length ∧ H.all tableRow = true ∧ SaysAt P G f args H v H) :
    ∀ lim f args A v A', baseKnown B lim f args A = some (v, A') → SaysAt P G f args A v A' ∧ Keeps lim A A' := by
  intro lim f args A v A' hr
  unfold baseKnown at hr
  split at hr
  · rename_i H u hu
    split at hr
    · rename_i hc
      cases hr
      simp only [Bool.and_eq_true] at hc
      obtain ⟨hgl, hH, hn⟩ := hB f args H _ hu
      exact ⟨fun ρ w args' hargs hG hR => base_says hgl hH hc.2 hc.1.1 hc.1.2 hn hargs hG hR, Keeps.refl _ _⟩
    · cases hr
  · cases hr
/-- Contracts of calls that look at tables alone, known of the model. -/
theorem env_base' {P : Program} {G : Nat} {E : Env} {B : FuncId → List Value → Option (Heap × Value)} (hE : EnvOK P G E) (hB : ∀ f args H v, B f args = some (H, v) → G ≤ H.length ∧ H.all tableRow = true ∧ SaysAt P G f args H v H) :
    EnvOK P G (E.with (baseKnown B)) := env_says hE (base_at hB)

theorem rows_at {P : Program} {G : Nat} {B : RowsB} (hB : ∀ f args0 R0 T v0 R1, B f args0 R0 = some (T, v0, R1) → T.length = G ∧ T.all tableRow = true ∧ SaysAt P G f args0 (T ++ R0) v0 (T ++ R0 ++ R1)) :
    ∀ lim f args A v A', rowsKnown G B lim f args A = some (v, A') → SaysAt P G f args A v A' ∧ Keeps lim A A' := by
  intro lim f args A v A' h
  unfold rowsKnown at h
  simp only at h
  split at h
  · rename_i args0 R0 h1 h2
    split at h
    · rename_i T v0 R1 h3
      split at h
      · rename_i hc
        simp only [Bool.and_eq_true, List.all_eq_true, decide_eq_true_eq] at hc
        obtain ⟨⟨⟨g1, g2⟩, g3⟩, g4⟩ := hc
        cases hv : valBy (outNum G (dedup (args.flatMap (argIds G))) A.length) v0 with
        | none => rw [hv] at h; cases h
        | some v1 =>
          rw [hv] at h
          cases h
          obtain ⟨b1, b2, hn⟩ := hB f args0 R0 T v0 R1 h3
          exact ⟨fun ρ w args' hargs hG hR => rows_says b1 b2 g1 g4 g3 h2 h1 (by simpa [List.all_eq_true] using g2) hv hn hargs hG hR, by simp, fun i _ hi => by rw [hget_append, if_pos hi]⟩
      · cases h
    · cases h
  · cases h
end Go.Abs
/-
The abstract machine: ranges over maps: whatever the order of the entries.
-/
namespace Go.Abs
open Go

/-- 'next' of an iterator over a map, wherever it lies. -/
theorem run_next_at {P : Program} (w : World) (ty : TypeId) (r bm since c0 : Nat) (seen : Array Nat) (es : Array MapEntry) (clock : Nat) (hr : w.heap[r]? = some (.mapIter (some bm) since seen c0)) (hb : w.heap[bm]? = some (.map es clock)) (hold : ∀ x ∈ es.toList, x.born < since) (hsc : since ≤ c0) :
    ((leftOf es seen).size = 0 ∧ (Instr.next (.pointer (some ⟨r, 0, none⟩)) false ty).run P w = .ok (.tuple #[.bool false]) w) ∨
    ∃ e ∈ (leftOf es seen).toList, ∃ w1 : World, w1.Alike w ∧ (Instr.next (.pointer (some ⟨r, 0, none⟩)) false ty).run P w = .ok (.tuple #[.bool true, e.key, e.val]) { w1 with heap := w1.heap.setIfInBounds r (.mapIter (some bm) since (seen.push e.born) clock) } := by
  simp only [Instr.next, getObj, Sem.run_bind, Sem.run, hr, hb, Result.andThen, next_test_false seen es since c0 hold hsc, Bool.false_eq_true, if_false]
  unfold leftOf
  have hmem : ∀ x ∈ (Array.filter (fun e => !seen.contains e.born) es).toList, x.born < since := fun x hx => hold x (by simp at hx ⊢; exact hx.1)
  generalize Array.filter (fun e => !seen.contains e.born) es = L at hmem ⊢
  have e1 : L.filter (fun x => decide (x.born < since)) = L := Array.filter_eq_self.2 (fun x hx => by simpa using hmem x (by simpa using hx))
  have e2 : L.filter (fun x => decide (x.born ≥ since)) = #[] := by
    rw [Array.filter_eq_empty_iff]
    intro x hx
    have := hmem x (by simpa using hx)
    simp
    omega
  simp only [e1, e2, Array.append_empty]
  by_cases h0 : L.size = 0
  · left
    have : L = #[] := Array.eq_empty_of_size_eq_zero h0
    subst this
    refine ⟨rfl, ?_⟩
    simp [choose, Sem.run, Question.forced]
  · right
    have hne : L.isEmpty = false := by simp [Array.isEmpty, h0]
    simp only [hne, Bool.false_eq_true, if_false, Array.empty_append, Array.size_map]
    have hch : ∃ (j : Nat) (w1 : World), j < L.size ∧ w1.Alike w ∧ (choose (Question.mapNext L.size)).run P w = .ok j w1 := by
      by_cases hf : L.size ≤ 1
      · exact ⟨0, w, by omega, ⟨rfl, rfl, rfl⟩, by simp [choose, Sem.run, Question.forced, hf]⟩
      · exact ⟨_, w.drew, Nat.mod_lt _ (by omega), ⟨rfl, rfl, rfl⟩, by
          simp only [choose, Sem.run, Question.forced, decide_eq_true_eq, hf, if_false, Question.cut]
          rfl⟩
    obtain ⟨j, w1, hj, hal, hrun⟩ := hch
    refine ⟨L[j], by simp, w1, hal, ?_⟩
    have hr1 : w1.heap[r]? = some (.mapIter (some bm) since seen c0) := by rw [hal.1]; exact hr
    have hset : ∀ (o' : Obj), (setObj r o').run P w1 = .ok () { w1 with heap := w1.heap.setIfInBounds r o' } := fun o' => by
      simp [setObj, Sem.run, hr1]
    simp only [hrun, Array.getElem?_map, Array.getElem?_eq_getElem hj, Option.map_some, Sem.run_bind, hset, Result.andThen]
    rfl

theorem left_rel {ρ : Loc} {es : List (Value × Value × Nat)} {es' : Array MapEntry} (hs : es'.size = es.length) (h : ∀ (k : Nat) (key val : Value) (born : Nat), es[k]? = some (key, val, born) → ∃ e' : MapEntry, es'[k]? = some e' ∧ e'.key = key ∧ e'.born = born ∧ VR ρ val e'.val) :
    ∀ e' ∈ es'.toList, ∃ e ∈ es, e'.key = e.1 ∧ e'.born = e.2.2 ∧ VR ρ e.2.1 e'.val := by
  intro e' he
  obtain ⟨k, hk⟩ := List.mem_iff_getElem?.1 he
  have hlt : k < es.length := by
    have := (List.getElem?_eq_some_iff.1 hk).1
    simp at this
    omega
  obtain ⟨e2, h0, h1, h2, h3⟩ := h k es[k].1 es[k].2.1 es[k].2.2 (List.getElem?_eq_getElem hlt)
  have : e' = e2 := by
    have hk' : es'[k]? = some e' := by simpa using hk
    rw [hk'] at h0
    exact Option.some.inj h0
  subst this
  exact ⟨es[k], List.getElem_mem hlt, h1, h2, h3⟩

section
variable {P : Program} {G : Nat} {E : Env} {fn : Func} {A0 A1 A : Heap} {v : Value} {l : List Value}

/-- ONE MORE ENTRY, WHICHEVER; OR NONE IS LEFT. -/
theorem EndsA.next {all : Array Oper} {i : Nat} {k : List It} {o : Oper} {x : Operand} {it m since last clock : Nat} {seen : List Nat} {es : List (Value × Value × Nat)} (ho : all[i]? = some o) (hop : o.op = .next x false) (hgd : o.guard = none)
    (hev : ev l x = .pointer (some ⟨it, 0, none⟩)) (hit : hget A it = some (.miter m since seen last)) (hm : hget A m = some (.map es clock)) (hold : es.all (fun e => decide (e.2.2 < since)) = true) (hsl : since ≤ last)
    (hover : (es.all fun e => seen.contains e.2.2) = true → EndsA P G fn A0 v A1 (.ops all (i + 1) :: k) (tput l o.dst (.tuple #[.bool false])) A)
    (hstep : ∀ e ∈ es, seen.contains e.2.2 = false → freeB e.1 = true ∧ EndsA P G fn A0 v A1 (.ops all (i + 1) :: k) (tput l o.dst (.tuple #[.bool true, e.1, e.2.1])) (hset A it (some (.miter m since (seen ++ [e.2.2]) clock)))) :
    EndsA P G fn A0 v A1 (.ops all i :: k) l A := by
  intro hok ρ0 ρ w0 w a b cs rs hro hG0 hR0 hS hR hM hmk hrs
  have hlt : i < all.size := (Array.getElem?_eq_some_iff.1 ho).1
  simp only [List.all_cons, Bool.and_eq_true] at hok
  have hoko : okOper G fn.ntmps o = true := List.all_eq_true.1 hok.1 o (by
    have : o ∈ all := Array.mem_of_getElem? ho
    simpa using this)
  have hG : Globs ρ G := hG0.mono hM.pre
  have hx : VR ρ (ev l x) (a.eval x) := operands_ok hS hG hoko x (by simp [hop, Op.operands])
  rw [hev] at hx
  obtain ⟨L, hL, hxe⟩ := hx.ptr_inv
  obtain ⟨hoff, M, hM', hblk⟩ := hR.row' hL hit
  obtain ⟨es', hb, hsz, hrel⟩ := hR.row' hM' hm
  have hback := left_rel hsz hrel
  have hold' : ∀ y ∈ es'.toList, y.born < since := fun y hy => by
    obtain ⟨e, he, _, h2, _⟩ := hback y hy
    have := List.all_eq_true.1 hold e he
    rw [h2]
    simpa using this
  have hw : Region.wanted o (yielded all a.tmps) = true := by simp [Region.wanted, hgd]
  have hdst : ∀ d, o.dst = some d → d < fn.ntmps := fun d hd => by
    simp only [okOper, Bool.and_eq_true, hd] at hoko
    simpa using hoko.1.2
  -- the operation, as the model runs it
  have hto : OpTo P all b (k.map It.real) cs i a w (fun a2 w2 => ∃ u u' A2, a2 = a.put o.dst u' ∧ VR ρ u u' ∧ Rel P ρ A2 w2 ∧ Moves ρ A w ρ A2 w2 ∧ EndsA P G fn A0 v A1 (.ops all (i + 1) :: k) (tput l o.dst u) A2) := by
    intro rest
    refine oper_steps (Q := fun e _ _ => e = .normal) (fun _ _ _ h => h) (by rw [hop]; rfl) ho hw ?_
    unfold Oper.wp
    have hexec : ∀ (y : Value) (w2 : World), (Instr.next (a.eval x) false o.type).run P w = .ok y w2 → (execOp a.eval o).run P w = .ok (.value y) w2 := fun y w2 h => by simp [execOp, hop, h]
    rw [hxe, hoff] at hexec
    rcases run_next_at (P := P) w o.type L.blk M.blk since last seen.toArray es' clock hblk hb hold' hsl with ⟨h0, hrun⟩ | ⟨e', he', w1, hal, hrun⟩
    · rw [hexec _ _ hrun]
      refine ⟨.tuple #[.bool false], .tuple #[.bool false], A, rfl, VR.refl ρ rfl, hR, Moves.refl _ _ _, hover ?_⟩
      rw [List.all_eq_true]
      intro e he
      obtain ⟨j, hj⟩ := List.mem_iff_getElem?.1 he
      obtain ⟨e', h1, h2, h3, h4⟩ := hrel j e.1 e.2.1 e.2.2 hj
      have hmem : e' ∈ es' := Array.mem_of_getElem? h1
      have hnil : leftOf es' seen.toArray = #[] := Array.eq_empty_of_size_eq_zero h0
      unfold leftOf at hnil
      rw [Array.filter_eq_empty_iff] at hnil
      have := hnil e' hmem
      simpa [h3] using this
    · rw [hexec _ _ hrun]
      have hmem : e' ∈ es'.toList ∧ seen.contains e'.born = false := by
        unfold leftOf at he'
        simpa using he'
      obtain ⟨e, he, h1, h2, h3⟩ := hback e' hmem.1
      obtain ⟨hfree, hend⟩ := hstep e he (by rw [← h2]; exact hmem.2)
      have hRA := (hR.heap (w' := w1) hal.1 hal.2).1
      have hMA := (hR.heap (w' := w1) hal.1 hal.2).2
      have hb1 : L.blk < w1.heap.size := by rw [hal.1]; exact (Array.getElem?_eq_some_iff.1 hblk).1
      obtain ⟨hr, hm2⟩ := hRA.setOwn (w' := { w1 with heap := w1.heap.setIfInBounds L.blk (.mapIter (some M.blk) since (seen.toArray.push e'.born) clock) }) (q' := .miter m since (seen ++ [e.2.2]) clock) hit rfl rfl hL
        ⟨hoff, M, hM', by rw [← h2]; simp [hb1]⟩ (fun k hk => by simp [Array.getElem?_setIfInBounds_ne (Ne.symm hk)]) (by simp)
      refine ⟨.tuple #[.bool true, e.1, e.2.1], .tuple #[.bool true, e'.key, e'.val], _, rfl, .tuple rfl fun k u u' hu hu' => ?_, hr, hMA.trans hm2, hend⟩
      match k with
      | 0 => simp at hu hu'; subst hu; subst hu'; exact .atom rfl
      | 1 => simp at hu hu'; subst hu; subst hu'; rw [h1]; exact VR.refl ρ hfree
      | 2 => simp at hu hu'; subst hu; subst hu'; exact h3
      | k + 3 => simp at hu
  obtain ⟨a2, w2, ⟨u, u', A2, rfl, hvr, hR2, hM2, hend⟩, hst⟩ := hto (List.range' (i + 1) (all.size - (i + 1)))
  obtain ⟨ρ', a', w', td', j, l1, rs', s2, h3⟩ := hend (by simp only [List.all_cons, Bool.and_eq_true]; exact ⟨by simpa [okIt] using hok.1, hok.2⟩) ρ0 ρ w0 w2 (a.put o.dst u') b cs rs (fun r hr => hM2.loops _ (hro r hr)) hG0 hR0 (hS.put hdst hvr) hR2 (hM.trans hM2) (by rw [put_defers]; exact hmk.moves hR hM2) hrs
  refine ⟨ρ', a', w', td', j, l1, rs', ?_, h3⟩
  simp only [List.map_cons, ops_real all i hlt, ops_next] at s2 ⊢
  exact hst.trans s2

/-- What an iterator has not handed out. -/
def leftA (seen : List Nat) (es : List (Value × Value × Nat)) : List (Value × Value × Nat) := es.filter fun e => !seen.contains e.2.2
def Each (p : Value × Value × Nat → Prop) : List (Value × Value × Nat) → Prop
  | [] => True
  | e :: r => p e ∧ Each p r
theorem Each.mem {p : Value × Value × Nat → Prop} : ∀ {r : List (Value × Value × Nat)}, Each p r → ∀ e ∈ r, p e
  | [], _, e, he => by simp at he
  | x :: r, h, e, he => by
    rcases List.mem_cons.1 he with rfl | he
    · exact h.1
    · exact Each.mem h.2 e he
theorem EndsA.nextMore {all : Array Oper} {i : Nat} {k : List It} {o : Oper} {x : Operand} {it m since last clock : Nat} {seen : List Nat} {es r : List (Value × Value × Nat)} (ho : all[i]? = some o) (hop : o.op = .next x false) (hgd : o.guard = none)
    (hev : ev l x = .pointer (some ⟨it, 0, none⟩)) (hit : hget A it = some (.miter m since seen last)) (hm : hget A m = some (.map es clock)) (hold : es.all (fun e => decide (e.2.2 < since)) = true) (hsl : since ≤ last)
    (hl : leftA seen es = r) (hne : r.isEmpty = false)
    (hstep : Each (fun e => freeB e.1 = true ∧ EndsA P G fn A0 v A1 (.ops all (i + 1) :: k) (tput l o.dst (.tuple #[.bool true, e.1, e.2.1])) (hset A it (some (.miter m since (seen ++ [e.2.2]) clock)))) r) :
    EndsA P G fn A0 v A1 (.ops all i :: k) l A := by
  refine EndsA.next ho hop hgd hev hit hm hold hsl (fun h => ?_) (fun e he hs => hstep.mem e ?_)
  · subst hl
    have : leftA seen es = [] := by
      unfold leftA
      rw [List.filter_eq_nil_iff]
      intro a ha
      have := List.all_eq_true.1 h a ha
      rw [this]
      simp
    rw [this] at hne
    cases hne
  · subst hl
    unfold leftA
    rw [List.mem_filter]
    exact ⟨he, by rw [hs]; rfl⟩
theorem EndsA.nextOver {all : Array Oper} {i : Nat} {k : List It} {o : Oper} {x : Operand} {it m since last clock : Nat} {seen : List Nat} {es : List (Value × Value × Nat)} (ho : all[i]? = some o) (hop : o.op = .next x false) (hgd : o.guard = none)
    (hev : ev l x = .pointer (some ⟨it, 0, none⟩)) (hit : hget A it = some (.miter m since seen last)) (hm : hget A m = some (.map es clock)) (hold : es.all (fun e => decide (e.2.2 < since)) = true) (hsl : since ≤ last)
    (hl : leftA seen es = []) (h : EndsA P G fn A0 v A1 (.ops all (i + 1) :: k) (tput l o.dst (.tuple #[.bool false])) A) :
    EndsA P G fn A0 v A1 (.ops all i :: k) l A := by
  refine EndsA.next ho hop hgd hev hit hm hold hsl (fun _ => h) (fun e he hs => ?_)
  unfold leftA at hl
  rw [List.filter_eq_nil_iff] at hl
  exact absurd (by rw [hs]; rfl) (hl e he)

/-- The head of a round: 'next' of a map's iterator, and its slot. -/
def nextAt (all : Array Oper) (i : Nat) : Option (Operand × Option Tmp) :=
  match all[i]? with
  | some o => match o.op, o.guard with
    | .next x false, none => some (x, o.dst)
    | _, _ => none
  | none => none
theorem nextAt_get {all : Array Oper} {i : Nat} {x : Operand} {d : Option Tmp} (h : nextAt all i = some (x, d)) : ∃ o, all[i]? = some o ∧ o.op = .next x false ∧ o.guard = none ∧ o.dst = d := by
  unfold nextAt at h
  split at h
  · rename_i o ho
    split at h
    · rename_i h1 h2
      cases h
      exact ⟨o, ho, h1, h2, rfl⟩
    · cases h
  · cases h
theorem EndsA.more {all : Array Oper} {i : Nat} {k : List It} (x : Operand) (d : Option Tmp) (it m since last clock : Nat) (seen : List Nat) (es r : List (Value × Value × Nat)) (ho : nextAt all i = some (x, d))
    (hev : ev l x = .pointer (some ⟨it, 0, none⟩)) (hit : hget A it = some (.miter m since seen last)) (hm : hget A m = some (.map es clock)) (hold : es.all (fun e => decide (e.2.2 < since)) = true) (hsl : since ≤ last)
    (hl : leftA seen es = r) (hne : r.isEmpty = false)
    (hstep : Each (fun e => freeB e.1 = true ∧ EndsA P G fn A0 v A1 (.ops all (i + 1) :: k) (tput l d (.tuple #[.bool true, e.1, e.2.1])) (hset A it (some (.miter m since (seen ++ [e.2.2]) clock)))) r) :
    EndsA P G fn A0 v A1 (.ops all i :: k) l A := by
  obtain ⟨o, h1, h2, h3, rfl⟩ := nextAt_get ho
  exact EndsA.nextMore h1 h2 h3 hev hit hm hold hsl hl hne hstep
theorem EndsA.over {all : Array Oper} {i : Nat} {k : List It} (x : Operand) (d : Option Tmp) (it m since last clock : Nat) (seen : List Nat) (es : List (Value × Value × Nat)) (ho : nextAt all i = some (x, d))
    (hev : ev l x = .pointer (some ⟨it, 0, none⟩)) (hit : hget A it = some (.miter m since seen last)) (hm : hget A m = some (.map es clock)) (hold : es.all (fun e => decide (e.2.2 < since)) = true) (hsl : since ≤ last)
    (hl : leftA seen es = []) (h : EndsA P G fn A0 v A1 (.ops all (i + 1) :: k) (tput l d (.tuple #[.bool false])) A) :
    EndsA P G fn A0 v A1 (.ops all i :: k) l A := by
  obtain ⟨o, h1, h2, h3, rfl⟩ := nextAt_get ho
  exact EndsA.nextOver h1 h2 h3 hev hit hm hold hsl hl h

theorem EndsA.region {id : Nat} {ops : Array Oper} {k : List It} (h : EndsA P G fn A0 v A1 (.ops ops 0 :: k) l A) : EndsA P G fn A0 v A1 (.code (.region id ops false) :: k) l A :=
  EndsA.step (fun a b cs w => by
    have : List.range ops.size = List.range' 0 ops.size := by rw [List.range_eq_range']
    have h2 : It.real (.ops ops 0) = .inRegion ops (List.range ops.size) := by rw [this]; simp [It.real]
    simp only [List.map_cons, h2]
    exact stepR_region) (fun h => by simp only [List.all_cons, okIt, okCode, Bool.and_eq_true] at h ⊢; exact ⟨h.1.1, h.2⟩) h
/-- The head of a round over a map. -/
theorem EndsA.mapRound {B R : Code} {rid : Nat} {O : Array Oper} {k : List It} (hB : B = .seq (.region rid O false) R) (h : EndsA P G fn A0 v A1 (.ops O 0 :: .code R :: k) l A) : EndsA P G fn A0 v A1 (.code B :: k) l A := by
  subst hB
  exact EndsA.seq (EndsA.region h)
theorem EndsA.again {c : Code} {k : List It} (h : EndsA P G fn A0 v A1 (.code c :: .inLoop c :: k) l A) : EndsA P G fn A0 v A1 (.inLoop c :: k) l A :=
  EndsA.step (fun _ _ _ _ => stepR_inLoop) (fun h => by simp only [List.all_cons, okIt, Bool.and_eq_true] at h ⊢; exact ⟨h.1, h.1, h.2⟩) h
/-- A loop in its block. -/
theorem EndsA.blockLoop {C B : Code} {id : Nat} {k : List It} (hC : C = .block id (.loop B)) (h : EndsA P G fn A0 v A1 (.code B :: .inLoop B :: .inBlock id :: k) l A) : EndsA P G fn A0 v A1 (.code C :: k) l A := by
  subst hC
  exact EndsA.block (EndsA.loop h)

def dropS : Nat → Code → Code
  | 0, c => c
  | n + 1, .seq _ b => dropS n b
  | _ + 1, c => c
def headS : Code → Code
  | .seq a _ => a
  | c => c
def isSeq : Code → Bool
  | .seq _ _ => true
  | _ => false
def seqAt (k : Nat) (c : Code) : Code := headS (dropS k c)
theorem dropS_succ : ∀ (k : Nat) (c : Code), isSeq (dropS k c) = true → dropS k c = .seq (seqAt k c) (dropS (k + 1) c)
  | 0, c, h => by cases c <;> first | rfl | cases h
  | k + 1, c, h => by
    cases c with
    | seq a b => exact dropS_succ k b h
    | _ => cases h
theorem runs_drop {E : Env} {lim k : Nat} {c : Code} {kk : List It} {l l1 : List Value} {A A1 : Heap} {r : List Value × Heap × Option Code} (h : isSeq (dropS k c) = true) (h1 : Runs P E lim [.code (seqAt k c)] l A (l1, A1, none)) (h2 : Runs P E lim (.code (dropS (k + 1) c) :: kk) l1 A1 r) :
    Runs P E lim (.code (dropS k c) :: kk) l A r := by
  rw [dropS_succ k c h]
  exact h1.seq h2
theorem runs_eq {E : Env} {lim lim' : Nat} {k k' : List It} {l l' : List Value} {A A' : Heap} {r : List Value × Heap × Option Code} (h : Runs P E lim k l A r) (e1 : lim' = lim) (e2 : k' = k) (e3 : l' = l) (e4 : A' = A) : Runs P E lim' k' l' A' r := by
  subst e1; subst e2; subst e3; subst e4; exact h
theorem runs_last {E : Env} {lim k : Nat} {c : Code} {l : List Value} {A : Heap} {r : List Value × Heap × Option Code} (h : isSeq (dropS k c) = false) (h1 : Runs P E lim [.code (seqAt k c)] l A r) : Runs P E lim [.code (dropS k c)] l A r := by
  unfold seqAt at h1
  cases hd : dropS k c with
  | seq a b => rw [hd] at h; cases h
  | _ => rw [hd] at h1; exact h1
/-- The next statement. -/
theorem EndsA.drop (hP : ProgOK P G) (hE : EnvOK P G E) {lim k : Nat} {c : Code} {kk : List It} {l2 : List Value} {A2 : Heap} (h : isSeq (dropS k c) = true) (h1 : Runs P E lim [.code (seqAt k c)] l A (l2, A2, none)) (h2 : EndsA P G fn A0 v A1 (.code (dropS (k + 1) c) :: kk) l2 A2) :
    EndsA P G fn A0 v A1 (.code (dropS k c) :: kk) l A := by
  rw [dropS_succ k c h]
  exact EndsA.seq (EndsA.run hP hE h1 h2)
theorem EndsA.dropSeq {k : Nat} {c : Code} {kk : List It} (h : isSeq (dropS k c) = true) (h2 : EndsA P G fn A0 v A1 (.code (seqAt k c) :: .code (dropS (k + 1) c) :: kk) l A) : EndsA P G fn A0 v A1 (.code (dropS k c) :: kk) l A := by
  rw [dropS_succ k c h]
  exact EndsA.seq h2
theorem EndsA.cast {todo todo' : List It} {l' : List Value} {A' : Heap} (e0 : todo' = todo) (e1 : l' = l) (e2 : A' = A) (h : EndsA P G fn A0 v A1 todo l A) : EndsA P G fn A0 v A1 todo' l' A' := by
  subst e0; subst e1; subst e2; exact h
/-- The shape of a loop over a map. -/
def blkId : Code → Nat
  | .block id _ => id
  | _ => 0
def loopB : Code → Code
  | .block _ (.loop b) => b
  | c => c
def headOps : Code → Array Oper
  | .seq (.region _ o _) _ => o
  | _ => #[]
def headId : Code → Nat
  | .seq (.region r _ _) _ => r
  | _ => 0
def tailS : Code → Code
  | .seq _ b => b
  | c => c
end

/-- Equality of plain values, told without a choice. -/
def litB : Value → Value → Bool
  | .int j a, .int k b => j == k && a == b
  | .bool a, .bool b => a == b
  | .slice (some ⟨i, o, none⟩) n c, .slice (some ⟨i', o', none⟩) n' c' => i == i' && o == o' && n == n' && c == c'
  | .slice none n c, .slice none n' c' => n == n' && c == c'
  | _, _ => false
theorem litB_eq {a b : Value} (h : litB a b = true) : a = b := by
  unfold litB at h
  split at h
  · simp only [Bool.and_eq_true, beq_iff_eq] at h; rw [h.1, h.2]
  · simp only [beq_iff_eq] at h; rw [h]
  · simp only [Bool.and_eq_true, beq_iff_eq] at h; obtain ⟨⟨⟨h1, h2⟩, h3⟩, h4⟩ := h; subst h1; subst h2; subst h3; subst h4; rfl
  · simp only [Bool.and_eq_true, beq_iff_eq] at h; rw [h.1, h.2]
  · cases h
def litsB : List Value → List Value → Bool
  | [], [] => true
  | a :: l, b :: m => litB a b && litsB l m
  | _, _ => false
theorem litsB_eq : ∀ {l m : List Value}, litsB l m = true → l = m
  | [], [], _ => rfl
  | a :: l, b :: m, h => by
    simp only [litsB, Bool.and_eq_true] at h
    rw [litB_eq h.1, litsB_eq h.2]
  | [], _ :: _, h => by cases h
  | _ :: _, [], h => by cases h
def useB : Use → Use → Bool
  | .ro, .ro | .var, .var | .row, .row => true
  | _, _ => false
theorem useB_eq {a b : Use} (h : useB a b = true) : a = b := by cases a <;> cases b <;> first | rfl | cases h
def heapB : Heap → Heap → Bool
  | [], [] => true
  | some (.cells cs e u) :: A, some (.cells cs' e' u') :: B => litsB cs cs' && e == e' && useB u u' && heapB A B
  | _, _ => false
theorem heapB_eq : ∀ {A B : Heap}, heapB A B = true → A = B
  | [], [], _ => rfl
  | some (.cells cs e u) :: A, some (.cells cs' e' u') :: B, h => by
    simp only [heapB, Bool.and_eq_true, beq_iff_eq] at h
    obtain ⟨⟨⟨h1, h2⟩, h3⟩, h4⟩ := h
    rw [litsB_eq h1, h2, useB_eq h3, heapB_eq h4]
  | [], _ :: _, h => by simp [heapB] at h
  | _ :: _, [], h => by simp [heapB] at h
  | none :: _, _ :: _, h => by simp [heapB] at h
  | some (.iter ..) :: _, _ :: _, h => by simp [heapB] at h
  | some (.loop ..) :: _, _ :: _, h => by simp [heapB] at h
  | some (.map ..) :: _, _ :: _, h => by simp [heapB] at h
  | some (.miter ..) :: _, _ :: _, h => by simp [heapB] at h
  | some (.cells ..) :: _, none :: _, h => by simp [heapB] at h
  | some (.cells ..) :: _, some (.iter ..) :: _, h => by simp [heapB] at h
  | some (.cells ..) :: _, some (.loop ..) :: _, h => by simp [heapB] at h
  | some (.cells ..) :: _, some (.map ..) :: _, h => by simp [heapB] at h
  | some (.cells ..) :: _, some (.miter ..) :: _, h => by simp [heapB] at h
end Go.Abs
