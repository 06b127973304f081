/-
The abstract machine, led by a list of decisions: where it comes to a choice it takes the next one, and tells what it took for true.
-/
import Derived.Test.YtnhmokgakpknlaaGreatDoorAb26
namespace Go.Abs
open Go

/-- What a choice looked at, and what it was taken for. -/
abbrev Took := List (Bool × Bool)
abbrev CallO := Nat → FuncId → List Value → Heap → List Bool → Option ((Value × Heap) × List Bool × Took)
abbrev RunO := List It → List Value → Heap → List Bool → Option ((List Value × Heap × Option Code) × List Bool × Took)
def tookOK (t : Took) : Prop := ∀ c ∈ t, c.1 = c.2
theorem tookOK.app {t u : Took} (h : tookOK (t ++ u)) : tookOK t ∧ tookOK u := ⟨fun c hc => h c (List.mem_append_left _ hc), fun c hc => h c (List.mem_append_right _ hc)⟩
theorem tookOK.cons {c : Bool × Bool} {t : Took} (h : tookOK (c :: t)) : c.1 = c.2 ∧ tookOK t := ⟨h c (by simp), fun d hd => h d (by simp [hd])⟩

theorem tookOK_nil : tookOK [] := fun c hc => by cases hc
theorem tookOK_cons {c : Bool × Bool} {t : Took} (h : c.1 = c.2) (ht : tookOK t) : tookOK (c :: t) := fun d hd => by
  rcases List.mem_cons.1 hd with rfl | hd
  · exact h
  · exact ht d hd

structure SubO where
  call : CallO
  yld : Nat → Nat → List Value → Heap → List Bool → Option ((Bool × Heap) × List Bool × Took)

noncomputable def oOper (P : Program) (c : SubO) (lim : Nat) (l : List Value) (o : Oper) (A : Heap) (os : List Bool) : Option ((Value × Heap) × List Bool × Took) :=
  match aYieldOf l o with
  | some (y, args) => match c.yld lim y args A os with
    | some ((t, A'), os', tk) => some ((.bool t, A'), os', tk)
    | none => none
  | none => match aCallOf l o with
    | some (f, args) => c.call lim f args A os
    | none => match o.op with
      | .pick x y z => match ev l x with
        | .bool b => match os with
          | true :: os => some ((ev l y, A), os, [(b, true)])
          | false :: os => some ((ev l z, A), os, [(b, false)])
          | [] => none
        | _ => none
      | _ => match aOp P lim l o A with
        | some r => some (r, os, [])
        | none => none

/-- Whether an operation is wanted: a guard is a choice. -/
noncomputable def oWanted (ops : Array Oper) (l : List Value) (o : Oper) (os : List Bool) : Option (Bool × List Bool × Took) :=
  match o.guard with
  | none => some (true, os, [])
  | some (j, want) => match (ops[j]?).bind (·.dst) with
    | some d => match tget l d with
      | .bool b => match os with
        | t :: os => some (t == want, os, [(b, t)])
        | [] => none
      | _ => some (false, os, [])
    | none => some (false, os, [])

noncomputable def oYield (lim : Nat) (ih : RunO) (i : Nat) (args : List Value) (A : Heap) (os : List Bool) : Option ((Bool × Heap) × List Bool × Took) :=
  match hget A i with
  | some (.loop tm ps assign body .ready _) =>
    if lim ≤ i ∧ args.length = ps.size then
      match ih [.code assign] (putAll tm (ps.toList.zip args)) A os with
      | some ((l1, A1, none), os1, tk1) =>
        match hget A1 i with
        | some (.loop tm1 ps1 as1 bo1 .ready pend1) =>
          match ih [.code body] l1 (hset A1 i (some (.loop tm1 ps1 as1 bo1 .busy pend1))) os1 with
          | some ((_, A2, j), os2, tk2) =>
            match hget A2 i with
            | some (.loop tm2 ps2 as2 bo2 _ _) => some ((j.isNone, hset A2 i (some (.loop tm2 ps2 as2 bo2 (if j.isNone then .ready else .done) j))), os2, tk1 ++ tk2)
            | _ => none
          | none => none
        | _ => none
      | _ => none
    else none
  | _ => none

noncomputable def oRangeFunc (call : CallO) (lim : Nat) (l : List Value) (g : Operand) (ps : Array Tmp) (assign body : Code) (A : Heap) (os : List Bool) : Option ((Option Code × Heap) × List Bool × Took) :=
  match ev l g with
  | .func (.func f) first captured =>
    match call lim f (first.toList ++ [.func (.yield A.length) #[] #[]] ++ captured.toList) (A ++ [some (.loop l ps assign body .ready none)]) os with
    | some ((_, A'), os', tk) =>
      match hget A' A.length with
      | some (.loop tm ps' as' bo' st pend) => if st ≠ .busy then some ((pend, hset A' A.length (some (.loop tm ps' as' bo' .exhausted pend))), os', tk) else none
      | _ => none
    | none => none
  | _ => none

noncomputable def oDrawGo (P : Program) (c : SubO) (lim : Nat) (imp : FuncId → Bool) (all : Array Oper) (an ws : List Nat) (A0 : Heap) : List (Oper × Nat) → List Value → Heap → List (Nat × Heap) → List Nat → List (Option Nat) → List Bool → Option ((List Value × Heap) × List Bool × Took)
  | [], l, B, news, rs, wr, os => if rowsApart rs wr then some ((l, B ++ flatRows news), os, []) else none
  | (o, i) :: rest, l, B, news, rs, wr, os =>
    match oWanted all l o os with
    | some (true, os1, tk1) =>
      if isPure o.op then
        match oOper P c lim l o [] os1 with
        | some ((v, _), os2, tk2) => (oDrawGo P c lim imp all an ws A0 rest (tput l o.dst v) B news rs wr os2).map fun x => (x.1, x.2.1, tk1 ++ (tk2 ++ x.2.2))
        | none => none
      else if isFree ws an o i then
        match loadRow l o with
        | some r => match oOper P c lim l o A0 os1 with
          | some ((v, _), os2, tk2) => (oDrawGo P c lim imp all an ws A0 rest (tput l o.dst v) B news (r :: rs) wr os2).map fun x => (x.1, x.2.1, tk1 ++ (tk2 ++ x.2.2))
          | none => none
        | none => none
      else if solidIn ws all.toList an i then
        match oOper P c (if isWriterAt imp l o then lim else (fullOf B news).length) l o (fullOf B news) os1 with
        | some ((v, R), os2, tk2) => (oDrawGo P c lim imp all an ws A0 rest (tput l o.dst v) R [] rs (if isWriterAt imp l o then storeRow l o :: wr else wr) os2).map fun x => (x.1, x.2.1, tk1 ++ (tk2 ++ x.2.2))
        | none => none
      else
        match oOper P c (B ++ flatRows news).length l o (B ++ maskRows (an.getD i 0) news) os1 with
        | some ((v, R), os2, tk2) => (oDrawGo P c lim imp all an ws A0 rest (tput l o.dst v) B (news ++ [(i, R.drop (B ++ flatRows news).length)]) rs wr os2).map fun x => (x.1, x.2.1, tk1 ++ (tk2 ++ x.2.2))
        | none => none
    | some (false, os1, tk1) => (oDrawGo P c lim imp all an ws A0 rest (tput l o.dst undef) B news rs wr os1).map fun x => (x.1, x.2.1, tk1 ++ x.2.2)
    | none => none

noncomputable def oStep (P : Program) (c : SubO) (imp : FuncId → Bool) (lim : Nat) (ih : RunO) : RunO
  | [], l, A, os => some ((l, A, none), os, [])
  | .code co :: k, l, A, os =>
    match co with
    | .ret => some ((l, A, some .ret), os, [])
    | .skip => ih k l A os
    | .label _ => ih k l A os
    | .seq a b => ih (.code a :: .code b :: k) l A os
    | .cond x a b => match ev l x with
      | .bool t => match os with
        | true :: os => (ih (.code a :: k) l A os).map fun x => (x.1, x.2.1, (t, true) :: x.2.2)
        | false :: os => (ih (.code b :: k) l A os).map fun x => (x.1, x.2.1, (t, false) :: x.2.2)
        | [] => none
      | _ => none
    | .block id b => ih (.code b :: .inBlock id :: k) l A os
    | .loop b => ih (.code b :: .inLoop b :: k) l A os
    | .scope b => ih (.code b :: .inScope b :: k) l A os
    | .exit id => match aExit id k with
      | some k' => ih k' l A os
      | none => some ((l, A, some (.exit id)), os, [])
    | .goto g => match aGoto g k with
      | some k' => ih k' l A os
      | none => some ((l, A, some (.goto g)), os, [])
    | .region _ ops false => ih (.ops ops 0 :: k) l A os
    | .region _ ops true => match oDrawGo P c lim imp ops (ancs ops.toList) (writersOf imp ops.toList) A ops.toList.zipIdx l A [] [] [] os with
      | some ((l', A'), os1, tk) => (ih k l' A' os1).map fun x => (x.1, x.2.1, tk ++ x.2.2)
      | none => none
    | .rangeFunc g ps assign body => match oRangeFunc c.call lim l g ps assign body A os with
      | some ((none, A'), os1, tk) => (ih k l A' os1).map fun x => (x.1, x.2.1, tk ++ x.2.2)
      | some ((some j, A'), os1, tk) => if isJump j then (ih (.code j :: k) l A' os1).map fun x => (x.1, x.2.1, tk ++ x.2.2) else none
      | none => none
    | _ => none
  | .inBlock _ :: k, l, A, os => ih k l A os
  | .inScope _ :: k, l, A, os => ih k l A os
  | .inLoop b :: k, l, A, os => ih (.code b :: .inLoop b :: k) l A os
  | .ops all i :: k, l, A, os =>
    match all[i]? with
    | none => ih k l A os
    | some o =>
      match oWanted all l o os with
      | some (true, os1, tk1) =>
        match oOper P c lim l o A os1 with
        | some ((v, A'), os2, tk2) => (ih (.ops all (i + 1) :: k) (tput l o.dst v) A' os2).map fun x => (x.1, x.2.1, tk1 ++ (tk2 ++ x.2.2))
        | none => none
      | some (false, os1, tk1) => (ih (.ops all (i + 1) :: k) (tput l o.dst undef) A os1).map fun x => (x.1, x.2.1, tk1 ++ x.2.2)
      | none => none

noncomputable def oCallBy (P : Program) (E : Env) (run : Nat → RunO) : CallO := fun lim f args A os =>
  match E.known lim f args A with
  | some r => some (r, os, [])
  | none =>
    match P.funcs[f]? with
    | none => none
    | some fn =>
      match fn.body with
      | none =>
        if args.all freeB then
          match pureVal P (callFunc f args.toArray) with
          | some v => if freeB v then some ((v, A), os, []) else none
          | none => none
        else none
      | some c =>
        if fn.ntmps < args.length then none
        else if E.impure f then
          match run lim [.code c] args A os with
          | some ((l', A', j), os', tk) => if retB j then match aResults P fn l' A' with
              | some v => some ((v, A'), os', tk)
              | none => none
            else none
          | none => none
        else
          match run A.length [.code c] args A os with
          | some ((l', A', j), os', tk) => if retB j then match aResults P fn l' A' with
              | some v => some (aGC A v A', os', tk)
              | none => none
            else none
          | none => none

noncomputable def oRun (P : Program) (E : Env) : Nat → Nat → RunO
  | 0, _ => fun _ _ _ _ => none
  | n + 1, lim => oStep P ⟨oCallBy P E (oRun P E n), fun lim y args A os => oYield lim (oRun P E n lim) y args A os⟩ E.impure lim (oRun P E n lim)
noncomputable def oCall (P : Program) (E : Env) (n : Nat) : CallO := oCallBy P E (oRun P E n)

/-- Where what was taken is so, the machine does the same. -/
def RunAs (r : RunO) (a : RunF) : Prop := ∀ k l A os x os' tk, r k l A os = some (x, os', tk) → tookOK tk → a k l A = some x
def CallAs (r : CallO) (a : CallF) : Prop := ∀ lim f args A os x os' tk, r lim f args A os = some (x, os', tk) → tookOK tk → a lim f args A = some x
structure SubAs (c : SubO) (d : Sub) : Prop where
  call : CallAs c.call d.call
  yld : ∀ lim y args A os x os' tk, c.yld lim y args A os = some (x, os', tk) → tookOK tk → d.yld lim y args A = some x

theorem map3 {α β γ : Type} {x : Option (α × β × γ)} {g : γ → γ} {a : α} {b : β} {c : γ} (h : x.map (fun x => (x.1, x.2.1, g x.2.2)) = some (a, b, c)) : ∃ c', x = some (a, b, c') ∧ c = g c' := by
  cases x with
  | none => cases h
  | some x => obtain ⟨x1, x2, x3⟩ := x; cases h; exact ⟨x3, rfl, rfl⟩

section
variable {P : Program} {c : SubO} {d : Sub} {lim : Nat}
theorem oOper_as (h : SubAs c d) {l : List Value} {o : Oper} {A : Heap} {os os' : List Bool} {x : Value × Heap} {tk : Took} (ho : oOper P c lim l o A os = some (x, os', tk)) (ht : tookOK tk) : aOper P d lim l o A = some x := by
  unfold oOper at ho
  unfold aOper
  split at ho
  · rename_i hyo
    rw [hyo]
    simp only
    split at ho
    · rename_i hy
      cases ho
      rw [h.yld _ _ _ _ _ _ _ _ hy ht]
    · cases ho
  · rename_i hyo
    rw [hyo]
    simp only
    split at ho
    · rename_i hco
      rw [hco]
      exact h.call _ _ _ _ _ _ _ _ ho ht
    · rename_i hco
      rw [hco]
      simp only
      split at ho
      · rename_i u y z hop
        split at ho
        · rename_i b hev
          split at ho
          · cases ho
            have hb := ht (b, true) (by simp)
            simp only at hb
            subst hb
            simp [aOp, hop, hev]
          · cases ho
            have hb := ht (b, false) (by simp)
            simp only at hb
            subst hb
            simp [aOp, hop, hev]
          · cases ho
        · cases ho
      · split at ho
        · rename_i hr; cases ho; exact hr
        · cases ho
theorem oWanted_as {ops : Array Oper} {l : List Value} {o : Oper} {os os' : List Bool} {b : Bool} {tk : Took} (ho : oWanted ops l o os = some (b, os', tk)) (ht : tookOK tk) : aWanted ops l o = b := by
  unfold oWanted at ho
  unfold aWanted
  split at ho
  · rename_i hg; cases ho; rw [hg]
  · rename_i j want hg
    rw [hg]
    simp only [aYielded]
    split at ho
    · rename_i dd hd
      rw [hd]
      simp only
      split at ho
      · rename_i b0 hb
        rw [hb]
        split at ho
        · rename_i t os0
          cases ho
          have := ht (b0, t) (by simp)
          simp only at this
          subst this
          cases b0 <;> cases want <;> rfl
        · cases ho
      · rename_i hn
        cases ho
        split
        · rename_i b0 hb; exact absurd hb (hn b0)
        · rfl
    · rename_i hd
      cases ho
      rw [hd]
      rfl

theorem oYield_as {ih : RunO} {ih' : RunF} (hi : RunAs ih ih') {y : Nat} {args : List Value} {A : Heap} {os os' : List Bool} {x : Bool × Heap} {tk : Took} (h : oYield lim ih y args A os = some (x, os', tk)) (ht : tookOK tk) : aYield lim ih' y args A = some x := by
  unfold oYield at h
  unfold aYield
  split at h
  · rename_i hg
    rw [hg]
    simp only
    split at h
    · rename_i hc
      rw [if_pos hc]
      split at h
      · rename_i h1
        split at h
        · rename_i hg1
          split at h
          · rename_i h2
            split at h
            · rename_i hg2
              cases h
              obtain ⟨t1, t2⟩ := ht.app
              rw [hi _ _ _ _ _ _ _ h1 t1]
              simp only
              rw [hg1]
              simp only
              rw [hi _ _ _ _ _ _ _ h2 t2]
              simp only
              rw [hg2]
            · cases h
          · cases h
        · cases h
      · cases h
    · cases h
  · cases h
theorem oRangeFunc_as {c : CallO} {d : CallF} (hc : CallAs c d) {l : List Value} {g : Operand} {ps : Array Tmp} {as bo : Code} {A : Heap} {os os' : List Bool} {x : Option Code × Heap} {tk : Took} (h : oRangeFunc c lim l g ps as bo A os = some (x, os', tk)) (ht : tookOK tk) : aRangeFunc d lim l g ps as bo A = some x := by
  unfold oRangeFunc at h
  unfold aRangeFunc
  split at h
  · rename_i hev
    rw [hev]
    simp only
    split at h
    · rename_i h1
      split at h
      · rename_i hg
        split at h
        · rename_i hst
          cases h
          rw [hc _ _ _ _ _ _ _ _ h1 ht]
          simp only
          rw [hg]
          simp only
          rw [if_pos hst]
        · cases h
      · cases h
    · cases h
  · cases h

theorem oDrawGo_as (h : SubAs c d) {imp : FuncId → Bool} {all : Array Oper} {an ws : List Nat} {A0 : Heap} : ∀ (rest : List (Oper × Nat)) (l : List Value) (B : Heap) (news : List (Nat × Heap)) (rs : List Nat) (wr : List (Option Nat)) (os os' : List Bool) (x : List Value × Heap) (tk : Took),
    oDrawGo P c lim imp all an ws A0 rest l B news rs wr os = some (x, os', tk) → tookOK tk → aDrawGo P d lim imp all an ws A0 rest l B news rs wr = some x
  | [], l, B, news, rs, wr, os, os', x, tk, ho, ht => by
    simp only [oDrawGo] at ho
    simp only [aDrawGo]
    split at ho
    · rename_i hr; cases ho; rw [if_pos hr]
    · cases ho
  | (o, i) :: rest, l, B, news, rs, wr, os, os', x, tk, ho, ht => by
    simp only [oDrawGo] at ho
    simp only [aDrawGo]
    split at ho
    · rename_i os1 tk1 hw
      have step : ∀ {v : Value} {os2 : List Bool} {tk2 : Took} {B' : Heap} {news' : List (Nat × Heap)} {rs' : List Nat} {wr' : List (Option Nat)}, (oDrawGo P c lim imp all an ws A0 rest (tput l o.dst v) B' news' rs' wr' os2).map (fun x => (x.1, x.2.1, tk1 ++ (tk2 ++ x.2.2))) = some (x, os', tk) →
          tookOK tk1 ∧ tookOK tk2 ∧ aDrawGo P d lim imp all an ws A0 rest (tput l o.dst v) B' news' rs' wr' = some x := by
        intro v os2 tk2 B' news' rs' wr' hm
        obtain ⟨tk3, h3, rfl⟩ := map3 (g := fun z => tk1 ++ (tk2 ++ z)) hm
        obtain ⟨t1, t23⟩ := ht.app
        obtain ⟨t2, t3⟩ := t23.app
        exact ⟨t1, t2, oDrawGo_as h rest _ _ _ _ _ _ _ _ _ h3 t3⟩
      split at ho
      · rename_i hp
        split at ho
        · rename_i v R os2 tk2 hop
          obtain ⟨t1, t2, hr⟩ := step ho
          rw [oWanted_as hw t1, if_pos rfl, if_pos hp, oOper_as h hop t2]
          exact hr
        · cases ho
      · rename_i hp
        split at ho
        · rename_i hf
          split at ho
          · rename_i r hrow
            split at ho
            · rename_i v R os2 tk2 hop
              obtain ⟨t1, t2, hr⟩ := step ho
              rw [oWanted_as hw t1, if_pos rfl, if_neg hp, if_pos hf, hrow]
              simp only
              rw [oOper_as h hop t2]
              exact hr
            · cases ho
          · cases ho
        · rename_i hf
          split at ho
          · rename_i hs
            split at ho
            · rename_i v R os2 tk2 hop
              obtain ⟨t1, t2, hr⟩ := step ho
              rw [oWanted_as hw t1, if_pos rfl, if_neg hp, if_neg hf, if_pos hs, oOper_as h hop t2]
              exact hr
            · cases ho
          · rename_i hs
            split at ho
            · rename_i v R os2 tk2 hop
              obtain ⟨t1, t2, hr⟩ := step ho
              rw [oWanted_as hw t1, if_pos rfl, if_neg hp, if_neg hf, if_neg hs, oOper_as h hop t2]
              exact hr
            · cases ho
    · rename_i os1 tk1 hw
      obtain ⟨tk3, h3, rfl⟩ := map3 (g := fun z => tk1 ++ z) ho
      obtain ⟨t1, t3⟩ := ht.app
      rw [oWanted_as hw t1, if_neg (by simp)]
      exact oDrawGo_as h rest _ _ _ _ _ _ _ _ _ h3 t3
    · cases ho

theorem oStep_as (h : SubAs c d) {imp : FuncId → Bool} {ih : RunO} {ih' : RunF} (hi : RunAs ih ih') : RunAs (oStep P c imp lim ih) (aStep P d (aDraw P d lim imp) lim ih') := by
  intro todo l A os x os' tk ho ht
  have on : ∀ {k : List It} {l1 : List Value} {A1 : Heap} {os1 : List Bool} {tk1 : Took}, (ih k l1 A1 os1).map (fun x => (x.1, x.2.1, tk1 ++ x.2.2)) = some (x, os', tk) → tookOK tk1 ∧ ih' k l1 A1 = some x := by
    intro k l1 A1 os1 tk1 hm
    obtain ⟨tk3, h3, rfl⟩ := map3 (g := fun z => tk1 ++ z) hm
    obtain ⟨t1, t3⟩ := ht.app
    exact ⟨t1, hi _ _ _ _ _ _ _ h3 t3⟩
  cases todo with
  | nil => cases ho; rfl
  | cons y k =>
    cases y with
    | inBlock id => exact hi _ _ _ _ _ _ _ ho ht
    | inScope c => exact hi _ _ _ _ _ _ _ ho ht
    | inLoop c => exact hi _ _ _ _ _ _ _ ho ht
    | ops all i =>
      simp only [oStep] at ho
      simp only [aStep]
      split at ho
      · rename_i hn; rw [hn]; exact hi _ _ _ _ _ _ _ ho ht
      · rename_i o hoo
        rw [hoo]
        simp only
        split at ho
        · rename_i os1 tk1 hw
          split at ho
          · rename_i v A' os2 tk2 hop
            obtain ⟨tk3, h3, rfl⟩ := map3 (g := fun z => tk1 ++ (tk2 ++ z)) ho
            obtain ⟨t1, t23⟩ := ht.app
            obtain ⟨t2, t3⟩ := t23.app
            rw [oWanted_as hw t1, if_pos rfl, oOper_as h hop t2]
            exact hi _ _ _ _ _ _ _ h3 t3
          · cases ho
        · rename_i os1 tk1 hw
          obtain ⟨t1, hr⟩ := on ho
          rw [oWanted_as hw t1, if_neg (by simp)]
          exact hr
        · cases ho
    | code co =>
      cases co with
      | ret => cases ho; rfl
      | skip => exact hi _ _ _ _ _ _ _ ho ht
      | label g => exact hi _ _ _ _ _ _ _ ho ht
      | seq a b => exact hi _ _ _ _ _ _ _ ho ht
      | cond v a b =>
        simp only [oStep] at ho
        simp only [aStep]
        split at ho
        · rename_i t hev
          rw [hev]
          simp only
          split at ho
          · obtain ⟨tk3, h3, rfl⟩ := map3 (g := fun z => (t, true) :: z) ho
            obtain ⟨t1, t3⟩ := ht.cons
            simp only at t1
            rw [t1, if_pos rfl]
            exact hi _ _ _ _ _ _ _ h3 t3
          · obtain ⟨tk3, h3, rfl⟩ := map3 (g := fun z => (t, false) :: z) ho
            obtain ⟨t1, t3⟩ := ht.cons
            simp only at t1
            rw [t1, if_neg (by simp)]
            exact hi _ _ _ _ _ _ _ h3 t3
          · cases ho
        · cases ho
      | block id a => exact hi _ _ _ _ _ _ _ ho ht
      | loop a => exact hi _ _ _ _ _ _ _ ho ht
      | scope a => exact hi _ _ _ _ _ _ _ ho ht
      | exit id =>
        simp only [oStep] at ho
        simp only [aStep]
        split at ho
        · rename_i hk; rw [hk]; exact hi _ _ _ _ _ _ _ ho ht
        · rename_i hk; cases ho; rw [hk]
      | goto g =>
        simp only [oStep] at ho
        simp only [aStep]
        split at ho
        · rename_i hk; rw [hk]; exact hi _ _ _ _ _ _ _ ho ht
        · rename_i hk; cases ho; rw [hk]
      | region id ops b =>
        cases b with
        | false => exact hi _ _ _ _ _ _ _ ho ht
        | true =>
          simp only [oStep] at ho
          simp only [aStep]
          split at ho
          · rename_i l1 A1 os1 tk1 hd
            obtain ⟨t1, hr⟩ := on ho
            unfold aDraw
            rw [oDrawGo_as h _ _ _ _ _ _ _ _ _ _ hd t1]
            exact hr
          · cases ho
      | rangeFunc g ps as bo =>
        simp only [oStep] at ho
        simp only [aStep]
        split at ho
        · rename_i A1 os1 tk1 hrf
          obtain ⟨t1, hr⟩ := on ho
          rw [oRangeFunc_as h.call hrf t1]
          exact hr
        · rename_i j A1 os1 tk1 hrf
          split at ho
          · rename_i hj
            obtain ⟨t1, hr⟩ := on ho
            rw [oRangeFunc_as h.call hrf t1]
            simp only [hj, if_true]
            exact hr
          · cases ho
        · cases ho
      | refuse s => cases ho

theorem oCallBy_as {E : Env} {run : Nat → RunO} {run' : Nat → RunF} (hr : ∀ lim, RunAs (run lim) (run' lim)) : CallAs (oCallBy P E run) (aCallBy P E run') := by
  intro lim f args A os x os' tk ho ht
  unfold oCallBy at ho
  unfold aCallBy
  split at ho
  · rename_i hk; cases ho; rw [hk]
  · rename_i hk
    rw [hk]
    simp only
    split at ho
    · cases ho
    · rename_i fn hf
      rw [hf]
      simp only
      split at ho
      · rename_i hb
        rw [hb]
        simp only
        split at ho
        · rename_i ha
          rw [if_pos ha]
          split at ho
          · rename_i u hu
            rw [hu]
            simp only
            split at ho
            · rename_i hv; cases ho; rw [if_pos hv]
            · cases ho
          · cases ho
        · cases ho
      · rename_i co hb
        rw [hb]
        simp only
        split at ho
        · cases ho
        · rename_i hn
          rw [if_neg hn]
          split at ho
          · rename_i hi
            rw [if_pos hi]
            split at ho
            · rename_i l1 A1 j os1 tk1 hrun
              split at ho
              · rename_i hj
                split at ho
                · rename_i u hres
                  cases ho
                  rw [hr _ _ _ _ _ _ _ _ hrun ht]
                  simp only
                  rw [if_pos hj, hres]
                · cases ho
              · cases ho
            · cases ho
          · rename_i hi
            rw [if_neg hi]
            split at ho
            · rename_i l1 A1 j os1 tk1 hrun
              split at ho
              · rename_i hj
                split at ho
                · rename_i u hres
                  cases ho
                  rw [hr _ _ _ _ _ _ _ _ hrun ht]
                  simp only
                  rw [if_pos hj, hres]
                · cases ho
              · cases ho
            · cases ho

theorem oRun_as {E : Env} : ∀ n lim, RunAs (oRun P E n lim) (aRun P E n lim)
  | 0, lim => fun k l A os x os' tk h => by cases h
  | n + 1, lim => oStep_as ⟨oCallBy_as (fun lim => oRun_as n lim), fun lim y args A os x os' tk h ht => oYield_as (oRun_as n lim) h ht⟩ (oRun_as n lim)
/-- A RUN, LED BY DECISIONS. -/
theorem Runs.led {E : Env} {n : Nat} {k : List It} {l : List Value} {A : Heap} {os os' : List Bool} {x : List Value × Heap × Option Code} {tk : Took} (h : oRun P E n lim k l A os = some (x, os', tk)) (ht : tookOK tk) : Runs P E lim k l A x := ⟨n, oRun_as n lim _ _ _ _ _ _ _ h ht⟩
/-- A CALL, LED BY DECISIONS. -/
theorem Gives.led {E : Env} {n : Nat} {f : FuncId} {args : List Value} {A : Heap} {os os' : List Bool} {x : Value × Heap} {tk : Took} (h : oCall P E n lim f args A os = some (x, os', tk)) (ht : tookOK tk) : Gives P E lim f args A x := ⟨n, oCallBy_as (fun lim => oRun_as n lim) _ _ _ _ _ _ _ _ h ht⟩
end
end Go.Abs
