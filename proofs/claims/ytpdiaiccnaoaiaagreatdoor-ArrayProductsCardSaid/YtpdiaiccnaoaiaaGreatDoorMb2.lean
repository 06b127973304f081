/-
Joined: Ab11, Ab12, Ab13, Ab14, AbM, Ab15, AbR, Ab16, Ab17, Ab18, Ab19, Ab20, Ab21, Ab22, Ab24, Ab25, Ab26, Ab27, Ab28.
-/
import Derived.Test.YtpdiaiccnaoaiaaGreatDoorMb1
import Derived.RangeFuncLeaves
import Derived.AtR
import Derived.RangeFuncIn
import Derived.Scope
import Derived.Orders
import Derived.OpenShut
set_option linter.unusedVariables false
set_option linter.unusedSimpArgs false
set_option linter.unusedSectionVars false
/-
The abstract machine: regions whose order is open; the run.
-/
namespace Go.Abs
open Go

/-- Operations that turn rows that are there. -/
def isWriter (imp : FuncId → Bool) : Op → Bool
  | .store .. | .next .. | .mapUpdate .. | .insert .. => true
  | .call { callee := .builtin .append, .. } => true
  | .call { callee := .builtin .copy, .. } => true
  | .call { callee := .builtin .unsafeString, .. } => true
  | .call { callee := .value (.func f), .. } => imp f
  | _ => false

/-- An operation that turns rows that are there: it may be a call of a value. -/
noncomputable def isWriterAt (imp : FuncId → Bool) (l : List Value) (o : Oper) : Bool :=
  isWriter imp o.op || (aYieldOf l o).isSome || (match aCallOf l o with
    | some (f, _) => imp f
    | none => false)
def isLoad : Op → Bool
  | .load .. => true
  | .slice _ _ _ _ none => true
  | _ => false
def cmpIn (an : List Nat) (i j : Nat) : Bool := (an.getD i 0).testBit j || (an.getD j 0).testBit i
/-- The places of the operations that turn rows. -/
def writersOf (imp : FuncId → Bool) (ops : List Oper) : List Nat := (ops.zipIdx.filter fun x => isWriter imp x.1.op).map (·.2)
/-- A load that may come before or behind a writer. -/
def isFree (ws an : List Nat) (o : Oper) (i : Nat) : Bool := isLoad o.op && ws.any fun j => !(cmpIn an i j)
def solidIn (ws : List Nat) (ops : List Oper) (an : List Nat) (i : Nat) : Bool :=
  ops.zipIdx.all fun (o, j) => i == j || isPure o.op || isFree ws an o j || cmpIn an i j
/-- The row that a load reads; that a store writes. -/
noncomputable def loadRow (l : List Value) (o : Oper) : Option Nat :=
  match o.op with
  | .load _ a => match ev l a with
    | .pointer (some ⟨i, _, none⟩) => some i
    | _ => none
  | .slice _ x _ _ none => match ev l x with
    | .pointer (some ⟨i, _, none⟩) => some i
    | .slice (some ⟨i, _, none⟩) _ _ => some i
    | _ => none
  | _ => none
noncomputable def storeRow (l : List Value) (o : Oper) : Option Nat :=
  match o.op with
  | .store _ a _ => match ev l a with
    | .pointer (some ⟨i, _, none⟩) => some i
    | _ => none
  | .call { callee := .builtin .append, args, .. } => match args.toList with
    | [a, _] => match ev l a with
      | .slice (some ⟨i, _, none⟩) _ _ => some i
      | .slice none _ _ => some 1000000000
      | _ => none
    | _ => none
  | _ => none
def rowsApart (rs : List Nat) (wr : List (Option Nat)) : Bool := rs.all fun r => wr.all fun w => match w with
  | some w => !(w == r)
  | none => false

def flatRows : List (Nat × Heap) → Heap
  | [] => []
  | (_, N) :: l => N ++ flatRows l
def fullOf (B : Heap) (news : List (Nat × Heap)) : Heap :=
  match news with
  | [] => B
  | _ => B ++ flatRows news
theorem fullOf_eq (B : Heap) (news : List (Nat × Heap)) : fullOf B news = B ++ flatRows news := by
  cases news <;> simp [fullOf, flatRows]
def maskRows (m : Nat) : List (Nat × Heap) → Heap
  | [] => []
  | (j, N) :: l => (if m.testBit j then N else N.map fun _ => none) ++ maskRows m l

noncomputable def aDrawGo (P : Program) (c : Sub) (lim : Nat) (imp : FuncId → Bool) (all : Array Oper) (an ws : List Nat) (A0 : Heap) : List (Oper × Nat) → List Value → Heap → List (Nat × Heap) → List Nat → List (Option Nat) → Option (List Value × Heap)
  | [], l, B, news, rs, wr => if rowsApart rs wr then some (l, B ++ flatRows news) else none
  | (o, i) :: rest, l, B, news, rs, wr =>
    if aWanted all l o then
      if isPure o.op then
        match aOper P c lim l o [] with
        | some (v, _) => aDrawGo P c lim imp all an ws A0 rest (tput l o.dst v) B news rs wr
        | none => none
      else if isFree ws an o i then
        match loadRow l o with
        | some r => match aOper P c lim l o A0 with
          | some (v, _) => aDrawGo P c lim imp all an ws A0 rest (tput l o.dst v) B news (r :: rs) wr
          | none => none
        | none => none
      else if solidIn ws all.toList an i then
        match aOper P c (if isWriterAt imp l o then lim else (fullOf B news).length) l o (fullOf B news) with
        | some (v, R) => aDrawGo P c lim imp all an ws A0 rest (tput l o.dst v) R [] rs (if isWriterAt imp l o then storeRow l o :: wr else wr)
        | none => none
      else
        match aOper P c (B ++ flatRows news).length l o (B ++ maskRows (an.getD i 0) news) with
        | some (v, R) => aDrawGo P c lim imp all an ws A0 rest (tput l o.dst v) B (news ++ [(i, R.drop (B ++ flatRows news).length)]) rs wr
        | none => none
    else aDrawGo P c lim imp all an ws A0 rest (tput l o.dst undef) B news rs wr

noncomputable def aDraw (P : Program) (c : Sub) (lim : Nat) (imp : FuncId → Bool) (ops : Array Oper) (l : List Value) (A : Heap) : Option (List Value × Heap) :=
  aDrawGo P c lim imp ops (ancs ops.toList) (writersOf imp ops.toList) A ops.toList.zipIdx l A [] [] []

noncomputable def aRun (P : Program) (E : Env) : Nat → Nat → RunF
  | 0, _ => fun _ _ _ => none
  | n + 1, lim => aStep P ⟨aCallBy P E (aRun P E n), fun lim y args A => aYield lim (aRun P E n lim) y args A⟩ (aDraw P ⟨aCallBy P E (aRun P E n), fun lim y args A => aYield lim (aRun P E n lim) y args A⟩ lim E.impure) lim (aRun P E n lim)

noncomputable def aCall (P : Program) (E : Env) (n : Nat) : CallF := aCallBy P E (aRun P E n)
end Go.Abs
/-
The abstract machine: a run of it is a run of the model. First part: calls, operations, results.
-/
namespace Go.Abs
open Go

/-- What a call of the machine says of the model. -/
def CallSays (P : Program) (ρ : Loc) (A : Heap) (w : World) (f : FuncId) (args' : List Value) (v : Value) (A' : Heap) : Prop :=
  (∃ v' w' ρ', (callFunc f args'.toArray).run P w = .ok (.value v') w' ∧ VR ρ' v v' ∧ Rel P ρ' A' w' ∧ Moves ρ A w ρ' A' w') ∨
  ((callFunc f args'.toArray).run P w = .ok (.enter f args'.toArray) w ∧
    Calls P f args'.toArray w fun e w' => ∃ v' ρ', e = .returned v' ∧ VR ρ' v v' ∧ Rel P ρ' A' w' ∧ Moves ρ A w ρ' A' w')

structure CallOK (P : Program) (G : Nat) (call : CallF) : Prop where
  says : ∀ lim f args A v A', call lim f args A = some (v, A') → ∀ ρ w args', VRs ρ args args' → Globs ρ G → Rel P ρ A w → CallSays P ρ A w f args' v A'
  keeps : ∀ lim f args A v A', call lim f args A = some (v, A') → A.length ≤ A'.length ∧ ∀ i, i < lim → i < A.length → hget A' i = hget A i

/-- What a round of a range over a function says of the model. -/
def YieldSays (P : Program) (ρ : Loc) (A : Heap) (w : World) (y : Nat) (args' : List Value) (t : Bool) (A' : Heap) : Prop :=
  ∃ L fn tm assign body, ρ y = some L ∧ (Instr.yield L.blk args'.toArray).run P w = .ok (.round L.blk fn tm assign body) w ∧ ∀ (c : Frame) (cs : List Frame), ∃ ρ' w', Steps P (lone (Frame.round L.blk fn tm assign body .normal) (c :: cs) w) (lone (c.finish (.bool t)) cs w') ∧
    Rel P ρ' A' w' ∧ Moves ρ A w ρ' A' w'
structure SubOK (P : Program) (G : Nat) (c : Sub) : Prop where
  call : CallOK P G c.call
  says : ∀ lim y args A t A', c.yld lim y args A = some (t, A') → ∀ ρ w args', VRs ρ args args' → Globs ρ G → Rel P ρ A w → YieldSays P ρ A w y args' t A'
  keeps : ∀ lim y args A t A', c.yld lim y args A = some (t, A') → A.length ≤ A'.length ∧ ∀ i, i < lim → i < A.length → hget A' i = hget A i

theorem operands_ok {ρ : Loc} {G nt : Nat} {l : List Value} {a : Act} (hS : StR ρ nt l a) (hG : Globs ρ G) {o : Oper} (hok : okOper G nt o = true) : ∀ x ∈ o.op.operands.toList, VR ρ (ev l x) (a.eval x) := by
  simp only [okOper, Bool.and_eq_true] at hok
  exact fun x hx => hS.ev hG (List.all_eq_true.1 hok.1.1 x hx)

section
variable {P : Program} {ρ : Loc} {G nt lim : Nat} {A A' : Heap} {w : World} {l l' : List Value} {a : Act} {v : Value}

theorem callOf_run {o : Oper} (hops : ∀ x ∈ o.op.operands.toList, VR ρ (ev l x) (a.eval x)) {f : FuncId} {args : List Value} (h : aCallOf l o = some (f, args)) :
    ∃ args', VRs ρ args args' ∧ execOp a.eval o = callFunc f args'.toArray := by
  unfold aCallOf at h
  split at h
  · rename_i x xs ats ho
    split at h
    · rename_i g first captured hx
      simp only [Option.some.injEq, Prod.mk.injEq] at h
      obtain ⟨hgf, hargs0⟩ := h
      subst hargs0
      rw [← hgf]
      rw [ho] at hops
      have hxr := hops x (by simp [Op.operands, Call.operands])
      rw [hx] at hxr
      have hargs := VRs.evs xs.toList (fun y hy => hops y (by simp [Op.operands, Call.operands]; exact .inr (by simpa using hy)))
      obtain ⟨f', c', he, hf, hc⟩ : ∃ f' c', a.eval x = .func (.func g) f' c' ∧ VRs ρ first.toList f'.toList ∧ VRs ρ captured.toList c'.toList := by
        generalize a.eval x = y at hxr
        cases hxr with
        | atom h => simp [atomB] at h
        | func hy h1 h2 h3 h4 => exact ⟨_, _, rfl, ⟨by simpa using h1, h3⟩, ⟨by simpa using h2, h4⟩⟩
      refine ⟨f'.toList ++ xs.toList.map a.eval ++ c'.toList, (hf.append hargs).append hc, ?_⟩
      have harr : (f'.toList ++ xs.toList.map a.eval ++ c'.toList).toArray = f' ++ xs.map a.eval ++ c' := by
        apply Array.ext'; simp
      rw [harr]
      simp [execOp, ho, resolve, he, Deferred.ofValue, invoke]
    · cases h
  · cases h

/-- An operation, as the model's rule for it wants it. -/
theorem aOper_wp {c : Sub} (hC : SubOK P G c) {o : Oper} (hy : aYieldOf l o = none) (E : ∀ x ∈ o.op.operands.toList, VR ρ (ev l x) (a.eval x)) (hG : Globs ρ G) (hR : Rel P ρ A w) (hok : okOper G nt o = true) (h : aOper P c lim l o A = some (v, A'))
    {K : Act → World → Prop} {Q : Exit → Act → World → Prop} (hK : ∀ v' w' ρ', VR ρ' v v' → Rel P ρ' A' w' → Moves ρ A w ρ' A' w' → K (a.put o.dst v') w') : o.wp P a w K Q := by
  unfold aOper at h
  rw [hy] at h
  simp only at h
  unfold Oper.wp
  split at h
  · rename_i f args hco
    obtain ⟨args', hargs, hrun⟩ := callOf_run E hco
    rw [hrun]
    rcases hC.call.says lim f args A v A' h ρ w args' hargs hG hR with ⟨v', w', ρ', h1, h2, h3, h4⟩ | ⟨h1, h2⟩
    · rw [h1]; exact hK v' w' ρ' h2 h3 h4
    · rw [h1]
      refine h2.mono ?_
      rintro e w' ⟨v', ρ', rfl, h3, h4, h5⟩
      exact hK v' w' ρ' h3 h4 h5
  · obtain ⟨n, v', w', ρ', h1, h2, h3, h4, h5⟩ := aOp_sound E hR hok h
    rw [h1]
    rcases h2 with rfl | ⟨rfl, rfl⟩
    · exact hK v' w' ρ' h3 h4 h5
    · exact hK undef w' ρ' h3 h4 h5

def resAt (a : Act) : ResultVar → Sem Value
  | .tmp t => pure (a.tmps.getD t undef)
  | .cell x t => do loadVar t (← asAddr (a.tmps.getD x undef))
theorem results_eq (fn : Func) (a : Act) : results fn a.tmps = (do let vs ← fn.results.mapM (resAt a); pure (if h : vs.size = 1 then vs[0] else .tuple vs)) := by
  have : (fun r : ResultVar => match r with
      | .tmp t => (pure (a.tmps.getD t undef) : Sem Value)
      | .cell x t => do loadVar t (← asAddr (a.tmps.getD x undef))) = resAt a := by funext r; cases r <;> rfl
  rw [← this]
  rfl

theorem results1_run (hS : StR ρ nt l a) (hR : Rel P ρ A w) : ∀ (rs : List ResultVar) (vs : List Value), aResults1 P l A rs = some vs →
    ∃ vs', (rs.mapM (resAt a)).run P w = .ok vs' w ∧ VRs ρ vs vs'
  | [], vs, h => by cases h; exact ⟨[], by simp, VRs.nil ρ⟩
  | r :: rs, vs, h => by
    simp only [aResults1] at h
    split at h
    · rename_i v us hv hus
      cases h
      obtain ⟨us', hrun, hr⟩ := results1_run hS hR rs us hus
      cases r with
      | tmp t =>
        cases hv
        refine ⟨a.tmps.getD t undef :: us', ?_, VRs.cons (hS.tmps t) hr⟩
        have hfirst : (resAt a (.tmp t)).run P w = .ok (a.tmps.getD t undef) w := rfl
        simp only [List.mapM_cons, Sem.run_bind, hfirst, Sem.run_pure, Result.andThen_ok, hrun]
      | cell x t =>
        simp only [aResult] at hv
        obtain ⟨v', w', ρ', h1, h2, h3, h4⟩ := load_sound (P := P) (w := w) hR hv (hS.tmps x)
        have hp := hS.tmps x
        have hld : ∃ p, a.tmps.getD x undef = .pointer (some p) ∧ (loadVar t p).run P w = .ok v' w' := by
          unfold aLoad at hv
          split at hv
          · rename_i i o heq
            rw [heq] at hp
            obtain ⟨L, hL, he⟩ := hp.ptr_inv
            refine ⟨_, he, ?_⟩
            rw [he] at h1
            simpa [Instr.loadAt, Instr.sureAddr] using h1
          · cases hv
        obtain ⟨p, hp, hload⟩ := hld
        have hrunv : ∃ v'', (loadVar t p).run P w = .ok v'' w ∧ VR ρ v v'' := by
          unfold aLoad at hv
          split at hv
          · rename_i i o heq
            have hp2 := hS.tmps x
            rw [heq] at hp2
            obtain ⟨L, hL, he⟩ := hp2.ptr_inv
            rw [hp] at he; cases he
            split at hv
            · rename_i cs e use hg
              exact loadVar_sound (hR.row' hL hg) hv
            · cases hv
          · cases hv
        obtain ⟨v'', h5, h6⟩ := hrunv
        refine ⟨v'' :: us', ?_, VRs.cons h6 hr⟩
        have hfirst : (resAt a (.cell x t)).run P w = .ok v'' w := by simp [resAt, hp, asAddr, h5]
        simp only [List.mapM_cons, Sem.run_bind, hfirst, Sem.run_pure, Result.andThen_ok, hrun]
    · cases h

theorem results_run (hS : StR ρ nt l a) (hR : Rel P ρ A w) {fn : Func} (h : aResults P fn l A = some v) : ∃ v', (results fn a.tmps).run P w = .ok v' w ∧ VR ρ v v' := by
  unfold aResults at h
  have key : ∀ vs, aResults1 P l A fn.results.toList = some vs → ∃ vs', (fn.results.mapM (resAt a)).run P w = .ok vs'.toArray w ∧ VRs ρ vs vs' := by
    intro vs hvs
    obtain ⟨vs', hrun, hr⟩ := results1_run hS hR _ _ hvs
    refine ⟨vs', ?_, hr⟩
    rw [Array.mapM_eq_mapM_toList, Sem.run_map, hrun]
    rfl
  split at h
  · rename_i u hu
    cases h
    obtain ⟨vs', hrun, hr⟩ := key _ hu
    obtain ⟨v', l', rfl, h1, h2⟩ := hr.uncons
    have : l' = [] := List.length_eq_zero_iff.1 (by simpa using h2.1.symm)
    subst this
    refine ⟨v', ?_, h1⟩
    rw [results_eq]
    simp only [Sem.run_bind]
    rw [hrun]
    simp
  · rename_i vs hne hvs
    cases h
    obtain ⟨vs', hrun, hr⟩ := key _ hvs
    have hl : vs'.toArray.size ≠ 1 := by
      intro h1
      have h2 : vs.length = 1 := by rw [hr.1]; simpa using h1
      match vs, h2 with
      | [x], _ => exact hne x rfl
    refine ⟨.tuple vs'.toArray, ?_, .tuple (by simpa using hr.1) (by simpa using hr.2)⟩
    rw [results_eq]
    simp only [Sem.run_bind]
    rw [hrun]
    simp only [Result.andThen_ok, dif_neg hl, Sem.run_pure]
  · cases h
end
end Go.Abs
/-
The abstract machine: rows to which a result does not lead are forgotten.
-/
namespace Go.Abs
open Go

theorem VR.transfer {ρ ρ2 ρ' : Loc} (hρ : ∀ i L, ρ i = some L → ρ' i = ρ2 i) {x x1 : Value} (h : VR ρ x x1) : ∀ {x2 : Value}, VR ρ2 x x2 → VR ρ' x x2 := by
  have lists : ∀ {l l1 : Array Value}, l.size = l1.size → (∀ (k : Nat) (v v' : Value), l.toList[k]? = some v → l1.toList[k]? = some v' → ∀ {x2 : Value}, VR ρ2 v x2 → VR ρ' v x2) → ∀ {l2 : Array Value},
      (∀ (k : Nat) (v v' : Value), l.toList[k]? = some v → l2.toList[k]? = some v' → VR ρ2 v v') → ∀ (k : Nat) (v v' : Value), l.toList[k]? = some v → l2.toList[k]? = some v' → VR ρ' v v' := by
    intro l l1 hs ih l2 h2 k v v' hv hv'
    have hk : k < l1.toList.length := by
      have := (List.getElem?_eq_some_iff.1 hv).1
      simp at this ⊢; omega
    exact ih k v l1.toList[k] hv (List.getElem?_eq_getElem hk) (h2 k v v' hv hv')
  induction h with
  | atom h => intro x2 h2; rw [h2.atom_eq h]; exact .atom h
  | ptr h =>
    intro x2 h2
    obtain ⟨L2, hL2, rfl⟩ := h2.ptr_inv
    exact .ptr ((hρ _ _ h).trans hL2)
  | slice h hn hp hb =>
    intro x2 h2
    obtain ⟨L2, p, c', hL2, rfl, a1, a2, a3⟩ := h2.slice_inv
    exact .slice ((hρ _ _ h).trans hL2) a1 a2 a3
  | func hy hf hc hfs hcs ih1 ih2 =>
    intro x2 h2
    cases h2 with
    | atom h => simp [atomB] at h
    | func b1 b2 b3 b4 b5 => exact .func b1 b2 b3 (lists hf ih1 b4) (lists hc ih2 b5)
    | yield => simp [Fn.notYield] at hy
  | yield h =>
    intro x2 h2
    cases h2 with
    | atom h => simp [atomB] at h
    | func b1 => simp [Fn.notYield] at b1
    | yield h2 => exact .yield ((hρ _ _ h).trans h2)
  | map h =>
    intro x2 h2
    cases h2 with
    | atom h => simp [atomB] at h
    | map h2 => exact .map ((hρ _ _ h).trans h2)
  | iface h ih =>
    intro x2 h2
    cases h2 with
    | atom h => simp [atomB] at h
    | iface h2 => exact .iface (ih h2)
  | agg hs h ih =>
    intro x2 h2
    cases h2 with
    | atom h => simp [atomB] at h
    | agg b1 b2 => exact .agg b1 (lists hs ih b2)
  | tuple hs h ih =>
    intro x2 h2
    cases h2 with
    | atom h => simp [atomB] at h
    | tuple b1 b2 => exact .tuple b1 (lists hs ih b2)
  | junk h =>
    intro x2 h2
    cases h2 with
    | atom h => simp [atomB] at h
    | junk h => exact .junk h

theorem place_get {i j : Nat} : ∀ {l : List Nat}, place i l = some j → l[j]? = some i
  | [], h => by cases h
  | k :: l, h => by
    simp only [place] at h
    split at h
    · cases h; simp [*]
    · obtain ⟨m, hm, he⟩ := map_some h
      subst he
      simpa using place_get hm
theorem place_none {i : Nat} : ∀ {l : List Nat}, place i l = none → i ∉ l
  | [], _ => by simp
  | k :: l, h => by
    simp only [place] at h
    split at h
    · cases h
    · rename_i hne
      have : place i l = none := by
        cases hp : place i l with
        | none => rfl
        | some j => rw [hp] at h; cases h
      simp only [List.mem_cons, not_or]
      exact ⟨fun e => hne e.symm, place_none this⟩
theorem nodup_get : ∀ {l : List Nat}, nodupB l = true → ∀ (a b x : Nat), l[a]? = some x → l[b]? = some x → a = b
  | [], _, a, b, x, ha, _ => by simp at ha
  | k :: l, h, a, b, x, ha, hb => by
    simp only [nodupB, Bool.and_eq_true, Option.isNone_iff_eq_none] at h
    obtain ⟨h1, h2⟩ := h
    have hn := place_none h1
    cases a <;> cases b
    · rfl
    · simp at ha hb; subst ha; exact absurd (List.mem_of_getElem? hb) hn
    · simp at ha hb; subst hb; exact absurd (List.mem_of_getElem? ha) hn
    · simp at ha hb; rw [nodup_get h2 _ _ _ ha hb]

section
variable {s : Nat} {ids : List Nat} {ρ2 ρ' : Loc}

theorem cellRen_sound (h1 : ∀ i, i < s → ρ' i = ρ2 i) (h2 : ∀ i j, ids[j]? = some i → ρ' (s + j) = ρ2 i) {v v' c : Value} (h : cellRen s ids v = some v') (hv : VR ρ2 v c) : VR ρ' v' c := by
  unfold cellRen at h
  split at h
  · rename_i i o
    obtain ⟨L, hL, rfl⟩ := hv.ptr_inv
    split at h
    · rename_i hi
      cases h; exact .ptr ((h1 i hi).trans hL)
    · obtain ⟨j, hj, he⟩ := map_some h
      subst he
      exact .ptr ((h2 i j (place_get hj)).trans hL)
  · rename_i i o n cc
    obtain ⟨L, p, c', hL, rfl, a1, a2, a3⟩ := hv.slice_inv
    split at h
    · rename_i hi
      cases h; exact .slice ((h1 i hi).trans hL) a1 a2 a3
    · obtain ⟨j, hj, he⟩ := map_some h
      subst he
      exact .slice ((h2 i j (place_get hj)).trans hL) a1 a2 a3
  · split at h
    · rename_i ha
      cases h
      rw [hv.atom_eq ha]; exact .atom ha
    · cases h

theorem listRen_sound {f : Value → Option Value} (hf : ∀ v v' c, f v = some v' → VR ρ2 v c → VR ρ' v' c) : ∀ (l l' c : List Value), listRen f l = some l' → VRs ρ2 l c → VRs ρ' l' c
  | [], l', c, h, hv => by
    cases h
    cases c with
    | nil => exact VRs.nil _
    | cons x y => exact absurd hv.1 (by simp)
  | v :: l, l', c, h, hv => by
    obtain ⟨c1, c2, rfl, hv1, hv2⟩ := hv.uncons
    simp only [listRen] at h
    split at h
    · rename_i u us hu hus
      cases h
      exact VRs.cons (hf _ _ _ hu hv1) (listRen_sound hf l us c2 hus hv2)
    · cases h

theorem aggRen_sound (h1 : ∀ i, i < s → ρ' i = ρ2 i) (h2 : ∀ i j, ids[j]? = some i → ρ' (s + j) = ρ2 i) {v v' c : Value} (h : aggRen s ids v = some v') (hv : VR ρ2 v c) : VR ρ' v' c := by
  unfold aggRen at h
  split at h
  · obtain ⟨l, hl, he⟩ := map_some h
    subst he
    obtain ⟨c', rfl, hc⟩ := hv.agg_inv
    have := listRen_sound (fun v v' c a b => cellRen_sound h1 h2 a b) _ _ _ hl hc
    exact .agg (by simpa using this.1) (by simpa using this.2)
  · exact cellRen_sound h1 h2 h hv

theorem valRen_sound (h1 : ∀ i, i < s → ρ' i = ρ2 i) (h2 : ∀ i j, ids[j]? = some i → ρ' (s + j) = ρ2 i) {v v' c : Value} (h : valRen s ids v = some v') (hv : VR ρ2 v c) : VR ρ' v' c := by
  unfold valRen at h
  split at h
  · obtain ⟨l, hl, he⟩ := map_some h
    subst he
    obtain ⟨c', rfl, hc⟩ := hv.tuple_inv
    have := listRen_sound (fun v v' c a b => aggRen_sound h1 h2 a b) _ _ _ hl hc
    exact .tuple (by simpa using this.1) (by simpa using this.2)
  · exact aggRen_sound h1 h2 h hv
end

theorem kept_get {A : Heap} : ∀ {ids : List Nat} {R : Heap}, keptRows A ids = some R → R.length = ids.length ∧ ∀ k i, ids[k]? = some i → ∃ cs e u, hget A i = some (.cells cs e u) ∧ cs.all atomB = true ∧ hget R k = some (.cells cs e u)
  | [], R, h => by cases h; exact ⟨rfl, fun k i h => by simp at h⟩
  | i :: ids, R, h => by
    simp only [keptRows] at h
    split at h
    · rename_i cs e u R2 hg hk
      split at h
      · rename_i ha
        cases h
        obtain ⟨h1, h2⟩ := kept_get hk
        refine ⟨by simp [h1], fun k j hj => ?_⟩
        cases k with
        | zero => simp at hj; subst hj; exact ⟨cs, e, u, hg, ha, rfl⟩
        | succ k => obtain ⟨cs, e, u, a1, a2, a3⟩ := h2 k j (by simpa using hj); exact ⟨cs, e, u, a1, a2, by simpa [] using a3⟩
      · cases h
    · cases h

theorem cellIds_ge (s : Nat) (v : Value) : ∀ j ∈ cellIds s v, s ≤ j := by
  intro j hj
  unfold cellIds at hj
  split at hj
  · split at hj
    · simp at hj; omega
    · simp at hj
  · split at hj
    · simp at hj; omega
    · simp at hj
  · simp at hj
theorem aggIds_ge (s : Nat) (v : Value) : ∀ j ∈ aggIds s v, s ≤ j := by
  intro j hj
  unfold aggIds at hj
  split at hj
  · obtain ⟨x, _, hx⟩ := List.mem_flatMap.1 hj
    exact cellIds_ge s x j hx
  · exact cellIds_ge s _ j hj
theorem valIds_ge (s : Nat) (v : Value) : ∀ j ∈ valIds s v, s ≤ j := by
  intro j hj
  unfold valIds at hj
  split at hj
  · obtain ⟨x, _, hx⟩ := List.mem_flatMap.1 hj
    exact aggIds_ge s x j hx
  · exact aggIds_ge s _ j hj

theorem aGC_cases {A A2 A' : Heap} {v v' : Value} (h : aGC A v A2 = (v', A')) : (∃ R, valRen A.length (valIds A.length v) v = some v' ∧ keptRows A2 (valIds A.length v) = some R ∧ nodupB (valIds A.length v) = true ∧ A' = A ++ R) ∨ (v' = v ∧ A' = A2) := by
  unfold aGC at h
  split at h
  · rename_i u hren hk
    cases h
    have hl := (kept_get hk).1
    have : valIds A.length v = [] := List.length_eq_zero_iff.1 (by simpa using hl.symm)
    exact .inl ⟨[], hren, hk, by rw [this]; rfl, by simp⟩
  · rename_i u R hne hren hk
    split at h
    · rename_i hnd
      cases h
      exact .inl ⟨R, hren, hk, hnd, rfl⟩
    · cases h; exact .inr ⟨rfl, rfl⟩
  · cases h; exact .inr ⟨rfl, rfl⟩

/-- BEHIND A CALL: what the result does not lead to is forgotten. -/
theorem gc_sound {P : Program} {ρ ρ2 : Loc} {A A2 A' : Heap} {w w2 : World} {v v' c : Value} (hR : Rel P ρ A w) (hR2 : Rel P ρ2 A2 w2) (hM : Moves ρ A w ρ2 A2 w2) (hlen : A.length ≤ A2.length)
    (hkeep : ∀ i, i < A.length → hget A2 i = hget A i) (hv : VR ρ2 v c) (h : aGC A v A2 = (v', A')) : ∃ ρ', VR ρ' v' c ∧ Rel P ρ' A' w2 ∧ Moves ρ A w ρ' A' w2 := by
  rcases aGC_cases h with ⟨R, hren, hkept, hnd, hA'⟩ | ⟨hv', hA'⟩
  · subst hA'
    · obtain ⟨hRl, hRg⟩ := kept_get hkept
      have hge := valIds_ge A.length v
      generalize valIds A.length v = ids at *
      let ρ' : Loc := fun i => if i < A.length then ρ2 i else match ids[i - A.length]? with | some j => ρ2 j | none => none
      have e1 : ∀ i, i < A.length → ρ' i = ρ2 i := fun i hi => by simp [ρ', hi]
      have e2 : ∀ i j, ids[j]? = some i → ρ' (A.length + j) = ρ2 i := fun i j hj => by
        have : ¬ A.length + j < A.length := by omega
        simp only [ρ', if_neg this, Nat.add_sub_cancel_left, hj]
      have getA : ∀ i r, hget (A ++ R) i = some r → (i < A.length ∧ hget A i = some r ∧ hget A2 i = some r) ∨ (∃ k j, i = A.length + k ∧ ids[k]? = some j ∧ hget A2 j = some r ∧ ∃ cs e u, r = .cells cs e u ∧ cs.all atomB = true) := by
        intro i r hi
        rw [hget_append] at hi
        split at hi
        · rename_i hlt
          exact .inl ⟨hlt, hi, by rw [hkeep i hlt]; exact hi⟩
        · rename_i hge
          have hk : i - A.length < R.length := hget_lt hi
          have hk' : i - A.length < ids.length := by omega
          obtain ⟨cs, e, u, a1, a2, a3⟩ := hRg (i - A.length) ids[i - A.length] (List.getElem?_eq_getElem hk')
          rw [a3] at hi; cases hi
          exact .inr ⟨i - A.length, _, by omega, List.getElem?_eq_getElem hk', a1, cs, e, u, rfl, a2⟩
      have trans : ∀ {x x1 x2 : Value}, VR ρ x x1 → VR ρ2 x x2 → VR ρ' x x2 := fun h1 h2 => VR.transfer (fun i L hi => e1 i (by
        rcases Nat.lt_or_ge i A.length with h | h
        · exact h
        · rw [hR.sup i h] at hi; cases hi)) h1 h2
      refine ⟨ρ', valRen_sound e1 e2 hren hv, ⟨?_, ?_, ?_, ?_⟩, ⟨?_, by simp only [List.length_append]; omega, fun i hi => (e1 i hi).trans (hM.same i hi), hM.size, hM.frame, ?_, hM.out, hM.loops⟩⟩
      · intro i hi
        simp only [List.length_append, hRl] at hi
        have h1 : ¬ i < A.length := by omega
        have h2 : ids[i - A.length]? = none := List.getElem?_eq_none (by omega)
        simp only [ρ', if_neg h1, h2]
      · intro i r hi
        rcases getA i r hi with ⟨hlt, _, h2⟩ | ⟨k, j, rfl, hj, hg, _⟩
        · rw [e1 i hlt]; exact hR2.has i r h2
        · rw [e2 j k hj]; exact hR2.has j r hg
      · intro i r L hi hL
        rcases getA i r hi with ⟨hlt, h1, h2⟩ | ⟨k, j, rfl, hj, hg, cs, e, u, rfl, ha⟩
        · rw [e1 i hlt] at hL
          have hr2 := hR2.row i r L h2 hL
          obtain ⟨L1, hL1, hr1⟩ := hR.found h1
          cases r with
          | cells cs e use =>
            obtain ⟨cs', e', fz, b1, b2, b3, b4⟩ := hr2
            obtain ⟨ds', d', dz, c1, c2, c3, c4⟩ := hr1
            exact ⟨cs', e', fz, b1, fun o x hx => let ⟨x2, y1, y2⟩ := b2 o x hx; let ⟨x1, _, z2⟩ := c2 o x hx; ⟨x2, y1, trans z2 y2⟩, b3, b4⟩
          | iter s p => exact hr2
          | loop =>
            obtain ⟨t2, f2, d2, b1, b2, b3⟩ := hr2
            obtain ⟨t1, f1, d1, c1, c2, _⟩ := hr1
            exact ⟨t2, f2, d2, b1, fun k => trans (c2 k) (b2 k), b3⟩
          | map =>
            obtain ⟨es2, b1, b2, b3⟩ := hr2
            obtain ⟨es1, c1, c2, c3⟩ := hr1
            exact ⟨es2, b1, b2, fun k key val born hk => let ⟨e2, y1, y2, y3, y4⟩ := b3 k key val born hk; let ⟨e1, _, _, _, z4⟩ := c3 k key val born hk; ⟨e2, y1, y2, y3, trans z4 y4⟩⟩
          | miter =>
            obtain ⟨o2, M2, b1, b2⟩ := hr2
            obtain ⟨_, M1, c1, _⟩ := hr1
            obtain ⟨L3, hL3, he⟩ := (trans (VR.ptr (o := 0) c1) (VR.ptr (o := 0) b1)).ptr_inv
            have he' : M2.blk = L3.blk := by simp only [Value.pointer.injEq, Option.some.injEq, Addr.mk.injEq] at he; exact he.1
            exact ⟨o2, L3, hL3, by rw [← he']; exact b2⟩
        · rw [e2 j k hj] at hL
          obtain ⟨cs', e', fz, b1, b2, b3, b4⟩ := hR2.row j _ L hg hL
          exact ⟨cs', e', fz, b1, fun o x hx => by
            obtain ⟨x2, y1, y2⟩ := b2 o x hx
            have hax := List.all_eq_true.1 ha x (List.mem_of_getElem? hx)
            exact ⟨x2, y1, by rw [y2.atom_eq hax]; exact .atom hax⟩, b3, b4⟩
      · intro i j r q L M hi hj hL hM' hne hr
        rcases getA i r hi with ⟨hlt, _, h2⟩ | ⟨k, i', rfl, hi', hg, cs, e, u, rfl, ha⟩ <;> rcases getA j q hj with ⟨hlt', _, h2'⟩ | ⟨k', j', rfl, hj', hg', cs', e', u', rfl, ha'⟩
        · rw [e1 i hlt] at hL; rw [e1 j hlt'] at hM'
          exact hR2.sep i j r q L M h2 h2' hL hM' hne hr
        · rw [e1 i hlt] at hL; rw [e2 _ _ hj'] at hM'
          exact hR2.sep i j' r _ L M h2 hg' hL hM' (by have := hge j' (List.mem_of_getElem? hj'); omega) hr
        · rw [e2 _ _ hi'] at hL; rw [e1 j hlt'] at hM'
          exact hR2.sep i' j _ q L M hg h2' hL hM' (by have := hge i' (List.mem_of_getElem? hi'); omega) hr
        · rw [e2 _ _ hi'] at hL; rw [e2 _ _ hj'] at hM'
          exact hR2.sep i' j' _ _ L M hg hg' hL hM' (fun e => hne (by subst e; rw [nodup_get hnd k k' i' hi' hj'])) hr
      · intro i L hi
        have hlt : i < A.length := by
          rcases Nat.lt_or_ge i A.length with h | h
          · exact h
          · rw [hR.sup i h] at hi; cases hi
        rw [e1 i hlt]; exact hM.pre i L hi
      · intro i r L hi hL
        rcases getA i r hi with ⟨hlt, h1, h2⟩ | ⟨k, j, rfl, hj, hg, _⟩
        · exact .inl ⟨hlt, r, h1, id⟩
        · rw [e2 _ _ hj] at hL
          rcases hM.rows j r L hg hL with ⟨hlt, _⟩ | h2 | h2
          · have := hge j (List.mem_of_getElem? hj); omega
          · exact .inr (.inl h2)
          · exact .inr (.inr h2)
  · subst hv'; subst hA'; exact ⟨ρ2, hv, hR2, hM⟩
end Go.Abs
/-
The abstract machine: rows below the limit stay as they are.
-/
namespace Go.Abs
open Go

def Keeps (lim : Nat) (A A' : Heap) : Prop := A.length ≤ A'.length ∧ ∀ i, i < lim → i < A.length → hget A' i = hget A i

theorem Keeps.refl (lim : Nat) (A : Heap) : Keeps lim A A := ⟨Nat.le_refl _, fun _ _ _ => rfl⟩
theorem Keeps.trans {lim : Nat} {A B C : Heap} (h : Keeps lim A B) (h' : Keeps lim B C) : Keeps lim A C :=
  ⟨Nat.le_trans h.1 h'.1, fun i hi hA => (h'.2 i hi (Nat.lt_of_lt_of_le hA h.1)).trans (h.2 i hi hA)⟩
theorem Keeps.push (lim : Nat) (A : Heap) (x : Option ARow) : Keeps lim A (A ++ [x]) :=
  ⟨by simp, fun i _ hA => by rw [hget_append, if_pos hA]⟩
theorem Keeps.set {lim : Nat} (A : Heap) {i : Nat} (hi : lim ≤ i) (x : Option ARow) : Keeps lim A (hset A i x) :=
  ⟨by simp, fun j hj hA => by rw [hget_hset, if_neg (by omega)]⟩
theorem Keeps.setPush {lim : Nat} (A : Heap) {i : Nat} (hi : lim ≤ i) (x y : Option ARow) : Keeps lim A (hset A i x ++ [y]) :=
  (Keeps.set A hi x).trans (Keeps.push lim _ y)
section
variable {P : Program} {lim : Nat} {l : List Value} {A A' : Heap} {v : Value}

theorem alloc_keeps {t : TypeId} (h : aAlloc P t A = some (v, A')) : Keeps lim A A' := by
  unfold aAlloc at h
  repeat' (split at h)
  all_goals first | (cases h; exact Keeps.push _ _ _) | cases h
theorem buildSlice_keeps {t : TypeId} {n : Nat} {ps : List (Nat × Value)} (h : aBuildSlice P t n ps A = some (v, A')) : Keeps lim A A' := by
  unfold aBuildSlice at h
  repeat' (split at h)
  all_goals first | (cases h; exact Keeps.push _ _ _) | cases h
theorem makeSlice_keeps {t : TypeId} {x c : Value} (h : aMakeSlice P t x c A = some (v, A')) : Keeps lim A A' := by
  unfold aMakeSlice at h
  repeat' (split at h)
  all_goals first | (cases h; exact Keeps.push _ _ _) | cases h
theorem store_keeps {t : TypeId} {p x : Value} (h : aStore P lim t p x A = some A') : Keeps lim A A' := by
  unfold aStore at h
  repeat' (split at h)
  all_goals first | (rename_i hh; cases h; exact Keeps.set _ hh.2.1 _) | cases h
theorem append_keeps {ats : Array TypeId} {s x : Value} (h : aAppend P lim ats s x A = some (v, A')) : Keeps lim A A' := by
  unfold aAppend at h
  repeat' (split at h)
  all_goals first | (cases h; exact Keeps.refl _ _) | (cases h; exact Keeps.push _ _ _) | (rename_i hh; cases h; exact Keeps.setPush _ hh.1 _ _) | cases h
theorem copy_keeps {ats : Array TypeId} {s x : Value} (h : aCopy P lim ats s x A = some (v, A')) : Keeps lim A A' := by
  unfold aCopy at h
  repeat' (split at h)
  all_goals first | (cases h; exact Keeps.refl _ _) | (rename_i hh; cases h; exact Keeps.set _ hh.2.1 _) | cases h
theorem convert_keeps {s d : TypeId} {x : Value} (h : aConvert P s d x A = some (v, A')) : Keeps lim A A' := by
  unfold aConvert at h
  repeat' (split at h)
  all_goals first | (obtain ⟨_, _, he⟩ := map_some h; cases he; exact Keeps.refl _ _) | (cases h; exact Keeps.push _ _ _) | (cases h; exact Keeps.refl _ _) | cases h
theorem range_keeps {t : TypeId} {x : Value} (h : aRange P t x A = some (v, A')) : Keeps lim A A' := by
  unfold aRange at h
  repeat' (split at h)
  all_goals first | (cases h; exact Keeps.push _ _ _) | cases h
theorem next_keeps {x : Value} {b : Bool} (h : aNext lim x b A = some (v, A')) : Keeps lim A A' := by
  unfold aNext at h
  repeat' (split at h)
  all_goals first | (cases h; exact Keeps.refl _ _) | (rename_i hh _; cases h; exact Keeps.set _ hh _) | cases h
theorem unsafeString_keeps {ats : Array TypeId} {p n : Value} (h : aUnsafeString P lim ats p n A = some (v, A')) : Keeps lim A A' := by
  unfold aUnsafeString at h
  repeat' (split at h)
  all_goals first | (cases h; exact Keeps.refl _ _) | (rename_i hh; cases h; exact Keeps.set _ hh.2.2.2.2.2.2 _) | cases h
theorem makeMap_keeps {t : TypeId} {r : Option Value} (h : aMakeMap P t r A = some (v, A')) : Keeps lim A A' := by
  unfold aMakeMap at h
  repeat' (split at h)
  all_goals first | (cases h; exact Keeps.push _ _ _) | cases h
theorem mapUpdate_keeps {t : TypeId} {m k x : Value} (h : aMapUpdate P lim t m k x A = some A') : Keeps lim A A' := by
  unfold aMapUpdate at h
  split at h
  · split at h
    · split at h
      · rename_i hc
        repeat' (split at h)
        all_goals first | (cases h; exact Keeps.set _ hc.2 _) | cases h
      · cases h
    · cases h
  · cases h
theorem pure_keeps {o : Oper} (h : aPure P l o A = some (v, A')) : A' = A := by
  unfold aPure at h
  repeat' (split at h)
  all_goals first | (cases h; rfl) | cases h
theorem op_keeps {o : Oper} (h : aOp P lim l o A = some (v, A')) : Keeps lim A A' := by
  have hp : aPure P l o A = some (v, A') → Keeps lim A A' := fun h => by rw [pure_keeps h]; exact Keeps.refl _ _
  obtain ⟨dst, op, type, pos, after, guard⟩ := o
  cases op
  case move x => cases h; exact Keeps.refl _ _
  case assign x => cases h; exact Keeps.refl _ _
  case pick c x y => simp only [aOp] at h; split at h <;> first | (cases h; exact Keeps.refl _ _) | cases h
  case load t x => obtain ⟨_, _, he⟩ := map_some h; cases he; exact Keeps.refl _ _
  case store t x y => obtain ⟨_, hz, he⟩ := map_some h; cases he; exact store_keeps hz
  case alloc t => exact alloc_keeps h
  case box t x =>
    have h : (if isJunk (ev l x) = true then none else some (aBox t (ev l x) A)) = some (v, A') := h
    split at h
    · cases h
    cases h; exact Keeps.push _ _ _
  case build t ps => obtain ⟨_, _, he⟩ := map_some h; cases he; exact Keeps.refl _ _
  case buildSlice t n ps => exact buildSlice_keeps h
  case makeSlice t x c => exact makeSlice_keeps h
  case fieldAddr t x f => obtain ⟨_, _, he⟩ := map_some h; cases he; exact Keeps.refl _ _
  case indexAddr t x i => obtain ⟨_, _, he⟩ := map_some h; cases he; exact Keeps.refl _ _
  case sliceToArrayPointer t x => obtain ⟨_, _, he⟩ := map_some h; cases he; exact Keeps.refl _ _
  case slice t x lo hi mx =>
    cases mx with
    | some m => simp [aOp] at h
    | none =>
      simp only [aOp] at h
      split at h
      · exact hp h
      · obtain ⟨_, _, he⟩ := map_some h; cases he; exact Keeps.refl _ _
  case field t x f => obtain ⟨_, _, he⟩ := map_some h; cases he; exact Keeps.refl _ _
  case index t x i => obtain ⟨_, _, he⟩ := map_some h; cases he; exact Keeps.refl _ _
  case extract x i =>
    simp only [aOp] at h
    split at h
    · obtain ⟨_, _, he⟩ := map_some h; cases he; exact Keeps.refl _ _
    · cases h
  case makeFunc fn f c => simp only [aOp] at h; split at h <;> first | (cases h; exact Keeps.refl _ _) | cases h
  case makeInterface t x => simp only [aOp] at h; split at h <;> first | (cases h; exact Keeps.refl _ _) | cases h
  case nilCheck x => obtain ⟨_, _, he⟩ := map_some h; cases he; exact Keeps.refl _ _
  case range t x => exact range_keeps h
  case next x b => exact next_keeps h
  case entry x => obtain ⟨_, _, he⟩ := map_some h; cases he; exact Keeps.refl _ _
  case makeMap t r => exact makeMap_keeps h
  case lookup t x k b => obtain ⟨_, _, he⟩ := map_some h; cases he; exact Keeps.refl _ _
  case mapUpdate t m k x => obtain ⟨_, hz, he⟩ := map_some h; cases he; exact mapUpdate_keeps hz
  case insert t m k x => obtain ⟨_, hz, he⟩ := map_some h; cases he; exact mapUpdate_keeps hz
  case convert s d x =>
    simp only [aOp] at h
    split at h <;> split at h <;> first | exact hp h | exact convert_keeps h
  case binOp op t x y u =>
    cases op <;> simp only [aOp] at h <;> try exact hp h
    all_goals
      split at h
      · cases h; exact Keeps.refl _ _
      · split at h
        · cases h; exact Keeps.refl _ _
        · exact hp h
  case unOp op t x => exact hp h
  case call c =>
    obtain ⟨callee, args, ats⟩ := c
    cases callee with
    | value f => simp [aOp] at h
    | invoke r m => simp [aOp] at h
    | builtin b =>
      cases b <;> try (simp only [aOp] at h; exact hp h)
      case append => simp only [aOp] at h; split at h <;> first | exact append_keeps h | cases h
      case copy => simp only [aOp] at h; split at h <;> first | exact copy_keeps h | cases h
      case len =>
        simp only [aOp] at h
        split at h
        · obtain ⟨_, _, he⟩ := map_some h; cases he; exact Keeps.refl _ _
        · cases h
      case unsafeSliceData =>
        simp only [aOp] at h
        split at h
        · obtain ⟨_, _, he⟩ := map_some h; cases he; exact Keeps.refl _ _
        · cases h
      case unsafeString => simp only [aOp] at h; split at h <;> first | exact unsafeString_keeps h | cases h
  all_goals simp [aOp] at h
end

def CallKeeps (call : CallF) : Prop := ∀ lim f args A v A', call lim f args A = some (v, A') → Keeps lim A A'
theorem CallOK.keeps' {P : Program} {G : Nat} {call : CallF} (h : CallOK P G call) : CallKeeps call := fun lim f args A v A' hc => h.keeps lim f args A v A' hc

structure SubKeeps (c : Sub) : Prop where
  call : CallKeeps c.call
  yld : ∀ lim y args A t A', c.yld lim y args A = some (t, A') → Keeps lim A A'
theorem SubOK.keeps' {P : Program} {G : Nat} {c : Sub} (h : SubOK P G c) : SubKeeps c := ⟨h.call.keeps', fun lim y args A t A' hc => h.keeps lim y args A t A' hc⟩

theorem aOper_keeps {P : Program} {c : Sub} (hC : SubKeeps c) {lim : Nat} {l : List Value} {o : Oper} {A A' : Heap} {v : Value} (h : aOper P c lim l o A = some (v, A')) : Keeps lim A A' := by
  unfold aOper at h
  split at h
  · split at h
    · rename_i hy
      cases h
      exact hC.yld _ _ _ _ _ _ hy
    · cases h
  · split at h
    · exact hC.call _ _ _ _ _ _ h
    · exact op_keeps h
end Go.Abs
/-
The abstract machine: the marks that ranges over functions leave among the deferred calls of a frame.
-/
namespace Go.Abs
open Go

def mark (r : Nat) : Deferred := { target := .collected r, args := #[] }
/-- Marks whose blocks hold no call. -/
structure MarksOK (w : World) (ds : List Deferred) (rs : List Nat) : Prop where
  marks : ds = rs.map mark
  nodup : rs.Nodup
  empty : ∀ r ∈ rs, w.heap[r]? = some (.deferred (some []))

theorem RowOK.no_marks {P : Program} {ρ : Loc} {w : World} {L : L4} {q : ARow} (h : RowOK P ρ w L q) {r : Nat} {x : Option (List Deferred)} (hr : w.heap[r]? = some (.deferred x)) : L.blk ≠ r := by
  intro e
  subst e
  cases q with
  | cells cs e use => obtain ⟨_, _, _, hb, _⟩ := h; rw [hr] at hb; cases hb
  | iter s p => have hb := h.1; rw [hr] at hb; cases hb
  | loop => obtain ⟨_, _, _, hb, _⟩ := h; rw [hr] at hb; cases hb
  | map => obtain ⟨_, hb, _⟩ := h; rw [hr] at hb; cases hb
  | miter => obtain ⟨_, _, _, hb⟩ := h; rw [hr] at hb; cases hb
theorem MarksOK.moves {P : Program} {ρ ρ' : Loc} {A A' : Heap} {w w' : World} {ds : List Deferred} {rs : List Nat} (h : MarksOK w ds rs) (hR : Rel P ρ A w) (hM : Moves ρ A w ρ' A' w') : MarksOK w' ds rs := by
  refine ⟨h.marks, h.nodup, fun r hr => ?_⟩
  have h1 := h.empty r hr
  rw [hM.frame r (Array.getElem?_eq_some_iff.1 h1).1 ?_, h1]
  rintro ⟨i, q, L, a1, a2, a3, a4⟩
  exact (hR.row i q L a1 a2).no_marks h1 a4

/-- A block without a row, behind the first heap, may turn. -/
theorem Rel.turn {P : Program} {ρ0 ρ : Loc} {A0 A : Heap} {w0 w w' : World} (hR : Rel P ρ A w) (hM : Moves ρ0 A0 w0 ρ A w) {r : Nat} {x : Option (List Deferred)} (hr : w.heap[r]? = some (.deferred x)) (h0 : w0.heap.size ≤ r)
    (hother : ∀ b, b ≠ r → w'.heap[b]? = w.heap[b]?) (hsz : w'.heap.size = w.heap.size) (hout : w'.os = w.os ∧ w'.output = w.output) : Rel P ρ A w' ∧ Moves ρ0 A0 w0 ρ A w' :=
  ⟨⟨hR.sup, hR.has, fun i q L hi hL => (hR.row i q L hi hL).move (Ext.refl _) (hother _ ((hR.row i q L hi hL).no_marks hr)), hR.sep⟩,
   hM.pre, hM.len, hM.same, by rw [hsz]; exact hM.size, fun b hb hn => by rw [hother b (by omega), hM.frame b hb hn], hM.rows, ⟨hout.1.trans hM.out.1, hout.2.trans hM.out.2⟩, fun b hb => (hM.loops b hb).of_eq (hother b fun e => by subst e; obtain ⟨q, hq⟩ := hM.loops b hb; rw [hr] at hq; cases hq)⟩

theorem run_take {P : Program} {w : World} {r : Nat} (h : w.heap[r]? = some (.deferred (some []))) : (Instr.takeDeferred r).run P w = .ok [] { w with heap := w.heap.setIfInBounds r (.deferred none) } := by
  have hg : (getObj r).run P w = .ok (.deferred (some [])) w := by simp [getObj, Sem.run, h]
  have hs : (setObj r (.deferred none)).run P w = .ok () { w with heap := w.heap.setIfInBounds r (.deferred none) } := by simp [setObj, Sem.run, h]
  simp only [Instr.takeDeferred, Sem.run_bind, hg, Result.andThen_ok, hs, Sem.run_pure]

theorem marks_run {P : Program} {ρ0 ρ : Loc} {A0 A : Heap} {w0 : World} : ∀ (rs : List Nat) (fr : Frame) (cs : List Frame) (w : World) (ds : List Deferred), MarksOK w ds rs → (∀ r ∈ rs, w0.heap.size ≤ r) → fr.mode ≠ .run → fr.defers = ds → Rel P ρ A w → Moves ρ0 A0 w0 ρ A w →
    ∃ w', Steps P (lone fr cs w) (lone { fr with defers := [] } cs w') ∧ Rel P ρ A w' ∧ Moves ρ0 A0 w0 ρ A w'
  | [], fr, cs, w, ds, h, _, _, hd, hR, hM => by
    have := h.marks
    simp only [List.map_nil] at this
    subst this
    have : { fr with defers := [] } = fr := by cases fr; simp_all
    rw [this]
    exact ⟨w, .refl _ _, hR, hM⟩
  | r :: rs, fr, cs, w, ds, h, h0, hm, hd, hR, hM => by
    have hds := h.marks
    simp only [List.map_cons] at hds
    have hr := h.empty r (by simp)
    have hst := step_collected (P := P) (cs := cs) hm (hd.trans hds) rfl (run_take hr)
    have hnd := List.nodup_cons.1 h.nodup
    obtain ⟨hR1, hM1⟩ := hR.turn hM (w' := { w with heap := w.heap.setIfInBounds r (.deferred none) }) hr (h0 r (by simp)) (fun b hb => by simp [Array.getElem?_setIfInBounds_ne (Ne.symm hb)]) (by simp) ⟨rfl, rfl⟩
    obtain ⟨w', g1, g2, g3⟩ := marks_run rs { fr with defers := rs.map mark } cs _ (rs.map mark) ⟨rfl, hnd.2, fun r' hr' => by
      have : r ≠ r' := fun e => hnd.1 (e ▸ hr')
      simp only [Array.getElem?_setIfInBounds_ne this]
      exact h.empty r' (by simp [hr'])⟩ (fun r' hr' => h0 r' (by simp [hr'])) hm rfl hR1 hM1
    exact ⟨w', .head (by simpa using hst) g1, g2, g3⟩
end Go.Abs
/-
The abstract machine: a run of it is a run of the model. Second part: code.
-/
namespace Go.Abs
open Go

def It.real : It → Item
  | .code c => .code c
  | .inBlock id => .inBlock id
  | .inLoop b => .inLoop b
  | .inScope b => .inScope b
  | .ops all i => .inRegion all (List.range' i (all.size - i))

def okIt (G nt : Nat) : It → Bool
  | .code c => okCode G nt c
  | .inLoop b => okCode G nt b
  | .inScope b => okCode G nt b
  | .inBlock _ => true
  | .ops all _ => all.toList.all (okOper G nt)

theorem exit_real (id : Nat) (kk : List Item) : ∀ k : List It, exitTo id (k.map It.real ++ kk) = (match aExit id k with | some k' => some (k'.map It.real ++ kk) | none => exitTo id kk)
  | [] => rfl
  | x :: k => by
    cases x <;> simp only [List.map_cons, List.cons_append, It.real, exitTo, aExit]
    case inBlock id' => split <;> simp [exit_real id kk k]
    all_goals exact exit_real id kk k
theorem goto_real (g : Nat) (kk : List Item) : ∀ k : List It, gotoIn g (k.map It.real ++ kk) = (match aGoto g k with | some k' => some (k'.map It.real ++ kk) | none => gotoIn g kk)
  | [] => rfl
  | x :: k => by
    cases x <;> simp only [List.map_cons, List.cons_append, It.real, gotoIn, aGoto]
    case inScope b => split <;> simp_all [goto_real g kk k, It.real]
    all_goals exact goto_real g kk k
theorem exit_ok {G nt id : Nat} : ∀ {k k' : List It}, aExit id k = some k' → k.all (okIt G nt) = true → k'.all (okIt G nt) = true
  | [], k', h, _ => by cases h
  | x :: k, k', h, hk => by
    simp only [List.all_cons, Bool.and_eq_true] at hk
    cases x <;> simp only [aExit] at h
    case inBlock id' =>
      split at h
      · cases h; exact hk.2
      · exact exit_ok h hk.2
    all_goals exact exit_ok h hk.2
theorem label_ok {G nt l : Nat} : ∀ {c r : Code}, findLabel c l = some r → okCode G nt c = true → okCode G nt r = true := by
  intro c
  induction c with
  | seq a b iha ihb =>
    intro r h hk
    simp only [okCode, Bool.and_eq_true] at hk
    simp only [findLabel] at h
    split at h
    · rename_i r' hr
      cases h
      simp only [okCode, Bool.and_eq_true]
      exact ⟨iha hr hk.1, hk.2⟩
    · exact ihb h hk.2
  | label l' => intro r h _; simp only [findLabel] at h; split at h <;> first | (cases h; rfl) | cases h
  | _ => intro r h; simp [findLabel] at h
theorem goto_ok {G nt g : Nat} : ∀ {k k' : List It}, aGoto g k = some k' → k.all (okIt G nt) = true → k'.all (okIt G nt) = true
  | [], k', h, _ => by cases h
  | x :: k, k', h, hk => by
    simp only [List.all_cons, Bool.and_eq_true] at hk
    cases x <;> simp only [aGoto] at h
    case inScope b =>
      split at h
      · rename_i r hr
        cases h
        simp only [List.all_cons, Bool.and_eq_true]
        exact ⟨label_ok hr hk.1, hk.1, hk.2⟩
      · exact goto_ok h hk.2
    all_goals exact goto_ok h hk.2

section steps
variable {P : Program} {b : Frame} {a : Act} {k : List Item} {cs : List Frame} {w w' : World} {ops : Array Oper} {i : Nat} {rest : List Nat} {o : Oper} {v : Value}

theorem stepR_scope {c : Code} : step P (lone (b.atR a (.code (.scope c) :: k)) cs w) = .next (lone (b.atR a (.code c :: .inScope c :: k)) cs w) :=
  step_lone_go (by simp [stepG, stepG.exec, Frame.atR])
theorem stepR_inScope {c : Code} : step P (lone (b.atR a (.inScope c :: k)) cs w) = .next (lone (b.atR a k) cs w) :=
  step_lone_go (by simp [stepG, stepG.exec, Frame.atR])
theorem finish_eq (ho : ops[i]? = some o) (v : Value) : (b.atR a (.inRegion ops (i :: rest) :: k)).finish v = b.atR (a.put o.dst v) (.inRegion ops rest :: k) := by
  rw [Frame.finish_atR, ho]; rfl

/-- One operation of a region, whatever it is. -/
theorem oper_steps {K : Act → World → Prop} {Q : Exit → Act → World → Prop} (hQ : ∀ e a w, Q e a w → e = .normal) (hnd : isDefer o.op = false) (ho : ops[i]? = some o) (hw : Region.wanted o (yielded ops a.tmps) = true) (h : o.wp P a w K Q) :
    ∃ a' w', K a' w' ∧ Steps P (lone (b.atR a (.inRegion ops (i :: rest) :: k)) cs w) (lone (b.atR a' (.inRegion ops rest :: k)) cs w') := by
  have hg := stepGR_op (P := P) (b := b) (k := k) (cs := cs) (w := w) (rest := rest) ho hw
  rw [Oper.semAt_eq _ _ _ (fun c hc => by rw [hc] at hnd; cases hnd)] at hg
  unfold Oper.wp Oper.upon at h
  split at h
  · rename_i v w' hr
    refine ⟨_, w', h, .one (step_lone_go ?_)⟩
    rw [hg, ← finish_eq ho]; simp [stepG.apply, hr]
  · rename_i w' hr
    refine ⟨_, w', h, .one (step_lone_go ?_)⟩
    rw [hg, ← finish_eq ho]; simp [stepG.apply, hr]
  · rename_i d w' hr
    refine ⟨_, w', h, .one (step_lone_go ?_)⟩
    have : ({ b.atR a (.inRegion ops (i :: rest) :: k) with defers := d :: a.defers } : Frame).finish undef =
        b.atR ({ a with defers := d :: a.defers }.put o.dst undef) (.inRegion ops rest :: k) := by
      have := Frame.finish_atR b { a with defers := d :: a.defers } ops i rest k undef
      rw [ho] at this; exact this
    rw [hg]; simp only [stepG.apply, Sem.runT_eq, hr, GStep.bare_after]
    exact congrArg (fun fr => GStep.go { frame := fr, callers := cs, status := .running, dying := none } w') this
  · rename_i f args w' hr
    obtain ⟨e, w'', fr, hR, hsteps, _, hleave⟩ := h (b.atR a (.inRegion ops (i :: rest) :: k) :: cs)
    have henter : step P (lone (b.atR a (.inRegion ops (i :: rest) :: k)) cs w) =
        .next (lone (Frame.enter P f args .normal) (b.atR a (.inRegion ops (i :: rest) :: k) :: cs) w') :=
      step_lone_go (by rw [hg]; simp [stepG.apply, hr, Frame.atR])
    cases e with
    | returned v =>
      refine ⟨_, w'', hR, .head henter (Steps.trans hsteps (.one ?_))⟩
      rw [← finish_eq ho]; exact step_leave_returned hleave
    | panicked chain => exact absurd (hQ _ _ _ hR) (by simp)
    | outgrown => obtain ⟨_, _, hR⟩ := hR; exact absurd (hQ _ _ _ hR) (by simp)
  · rename_i row args w' hr
    obtain ⟨v, w'', hR, hsteps⟩ := h (b.atR a (.inRegion ops (i :: rest) :: k)) cs
    have henter : step P (lone (b.atR a (.inRegion ops (i :: rest) :: k)) cs w) =
        .next (lone (Frame.ofRow P row args .normal) (b.atR a (.inRegion ops (i :: rest) :: k) :: cs) w') :=
      step_lone_go (by rw [hg]; simp [stepG.apply, hr, Frame.atR])
    refine ⟨_, w'', hR, .head henter ?_⟩
    rw [← finish_eq ho]; exact hsteps
  · exact absurd (hQ _ _ _ h) (by simp)
  · exact h.elim

end steps

theorem tget_eq (l : List Value) (t : Nat) : tget l t = (l[t]?).getD undef := by
  induction l generalizing t with
  | nil => simp []
  | cons v l ih => cases t <;> simp [ih]

theorem tget_pad (n : Nat) (l : List Value) (t : Nat) : tget (padTo n l) t = tget l t := by
  rw [tget_eq, tget_eq, padTo, List.getElem?_append]
  split
  · rfl
  · rename_i h
    rw [List.getElem?_replicate, List.getElem?_eq_none (by omega)]
    split <;> rfl

/-- How a frame is left. -/
def Left (kk : List Item) : Option Code → List Item → Prop
  | none, td => td = kk
  | some .ret, td => ∃ k, td = .code .ret :: k
  | some (.exit id), td => ∃ k, td = .code (.exit id) :: k ∧ exitTo id k = none
  | some (.goto g), td => ∃ k, td = .code (.goto g) :: k ∧ gotoIn g k = none
  | _, _ => False

/-- What a run of the machine says of the model. -/
def RunSays (P : Program) (G : Nat) (run : RunF) : Prop :=
  ∀ todo l A l' A' j, run todo l A = some (l', A', j) → ∀ (nt : Nat), todo.all (okIt G nt) = true → ∀ (ρ : Loc) (a : Act) (w : World) (b : Frame) (cs : List Frame) (rs : List Nat) (kk : List Item), (j ≠ none → kk = []) → (∀ r, b.roundOf = some r → IsLoop w r) →
    StR ρ nt l a → Globs ρ G → Rel P ρ A w → MarksOK w a.defers rs →
    ∃ ρ' a' w' td, Steps P (lone (b.atR a (todo.map It.real ++ kk)) cs w) (lone (b.atR a' td) cs w') ∧ Left kk j td ∧ StR ρ' nt l' a' ∧ Rel P ρ' A' w' ∧ Moves ρ A w ρ' A' w' ∧ ∃ rs', MarksOK w' a'.defers rs' ∧ ∀ r ∈ rs', r ∈ rs ∨ w.heap.size ≤ r
def RunKeeps (lim : Nat) (run : RunF) : Prop := ∀ todo l A l' A' j, run todo l A = some (l', A', j) → Keeps lim A A'

structure ProgOK (P : Program) (G : Nat) : Prop where
  code : ∀ (f : FuncId) (fn : Func) (c : Code), P.funcs[f]? = some fn → fn.body = some c → okCode G fn.ntmps c = true
  mixed : P.follows .mixedOrders = true
  name : ∀ (f : FuncId) (fn : Func), P.funcs[f]? = some fn → (fn.name == "runtime.NumGoroutine") = false
  glob : G = P.globals.size

structure EnvOK (P : Program) (G : Nat) (E : Env) : Prop where
  says : ∀ lim f args A v A', E.known lim f args A = some (v, A') → ∀ ρ w args', VRs ρ args args' → Globs ρ G → Rel P ρ A w → CallSays P ρ A w f args' v A'
  keeps : ∀ lim f args A v A', E.known lim f args A = some (v, A') → Keeps lim A A'

theorem callBy_ok {P : Program} {G : Nat} {E : Env} {run : Nat → RunF} (hP : ProgOK P G) (hE : EnvOK P G E) (hs : ∀ lim, RunSays P G (run lim)) (hk : ∀ lim, RunKeeps lim (run lim)) : CallOK P G (aCallBy P E run) := by
  have enter : ∀ {f : FuncId} {fn : Func} {c : Code}, P.funcs[f]? = some fn → fn.body = some c → ∀ (args' : List Value) (w : World), (callFunc f args'.toArray).run P w = .ok (.enter f args'.toArray) w := by
    intro f fn c hf hb args' w
    have hne : ¬ fn.name = "runtime.NumGoroutine" := by simpa using hP.name f fn hf
    simp [callFunc, hf, hne, hb]
  have go : ∀ {f : FuncId} {fn : Func} {c : Code}, P.funcs[f]? = some fn → fn.body = some c → ∀ {lim : Nat} {args l' : List Value} {A A' : Heap} {v : Value} {j : Option Code}, ¬ fn.ntmps < args.length → run lim [.code c] (padTo fn.ntmps args) A = some (l', A', j) → retB j = true → aResults P fn l' A' = some v →
      ∀ (ρ : Loc) (w : World) (args' : List Value), VRs ρ args args' → Globs ρ G → Rel P ρ A w → Calls P f args'.toArray w fun e w' => ∃ v' ρ', e = .returned v' ∧ VR ρ' v v' ∧ Rel P ρ' A' w' ∧ Moves ρ A w ρ' A' w' := by
    intro f fn c hf hb lim args l' A A' v j hnt hrun hj hres ρ w args' hargs hG hR cs
    let b : Frame := { (default : Frame) with fn := f, kind := .normal }
    have hal := hargs.1
    have henter : Frame.enter P f args'.toArray .normal = b.at { tmps := args'.toArray ++ Array.replicate (fn.ntmps - args'.toArray.size) undef, defers := [] } [.code c] := by
      simp [Frame.enter, Frame.at, hf, hb, b]
    have hS : StR ρ fn.ntmps (padTo fn.ntmps args) { tmps := args'.toArray ++ Array.replicate (fn.ntmps - args'.toArray.size) undef, defers := [] } := by
      refine ⟨by simp; omega, fun t => ?_⟩
      rw [tget_pad, tget_eq]
      by_cases ht : t < args.length
      · have ht' : t < args'.length := by omega
        have := hargs.2 t args[t] args'[t] (List.getElem?_eq_getElem ht) (List.getElem?_eq_getElem ht')
        simpa [Array.getD_eq_getD_getElem?, Array.getElem?_append_left, ht, ht', List.getElem?_eq_getElem] using this
      · have ht' : ¬ t < args'.length := by omega
        have h1 : args[t]? = none := List.getElem?_eq_none (by omega)
        rw [h1]
        have h2 : ((args'.toArray ++ Array.replicate (fn.ntmps - args'.toArray.size) undef).getD t undef) = undef := by
          rw [Array.getD_eq_getD_getElem?, Array.getElem?_append_right (by simp; omega)]
          rw [Array.getElem?_replicate]
          split <;> rfl
        simp only [Option.getD_none]
        rw [h2]
        exact VR.undef ρ
    obtain ⟨ρ', a', w', td, hsteps0, hleft, hS', hR1, hM1, rs', hmk, hrs⟩ := hs lim [.code c] (padTo fn.ntmps args) A l' A' j hrun fn.ntmps (by simp [okIt, hP.code f fn c hf hb]) ρ _ w b cs [] [] (fun _ => rfl) (fun r hr => by cases hr) hS hG hR ⟨rfl, List.nodup_nil, fun r hr => by cases hr⟩
    have hb0 : b.roundOf = none := rfl
    have hsteps : Steps P _ (lone { b.at a' td with mode := .returning } cs w') := hsteps0.trans (.one (by
      rw [← Frame.atR_of_none hb0]
      cases j with
      | none => simp only [Left] at hleft; subst hleft; exact stepR_end hb0
      | some c' =>
        cases c' with
        | ret => obtain ⟨k', rfl⟩ := hleft; exact stepR_ret hb0
        | _ => simp [retB] at hj))
    rw [Frame.atR_of_none hb0] at hsteps
    obtain ⟨w2, hsteps2, hR', hM⟩ := marks_run rs' { b.at a' td with mode := .returning } cs w' a'.defers hmk (fun r hr => by
      rcases hrs r hr with h | h
      · cases h
      · exact h) (by simp) rfl hR1 hM1
    obtain ⟨v', hv', hvr⟩ := results_run hS' hR' hres
    refine ⟨.returned v', w2, { { b.at a' td with mode := .returning } with defers := [] }, ⟨v', ρ', rfl, hvr, hR', hM⟩, ?_, rfl, rfl, rfl, rfl, fn, hf, hv'⟩
    rw [henter]
    exact hsteps.trans hsteps2
  refine ⟨?_, ?_⟩
  · intro lim f args A v A' h ρ w args' hargs hG hR
    unfold aCallBy at h
    split at h
    · rename_i r hkn
      cases h
      exact hE.says lim f args A v A' hkn ρ w args' hargs hG hR
    · split at h
      · cases h
      · rename_i fn hf
        split at h
        · split at h
          · rename_i hall
            split at h
            · rename_i u hp
              split at h
              · rename_i hfree
                cases h
                have hargs2 : args' = args := by
                  have : ∀ (l l' : List Value), VRs ρ l l' → l.all freeB = true → l' = l := by
                    intro l
                    induction l with
                    | nil => intro l' h _; cases l' with
                      | nil => rfl
                      | cons x y => exact absurd h.1 (by simp)
                    | cons x l ih =>
                      intro l' h ha
                      obtain ⟨y, l2, rfl, h1, h2⟩ := h.uncons
                      simp only [List.all_cons, Bool.and_eq_true] at ha
                      rw [h1.free_eq ha.1, ih l2 h2 ha.2]
                  exact this args args' hargs hall
                rw [hargs2]
                exact .inl ⟨v, w, ρ, pureVal_run _ _ hp w, VR.refl ρ hfree, hR, Moves.refl _ _ _⟩
              · cases h
            · cases h
          · cases h
        · rename_i c hb
          split at h
          · cases h
          · rename_i hnt
            split at h
            · split at h
              · rename_i l' A1 j hrun
                split at h
                · rename_i hj
                  split at h
                  · rename_i u hres
                    cases h
                    exact .inr ⟨enter hf hb args' w, go hf hb hnt hrun hj hres ρ w args' hargs hG hR⟩
                  · cases h
                · cases h
              · cases h
            · split at h
              · rename_i l' A1 j hrun
                split at h
                · rename_i hj
                  split at h
                  · rename_i u hres
                    simp only [Option.some.injEq] at h
                    refine .inr ⟨enter hf hb args' w, (go hf hb hnt hrun hj hres ρ w args' hargs hG hR).mono ?_⟩
                    rintro e w' ⟨v', ρ2, rfl, hv, hR2, hM⟩
                    have hkeep := hk A.length [.code c] (padTo fn.ntmps args) A l' A1 j hrun
                    obtain ⟨ρ', h1, h2, h3⟩ := gc_sound hR hR2 hM hkeep.1 (fun i hi => hkeep.2 i hi hi) hv h
                    exact ⟨v', ρ', rfl, h1, h2, h3⟩
                  · cases h
                · cases h
              · cases h
  · intro lim f args A v A' h
    unfold aCallBy at h
    split at h
    · rename_i r hkn
      cases h
      exact hE.keeps lim f args A v A' hkn
    · split at h
      · cases h
      · split at h
        · repeat' (split at h)
          all_goals first | (cases h; exact Keeps.refl _ _) | cases h
        · rename_i c hb
          split at h
          · cases h
          · split at h
            · split at h
              · rename_i l' A1 j hrun
                split at h
                · split at h
                  · cases h; exact hk lim _ _ _ _ _ _ hrun
                  · cases h
                · cases h
              · cases h
            · split at h
              · rename_i l' A1 j hrun
                split at h
                · split at h
                  · rename_i u hres
                    simp only [Option.some.injEq] at h
                    have hkeep := hk A.length [.code c] _ A l' A1 j hrun
                    rcases aGC_cases h with ⟨R, _, _, _, rfl⟩ | ⟨_, rfl⟩
                    · exact ⟨by simp, fun i _ hi => by rw [hget_append, if_pos hi]⟩
                    · exact ⟨hkeep.1, fun i _ hi => hkeep.2 i hi hi⟩
                  · cases h
                · cases h
              · cases h
end Go.Abs
/-
The abstract machine: rounds of ranges over functions, and the ranges.
-/
namespace Go.Abs
open Go

theorem putAll_ok {ρ : Loc} : ∀ (ps : List Tmp) (args args' l : List Value) (a : Array Value), VRs ρ args args' → (∀ t, VR ρ (tget l t) (a.getD t undef)) → (∀ p ∈ ps, p < a.size) →
    ((ps.zip args').foldl (fun tm (p : Tmp × Value) => tm.setIfInBounds p.1 p.2) a).size = a.size ∧ ∀ t, VR ρ (tget (putAll l (ps.zip args)) t) (((ps.zip args').foldl (fun tm (p : Tmp × Value) => tm.setIfInBounds p.1 p.2) a).getD t undef)
  | [], args, args', l, a, _, h, _ => ⟨rfl, h⟩
  | p :: ps, args, args', l, a, hv, h, hp => by
    cases args with
    | nil =>
      cases args' with
      | nil => exact ⟨rfl, h⟩
      | cons x y => exact absurd hv.1 (by simp)
    | cons v args =>
      obtain ⟨v', l', rfl, h1, h2⟩ := hv.uncons
      have hlt : p < a.size := hp p (by simp)
      have h3 : ∀ t, VR ρ (tget (tset l p v) t) ((a.setIfInBounds p v').getD t undef) := by
        intro t
        rw [tget_tset]
        by_cases ht : t = p
        · subst ht; simpa [Array.getD_eq_getD_getElem?, hlt] using h1
        · have := h t
          simp only [if_neg ht, Array.getD_eq_getD_getElem?, Array.getElem?_setIfInBounds_ne (Ne.symm ht)] at this ⊢
          exact this
      obtain ⟨g1, g2⟩ := putAll_ok ps args l' (tset l p v) (a.setIfInBounds p v') h2 h3 (fun q hq => by simpa using hp q (by simp [hq]))
      simp only [List.zip_cons_cons, List.foldl_cons, putAll] at g1 g2 ⊢
      exact ⟨by rw [g1]; simp, g2⟩

theorem run_getLoop {P : Program} {w : World} {r : Nat} {o : Loop} (h : w.heap[r]? = some (.loop o)) : (Instr.getLoop r).run P w = .ok o w := by
  have : (getObj r).run P w = .ok (.loop o) w := by simp [getObj, Sem.run, h]
  simp only [Instr.getLoop, Sem.run_bind, this, Result.andThen_ok, Sem.run_pure]
theorem run_setLoop {P : Program} {w : World} {r : Nat} {o : Obj} {o' : Loop} (h : w.heap[r]? = some (.loop o')) : (setObj r o).run P w = .ok () { w with heap := w.heap.setIfInBounds r o } := by
  simp [setObj, Sem.run, h]

theorem loop_lt {w : World} {b : Nat} {o : Obj} (h : w.heap[b]? = some o) : b < w.heap.size := (Array.getElem?_eq_some_iff.1 h).1

/-- A loop's row turns. -/
theorem Rel.setLoop {P : Program} {ρ : Loc} {A : Heap} {w : World} (h : Rel P ρ A w) {i : Nat} {tm : List Value} {ps : Array Tmp} {as bo : Code} {st st2 : LoopState} {pe pe2 : Option Code} {L : L4} (hi : hget A i = some (.loop tm ps as bo st pe)) (hL : ρ i = some L) :
    ∃ r : Loop, w.heap[L.blk]? = some (.loop r) ∧ r.state = st ∧ r.pending = pe ∧
      Rel P ρ (hset A i (some (.loop tm ps as bo st2 pe2))) { w with heap := w.heap.setIfInBounds L.blk (.loop { r with state := st2, pending := pe2 }) } ∧
      Moves ρ A w ρ (hset A i (some (.loop tm ps as bo st2 pe2))) { w with heap := w.heap.setIfInBounds L.blk (.loop { r with state := st2, pending := pe2 }) } := by
  obtain ⟨tm', fn, df, hw, h1, h2, h3, h4⟩ := h.row' hL hi
  have hlt := loop_lt hw
  refine ⟨_, hw, rfl, rfl, h.setOwn hi rfl rfl hL ⟨tm', fn, df, by simp [hlt], h1, h2, h3, h4⟩ (fun b hb => by simp [Array.getElem?_setIfInBounds_ne (Ne.symm hb)]) (by simp) ⟨rfl, rfl⟩ (fun _ => rfl)⟩

section
variable {P : Program} {G : Nat} {lim : Nat} {ih : RunF}

theorem yield_says (hP : ProgOK P G) (hi : RunSays P G ih) {y : Nat} {args args' : List Value} {A A' : Heap} {t : Bool} (h : aYield lim ih y args A = some (t, A')) {ρ : Loc} {w : World} (hargs : VRs ρ args args') (hG : Globs ρ G) (hR : Rel P ρ A w) : YieldSays P ρ A w y args' t A' := by
  unfold aYield at h
  split at h
  · rename_i tm ps assign body pe hy
    split at h
    · rename_i hc
      obtain ⟨hlim, hlen⟩ := hc
      split at h
      · rename_i l1 A1 hrun1
        split at h
        · rename_i tm1 ps1 as1 bo1 pe1 hy1
          split at h
          · rename_i l2 A2 j hrun2
            split at h
            · rename_i tm2 ps2 as2 bo2 st2 pe2 hy2
              cases h
              obtain ⟨L, hL, tm', fn, df, hw, htm, hps, hca, hcb⟩ := hR.found hy
              have hgl := run_getLoop (P := P) hw
              have hsz : args'.toArray.size = ps.size := by simp [← hargs.1, hlen]
              have hfold : ((ps.zip args'.toArray).foldl (fun tmps (p : Tmp × Value) => tmps.setIfInBounds p.1 p.2) tm') = ((ps.toList.zip args').foldl (fun tm (p : Tmp × Value) => tm.setIfInBounds p.1 p.2) tm') := by
                rw [← Array.foldl_toList]; simp
              obtain ⟨g1, g2⟩ := putAll_ok ps.toList args args' tm tm' hargs htm (fun p hp => by simpa using List.all_eq_true.1 hps p hp)
              rw [← hfold] at g1 g2
              generalize htt : ((ps.zip args'.toArray).foldl (fun tmps (p : Tmp × Value) => tmps.setIfInBounds p.1 p.2) tm') = tt at g1 g2
              refine ⟨L, fn, tt, assign, body, hL, ?_, fun c cs => ?_⟩
              · simp only [Instr.yield, Sem.run_bind, hgl, Result.andThen_ok]
                simp [hsz, ← htt]
              · let b : Frame := { (default : Frame) with fn := fn, kind := .normal, roundOf := some L.blk }
                have hfr : Frame.round L.blk fn tt assign body .normal = b.atR { tmps := tt, defers := [] } [.code assign, .beginRound, .code body] := by
                  simp [Frame.round, Frame.atR, b]
                have hS : StR ρ tm'.size (putAll tm (ps.toList.zip args)) { tmps := tt, defers := [] } := ⟨g1, g2⟩
                have hisl : IsLoop w L.blk := ⟨_, hw⟩
                obtain ⟨ρ1, a1, w1, td1, s1, hl1, hS1, hR1, hM1, rs1, hmk1, _⟩ := hi [.code assign] _ A l1 A1 none hrun1 tm'.size (by simpa [okIt, hP.glob] using hca) ρ { tmps := tt, defers := [] } w b (c :: cs) [] [.beginRound, .code body] (fun h => absurd rfl h) (fun r hr => by cases hr; exact hisl) hS hG hR ⟨rfl, List.nodup_nil, fun r hr => by cases hr⟩
                simp only [Left] at hl1
                subst hl1
                have hL1 := hM1.pre y L hL
                obtain ⟨r1, hw1, hst1, hpe1, hR1b, hM1b⟩ := hR1.setLoop (st2 := .busy) (pe2 := pe1) hy1 hL1
                have hbegin : (Instr.beginRound L.blk).run P w1 = .ok () { w1 with heap := w1.heap.setIfInBounds L.blk (.loop { r1 with state := .busy, pending := pe1 }) } := by
                  have : ({ r1 with state := .busy, pending := pe1 } : Loop) = { r1 with state := .busy } := by rw [← hpe1]
                  rw [this]
                  simp only [Instr.beginRound, Sem.run_bind, run_getLoop hw1, Result.andThen_ok, run_setLoop (o := .loop { r1 with state := .busy }) hw1, hst1, Sem.run_pure]
                have s2 := stepR_beginRound (P := P) (b := b) (a := a1) (k := [.code body]) (cs := c :: cs) (l := L.blk) rfl hbegin
                have hisl1 := hM1b.loops _ (hM1.loops _ hisl)
                obtain ⟨ρ2, a2, w2, td2, s3, hl2, hS2, hR2, hM2, rs2, hmk2, _⟩ := hi [.code body] l1 _ l2 A2 j hrun2 tm'.size (by simpa [okIt, hP.glob] using hcb) ρ1 a1 _ b (c :: cs) rs1 [] (fun _ => rfl) (fun r hr => by cases hr; exact hisl1) hS1 (hG.mono hM1.pre) hR1b (hmk1.moves hR1 hM1b)
                have hL2 := hM2.pre y L hL1
                obtain ⟨r2, hw2, hst2, hpe2, hR2b, hM2b⟩ := hR2.setLoop (st2 := if j.isNone then .ready else .done) (pe2 := j) hy2 hL2
                have hend : (Instr.endRound L.blk j).run P w2 = .ok (.bool j.isNone) { w2 with heap := w2.heap.setIfInBounds L.blk (.loop { r2 with state := if j.isNone then .ready else .done, pending := j }) } := by
                  simp only [Instr.endRound, Sem.run_bind, run_getLoop hw2, Result.andThen_ok, run_setLoop (o := .loop { r2 with state := if j.isNone then .ready else .done, pending := j }) hw2, Sem.run_pure]
                have s4 : step P (lone (b.atR a2 td2) (c :: cs) w2) = .next (lone (c.finish (.bool j.isNone)) cs { w2 with heap := w2.heap.setIfInBounds L.blk (.loop { r2 with state := if j.isNone then .ready else .done, pending := j }) }) := by
                  cases j with
                  | none => simp only [Left] at hl2; subst hl2; exact stepR_round_end rfl rfl hend
                  | some c' =>
                    cases c' <;> simp only [Left] at hl2
                    case ret => obtain ⟨k', rfl⟩ := hl2; exact stepR_round_ret rfl rfl hend
                    case exit id => obtain ⟨k', rfl, hk'⟩ := hl2; exact stepR_round_exit rfl rfl hk' hend
                    case goto g => obtain ⟨k', rfl, hk'⟩ := hl2; exact stepR_round_goto rfl rfl hk' hend
                refine ⟨ρ2, _, ?_, hR2b, ((hM1.trans hM1b).trans hM2).trans hM2b⟩
                rw [hfr]
                exact s1.trans (.head s2 (s3.trans (.one s4)))
            · cases h
          · cases h
        · cases h
      · cases h
    · cases h
  · cases h

theorem yield_keeps (hi : RunKeeps lim ih) {y : Nat} {args : List Value} {A A' : Heap} {t : Bool} (h : aYield lim ih y args A = some (t, A')) : Keeps lim A A' := by
  unfold aYield at h
  split at h
  · split at h
    · rename_i hc
      split at h
      · rename_i l1 A1 hrun1
        split at h
        · split at h
          · rename_i l2 A2 j hrun2
            split at h
            · cases h
              exact ((hi _ _ _ _ _ _ hrun1).trans ((Keeps.set _ hc.1 _).trans (hi _ _ _ _ _ _ hrun2))).trans (Keeps.set _ hc.1 _)
            · cases h
          · cases h
        · cases h
      · cases h
    · cases h
  · cases h

/-- A block without a row. -/
theorem Rel.allocNone {P : Program} {ρ : Loc} {A : Heap} {w : World} (h : Rel P ρ A w) (o : Obj) : Rel P ρ A (w.alloc o) ∧ Moves ρ A w ρ A (w.alloc o) := by
  have old : ∀ b, b < w.heap.size → (w.alloc o).heap[b]? = w.heap[b]? := fun b hb => old_alloc w o b hb
  exact ⟨⟨h.sup, h.has, fun i r L hi hL => (h.row i r L hi hL).move (Ext.refl _) (old _ (h.row i r L hi hL).lt), h.sep⟩,
    Ext.refl _, Nat.le_refl _, fun _ _ => rfl, by simp, fun b hb _ => old b hb, fun i r _ hi _ => .inl ⟨hget_lt hi, r, hi, id⟩, ⟨rfl, rfl⟩, fun b hb => hb.of_eq (old b (let ⟨_, hr⟩ := hb; loop_lt hr))⟩

/-- The world behind the entry of a range over a function. -/
theorem enterLoop_says {ρ : Loc} {A : Heap} {w : World} (hR : Rel P ρ A w) {nt : Nat} {l : List Value} {a : Act} (hS : StR ρ nt l a) {rs : List Nat} (hmk : MarksOK w a.defers rs) {fn : FuncId} {ps : Array Tmp} {assign body : Code} {ro : Option Nat} (hro : ∀ r, ro = some r → IsLoop w r)
    (hps : ps.toList.all (fun t => decide (t < nt)) = true) (hca : okCode P.globals.size nt assign = true) (hcb : okCode P.globals.size nt body = true) :
    ∃ w1 L ρ1 ms, (Instr.enterLoop fn a.tmps ps assign body ro).run P w = .ok (L.blk, ms) w1 ∧ Rel P ρ1 (A ++ [some (.loop l ps assign body .ready none)]) w1 ∧ Moves ρ A w ρ1 (A ++ [some (.loop l ps assign body .ready none)]) w1 ∧ ρ1 A.length = some L ∧
      ∃ rs1, MarksOK w1 (ms ++ a.defers) rs1 ∧ ∀ r ∈ rs1, r ∈ rs ∨ w.heap.size ≤ r := by
  have row : ∀ (w0 : World) (df : Nat), Rel P ρ A w0 → ∃ ρ1, Rel P ρ1 (A ++ [some (.loop l ps assign body .ready none)]) (w0.alloc (.loop { state := .ready, pending := none, fn, tmps := a.tmps, params := ps, assign, body, defers := df })) ∧
      Moves ρ A w0 ρ1 (A ++ [some (.loop l ps assign body .ready none)]) (w0.alloc (.loop { state := .ready, pending := none, fn, tmps := a.tmps, params := ps, assign, body, defers := df })) ∧ ρ1 A.length = some ⟨w0.heap.size, 0, 0, 0⟩ := by
    intro w0 df hR0
    obtain ⟨h1, h2⟩ := hR0.alloc (o := .loop { state := .ready, pending := none, fn, tmps := a.tmps, params := ps, assign, body, defers := df }) (r := .loop l ps assign body .ready none) (esz := 0) (fin := 0)
      ⟨a.tmps, fn, df, heap_alloc_new w0 _, fun t => (hS.tmps t).mono (Ext.put (hR0.sup _ (Nat.le_refl _)) _), by rw [hS.size]; exact hps, by rw [hS.size]; exact hca, by rw [hS.size]; exact hcb⟩
    exact ⟨_, h1, h2, Loc.put_self _ _ _⟩
  have new : ∀ (w0 : World) (o : Obj), (newObj o).run P w0 = .ok w0.heap.size (w0.alloc o) := fun w0 o => rfl
  cases ro with
  | none =>
    obtain ⟨hRa, hMa⟩ := hR.allocNone (.deferred (some []))
    obtain ⟨ρ1, hRb, hMb, hL⟩ := row _ w.heap.size hRa
    refine ⟨_, ⟨(w.alloc (.deferred (some []))).heap.size, 0, 0, 0⟩, ρ1, [mark w.heap.size], ?_, hRb, hMa.trans hMb, hL, w.heap.size :: rs, ?_, ?_⟩
    · simp only [Instr.enterLoop, Sem.run_bind, new, Result.andThen_ok, Sem.run_pure]
      rfl
    · have hm2 := (hmk.moves hR hMa).moves hRa hMb
      refine ⟨?_, List.nodup_cons.2 ⟨fun hmem => ?_, hmk.nodup⟩, fun r hr => ?_⟩
      · simp [← hmk.marks]
      · have := loop_lt (hmk.empty _ hmem); omega
      · rcases List.mem_cons.1 hr with rfl | hr
        · rw [old_alloc _ _ _ (by simp)]
          exact heap_alloc_new w _
        · exact hm2.empty r hr
    · intro r hr
      rcases List.mem_cons.1 hr with rfl | hr
      · exact .inr (Nat.le_refl _)
      · exact .inl hr
  | some r0 =>
    obtain ⟨q, hq⟩ := hro r0 rfl
    obtain ⟨ρ1, hRb, hMb, hL⟩ := row w q.defers hR
    refine ⟨_, ⟨w.heap.size, 0, 0, 0⟩, ρ1, [], ?_, hRb, hMb, hL, rs, by simpa using hmk.moves hR hMb, fun r hr => .inl hr⟩
    simp only [Instr.enterLoop, Sem.run_bind, run_getLoop hq, new, Result.andThen_ok, Sem.run_pure]

theorem stepR_rangeFunc_value {b : Frame} {a : Act} {k : List Item} {cs : List Frame} {w : World} {g : Operand} {ps : Array Tmp} {assign body : Code} {l : Nat} {mark : List Deferred} {w₁ w₁' w₂ : World} {d : Deferred} {v : Value}
    (he : (Instr.enterLoop b.fn a.tmps ps assign body b.roundOf).run P w = .ok (l, mark) w₁)
    (hres : (resolve a.eval (rangeCall g l) 0).run P w₁ = .ok d w₁') (hinv : (invoke d.target d.args).run P w₁' = .ok (.value v) w₂) :
    step P (lone (b.atR a (.code (.rangeFunc g ps assign body) :: k)) cs w) =
      .next (lone (b.atR { a with defers := mark ++ a.defers } (.endRangeFunc l :: k)) cs w₂) :=
  step_lone_go (by
    have hev := Frame.eval_atR b { a with defers := mark ++ a.defers } (.inRangeFunc l :: k)
    simp only [Frame.atR] at hev
    have hres' : Sem.run P (resolve ({ tmps := a.tmps, defers := mark ++ a.defers } : Act).eval { callee := .value g, args := #[.const (.func (.yield l) #[] #[])], argTypes := #[] } 0) w₁ = .ok d w₁' := hres
    simp [stepG, stepG.exec, Frame.atR, Sem.runT_eq, he, GStep.bare_after, stepG.apply, hev, Sem.run_bind, hres', hinv, Result.andThen, Frame.finish])

theorem rangeFunc_says {call : CallF} (hP : ProgOK P G) (hC : CallOK P G call) {l : List Value} {g : Operand} {ps : Array Tmp} {assign body : Code} {A A' : Heap} {pe : Option Code} (h : aRangeFunc call lim l g ps assign body A = some (pe, A'))
    {nt : Nat} (hok : okCode G nt (.rangeFunc g ps assign body) = true) {ρ : Loc} {a : Act} {w : World} {b : Frame} {k : List Item} {cs : List Frame} {rs : List Nat} (hro : ∀ r, b.roundOf = some r → IsLoop w r) (hS : StR ρ nt l a) (hG : Globs ρ G) (hR : Rel P ρ A w) (hmk : MarksOK w a.defers rs) :
    ∃ ρ' a' w', Steps P (lone (b.atR a (.code (.rangeFunc g ps assign body) :: k)) cs w) (lone (b.atR a' ((pe.map Item.code).toList ++ k)) cs w') ∧ StR ρ' nt l a' ∧ Rel P ρ' A' w' ∧ Moves ρ A w ρ' A' w' ∧ ∃ rs', MarksOK w' a'.defers rs' ∧ ∀ r ∈ rs', r ∈ rs ∨ w.heap.size ≤ r := by
  simp only [okCode, Bool.and_eq_true, hP.glob] at hok
  obtain ⟨⟨⟨hog, hps⟩, hca⟩, hcb⟩ := hok
  unfold aRangeFunc at h
  split at h
  · rename_i f first captured hev
    split at h
    · rename_i v2 A2 hcall
      split at h
      · rename_i tm ps' as' bo' st pend hrow
        split at h
        · rename_i hst
          simp only [Option.some.injEq, Prod.mk.injEq] at h
          obtain ⟨rfl, rfl⟩ := h
          obtain ⟨w1, L, ρ1, ms, hent, hR1, hM1, hL1, rs1, hmk1, hrs1⟩ := enterLoop_says (P := P) (fn := b.fn) (ro := b.roundOf) hR hS hmk hro hps hca hcb
          have hgv := hS.ev hG (by rw [hP.glob]; exact hog : okOperand G g = true)
          rw [hev] at hgv
          obtain ⟨f', c', he, hf, hc⟩ : ∃ f' c', a.eval g = .func (.func f) f' c' ∧ VRs ρ first.toList f'.toList ∧ VRs ρ captured.toList c'.toList := by
            generalize a.eval g = y at hgv
            cases hgv with
            | atom h => simp [atomB] at h
            | func hy h1 h2 h3 h4 => exact ⟨_, _, rfl, ⟨by simpa using h1, h3⟩, ⟨by simpa using h2, h4⟩⟩
          have hargs : VRs ρ1 (first.toList ++ [Value.func (.yield A.length) #[] #[]] ++ captured.toList) (f'.toList ++ [Value.func (.yield L.blk) #[] #[]] ++ c'.toList) :=
            ((hf.mono hM1.pre).append (VRs.cons (.yield hL1) (VRs.nil ρ1))).append (hc.mono hM1.pre)
          obtain ⟨d, hres, hinv⟩ : ∃ d, (resolve a.eval (rangeCall g L.blk) 0).run P w1 = .ok d w1 ∧ invoke d.target d.args = callFunc f (f'.toList ++ [Value.func (.yield L.blk) #[] #[]] ++ c'.toList).toArray := by
            have hy : ∀ v, a.eval (.const v) = v := fun _ => rfl
            refine ⟨{ target := .fn (.func f) c', args := f' ++ #[Value.func (.yield L.blk) #[] #[]] }, by simp [resolve, rangeCall, he, Deferred.ofValue, hy], ?_⟩
            have harr : (f'.toList ++ [Value.func (.yield L.blk) #[] #[]] ++ c'.toList).toArray = f' ++ #[Value.func (.yield L.blk) #[] #[]] ++ c' := by
              apply Array.ext'; simp
            rw [harr]
            simp [invoke]
          have on : ∀ {ρ2 : Loc} {w2 : World}, Rel P ρ2 A2 w2 → Moves ρ1 (A ++ [some (.loop l ps assign body .ready none)]) w1 ρ2 A2 w2 → Steps P (lone (b.atR a (.code (.rangeFunc g ps assign body) :: k)) cs w) (lone (b.atR { a with defers := ms ++ a.defers } (.endRangeFunc L.blk :: k)) cs w2) →
              ∃ ρ' a' w', Steps P (lone (b.atR a (.code (.rangeFunc g ps assign body) :: k)) cs w) (lone (b.atR a' ((pend.map Item.code).toList ++ k)) cs w') ∧ StR ρ' nt l a' ∧ Rel P ρ' (hset A2 A.length (some (.loop tm ps' as' bo' .exhausted pend))) w' ∧ Moves ρ A w ρ' (hset A2 A.length (some (.loop tm ps' as' bo' .exhausted pend))) w' ∧ ∃ rs', MarksOK w' a'.defers rs' ∧ ∀ r ∈ rs', r ∈ rs ∨ w.heap.size ≤ r := by
            intro ρ2 w2 hR2 hM2 hsteps
            have hL2 := hM2.pre _ _ hL1
            obtain ⟨r, hw2, hst2, hpe2, hR3, hM3⟩ := hR2.setLoop (st2 := .exhausted) (pe2 := pend) hrow hL2
            have hend : (Instr.endLoop L.blk).run P w2 = .ok pend { w2 with heap := w2.heap.setIfInBounds L.blk (.loop { r with state := .exhausted, pending := pend }) } := by
              have h1 : ({ r with state := .exhausted, pending := pend } : Loop) = { r with state := .exhausted } := by rw [← hpe2]
              have h2 : (r.state == .busy) = false := by rw [hst2]; cases st <;> first | rfl | exact absurd rfl hst
              rw [h1]
              simp only [Instr.endLoop, Sem.run_bind, run_getLoop hw2, Result.andThen_ok, h2, Bool.false_eq_true, if_false, run_setLoop (o := .loop { r with state := .exhausted }) hw2, Sem.run_pure]
              simp only [hpe2]
            refine ⟨ρ2, _, _, hsteps.trans (.one (stepR_endRangeFunc hend)), ⟨hS.size, fun t => (hS.tmps t).mono (hM1.pre.trans hM2.pre)⟩, hR3, (hM1.trans hM2).trans hM3, rs1, (hmk1.moves hR1 hM2).moves hR2 hM3, hrs1⟩
          rcases hC.says lim f _ _ v2 A2 hcall ρ1 w1 _ hargs (hG.mono hM1.pre) hR1 with ⟨v', w2, ρ2, h1, _, h3, h4⟩ | ⟨h1, h2⟩
          · exact on h3 h4 (.one (stepR_rangeFunc_value hent hres (by rw [hinv]; exact h1)))
          · obtain ⟨e, w2, fr, ⟨v', ρ2, rfl, _, h3, h4⟩, hsteps, _, hleave⟩ := h2 (b.atR { a with defers := ms ++ a.defers } (.inRangeFunc L.blk :: k) :: cs)
            refine on h3 h4 (.head (stepR_rangeFunc hent hres (by rw [hinv]; exact h1)) (hsteps.trans (.one ?_)))
            rw [← finish_atR_inRangeFunc L.blk v']; exact step_leave_returned hleave
        · cases h
      · cases h
    · cases h
  · cases h

theorem rangeFunc_keeps {call : CallF} (hC : CallKeeps call) {l : List Value} {g : Operand} {ps : Array Tmp} {assign body : Code} {A A' : Heap} {pe : Option Code} (h : aRangeFunc call lim l g ps assign body A = some (pe, A')) : Keeps lim A A' := by
  unfold aRangeFunc at h
  split at h
  · split at h
    · rename_i v2 A2 hcall
      split at h
      · split at h
        · cases h
          have h1 := hC _ _ _ _ _ _ hcall
          have h0 := Keeps.push lim A (some (.loop l ps assign body .ready none))
          have h2 := h0.trans h1
          refine ⟨by simpa using h2.1, fun i hi hA => ?_⟩
          rw [hget_hset, if_neg (by omega)]
          exact h2.2 i hi hA
        · cases h
      · cases h
    · cases h
  · cases h
end
end Go.Abs
/-
The abstract machine: a run of it is a run of the model. Third part: all code, given what is said of regions whose order is open.
-/
namespace Go.Abs
open Go

def DrawSays (P : Program) (G lim : Nat) (imp : FuncId → Bool) (c : Sub) : Prop :=
  ∀ (ops : Array Oper) (l : List Value) (A : Heap) (l' : List Value) (A' : Heap), aDraw P c lim imp ops l A = some (l', A') → ∀ (nt : Nat), ops.toList.all (okOper G nt) = true → okDraw ops = true →
    ∀ (ρ : Loc) (a : Act) (w : World), StR ρ nt l a → Globs ρ G → Rel P ρ A w → ∀ (t : Nat) (b : Frame) (k : List Item) (cs : List Frame),
    ∃ a' w', (a'.defers = a.defers ∧ ∃ ρ', StR ρ' nt l' a' ∧ Rel P ρ' A' w' ∧ Moves ρ A w ρ' A' w') ∧
      Steps P (lone (b.atR a (.inRegion ops (Region.schedule (P.follows .mixedOrders) ops t) :: k)) cs { w with drawn := w.drawn + 1 }) (lone (b.atR a' k) cs w')
def DrawKeeps (P : Program) (lim : Nat) (imp : FuncId → Bool) (c : Sub) : Prop :=
  ∀ (ops : Array Oper) (l : List Value) (A : Heap) (l' : List Value) (A' : Heap), aDraw P c lim imp ops l A = some (l', A') → Keeps lim A A'

section
variable {P : Program} {G nt lim : Nat} {E : Env} {c : Sub} {draw : Array Oper → List Value → Heap → Option (List Value × Heap)} {ih : RunF}

theorem yielded_eq {ρ : Loc} {l : List Value} {a : Act} (hS : StR ρ nt l a) (ops : Array Oper) (j : Nat) : aYielded ops l j = yielded ops a.tmps j := by
  unfold aYielded yielded
  cases hd : (ops[j]?).bind (·.dst) with
  | none => rfl
  | some d =>
    have hr := hS.tmps d
    rw [Array.getD_eq_getD_getElem?] at hr
    simp only [Option.bind_some]
    cases hy : a.tmps[d]? with
    | none =>
      rw [hy] at hr
      simp only [Option.getD_none] at hr
      have hn : ∀ b, tget l d ≠ .bool b := by
        intro b hb; rw [hb] at hr; have := hr.bool_inv; simp [undef] at this
      split
      · rename_i b hb; exact absurd hb (hn b)
      · rfl
    | some y =>
      rw [hy] at hr
      simp only [Option.getD_some] at hr
      generalize tget l d = x at hr
      cases hr with
      | atom h => cases y <;> rfl
      | junk h => cases y <;> first | rfl | exact absurd rfl (h _)
      | _ => rfl
theorem wanted_eq {ρ : Loc} {l : List Value} {a : Act} (hS : StR ρ nt l a) (ops : Array Oper) (o : Oper) : aWanted ops l o = Region.wanted o (yielded ops a.tmps) := by
  unfold aWanted Region.wanted
  cases o.guard with
  | none => rfl
  | some g => obtain ⟨j, want⟩ := g; simp only [yielded_eq hS]

theorem ops_real (ops : Array Oper) (i : Nat) (hi : i < ops.size) : It.real (.ops ops i) = .inRegion ops (i :: List.range' (i + 1) (ops.size - (i + 1))) := by
  have : ops.size - i = (ops.size - (i + 1)) + 1 := by omega
  simp only [It.real, this, List.range'_succ]
theorem ops_end (ops : Array Oper) (i : Nat) (hi : ops[i]? = none) : It.real (.ops ops i) = .inRegion ops [] := by
  have h : ops.size ≤ i := by simpa using hi
  have : ops.size - i = 0 := by omega
  simp [It.real, this]
theorem ops_next (ops : Array Oper) (i : Nat) : It.real (.ops ops (i + 1)) = .inRegion ops (List.range' (i + 1) (ops.size - (i + 1))) := rfl

theorem ok_cons {x : It} {k : List It} (hx : okIt G nt x = true) (hk : k.all (okIt G nt) = true) : (x :: k).all (okIt G nt) = true := by
  simp only [List.all_cons, hx, hk, Bool.and_self]

theorem yieldOf_run {ρ : Loc} {l : List Value} {a : Act} {o : Oper} (hops : ∀ x ∈ o.op.operands.toList, VR ρ (ev l x) (a.eval x)) {y : Nat} {args : List Value} (h : aYieldOf l o = some (y, args)) :
    ∃ args' L, VRs ρ args args' ∧ ρ y = some L ∧ execOp a.eval o = Instr.yield L.blk args'.toArray := by
  unfold aYieldOf at h
  split at h
  · rename_i x xs ats ho
    split at h
    · rename_i i first captured hx
      cases h
      rw [ho] at hops
      have hxr := hops x (by simp [Op.operands, Call.operands])
      rw [hx] at hxr
      have hargs := VRs.evs xs.toList (fun y hy => hops y (by simp [Op.operands, Call.operands]; exact .inr (by simpa using hy)))
      obtain ⟨L, hL, he⟩ : ∃ L, ρ y = some L ∧ a.eval x = .func (.yield L.blk) #[] #[] := by
        generalize a.eval x = z at hxr
        cases hxr with
        | atom h => simp [atomB] at h
        | func hy => simp [Fn.notYield] at hy
        | yield h => exact ⟨_, h, rfl⟩
      refine ⟨xs.toList.map a.eval, L, hargs, hL, ?_⟩
      have harr : (xs.toList.map a.eval).toArray = xs.map a.eval := by apply Array.ext'; simp
      rw [harr]
      simp [execOp, ho, resolve, he, Deferred.ofValue, invoke]
    · cases h
  · cases h
theorem yieldOf_no_defer {o : Oper} {l : List Value} {r : Nat × List Value} (h : aYieldOf l o = some r) : isDefer o.op = false := by
  unfold aYieldOf at h
  split at h
  · rename_i x xs ats ho; rw [ho]; rfl
  · cases h
theorem step_round {P : Program} {b : Frame} {a : Act} {k : List Item} {cs : List Frame} {w w' : World} {ops : Array Oper} {i : Nat} {rest : List Nat} {o : Oper} {r : Nat} {fn : FuncId} {tm : Array Value} {as bo : Code}
    (ho : ops[i]? = some o) (hw : Region.wanted o (yielded ops a.tmps) = true) (hnd : isDefer o.op = false) (hr : (execOp a.eval o).run P w = .ok (.round r fn tm as bo) w') :
    step P (lone (b.atR a (.inRegion ops (i :: rest) :: k)) cs w) = .next (lone (Frame.round r fn tm as bo .normal) (b.atR a (.inRegion ops (i :: rest) :: k) :: cs) w') := by
  have hg := stepGR_op (P := P) (b := b) (k := k) (cs := cs) (w := w) (rest := rest) ho hw
  rw [Oper.semAt_eq _ _ _ (fun c hc => by rw [hc] at hnd; cases hnd)] at hg
  exact step_lone_go (by rw [hg]; simp [stepG.apply, hr, Frame.atR])

theorem oper_no_defer {o : Oper} {l : List Value} {A : Heap} {r : Value × Heap} (h : aOper P c lim l o A = some r) : isDefer o.op = false := by
  unfold aOper at h
  split at h
  · rename_i hyo; exact yieldOf_no_defer hyo
  split at h
  · rename_i f args hco
    unfold aCallOf at hco
    split at hco
    · rename_i x xs ats ho; rw [ho]; rfl
    · cases hco
  · obtain ⟨dst, op, type, pos, after, guard⟩ := o
    cases op <;> first | rfl | (simp [aOp] at h)
/-- An operation of a frame goes to K. -/
def OpTo (P : Program) (ops : Array Oper) (b : Frame) (k : List Item) (cs : List Frame) (i : Nat) (a : Act) (w : World) (K : Act → World → Prop) : Prop :=
  ∀ rest, ∃ a' w', K a' w' ∧ Steps P (lone (b.atR a (.inRegion ops (i :: rest) :: k)) cs w) (lone (b.atR a' (.inRegion ops rest :: k)) cs w')
theorem opTo_oper {ρ : Loc} {l : List Value} {A A' : Heap} {w : World} {a : Act} {v : Value} {ops : Array Oper} {b : Frame} {k : List Item} {cs : List Frame} {i : Nat} {o : Oper} {K : Act → World → Prop} (hC : SubOK P G c) (ho : ops[i]? = some o) (hw : Region.wanted o (yielded ops a.tmps) = true)
    (E : ∀ x ∈ o.op.operands.toList, VR ρ (ev l x) (a.eval x)) (hG : Globs ρ G) (hR : Rel P ρ A w) (hok : okOper G nt o = true) (h : aOper P c lim l o A = some (v, A'))
    (hK : ∀ v' w' ρ', VR ρ' v v' → Rel P ρ' A' w' → Moves ρ A w ρ' A' w' → K (a.put o.dst v') w') : OpTo P ops b k cs i a w K := by
  intro rest
  cases hy : aYieldOf l o with
  | none => exact oper_steps (Q := fun e _ _ => e = .normal) (fun _ _ _ h => h) (oper_no_defer h) ho hw (aOper_wp hC hy E hG hR hok h hK)
  | some r =>
    obtain ⟨y, args⟩ := r
    unfold aOper at h
    rw [hy] at h
    simp only at h
    split at h
    · rename_i t A1 hyd
      cases h
      obtain ⟨args', y', hargs, hy', hrun⟩ := yieldOf_run (ρ := ρ) E hy
      obtain ⟨L, fn, tm, as, bo, hL, hyr, hgo⟩ := hC.says lim y args A t _ hyd ρ w args' hargs hG hR
      rw [hL] at hy'
      cases hy'
      obtain ⟨ρ1, w1, s1, hR1, hM1⟩ := hgo (b.atR a (.inRegion ops (i :: rest) :: k)) cs
      rw [finish_eq ho] at s1
      exact ⟨_, w1, hK (.bool t) w1 ρ1 (.atom rfl) hR1 hM1, .head (step_round ho hw (yieldOf_no_defer hy) (by rw [hrun]; exact hyr)) s1⟩
    · cases h
theorem opTo_skip {a : Act} {w : World} {ops : Array Oper} {b : Frame} {k : List Item} {cs : List Frame} {i : Nat} {o : Oper} {K : Act → World → Prop} (ho : ops[i]? = some o) (hw : Region.wanted o (yielded ops a.tmps) = false) (hK : K (a.put o.dst undef) w) : OpTo P ops b k cs i a w K := by
  intro rest
  refine ⟨_, w, hK, .one ?_⟩
  have := stepR_op_skip (P := P) (b := b) (a := a) (k := k) (cs := cs) (w := w) (ops := ops) (i := i) (rest := rest) (by simp [ho, hw])
  simp only [ho, Option.bind_some] at this
  exact this
/-- The operations of a region, in every order. -/
def anyTo (P : Program) (md : Region.Mode) (ops : Array Oper) (b : Frame) (k : List Item) (cs : List Frame) (Q : Act → World → Prop) : Nat → Array Bool → Act → World → Prop
  | 0, listed, a, w => Region.ready md ops listed = [] ∧ Q a w
  | fuel + 1, listed, a, w => (Region.ready md ops listed = [] → Q a w) ∧ ∀ i ∈ Region.ready md ops listed, OpTo P ops b k cs i a w (anyTo P md ops b k cs Q fuel (listed.setIfInBounds i true))
theorem anyTo_sound {md : Region.Mode} {ops : Array Oper} {b : Frame} {k : List Item} {cs : List Frame} {Q : Act → World → Prop} : ∀ (fuel t : Nat) (listed : Array Bool) (a : Act) (w : World), anyTo P md ops b k cs Q fuel listed a w →
    ∃ a' w', Q a' w' ∧ Steps P (lone (b.atR a (.inRegion ops (Region.linearise.go md ops fuel t listed []) :: k)) cs w) (lone (b.atR a' k) cs w') := by
  intro fuel
  induction fuel with
  | zero => intro t listed a w h; exact ⟨a, w, h.2, .one (by simpa [Region.linearise.go] using stepR_region_end)⟩
  | succ fuel ih =>
    intro t listed a w h
    obtain ⟨h₀, h₁⟩ := h
    simp only [Region.linearise.go]
    change ∃ a' w', Q a' w' ∧ Steps P (lone (b.atR a (.inRegion ops (match (Region.ready md ops listed)[t % (Region.ready md ops listed).length]? with
      | some i => Region.linearise.go md ops fuel (t / (Region.ready md ops listed).length) (listed.setIfInBounds i true) [i]
      | none => [].reverse) :: k)) cs w) (lone (b.atR a' k) cs w')
    cases hi : (Region.ready md ops listed)[t % (Region.ready md ops listed).length]? with
    | none =>
      have hnil : Region.ready md ops listed = [] := by
        cases hr : Region.ready md ops listed with
        | nil => rfl
        | cons x xs =>
          rw [hr] at hi
          have hlt : t % (x :: xs).length < (x :: xs).length := Nat.mod_lt _ (by simp)
          simp at hi
          simp at hlt
          omega
      exact ⟨a, w, h₀ hnil, .one (by simpa using stepR_region_end)⟩
    | some i =>
      simp only []
      rw [linearise_go_acc, List.reverse_singleton, List.singleton_append]
      obtain ⟨a1, w1, g1, g2⟩ := h₁ i (List.mem_of_getElem? hi) (Region.linearise.go md ops fuel (t / (Region.ready md ops listed).length) (listed.setIfInBounds i true) [])
      obtain ⟨a2, w2, g3, g4⟩ := ih _ _ a1 w1 g1
      exact ⟨a2, w2, g3, g2.trans g4⟩

theorem step_says (hP : ProgOK P G) (hC : SubOK P G c) (hdraw : draw = aDraw P c lim E.impure) (hD : DrawSays P G lim E.impure c) (hi : RunSays P G ih) : RunSays P G (aStep P c draw lim ih) := by
  intro todo l A l' A' j h nt hok ρ a w b cs rs kk hkk hro hS hG hR hmk
  have on : ∀ {k : List It} {l1 : List Value} {A1 : Heap} {ρ1 : Loc} {a1 : Act} {w1 : World}, ih k l1 A1 = some (l', A', j) → k.all (okIt G nt) = true → StR ρ1 nt l1 a1 → Globs ρ1 G → Rel P ρ1 A1 w1 → Moves ρ A w ρ1 A1 w1 → a1.defers = a.defers →
      Steps P (lone (b.atR a (todo.map It.real ++ kk)) cs w) (lone (b.atR a1 (k.map It.real ++ kk)) cs w1) →
      ∃ ρ' a' w' td, Steps P (lone (b.atR a (todo.map It.real ++ kk)) cs w) (lone (b.atR a' td) cs w') ∧ Left kk j td ∧ StR ρ' nt l' a' ∧ Rel P ρ' A' w' ∧ Moves ρ A w ρ' A' w' ∧ ∃ rs', MarksOK w' a'.defers rs' ∧ ∀ r ∈ rs', r ∈ rs ∨ w.heap.size ≤ r := by
    intro k l1 A1 ρ1 a1 w1 hk hok1 hS1 hG1 hR1 hM1 hdf1 hst
    obtain ⟨ρ', a', w', td, h1, hleft, h2, h3, h4, rs', h5, h6⟩ := hi k l1 A1 l' A' j hk nt hok1 ρ1 a1 w1 b cs rs kk hkk (fun r hr => hM1.loops _ (hro r hr)) hS1 hG1 hR1 (by rw [hdf1]; exact hmk.moves hR hM1)
    exact ⟨ρ', a', w', td, hst.trans h1, hleft, h2, h3, hM1.trans h4, rs', h5, fun r hr => (h6 r hr).imp id (Nat.le_trans hM1.size)⟩
  have same : ∀ {k : List It}, ih k l A = some (l', A', j) → k.all (okIt G nt) = true → step P (lone (b.atR a (todo.map It.real ++ kk)) cs w) = .next (lone (b.atR a (k.map It.real ++ kk)) cs w) →
      ∃ ρ' a' w' td, Steps P (lone (b.atR a (todo.map It.real ++ kk)) cs w) (lone (b.atR a' td) cs w') ∧ Left kk j td ∧ StR ρ' nt l' a' ∧ Rel P ρ' A' w' ∧ Moves ρ A w ρ' A' w' ∧ ∃ rs', MarksOK w' a'.defers rs' ∧ ∀ r ∈ rs', r ∈ rs ∨ w.heap.size ≤ r :=
    fun hk hok1 hst => on hk hok1 hS hG hR (Moves.refl _ _ _) rfl (.one hst)
  cases todo with
  | nil => cases h; exact ⟨ρ, a, w, _, .refl _ _, rfl, hS, hR, Moves.refl _ _ _, rs, hmk, fun r hr => .inl hr⟩
  | cons x k =>
    simp only [List.all_cons, Bool.and_eq_true] at hok
    obtain ⟨hx, hk⟩ := hok
    cases x with
    | inBlock id => exact same h hk stepR_inBlock
    | inScope c => exact same h hk stepR_inScope
    | inLoop c => exact same h (ok_cons (by simpa [okIt] using hx) (ok_cons hx hk)) stepR_inLoop
    | ops all i =>
      simp only [aStep] at h
      split at h
      · rename_i hn
        refine same h hk ?_
        simp only [List.map_cons, List.cons_append, ops_end all i hn]
        exact stepR_region_end
      · rename_i o ho
        have hlt : i < all.size := (Array.getElem?_eq_some_iff.1 ho).1
        have hoko : okOper G nt o = true := List.all_eq_true.1 hx o (by
          have : o ∈ all := Array.mem_of_getElem? ho
          simpa using this)
        split at h
        · rename_i hw
          rw [wanted_eq hS] at hw
          split at h
          · rename_i v A1 hop
            obtain ⟨a1, w1, ⟨hdf1, ρ1, h1, h2, h3⟩, hst⟩ := opTo_oper (b := b) (cs := cs) (k := k.map It.real ++ kk) (K := fun a1 w1 => a1.defers = a.defers ∧ ∃ ρ1, StR ρ1 nt (tput l o.dst v) a1 ∧ Rel P ρ1 A1 w1 ∧ Moves ρ A w ρ1 A1 w1) hC ho hw (operands_ok hS hG hoko) hG hR hoko hop (fun v' w1 ρ1 h1 h2 h3 => by
              refine ⟨put_defers _ _ _, ρ1, (hS.mono h3.pre).put (fun d hd => ?_) h1, h2, h3⟩
              simp only [okOper, Bool.and_eq_true, hd] at hoko
              simpa using hoko.1.2) (List.range' (i + 1) (all.size - (i + 1)))
            refine on h (ok_cons (by simpa [okIt] using hx) hk) h1 (hG.mono h3.pre) h2 h3 hdf1 ?_
            simp only [List.map_cons, List.cons_append, ops_real all i hlt, ops_next]
            exact hst
          · cases h
        · rename_i hw
          rw [wanted_eq hS] at hw
          refine on h (ok_cons (by simpa [okIt] using hx) hk) (hS.put (fun d hd => ?_) (VR.undef ρ)) hG hR (Moves.refl _ _ _) (put_defers _ _ _) ?_
          · simp only [okOper, Bool.and_eq_true, hd] at hoko
            simpa using hoko.1.2
          · simp only [List.map_cons, List.cons_append, ops_real all i hlt, ops_next]
            have := stepR_op_skip (P := P) (b := b) (a := a) (k := k.map It.real ++ kk) (cs := cs) (w := w) (ops := all) (i := i) (rest := List.range' (i + 1) (all.size - (i + 1))) (by simp [ho]; simpa using hw)
            simp only [ho, Option.bind_some] at this
            exact .one this
    | code c =>
      cases c with
      | ret => cases h; exact ⟨ρ, a, w, _, .refl _ _, ⟨_, rfl⟩, hS, hR, Moves.refl _ _ _, rs, hmk, fun r hr => .inl hr⟩
      | skip => exact same h hk stepR_skip
      | label g => exact same h hk stepR_label
      | seq c d =>
        simp only [okIt, okCode, Bool.and_eq_true] at hx
        exact same h (ok_cons hx.1 (ok_cons hx.2 hk)) stepR_seq
      | cond x c d =>
        simp only [okIt, okCode, Bool.and_eq_true] at hx
        simp only [aStep] at h
        split at h
        · rename_i t ht
          have he : a.eval x = .bool t := by have := hS.ev hG hx.1.1; rw [ht] at this; exact this.bool_inv
          split at h
          · rename_i hb
            subst hb
            exact same h (ok_cons hx.1.2 hk) (by have := stepR_cond (P := P) (b := b) (k := k.map It.real ++ kk) (cs := cs) (w := w) (x := c) (y := d) he; simpa [It.real] using this)
          · rename_i hb
            have hb : t = false := by simpa using hb
            subst hb
            exact same h (ok_cons hx.2 hk) (by have := stepR_cond (P := P) (b := b) (k := k.map It.real ++ kk) (cs := cs) (w := w) (x := c) (y := d) he; simpa [It.real] using this)
        · cases h
      | block id c => exact same h (ok_cons hx (ok_cons rfl hk)) stepR_block
      | loop c => exact same h (ok_cons hx (ok_cons hx hk)) stepR_loop
      | scope c => exact same h (ok_cons hx (ok_cons hx hk)) stepR_scope
      | exit id =>
        simp only [aStep] at h
        split at h
        · rename_i k' hk'
          exact same h (exit_ok hk' hk) (stepR_exit ((exit_real id kk k).trans (by rw [hk'])))
        · rename_i hn
          cases h
          exact ⟨ρ, a, w, _, .refl _ _, ⟨_, rfl, (exit_real id kk k).trans (by rw [hn, hkk (by simp)]; rfl)⟩, hS, hR, Moves.refl _ _ _, rs, hmk, fun r hr => .inl hr⟩
      | goto g =>
        simp only [aStep] at h
        split at h
        · rename_i k' hk'
          exact same h (goto_ok hk' hk) (stepR_goto ((goto_real g kk k).trans (by rw [hk'])))
        · rename_i hn
          cases h
          exact ⟨ρ, a, w, _, .refl _ _, ⟨_, rfl, (goto_real g kk k).trans (by rw [hn, hkk (by simp)]; rfl)⟩, hS, hR, Moves.refl _ _ _, rs, hmk, fun r hr => .inl hr⟩
      | region id ops d =>
        simp only [okIt, okCode, Bool.and_eq_true] at hx
        cases d with
        | false =>
          refine same h (ok_cons hx.1 hk) ?_
          have : List.range ops.size = List.range' 0 (ops.size - 0) := by simp [List.range_eq_range']
          simp only [List.map_cons, List.cons_append, It.real, ← this]
          exact stepR_region
        | true =>
          simp only [aStep] at h
          split at h
          · rename_i l1 A1 hd
            rw [hdraw] at hd
            have hx2 : okDraw ops = true ∧ ops.toList.all (fun o => !isDefer o.op) = true := by simpa using hx.2
            obtain ⟨a1, w1, ⟨hdf1, ρ1, h1, h2, h3⟩, hst⟩ := hD ops l A l1 A1 hd nt hx.1 hx2.1 ρ a w hS hG hR (w.tape w.drawn (.order b.fn id)) b (k.map It.real ++ kk) cs
            exact on h hk h1 (hG.mono h3.pre) h2 h3 hdf1 (.head stepR_region_draw hst)
          · cases h
      | rangeFunc f ps as bo =>
        simp only [aStep] at h
        have go : ∀ {pe : Option Code} {A1 : Heap} {k1 : List It}, aRangeFunc c.call lim l f ps as bo A = some (pe, A1) → k1.map It.real = (pe.map Item.code).toList ++ k.map It.real → k1.all (okIt G nt) = true → ih k1 l A1 = some (l', A', j) →
            ∃ ρ' a' w' td, Steps P (lone (b.atR a ((It.code (.rangeFunc f ps as bo) :: k).map It.real ++ kk)) cs w) (lone (b.atR a' td) cs w') ∧ Left kk j td ∧ StR ρ' nt l' a' ∧ Rel P ρ' A' w' ∧ Moves ρ A w ρ' A' w' ∧ ∃ rs', MarksOK w' a'.defers rs' ∧ ∀ r ∈ rs', r ∈ rs ∨ w.heap.size ≤ r := by
          intro pe A1 k1 hrf hk1 hok1 hih
          obtain ⟨ρ1, a1, w1, s1, hS1, hR1, hM1, rs1, hmk1, hrs1⟩ := rangeFunc_says (b := b) (k := k.map It.real ++ kk) (cs := cs) hP hC.call hrf (by simpa [okIt] using hx) hro hS hG hR hmk
          obtain ⟨ρ', a', w', td, h1, hleft, h2, h3, h4, rs', h5, h6⟩ := hi k1 l A1 l' A' j hih nt hok1 ρ1 a1 w1 b cs rs1 kk hkk (fun r hr => hM1.loops _ (hro r hr)) hS1 (hG.mono hM1.pre) hR1 hmk1
          rw [hk1, List.append_assoc] at h1
          exact ⟨ρ', a', w', td, s1.trans h1, hleft, h2, h3, hM1.trans h4, rs', h5, fun r hr => by
            rcases h6 r hr with g | g
            · exact hrs1 r g
            · exact .inr (Nat.le_trans hM1.size g)⟩
        split at h
        · rename_i A1 hrf
          exact go hrf rfl hk h
        · rename_i c1 A1 hrf
          split at h
          · rename_i hj
            exact go hrf rfl (ok_cons (by cases c1 <;> first | rfl | simp [isJump] at hj) hk) h
          · cases h
        · cases h
      | refuse s => simp [aStep] at h

theorem step_keeps (hC : SubKeeps c) (hdraw : draw = aDraw P c lim E.impure) (hD : DrawKeeps P lim E.impure c) (hi : RunKeeps lim ih) : RunKeeps lim (aStep P c draw lim ih) := by
  intro todo l A l' A' j h
  cases todo with
  | nil => cases h; exact Keeps.refl _ _
  | cons x k =>
    cases x with
    | inBlock id => exact hi _ _ _ _ _ _ h
    | inScope c => exact hi _ _ _ _ _ _ h
    | inLoop c => exact hi _ _ _ _ _ _ h
    | ops all i =>
      simp only [aStep] at h
      split at h
      · exact hi _ _ _ _ _ _ h
      · split at h
        · split at h
          · rename_i v A1 hop
            exact (aOper_keeps hC hop).trans (hi _ _ _ _ _ _ h)
          · cases h
        · exact hi _ _ _ _ _ _ h
    | code c =>
      cases c with
      | ret => cases h; exact Keeps.refl _ _
      | skip => exact hi _ _ _ _ _ _ h
      | label g => exact hi _ _ _ _ _ _ h
      | seq c d => exact hi _ _ _ _ _ _ h
      | cond x c d =>
        simp only [aStep] at h
        split at h
        · split at h <;> exact hi _ _ _ _ _ _ h
        · cases h
      | block id c => exact hi _ _ _ _ _ _ h
      | loop c => exact hi _ _ _ _ _ _ h
      | scope c => exact hi _ _ _ _ _ _ h
      | exit id =>
        simp only [aStep] at h
        split at h
        · exact hi _ _ _ _ _ _ h
        · cases h; exact Keeps.refl _ _
      | goto g =>
        simp only [aStep] at h
        split at h
        · exact hi _ _ _ _ _ _ h
        · cases h; exact Keeps.refl _ _
      | region id ops d =>
        cases d with
        | false => exact hi _ _ _ _ _ _ h
        | true =>
          simp only [aStep] at h
          split at h
          · rename_i l1 A1 hd
            rw [hdraw] at hd
            exact (hD _ _ _ _ _ hd).trans (hi _ _ _ _ _ _ h)
          · cases h
      | rangeFunc f ps c d =>
        simp only [aStep] at h
        split at h
        · rename_i A1 hrf
          exact (rangeFunc_keeps hC.call hrf).trans (hi _ _ _ _ _ _ h)
        · rename_i c1 A1 hrf
          split at h
          · exact (rangeFunc_keeps hC.call hrf).trans (hi _ _ _ _ _ _ h)
          · cases h
        · cases h
      | refuse s => simp [aStep] at h

/-- A RUN OF THE MACHINE IS A RUN OF THE MODEL. -/
theorem run_says (hP : ProgOK P G) (hE : EnvOK P G E) (hD : ∀ c lim, SubOK P G c → DrawSays P G lim E.impure c) (hDk : ∀ c lim, SubKeeps c → DrawKeeps P lim E.impure c) :
    ∀ n lim, RunSays P G (aRun P E n lim) ∧ RunKeeps lim (aRun P E n lim)
  | 0, lim => ⟨fun _ _ _ _ _ _ h => (by cases h), fun _ _ _ _ _ _ h => (by cases h)⟩
  | n + 1, lim => by
    have hC : SubOK P G ⟨aCallBy P E (aRun P E n), fun lim y args A => aYield lim (aRun P E n lim) y args A⟩ :=
      ⟨callBy_ok hP hE (fun lim => (run_says hP hE hD hDk n lim).1) (fun lim => (run_says hP hE hD hDk n lim).2), fun lim y args A t A' h ρ w args' hargs hG hR => yield_says hP (run_says hP hE hD hDk n lim).1 h hargs hG hR, fun lim y args A t A' h => yield_keeps (run_says hP hE hD hDk n lim).2 h⟩
    have hi := run_says hP hE hD hDk n lim
    exact ⟨step_says hP hC rfl (hD _ lim hC) hi.1, step_keeps hC.keeps' rfl (hDk _ lim hC.keeps') hi.2⟩

theorem call_ok (hP : ProgOK P G) (hE : EnvOK P G E) (hD : ∀ c lim, SubOK P G c → DrawSays P G lim E.impure c) (hDk : ∀ c lim, SubKeeps c → DrawKeeps P lim E.impure c) (n : Nat) : CallOK P G (aCall P E n) :=
  callBy_ok hP hE (fun lim => (run_says hP hE hD hDk n lim).1) (fun lim => (run_says hP hE hD hDk n lim).2)
end
end Go.Abs
/-
The abstract machine: regions whose order is open. First part: rows of a region, masks, and a piece of a run beside others.
-/
namespace Go.Abs
open Go

def restr (ρ : Loc) (p : Nat → Bool) : Loc := fun id => if p id then ρ id else none
theorem restr_ext (ρ : Loc) (p : Nat → Bool) : Ext (restr ρ p) ρ := fun i L h => by
  unfold restr at h; split at h
  · exact h
  · cases h
theorem restr_mono {ρ ρ' : Loc} {p p' : Nat → Bool} (h : Ext ρ ρ') (hp : ∀ i L, ρ i = some L → p i = true → p' i = true) : Ext (restr ρ p) (restr ρ' p') := fun i L hi => by
  unfold restr at hi ⊢
  split at hi
  · rename_i h1; rw [if_pos (hp i L hi h1)]; exact h i L hi
  · cases hi

/-- A PIECE OF A RUN OVER SOME OF THE ROWS, BESIDE THE OTHERS. -/
theorem soft_core {P : Program} {ρ ρ1 ρ0 ρM : Loc} {H H' M R A0 : Heap} {w w' w0 : World} (hH : Rel P ρ H w) (hM0 : Moves ρ0 A0 w0 ρ H w)
    (hsub : ∀ id r, hget M id = some r → hget H id = some r) (hρM : Ext ρM ρ) (hM : Rel P ρM M w) (hR : Rel P ρ1 R w') (hmv : Moves ρM M w ρ1 R w') (hk : ∀ id, id < M.length → hget R id = hget M id)
    (hfree : ∀ id, M.length ≤ id → id < R.length → ρ id = none) (hA0 : A0.length ≤ M.length) (hlen : H'.length = H.length) (hRl : R.length ≤ H.length)
    (hH' : ∀ id r, hget H' id = some r → (hget H id = some r ∧ ¬ (M.length ≤ id ∧ id < R.length)) ∨ (M.length ≤ id ∧ id < R.length ∧ hget R id = some r)) :
    ∃ ρ' : Loc, (∀ id, ρ' id = if M.length ≤ id ∧ id < R.length then ρ1 id else ρ id) ∧ Ext ρ1 ρ' ∧ Ext ρ ρ' ∧ Rel P ρ' H' w' ∧ Moves ρ0 A0 w0 ρ' H' w' := by
  let ρ' : Loc := fun id => if M.length ≤ id ∧ id < R.length then ρ1 id else ρ id
  have hdef : ∀ id, ρ' id = if M.length ≤ id ∧ id < R.length then ρ1 id else ρ id := fun _ => rfl
  have e1 : Ext ρ1 ρ' := fun id L h => by
    rw [hdef]
    split
    · exact h
    · rename_i hn
      have hlt : id < M.length := by
        rcases Nat.lt_or_ge id M.length with h1 | h1
        · exact h1
        · rcases Nat.lt_or_ge id R.length with h2 | h2
          · exact absurd ⟨h1, h2⟩ hn
          · rw [hR.sup id h2] at h; cases h
      exact hρM id L (by rw [← hmv.same id hlt]; exact h)
  have e2 : Ext ρ ρ' := fun id L h => by
    rw [hdef]
    split
    · rename_i hn; rw [hfree id hn.1 hn.2] at h; cases h
    · exact h
  -- an old row
  have inM : ∀ {id r L}, hget M id = some r → ρ id = some L → hget R id = some r ∧ ρ1 id = some L := by
    intro id r L h1 h2
    have hlt := hget_lt h1
    obtain ⟨L', hL'⟩ := hM.has id r h1
    have : L' = L := by have := hρM id L' hL'; rw [h2] at this; cases this; rfl
    subst this
    exact ⟨by rw [hk id hlt]; exact h1, by rw [hmv.same id hlt]; exact hL'⟩
  have ownM : ∀ b, OwnIn ρM M b → OwnIn ρ H b := fun b ⟨k, r, L, a1, a2, a3, a4⟩ => ⟨k, r, L, hsub k r a1, hρM k L a2, a3, a4⟩
  have notown : ∀ {id r L}, hget M id = none → hget H id = some r → ρ id = some L → ¬ OwnIn ρM M L.blk := by
    rintro id r L hn h1 h2 ⟨k, q, K, a1, a2, a3, a4⟩
    have hne : k ≠ id := fun e => by subst e; rw [hn] at a1; cases a1
    exact hH.sep k id q r K L (hsub k q a1) h1 (hρM k K a2) h2 hne a3 a4
  have newblk : ∀ {id r L}, M.length ≤ id → hget R id = some r → ρ1 id = some L → w.heap.size ≤ L.blk ∨ OwnIn ρM M L.blk := by
    intro id r L h1 h2 h3
    rcases hmv.rows id r L h2 h3 with ⟨hlt, _⟩ | h | h
    · omega
    · exact .inl h
    · exact .inr h
  have old : ∀ {id L}, ¬ (M.length ≤ id ∧ id < R.length) → ρ' id = some L → ρ id = some L := fun hn h => by rw [hdef, if_neg hn] at h; exact h
  have new : ∀ {id L}, M.length ≤ id → id < R.length → ρ' id = some L → ρ1 id = some L := fun h1 h2 h => by rw [hdef, if_pos ⟨h1, h2⟩] at h; exact h
  refine ⟨ρ', hdef, e1, e2, ⟨?_, ?_, ?_, ?_⟩, ⟨hM0.pre.trans e2, by have := hM0.len; omega, ?_, Nat.le_trans hM0.size hmv.size, ?_, ?_, ⟨hmv.out.1.trans hM0.out.1, hmv.out.2.trans hM0.out.2⟩, fun b hb => hmv.loops b (hM0.loops b hb)⟩⟩
  · intro id hid
    rw [hdef, if_neg (by omega)]
    exact hH.sup id (by omega)
  · intro id r hid
    rcases hH' id r hid with ⟨h1, h2⟩ | ⟨h1, h2, h3⟩
    · obtain ⟨L, hL⟩ := hH.has id r h1
      exact ⟨L, e2 id L hL⟩
    · obtain ⟨L, hL⟩ := hR.has id r h3
      exact ⟨L, e1 id L hL⟩
  · intro id r L hid hL
    rcases hH' id r hid with ⟨h1, h2⟩ | ⟨h1, h2, h3⟩
    · have hL := old h2 hL
      cases hm : hget M id with
      | none =>
        have hrow := hH.row id r L h1 hL
        exact hrow.move e2 (hmv.frame L.blk hrow.lt (notown hm h1 hL))
      | some q =>
        have hq : q = r := by have := hsub id q hm; rw [h1] at this; cases this; rfl
        subst hq
        obtain ⟨b1, b2⟩ := inM hm hL
        exact (hR.row id q L b1 b2).move e1 rfl
    · exact (hR.row id r L h3 (new h1 h2 hL)).move e1 rfl
  · intro i j r s L K hi hj hL hK hne hr
    rcases hH' i r hi with ⟨a1, a2⟩ | ⟨a1, a2, a3⟩ <;> rcases hH' j s hj with ⟨b1, b2⟩ | ⟨b1, b2, b3⟩
    · exact hH.sep i j r s L K a1 b1 (old a2 hL) (old b2 hK) hne hr
    · have hL := old a2 hL
      have hK := new b1 b2 hK
      cases hm : hget M i with
      | some q =>
        have hq : q = r := by have := hsub i q hm; rw [a1] at this; cases this; rfl
        subst hq
        obtain ⟨c1, c2⟩ := inM hm hL
        exact hR.sep i j q s L K c1 b3 c2 hK hne hr
      | none =>
        rcases newblk b1 b3 hK with h | ⟨k, q, Q, d1, d2, d3, d4⟩
        · have := (hH.row i r L a1 hL).lt; omega
        · rw [← d4]
          have hki : k ≠ i := fun e => by subst e; rw [hm] at d1; cases d1
          exact fun e => hH.sep k i q r Q L (hsub k q d1) a1 (hρM k Q d2) hL hki d3 e.symm
    · have hL := new a1 a2 hL
      have hK := old b2 hK
      cases hm : hget M j with
      | some q =>
        have hq : q = s := by have := hsub j q hm; rw [b1] at this; cases this; rfl
        subst hq
        obtain ⟨c1, c2⟩ := inM hm hK
        exact hR.sep i j r q L K a3 c1 hL c2 hne hr
      | none =>
        rcases newblk a1 a3 hL with h | ⟨k, q, Q, d1, d2, d3, d4⟩
        · have := (hH.row j s K b1 hK).lt; omega
        · rw [← d4]
          have hkj : k ≠ j := fun e => by subst e; rw [hm] at d1; cases d1
          exact hH.sep k j q s Q K (hsub k q d1) b1 (hρM k Q d2) hK hkj d3
    · exact hR.sep i j r s L K a3 b3 (new a1 a2 hL) (new b1 b2 hK) hne hr
  · intro id hid
    rw [hdef, if_neg (by omega)]
    exact hM0.same id hid
  · intro b hb hn
    have h1 := hM0.frame b hb hn
    rw [hmv.frame b (Nat.lt_of_lt_of_le hb hM0.size) (fun ho => hn (hM0.own b hb (ownM b ho))), h1]
  · intro id r L hid hL
    rcases hH' id r hid with ⟨h1, h2⟩ | ⟨h1, h2, h3⟩
    · exact hM0.rows id r L h1 (old h2 hL)
    · rcases newblk h1 h3 (new h1 h2 hL) with h | h
      · exact .inr (.inl (Nat.le_trans hM0.size h))
      · obtain ⟨k, q, Q, d1, d2, d3, d4⟩ := ownM _ h
        rcases hM0.rows k q Q d1 d2 with ⟨c1, r0, c2, c3⟩ | h | h
        · exact .inr (.inr ⟨k, r0, Q, c2, by rw [← hM0.same k c1]; exact d2, c3 d3, d4⟩)
        · exact .inr (.inl (by omega))
        · exact .inr (.inr (d4 ▸ h))

/-- Which operation made the k-th of the rows that a region made. -/
def crOf : List (Nat × Heap) → Nat → Option Nat
  | [], _ => none
  | (i, N) :: l, k => if k < N.length then some i else crOf l (k - N.length)
def maskBy (S : Nat → Bool) : List (Nat × Heap) → Heap
  | [] => []
  | (j, N) :: l => (if S j then N else N.map fun _ => none) ++ maskBy S l

theorem maskRows_eq (m : Nat) : ∀ l, maskRows m l = maskBy (fun j => m.testBit j) l
  | [] => rfl
  | (j, N) :: l => by simp only [maskRows, maskBy, maskRows_eq m l]
@[simp] theorem maskBy_length (S : Nat → Bool) : ∀ l, (maskBy S l).length = (flatRows l).length
  | [] => rfl
  | (j, N) :: l => by simp only [maskBy, flatRows, List.length_append, maskBy_length S l]; split <;> simp
theorem hget_none (N : Heap) (i : Nat) : hget (N.map fun _ => none) i = none := by
  induction N generalizing i with
  | nil => rfl
  | cons r N ih => cases i with
    | zero => rfl
    | succ i => exact ih i
theorem hget_mask (S : Nat → Bool) : ∀ (l : List (Nat × Heap)) (k : Nat) (r : ARow), hget (maskBy S l) k = some r ↔ hget (flatRows l) k = some r ∧ ∃ i, crOf l k = some i ∧ S i = true
  | [], k, r => by simp [maskBy, flatRows]
  | (j, N) :: l, k, r => by
    simp only [maskBy, flatRows, hget_append, crOf]
    by_cases hk : k < N.length
    · simp only [if_pos hk]
      by_cases hS : S j = true
      · simp [hS, hk]
      · have hS' : S j = false := by simpa using hS
        simp [hS', hk, hget_none]
    · have : ¬ k < (if S j = true then N else N.map fun _ => none).length := by split <;> simpa using hk
      rw [if_neg this, if_neg hk, if_neg hk]
      have e : (if S j = true then N else N.map fun _ => none).length = N.length := by split <;> simp
      rw [e]
      exact hget_mask S l _ r
theorem crOf_lt : ∀ (l : List (Nat × Heap)) (k i : Nat), crOf l k = some i → k < (flatRows l).length ∧ ∃ N, (i, N) ∈ l ∧ N ≠ []
  | [], k, i, h => by cases h
  | (j, N) :: l, k, i, h => by
    simp only [crOf] at h
    split at h
    · cases h
      rename_i hk
      exact ⟨by simp [flatRows]; omega, N, by simp, by intro e; subst e; simp at hk⟩
    · obtain ⟨h1, N', h2, h3⟩ := crOf_lt l _ i h
      exact ⟨by simp [flatRows]; omega, N', by simp [h2], h3⟩
theorem crOf_append (l l2 : List (Nat × Heap)) (k : Nat) : crOf (l ++ l2) k = if k < (flatRows l).length then crOf l k else crOf l2 (k - (flatRows l).length) := by
  induction l generalizing k with
  | nil => simp [flatRows, crOf]
  | cons x l ih =>
    obtain ⟨j, N⟩ := x
    simp only [List.cons_append, crOf, flatRows, List.length_append]
    by_cases hk : k < N.length
    · simp [hk, show k < N.length + (flatRows l).length from by omega]
    · rw [if_neg hk, ih]
      by_cases h2 : k - N.length < (flatRows l).length
      · rw [if_pos h2, if_pos (by omega), if_neg hk]
      · rw [if_neg h2, if_neg (by omega)]
        congr 1; omega
theorem flatRows_append (l l2 : List (Nat × Heap)) : flatRows (l ++ l2) = flatRows l ++ flatRows l2 := by
  induction l with
  | nil => rfl
  | cons x l ih => obtain ⟨j, N⟩ := x; simp [flatRows, ih]
theorem mask_all {S : Nat → Bool} : ∀ {l : List (Nat × Heap)}, (∀ x ∈ l, S x.1 = true ∨ x.2 = []) → maskBy S l = flatRows l
  | [], _ => rfl
  | (j, N) :: l, h => by
    simp only [maskBy, flatRows]
    rw [mask_all fun x hx => h x (by simp [hx])]
    rcases h (j, N) (by simp) with h1 | h1
    · simp only at h1; rw [if_pos h1]
    · simp only at h1; subst h1; split <;> rfl
end Go.Abs
/-
The abstract machine: regions whose order is open. Second part: what comes before what; the run in the order of the text.
-/
namespace Go.Abs
open Go

def edgeMask (acc : List Nat) (o : Oper) : Nat := o.after.toList.foldl (fun s e => if Region.binds .any e then s ||| 2 ^ e.on ||| acc.getD e.on 0 else s) 0

theorem edges_bit (acc : List Nat) (j : Nat) : ∀ (l : List Edge) (s : Nat), (l.foldl (fun s e => if Region.binds .any e then s ||| 2 ^ e.on ||| acc.getD e.on 0 else s) s).testBit j = true ↔
    s.testBit j = true ∨ ∃ e ∈ l, Region.binds .any e = true ∧ (e.on = j ∨ (acc.getD e.on 0).testBit j = true)
  | [], s => by simp
  | e :: l, s => by
    rw [List.foldl_cons, edges_bit acc j l]
    by_cases hb : Region.binds .any e = true
    · simp only [if_pos hb, Nat.testBit_or, Nat.testBit_two_pow, Bool.or_eq_true, decide_eq_true_eq]
      constructor
      · rintro (((h | h) | h) | ⟨e', h1, h2⟩)
        · exact .inl h
        · exact .inr ⟨e, by simp, hb, .inl h⟩
        · exact .inr ⟨e, by simp, hb, .inr h⟩
        · exact .inr ⟨e', by simp [h1], h2⟩
      · rintro (h | ⟨e', h1, h2, h3⟩)
        · exact .inl (.inl (.inl h))
        · rcases List.mem_cons.1 h1 with rfl | h1
          · rcases h3 with h | h
            · exact .inl (.inl (.inr h))
            · exact .inl (.inr h)
          · exact .inr ⟨e', h1, h2, h3⟩
    · rw [if_neg hb]
      constructor
      · rintro (h | ⟨e', h1, h2⟩)
        · exact .inl h
        · exact .inr ⟨e', by simp [h1], h2⟩
      · rintro (h | ⟨e', h1, h2, h3⟩)
        · exact .inl h
        · rcases List.mem_cons.1 h1 with rfl | h1
          · exact absurd h2 hb
          · exact .inr ⟨e', h1, h2, h3⟩

theorem ancsFrom_spec : ∀ (os : List Oper) (acc : List Nat), ∃ t, ancsFrom os acc = acc ++ t ∧ t.length = os.length ∧
    ∀ k o, os[k]? = some o → (ancsFrom os acc).getD (acc.length + k) 0 = edgeMask ((ancsFrom os acc).take (acc.length + k)) o
  | [], acc => ⟨[], by simp [ancsFrom], rfl, fun k o h => by simp at h⟩
  | o :: os, acc => by
    obtain ⟨t, h1, h2, h3⟩ := ancsFrom_spec os (acc ++ [edgeMask acc o])
    have e : ancsFrom (o :: os) acc = ancsFrom os (acc ++ [edgeMask acc o]) := rfl
    refine ⟨edgeMask acc o :: t, by rw [e, h1]; simp, by simp [h2], fun k o' hk => ?_⟩
    cases k with
    | zero =>
      simp at hk; subst hk
      rw [e, h1]
      simp [List.getD_eq_getElem?_getD]
    | succ k =>
      have := h3 k o' (by simpa using hk)
      rw [e]
      simpa [Nat.add_assoc, Nat.add_comm 1 k] using this

section
variable {ops : Array Oper}

def anOf (ops : Array Oper) (i : Nat) : Nat := (ancs ops.toList).getD i 0

theorem an_bit (hd : okDraw ops = true) {i : Nat} {o : Oper} (ho : ops[i]? = some o) (j : Nat) : (anOf ops i).testBit j = true ↔ ∃ e ∈ o.after.toList, Region.binds .any e = true ∧ e.on < i ∧ (e.on = j ∨ (anOf ops e.on).testBit j = true) := by
  have hlt : ∀ e ∈ o.after.toList, Region.binds .any e = true → e.on < i := by
    intro e he hb
    simp only [okDraw, Bool.and_eq_true] at hd
    have h1 := List.all_eq_true.1 hd.1 (o, i) (List.mem_iff_getElem?.2 ⟨i, by rw [List.getElem?_zipIdx]; simp [Array.getElem?_toList, ho]⟩)
    have h2 := List.all_eq_true.1 h1 e he
    simpa [hb] using h2
  obtain ⟨t, h1, h2, h3⟩ := ancsFrom_spec ops.toList []
  have h4 := h3 i o (by rw [Array.getElem?_toList]; exact ho)
  simp only [List.length_nil, Nat.zero_add] at h4
  have h5 : anOf ops i = edgeMask ((ancs ops.toList).take i) o := h4
  have hget : ∀ e ∈ o.after.toList, Region.binds .any e = true → ((ancs ops.toList).take i).getD e.on 0 = anOf ops e.on := by
    intro e he hb
    have := hlt e he hb
    simp [anOf, List.getD_eq_getElem?_getD, List.getElem?_take, this]
  rw [h5, edgeMask, edges_bit]
  constructor
  · rintro (h | ⟨e, a, b, c⟩)
    · simp at h
    · exact ⟨e, a, b, hlt e a b, by rwa [hget e a b] at c⟩
  · rintro ⟨e, a, b, _, c⟩
    exact .inr ⟨e, a, b, by rwa [hget e a b]⟩

theorem an_lt (hd : okDraw ops = true) : ∀ (i j : Nat), i < ops.size → (anOf ops i).testBit j = true → j < i := by
  intro i
  induction i using Nat.strongRecOn with
  | _ i ih =>
    intro j hi h
    obtain ⟨e, _, _, h1, h2⟩ := (an_bit hd (Array.getElem?_eq_getElem hi) j).1 h
    rcases h2 with h2 | h2
    · omega
    · have := ih e.on h1 j (by omega) h2; omega
theorem an_trans (hd : okDraw ops = true) : ∀ (j i k : Nat), j < ops.size → (anOf ops j).testBit i = true → (anOf ops i).testBit k = true → (anOf ops j).testBit k = true := by
  intro j
  induction j using Nat.strongRecOn with
  | _ j ih =>
    intro i k hj h hk
    obtain ⟨e, a, b, h1, h2⟩ := (an_bit hd (Array.getElem?_eq_getElem hj) i).1 h
    refine (an_bit hd (Array.getElem?_eq_getElem hj) k).2 ⟨e, a, b, h1, .inr ?_⟩
    rcases h2 with h2 | h2
    · rw [h2]; exact hk
    · exact ih e.on h1 i k (by omega) h2 hk

/-- A set that holds, with an operation, all that comes before it. -/
def Closed (ops : Array Oper) (S : Nat → Bool) : Prop := ∀ i o, S i = true → ops[i]? = some o → ∀ e ∈ o.after.toList, Region.binds .any e = true → S e.on = true

theorem closed_an (hd : okDraw ops = true) {S : Nat → Bool} (hS : Closed ops S) : ∀ (i j : Nat), i < ops.size → (∀ o, ops[i]? = some o → ∀ e ∈ o.after.toList, Region.binds .any e = true → S e.on = true) → (anOf ops i).testBit j = true → S j = true := by
  intro i
  induction i using Nat.strongRecOn with
  | _ i ih =>
    intro j hi hpre h
    obtain ⟨e, a, b, h1, h2⟩ := (an_bit hd (Array.getElem?_eq_getElem hi) j).1 h
    have hse := hpre _ (Array.getElem?_eq_getElem hi) e a b
    rcases h2 with h2 | h2
    · rw [← h2]; exact hse
    · exact ih e.on h1 j (by omega) (fun o ho => hS e.on o hse ho) h2

theorem apart_of (hd : okDraw ops = true) {i j : Nat} {x y : Oper} (hi : ops[i]? = some x) (hj : ops[j]? = some y) (hlt : i < j) : (anOf ops j).testBit i = true ∨ Oper.apart ops x y = true := by
  simp only [okDraw, Bool.and_eq_true] at hd
  have mem : ∀ {k : Nat} {z : Oper}, ops[k]? = some z → (z, k) ∈ ops.toList.zipIdx := fun {k} {z} hk => List.mem_iff_getElem?.2 ⟨k, by rw [List.getElem?_zipIdx]; simp [Array.getElem?_toList, hk]⟩
  have h1 := List.all_eq_true.1 (List.all_eq_true.1 hd.2 (y, j) (mem hj)) (x, i) (mem hi)
  simp only [hlt, decide_true, Bool.not_true, Bool.false_or, Bool.or_eq_true] at h1
  exact h1
end

theorem pure_indep {P : Program} {c : Sub} {lim : Nat} {l : List Value} {o : Oper} {A R : Heap} {v : Value} (hp : isPure o.op = true) (h : aOper P c lim l o A = some (v, R)) :
    R = A ∧ ∀ lim' A', aOper P c lim' l o A' = some (v, A') := by
  have hpure : aPure P l o A = some (v, R) → R = A ∧ ∀ A', aPure P l o A' = some (v, A') := by
    intro h
    unfold aPure at h ⊢
    split at h
    · rename_i hall
      split at h
      · rename_i u hu
        split at h
        · rename_i hf
          cases h
          exact ⟨rfl, fun A' => by simp [hall, hu, hf]⟩
        · cases h
      · cases h
    · cases h
  have hmap : ∀ {x : Option Value}, x.map (fun y => (y, A)) = some (v, R) → R = A ∧ ∀ A' : Heap, x.map (fun y => (y, A')) = some (v, A') := by
    intro x h
    obtain ⟨z, hz, he⟩ := map_some h
    cases he
    exact ⟨rfl, fun A' => by rw [hz]; rfl⟩
  obtain ⟨dst, op, type, pos, after, guard⟩ := o
  have hnc : aCallOf l ⟨dst, op, type, pos, after, guard⟩ = none := by
    unfold aCallOf
    split
    · rename_i x xs ats ho
      simp only at ho hp
      rw [ho] at hp
      simp [isPure] at hp
    · rfl
  have hny : aYieldOf l ⟨dst, op, type, pos, after, guard⟩ = none := by
    unfold aYieldOf
    split
    · rename_i x xs ats ho
      simp only at ho hp
      rw [ho] at hp
      simp [isPure] at hp
    · rfl
  simp only [aOper, hny, hnc] at h ⊢
  cases op <;> simp only [isPure, Bool.false_eq_true] at hp
  case move x => cases h; exact ⟨rfl, fun _ _ => rfl⟩
  case assign x => cases h; exact ⟨rfl, fun _ _ => rfl⟩
  case pick c0 x y =>
    simp only [aOp] at h
    split at h
    · rename_i t ht; cases h; exact ⟨rfl, fun _ _ => by simp [aOp, ht]⟩
    · cases h
  case build t ps => exact ⟨(hmap h).1, fun _ A' => (hmap h).2 A'⟩
  case fieldAddr t x f => exact ⟨(hmap h).1, fun _ A' => (hmap h).2 A'⟩
  case indexAddr t x f => exact ⟨(hmap h).1, fun _ A' => (hmap h).2 A'⟩
  case field t x f => exact ⟨(hmap h).1, fun _ A' => (hmap h).2 A'⟩
  case index t x f => exact ⟨(hmap h).1, fun _ A' => (hmap h).2 A'⟩
  case nilCheck x => exact ⟨(hmap h).1, fun _ A' => (hmap h).2 A'⟩
  case sliceToArrayPointer t x => exact ⟨(hmap h).1, fun _ A' => (hmap h).2 A'⟩
  case extract x i =>
    simp only [aOp] at h
    split at h
    · rename_i vs hvs
      exact ⟨(hmap h).1, fun _ A' => by have := (hmap h).2 A'; simp only [aOp, hvs]; exact this⟩
    · cases h
  case makeFunc fn f c0 =>
    simp only [aOp] at h
    split at h
    · rename_i hy; cases h; exact ⟨rfl, fun _ _ => by simp [aOp, hy]⟩
    · cases h
  case makeInterface t x =>
    simp only [aOp] at h
    split at h
    · rename_i hy; cases h; exact ⟨rfl, fun _ _ => by simp [aOp, hy]⟩
    · cases h
  case unOp op t x => exact ⟨(hpure h).1, fun _ A' => (hpure h).2 A'⟩
  case binOp op t x y u =>
    cases op <;> simp only [aOp] at h <;> try exact ⟨(hpure h).1, fun _ A' => (hpure h).2 A'⟩
    all_goals
      split at h
      · rename_i b hb; cases h; exact ⟨rfl, fun _ _ => by simp [aOp, hb]⟩
      · rename_i hb
        split at h
        · rename_i b hb2; cases h; exact ⟨rfl, fun _ _ => by simp [aOp, hb, hb2]⟩
        · rename_i hb2; exact ⟨(hpure h).1, fun _ A' => by simp only [aOp, hb, hb2]; exact (hpure h).2 A'⟩
  case call c0 =>
    obtain ⟨callee, args, ats⟩ := c0
    cases callee with
    | value f => simp [isPure] at hp
    | invoke r m => simp [isPure] at hp
    | builtin b =>
      cases b <;> simp [isPure] at hp
      simp only [aOp] at h
      split at h
      · rename_i x hx
        exact ⟨(hmap h).1, fun _ A' => by have := (hmap h).2 A'; simp only [aOp, hx]; exact this⟩
      · cases h

/-- A state of a run in the order of the text. -/
structure DS where
  l : List Value
  B : Heap
  news : List (Nat × Heap)
def DS.full (s : DS) : Heap := s.B ++ flatRows s.news

/-- An operation that may run at any time. -/
def looseB (imp : FuncId → Bool) (ops : Array Oper) (o : Oper) (i : Nat) : Bool := isPure o.op || isFree (writersOf imp ops.toList) (ancs ops.toList) o i

inductive DStep (P : Program) (c : Sub) (lim : Nat) (imp : FuncId → Bool) (ops : Array Oper) (A0 : Heap) (rs : List Nat) (i : Nat) (o : Oper) (s : DS) : DS → Prop
  | skip (h : aWanted ops s.l o = false) : DStep P c lim imp ops A0 rs i o s ⟨tput s.l o.dst undef, s.B, s.news⟩
  | pure {v : Value} {R : Heap} (h : aWanted ops s.l o = true) (hp : isPure o.op = true) (hr : aOper P c lim s.l o [] = some (v, R)) : DStep P c lim imp ops A0 rs i o s ⟨tput s.l o.dst v, s.B, s.news⟩
  | free {v : Value} {R : Heap} {r : Nat} (h : aWanted ops s.l o = true) (hf : isFree (writersOf imp ops.toList) (ancs ops.toList) o i = true) (hrow : loadRow s.l o = some r) (hrs : r ∈ rs) (hr : aOper P c lim s.l o A0 = some (v, R)) :
      DStep P c lim imp ops A0 rs i o s ⟨tput s.l o.dst v, s.B, s.news⟩
  | solid {v : Value} {R : Heap} (h : aWanted ops s.l o = true) (hp : isPure o.op = false) (hf : isFree (writersOf imp ops.toList) (ancs ops.toList) o i = false) (hs : solidIn (writersOf imp ops.toList) ops.toList (ancs ops.toList) i = true)
      (hrow : isWriterAt imp s.l o = true → ∀ r ∈ rs, ∃ w, storeRow s.l o = some w ∧ w ≠ r) (hr : aOper P c (if isWriterAt imp s.l o then lim else s.full.length) s.l o s.full = some (v, R)) :
      DStep P c lim imp ops A0 rs i o s ⟨tput s.l o.dst v, R, []⟩
  | soft {v : Value} {R : Heap} (h : aWanted ops s.l o = true) (hp : isPure o.op = false) (hf : isFree (writersOf imp ops.toList) (ancs ops.toList) o i = false) (hn : solidIn (writersOf imp ops.toList) ops.toList (ancs ops.toList) i = false) (hr : aOper P c s.full.length s.l o (s.B ++ maskRows (anOf ops i) s.news) = some (v, R)) :
      DStep P c lim imp ops A0 rs i o s ⟨tput s.l o.dst v, s.B, s.news ++ [(i, R.drop s.full.length)]⟩

theorem rowsApart_spec {rs : List Nat} {wr : List (Option Nat)} (h : rowsApart rs wr = true) : ∀ r ∈ rs, ∀ w ∈ wr, ∃ w', w = some w' ∧ w' ≠ r := by
  intro r hr w hw
  have := List.all_eq_true.1 (List.all_eq_true.1 h r hr) w hw
  cases w with
  | none => simp at this
  | some w => exact ⟨w, rfl, by simpa using this⟩

theorem trace {P : Program} {c : Sub} {lim : Nat} {imp : FuncId → Bool} {ops : Array Oper} {A0 : Heap} {l' : List Value} {A' : Heap} : ∀ (rest : List Oper) (k : Nat) (s : DS) (rs : List Nat) (wr : List (Option Nat)), rest = ops.toList.drop k → k ≤ ops.size →
    aDrawGo P c lim imp ops (ancs ops.toList) (writersOf imp ops.toList) A0 (rest.zipIdx k) s.l s.B s.news rs wr = some (l', A') →
    ∃ (rsF : List Nat) (st : Nat → DS), (∀ r ∈ rs, r ∈ rsF) ∧ (∀ w ∈ wr, ∀ r ∈ rsF, ∃ w', w = some w' ∧ w' ≠ r) ∧ st k = s ∧ (st ops.size).l = l' ∧ (st ops.size).full = A' ∧ ∀ i, k ≤ i → i < ops.size → ∃ o, ops[i]? = some o ∧ DStep P c lim imp ops A0 rsF i o (st i) (st (i + 1))
  | [], k, s, rs, wr, hr, hk, h => by
    have : ops.size ≤ k := by
      have := congrArg List.length hr
      simp at this; omega
    have hk : k = ops.size := by omega
    subst hk
    simp only [List.zipIdx_nil, aDrawGo] at h
    split at h
    · rename_i ha
      cases h
      exact ⟨rs, fun _ => s, fun _ h => h, fun w hw r hr => rowsApart_spec ha r hr w hw, rfl, rfl, rfl, fun i h1 h2 => by omega⟩
    · cases h
  | o :: rest, k, s, rs, wr, hr, hk, h => by
    have hlt : k < ops.size := by
      have := congrArg List.length hr
      simp at this; omega
    have hd := List.drop_eq_getElem_cons (l := ops.toList) (i := k) (by simpa using hlt)
    rw [hd] at hr
    simp only [List.cons.injEq] at hr
    have ho : ops[k]? = some o := by rw [Array.getElem?_eq_getElem hlt]; simp [hr.1]
    have go : ∀ (s' : DS) (rs1 : List Nat) (wr1 : List (Option Nat)), (∀ r ∈ rs, r ∈ rs1) → (∀ w ∈ wr, w ∈ wr1) → (∀ rsF : List Nat, (∀ r ∈ rs1, r ∈ rsF) → (∀ w ∈ wr1, ∀ r ∈ rsF, ∃ w', w = some w' ∧ w' ≠ r) → DStep P c lim imp ops A0 rsF k o s s') →
        aDrawGo P c lim imp ops (ancs ops.toList) (writersOf imp ops.toList) A0 (rest.zipIdx (k + 1)) s'.l s'.B s'.news rs1 wr1 = some (l', A') →
        ∃ (rsF : List Nat) (st : Nat → DS), (∀ r ∈ rs, r ∈ rsF) ∧ (∀ w ∈ wr, ∀ r ∈ rsF, ∃ w', w = some w' ∧ w' ≠ r) ∧ st k = s ∧ (st ops.size).l = l' ∧ (st ops.size).full = A' ∧ ∀ i, k ≤ i → i < ops.size → ∃ o, ops[i]? = some o ∧ DStep P c lim imp ops A0 rsF i o (st i) (st (i + 1)) := fun s' rs1 wr1 hrs hwr hs h' => by
      obtain ⟨rsF, st, g1, g2, h1, h2, h3, h4⟩ := trace rest (k + 1) s' rs1 wr1 hr.2 (by omega) h'
      have hne : ¬ ops.size = k := by omega
      exact ⟨rsF, fun i => if i = k then s else st i, fun r hr => g1 r (hrs r hr), fun w hw => g2 w (hwr w hw), by simp, by simpa [hne] using h2, by simpa [hne] using h3, fun i hi1 hi2 => by
        by_cases hik : i = k
        · subst hik
          refine ⟨o, ho, ?_⟩
          have h5 : ¬ i + 1 = i := by omega
          show DStep P c lim imp ops A0 rsF i o (if i = i then s else st i) (if i + 1 = i then s else st (i + 1))
          rw [if_pos rfl, if_neg h5, h1]; exact hs rsF g1 g2
        · obtain ⟨o', a, b⟩ := h4 i (by omega) hi2
          refine ⟨o', a, ?_⟩
          have h5 : ¬ i + 1 = k := by omega
          show DStep P c lim imp ops A0 rsF i o' (if i = k then s else st i) (if i + 1 = k then s else st (i + 1))
          rw [if_neg hik, if_neg h5]; exact b⟩
    simp only [List.zipIdx_cons, aDrawGo] at h
    split at h
    · rename_i hw
      split at h
      · rename_i hp
        split at h
        · rename_i v R hop
          exact go ⟨tput s.l o.dst v, s.B, s.news⟩ rs wr (fun _ h => h) (fun _ h => h) (fun rsF g1 g2 => .pure hw hp hop) h
        · cases h
      rename_i hpure
      split at h
      · rename_i hf
        split at h
        · rename_i r hrow
          split at h
          · rename_i v R hop
            exact go ⟨tput s.l o.dst v, s.B, s.news⟩ (r :: rs) wr (fun r hr => List.mem_cons_of_mem _ hr) (fun _ h => h) (fun rsF g1 g2 => .free hw hf hrow (g1 r (by simp)) hop) h
          · cases h
        · cases h
      · rename_i hf
        split at h
        · rename_i hws
          rw [fullOf_eq] at h
          split at h
          · rename_i v R hop
            exact go ⟨tput s.l o.dst v, R, []⟩ rs (if isWriterAt imp s.l o then storeRow s.l o :: wr else wr) (fun _ h => h) (fun w hw => by split <;> simp [hw])
              (fun rsF g1 g2 => .solid hw (by simpa using hpure) (by simpa using hf) hws (fun hwr => g2 _ (by rw [if_pos hwr]; simp)) hop) h
          · cases h
        · rename_i hws
          split at h
          · rename_i v R hop
            exact go ⟨tput s.l o.dst v, s.B, s.news ++ [(k, R.drop s.full.length)]⟩ rs wr (fun _ h => h) (fun _ h => h) (fun rsF g1 g2 => .soft hw (by simpa using hpure) (by simpa using hf) (by simpa using hws) hop) h
          · cases h
    · rename_i hw
      exact go ⟨tput s.l o.dst undef, s.B, s.news⟩ rs wr (fun _ h => h) (fun _ h => h) (fun rsF g1 g2 => .skip (by simpa using hw)) h

theorem aSlice_indep {P : Program} {t : TypeId} {x : Value} {lo hi : Option Value} {A A' : Heap} {r off n c : Nat} (hx : x = .pointer (some ⟨r, off, none⟩) ∨ x = .slice (some ⟨r, off, none⟩) n c) (hg : hget A' r = hget A r) : aSlice P t x lo hi A' = aSlice P t x lo hi A := by
  unfold aSlice
  generalize P.underlying t = u
  cases u with
  | none => rfl
  | some d => rcases hx with rfl | rfl <;> cases d <;> first | rfl | simp only [hg]
theorem aSlice_lt {P : Program} {t : TypeId} {x v : Value} {lo hi : Option Value} {A : Heap} {r off n c : Nat} (hx : x = .pointer (some ⟨r, off, none⟩) ∨ x = .slice (some ⟨r, off, none⟩) n c) (h : aSlice P t x lo hi A = some v) : r < A.length := by
  cases hq : hget A r with
  | some q => exact hget_lt hq
  | none =>
    rcases hx with rfl | rfl <;> (unfold aSlice at h; simp only [hq] at h; repeat' (split at h)) <;> first | (cases h; done) | simp_all
/-- A load depends on its row alone; so does a slice. -/
theorem load_indep {P : Program} {c : Sub} {lim lim' : Nat} {l : List Value} {o : Oper} {A A' R : Heap} {v : Value} {r : Nat} (hrow : loadRow l o = some r) (h : aOper P c lim l o A = some (v, R)) (hg : hget A' r = hget A r) : aOper P c lim' l o A' = some (v, A') ∧ r < A.length := by
  obtain ⟨dst, op, type, pos, after, guard⟩ := o
  cases op <;> simp only [loadRow, reduceCtorEq] at hrow
  case load t a =>
    split at hrow
    · rename_i i off hev
      cases hrow
      simp only [aOper, aYieldOf, aCallOf, aOp, aLoad, hev, hg] at h ⊢
      cases hx : hget A r with
      | none => rw [hx] at h; cases h
      | some q =>
        rw [hx] at h
        obtain ⟨z, hz, he⟩ := map_some h
        cases he
        exact ⟨by rw [hz]; rfl, hget_lt hx⟩
    · cases hrow
  case slice t x lo hi mx =>
    cases mx with
    | some m => cases hrow
    | none =>
      have key : ∃ off n c, ev l x = .pointer (some ⟨r, off, none⟩) ∨ ev l x = .slice (some ⟨r, off, none⟩) n c := by
        simp only at hrow
        split at hrow
        · rename_i i off hev; cases hrow; exact ⟨off, 0, 0, .inl hev⟩
        · rename_i i off n c hev; cases hrow; exact ⟨off, n, c, .inr hev⟩
        · cases hrow
      obtain ⟨off, n, c, hev⟩ := key
      have hfree : freeB (ev l x) = false := by rcases hev with h | h <;> rw [h] <;> rfl
      simp only [aOper, aYieldOf, aCallOf, aOp] at h ⊢
      split at h
      · simp [aPure, Op.operands, hfree] at h
      · rename_i hns
        obtain ⟨z, hz, he⟩ := map_some h
        cases he
        refine ⟨?_, aSlice_lt hev hz⟩
        rw [aSlice_indep hev hg, hz]; rfl

theorem append_indep {P : Program} {lim : Nat} {ats : Array TypeId} {s x v : Value} {A A' : Heap} (h : aAppend P lim ats s x A = some (v, A')) {r : Nat} (hr : r < A.length) (hne : ∀ i o n c, s = .slice (some ⟨i, o, none⟩) n c → i ≠ r) : hget A' r = hget A r := by
  have push : ∀ (B : Heap) (y : Option ARow), B.length = A.length → hget (B ++ [y]) r = hget B r := fun B y hB => by rw [hget_append, if_pos (by omega)]
  unfold aAppend at h
  repeat' (split at h)
  all_goals first
    | (cases h; done)
    | (cases h; rfl)
    | (cases h; exact push _ _ rfl)
    | (cases h; rw [push _ _ (by simp), hget_hset, if_neg (fun hc => hne _ _ _ _ rfl hc.1)])

/-- A store turns its row alone. -/
theorem store_indep {P : Program} {c : Sub} {lim : Nat} {l : List Value} {o : Oper} {A R : Heap} {v : Value} {w r : Nat} (hrow : storeRow l o = some w) (h : aOper P c lim l o A = some (v, R)) (hne : w ≠ r) (hr : r < A.length) : hget R r = hget A r := by
  obtain ⟨dst, op, type, pos, after, guard⟩ := o
  unfold storeRow at hrow
  simp only at hrow
  split at hrow
  · rename_i t a x
    split at hrow
    · rename_i i off hev
      cases hrow
      simp only [aOper, aYieldOf, aCallOf, aOp] at h
      obtain ⟨z, hz, he⟩ := map_some h
      cases he
      rw [hev] at hz
      simp only [aStore] at hz
      split at hz
      · split at hz
        · cases hz
          rw [hget_hset, if_neg (fun hc => hne hc.1)]
        · cases hz
      · cases hz
    · cases hrow
  · rename_i args ats
    split at hrow
    · rename_i a b hargs
      simp only [aOper, aYieldOf, aCallOf, aOp, hargs] at h
      refine append_indep h hr fun i o n cc hs => ?_
      rw [hs] at hrow
      simp only [Option.some.injEq] at hrow
      omega
    · cases hrow
  · cases hrow
end Go.Abs
/-
The abstract machine: regions whose order is open. Third part: the run in the order of the text; slots; rows.
-/
namespace Go.Abs
open Go

def Trace (P : Program) (c : Sub) (lim : Nat) (imp : FuncId → Bool) (ops : Array Oper) (At : Heap) (rs : List Nat) (st : Nat → DS) : Prop :=
  ∀ i o, ops[i]? = some o → DStep P c lim imp ops At rs i o (st i) (st (i + 1))

theorem Keeps.append (lim : Nat) (A X : Heap) : Keeps lim A (A ++ X) := ⟨by simp, fun i _ hA => by rw [hget_append, if_pos hA]⟩

noncomputable def isSol (imp : FuncId → Bool) (ops : Array Oper) (o : Oper) (i : Nat) (s : DS) : Bool :=
  aWanted ops s.l o && (!looseB imp ops o i && solidIn (writersOf imp ops.toList) ops.toList (ancs ops.toList) i)

section
variable {P : Program} {c : Sub} {lim : Nat} {imp : FuncId → Bool} {ops : Array Oper} {At : Heap} {rs : List Nat} {st : Nat → DS}

theorem trace_of {l l' : List Value} {A A' : Heap} (h : aDraw P c lim imp ops l A = some (l', A')) :
    ∃ (rs : List Nat) (st : Nat → DS), st 0 = ⟨l, A, []⟩ ∧ (st ops.size).l = l' ∧ (st ops.size).full = A' ∧ Trace P c lim imp ops A rs st := by
  obtain ⟨rs, st, _, _, h1, h2, h3, h4⟩ := trace ops.toList 0 ⟨l, A, []⟩ [] [] (by simp) (by omega) h
  refine ⟨rs, st, h1, h2, h3, fun i o ho => ?_⟩
  obtain ⟨o', ho', hs⟩ := h4 i (by omega) (Array.getElem?_eq_some_iff.1 ho).1
  rw [ho] at ho'; cases ho'
  exact hs

theorem DStep.keeps (hC : SubKeeps c) {i : Nat} {o : Oper} {s s' : DS} (h : DStep P c lim imp ops At rs i o s s') : Keeps lim s.full s'.full := by
  cases h with
  | skip => exact Keeps.refl _ _
  | pure => exact Keeps.refl _ _
  | free => exact Keeps.refl _ _
  | solid hw hp hf h2 hrow hr =>
    have := aOper_keeps hC hr
    split at this
    · simpa [DS.full, flatRows] using this
    · have h3 : Keeps lim s.full _ := ⟨this.1, fun i _ hA => this.2 i hA hA⟩
      simpa [DS.full, flatRows] using h3
  | soft hw hp hnf hn hr =>
    rename_i v R
    have := Keeps.append lim s.full (R.drop s.full.length)
    simpa [DS.full, flatRows_append, flatRows] using this

theorem Trace.keeps (hT : Trace P c lim imp ops At rs st) (hC : SubKeeps c) (i : Nat) : ∀ d, i + d ≤ ops.size → Keeps lim (st i).full (st (i + d)).full
  | 0, _ => Keeps.refl _ _
  | d + 1, h => (hT.keeps hC i d (by omega)).trans ((hT (i + d) _ (Array.getElem?_eq_getElem (by omega))).keeps hC)

theorem draw_keeps (hC : SubKeeps c) : DrawKeeps P lim imp c := by
  intro ops l A l' A' h
  obtain ⟨rs, st, h1, h2, h3, hT⟩ := trace_of h
  have := hT.keeps hC 0 ops.size (by omega)
  rw [h1, Nat.zero_add, h3] at this
  simpa [DS.full, flatRows] using this

/-- What an operation that is not solid does to the rows. -/
def Made (imp : FuncId → Bool) (ops : Array Oper) (st : Nat → DS) (x : Nat × Heap) : Prop :=
  ∃ o, ops[x.1]? = some o ∧ (x.2 ≠ [] → looseB imp ops o x.1 = false ∧ aWanted ops (st x.1).l o = true)

theorem quiet_step (hT : Trace P c lim imp ops At rs st) {i : Nat} {o : Oper} (ho : ops[i]? = some o) (hq : isSol imp ops o i (st i) = false) :
    (st (i + 1)).B = (st i).B ∧ ∃ X, (st (i + 1)).news = (st i).news ++ X ∧ ∀ x ∈ X, x.1 = i ∧ Made imp ops st x := by
  have h := hT i o ho
  unfold isSol at hq
  generalize he : st (i + 1) = s' at h ⊢
  cases h with
  | skip => exact ⟨rfl, [], by simp, fun x hx => by cases hx⟩
  | pure => exact ⟨rfl, [], by simp, fun x hx => by cases hx⟩
  | free => exact ⟨rfl, [], by simp, fun x hx => by cases hx⟩
  | solid hw hp hf h2 _ hr => rw [hw, h2] at hq; simp [looseB, hp, hf] at hq
  | soft hw hp hf hn hr =>
    refine ⟨rfl, _, rfl, fun x hx => ?_⟩
    simp only [List.mem_singleton] at hx
    subst hx
    exact ⟨rfl, o, ho, fun _ => ⟨by simp [looseB, hf, hp], hw⟩⟩

def QuietIn (imp : FuncId → Bool) (ops : Array Oper) (st : Nat → DS) (q e : Nat) : Prop := ∀ i o, q ≤ i → i < e → ops[i]? = some o → isSol imp ops o i (st i) = false

theorem quiet_news (hT : Trace P c lim imp ops At rs st) (q : Nat) : ∀ d, q + d ≤ ops.size → QuietIn imp ops st q (q + d) →
    (st (q + d)).B = (st q).B ∧ ∃ X, (st (q + d)).news = (st q).news ++ X ∧ ∀ x ∈ X, (q ≤ x.1 ∧ x.1 < q + d) ∧ Made imp ops st x
  | 0, _, _ => ⟨rfl, [], by simp, fun x hx => by cases hx⟩
  | d + 1, h, hq => by
    obtain ⟨h1, X, h2, h3⟩ := quiet_news hT q d (by omega) (fun i o a b => hq i o a (by omega))
    have hlt : q + d < ops.size := by omega
    obtain ⟨g1, Y, g2, g3⟩ := quiet_step hT (Array.getElem?_eq_getElem hlt) (hq (q + d) _ (by omega) (by omega) (Array.getElem?_eq_getElem hlt))
    refine ⟨g1.trans h1, X ++ Y, by rw [show q + (d + 1) = q + d + 1 from rfl, g2, h2, List.append_assoc], fun x hx => ?_⟩
    rcases List.mem_append.1 hx with hx | hx
    · have := h3 x hx; exact ⟨⟨this.1.1, by omega⟩, this.2⟩
    · have := g3 x hx; exact ⟨⟨by omega, by omega⟩, this.2⟩

theorem DStep.slot {i : Nat} {o : Oper} {s s' : DS} (h : DStep P c lim imp ops At rs i o s s') {t : Nat} (ht : o.dst ≠ some t) : tget s'.l t = tget s.l t := by
  have key : ∀ v, tget (tput s.l o.dst v) t = tget s.l t := fun v => by
    unfold tput
    split
    · rename_i d hd
      rw [tget_tset, if_neg (fun e => ht (by rw [hd, e]))]
    · rfl
  cases h <;> exact key _

theorem same_slot (hT : Trace P c lim imp ops At rs st) {t : Nat} (i : Nat) : ∀ d, i + d ≤ ops.size → (∀ k o, i ≤ k → k < i + d → ops[k]? = some o → o.dst ≠ some t) → tget (st (i + d)).l t = tget (st i).l t
  | 0, _, _ => rfl
  | d + 1, h, hn => by
    have hlt : i + d < ops.size := by omega
    have h1 := same_slot hT i d (by omega) (fun k o a b => hn k o a (by omega))
    rw [← h1]
    exact (hT (i + d) _ (Array.getElem?_eq_getElem hlt)).slot (hn (i + d) _ (by omega) (by omega) (Array.getElem?_eq_getElem hlt))

/-- The next solid operation. -/
theorem next_solid (imp : FuncId → Bool) (ops : Array Oper) (st : Nat → DS) : ∀ (d q : Nat), q + d = ops.size → ∃ e, q ≤ e ∧ e ≤ ops.size ∧ QuietIn imp ops st q e ∧ (e = ops.size ∨ ∃ o, ops[e]? = some o ∧ isSol imp ops o e (st e) = true)
  | 0, q, h => ⟨q, Nat.le_refl _, by omega, fun i o a b => by omega, .inl (by omega)⟩
  | d + 1, q, h => by
    have hlt : q < ops.size := by omega
    have ho := Array.getElem?_eq_getElem hlt
    cases hs : isSol imp ops ops[q] q (st q) with
    | true => exact ⟨q, Nat.le_refl _, by omega, fun i o a b => by omega, .inr ⟨_, ho, hs⟩⟩
    | false =>
      obtain ⟨e, h1, h2, h3, h4⟩ := next_solid imp ops st d (q + 1) (by omega)
      refine ⟨e, by omega, h2, fun i o a b hi => ?_, h4⟩
      by_cases hiq : i = q
      · subst hiq; rw [ho] at hi; cases hi; exact hs
      · exact h3 i o (by omega) b hi

/-- Rows that free loads read stay as they are. -/
theorem free_rows (hT : Trace P c lim imp ops At rs st) (h0 : (st 0).full = At) {r : Nat} (hr : r ∈ rs) (hlt : r < At.length) (hC : SubKeeps c) : ∀ k, k ≤ ops.size → hget (st k).full r = hget At r
  | 0, _ => by rw [h0]
  | k + 1, hk => by
    have ih := free_rows hT h0 hr hlt hC k (by omega)
    have hle : r < (st k).full.length := by
      have := (hT.keeps hC 0 k (by omega)).1
      rw [h0, Nat.zero_add] at this; omega
    have hs := hT k _ (Array.getElem?_eq_getElem (by omega))
    rw [← ih]
    generalize st (k + 1) = s' at hs
    cases hs with
    | skip => rfl
    | pure => rfl
    | free => rfl
    | solid hw hp hf h2 hrow hop =>
      by_cases hwr : isWriterAt imp (st k).l ops[k] = true
      · obtain ⟨w, hw1, hw2⟩ := hrow hwr r hr
        have := store_indep hw1 hop hw2 hle
        simpa [DS.full, flatRows] using this
      · rw [if_neg hwr] at hop
        have := (aOper_keeps hC hop).2 r hle hle
        simpa [DS.full, flatRows] using this
    | soft hw hp hf hn hop =>
      simp only [DS.full, flatRows_append, ← List.append_assoc] at hle ⊢
      rw [hget_append, if_pos hle]

def withSelf (ops : Array Oper) (i : Nat) : Nat → Bool := fun k => (anOf ops i).testBit k || k == i
def addS (S : Nat → Bool) (j : Nat) : Nat → Bool := fun k => S k || k == j
def noneS : Nat → Bool := fun _ => false

/-- What the slots hold when the operations of S have run. -/
def Slots (ops : Array Oper) (st : Nat → DS) (S : Nat → Bool) (V : (Nat → Bool) → Loc) (a : Act) : Prop :=
  ∀ t, ((∀ i o, S i = true → ops[i]? = some o → o.dst ≠ some t) ∧ VR (V noneS) (tget (st 0).l t) (a.tmps.getD t undef)) ∨
    ∃ i o, S i = true ∧ ops[i]? = some o ∧ o.dst = some t ∧ (∀ k o', S k = true → ops[k]? = some o' → o'.dst = some t → k ≤ i) ∧ VR (V (withSelf ops i)) (tget (st (i + 1)).l t) (a.tmps.getD t undef)

/-- An operation that may run now. -/
structure Ready (ops : Array Oper) (S : Nat → Bool) (j : Nat) (o : Oper) : Prop where
  at_ : ops[j]? = some o
  new : S j = false
  pre : ∀ e ∈ o.after.toList, Region.binds .any e = true → S e.on = true

variable {S : Nat → Bool}

theorem Ready.lt {j : Nat} {o : Oper} (h : Ready ops S j o) : j < ops.size := (Array.getElem?_eq_some_iff.1 h.at_).1
theorem Ready.an (hd : okDraw ops = true) (hS : Closed ops S) {j : Nat} {o : Oper} (h : Ready ops S j o) {k : Nat} (hk : (anOf ops j).testBit k = true) : S k = true :=
  closed_an hd hS j k h.lt (fun o' ho' => by rw [h.at_] at ho'; cases ho'; exact h.pre) hk
theorem not_an (hd : okDraw ops = true) (hS : Closed ops S) {i j : Nat} {o x : Oper} (h : Ready ops S j o) (hi : ops[i]? = some x) (hSi : S i = true) : (anOf ops i).testBit j = false := by
  cases hb : (anOf ops i).testBit j with
  | false => rfl
  | true =>
    have := closed_an hd hS i j (Array.getElem?_eq_some_iff.1 hi).1 (fun o' ho' => hS i o' hSi ho') hb
    rw [h.new] at this; cases this
theorem closed_add (hS : Closed ops S) {j : Nat} {o : Oper} (h : Ready ops S j o) : Closed ops (addS S j) := by
  intro i o' hi ho' e he hb
  simp only [addS, Bool.or_eq_true, beq_iff_eq] at hi ⊢
  rcases hi with hi | rfl
  · exact .inl (hS i o' hi ho' e he hb)
  · rw [h.at_] at ho'; cases ho'; exact .inl (h.pre e he hb)

/-- What an operation looks at is as in the order of the text. -/
theorem slot_ok (hd : okDraw ops = true) (hT : Trace P c lim imp ops At rs st) (hS : Closed ops S) {V : (Nat → Bool) → Loc} (hV : ∀ m m' : Nat → Bool, (∀ k, m k = true → m' k = true) → Ext (V m) (V m'))
    {a : Act} (hs : Slots ops st S V a) {j : Nat} {o : Oper} (h : Ready ops S j o) {t : Nat} (ht : t ∈ o.looksAt ops) : VR (V fun k => (anOf ops j).testBit k) (tget (st j).l t) (a.tmps.getD t undef) := by
  have hj := h.lt
  -- a writer before j comes before it always
  have wr : ∀ k o', ops[k]? = some o' → o'.dst = some t → k < j → (anOf ops j).testBit k = true := by
    intro k o' hk hdst hlt
    rcases apart_of hd hk h.at_ hlt with h1 | h1
    · exact h1
    · exact absurd ht ((Oper.apart_spec h1).1 t hdst)
  rcases hs t with ⟨h1, h2⟩ | ⟨i, oi, h1, h2, h3, h4, h5⟩
  · have := same_slot hT (t := t) 0 j (by omega) (fun k o' _ hk ho' hdst => h1 k o' (h.an hd hS (wr k o' ho' hdst (by omega))) ho' hdst)
    rw [Nat.zero_add] at this
    rw [this]
    exact h2.mono (hV _ _ fun k hk => by cases hk)
  · have hne : i ≠ j := fun e => by rw [e, h.new] at h1; cases h1
    rcases Nat.lt_or_ge i j with hlt | hge
    · have hw := wr i oi h2 h3 hlt
      have := same_slot hT (t := t) (i + 1) (j - (i + 1)) (by omega) (fun k o' hk1 hk2 ho' hdst => by
        have := h4 k o' (h.an hd hS (wr k o' ho' hdst (by omega))) ho' hdst
        omega)
      rw [show i + 1 + (j - (i + 1)) = j from by omega] at this
      rw [this]
      refine h5.mono (hV _ _ fun k hk => ?_)
      simp only [withSelf, Bool.or_eq_true, beq_iff_eq] at hk
      rcases hk with hk | rfl
      · exact an_trans hd j i k hj hw hk
      · exact hw
    · have hlt : j < i := by omega
      rcases apart_of hd h.at_ h2 hlt with g | g
      · rw [not_an hd hS h h2 h1] at g; cases g
      · exact absurd ht ((Oper.apart_spec g).2.2 t h3)

/-- An operation has run: the slots. -/
theorem slots_put (hd : okDraw ops = true) (hS : Closed ops S) {V V' : (Nat → Bool) → Loc} (hVV : ∀ m, Ext (V m) (V' m)) {a : Act} (hs : Slots ops st S V a) {j : Nat} {o : Oper} (h : Ready ops S j o)
    {v v' : Value} (hl : (st (j + 1)).l = tput (st j).l o.dst v) (hv : VR (V' (withSelf ops j)) v v') (hnt : ∀ d, o.dst = some d → d < a.tmps.size) : Slots ops st (addS S j) V' (a.put o.dst v') := by
  intro t
  by_cases ht : o.dst = some t
  · refine .inr ⟨j, o, by simp [addS], h.at_, ht, fun k o' hk ho' hdst => ?_, ?_⟩
    · simp only [addS, Bool.or_eq_true, beq_iff_eq] at hk
      rcases hk with hk | rfl
      · rcases Nat.lt_or_ge j k with hlt | hge
        · rcases apart_of hd h.at_ ho' hlt with g | g
          · rw [not_an hd hS h ho' hk] at g; cases g
          · exact absurd hdst ((Oper.apart_spec g).2.1 t ht)
        · exact hge
      · exact Nat.le_refl _
    · have hlt := hnt t ht
      rw [hl, ht]
      simp only [tput, tget_tset, if_true, Act.put]
      simpa [hlt] using hv
  · have hput : (a.put o.dst v').tmps.getD t undef = a.tmps.getD t undef := by
      cases hdst : o.dst with
      | none => rfl
      | some d =>
        have hne : d ≠ t := fun e => ht (by rw [hdst, e])
        simp [Act.put, Array.getElem?_setIfInBounds_ne hne]
    rw [hput]
    rcases hs t with ⟨h1, h2⟩ | ⟨i, oi, h1, h2, h3, h4, h5⟩
    · refine .inl ⟨fun i o' hi ho' => ?_, h2.mono (hVV _)⟩
      simp only [addS, Bool.or_eq_true, beq_iff_eq] at hi
      rcases hi with hi | rfl
      · exact h1 i o' hi ho'
      · rw [h.at_] at ho'; cases ho'; exact ht
    · refine .inr ⟨i, oi, by simp [addS, h1], h2, h3, fun k o' hk ho' hdst => ?_, h5.mono (hVV _)⟩
      simp only [addS, Bool.or_eq_true, beq_iff_eq] at hk
      rcases hk with hk | rfl
      · exact h4 k o' hk ho' hdst
      · rw [h.at_] at ho'; cases ho'; exact absurd hdst ht
end

theorem RowOK.transfer {P : Program} {ρ0 ρ1 ρ' : Loc} {w w' : World} {L : L4} {r : ARow} (h0 : RowOK P ρ0 w L r) (h1 : RowOK P ρ1 w' L r) (hρ : ∀ i L, ρ0 i = some L → ρ' i = ρ1 i) : RowOK P ρ' w' L r := by
  cases r with
  | cells cs e use =>
    obtain ⟨c0, _, _, _, a0, _⟩ := h0
    obtain ⟨c1, e1, fz, b1, a1, rest⟩ := h1
    refine ⟨c1, e1, fz, b1, fun o v hv => ?_, rest⟩
    obtain ⟨v0, _, hv0⟩ := a0 o v hv
    obtain ⟨v1, hc1, hv1⟩ := a1 o v hv
    exact ⟨v1, hc1, VR.transfer hρ hv0 hv1⟩
  | iter s pos => exact h1
  | loop =>
    obtain ⟨t2, f2, d2, b1, b2, b3⟩ := h1
    obtain ⟨t1, f1, d1, c1, c2, _⟩ := h0
    exact ⟨t2, f2, d2, b1, fun k => VR.transfer hρ (c2 k) (b2 k), b3⟩
  | map =>
    obtain ⟨es2, b1, b2, b3⟩ := h1
    obtain ⟨es1, c1, c2, c3⟩ := h0
    exact ⟨es2, b1, b2, fun k key val born hk => let ⟨e2, y1, y2, y3, y4⟩ := b3 k key val born hk; let ⟨e1, _, _, _, z4⟩ := c3 k key val born hk; ⟨e2, y1, y2, y3, VR.transfer hρ z4 y4⟩⟩
  | miter =>
    obtain ⟨o2, M2, b1, b2⟩ := h1
    obtain ⟨_, M1, c1, _⟩ := h0
    exact ⟨o2, M2, (hρ _ _ c1).trans b1, b2⟩

/-- Rows of the others stay; rows of the piece are as it left them. -/
theorem soft_rows {P : Program} {ρ ρ1 ρM : Loc} {H M R : Heap} {w w' : World} (hH : Rel P ρ H w) (hsub : ∀ id r, hget M id = some r → hget H id = some r) (hρM : Ext ρM ρ) (hM : Rel P ρM M w)
    (hmv : Moves ρM M w ρ1 R w') (hk : ∀ id, id < M.length → hget R id = hget M id) {id : Nat} {r : ARow} {L : L4} (h1 : hget H id = some r) (h2 : ρ id = some L) :
    w'.heap[L.blk]? = w.heap[L.blk]? ∨ (hget M id = some r ∧ hget R id = some r ∧ ρ1 id = some L) := by
  cases hm : hget M id with
  | some q =>
    have hq : q = r := by have := hsub id q hm; rw [h1] at this; cases this; rfl
    subst hq
    have hlt := hget_lt hm
    obtain ⟨L', hL'⟩ := hM.has id q hm
    have : L' = L := by have := hρM id L' hL'; rw [h2] at this; cases this; rfl
    subst this
    exact .inr ⟨rfl, by rw [hk id hlt]; exact hm, by rw [hmv.same id hlt]; exact hL'⟩
  | none =>
    refine .inl (hmv.frame L.blk (hH.row id r L h1 h2).lt ?_)
    rintro ⟨k, q, K, a1, a2, a3, a4⟩
    have hne : k ≠ id := fun e => by subst e; rw [hm] at a1; cases a1
    exact hH.sep k id q r K L (hsub k q a1) h1 (hρM k K a2) h2 hne a3 a4
end Go.Abs
/-
The abstract machine: regions whose order is open. Fourth part: what holds when some of the operations have run.
-/
namespace Go.Abs
open Go

theorem yielded_at {ρ : Loc} {l : List Value} {a : Act} (ops : Array Oper) (j : Nat) (h : ∀ d, (ops[j]?).bind (·.dst) = some d → VR ρ (tget l d) (a.tmps.getD d undef)) : aYielded ops l j = yielded ops a.tmps j := by
  unfold aYielded yielded
  cases hd : (ops[j]?).bind (·.dst) with
  | none => rfl
  | some d =>
    have hr := h d hd
    rw [Array.getD_eq_getD_getElem?] at hr
    simp only [Option.bind_some]
    cases hy : a.tmps[d]? with
    | none =>
      rw [hy] at hr
      simp only [Option.getD_none] at hr
      have hn : ∀ b, tget l d ≠ .bool b := by
        intro b hb; rw [hb] at hr; have := hr.bool_inv; simp [undef] at this
      split
      · rename_i b hb; exact absurd hb (hn b)
      · rfl
    | some y =>
      rw [hy] at hr
      simp only [Option.getD_some] at hr
      generalize tget l d = x at hr
      cases hr with
      | atom h => cases y <;> rfl
      | junk h => cases y <;> first | rfl | exact absurd rfl (h _)
      | _ => rfl
theorem wanted_at {ρ : Loc} {l : List Value} {a : Act} (ops : Array Oper) (o : Oper) (h : ∀ t, t ∈ o.looksAt ops → VR ρ (tget l t) (a.tmps.getD t undef)) : aWanted ops l o = Region.wanted o (yielded ops a.tmps) := by
  unfold aWanted Region.wanted
  cases hg : o.guard with
  | none => rfl
  | some g =>
    obtain ⟨j, want⟩ := g
    simp only
    rw [yielded_at ops j fun d hd => h d (by
      unfold Oper.looksAt
      rw [hg]
      simp [hd])]

def visB (st : Nat → DS) (q e : Nat) (m : Nat → Bool) (id : Nat) : Bool :=
  decide (id < (st q).B.length) || ((crOf (st e).news (id - (st q).B.length)).map m).getD false
def HS (st : Nat → DS) (q e : Nat) (S : Nat → Bool) : Heap := (st q).B ++ maskBy S (st e).news

section
variable {st : Nat → DS} {q e : Nat}

theorem vis_iff {m : Nat → Bool} {id : Nat} : visB st q e m id = true ↔ id < (st q).B.length ∨ ∃ k, crOf (st e).news (id - (st q).B.length) = some k ∧ m k = true := by
  unfold visB
  cases crOf (st e).news (id - (st q).B.length) <;> simp
theorem vis_mono {m m' : Nat → Bool} (h : ∀ k, m k = true → m' k = true) {id : Nat} (hv : visB st q e m id = true) : visB st q e m' id = true := by
  rw [vis_iff] at hv ⊢
  rcases hv with h1 | ⟨k, h1, h2⟩
  · exact .inl h1
  · exact .inr ⟨k, h1, h k h2⟩
theorem restr_vis {ρ ρ' : Loc} (hp : Ext ρ ρ') {m m' : Nat → Bool} (h : ∀ k, m k = true → m' k = true) : Ext (restr ρ (visB st q e m)) (restr ρ' (visB st q e m')) :=
  restr_mono hp fun _ _ _ hv => vis_mono h hv
theorem restr_some {ρ : Loc} {p : Nat → Bool} {id : Nat} {L : L4} : restr ρ p id = some L ↔ p id = true ∧ ρ id = some L := by
  unfold restr
  split <;> simp_all
theorem hget_HS {S : Nat → Bool} {id : Nat} {r : ARow} : hget (HS st q e S) id = some r ↔
    (id < (st q).B.length ∧ hget (st q).B id = some r) ∨ ((st q).B.length ≤ id ∧ hget (flatRows (st e).news) (id - (st q).B.length) = some r ∧ ∃ k, crOf (st e).news (id - (st q).B.length) = some k ∧ S k = true) := by
  unfold HS
  rw [hget_append]
  by_cases h : id < (st q).B.length
  · rw [if_pos h]
    exact ⟨fun hh => .inl ⟨h, hh⟩, fun hh => by
      rcases hh with hh | hh
      · exact hh.2
      · omega⟩
  · rw [if_neg h, hget_mask]
    simp [h, Nat.le_of_not_lt h]
theorem HS_length (S : Nat → Bool) : (HS st q e S).length = (st q).B.length + (flatRows (st e).news).length := by simp [HS]
end

structure Inv (P : Program) (G nt : Nat) (imp : FuncId → Bool) (ops : Array Oper) (st : Nat → DS) (d0 : List Deferred) (ρ0 : Loc) (A0 : Heap) (w0 : World) (q e : Nat) (S : Nat → Bool) (ρ : Loc) (a : Act) (w : World) : Prop where
  qe : q ≤ e
  en : e ≤ ops.size
  fresh : (st q).news = []
  quiet : QuietIn imp ops st q e
  next : e = ops.size ∨ ∃ o, ops[e]? = some o ∧ isSol imp ops o e (st e) = true
  low : ∀ i o, i < q → ops[i]? = some o → looseB imp ops o i = false → S i = true
  high : ∀ i o, e ≤ i → ops[i]? = some o → looseB imp ops o i = false → S i = false
  lt : ∀ i, S i = true → i < ops.size
  closed : Closed ops S
  rel : Rel P ρ (HS st q e S) w
  hidden : ∀ id k, (st q).B.length ≤ id → crOf (st e).news (id - (st q).B.length) = some k → S k = false → ρ id = none
  moves : Moves ρ0 A0 w0 ρ (HS st q e S) w
  rowsB : ∀ id r L, id < (st q).B.length → hget (HS st q e S) id = some r → ρ id = some L → RowOK P (restr ρ (visB st q e noneS)) w L r
  rowsN : ∀ id k r L, (st q).B.length ≤ id → crOf (st e).news (id - (st q).B.length) = some k → hget (HS st q e S) id = some r → ρ id = some L → RowOK P (restr ρ (visB st q e (withSelf ops k))) w L r
  slots : Slots ops st S (fun m => restr ρ (visB st q e m)) a
  globs : Globs (restr ρ (visB st q e noneS)) G
  defers : a.defers = d0
  size : a.tmps.size = nt
  base : A0.length ≤ (st q).B.length

section
variable {P : Program} {G nt : Nat} {c : Sub} {lim : Nat} {imp : FuncId → Bool} {ops : Array Oper} {At : Heap} {rs : List Nat} {st : Nat → DS} {d0 : List Deferred} {ρ0 ρ : Loc} {A0 : Heap} {w0 w : World} {q e : Nat} {S : Nat → Bool} {a : Act}

theorem inv_fresh (hT : Trace P c lim imp ops At rs st) (hq : q ≤ ops.size) (fresh : (st q).news = []) (low : ∀ i o, i < q → ops[i]? = some o → looseB imp ops o i = false → S i = true)
    (high : ∀ i o, q ≤ i → ops[i]? = some o → looseB imp ops o i = false → S i = false) (lt : ∀ i, S i = true → i < ops.size) (closed : Closed ops S) (rel : Rel P ρ (st q).B w) (moves : Moves ρ0 A0 w0 ρ (st q).B w)
    (slots : Slots ops st S (fun _ => ρ) a) (globs : Globs ρ G) (defers : a.defers = d0) (size : a.tmps.size = nt) : ∃ e, Inv P G nt imp ops st d0 ρ0 A0 w0 q e S ρ a w := by
  obtain ⟨e, h1, h2, h3, h4⟩ := next_solid imp ops st (ops.size - q) q (by omega)
  obtain ⟨g1, X, g2, g3⟩ := quiet_news hT q (e - q) (by omega) (by rw [show q + (e - q) = e from by omega]; exact h3)
  rw [show q + (e - q) = e from by omega] at g1 g2 g3
  rw [fresh, List.nil_append] at g2
  have hno : ∀ k i, crOf (st e).news k = some i → S i = true → False := by
    intro k i hk hS
    obtain ⟨_, N, hN, hne⟩ := crOf_lt _ _ _ hk
    rw [g2] at hN
    obtain ⟨b1, o, b2, b3⟩ := g3 _ hN
    have := high _ o b1.1 b2 (b3 hne).1
    rw [this] at hS; cases hS
  have hH : ∀ {id r}, hget (HS st q e S) id = some r → hget (st q).B id = some r := by
    intro id r h
    rcases hget_HS.1 h with ⟨_, h⟩ | ⟨_, _, k, c1, c2⟩
    · exact h
    · exact (hno _ _ c1 c2).elim
  have hE : ∀ m, Ext ρ (restr ρ (visB st q e m)) := fun m id L h => restr_some.2 ⟨vis_iff.2 (.inl (Nat.lt_of_not_le fun hge => by rw [rel.sup id hge] at h; cases h)), h⟩
  refine ⟨e, h1, h2, fresh, h3, h4, low, fun i o hi => high i o (by omega), lt, closed, ⟨fun id hid => rel.sup id ?_, fun id r h => rel.has id r (hH h), fun id r L h => rel.row id r L (hH h), fun i j r s L M hi hj => rel.sep i j r s L M (hH hi) (hH hj)⟩,
    fun id k hid hk hS => rel.sup id hid, ⟨moves.pre, ?_, moves.same, moves.size, moves.frame, fun id r L h => moves.rows id r L (hH h), moves.out, moves.loops⟩, fun id r L _ h hL => (rel.row id r L (hH h) hL).move (hE _) rfl,
    fun id k r L _ _ h hL => (rel.row id r L (hH h) hL).move (hE _) rfl, fun t => ?_, globs.mono (hE _), defers, size, moves.len⟩
  · rw [HS_length] at hid; omega
  · rw [HS_length]; have := moves.len; omega
  · rcases slots t with ⟨c1, c2⟩ | ⟨i, oi, c1, c2, c3, c4, c5⟩
    · exact .inl ⟨c1, c2.mono (hE _)⟩
    · exact .inr ⟨i, oi, c1, c2, c3, c4, c5.mono (hE _)⟩

theorem Inv.operands (I : Inv P G nt imp ops st d0 ρ0 A0 w0 q e S ρ a w) (hd : okDraw ops = true) (hT : Trace P c lim imp ops At rs st) {j : Nat} {o : Oper} (h : Ready ops S j o) (hok : okOper G nt o = true) :
    (∀ t ∈ o.looksAt ops, VR (restr ρ (visB st q e fun k => (anOf ops j).testBit k)) (tget (st j).l t) (a.tmps.getD t undef)) ∧
    ∀ x ∈ o.op.operands.toList, VR (restr ρ (visB st q e fun k => (anOf ops j).testBit k)) (ev (st j).l x) (a.eval x) := by
  have h1 : ∀ t ∈ o.looksAt ops, VR (restr ρ (visB st q e fun k => (anOf ops j).testBit k)) (tget (st j).l t) (a.tmps.getD t undef) := fun t ht =>
    slot_ok hd hT I.closed (V := fun m => restr ρ (visB st q e m)) (fun m m' hm => restr_vis (Ext.refl _) hm) I.slots h ht
  refine ⟨h1, fun x hx => ?_⟩
  simp only [okOper, Bool.and_eq_true] at hok
  have hxo := List.all_eq_true.1 hok.1.1 x hx
  have hg : Globs (restr ρ (visB st q e fun k => (anOf ops j).testBit k)) G := I.globs.mono (restr_vis (Ext.refl _) fun k hk => by cases hk)
  cases x with
  | tmp t => exact h1 t (List.mem_append_left _ (List.mem_filterMap.2 ⟨.tmp t, hx, rfl⟩))
  | const v => exact VR.refl _ hxo
  | global g =>
    obtain ⟨e', f, hg⟩ := hg g (by simpa [okOperand] using hxo)
    have := VR.ptr (o := 0) hg
    simpa [Abs.ev, Act.eval] using this
  | func f => exact .func rfl rfl rfl (fun k v v' a => by simp at a) (fun k v v' a => by simp at a)

theorem Inv.soft (I : Inv P G nt imp ops st d0 ρ0 A0 w0 q e S ρ a w) (hC : SubOK P G c) (hd : okDraw ops = true) (hT : Trace P c lim imp ops At rs st) {j : Nat} {o : Oper} (h : Ready ops S j o) (hok : okOper G nt o = true)
    {lim' : Nat} {M R : Heap} {v : Value} {X Y : List (Nat × Heap)} (hnews : (st e).news = X ++ Y) (hMdef : M = (st q).B ++ maskBy (fun k => (anOf ops j).testBit k) X)
    (hop : aOper P c lim' (st j).l o M = some (v, R)) (hl : (st (j + 1)).l = tput (st j).l o.dst v) (hk : ∀ id, id < M.length → hget R id = hget M id) (hRl : R.length ≤ (HS st q e S).length)
    (hin : ∀ id, M.length ≤ id → id < R.length → crOf (st e).news (id - (st q).B.length) = some j) (hout : ∀ id, (st q).B.length ≤ id → crOf (st e).news (id - (st q).B.length) = some j → M.length ≤ id ∧ id < R.length)
    (heq : ∀ id r, M.length ≤ id → id < R.length → hget (flatRows (st e).news) (id - (st q).B.length) = some r → hget R id = some r)
    (hY : ∀ id k, M.length ≤ id → crOf (st e).news (id - (st q).B.length) = some k → (anOf ops j).testBit k = false) (hje : looseB imp ops o j = false → j < e) (hwd : Region.wanted o (yielded ops a.tmps) = true) {b : Frame} {kk : List Item} {cs : List Frame}
    {K : Act → World → Prop} (hK : ∀ v' w' ρ', Inv P G nt imp ops st d0 ρ0 A0 w0 q e (addS S j) ρ' (a.put o.dst v') w' → K (a.put o.dst v') w') : OpTo P ops b kk cs j a w K := by
  obtain ⟨_, hE⟩ := I.operands hd hT h hok
  have hML : M.length = (st q).B.length + (flatRows X).length := by rw [hMdef]; simp
  have hcrX : ∀ {id k}, (st q).B.length ≤ id → id < M.length → (crOf (st e).news (id - (st q).B.length) = some k ↔ crOf X (id - (st q).B.length) = some k) := by
    intro id k h1 h2
    rw [hnews, crOf_append, if_pos (by omega)]
  have hflX : ∀ {id}, (st q).B.length ≤ id → id < M.length → hget (flatRows (st e).news) (id - (st q).B.length) = hget (flatRows X) (id - (st q).B.length) := by
    intro id h1 h2
    rw [hnews, flatRows_append, hget_append, if_pos (by omega)]
  have hgM : ∀ {id r}, hget M id = some r ↔ (id < (st q).B.length ∧ hget (st q).B id = some r) ∨ ((st q).B.length ≤ id ∧ id < M.length ∧ hget (flatRows (st e).news) (id - (st q).B.length) = some r ∧ ∃ k, crOf (st e).news (id - (st q).B.length) = some k ∧ (anOf ops j).testBit k = true) := by
    intro id r
    constructor
    · intro hm
      have hlt := hget_lt hm
      rw [hMdef, hget_append] at hm
      by_cases hB : id < (st q).B.length
      · rw [if_pos hB] at hm; exact .inl ⟨hB, hm⟩
      · rw [if_neg hB, hget_mask] at hm
        have hB := Nat.le_of_not_lt hB
        obtain ⟨m1, k, m2, m3⟩ := hm
        exact .inr ⟨hB, hlt, by rw [hflX hB hlt]; exact m1, k, (hcrX hB hlt).2 m2, m3⟩
    · rintro (⟨hB, hm⟩ | ⟨hB, hlt, m1, k, m2, m3⟩)
      · rw [hMdef, hget_append, if_pos hB]; exact hm
      · rw [hMdef, hget_append, if_neg (by omega), hget_mask]
        exact ⟨by rw [← hflX hB hlt]; exact m1, k, (hcrX hB hlt).1 m2, m3⟩
  have hsub : ∀ id r, hget M id = some r → hget (HS st q e S) id = some r := by
    intro id r hm
    rcases hgM.1 hm with h1 | ⟨h1, h2, h3, k, h4, h5⟩
    · exact hget_HS.2 (.inl h1)
    · exact hget_HS.2 (.inr ⟨h1, h3, k, h4, h.an hd I.closed h5⟩)
  let ρM := restr ρ (visB st q e fun k => (anOf ops j).testBit k)
  have hρM : Ext ρM ρ := restr_ext _ _
  have hvisM : ∀ {id L}, ρM id = some L → id < M.length := by
    intro id L hL
    obtain ⟨h1, _⟩ := restr_some.1 hL
    rcases Nat.lt_or_ge id M.length with h2 | h2
    · exact h2
    · rcases vis_iff.1 h1 with h3 | ⟨k, h3, h4⟩
      · omega
      · rw [hY id k h2 h3] at h4; cases h4
  have hMk : ∀ {id r}, hget M id = some r → visB st q e (fun k => (anOf ops j).testBit k) id = true := by
    intro id r hm
    rcases hgM.1 hm with h1 | ⟨_, _, _, k, h4, h5⟩
    · exact vis_iff.2 (.inl h1.1)
    · exact vis_iff.2 (.inr ⟨k, h4, h5⟩)
  have hM : Rel P ρM M w := by
    refine ⟨fun id hid => ?_, fun id r hm => ?_, fun id r L hm hL => ?_, fun i i' r s L K h1 h2 h3 h4 => I.rel.sep i i' r s L K (hsub i r h1) (hsub i' s h2) (hρM _ _ h3) (hρM _ _ h4)⟩
    · cases hx : ρM id with
      | none => rfl
      | some L => have := hvisM hx; omega
    · obtain ⟨L, hL⟩ := I.rel.has id r (hsub id r hm)
      exact ⟨L, restr_some.2 ⟨hMk hm, hL⟩⟩
    · have hLρ := hρM _ _ hL
      rcases hgM.1 hm with h1 | ⟨h1, h2, h3, k, h4, h5⟩
      · exact (I.rowsB id r L h1.1 (hsub id r hm) hLρ).move (restr_vis (Ext.refl _) fun k hk => by cases hk) rfl
      · refine (I.rowsN id k r L h1 h4 (hsub id r hm) hLρ).move (restr_vis (Ext.refl _) fun k' hk' => ?_) rfl
        simp only [withSelf, Bool.or_eq_true, beq_iff_eq] at hk'
        rcases hk' with hk' | rfl
        · exact an_trans hd j k k' h.lt h5 hk'
        · exact h5
  have hGM : Globs ρM G := I.globs.mono (restr_vis (Ext.refl _) fun k hk => by cases hk)
  refine opTo_oper hC h.at_ hwd hE hGM hM hok hop fun v' w' ρ1 hv hR hmv => hK v' w' ?_ ?_
  · exact fun id => if M.length ≤ id ∧ id < R.length then ρ1 id else ρ id
  have hfree : ∀ id, M.length ≤ id → id < R.length → ρ id = none := fun id h1 h2 => I.hidden id j (by omega) (hin id h1 h2) h.new
  have hH' : ∀ id r, hget (HS st q e (addS S j)) id = some r → (hget (HS st q e S) id = some r ∧ ¬ (M.length ≤ id ∧ id < R.length)) ∨ (M.length ≤ id ∧ id < R.length ∧ hget R id = some r) := by
    intro id r hid
    rcases hget_HS.1 hid with h1 | ⟨h1, h2, k, h3, h4⟩
    · exact .inl ⟨hget_HS.2 (.inl h1), by omega⟩
    · by_cases hkj : k = j
      · subst hkj
        obtain ⟨c1, c2⟩ := hout id h1 h3
        exact .inr ⟨c1, c2, heq id r c1 c2 h2⟩
      · have hSk : S k = true := by simpa [addS, hkj] using h4
        refine .inl ⟨hget_HS.2 (.inr ⟨h1, h2, k, h3, hSk⟩), fun ⟨c1, c2⟩ => ?_⟩
        rw [hin id c1 c2] at h3; cases h3
        exact hkj rfl
  obtain ⟨ρ', hdef, e1, e2, hrel, hmoves⟩ := soft_core (H' := HS st q e (addS S j)) I.rel I.moves hsub hρM hM hR hmv hk hfree (by have := I.base; omega) (by rw [HS_length, HS_length]) hRl hH'
  have hfun : (fun id => if M.length ≤ id ∧ id < R.length then ρ1 id else ρ id) = ρ' := by funext id; exact (hdef id).symm
  rw [hfun]
  -- what the piece knows, the operation's own rows with it
  have hX : Ext ρ1 (restr ρ' (visB st q e (withSelf ops j))) := by
    intro id L hL
    refine restr_some.2 ⟨?_, e1 id L hL⟩
    rcases Nat.lt_or_ge id M.length with hlt | hge
    · rw [hmv.same id hlt] at hL
      exact vis_mono (fun k hk => by simp [withSelf, hk]) (restr_some.1 hL).1
    · have hlt : id < R.length := Nat.lt_of_not_le fun h2 => by rw [hR.sup id h2] at hL; cases hL
      exact vis_iff.2 (.inr ⟨j, hin id hge hlt, by simp [withSelf]⟩)
  -- an old row
  have old : ∀ {id r L} {m : Nat → Bool}, hget (HS st q e S) id = some r → ¬ (M.length ≤ id ∧ id < R.length) → ρ' id = some L → (hget M id = some r → ∀ k, m k = true → (anOf ops j).testBit k = true) →
      RowOK P (restr ρ (visB st q e m)) w L r → RowOK P (restr ρ' (visB st q e m)) w' L r := by
    intro id r L m h1 h2 h3 hm h0
    rw [hdef, if_neg h2] at h3
    rcases soft_rows I.rel hsub hρM hM hmv hk h1 h3 with hw | ⟨g1, g2, g3⟩
    · exact h0.move (restr_vis e2 fun _ h => h) hw
    · refine h0.transfer (hR.row id r L g2 g3) fun i K hi => ?_
      obtain ⟨c1, c2⟩ := restr_some.1 hi
      have c3 : ρM i = some K := restr_some.2 ⟨vis_mono (hm g1) c1, c2⟩
      have c4 := hvisM c3
      rw [hmv.same i c4]
      exact (restr_some.2 ⟨c1, e2 i K c2⟩).trans c3.symm
  have hnt : ∀ d, o.dst = some d → d < a.tmps.size := fun d hdst => by
    simp only [okOper, Bool.and_eq_true, hdst] at hok
    rw [I.size]; simpa using hok.1.2
  refine ⟨I.qe, I.en, I.fresh, I.quiet, I.next, fun i o' hi ho' hp => by simp [addS, I.low i o' hi ho' hp], fun i o' hi ho' hp => ?_, fun i hi => ?_, closed_add I.closed h, hrel, fun id k h1 h2 h3 => ?_, hmoves,
    fun id r L hid hr hL => ?_, fun id k r L hid hc hr hL => ?_, slots_put hd I.closed (V := fun m => restr ρ (visB st q e m)) (fun m => restr_vis e2 fun _ h => h) I.slots h hl (hv.mono hX) hnt, I.globs.mono (restr_vis e2 fun _ h => h), ?_, ?_, I.base⟩
  · have hne : i ≠ j := by
      intro hij
      subst hij
      rw [h.at_] at ho'; cases ho'
      have := hje hp
      omega
    simp [addS, I.high i o' hi ho' hp, hne]
  · simp only [addS, Bool.or_eq_true, beq_iff_eq] at hi
    rcases hi with hi | rfl
    · exact I.lt i hi
    · exact h.lt
  · simp only [addS, Bool.or_eq_false_iff, beq_eq_false_iff_ne] at h3
    rw [hdef, if_neg (fun hc => h3.2 (by have := hin id hc.1 hc.2; rw [h2] at this; cases this; rfl))]
    exact I.hidden id k h1 h2 h3.1
  · rcases hH' id r hr with ⟨g1, g2⟩ | ⟨g1, g2, g3⟩
    · refine old g1 g2 hL (fun _ k hk => by cases hk) (I.rowsB id r L hid g1 ?_)
      rw [hdef, if_neg g2] at hL; exact hL
    · omega
  · rcases hH' id r hr with ⟨g1, g2⟩ | ⟨g1, g2, g3⟩
    · refine old g1 g2 hL (fun hm k' hk' => ?_) (I.rowsN id k r L hid hc g1 ?_)
      · rcases hgM.1 hm with c | ⟨_, _, _, k2, c2, c3⟩
        · omega
        · rw [hc] at c2; cases c2
          simp only [withSelf, Bool.or_eq_true, beq_iff_eq] at hk'
          rcases hk' with hk' | rfl
          · exact an_trans hd j k k' h.lt c3 hk'
          · exact c3
      · rw [hdef, if_neg g2] at hL; exact hL
    · have hkj : k = j := by have := hin id g1 g2; rw [hc] at this; cases this; rfl
      subst hkj
      rw [hdef, if_pos ⟨g1, g2⟩] at hL
      exact (hR.row id r L g3 hL).move hX rfl
  · cases o.dst <;> exact I.defers
  · have := I.size
    cases hdst : o.dst <;> simp [Act.put, this]
end
end Go.Abs
/-
The abstract machine: regions whose order is open. Fifth part: every order does as the order of the text does.
-/
namespace Go.Abs
open Go

theorem hget_drop (R : Heap) (n i : Nat) : hget (R.drop n) i = hget R (n + i) := by
  induction n generalizing R with
  | zero => simp
  | succ n ih => cases R with
    | nil => simp []
    | cons r R => rw [List.drop_succ_cons, ih, show n + 1 + i = (n + i) + 1 from by omega]; rfl

section
variable {P : Program} {G nt : Nat} {c : Sub} {lim : Nat} {imp : FuncId → Bool} {ops : Array Oper} {At : Heap} {rs : List Nat} {st : Nat → DS} {d0 : List Deferred} {ρ0 ρ : Loc} {A0 : Heap} {w0 w : World} {q e : Nat} {S : Nat → Bool} {a : Act}

theorem solid_cmp {i j : Nat} {x : Oper} (h : solidIn (writersOf imp ops.toList) ops.toList (ancs ops.toList) j = true) (hx : ops[i]? = some x) (hp : looseB imp ops x i = false) (hne : i ≠ j) : (anOf ops j).testBit i = true ∨ (anOf ops i).testBit j = true := by
  have h1 := List.all_eq_true.1 h (x, i) (List.mem_iff_getElem?.2 ⟨i, by rw [List.getElem?_zipIdx]; simp [Array.getElem?_toList, hx]⟩)
  simp only [looseB, Bool.or_eq_false_iff] at hp
  simp only [hp.1, hp.2, Bool.or_false, cmpIn, Bool.or_eq_true, beq_iff_eq] at h1
  rcases h1 with h1 | h1 | h1
  · exact absurd h1.symm hne
  · exact .inl h1
  · exact .inr h1

theorem Inv.news (I : Inv P G nt imp ops st d0 ρ0 A0 w0 q e S ρ a w) (hT : Trace P c lim imp ops At rs st) {i : Nat} (h1 : q ≤ i) (h2 : i ≤ e) :
    (st i).B = (st q).B ∧ ∀ x ∈ (st i).news, (q ≤ x.1 ∧ x.1 < i) ∧ Made imp ops st x := by
  obtain ⟨g1, X, g2, g3⟩ := quiet_news hT q (i - q) (by have := I.en; omega) (fun k o a b => I.quiet k o a (by omega))
  rw [show q + (i - q) = i from by omega] at g1 g2 g3
  rw [I.fresh, List.nil_append] at g2
  exact ⟨g1, by rw [g2]; exact g3⟩

theorem Inv.place (I : Inv P G nt imp ops st d0 ρ0 A0 w0 q e S ρ a w) (hd : okDraw ops = true) {j : Nat} {o : Oper} (h : Ready ops S j o) (hp : looseB imp ops o j = false) : q ≤ j ∧ (j < e ∨ (j = e ∧ isSol imp ops o j (st j) = true)) := by
  constructor
  · rcases Nat.lt_or_ge j q with hlt | hge
    · have := I.low j o hlt h.at_ hp
      rw [h.new] at this; cases this
    · exact hge
  · rcases Nat.lt_trichotomy j e with hlt | rfl | hgt
    · exact .inl hlt
    · rcases I.next with rfl | ⟨o', ho', hs⟩
      · exact absurd h.lt (by omega)
      · rw [h.at_] at ho'; cases ho'; exact .inr ⟨rfl, hs⟩
    · rcases I.next with rfl | ⟨oe, hoe, hs⟩
      · exact absurd h.lt (by omega)
      · unfold isSol at hs
        simp only [Bool.and_eq_true] at hs
        rcases solid_cmp hs.2.2 h.at_ hp (by omega) with g | g
        · have := an_lt hd e j (Array.getElem?_eq_some_iff.1 hoe).1 g; omega
        · have h1 := h.an hd I.closed g
          rw [I.high e oe (Nat.le_refl _) hoe (by simpa using hs.2.1)] at h1; cases h1

theorem Inv.skip (I : Inv P G nt imp ops st d0 ρ0 A0 w0 q e S ρ a w) (hd : okDraw ops = true) (hT : Trace P c lim imp ops At rs st) {j : Nat} {o : Oper} (h : Ready ops S j o) (hok : okOper G nt o = true)
    (hw : aWanted ops (st j).l o = false) (hl : (st (j + 1)).l = tput (st j).l o.dst undef) : Inv P G nt imp ops st d0 ρ0 A0 w0 q e (addS S j) ρ (a.put o.dst undef) w := by
  have hH : HS st q e (addS S j) = HS st q e S := by
    unfold HS
    have : ∀ l : List (Nat × Heap), (∀ x ∈ l, x.1 = j → x.2 = []) → maskBy (addS S j) l = maskBy S l := by
      intro l
      induction l with
      | nil => intro _; rfl
      | cons x l ih =>
        intro hx
        obtain ⟨i, N⟩ := x
        simp only [maskBy]
        rw [ih fun y hy => hx y (by simp [hy])]
        by_cases hij : i = j
        · have := hx (i, N) (by simp) hij
          simp only at this
          subst this
          simp
        · simp [addS, hij]
    rw [this]
    rintro ⟨i, N⟩ hx rfl
    cases N with
    | nil => rfl
    | cons r N =>
      exfalso
      obtain ⟨_, o', ho', hm⟩ := (I.news hT I.qe (Nat.le_refl _)).2 _ hx
      simp only at ho' hm
      rw [h.at_] at ho'; cases ho'
      rw [(hm (by simp)).2] at hw; cases hw
  have hje : looseB imp ops o j = false → j < e := fun hp => by
    rcases (I.place hd h hp).2 with h1 | ⟨_, h1⟩
    · exact h1
    · unfold isSol at h1; rw [hw] at h1; simp at h1
  have hnt : ∀ d, o.dst = some d → d < a.tmps.size := fun d hdst => by
    simp only [okOper, Bool.and_eq_true, hdst] at hok
    rw [I.size]; simpa using hok.1.2
  refine ⟨I.qe, I.en, I.fresh, I.quiet, I.next, fun i o' hi ho' hp => by simp [addS, I.low i o' hi ho' hp], fun i o' hi ho' hp => ?_, fun i hi => ?_, closed_add I.closed h, by rw [hH]; exact I.rel, fun id k h1 h2 h3 => ?_, by rw [hH]; exact I.moves,
    by rw [hH]; exact I.rowsB, by rw [hH]; exact I.rowsN, slots_put hd I.closed (V := fun m => restr ρ (visB st q e m)) (fun m => Ext.refl _) I.slots h hl (VR.undef _) hnt, I.globs, ?_, ?_, I.base⟩
  · have hne : i ≠ j := by
      intro hij
      subst hij
      rw [h.at_] at ho'; cases ho'
      have := hje hp
      omega
    simp [addS, I.high i o' hi ho' hp, hne]
  · simp only [addS, Bool.or_eq_true, beq_iff_eq] at hi
    rcases hi with hi | rfl
    · exact I.lt i hi
    · exact h.lt
  · simp only [addS, Bool.or_eq_false_iff, beq_eq_false_iff_ne] at h3
    exact I.hidden id k h1 h2 h3.1
  · cases o.dst <;> exact I.defers
  · have := I.size
    cases hdst : o.dst <;> simp [Act.put, this]

/-- An operation that may run now does as in the order of the text. -/
theorem Inv.op (I : Inv P G nt imp ops st d0 ρ0 A0 w0 q e S ρ a w) (hC : SubOK P G c) (hd : okDraw ops = true) (hok : ops.toList.all (okOper G nt) = true) (hT : Trace P c lim imp ops At rs st) (h0 : (st 0).full = At) {j : Nat} {o : Oper} (h : Ready ops S j o)
    {b : Frame} {kk : List Item} {cs : List Frame} {K : Act → World → Prop} (hK : ∀ q' e' ρ' a' w', Inv P G nt imp ops st d0 ρ0 A0 w0 q' e' (addS S j) ρ' a' w' → K a' w') : OpTo P ops b kk cs j a w K := by
  have hoko : okOper G nt o = true := List.all_eq_true.1 hok o (by
    have : o ∈ ops := Array.mem_of_getElem? h.at_
    simpa using this)
  obtain ⟨hlook, hE⟩ := I.operands hd hT h hoko
  have hwant := wanted_at ops o hlook
  have hnews := I.news hT I.qe (Nat.le_refl _)
  have hstep := hT j o h.at_
  generalize hs' : st (j + 1) = s' at hstep
  cases hstep with
  | skip hw =>
    rw [hw] at hwant
    exact opTo_skip h.at_ hwant.symm (hK q e ρ _ w (I.skip hd hT h hoko hw (by rw [hs'])))
  | solid hw hpp hff hso hrow hr =>
    rename_i v R
    rw [hw] at hwant
    have hp : looseB imp ops o j = false := by simp [looseB, hpp, hff]
    have hje : j = e := by
      obtain ⟨h1, h2 | ⟨h2, _⟩⟩ := I.place hd h hp
      · have := I.quiet j o h1 h2 h.at_
        unfold isSol at this
        rw [hw, hp, hso] at this; simp at this
      · exact h2
    subst hje
    have hlow : ∀ i o', i < j → ops[i]? = some o' → looseB imp ops o' i = false → S i = true := by
      intro i o' hi ho' hp'
      rcases solid_cmp hso ho' hp' (by omega) with g | g
      · exact h.an hd I.closed g
      · have := an_lt hd i j (Array.getElem?_eq_some_iff.1 ho').1 g; omega
    have hfull : HS st q j S = (st j).full := by
      unfold HS DS.full
      rw [hnews.1, mask_all]
      intro x hx
      obtain ⟨b1, o', b2, b3⟩ := hnews.2 x hx
      cases hx2 : x.2 with
      | nil => exact .inr rfl
      | cons r N => exact .inl (hlow x.1 o' b1.2 b2 (b3 (by simp [hx2])).1)
    have hrel := I.rel
    have hmov := I.moves
    rw [hfull] at hrel hmov
    refine opTo_oper hC h.at_ hwant.symm (fun x hx => (hE x hx).mono (restr_ext _ _)) (I.globs.mono (restr_ext _ _)) hrel hoko hr fun v' w' ρ1 hv hR hmv => ?_
    have hnt : ∀ d, o.dst = some d → d < a.tmps.size := fun d hdst => by
      simp only [okOper, Bool.and_eq_true, hdst] at hoko
      rw [I.size]; simpa using hoko.1.2
    have hB : (st (j + 1)).B = R := by rw [hs']
    have f1 : ∀ i o', i < j + 1 → ops[i]? = some o' → looseB imp ops o' i = false → addS S j i = true := by
      intro i o' hi ho' hp'
      by_cases hij : i = j
      · simp [addS, hij]
      · simp [addS, hlow i o' (by omega) ho' hp']
    have f2 : ∀ i o', j + 1 ≤ i → ops[i]? = some o' → looseB imp ops o' i = false → addS S j i = false := by
      intro i o' hi ho' hp'
      have hij : i ≠ j := by omega
      simp [addS, hij, I.high i o' (by omega) ho' hp']
    have f3 : ∀ i, addS S j i = true → i < ops.size := by
      intro i hi
      simp only [addS, Bool.or_eq_true, beq_iff_eq] at hi
      rcases hi with hi | rfl
      · exact I.lt i hi
      · exact h.lt
    obtain ⟨e', I'⟩ := inv_fresh (P := P) (G := G) (nt := nt) (d0 := d0) (ρ0 := ρ0) (A0 := A0) (w0 := w0) (ρ := ρ1) (w := w') (q := j + 1) (S := addS S j) (a := a.put o.dst v') hT h.lt (by rw [hs']) f1 f2 f3 (closed_add I.closed h)
      (by rw [hB]; exact hR) (by rw [hB]; exact hmov.trans hmv) (slots_put hd I.closed (V := fun m => restr ρ (visB st q j m)) (V' := fun _ => ρ1) (fun m => (restr_ext _ _).trans hmv.pre) I.slots h (by rw [hs']) hv hnt)
      (I.globs.mono ((restr_ext _ _).trans hmv.pre)) (by cases o.dst <;> exact I.defers) (by have := I.size; cases hdst : o.dst <;> simp [Act.put, this])
    exact hK _ _ _ _ _ I'
  | free hw hf hrow hrs hr =>
    rename_i v R r
    rw [hw] at hwant
    have hl : (st (j + 1)).l = tput (st j).l o.dst v := by rw [hs']
    have hloose : looseB imp ops o j = true := by simp [looseB, hf]
    have hno : ∀ k, crOf (st e).news k ≠ some j := by
      intro k hk
      obtain ⟨_, N, hN, hne⟩ := crOf_lt _ _ _ hk
      obtain ⟨_, o', ho', hm⟩ := hnews.2 _ hN
      simp only at ho' hm
      rw [h.at_] at ho'; cases ho'
      rw [(hm hne).1] at hloose; cases hloose
    have hrlt : r < At.length := (load_indep (lim' := 0) hrow hr rfl).2
    have hBq := free_rows hT h0 hrs hrlt hC.keeps' q (Nat.le_trans I.qe I.en)
    have hfq : (st q).full = (st q).B := by simp [DS.full, I.fresh, flatRows]
    rw [hfq] at hBq
    have hrB : r < (st q).B.length := by
      have := (hT.keeps hC.keeps' 0 q (by have := I.qe; have := I.en; omega)).1
      rw [h0, Nat.zero_add, hfq] at this; omega
    have hind : ∀ A', hget A' r = hget (st q).B r → aOper P c 0 (st j).l o A' = some (v, A') := fun A' hA => (load_indep hrow hr (hA.trans hBq)).1
    refine I.soft hC hd hT h hoko (X := (st e).news) (Y := []) (by simp) rfl (hind _ (by rw [hget_append, if_pos hrB])) hl (fun _ _ => rfl) (by simp [HS]) (fun id h1 h2 => by omega) (fun id h1 h2 => absurd h2 (hno _)) (fun id r h1 h2 => by omega)
      (fun id k h1 h2 => ?_) (fun hp' => by rw [hloose] at hp'; cases hp') hwant.symm (fun v' w' ρ' I' => hK _ _ _ _ _ I')
    have := (crOf_lt _ _ _ h2).1
    simp at h1
    omega
  | pure hw hp hr =>
    rename_i v R
    rw [hw] at hwant
    have hl : (st (j + 1)).l = tput (st j).l o.dst v := by rw [hs']
    have hind := (pure_indep hp hr).2
    have hno : ∀ k, crOf (st e).news k ≠ some j := by
      intro k hk
      obtain ⟨_, N, hN, hne⟩ := crOf_lt _ _ _ hk
      obtain ⟨_, o', ho', hm⟩ := hnews.2 _ hN
      simp only at ho' hm
      rw [h.at_] at ho'; cases ho'
      have := (hm hne).1
      simp [looseB, hp] at this
    refine I.soft hC hd hT h hoko (X := (st e).news) (Y := []) (by simp) rfl (hind 0 _) hl (fun _ _ => rfl) (by simp [HS]) (fun id h1 h2 => by omega) (fun id h1 h2 => absurd h2 (hno _)) (fun id r h1 h2 => by omega)
      (fun id k h1 h2 => ?_) (fun hp' => by simp [looseB, hp] at hp') hwant.symm (fun v' w' ρ' I' => hK _ _ _ _ _ I')
    have := (crOf_lt _ _ _ h2).1
    simp at h1
    omega
  | soft hw hp hnf hn hr =>
    rename_i v R
    rw [hw] at hwant
    have hl : (st (j + 1)).l = tput (st j).l o.dst v := by rw [hs']
    obtain ⟨hqj, hje⟩ := I.place hd h (by simp [looseB, hp, hnf])
    have hje : j < e := by
      rcases hje with h1 | ⟨_, h1⟩
      · exact h1
      · unfold isSol at h1; rw [hn] at h1; simp at h1
    have hnj := I.news hT hqj (Nat.le_of_lt hje)
    obtain ⟨_, Z, z2, z3⟩ := quiet_news hT (j + 1) (e - (j + 1)) (by have := I.en; omega) (fun k o' a b => I.quiet k o' (by omega) (by omega))
    rw [show j + 1 + (e - (j + 1)) = e from by omega, hs'] at z2
    simp only [List.append_assoc, List.singleton_append] at z2
    have hM : (st j).B ++ maskRows (anOf ops j) (st j).news = (st q).B ++ maskBy (fun k => (anOf ops j).testBit k) (st j).news := by rw [hnj.1, maskRows_eq]
    rw [hM] at hr
    have hlenM : (st j).full.length = ((st q).B ++ maskBy (fun k => (anOf ops j).testBit k) (st j).news).length := by simp [DS.full, hnj.1]
    have hkeep := aOper_keeps hC.keeps' hr
    rw [hlenM] at hkeep
    generalize hMd : (st q).B ++ maskBy (fun k => (anOf ops j).testBit k) (st j).news = M at hr hlenM hkeep
    have hML : M.length = (st q).B.length + (flatRows (st j).news).length := by rw [← hMd]; simp
    rw [hlenM] at z2
    have hN : (R.drop M.length).length = R.length - M.length := by simp
    have hcr : ∀ id, M.length ≤ id → crOf (st e).news (id - (st q).B.length) = if id < R.length then some j else crOf Z (id - R.length) := by
      intro id h1
      rw [z2, crOf_append, if_neg (by omega), crOf, hN]
      have := hkeep.1
      by_cases h2 : id < R.length
      · rw [if_pos (by omega), if_pos h2]
      · rw [if_neg (by omega), if_neg h2]
        congr 1; omega
    have hZ : ∀ {k i}, crOf Z k = some i → j < i := by
      intro k i hk
      obtain ⟨_, N, hN, _⟩ := crOf_lt _ _ _ hk
      have := (z3 _ hN).1.1
      simp only at this; omega
    refine I.soft hC hd hT h hoko (X := (st j).news) (M := M) z2 hMd.symm hr hl (fun id h1 => hkeep.2 id h1 h1) ?_ (fun id h1 h2 => by rw [hcr id h1, if_pos h2]) (fun id h1 h2 => ?_) (fun id r h1 h2 h3 => ?_) (fun id k h1 h2 => ?_) (fun _ => hje) hwant.symm (fun v' w' ρ' I' => hK _ _ _ _ _ I')
    · rw [HS_length, z2, flatRows_append]
      simp only [flatRows, List.length_append, hN]
      omega
    · rcases Nat.lt_or_ge id M.length with hlt | hge
      · rw [z2, crOf_append, if_pos (by omega)] at h2
        obtain ⟨_, N, hN, _⟩ := crOf_lt _ _ _ h2
        have := (hnj.2 _ hN).1.2
        simp only at this; omega
      · rw [hcr id hge] at h2
        split at h2
        · rename_i hlt; exact ⟨hge, hlt⟩
        · have := hZ h2; omega
    · rw [z2, flatRows_append, hget_append, if_neg (by omega), flatRows, hget_append, if_pos (by omega), hget_drop] at h3
      rw [← h3]; congr 1; omega
    · cases hb : (anOf ops j).testBit k with
      | false => rfl
      | true =>
        have := an_lt hd j k h.lt hb
        rw [hcr id h1] at h2
        split at h2
        · cases h2; omega
        · have := hZ h2; omega

theorem Inv.done (I : Inv P G nt imp ops st d0 ρ0 A0 w0 q e S ρ a w) (hT : Trace P c lim imp ops At rs st) (hall : ∀ k, k < ops.size → S k = true) : StR ρ nt (st ops.size).l a ∧ Rel P ρ (st ops.size).full w ∧ Moves ρ0 A0 w0 ρ (st ops.size).full w ∧ a.defers = d0 := by
  have he : e = ops.size := by
    rcases I.next with h | ⟨o, ho, hs⟩
    · exact h
    · unfold isSol at hs
      simp only [Bool.and_eq_true] at hs
      have := I.high e o (Nat.le_refl _) ho (by simpa using hs.2.1)
      rw [hall e (Array.getElem?_eq_some_iff.1 ho).1] at this; cases this
  subst he
  have hnews := I.news hT I.qe (Nat.le_refl _)
  have hfull : HS st q ops.size S = (st ops.size).full := by
    unfold HS DS.full
    rw [hnews.1, mask_all]
    exact fun x hx => .inl (hall x.1 (hnews.2 x hx).1.2)
  have hrel := I.rel
  have hmov := I.moves
  rw [hfull] at hrel hmov
  refine ⟨⟨I.size, fun t => ?_⟩, hrel, hmov, I.defers⟩
  rcases I.slots t with ⟨h1, h2⟩ | ⟨i, oi, h1, h2, h3, h4, h5⟩
  · have := same_slot hT (t := t) 0 ops.size (by omega) (fun k o' _ hk ho' => h1 k o' (hall k (by omega)) ho')
    rw [Nat.zero_add] at this
    rw [this]
    exact h2.mono (restr_ext _ _)
  · have hi := (Array.getElem?_eq_some_iff.1 h2).1
    have := same_slot hT (t := t) (i + 1) (ops.size - (i + 1)) (by omega) (fun k o' hk1 hk2 ho' hdst => by
      have := h4 k o' (hall k (by omega)) ho' hdst
      omega)
    rw [show i + 1 + (ops.size - (i + 1)) = ops.size from by omega] at this
    rw [this]
    exact h5.mono (restr_ext _ _)

theorem wpAny_draw (hC : SubOK P G c) (hd : okDraw ops = true) (hok : ops.toList.all (okOper G nt) = true) (hT : Trace P c lim imp ops At rs st) (hfst : (st 0).full = At) {b : Frame} {kk : List Item} {cs : List Frame} {Q : Act → World → Prop}
    (hQ : ∀ ρ a w, StR ρ nt (st ops.size).l a → Rel P ρ (st ops.size).full w → Moves ρ0 A0 w0 ρ (st ops.size).full w → a.defers = d0 → Q a w) :
    ∀ (fuel : Nat) (listed : Array Bool), listed.size = ops.size → listed.toList.count false = fuel → ∀ q e ρ a w, Inv P G nt imp ops st d0 ρ0 A0 w0 q e (fun k => listed.getD k false) ρ a w → anyTo P .any ops b kk cs Q fuel listed a w := by
  have fin : ∀ (listed : Array Bool), listed.size = ops.size → Region.ready .any ops listed = [] → ∀ q e ρ a w, Inv P G nt imp ops st d0 ρ0 A0 w0 q e (fun k => listed.getD k false) ρ a w → Q a w := by
    intro listed hsz hr q e ρ a w I
    obtain ⟨h1, h2, h3, h4⟩ := I.done hT fun k => by
      induction k using Nat.strongRecOn with
      | _ k ih =>
        intro hk
        cases hb : listed.getD k false with
        | true => rfl
        | false =>
          exfalso
          have : k ∈ Region.ready .any ops listed := by
            rw [mem_ready]
            refine ⟨by rw [Array.getD_eq_getD_getElem?, Array.getElem?_eq_getElem (by omega)] at hb ⊢; simpa using hb, ops[k], Array.getElem?_eq_getElem hk, fun x hx hbx => ?_⟩
            have hlt : x.on < k := by
              simp only [okDraw, Bool.and_eq_true] at hd
              have h1 := List.all_eq_true.1 hd.1 (ops[k], k) (List.mem_iff_getElem?.2 ⟨k, by rw [List.getElem?_zipIdx]; simp [Array.getElem?_toList, Array.getElem?_eq_getElem hk]⟩)
              have h2 := List.all_eq_true.1 h1 x (by simpa using hx)
              simpa [hbx] using h2
            exact ih x.on hlt (by omega)
          rw [hr] at this; cases this
    exact hQ ρ a w h1 h2 h3 h4
  intro fuel
  induction fuel with
  | zero =>
    intro listed hsz hcnt q e ρ a w I
    have hr : Region.ready .any ops listed = [] := by
      cases hr : Region.ready .any ops listed with
      | nil => rfl
      | cons j rs =>
        exfalso
        have hj : j ∈ Region.ready .any ops listed := by rw [hr]; simp
        rw [mem_ready] at hj
        obtain ⟨h0, o, ho, _⟩ := hj
        have hlt : j < listed.size := by rw [hsz]; exact (Array.getElem?_eq_some_iff.1 ho).1
        rw [Array.getD_eq_getD_getElem?, Array.getElem?_eq_getElem hlt] at h0
        simp only [Option.getD_some] at h0
        have := List.count_eq_zero.1 hcnt
        exact this (by rw [← h0]; simp)
    exact ⟨hr, fin listed hsz hr q e ρ a w I⟩
  | succ fuel ih =>
    intro listed hsz hcnt q e ρ a w I
    refine ⟨fun hr => fin listed hsz hr q e ρ a w I, fun j hj => ?_⟩
    rw [mem_ready] at hj
    obtain ⟨h0, o, ho, hpre⟩ := hj
    have hlt : j < listed.size := by rw [hsz]; exact (Array.getElem?_eq_some_iff.1 ho).1
    have hlj : listed[j] = false := by
      rw [Array.getD_eq_getD_getElem?, Array.getElem?_eq_getElem hlt] at h0
      simpa using h0
    have hready : Ready ops (fun k => listed.getD k false) j o := ⟨ho, by simp [hlt, hlj], fun x hx hb => hpre x (by simpa using hx) hb⟩
    refine I.op hC hd hok hT hfst hready fun q' e' ρ' a' w' I' => ih _ (by simpa using hsz) ?_ q' e' ρ' a' w' ?_
    · have := List.count_set (l := listed.toList) (i := j) (a := true) (b := false) (by simpa using hlt)
      simp only [Array.toList_setIfInBounds, this]
      simp [hlj, hcnt]
    · have : addS (fun k => listed.getD k false) j = fun k => (listed.setIfInBounds j true).getD k false := by
        funext k
        by_cases hkj : k = j
        · subst hkj; simp [addS, hlt]
        · simp [addS, hkj, Array.getElem?_setIfInBounds_ne (Ne.symm hkj)]
      rw [this] at I'
      exact I'
end

/-- EVERY ORDER DOES AS THE ORDER OF THE TEXT DOES. -/
theorem draw_says {P : Program} {G lim : Nat} {imp : FuncId → Bool} {c : Sub} (hm : P.follows .mixedOrders = true) (hC : SubOK P G c) : DrawSays P G lim imp c := by
  intro ops l A l' A' h nt hok hd ρ a w hS hG hR t b k cs
  obtain ⟨rs, st, h1, h2, h3, hT⟩ := trace_of h
  simp only [Region.schedule, hm, Bool.true_or, if_true]
  refine anyTo_sound (Q := fun a' w' => a'.defers = a.defers ∧ ∃ ρ', StR ρ' nt l' a' ∧ Rel P ρ' A' w' ∧ Moves ρ A w ρ' A' w') ops.size t _ a _ ?_
  obtain ⟨hR1, hM1⟩ := hR.heap (w' := { w with drawn := w.drawn + 1 }) rfl
  have hf : ∀ k, (Array.replicate ops.size false).getD k false = false := by
    intro k
    simp only [Array.getD_eq_getD_getElem?, Array.getElem?_replicate]
    split <;> rfl
  have hno : ∀ {k : Nat}, (fun k => (Array.replicate ops.size false).getD k false) k = true → False := fun {k} hk => by
    have := hf k
    simp only at hk
    rw [this] at hk; cases hk
  obtain ⟨e, I⟩ := inv_fresh (P := P) (G := G) (nt := nt) (d0 := a.defers) (ρ0 := ρ) (A0 := A) (w0 := w) (ρ := ρ) (w := { w with drawn := w.drawn + 1 }) (q := 0) (S := fun k => (Array.replicate ops.size false).getD k false) (a := a) hT (by omega) (by rw [h1])
    (fun i o hi => by omega) (fun i o _ ho _ => hf i) (fun i hi => (hno hi).elim) (fun i o hi _ => (hno hi).elim) (by rw [h1]; exact hR1) (by rw [h1]; exact hM1) (fun t => .inl ⟨fun i o hi _ => (hno hi).elim, by rw [h1]; exact hS.tmps t⟩) hG rfl hS.size
  exact wpAny_draw hC hd hok hT (by rw [h1]; simp [DS.full, flatRows]) (d0 := a.defers) (ρ0 := ρ) (A0 := A) (w0 := w) (fun ρ' a' w' g1 g2 g3 g4 => ⟨g4, ρ', by rw [← h2]; exact g1, by rw [← h3]; exact g2, by rw [← h3]; exact g3⟩) ops.size (Array.replicate ops.size false) (by simp) (by simp) 0 e ρ a _ I
end Go.Abs
/-
The abstract machine: a call of it is a call of the model.
-/
namespace Go.Abs
open Go

/-- A CALL OF THE ABSTRACT MACHINE IS A CALL OF THE MODEL. -/
theorem call_sound {P : Program} {G : Nat} {E : Env} (hP : ProgOK P G) (hE : EnvOK P G E) (n : Nat) : CallOK P G (aCall P E n) :=
  call_ok hP hE (fun _ _ hC => draw_says hP.mixed hC) (fun _ _ hC => draw_keeps hC) n

/-- What is asked of a program, to be computed. -/
def progOK (P : Program) (G : Nat) : Bool :=
  decide (G = P.globals.size) && P.follows .mixedOrders && P.funcs.toList.all fun fn => !(fn.name == "runtime.NumGoroutine") && match fn.body with
    | some c => okCode G fn.ntmps c
    | none => true
theorem progOK_spec {P : Program} {G : Nat} (h : progOK P G = true) : ProgOK P G := by
  unfold progOK at h
  simp only [Bool.and_eq_true] at h
  obtain ⟨⟨h0, h1⟩, h2⟩ := h
  have key : ∀ (f : FuncId) (fn : Func), P.funcs[f]? = some fn → _ := fun f fn hf => List.all_eq_true.1 h2 fn (List.mem_of_getElem? (by rw [Array.getElem?_toList]; exact hf))
  refine ⟨fun f fn c hf hb => ?_, h1, fun f fn hf => ?_, by simpa using h0⟩
  · have := key f fn hf
    simp only [hb, Bool.and_eq_true] at this
    exact this.2
  · have := key f fn hf
    simp only [Bool.and_eq_true, Bool.not_eq_true'] at this
    exact this.1
end Go.Abs
/-
The abstract machine: more fuel does no harm.
-/
namespace Go.Abs
open Go

def CallLe (c c' : CallF) : Prop := ∀ lim f args A r, c lim f args A = some r → c' lim f args A = some r
def RunLe (c c' : RunF) : Prop := ∀ k l A r, c k l A = some r → c' k l A = some r

structure SubLe (c c' : Sub) : Prop where
  call : CallLe c.call c'.call
  yld : ∀ lim y args A r, c.yld lim y args A = some r → c'.yld lim y args A = some r
theorem aOper_le {P : Program} {c c' : Sub} (h : SubLe c c') {lim : Nat} {l : List Value} {o : Oper} {A : Heap} {r : Value × Heap} (ho : aOper P c lim l o A = some r) : aOper P c' lim l o A = some r := by
  unfold aOper at ho ⊢
  split at ho
  · split at ho
    · rename_i hy
      rw [h.yld _ _ _ _ _ hy]
      exact ho
    · cases ho
  · split at ho
    · exact h.call _ _ _ _ _ ho
    · exact ho

theorem aDrawGo_le {P : Program} {c c' : Sub} (h : SubLe c c') {lim : Nat} {imp : FuncId → Bool} {all : Array Oper} {an ws : List Nat} {A0 : Heap} : ∀ (os : List (Oper × Nat)) (l : List Value) (B : Heap) (news : List (Nat × Heap)) (rs : List Nat) (wr : List (Option Nat)) (r : List Value × Heap),
    aDrawGo P c lim imp all an ws A0 os l B news rs wr = some r → aDrawGo P c' lim imp all an ws A0 os l B news rs wr = some r
  | [], l, B, news, rs, wr, r, hr => hr
  | (o, i) :: os, l, B, news, rs, wr, r, hr => by
    simp only [aDrawGo] at hr ⊢
    split
    · rename_i hw
      rw [if_pos hw] at hr
      split
      · rename_i hp
        rw [if_pos hp] at hr
        split at hr
        · rename_i v R hop
          rw [aOper_le h hop]
          exact aDrawGo_le h os _ _ _ _ _ r hr
        · cases hr
      rename_i hp
      rw [if_neg hp] at hr
      split
      · rename_i hf
        rw [if_pos hf] at hr
        split at hr
        · rename_i r1 hrow
          split at hr
          · rename_i v R hop
            rw [aOper_le h hop]
            exact aDrawGo_le h os _ _ _ _ _ r hr
          · cases hr
        · cases hr
      · rename_i hf
        rw [if_neg hf] at hr
        split
        · rename_i hs
          rw [if_pos hs] at hr
          split at hr
          · rename_i v R hop
            rw [aOper_le h hop]
            exact aDrawGo_le h os _ _ _ _ _ r hr
          · cases hr
        · rename_i hs
          rw [if_neg hs] at hr
          split at hr
          · rename_i v R hop
            rw [aOper_le h hop]
            exact aDrawGo_le h os _ _ _ _ _ r hr
          · cases hr
    · rename_i hw
      rw [if_neg hw] at hr
      exact aDrawGo_le h os _ _ _ _ _ r hr

theorem aYield_le {ih ih' : RunF} {lim : Nat} (hi : RunLe ih ih') {y : Nat} {args : List Value} {A : Heap} {r : Bool × Heap} (h : aYield lim ih y args A = some r) : aYield lim ih' y args A = some r := by
  unfold aYield at h ⊢
  split at h
  · rename_i tm ps as bo pe hy
    split at h
    · rename_i hc
      simp only [hc, and_self, if_true]
      split at h
      · rename_i l1 A1 h1
        rw [hi _ _ _ _ h1]
        simp only
        split at h
        · rename_i tm1 ps1 as1 bo1 pe1 hy1
          split at h
          · rename_i l2 A2 j h2
            rw [hi _ _ _ _ h2]
            exact h
          · cases h
        · cases h
      · cases h
    · cases h
  · cases h
theorem aRangeFunc_le {c c' : CallF} (h : CallLe c c') {lim : Nat} {l : List Value} {g : Operand} {ps : Array Tmp} {as bo : Code} {A : Heap} {r : Option Code × Heap} (hr : aRangeFunc c lim l g ps as bo A = some r) : aRangeFunc c' lim l g ps as bo A = some r := by
  unfold aRangeFunc at hr ⊢
  split at hr
  · split at hr
    · rename_i v A1 h1
      rw [h _ _ _ _ _ h1]
      exact hr
    · cases hr
  · cases hr

theorem aStep_le {P : Program} {c c' : Sub} {d d' : Array Oper → List Value → Heap → Option (List Value × Heap)} {ih ih' : RunF} {lim : Nat} (h : SubLe c c') (hd : ∀ ops l A r, d ops l A = some r → d' ops l A = some r) (hi : RunLe ih ih') :
    RunLe (aStep P c d lim ih) (aStep P c' d' lim ih') := by
  intro todo l A r hr
  cases todo with
  | nil => exact hr
  | cons x k =>
    cases x with
    | inBlock id => exact hi _ _ _ _ hr
    | inScope c => exact hi _ _ _ _ hr
    | inLoop c => exact hi _ _ _ _ hr
    | ops all i =>
      simp only [aStep] at hr ⊢
      split
      · rename_i hn; rw [hn] at hr; exact hi _ _ _ _ hr
      · rename_i o ho
        rw [ho] at hr
        simp only at hr
        split
        · rename_i hw
          rw [if_pos hw] at hr
          split at hr
          · rename_i v A1 hop
            rw [aOper_le h hop]
            exact hi _ _ _ _ hr
          · cases hr
        · rename_i hw
          rw [if_neg hw] at hr
          exact hi _ _ _ _ hr
    | code c =>
      cases c with
      | cond x c1 c2 =>
        simp only [aStep] at hr ⊢
        split
        · rename_i t ht
          rw [ht] at hr
          simp only at hr
          split
          · rename_i hb; rw [if_pos hb] at hr; exact hi _ _ _ _ hr
          · rename_i hb; rw [if_neg hb] at hr; exact hi _ _ _ _ hr
        · rename_i hn
          split at hr
          · rename_i t ht; exact absurd ht (hn t)
          · cases hr
      | exit id =>
        simp only [aStep] at hr ⊢
        split at hr
        · exact hi _ _ _ _ hr
        · exact hr
      | goto g =>
        simp only [aStep] at hr ⊢
        split at hr
        · exact hi _ _ _ _ hr
        · exact hr
      | rangeFunc g ps as bo =>
        simp only [aStep] at hr ⊢
        split at hr
        · rename_i A1 h1; rw [aRangeFunc_le h.call h1]; exact hi _ _ _ _ hr
        · rename_i c1 A1 h1
          rw [aRangeFunc_le h.call h1]
          split at hr
          · rename_i hj; simp only [hj, if_true]; exact hi _ _ _ _ hr
          · cases hr
        · cases hr
      | region id ops b =>
        cases b with
        | false => exact hi _ _ _ _ hr
        | true =>
          simp only [aStep] at hr ⊢
          split at hr
          · rename_i l1 A1 h1; rw [hd _ _ _ _ h1]; exact hi _ _ _ _ hr
          · cases hr
      | _ => first | exact hr | exact hi _ _ _ _ hr | cases hr

theorem aCallBy_le {P : Program} {E : Env} {run run' : Nat → RunF} (h : ∀ lim, RunLe (run lim) (run' lim)) : CallLe (aCallBy P E run) (aCallBy P E run') := by
  intro lim f args A r hr
  unfold aCallBy at hr ⊢
  split
  · rename_i x hx; rw [hx] at hr; exact hr
  · rename_i hx
    rw [hx] at hr
    simp only at hr
    split
    · rename_i hf; rw [hf] at hr; exact hr
    · rename_i fn hf
      rw [hf] at hr
      simp only at hr
      split
      · rename_i hb; rw [hb] at hr; exact hr
      · rename_i c hb
        rw [hb] at hr
        simp only at hr
        split
        · rename_i hl; rw [if_pos hl] at hr; exact hr
        · rename_i hl
          rw [if_neg hl] at hr
          split
          · rename_i hE
            rw [if_pos hE] at hr
            split at hr
            · rename_i l1 A1 j h1; rw [h _ _ _ _ _ h1]; exact hr
            · cases hr
          · rename_i hE
            rw [if_neg hE] at hr
            split at hr
            · rename_i l1 A1 j h1; rw [h _ _ _ _ _ h1]; exact hr
            · cases hr

theorem aRun_le {P : Program} {E : Env} : ∀ (n lim : Nat), RunLe (aRun P E n lim) (aRun P E (n + 1) lim)
  | 0, lim => fun k l A r h => by cases h
  | n + 1, lim => by
    have hc : SubLe ⟨aCallBy P E (aRun P E n), fun lim y args A => aYield lim (aRun P E n lim) y args A⟩ ⟨aCallBy P E (aRun P E (n + 1)), fun lim y args A => aYield lim (aRun P E (n + 1) lim) y args A⟩ :=
      ⟨aCallBy_le (aRun_le n), fun lim y args A r h => aYield_le (aRun_le n lim) h⟩
    exact aStep_le hc (fun ops l A r h => aDrawGo_le hc _ _ _ _ _ _ _ h) (aRun_le n lim)
theorem aRun_mono {P : Program} {E : Env} {n m : Nat} (h : n ≤ m) (lim : Nat) : RunLe (aRun P E n lim) (aRun P E m lim) := by
  induction h with
  | refl => exact fun _ _ _ _ h => h
  | step _ ih => exact fun k l A r h => aRun_le _ lim _ _ _ _ (ih k l A r h)
theorem aCall_mono {P : Program} {E : Env} {n m : Nat} (h : n ≤ m) : CallLe (aCall P E n) (aCall P E m) := aCallBy_le fun lim => aRun_mono h lim
end Go.Abs
/-
The abstract machine: from a call of it to the model's contract of a function that leaves all memory that was there.
-/
namespace Go.Abs
open Go

def noOwn (A : Heap) : Bool := A.all fun r => match r with
  | some r => !r.isOwn
  | none => true
theorem noOwn_spec {A : Heap} (h : noOwn A = true) {ρ : Loc} {b : Nat} : ¬ OwnIn ρ A b := by
  rintro ⟨i, r, L, hi, _, ho, _⟩
  have := List.all_eq_true.1 h (some r) (List.mem_of_getElem? ((hget_eq A i r).1 hi))
  simp [ho] at this
theorem Moves.still {ρ ρ' : Loc} {A A' : Heap} {w w' : World} (h : Moves ρ A w ρ' A' w') (hn : noOwn A = true) : ∀ b, b < w.heap.size → w'.heap[b]? = w.heap[b]? := fun b hb => h.frame b hb (noOwn_spec hn)

/-- A call of the machine from a heap without own rows, of which the model enters the function. -/
theorem calls_of {P : Program} {G : Nat} {E : Env} {n lim : Nat} {f : FuncId} {fn : Func} {c : Code} {args args' : List Value} {A A' : Heap} {v : Value} {ρ : Loc} {w : World} (hC : CallOK P G (aCall P E n)) (hP : ProgOK P G) (hf : P.funcs[f]? = some fn) (hb : fn.body = some c)
    (h : aCall P E n lim f args A = some (v, A')) (hargs : VRs ρ args args') (hG : Globs ρ G) (hR : Rel P ρ A w) (hn : noOwn A = true) :
    Calls P f args'.toArray w fun e w' => ∃ v' ρ', e = .returned v' ∧ VR ρ' v v' ∧ Rel P ρ' A' w' ∧ Moves ρ A w ρ' A' w' ∧ ∀ b, b < w.heap.size → w'.heap[b]? = w.heap[b]? := by
  rcases hC.says lim f args A v A' h ρ w args' hargs hG hR with ⟨v', w', ρ', h1, _⟩ | ⟨_, h2⟩
  · exfalso
    have hne : ¬ fn.name = "runtime.NumGoroutine" := by simpa using hP.name f fn hf
    have : (callFunc f args'.toArray).run P w = .ok (.enter f args'.toArray) w := by simp [callFunc, hf, hne, hb]
    rw [this] at h1
    cases h1
  · refine h2.mono ?_
    rintro e w' ⟨v', ρ', a1, a2, a3, a4⟩
    exact ⟨v', ρ', a1, a2, a3, a4, a4.still hn⟩

theorem kept_of_same {w w' : World} (ho : w'.os = w.os ∧ w'.output = w.output) (h : ∀ b, b < w.heap.size → w'.heap[b]? = w.heap[b]?) (may : MemPlace → Prop) : w.keptBut w' may := by
  refine ⟨ho.1, ho.2, fun i hi => ?_⟩
  rw [h i hi]
  cases w.heap[i]? with
  | none => rfl
  | some o =>
    cases o with
    | cells c t fr => exact ⟨rfl, rfl, rfl, fun _ _ => rfl⟩
    | map es clock => exact .inr ⟨rfl, rfl⟩
    | _ => rfl
theorem frozen_of_same {w w' : World} (h : ∀ b, b < w.heap.size → w'.heap[b]? = w.heap[b]?) {a : Addr} (ha : a.block < w.heap.size) : w'.frozen? a = w.frozen? a := by
  simp only [World.frozen?, h _ ha]

end Go.Abs
/-
The abstract machine: runs put together.
-/
namespace Go.Abs
open Go

theorem exit_app {id : Nat} {k' : List It} (kk : List It) : ∀ {k : List It}, aExit id k = some k' → aExit id (k ++ kk) = some (k' ++ kk)
  | [], h => by cases h
  | x :: k, h => by
    cases x <;> simp only [List.cons_append, aExit] at h ⊢
    case inBlock id' =>
      split at h
      · rename_i hh; cases h; rw [if_pos hh]
      · rename_i hh; rw [if_neg hh]; exact exit_app kk h
    all_goals exact exit_app kk h
theorem goto_app {g : Nat} {k' : List It} (kk : List It) : ∀ {k : List It}, aGoto g k = some k' → aGoto g (k ++ kk) = some (k' ++ kk)
  | [], h => by cases h
  | x :: k, h => by
    cases x <;> simp only [List.cons_append, aGoto] at h ⊢
    case inScope b =>
      split at h
      · cases h; rfl
      · exact goto_app kk h
    all_goals exact goto_app kk h

/-- A run that comes to its end goes on with what is behind it. -/
def AppLe (ih ih' : RunF) (kk : List It) (l1 : List Value) (A1 : Heap) (r : List Value × Heap × Option Code) : Prop :=
  ∀ k l A, ih k l A = some (l1, A1, none) → ih' (k ++ kk) l A = some r

theorem aStep_app {P : Program} {c c' : Sub} {d d' : Array Oper → List Value → Heap → Option (List Value × Heap)} {ih ih' : RunF} {lim : Nat} {kk : List It} {l1 : List Value} {A1 : Heap} {r : List Value × Heap × Option Code} (h : SubLe c c') (hd : ∀ ops l A r, d ops l A = some r → d' ops l A = some r) (hi : AppLe ih ih' kk l1 A1 r)
    (hend : aStep P c' d' lim ih' kk l1 A1 = some r) : AppLe (aStep P c d lim ih) (aStep P c' d' lim ih') kk l1 A1 r := by
  intro todo l A hr
  cases todo with
  | nil => cases hr; exact hend
  | cons x k =>
    cases x with
    | inBlock id => exact hi _ _ _ hr
    | inScope c => exact hi _ _ _ hr
    | inLoop c => exact hi _ _ _ hr
    | ops all i =>
      simp only [List.cons_append, aStep] at hr ⊢
      split
      · rename_i hn; rw [hn] at hr; exact hi _ _ _ hr
      · rename_i o ho
        rw [ho] at hr
        simp only at hr
        split
        · rename_i hw
          rw [if_pos hw] at hr
          split at hr
          · rename_i v A1 hop
            rw [aOper_le h hop]
            exact hi _ _ _ hr
          · cases hr
        · rename_i hw
          rw [if_neg hw] at hr
          exact hi _ _ _ hr
    | code c =>
      cases c with
      | ret => simp [aStep] at hr
      | cond x c1 c2 =>
        simp only [List.cons_append, aStep] at hr ⊢
        split
        · rename_i t ht
          rw [ht] at hr
          simp only at hr
          split
          · rename_i hb; rw [if_pos hb] at hr; exact hi _ _ _ hr
          · rename_i hb; rw [if_neg hb] at hr; exact hi _ _ _ hr
        · rename_i hn
          split at hr
          · rename_i t ht; exact absurd ht (hn t)
          · cases hr
      | exit id =>
        simp only [List.cons_append, aStep] at hr ⊢
        split at hr
        · rename_i k' hk'; rw [exit_app kk hk']; exact hi _ _ _ hr
        · simp at hr
      | goto g =>
        simp only [List.cons_append, aStep] at hr ⊢
        split at hr
        · rename_i k' hk'; rw [goto_app kk hk']; exact hi _ _ _ hr
        · simp at hr
      | rangeFunc g ps as bo =>
        simp only [List.cons_append, aStep] at hr ⊢
        split at hr
        · rename_i A1 h1; rw [aRangeFunc_le h.call h1]; exact hi _ _ _ hr
        · rename_i c1 A1 h1
          rw [aRangeFunc_le h.call h1]
          split at hr
          · rename_i hj; simp only [hj, if_true]; exact hi _ _ _ hr
          · cases hr
        · cases hr
      | region id ops b =>
        cases b with
        | false => exact hi _ _ _ hr
        | true =>
          simp only [List.cons_append, aStep] at hr ⊢
          split at hr
          · rename_i l1 A1 h1; rw [hd _ _ _ _ h1]; exact hi _ _ _ hr
          · cases hr
      | _ => first | exact hi _ _ _ hr | cases hr

theorem subLe_mono {P : Program} {E : Env} {n m : Nat} (h : n ≤ m) : SubLe ⟨aCallBy P E (aRun P E n), fun lim y args A => aYield lim (aRun P E n lim) y args A⟩ ⟨aCallBy P E (aRun P E m), fun lim y args A => aYield lim (aRun P E m lim) y args A⟩ :=
  ⟨aCallBy_le fun lim => aRun_mono h lim, fun lim _ _ _ _ hy => aYield_le (aRun_mono h lim) hy⟩

theorem run_append {P : Program} {E : Env} {lim m : Nat} {kk : List It} {l1 : List Value} {A1 : Heap} {r : List Value × Heap × Option Code} (hm : aRun P E m lim kk l1 A1 = some r) : ∀ n, AppLe (aRun P E n lim) (aRun P E (m + n) lim) kk l1 A1 r
  | 0 => fun k l A h => by cases h
  | n + 1 => by
    have hs := subLe_mono (P := P) (E := E) (show n ≤ m + n by omega)
    refine aStep_app hs (fun ops l A r h => aDrawGo_le hs _ _ _ _ _ _ _ h) (run_append hm n) ?_
    exact aRun_mono (show m ≤ m + n + 1 by omega) lim _ _ _ _ hm

/-- A run, with fuel enough. -/
def Runs (P : Program) (E : Env) (lim : Nat) (todo : List It) (l : List Value) (A : Heap) (r : List Value × Heap × Option Code) : Prop := ∃ n, aRun P E n lim todo l A = some r
/-- A call, with fuel enough. -/
def Gives (P : Program) (E : Env) (lim : Nat) (f : FuncId) (args : List Value) (A : Heap) (r : Value × Heap) : Prop := ∃ n, aCall P E n lim f args A = some r

section
variable {P : Program} {E : Env} {lim : Nat} {l l1 : List Value} {A A1 : Heap} {r : List Value × Heap × Option Code}
theorem Runs.app {k kk : List It} (h : Runs P E lim k l A (l1, A1, none)) (h2 : Runs P E lim kk l1 A1 r) : Runs P E lim (k ++ kk) l A r := by
  obtain ⟨n, h⟩ := h
  obtain ⟨m, h2⟩ := h2
  exact ⟨m + n, run_append h2 n k l A h⟩
/-- One statement, then the others. -/
theorem Runs.seq {a b : Code} {k : List It} (h : Runs P E lim [.code a] l A (l1, A1, none)) (h2 : Runs P E lim (.code b :: k) l1 A1 r) : Runs P E lim (.code (.seq a b) :: k) l A r := by
  obtain ⟨n, h3⟩ := h.app h2
  exact ⟨n + 1, h3⟩
theorem Runs.block {id : Nat} {a : Code} {k : List It} (h : Runs P E lim (.code a :: .inBlock id :: k) l A r) : Runs P E lim (.code (.block id a) :: k) l A r := let ⟨n, h⟩ := h; ⟨n + 1, h⟩
theorem Runs.loop {a : Code} {k : List It} (h : Runs P E lim (.code a :: .inLoop a :: k) l A r) : Runs P E lim (.code (.loop a) :: k) l A r := let ⟨n, h⟩ := h; ⟨n + 1, h⟩
theorem Runs.inLoop {a : Code} {k : List It} (h : Runs P E lim (.code a :: .inLoop a :: k) l A r) : Runs P E lim (.inLoop a :: k) l A r := let ⟨n, h⟩ := h; ⟨n + 1, h⟩
/-- A call from a run of its body. -/
theorem Gives.of_body {f : FuncId} {fn : Func} {c : Code} {args : List Value} {j : Option Code} {v : Value} (hk : ∀ lim A, E.known lim f args A = none) (hf : P.funcs[f]? = some fn) (hb : fn.body = some c) (hn : decide (fn.ntmps < args.length) = false) (hi : E.impure f = false)
    (h : Runs P E A.length [.code c] (padTo fn.ntmps args) A (l1, A1, j)) (hj : retB j = true) (hr : aResults P fn l1 A1 = some v) : Gives P E lim f args A (aGC A v A1) := by
  obtain ⟨n, h⟩ := h
  refine ⟨n, ?_⟩
  simp only [aCall, aCallBy, hk, hf, hb, if_neg (of_decide_eq_false hn), hi, Bool.false_eq_true, if_false, h, hj, if_true, hr]
end
end Go.Abs
/-
The abstract machine: contracts that are known.
-/
namespace Go.Abs
open Go

/-- E with contracts of its own. -/
def Env.with (E : Env) (K : Nat → FuncId → List Value → Heap → Option (Value × Heap)) : Env :=
  { impure := E.impure, known := fun lim f args A => match K lim f args A with
    | some r => some r
    | none => E.known lim f args A }

/-- A heap of tables: rows that are read alone, of values without addresses. -/
def tableRow : Option ARow → Bool
  | none => true
  | some (.cells cs _ .ro) => cs.all atomB
  | _ => false
/-- The rows of H are those of A, as far as whole numbers go. -/
def intEq : Value → Value → Bool
  | .int j a, .int k b => j == k && a == b
  | _, _ => false
def intsEq : List Value → List Value → Bool
  | [], [] => true
  | a :: l, b :: l' => intEq a b && intsEq l l'
  | _, _ => false
def rowEq : Option ARow → Option ARow → Bool
  | none, _ => true
  | some (.cells cs e .ro), some (.cells cs' e' .ro) => e == e' && intsEq cs cs'
  | _, _ => false
def startsB : Heap → Heap → Bool
  | [], _ => true
  | x :: H, y :: A => rowEq x y && startsB H A
  | _, _ => false
theorem intsEq_eq : ∀ {l l' : List Value}, intsEq l l' = true → l = l'
  | [], [], _ => rfl
  | a :: l, b :: l', h => by
    simp only [intsEq, Bool.and_eq_true] at h
    have h1 : a = b := by
      have h0 := h.1
      unfold intEq at h0
      split at h0
      · simp only [Bool.and_eq_true, beq_iff_eq] at h0; rw [h0.1, h0.2]
      · cases h0
    rw [h1, intsEq_eq h.2]
  | [], _ :: _, h => by cases h
  | _ :: _, [], h => by cases h
theorem rowEq_eq {x y : Option ARow} (h : rowEq x y = true) {r : ARow} (hx : x = some r) : y = some r := by
  subst hx
  unfold rowEq at h
  split at h
  · rename_i hh; cases hh
  · rename_i hh
    cases hh
    simp only [Bool.and_eq_true, beq_iff_eq] at h; rw [h.1, intsEq_eq h.2]
  · cases h
theorem startsB_get : ∀ {H A : Heap}, startsB H A = true → H.length ≤ A.length ∧ ∀ i r, hget H i = some r → hget A i = some r
  | [], A, _ => ⟨by simp, fun i r hi => by simp at hi⟩
  | x :: H, [], h => by cases h
  | x :: H, y :: A, h => by
    simp only [startsB, Bool.and_eq_true] at h
    obtain ⟨h1, h2⟩ := startsB_get h.2
    refine ⟨by simp [h1], fun i r hi => ?_⟩
    cases i with
    | zero => simp at hi ⊢; exact rowEq_eq h.1 hi
    | succ i => simp at hi ⊢; exact h2 i r hi

/-- A CALL WITHOUT ADDRESSES THAT LOOKS AT TABLES ALONE. -/
theorem base_says {P : Program} {H A : Heap} {ρ : Loc} {w : World} {f : FuncId} {args args' : List Value} {v : Value} {G : Nat} (hgl : G ≤ H.length) (hH : H.all tableRow = true) (hs : startsB H A = true) (ha : args.all freeB = true) (hv : freeB v = true)
    (hsay : ∀ ρ w args', VRs ρ args args' → Globs ρ G → Rel P ρ H w → CallSays P ρ H w f args' v H) (hargs : VRs ρ args args') (hG : Globs ρ G) (hR : Rel P ρ A w) : CallSays P ρ A w f args' v A := by
  obtain ⟨hlen, hget'⟩ := startsB_get hs
  let ρg : Loc := fun i => if i < H.length then ρ i else none
  have hρ : ∀ {i L}, ρg i = some L → i < H.length ∧ ρ i = some L := by
    intro i L h
    simp only [ρg] at h
    split at h
    · exact ⟨‹_›, h⟩
    · cases h
  have hρ' : ∀ {i}, i < H.length → ρg i = ρ i := fun h => by simp [ρg, h]
  have row : ∀ {i r}, hget H i = some r → ∃ cs e, r = .cells cs e .ro ∧ cs.all atomB = true := by
    intro i r hi
    have := List.all_eq_true.1 hH (some r) (List.mem_of_getElem? ((hget_eq H i r).1 hi))
    unfold tableRow at this
    split at this
    · rename_i h; cases h
    · rename_i cs e h; cases h; exact ⟨cs, e, rfl, this⟩
    · cases this
  have hRg : Rel P ρg H w := by
    refine ⟨fun i hi => by simp [ρg, Nat.not_lt.2 hi], fun i r hi => ?_, fun i r L hi hL => ?_, fun i j r s L M hi _ _ _ _ hr => ?_⟩
    · have hlt := hget_lt hi
      obtain ⟨L, hL⟩ := hR.has i r (hget' i _ hi)
      exact ⟨L, (hρ' hlt).trans hL⟩
    · have hlt := hget_lt hi
      obtain ⟨cs, e, rfl, hat⟩ := row hi
      obtain ⟨cs', e', fz, b1, b2, b3⟩ := hR.row i _ L (hget' i _ hi) (hρ hL).2
      exact ⟨cs', e', fz, b1, fun o x hx => let ⟨x', y1, y2⟩ := b2 o x hx; ⟨x', y1, by
        have hax := List.all_eq_true.1 hat x (List.mem_of_getElem? hx)
        rw [y2.atom_eq hax]; exact .atom hax⟩, b3⟩
    · obtain ⟨cs, e, rfl, _⟩ := row hi
      simp [ARow.isOwn] at hr
  have hno : ∀ b, ¬ OwnIn ρg H b := by
    rintro b ⟨i, r, L, hi, _, hr, _⟩
    obtain ⟨cs, e, rfl, _⟩ := row hi
    simp [ARow.isOwn] at hr
  have free_all : ∀ {l l' : List Value} {ρ1 ρ2 : Loc}, VRs ρ1 l l' → l.all freeB = true → VRs ρ2 l l' := by
    intro l
    induction l with
    | nil => intro l' ρ1 ρ2 h _; cases l' with
      | nil => exact VRs.nil _
      | cons x y => exact absurd h.1 (by simp)
    | cons x l ih =>
      intro l' ρ1 ρ2 h ha
      obtain ⟨y, l2, rfl, h1, h2⟩ := h.uncons
      simp only [List.all_cons, Bool.and_eq_true] at ha
      rw [h1.free_eq ha.1]
      exact VRs.cons (VR.refl _ ha.1) (ih h2 ha.2)
  have hGg : Globs ρg G := fun g hg => by
    obtain ⟨e, f, h⟩ := hG g hg
    exact ⟨e, f, (hρ' (by omega)).trans h⟩
  -- the other rows stay
  have back : ∀ {v' : Value} {w' : World} {ρ1 : Loc}, VR ρ1 v v' → Rel P ρ1 H w' → Moves ρg H w ρ1 H w' → VR ρ v v' ∧ Rel P ρ A w' ∧ Moves ρ A w ρ A w' := by
    intro v' w' ρ1 hvr hR1 hM
    refine ⟨by rw [hvr.free_eq hv]; exact VR.refl _ hv, ⟨hR.sup, hR.has, fun i r L hi hL => ?_, hR.sep⟩, Ext.refl _, Nat.le_refl _, fun _ _ => rfl, hM.size, fun b hb _ => hM.frame b hb (hno b), fun i r L hi _ => .inl ⟨hget_lt hi, r, hi, id⟩, hM.out, hM.loops⟩
    have h0 := hR.row i r L hi hL
    exact h0.move (Ext.refl _) (hM.frame _ h0.lt (hno _))
  rcases hsay ρg w args' (free_all hargs ha) hGg hRg with ⟨v', w', ρ1, h1, h2, h3, h4⟩ | ⟨h1, h2⟩
  · obtain ⟨g1, g2, g3⟩ := back h2 h3 h4
    exact .inl ⟨v', w', ρ, h1, g1, g2, g3⟩
  · refine .inr ⟨h1, h2.mono ?_⟩
    rintro e w' ⟨v', ρ1, rfl, h3, h4, h5⟩
    obtain ⟨g1, g2, g3⟩ := back h3 h4 h5
    exact ⟨v', ρ, rfl, g1, g2, g3⟩

/-- Contracts of calls that look at tables alone: of a function and its arguments: the tables that are looked at, and the result. -/
def baseKnown (B : FuncId → List Value → Option (Heap × Value)) : Nat → FuncId → List Value → Heap → Option (Value × Heap) := fun _ f args A =>
  match B f args with
  | some (H, v) => if args.all freeB && freeB v && startsB H A then some (v, A) else none
  | none => none
theorem env_base {P : Program} {G : Nat} {E : Env} {B : FuncId → List Value → Option (Heap × Value)} (hP : ProgOK P G) (hE : EnvOK P G E) (hB : ∀ f args H v, B f args = some (H, v) → G ≤ H.length ∧ H.all tableRow = true ∧ Gives P E 0 f args H (v, H)) :
    EnvOK P G (E.with (baseKnown B)) := by
  refine ⟨?_, ?_⟩
  · intro lim f args A v A' h
    simp only [Env.with] at h
    split at h
    · rename_i r hr
      cases h
      unfold baseKnown at hr
      split at hr
      · rename_i H u hu
        split at hr
        · rename_i hc
          cases hr
          simp only [Bool.and_eq_true] at hc
          obtain ⟨hgl, hH, n, hn⟩ := hB f args H _ hu
          exact fun ρ w args' hargs hG hR => base_says hgl hH hc.2 hc.1.1 hc.1.2 (fun ρ w args' => (call_sound hP hE n).says 0 f args H _ H hn ρ w args') hargs hG hR
        · cases hr
      · cases hr
    · exact hE.says lim f args A v A' h
  · intro lim f args A v A' h
    simp only [Env.with] at h
    split at h
    · rename_i r hr
      cases h
      unfold baseKnown at hr
      split at hr
      · split at hr
        · cases hr; exact Keeps.refl _ _
        · cases hr
      · cases hr
    · exact hE.keeps lim f args A v A' h
end Go.Abs
/-
The abstract machine: operations of a region, some at a time.
-/
namespace Go.Abs
open Go

end Go.Abs
