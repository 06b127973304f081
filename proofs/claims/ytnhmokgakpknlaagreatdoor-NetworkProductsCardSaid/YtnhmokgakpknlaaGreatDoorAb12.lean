/-
The abstract machine: a run of it is a run of the model. First part: calls, operations, results.
-/
import Derived.Test.YtnhmokgakpknlaaGreatDoorAb11
namespace Go.Abs
open Go

/-- What a call of the machine says of the model. -/
def CallSays (P : Program) (ρ : Loc) (A : Heap) (w : World) (f : FuncId) (args' : List Value) (v : Value) (A' : Heap) : Prop :=
  (∃ v' w' ρ', (callFunc f args'.toArray).run P w = .ok (.value v') w' ∧ VR ρ' v v' ∧ Rel P ρ' A' w' ∧ Moves ρ A w ρ' A' w') ∨
  ((callFunc f args'.toArray).run P w = .ok (.enter f args'.toArray) w ∧
    Calls P f args'.toArray w fun e w' => ∃ v' ρ', e = .returned v' ∧ VR ρ' v v' ∧ Rel P ρ' A' w' ∧ Moves ρ A w ρ' A' w')

structure CallOK (P : Program) (G : Nat) (call : CallF) : Prop where
  says : ∀ lim f args A v A', call lim f args A = some (v, A') → ∀ ρ w args', VRs ρ args args' → Globs ρ G → Rel P ρ A w → CallSays P ρ A w f args' v A'
  keeps : ∀ lim f args A v A', call lim f args A = some (v, A') → A.length ≤ A'.length ∧ ∀ i, i < lim → i < A.length → hget A' i = hget A i

/-- What a round of a range over a function says of the model. -/
def YieldSays (P : Program) (ρ : Loc) (A : Heap) (w : World) (y : Nat) (args' : List Value) (t : Bool) (A' : Heap) : Prop :=
  ∃ L fn tm assign body, ρ y = some L ∧ (Instr.yield L.blk args'.toArray).run P w = .ok (.round L.blk fn tm assign body) w ∧ ∀ (c : Frame) (cs : List Frame), ∃ ρ' w', Steps P (lone (Frame.round L.blk fn tm assign body .normal) (c :: cs) w) (lone (c.finish (.bool t)) cs w') ∧
    Rel P ρ' A' w' ∧ Moves ρ A w ρ' A' w'
structure SubOK (P : Program) (G : Nat) (c : Sub) : Prop where
  call : CallOK P G c.call
  says : ∀ lim y args A t A', c.yld lim y args A = some (t, A') → ∀ ρ w args', VRs ρ args args' → Globs ρ G → Rel P ρ A w → YieldSays P ρ A w y args' t A'
  keeps : ∀ lim y args A t A', c.yld lim y args A = some (t, A') → A.length ≤ A'.length ∧ ∀ i, i < lim → i < A.length → hget A' i = hget A i

theorem operands_ok {ρ : Loc} {G nt : Nat} {l : List Value} {a : Act} (hS : StR ρ nt l a) (hG : Globs ρ G) {o : Oper} (hok : okOper G nt o = true) : ∀ x ∈ o.op.operands.toList, VR ρ (ev l x) (a.eval x) := by
  simp only [okOper, Bool.and_eq_true] at hok
  exact fun x hx => hS.ev hG (List.all_eq_true.1 hok.1.1 x hx)

section
variable {P : Program} {ρ : Loc} {G nt lim : Nat} {A A' : Heap} {w : World} {l l' : List Value} {a : Act} {v : Value}

theorem callOf_run {o : Oper} (hops : ∀ x ∈ o.op.operands.toList, VR ρ (ev l x) (a.eval x)) {f : FuncId} {args : List Value} (h : aCallOf l o = some (f, args)) :
    ∃ args', VRs ρ args args' ∧ execOp a.eval o = callFunc f args'.toArray := by
  unfold aCallOf at h
  split at h
  · rename_i x xs ats ho
    split at h
    · rename_i g first captured hx
      simp only [Option.some.injEq, Prod.mk.injEq] at h
      obtain ⟨hgf, hargs0⟩ := h
      subst hargs0
      rw [← hgf]
      rw [ho] at hops
      have hxr := hops x (by simp [Op.operands, Call.operands])
      rw [hx] at hxr
      have hargs := VRs.evs xs.toList (fun y hy => hops y (by simp [Op.operands, Call.operands]; exact .inr (by simpa using hy)))
      obtain ⟨f', c', he, hf, hc⟩ : ∃ f' c', a.eval x = .func (.func g) f' c' ∧ VRs ρ first.toList f'.toList ∧ VRs ρ captured.toList c'.toList := by
        generalize a.eval x = y at hxr
        cases hxr with
        | atom h => simp [atomB] at h
        | func hy h1 h2 h3 h4 => exact ⟨_, _, rfl, ⟨by simpa using h1, h3⟩, ⟨by simpa using h2, h4⟩⟩
      refine ⟨f'.toList ++ xs.toList.map a.eval ++ c'.toList, (hf.append hargs).append hc, ?_⟩
      have harr : (f'.toList ++ xs.toList.map a.eval ++ c'.toList).toArray = f' ++ xs.map a.eval ++ c' := by
        apply Array.ext'; simp
      rw [harr]
      simp [execOp, ho, resolve, he, Deferred.ofValue, invoke]
    · cases h
  · cases h

/-- An operation, as the model's rule for it wants it. -/
theorem aOper_wp {c : Sub} (hC : SubOK P G c) {o : Oper} (hy : aYieldOf l o = none) (E : ∀ x ∈ o.op.operands.toList, VR ρ (ev l x) (a.eval x)) (hG : Globs ρ G) (hR : Rel P ρ A w) (hok : okOper G nt o = true) (h : aOper P c lim l o A = some (v, A'))
    {K : Act → World → Prop} {Q : Exit → Act → World → Prop} (hK : ∀ v' w' ρ', VR ρ' v v' → Rel P ρ' A' w' → Moves ρ A w ρ' A' w' → K (a.put o.dst v') w') : o.wp P a w K Q := by
  unfold aOper at h
  rw [hy] at h
  simp only at h
  unfold Oper.wp
  split at h
  · rename_i f args hco
    obtain ⟨args', hargs, hrun⟩ := callOf_run E hco
    rw [hrun]
    rcases hC.call.says lim f args A v A' h ρ w args' hargs hG hR with ⟨v', w', ρ', h1, h2, h3, h4⟩ | ⟨h1, h2⟩
    · rw [h1]; exact hK v' w' ρ' h2 h3 h4
    · rw [h1]
      refine h2.mono ?_
      rintro e w' ⟨v', ρ', rfl, h3, h4, h5⟩
      exact hK v' w' ρ' h3 h4 h5
  · obtain ⟨n, v', w', ρ', h1, h2, h3, h4, h5⟩ := aOp_sound E hR hok h
    rw [h1]
    rcases h2 with rfl | ⟨rfl, rfl⟩
    · exact hK v' w' ρ' h3 h4 h5
    · exact hK undef w' ρ' h3 h4 h5

def resAt (a : Act) : ResultVar → Sem Value
  | .tmp t => pure (a.tmps.getD t undef)
  | .cell x t => do loadVar t (← asAddr (a.tmps.getD x undef))
theorem results_eq (fn : Func) (a : Act) : results fn a.tmps = (do let vs ← fn.results.mapM (resAt a); pure (if h : vs.size = 1 then vs[0] else .tuple vs)) := by
  have : (fun r : ResultVar => match r with
      | .tmp t => (pure (a.tmps.getD t undef) : Sem Value)
      | .cell x t => do loadVar t (← asAddr (a.tmps.getD x undef))) = resAt a := by funext r; cases r <;> rfl
  rw [← this]
  rfl

theorem results1_run (hS : StR ρ nt l a) (hR : Rel P ρ A w) : ∀ (rs : List ResultVar) (vs : List Value), aResults1 P l A rs = some vs →
    ∃ vs', (rs.mapM (resAt a)).run P w = .ok vs' w ∧ VRs ρ vs vs'
  | [], vs, h => by cases h; exact ⟨[], by simp, VRs.nil ρ⟩
  | r :: rs, vs, h => by
    simp only [aResults1] at h
    split at h
    · rename_i v us hv hus
      cases h
      obtain ⟨us', hrun, hr⟩ := results1_run hS hR rs us hus
      cases r with
      | tmp t =>
        cases hv
        refine ⟨a.tmps.getD t undef :: us', ?_, VRs.cons (hS.tmps t) hr⟩
        have hfirst : (resAt a (.tmp t)).run P w = .ok (a.tmps.getD t undef) w := rfl
        simp only [List.mapM_cons, Sem.run_bind, hfirst, Sem.run_pure, Result.andThen_ok, hrun]
      | cell x t =>
        simp only [aResult] at hv
        obtain ⟨v', w', ρ', h1, h2, h3, h4⟩ := load_sound (P := P) (w := w) hR hv (hS.tmps x)
        have hp := hS.tmps x
        have hld : ∃ p, a.tmps.getD x undef = .pointer (some p) ∧ (loadVar t p).run P w = .ok v' w' := by
          unfold aLoad at hv
          split at hv
          · rename_i i o heq
            rw [heq] at hp
            obtain ⟨L, hL, he⟩ := hp.ptr_inv
            refine ⟨_, he, ?_⟩
            rw [he] at h1
            simpa [Instr.loadAt, Instr.sureAddr] using h1
          · cases hv
        obtain ⟨p, hp, hload⟩ := hld
        have hrunv : ∃ v'', (loadVar t p).run P w = .ok v'' w ∧ VR ρ v v'' := by
          unfold aLoad at hv
          split at hv
          · rename_i i o heq
            have hp2 := hS.tmps x
            rw [heq] at hp2
            obtain ⟨L, hL, he⟩ := hp2.ptr_inv
            rw [hp] at he; cases he
            split at hv
            · rename_i cs e use hg
              exact loadVar_sound (hR.row' hL hg) hv
            · cases hv
          · cases hv
        obtain ⟨v'', h5, h6⟩ := hrunv
        refine ⟨v'' :: us', ?_, VRs.cons h6 hr⟩
        have hfirst : (resAt a (.cell x t)).run P w = .ok v'' w := by simp [resAt, hp, asAddr, h5]
        simp only [List.mapM_cons, Sem.run_bind, hfirst, Sem.run_pure, Result.andThen_ok, hrun]
    · cases h

theorem results_run (hS : StR ρ nt l a) (hR : Rel P ρ A w) {fn : Func} (h : aResults P fn l A = some v) : ∃ v', (results fn a.tmps).run P w = .ok v' w ∧ VR ρ v v' := by
  unfold aResults at h
  have key : ∀ vs, aResults1 P l A fn.results.toList = some vs → ∃ vs', (fn.results.mapM (resAt a)).run P w = .ok vs'.toArray w ∧ VRs ρ vs vs' := by
    intro vs hvs
    obtain ⟨vs', hrun, hr⟩ := results1_run hS hR _ _ hvs
    refine ⟨vs', ?_, hr⟩
    rw [Array.mapM_eq_mapM_toList, Sem.run_map, hrun]
    rfl
  split at h
  · rename_i u hu
    cases h
    obtain ⟨vs', hrun, hr⟩ := key _ hu
    obtain ⟨v', l', rfl, h1, h2⟩ := hr.uncons
    have : l' = [] := List.length_eq_zero_iff.1 (by simpa using h2.1.symm)
    subst this
    refine ⟨v', ?_, h1⟩
    rw [results_eq]
    simp only [Sem.run_bind]
    rw [hrun]
    simp
  · rename_i vs hne hvs
    cases h
    obtain ⟨vs', hrun, hr⟩ := key _ hvs
    have hl : vs'.toArray.size ≠ 1 := by
      intro h1
      have h2 : vs.length = 1 := by rw [hr.1]; simpa using h1
      match vs, h2 with
      | [x], _ => exact hne x rfl
    refine ⟨.tuple vs'.toArray, ?_, .tuple (by simpa using hr.1) (by simpa using hr.2)⟩
    rw [results_eq]
    simp only [Sem.run_bind]
    rw [hrun]
    simp only [Result.andThen_ok, dif_neg hl, Sem.run_pure]
  · cases h
end
end Go.Abs
