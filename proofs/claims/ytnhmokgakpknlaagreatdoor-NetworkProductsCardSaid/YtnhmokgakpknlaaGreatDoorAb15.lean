/-
The abstract machine: a run of it is a run of the model. Second part: code.
-/
import Derived.Test.YtnhmokgakpknlaaGreatDoorAb14
import Derived.Test.YtnhmokgakpknlaaGreatDoorAbM
import Derived.AtR
namespace Go.Abs
open Go

def It.real : It → Item
  | .code c => .code c
  | .inBlock id => .inBlock id
  | .inLoop b => .inLoop b
  | .inScope b => .inScope b
  | .ops all i => .inRegion all (List.range' i (all.size - i))

def okIt (G nt : Nat) : It → Bool
  | .code c => okCode G nt c
  | .inLoop b => okCode G nt b
  | .inScope b => okCode G nt b
  | .inBlock _ => true
  | .ops all _ => all.toList.all (okOper G nt)

theorem exit_real (id : Nat) (kk : List Item) : ∀ k : List It, exitTo id (k.map It.real ++ kk) = (match aExit id k with | some k' => some (k'.map It.real ++ kk) | none => exitTo id kk)
  | [] => rfl
  | x :: k => by
    cases x <;> simp only [List.map_cons, List.cons_append, It.real, exitTo, aExit]
    case inBlock id' => split <;> simp [exit_real id kk k]
    all_goals exact exit_real id kk k
theorem goto_real (g : Nat) (kk : List Item) : ∀ k : List It, gotoIn g (k.map It.real ++ kk) = (match aGoto g k with | some k' => some (k'.map It.real ++ kk) | none => gotoIn g kk)
  | [] => rfl
  | x :: k => by
    cases x <;> simp only [List.map_cons, List.cons_append, It.real, gotoIn, aGoto]
    case inScope b => split <;> simp_all [goto_real g kk k, It.real]
    all_goals exact goto_real g kk k
theorem exit_ok {G nt id : Nat} : ∀ {k k' : List It}, aExit id k = some k' → k.all (okIt G nt) = true → k'.all (okIt G nt) = true
  | [], k', h, _ => by cases h
  | x :: k, k', h, hk => by
    simp only [List.all_cons, Bool.and_eq_true] at hk
    cases x <;> simp only [aExit] at h
    case inBlock id' =>
      split at h
      · cases h; exact hk.2
      · exact exit_ok h hk.2
    all_goals exact exit_ok h hk.2
theorem label_ok {G nt l : Nat} : ∀ {c r : Code}, findLabel c l = some r → okCode G nt c = true → okCode G nt r = true := by
  intro c
  induction c with
  | seq a b iha ihb =>
    intro r h hk
    simp only [okCode, Bool.and_eq_true] at hk
    simp only [findLabel] at h
    split at h
    · rename_i r' hr
      cases h
      simp only [okCode, Bool.and_eq_true]
      exact ⟨iha hr hk.1, hk.2⟩
    · exact ihb h hk.2
  | label l' => intro r h _; simp only [findLabel] at h; split at h <;> first | (cases h; rfl) | cases h
  | _ => intro r h; simp [findLabel] at h
theorem goto_ok {G nt g : Nat} : ∀ {k k' : List It}, aGoto g k = some k' → k.all (okIt G nt) = true → k'.all (okIt G nt) = true
  | [], k', h, _ => by cases h
  | x :: k, k', h, hk => by
    simp only [List.all_cons, Bool.and_eq_true] at hk
    cases x <;> simp only [aGoto] at h
    case inScope b =>
      split at h
      · rename_i r hr
        cases h
        simp only [List.all_cons, Bool.and_eq_true]
        exact ⟨label_ok hr hk.1, hk.1, hk.2⟩
      · exact goto_ok h hk.2
    all_goals exact goto_ok h hk.2

section steps
variable {P : Program} {b : Frame} {a : Act} {k : List Item} {cs : List Frame} {w w' : World} {ops : Array Oper} {i : Nat} {rest : List Nat} {o : Oper} {v : Value}

theorem stepR_scope {c : Code} : step P (lone (b.atR a (.code (.scope c) :: k)) cs w) = .next (lone (b.atR a (.code c :: .inScope c :: k)) cs w) :=
  step_lone_go (by simp [stepG, stepG.exec, Frame.atR])
theorem stepR_inScope {c : Code} : step P (lone (b.atR a (.inScope c :: k)) cs w) = .next (lone (b.atR a k) cs w) :=
  step_lone_go (by simp [stepG, stepG.exec, Frame.atR])
theorem finish_eq (ho : ops[i]? = some o) (v : Value) : (b.atR a (.inRegion ops (i :: rest) :: k)).finish v = b.atR (a.put o.dst v) (.inRegion ops rest :: k) := by
  rw [Frame.finish_atR, ho]; rfl

/-- One operation of a region, whatever it is. -/
theorem oper_steps {K : Act → World → Prop} {Q : Exit → Act → World → Prop} (hQ : ∀ e a w, Q e a w → e = .normal) (hnd : isDefer o.op = false) (ho : ops[i]? = some o) (hw : Region.wanted o (yielded ops a.tmps) = true) (h : o.wp P a w K Q) :
    ∃ a' w', K a' w' ∧ Steps P (lone (b.atR a (.inRegion ops (i :: rest) :: k)) cs w) (lone (b.atR a' (.inRegion ops rest :: k)) cs w') := by
  have hg := stepGR_op (P := P) (b := b) (k := k) (cs := cs) (w := w) (rest := rest) ho hw
  rw [Oper.semAt_eq _ _ _ (fun c hc => by rw [hc] at hnd; cases hnd)] at hg
  unfold Oper.wp Oper.upon at h
  split at h
  · rename_i v w' hr
    refine ⟨_, w', h, .one (step_lone_go ?_)⟩
    rw [hg, ← finish_eq ho]; simp [stepG.apply, hr]
  · rename_i w' hr
    refine ⟨_, w', h, .one (step_lone_go ?_)⟩
    rw [hg, ← finish_eq ho]; simp [stepG.apply, hr]
  · rename_i d w' hr
    refine ⟨_, w', h, .one (step_lone_go ?_)⟩
    have : ({ b.atR a (.inRegion ops (i :: rest) :: k) with defers := d :: a.defers } : Frame).finish undef =
        b.atR ({ a with defers := d :: a.defers }.put o.dst undef) (.inRegion ops rest :: k) := by
      have := Frame.finish_atR b { a with defers := d :: a.defers } ops i rest k undef
      rw [ho] at this; exact this
    rw [hg]; simp only [stepG.apply, Sem.runT_eq, hr, GStep.bare_after]
    exact congrArg (fun fr => GStep.go { frame := fr, callers := cs, status := .running, dying := none } w') this
  · rename_i f args w' hr
    obtain ⟨e, w'', fr, hR, hsteps, _, hleave⟩ := h (b.atR a (.inRegion ops (i :: rest) :: k) :: cs)
    have henter : step P (lone (b.atR a (.inRegion ops (i :: rest) :: k)) cs w) =
        .next (lone (Frame.enter P f args .normal) (b.atR a (.inRegion ops (i :: rest) :: k) :: cs) w') :=
      step_lone_go (by rw [hg]; simp [stepG.apply, hr, Frame.atR])
    cases e with
    | returned v =>
      refine ⟨_, w'', hR, .head henter (Steps.trans hsteps (.one ?_))⟩
      rw [← finish_eq ho]; exact step_leave_returned hleave
    | panicked chain => exact absurd (hQ _ _ _ hR) (by simp)
    | outgrown => obtain ⟨_, _, hR⟩ := hR; exact absurd (hQ _ _ _ hR) (by simp)
  · rename_i row args w' hr
    obtain ⟨v, w'', hR, hsteps⟩ := h (b.atR a (.inRegion ops (i :: rest) :: k)) cs
    have henter : step P (lone (b.atR a (.inRegion ops (i :: rest) :: k)) cs w) =
        .next (lone (Frame.ofRow P row args .normal) (b.atR a (.inRegion ops (i :: rest) :: k) :: cs) w') :=
      step_lone_go (by rw [hg]; simp [stepG.apply, hr, Frame.atR])
    refine ⟨_, w'', hR, .head henter ?_⟩
    rw [← finish_eq ho]; exact hsteps
  · exact absurd (hQ _ _ _ h) (by simp)
  · exact h.elim

/-- The operations of a region, in an order. -/
theorem ops_steps {Q : Exit → Act → World → Prop} (hQ : ∀ e a w, Q e a w → e = .normal) (hnd : ops.toList.all (fun o => !isDefer o.op) = true) : ∀ (is : List Nat) (a : Act) (w : World), wpOps P ops Q is a w →
    ∃ a' w', Q .normal a' w' ∧ Steps P (lone (b.atR a (.inRegion ops is :: k)) cs w) (lone (b.atR a' k) cs w')
  | [], a, w, h => ⟨a, w, h, .one stepR_region_end⟩
  | i :: is, a, w, h => by
    rw [wpOps_cons] at h
    unfold wpOp at h
    split at h
    · rename_i hn
      obtain ⟨a', w', h1, h2⟩ := ops_steps hQ hnd is a w h
      refine ⟨a', w', h1, .head ?_ h2⟩
      have := stepR_op_skip (P := P) (b := b) (a := a) (k := k) (cs := cs) (w := w) (ops := ops) (i := i) (rest := is) (by simp [hn])
      simpa [hn, Act.put] using this
    · rename_i o ho
      split at h
      · rename_i hw
        rcases h with h | ⟨_, _, _, h⟩
        · obtain ⟨a1, w1, h1, h2⟩ := oper_steps (b := b) (k := k) (cs := cs) (rest := is) hQ (by
            have := List.all_eq_true.1 hnd o (by have : o ∈ ops := Array.mem_of_getElem? ho; simpa using this)
            simpa using this) ho hw h
          obtain ⟨a', w', g1, g2⟩ := ops_steps hQ hnd is a1 w1 h1
          exact ⟨a', w', g1, h2.trans g2⟩
        · exact absurd (hQ _ _ _ h) (by simp)
      · rename_i hw
        obtain ⟨a', w', h1, h2⟩ := ops_steps hQ hnd is _ w h
        refine ⟨a', w', h1, .head ?_ h2⟩
        have := stepR_op_skip (P := P) (b := b) (a := a) (k := k) (cs := cs) (w := w) (ops := ops) (i := i) (rest := is) (by simp [ho]; simpa using hw)
        simp only [ho, Option.bind_some] at this
        exact this
end steps

theorem tget_eq (l : List Value) (t : Nat) : tget l t = (l[t]?).getD undef := by
  induction l generalizing t with
  | nil => simp []
  | cons v l ih => cases t <;> simp [ih]

/-- How a frame is left. -/
def Left (kk : List Item) : Option Code → List Item → Prop
  | none, td => td = kk
  | some .ret, td => ∃ k, td = .code .ret :: k
  | some (.exit id), td => ∃ k, td = .code (.exit id) :: k ∧ exitTo id k = none
  | some (.goto g), td => ∃ k, td = .code (.goto g) :: k ∧ gotoIn g k = none
  | _, _ => False

/-- What a run of the machine says of the model. -/
def RunSays (P : Program) (G : Nat) (run : RunF) : Prop :=
  ∀ todo l A l' A' j, run todo l A = some (l', A', j) → ∀ (nt : Nat), todo.all (okIt G nt) = true → ∀ (ρ : Loc) (a : Act) (w : World) (b : Frame) (cs : List Frame) (rs : List Nat) (kk : List Item), (j ≠ none → kk = []) → (∀ r, b.roundOf = some r → IsLoop w r) →
    StR ρ nt l a → Globs ρ G → Rel P ρ A w → MarksOK w a.defers rs →
    ∃ ρ' a' w' td, Steps P (lone (b.atR a (todo.map It.real ++ kk)) cs w) (lone (b.atR a' td) cs w') ∧ Left kk j td ∧ StR ρ' nt l' a' ∧ Rel P ρ' A' w' ∧ Moves ρ A w ρ' A' w' ∧ ∃ rs', MarksOK w' a'.defers rs' ∧ ∀ r ∈ rs', r ∈ rs ∨ w.heap.size ≤ r
def RunKeeps (lim : Nat) (run : RunF) : Prop := ∀ todo l A l' A' j, run todo l A = some (l', A', j) → Keeps lim A A'

structure ProgOK (P : Program) (G : Nat) : Prop where
  code : ∀ (f : FuncId) (fn : Func) (c : Code), P.funcs[f]? = some fn → fn.body = some c → okCode G fn.ntmps c = true
  mixed : P.follows .mixedOrders = true
  name : ∀ (f : FuncId) (fn : Func), P.funcs[f]? = some fn → (fn.name == "runtime.NumGoroutine") = false
  glob : G = P.globals.size

structure EnvOK (P : Program) (G : Nat) (E : Env) : Prop where
  says : ∀ lim f args A v A', E.known lim f args A = some (v, A') → ∀ ρ w args', VRs ρ args args' → Globs ρ G → Rel P ρ A w → CallSays P ρ A w f args' v A'
  keeps : ∀ lim f args A v A', E.known lim f args A = some (v, A') → Keeps lim A A'

theorem callBy_ok {P : Program} {G : Nat} {E : Env} {run : Nat → RunF} (hP : ProgOK P G) (hE : EnvOK P G E) (hs : ∀ lim, RunSays P G (run lim)) (hk : ∀ lim, RunKeeps lim (run lim)) : CallOK P G (aCallBy P E run) := by
  have enter : ∀ {f : FuncId} {fn : Func} {c : Code}, P.funcs[f]? = some fn → fn.body = some c → ∀ (args' : List Value) (w : World), (callFunc f args'.toArray).run P w = .ok (.enter f args'.toArray) w := by
    intro f fn c hf hb args' w
    have hne : ¬ fn.name = "runtime.NumGoroutine" := by simpa using hP.name f fn hf
    simp [callFunc, hf, hne, hb]
  have go : ∀ {f : FuncId} {fn : Func} {c : Code}, P.funcs[f]? = some fn → fn.body = some c → ∀ {lim : Nat} {args l' : List Value} {A A' : Heap} {v : Value} {j : Option Code}, ¬ fn.ntmps < args.length → run lim [.code c] args A = some (l', A', j) → retB j = true → aResults P fn l' A' = some v →
      ∀ (ρ : Loc) (w : World) (args' : List Value), VRs ρ args args' → Globs ρ G → Rel P ρ A w → Calls P f args'.toArray w fun e w' => ∃ v' ρ', e = .returned v' ∧ VR ρ' v v' ∧ Rel P ρ' A' w' ∧ Moves ρ A w ρ' A' w' := by
    intro f fn c hf hb lim args l' A A' v j hnt hrun hj hres ρ w args' hargs hG hR cs
    let b : Frame := { (default : Frame) with fn := f, kind := .normal }
    have hal := hargs.1
    have henter : Frame.enter P f args'.toArray .normal = b.at { tmps := args'.toArray ++ Array.replicate (fn.ntmps - args'.toArray.size) undef, defers := [] } [.code c] := by
      simp [Frame.enter, Frame.at, hf, hb, b]
    have hS : StR ρ fn.ntmps args { tmps := args'.toArray ++ Array.replicate (fn.ntmps - args'.toArray.size) undef, defers := [] } := by
      refine ⟨by simp; omega, fun t => ?_⟩
      rw [tget_eq]
      by_cases ht : t < args.length
      · have ht' : t < args'.length := by omega
        have := hargs.2 t args[t] args'[t] (List.getElem?_eq_getElem ht) (List.getElem?_eq_getElem ht')
        simpa [Array.getD_eq_getD_getElem?, Array.getElem?_append_left, ht, ht', List.getElem?_eq_getElem] using this
      · have ht' : ¬ t < args'.length := by omega
        have h1 : args[t]? = none := List.getElem?_eq_none (by omega)
        rw [h1]
        have h2 : ((args'.toArray ++ Array.replicate (fn.ntmps - args'.toArray.size) undef).getD t undef) = undef := by
          rw [Array.getD_eq_getD_getElem?, Array.getElem?_append_right (by simp; omega)]
          rw [Array.getElem?_replicate]
          split <;> rfl
        simp only [Option.getD_none]
        rw [h2]
        exact VR.undef ρ
    obtain ⟨ρ', a', w', td, hsteps0, hleft, hS', hR1, hM1, rs', hmk, hrs⟩ := hs lim [.code c] args A l' A' j hrun fn.ntmps (by simp [okIt, hP.code f fn c hf hb]) ρ _ w b cs [] [] (fun _ => rfl) (fun r hr => by cases hr) hS hG hR ⟨rfl, List.nodup_nil, fun r hr => by cases hr⟩
    have hb0 : b.roundOf = none := rfl
    have hsteps : Steps P _ (lone { b.at a' td with mode := .returning } cs w') := hsteps0.trans (.one (by
      rw [← Frame.atR_of_none hb0]
      cases j with
      | none => simp only [Left] at hleft; subst hleft; exact stepR_end hb0
      | some c' =>
        cases c' with
        | ret => obtain ⟨k', rfl⟩ := hleft; exact stepR_ret hb0
        | _ => simp [retB] at hj))
    rw [Frame.atR_of_none hb0] at hsteps
    obtain ⟨w2, hsteps2, hR', hM⟩ := marks_run rs' { b.at a' td with mode := .returning } cs w' a'.defers hmk (fun r hr => by
      rcases hrs r hr with h | h
      · cases h
      · exact h) (by simp) rfl hR1 hM1
    obtain ⟨v', hv', hvr⟩ := results_run hS' hR' hres
    refine ⟨.returned v', w2, { { b.at a' td with mode := .returning } with defers := [] }, ⟨v', ρ', rfl, hvr, hR', hM⟩, ?_, rfl, rfl, rfl, rfl, fn, hf, hv'⟩
    rw [henter]
    exact hsteps.trans hsteps2
  refine ⟨?_, ?_⟩
  · intro lim f args A v A' h ρ w args' hargs hG hR
    unfold aCallBy at h
    split at h
    · rename_i r hkn
      cases h
      exact hE.says lim f args A v A' hkn ρ w args' hargs hG hR
    · split at h
      · cases h
      · rename_i fn hf
        split at h
        · split at h
          · rename_i hall
            split at h
            · rename_i u hp
              split at h
              · rename_i hfree
                cases h
                have hargs2 : args' = args := by
                  have : ∀ (l l' : List Value), VRs ρ l l' → l.all freeB = true → l' = l := by
                    intro l
                    induction l with
                    | nil => intro l' h _; cases l' with
                      | nil => rfl
                      | cons x y => exact absurd h.1 (by simp)
                    | cons x l ih =>
                      intro l' h ha
                      obtain ⟨y, l2, rfl, h1, h2⟩ := h.uncons
                      simp only [List.all_cons, Bool.and_eq_true] at ha
                      rw [h1.free_eq ha.1, ih l2 h2 ha.2]
                  exact this args args' hargs hall
                rw [hargs2]
                exact .inl ⟨v, w, ρ, pureVal_run _ _ hp w, VR.refl ρ hfree, hR, Moves.refl _ _ _⟩
              · cases h
            · cases h
          · cases h
        · rename_i c hb
          split at h
          · cases h
          · rename_i hnt
            split at h
            · split at h
              · rename_i l' A1 j hrun
                split at h
                · rename_i hj
                  split at h
                  · rename_i u hres
                    cases h
                    exact .inr ⟨enter hf hb args' w, go hf hb hnt hrun hj hres ρ w args' hargs hG hR⟩
                  · cases h
                · cases h
              · cases h
            · split at h
              · rename_i l' A1 j hrun
                split at h
                · rename_i hj
                  split at h
                  · rename_i u hres
                    simp only [Option.some.injEq] at h
                    refine .inr ⟨enter hf hb args' w, (go hf hb hnt hrun hj hres ρ w args' hargs hG hR).mono ?_⟩
                    rintro e w' ⟨v', ρ2, rfl, hv, hR2, hM⟩
                    have hkeep := hk A.length [.code c] args A l' A1 j hrun
                    obtain ⟨ρ', h1, h2, h3⟩ := gc_sound hR hR2 hM hkeep.1 (fun i hi => hkeep.2 i hi hi) hv h
                    exact ⟨v', ρ', rfl, h1, h2, h3⟩
                  · cases h
                · cases h
              · cases h
  · intro lim f args A v A' h
    unfold aCallBy at h
    split at h
    · rename_i r hkn
      cases h
      exact hE.keeps lim f args A v A' hkn
    · split at h
      · cases h
      · split at h
        · repeat' (split at h)
          all_goals first | (cases h; exact Keeps.refl _ _) | cases h
        · rename_i c hb
          split at h
          · cases h
          · split at h
            · split at h
              · rename_i l' A1 j hrun
                split at h
                · split at h
                  · cases h; exact hk lim _ _ _ _ _ _ hrun
                  · cases h
                · cases h
              · cases h
            · split at h
              · rename_i l' A1 j hrun
                split at h
                · split at h
                  · rename_i u hres
                    simp only [Option.some.injEq] at h
                    have hkeep := hk A.length [.code c] args A l' A1 j hrun
                    rcases aGC_cases h with ⟨R, _, _, _, rfl⟩ | ⟨_, rfl⟩
                    · exact ⟨by simp, fun i _ hi => by rw [hget_append, if_pos hi]⟩
                    · exact ⟨hkeep.1, fun i _ hi => hkeep.2 i hi hi⟩
                  · cases h
                · cases h
              · cases h
end Go.Abs
