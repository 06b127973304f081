/-
The abstract machine: rounds of ranges over functions, and the ranges.
-/
import Derived.Test.YtnhmokgakpknlaaGreatDoorAb15
import Derived.RangeFuncIn
namespace Go.Abs
open Go

theorem putAll_ok {ρ : Loc} : ∀ (ps : List Tmp) (args args' l : List Value) (a : Array Value), VRs ρ args args' → (∀ t, VR ρ (tget l t) (a.getD t undef)) → (∀ p ∈ ps, p < a.size) →
    ((ps.zip args').foldl (fun tm (p : Tmp × Value) => tm.setIfInBounds p.1 p.2) a).size = a.size ∧ ∀ t, VR ρ (tget (putAll l (ps.zip args)) t) (((ps.zip args').foldl (fun tm (p : Tmp × Value) => tm.setIfInBounds p.1 p.2) a).getD t undef)
  | [], args, args', l, a, _, h, _ => ⟨rfl, h⟩
  | p :: ps, args, args', l, a, hv, h, hp => by
    cases args with
    | nil =>
      cases args' with
      | nil => exact ⟨rfl, h⟩
      | cons x y => exact absurd hv.1 (by simp)
    | cons v args =>
      obtain ⟨v', l', rfl, h1, h2⟩ := hv.uncons
      have hlt : p < a.size := hp p (by simp)
      have h3 : ∀ t, VR ρ (tget (tset l p v) t) ((a.setIfInBounds p v').getD t undef) := by
        intro t
        rw [tget_tset]
        by_cases ht : t = p
        · subst ht; simpa [Array.getD_eq_getD_getElem?, hlt] using h1
        · have := h t
          simp only [if_neg ht, Array.getD_eq_getD_getElem?, Array.getElem?_setIfInBounds_ne (Ne.symm ht)] at this ⊢
          exact this
      obtain ⟨g1, g2⟩ := putAll_ok ps args l' (tset l p v) (a.setIfInBounds p v') h2 h3 (fun q hq => by simpa using hp q (by simp [hq]))
      simp only [List.zip_cons_cons, List.foldl_cons, putAll] at g1 g2 ⊢
      exact ⟨by rw [g1]; simp, g2⟩

theorem run_getLoop {P : Program} {w : World} {r : Nat} {o : Loop} (h : w.heap[r]? = some (.loop o)) : (Instr.getLoop r).run P w = .ok o w := by
  have : (getObj r).run P w = .ok (.loop o) w := by simp [getObj, Sem.run, h]
  simp only [Instr.getLoop, Sem.run_bind, this, Result.andThen_ok, Sem.run_pure]
theorem run_setLoop {P : Program} {w : World} {r : Nat} {o : Obj} {o' : Loop} (h : w.heap[r]? = some (.loop o')) : (setObj r o).run P w = .ok () { w with heap := w.heap.setIfInBounds r o } := by
  simp [setObj, Sem.run, h]

theorem loop_lt {w : World} {b : Nat} {o : Obj} (h : w.heap[b]? = some o) : b < w.heap.size := (Array.getElem?_eq_some_iff.1 h).1

/-- A loop's row turns. -/
theorem Rel.setLoop {P : Program} {ρ : Loc} {A : Heap} {w : World} (h : Rel P ρ A w) {i : Nat} {tm : List Value} {ps : Array Tmp} {as bo : Code} {st st2 : LoopState} {pe pe2 : Option Code} {L : L4} (hi : hget A i = some (.loop tm ps as bo st pe)) (hL : ρ i = some L) :
    ∃ r : Loop, w.heap[L.blk]? = some (.loop r) ∧ r.state = st ∧ r.pending = pe ∧
      Rel P ρ (hset A i (some (.loop tm ps as bo st2 pe2))) { w with heap := w.heap.setIfInBounds L.blk (.loop { r with state := st2, pending := pe2 }) } ∧
      Moves ρ A w ρ (hset A i (some (.loop tm ps as bo st2 pe2))) { w with heap := w.heap.setIfInBounds L.blk (.loop { r with state := st2, pending := pe2 }) } := by
  obtain ⟨tm', fn, df, hw, h1, h2, h3, h4⟩ := h.row' hL hi
  have hlt := loop_lt hw
  refine ⟨_, hw, rfl, rfl, h.setOwn hi rfl rfl hL ⟨tm', fn, df, by simp [hlt], h1, h2, h3, h4⟩ (fun b hb => by simp [Array.getElem?_setIfInBounds_ne (Ne.symm hb)]) (by simp) ⟨rfl, rfl⟩ (fun _ => rfl)⟩

section
variable {P : Program} {G : Nat} {lim : Nat} {ih : RunF}

theorem yield_says (hP : ProgOK P G) (hi : RunSays P G ih) {y : Nat} {args args' : List Value} {A A' : Heap} {t : Bool} (h : aYield lim ih y args A = some (t, A')) {ρ : Loc} {w : World} (hargs : VRs ρ args args') (hG : Globs ρ G) (hR : Rel P ρ A w) : YieldSays P ρ A w y args' t A' := by
  unfold aYield at h
  split at h
  · rename_i tm ps assign body pe hy
    split at h
    · rename_i hc
      obtain ⟨hlim, hlen⟩ := hc
      split at h
      · rename_i l1 A1 hrun1
        split at h
        · rename_i tm1 ps1 as1 bo1 pe1 hy1
          split at h
          · rename_i l2 A2 j hrun2
            split at h
            · rename_i tm2 ps2 as2 bo2 st2 pe2 hy2
              cases h
              obtain ⟨L, hL, tm', fn, df, hw, htm, hps, hca, hcb⟩ := hR.found hy
              have hgl := run_getLoop (P := P) hw
              have hsz : args'.toArray.size = ps.size := by simp [← hargs.1, hlen]
              have hfold : ((ps.zip args'.toArray).foldl (fun tmps (p : Tmp × Value) => tmps.setIfInBounds p.1 p.2) tm') = ((ps.toList.zip args').foldl (fun tm (p : Tmp × Value) => tm.setIfInBounds p.1 p.2) tm') := by
                rw [← Array.foldl_toList]; simp
              obtain ⟨g1, g2⟩ := putAll_ok ps.toList args args' tm tm' hargs htm (fun p hp => by simpa using List.all_eq_true.1 hps p hp)
              rw [← hfold] at g1 g2
              generalize htt : ((ps.zip args'.toArray).foldl (fun tmps (p : Tmp × Value) => tmps.setIfInBounds p.1 p.2) tm') = tt at g1 g2
              refine ⟨L, fn, tt, assign, body, hL, ?_, fun c cs => ?_⟩
              · simp only [Instr.yield, Sem.run_bind, hgl, Result.andThen_ok]
                simp [hsz, ← htt]
              · let b : Frame := { (default : Frame) with fn := fn, kind := .normal, roundOf := some L.blk }
                have hfr : Frame.round L.blk fn tt assign body .normal = b.atR { tmps := tt, defers := [] } [.code assign, .beginRound, .code body] := by
                  simp [Frame.round, Frame.atR, b]
                have hS : StR ρ tm'.size (putAll tm (ps.toList.zip args)) { tmps := tt, defers := [] } := ⟨g1, g2⟩
                have hisl : IsLoop w L.blk := ⟨_, hw⟩
                obtain ⟨ρ1, a1, w1, td1, s1, hl1, hS1, hR1, hM1, rs1, hmk1, _⟩ := hi [.code assign] _ A l1 A1 none hrun1 tm'.size (by simpa [okIt, hP.glob] using hca) ρ { tmps := tt, defers := [] } w b (c :: cs) [] [.beginRound, .code body] (fun h => absurd rfl h) (fun r hr => by cases hr; exact hisl) hS hG hR ⟨rfl, List.nodup_nil, fun r hr => by cases hr⟩
                simp only [Left] at hl1
                subst hl1
                have hL1 := hM1.pre y L hL
                obtain ⟨r1, hw1, hst1, hpe1, hR1b, hM1b⟩ := hR1.setLoop (st2 := .busy) (pe2 := pe1) hy1 hL1
                have hbegin : (Instr.beginRound L.blk).run P w1 = .ok () { w1 with heap := w1.heap.setIfInBounds L.blk (.loop { r1 with state := .busy, pending := pe1 }) } := by
                  have : ({ r1 with state := .busy, pending := pe1 } : Loop) = { r1 with state := .busy } := by rw [← hpe1]
                  rw [this]
                  simp only [Instr.beginRound, Sem.run_bind, run_getLoop hw1, Result.andThen_ok, run_setLoop (o := .loop { r1 with state := .busy }) hw1, hst1, Sem.run_pure]
                have s2 := stepR_beginRound (P := P) (b := b) (a := a1) (k := [.code body]) (cs := c :: cs) (l := L.blk) rfl hbegin
                have hisl1 := hM1b.loops _ (hM1.loops _ hisl)
                obtain ⟨ρ2, a2, w2, td2, s3, hl2, hS2, hR2, hM2, rs2, hmk2, _⟩ := hi [.code body] l1 _ l2 A2 j hrun2 tm'.size (by simpa [okIt, hP.glob] using hcb) ρ1 a1 _ b (c :: cs) rs1 [] (fun _ => rfl) (fun r hr => by cases hr; exact hisl1) hS1 (hG.mono hM1.pre) hR1b (hmk1.moves hR1 hM1b)
                have hL2 := hM2.pre y L hL1
                obtain ⟨r2, hw2, hst2, hpe2, hR2b, hM2b⟩ := hR2.setLoop (st2 := if j.isNone then .ready else .done) (pe2 := j) hy2 hL2
                have hend : (Instr.endRound L.blk j).run P w2 = .ok (.bool j.isNone) { w2 with heap := w2.heap.setIfInBounds L.blk (.loop { r2 with state := if j.isNone then .ready else .done, pending := j }) } := by
                  simp only [Instr.endRound, Sem.run_bind, run_getLoop hw2, Result.andThen_ok, run_setLoop (o := .loop { r2 with state := if j.isNone then .ready else .done, pending := j }) hw2, Sem.run_pure]
                have s4 : step P (lone (b.atR a2 td2) (c :: cs) w2) = .next (lone (c.finish (.bool j.isNone)) cs { w2 with heap := w2.heap.setIfInBounds L.blk (.loop { r2 with state := if j.isNone then .ready else .done, pending := j }) }) := by
                  cases j with
                  | none => simp only [Left] at hl2; subst hl2; exact stepR_round_end rfl rfl hend
                  | some c' =>
                    cases c' <;> simp only [Left] at hl2
                    case ret => obtain ⟨k', rfl⟩ := hl2; exact stepR_round_ret rfl rfl hend
                    case exit id => obtain ⟨k', rfl, hk'⟩ := hl2; exact stepR_round_exit rfl rfl hk' hend
                    case goto g => obtain ⟨k', rfl, hk'⟩ := hl2; exact stepR_round_goto rfl rfl hk' hend
                refine ⟨ρ2, _, ?_, hR2b, ((hM1.trans hM1b).trans hM2).trans hM2b⟩
                rw [hfr]
                exact s1.trans (.head s2 (s3.trans (.one s4)))
            · cases h
          · cases h
        · cases h
      · cases h
    · cases h
  · cases h

theorem yield_keeps (hi : RunKeeps lim ih) {y : Nat} {args : List Value} {A A' : Heap} {t : Bool} (h : aYield lim ih y args A = some (t, A')) : Keeps lim A A' := by
  unfold aYield at h
  split at h
  · split at h
    · rename_i hc
      split at h
      · rename_i l1 A1 hrun1
        split at h
        · split at h
          · rename_i l2 A2 j hrun2
            split at h
            · cases h
              exact ((hi _ _ _ _ _ _ hrun1).trans ((Keeps.set _ hc.1 _).trans (hi _ _ _ _ _ _ hrun2))).trans (Keeps.set _ hc.1 _)
            · cases h
          · cases h
        · cases h
      · cases h
    · cases h
  · cases h

/-- A block without a row. -/
theorem Rel.allocNone {P : Program} {ρ : Loc} {A : Heap} {w : World} (h : Rel P ρ A w) (o : Obj) : Rel P ρ A (w.alloc o) ∧ Moves ρ A w ρ A (w.alloc o) := by
  have old : ∀ b, b < w.heap.size → (w.alloc o).heap[b]? = w.heap[b]? := fun b hb => heap_alloc_old w o b hb
  exact ⟨⟨h.sup, h.has, fun i r L hi hL => (h.row i r L hi hL).move (Ext.refl _) (old _ (h.row i r L hi hL).lt), h.sep⟩,
    Ext.refl _, Nat.le_refl _, fun _ _ => rfl, by simp, fun b hb _ => old b hb, fun i r _ hi _ => .inl ⟨hget_lt hi, r, hi, id⟩, ⟨rfl, rfl⟩, fun b hb => hb.of_eq (old b (let ⟨_, hr⟩ := hb; loop_lt hr))⟩

/-- The world behind the entry of a range over a function. -/
theorem enterLoop_says {ρ : Loc} {A : Heap} {w : World} (hR : Rel P ρ A w) {nt : Nat} {l : List Value} {a : Act} (hS : StR ρ nt l a) {rs : List Nat} (hmk : MarksOK w a.defers rs) {fn : FuncId} {ps : Array Tmp} {assign body : Code} {ro : Option Nat} (hro : ∀ r, ro = some r → IsLoop w r)
    (hps : ps.toList.all (fun t => decide (t < nt)) = true) (hca : okCode P.globals.size nt assign = true) (hcb : okCode P.globals.size nt body = true) :
    ∃ w1 L ρ1 ms, (Instr.enterLoop fn a.tmps ps assign body ro).run P w = .ok (L.blk, ms) w1 ∧ Rel P ρ1 (A ++ [some (.loop l ps assign body .ready none)]) w1 ∧ Moves ρ A w ρ1 (A ++ [some (.loop l ps assign body .ready none)]) w1 ∧ ρ1 A.length = some L ∧
      ∃ rs1, MarksOK w1 (ms ++ a.defers) rs1 ∧ ∀ r ∈ rs1, r ∈ rs ∨ w.heap.size ≤ r := by
  have row : ∀ (w0 : World) (df : Nat), Rel P ρ A w0 → ∃ ρ1, Rel P ρ1 (A ++ [some (.loop l ps assign body .ready none)]) (w0.alloc (.loop { state := .ready, pending := none, fn, tmps := a.tmps, params := ps, assign, body, defers := df })) ∧
      Moves ρ A w0 ρ1 (A ++ [some (.loop l ps assign body .ready none)]) (w0.alloc (.loop { state := .ready, pending := none, fn, tmps := a.tmps, params := ps, assign, body, defers := df })) ∧ ρ1 A.length = some ⟨w0.heap.size, 0, 0, 0⟩ := by
    intro w0 df hR0
    obtain ⟨h1, h2⟩ := hR0.alloc (o := .loop { state := .ready, pending := none, fn, tmps := a.tmps, params := ps, assign, body, defers := df }) (r := .loop l ps assign body .ready none) (esz := 0) (fin := 0)
      ⟨a.tmps, fn, df, heap_alloc_new w0 _, fun t => (hS.tmps t).mono (Ext.put (hR0.sup _ (Nat.le_refl _)) _), by rw [hS.size]; exact hps, by rw [hS.size]; exact hca, by rw [hS.size]; exact hcb⟩
    exact ⟨_, h1, h2, Loc.put_self _ _ _⟩
  have new : ∀ (w0 : World) (o : Obj), (newObj o).run P w0 = .ok w0.heap.size (w0.alloc o) := fun w0 o => rfl
  cases ro with
  | none =>
    obtain ⟨hRa, hMa⟩ := hR.allocNone (.deferred (some []))
    obtain ⟨ρ1, hRb, hMb, hL⟩ := row _ w.heap.size hRa
    refine ⟨_, ⟨(w.alloc (.deferred (some []))).heap.size, 0, 0, 0⟩, ρ1, [mark w.heap.size], ?_, hRb, hMa.trans hMb, hL, w.heap.size :: rs, ?_, ?_⟩
    · simp only [Instr.enterLoop, Sem.run_bind, new, Result.andThen_ok, Sem.run_pure]
      rfl
    · have hm2 := (hmk.moves hR hMa).moves hRa hMb
      refine ⟨?_, List.nodup_cons.2 ⟨fun hmem => ?_, hmk.nodup⟩, fun r hr => ?_⟩
      · simp [← hmk.marks]
      · have := loop_lt (hmk.empty _ hmem); omega
      · rcases List.mem_cons.1 hr with rfl | hr
        · rw [heap_alloc_old _ _ _ (by simp)]
          exact heap_alloc_new w _
        · exact hm2.empty r hr
    · intro r hr
      rcases List.mem_cons.1 hr with rfl | hr
      · exact .inr (Nat.le_refl _)
      · exact .inl hr
  | some r0 =>
    obtain ⟨q, hq⟩ := hro r0 rfl
    obtain ⟨ρ1, hRb, hMb, hL⟩ := row w q.defers hR
    refine ⟨_, ⟨w.heap.size, 0, 0, 0⟩, ρ1, [], ?_, hRb, hMb, hL, rs, by simpa using hmk.moves hR hMb, fun r hr => .inl hr⟩
    simp only [Instr.enterLoop, Sem.run_bind, run_getLoop hq, new, Result.andThen_ok, Sem.run_pure]

theorem stepR_rangeFunc_value {b : Frame} {a : Act} {k : List Item} {cs : List Frame} {w : World} {g : Operand} {ps : Array Tmp} {assign body : Code} {l : Nat} {mark : List Deferred} {w₁ w₁' w₂ : World} {d : Deferred} {v : Value}
    (he : (Instr.enterLoop b.fn a.tmps ps assign body b.roundOf).run P w = .ok (l, mark) w₁)
    (hres : (resolve a.eval (rangeCall g l) 0).run P w₁ = .ok d w₁') (hinv : (invoke d.target d.args).run P w₁' = .ok (.value v) w₂) :
    step P (lone (b.atR a (.code (.rangeFunc g ps assign body) :: k)) cs w) =
      .next (lone (b.atR { a with defers := mark ++ a.defers } (.endRangeFunc l :: k)) cs w₂) :=
  step_lone_go (by
    have hev := Frame.eval_atR b { a with defers := mark ++ a.defers } (.inRangeFunc l :: k)
    simp only [Frame.atR] at hev
    have hres' : Sem.run P (resolve ({ tmps := a.tmps, defers := mark ++ a.defers } : Act).eval { callee := .value g, args := #[.const (.func (.yield l) #[] #[])], argTypes := #[] } 0) w₁ = .ok d w₁' := hres
    simp [stepG, stepG.exec, Frame.atR, Sem.runT_eq, he, GStep.bare_after, stepG.apply, hev, Sem.run_bind, hres', hinv, Result.andThen, Frame.finish])

theorem rangeFunc_says {call : CallF} (hP : ProgOK P G) (hC : CallOK P G call) {l : List Value} {g : Operand} {ps : Array Tmp} {assign body : Code} {A A' : Heap} {pe : Option Code} (h : aRangeFunc call lim l g ps assign body A = some (pe, A'))
    {nt : Nat} (hok : okCode G nt (.rangeFunc g ps assign body) = true) {ρ : Loc} {a : Act} {w : World} {b : Frame} {k : List Item} {cs : List Frame} {rs : List Nat} (hro : ∀ r, b.roundOf = some r → IsLoop w r) (hS : StR ρ nt l a) (hG : Globs ρ G) (hR : Rel P ρ A w) (hmk : MarksOK w a.defers rs) :
    ∃ ρ' a' w', Steps P (lone (b.atR a (.code (.rangeFunc g ps assign body) :: k)) cs w) (lone (b.atR a' ((pe.map Item.code).toList ++ k)) cs w') ∧ StR ρ' nt l a' ∧ Rel P ρ' A' w' ∧ Moves ρ A w ρ' A' w' ∧ ∃ rs', MarksOK w' a'.defers rs' ∧ ∀ r ∈ rs', r ∈ rs ∨ w.heap.size ≤ r := by
  simp only [okCode, Bool.and_eq_true, hP.glob] at hok
  obtain ⟨⟨⟨hog, hps⟩, hca⟩, hcb⟩ := hok
  unfold aRangeFunc at h
  split at h
  · rename_i f first captured hev
    split at h
    · rename_i v2 A2 hcall
      split at h
      · rename_i tm ps' as' bo' st pend hrow
        split at h
        · rename_i hst
          simp only [Option.some.injEq, Prod.mk.injEq] at h
          obtain ⟨rfl, rfl⟩ := h
          obtain ⟨w1, L, ρ1, ms, hent, hR1, hM1, hL1, rs1, hmk1, hrs1⟩ := enterLoop_says (P := P) (fn := b.fn) (ro := b.roundOf) hR hS hmk hro hps hca hcb
          have hgv := hS.ev hG (by rw [hP.glob]; exact hog : okOperand G g = true)
          rw [hev] at hgv
          obtain ⟨f', c', he, hf, hc⟩ : ∃ f' c', a.eval g = .func (.func f) f' c' ∧ VRs ρ first.toList f'.toList ∧ VRs ρ captured.toList c'.toList := by
            generalize a.eval g = y at hgv
            cases hgv with
            | atom h => simp [atomB] at h
            | func hy h1 h2 h3 h4 => exact ⟨_, _, rfl, ⟨by simpa using h1, h3⟩, ⟨by simpa using h2, h4⟩⟩
          have hargs : VRs ρ1 (first.toList ++ [Value.func (.yield A.length) #[] #[]] ++ captured.toList) (f'.toList ++ [Value.func (.yield L.blk) #[] #[]] ++ c'.toList) :=
            ((hf.mono hM1.pre).append (VRs.cons (.yield hL1) (VRs.nil ρ1))).append (hc.mono hM1.pre)
          obtain ⟨d, hres, hinv⟩ : ∃ d, (resolve a.eval (rangeCall g L.blk) 0).run P w1 = .ok d w1 ∧ invoke d.target d.args = callFunc f (f'.toList ++ [Value.func (.yield L.blk) #[] #[]] ++ c'.toList).toArray := by
            have hy : ∀ v, a.eval (.const v) = v := fun _ => rfl
            refine ⟨{ target := .fn (.func f) c', args := f' ++ #[Value.func (.yield L.blk) #[] #[]] }, by simp [resolve, rangeCall, he, Deferred.ofValue, hy], ?_⟩
            have harr : (f'.toList ++ [Value.func (.yield L.blk) #[] #[]] ++ c'.toList).toArray = f' ++ #[Value.func (.yield L.blk) #[] #[]] ++ c' := by
              apply Array.ext'; simp
            rw [harr]
            simp [invoke]
          have on : ∀ {ρ2 : Loc} {w2 : World}, Rel P ρ2 A2 w2 → Moves ρ1 (A ++ [some (.loop l ps assign body .ready none)]) w1 ρ2 A2 w2 → Steps P (lone (b.atR a (.code (.rangeFunc g ps assign body) :: k)) cs w) (lone (b.atR { a with defers := ms ++ a.defers } (.endRangeFunc L.blk :: k)) cs w2) →
              ∃ ρ' a' w', Steps P (lone (b.atR a (.code (.rangeFunc g ps assign body) :: k)) cs w) (lone (b.atR a' ((pend.map Item.code).toList ++ k)) cs w') ∧ StR ρ' nt l a' ∧ Rel P ρ' (hset A2 A.length (some (.loop tm ps' as' bo' .exhausted pend))) w' ∧ Moves ρ A w ρ' (hset A2 A.length (some (.loop tm ps' as' bo' .exhausted pend))) w' ∧ ∃ rs', MarksOK w' a'.defers rs' ∧ ∀ r ∈ rs', r ∈ rs ∨ w.heap.size ≤ r := by
            intro ρ2 w2 hR2 hM2 hsteps
            have hL2 := hM2.pre _ _ hL1
            obtain ⟨r, hw2, hst2, hpe2, hR3, hM3⟩ := hR2.setLoop (st2 := .exhausted) (pe2 := pend) hrow hL2
            have hend : (Instr.endLoop L.blk).run P w2 = .ok pend { w2 with heap := w2.heap.setIfInBounds L.blk (.loop { r with state := .exhausted, pending := pend }) } := by
              have h1 : ({ r with state := .exhausted, pending := pend } : Loop) = { r with state := .exhausted } := by rw [← hpe2]
              have h2 : (r.state == .busy) = false := by rw [hst2]; cases st <;> first | rfl | exact absurd rfl hst
              rw [h1]
              simp only [Instr.endLoop, Sem.run_bind, run_getLoop hw2, Result.andThen_ok, h2, Bool.false_eq_true, if_false, run_setLoop (o := .loop { r with state := .exhausted }) hw2, Sem.run_pure]
              simp only [hpe2]
            refine ⟨ρ2, _, _, hsteps.trans (.one (stepR_endRangeFunc hend)), ⟨hS.size, fun t => (hS.tmps t).mono (hM1.pre.trans hM2.pre)⟩, hR3, (hM1.trans hM2).trans hM3, rs1, (hmk1.moves hR1 hM2).moves hR2 hM3, hrs1⟩
          rcases hC.says lim f _ _ v2 A2 hcall ρ1 w1 _ hargs (hG.mono hM1.pre) hR1 with ⟨v', w2, ρ2, h1, _, h3, h4⟩ | ⟨h1, h2⟩
          · exact on h3 h4 (.one (stepR_rangeFunc_value hent hres (by rw [hinv]; exact h1)))
          · obtain ⟨e, w2, fr, ⟨v', ρ2, rfl, _, h3, h4⟩, hsteps, _, hleave⟩ := h2 (b.atR { a with defers := ms ++ a.defers } (.inRangeFunc L.blk :: k) :: cs)
            refine on h3 h4 (.head (stepR_rangeFunc hent hres (by rw [hinv]; exact h1)) (hsteps.trans (.one ?_)))
            rw [← finish_atR_inRangeFunc L.blk v']; exact step_leave_returned hleave
        · cases h
      · cases h
    · cases h
  · cases h

theorem rangeFunc_keeps {call : CallF} (hC : CallKeeps call) {l : List Value} {g : Operand} {ps : Array Tmp} {assign body : Code} {A A' : Heap} {pe : Option Code} (h : aRangeFunc call lim l g ps assign body A = some (pe, A')) : Keeps lim A A' := by
  unfold aRangeFunc at h
  split at h
  · split at h
    · rename_i v2 A2 hcall
      split at h
      · split at h
        · cases h
          have h1 := hC _ _ _ _ _ _ hcall
          have h0 := Keeps.push lim A (some (.loop l ps assign body .ready none))
          have h2 := h0.trans h1
          refine ⟨by simpa using h2.1, fun i hi hA => ?_⟩
          rw [hget_hset, if_neg (by omega)]
          exact h2.2 i hi hA
        · cases h
      · cases h
    · cases h
  · cases h
end
end Go.Abs
