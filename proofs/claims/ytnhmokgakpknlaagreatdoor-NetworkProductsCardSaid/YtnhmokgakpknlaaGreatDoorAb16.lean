/-
The abstract machine: a run of it is a run of the model. Third part: all code, given what is said of regions whose order is open.
-/
import Derived.Test.YtnhmokgakpknlaaGreatDoorAbR
import Derived.Scope
import Derived.Orders
namespace Go.Abs
open Go

def DrawSays (P : Program) (G lim : Nat) (imp : FuncId → Bool) (c : Sub) : Prop :=
  ∀ (ops : Array Oper) (l : List Value) (A : Heap) (l' : List Value) (A' : Heap), aDraw P c lim imp ops l A = some (l', A') → ∀ (nt : Nat), ops.toList.all (okOper G nt) = true → okDraw ops = true →
    ∀ (ρ : Loc) (a : Act) (w : World), StR ρ nt l a → Globs ρ G → Rel P ρ A w → ∀ (t : Nat) (b : Frame) (k : List Item) (cs : List Frame),
    ∃ a' w', (a'.defers = a.defers ∧ ∃ ρ', StR ρ' nt l' a' ∧ Rel P ρ' A' w' ∧ Moves ρ A w ρ' A' w') ∧
      Steps P (lone (b.atR a (.inRegion ops (Region.schedule (P.follows .mixedOrders) ops t) :: k)) cs { w with drawn := w.drawn + 1 }) (lone (b.atR a' k) cs w')
def DrawKeeps (P : Program) (lim : Nat) (imp : FuncId → Bool) (c : Sub) : Prop :=
  ∀ (ops : Array Oper) (l : List Value) (A : Heap) (l' : List Value) (A' : Heap), aDraw P c lim imp ops l A = some (l', A') → Keeps lim A A'

section
variable {P : Program} {G nt lim : Nat} {E : Env} {c : Sub} {draw : Array Oper → List Value → Heap → Option (List Value × Heap)} {ih : RunF}

theorem yielded_eq {ρ : Loc} {l : List Value} {a : Act} (hS : StR ρ nt l a) (ops : Array Oper) (j : Nat) : aYielded ops l j = yielded ops a.tmps j := by
  unfold aYielded yielded
  cases hd : (ops[j]?).bind (·.dst) with
  | none => rfl
  | some d =>
    have hr := hS.tmps d
    rw [Array.getD_eq_getD_getElem?] at hr
    simp only [Option.bind_some]
    cases hy : a.tmps[d]? with
    | none =>
      rw [hy] at hr
      simp only [Option.getD_none] at hr
      have hn : ∀ b, tget l d ≠ .bool b := by
        intro b hb; rw [hb] at hr; have := hr.bool_inv; simp [undef] at this
      split
      · rename_i b hb; exact absurd hb (hn b)
      · rfl
    | some y =>
      rw [hy] at hr
      simp only [Option.getD_some] at hr
      generalize tget l d = x at hr
      cases hr with
      | atom h => cases y <;> rfl
      | _ => rfl
theorem wanted_eq {ρ : Loc} {l : List Value} {a : Act} (hS : StR ρ nt l a) (ops : Array Oper) (o : Oper) : aWanted ops l o = Region.wanted o (yielded ops a.tmps) := by
  unfold aWanted Region.wanted
  cases o.guard with
  | none => rfl
  | some g => obtain ⟨j, want⟩ := g; simp only [yielded_eq hS]

theorem ops_real (ops : Array Oper) (i : Nat) (hi : i < ops.size) : It.real (.ops ops i) = .inRegion ops (i :: List.range' (i + 1) (ops.size - (i + 1))) := by
  have : ops.size - i = (ops.size - (i + 1)) + 1 := by omega
  simp only [It.real, this, List.range'_succ]
theorem ops_end (ops : Array Oper) (i : Nat) (hi : ops[i]? = none) : It.real (.ops ops i) = .inRegion ops [] := by
  have h : ops.size ≤ i := by simpa using hi
  have : ops.size - i = 0 := by omega
  simp [It.real, this]
theorem ops_next (ops : Array Oper) (i : Nat) : It.real (.ops ops (i + 1)) = .inRegion ops (List.range' (i + 1) (ops.size - (i + 1))) := rfl

theorem ok_cons {x : It} {k : List It} (hx : okIt G nt x = true) (hk : k.all (okIt G nt) = true) : (x :: k).all (okIt G nt) = true := by
  simp only [List.all_cons, hx, hk, Bool.and_self]

theorem yieldOf_run {ρ : Loc} {l : List Value} {a : Act} {o : Oper} (hops : ∀ x ∈ o.op.operands.toList, VR ρ (ev l x) (a.eval x)) {y : Nat} {args : List Value} (h : aYieldOf l o = some (y, args)) :
    ∃ args' L, VRs ρ args args' ∧ ρ y = some L ∧ execOp a.eval o = Instr.yield L.blk args'.toArray := by
  unfold aYieldOf at h
  split at h
  · rename_i x xs ats ho
    split at h
    · rename_i i first captured hx
      cases h
      rw [ho] at hops
      have hxr := hops x (by simp [Op.operands, Call.operands])
      rw [hx] at hxr
      have hargs := VRs.evs xs.toList (fun y hy => hops y (by simp [Op.operands, Call.operands]; exact .inr (by simpa using hy)))
      obtain ⟨L, hL, he⟩ : ∃ L, ρ y = some L ∧ a.eval x = .func (.yield L.blk) #[] #[] := by
        generalize a.eval x = z at hxr
        cases hxr with
        | atom h => simp [atomB] at h
        | func hy => simp [Fn.notYield] at hy
        | yield h => exact ⟨_, h, rfl⟩
      refine ⟨xs.toList.map a.eval, L, hargs, hL, ?_⟩
      have harr : (xs.toList.map a.eval).toArray = xs.map a.eval := by apply Array.ext'; simp
      rw [harr]
      simp [execOp, ho, resolve, he, Deferred.ofValue, invoke]
    · cases h
  · cases h
theorem yieldOf_no_defer {o : Oper} {l : List Value} {r : Nat × List Value} (h : aYieldOf l o = some r) : isDefer o.op = false := by
  unfold aYieldOf at h
  split at h
  · rename_i x xs ats ho; rw [ho]; rfl
  · cases h
theorem step_round {P : Program} {b : Frame} {a : Act} {k : List Item} {cs : List Frame} {w w' : World} {ops : Array Oper} {i : Nat} {rest : List Nat} {o : Oper} {r : Nat} {fn : FuncId} {tm : Array Value} {as bo : Code}
    (ho : ops[i]? = some o) (hw : Region.wanted o (yielded ops a.tmps) = true) (hnd : isDefer o.op = false) (hr : (execOp a.eval o).run P w = .ok (.round r fn tm as bo) w') :
    step P (lone (b.atR a (.inRegion ops (i :: rest) :: k)) cs w) = .next (lone (Frame.round r fn tm as bo .normal) (b.atR a (.inRegion ops (i :: rest) :: k) :: cs) w') := by
  have hg := stepGR_op (P := P) (b := b) (k := k) (cs := cs) (w := w) (rest := rest) ho hw
  rw [Oper.semAt_eq _ _ _ (fun c hc => by rw [hc] at hnd; cases hnd)] at hg
  exact step_lone_go (by rw [hg]; simp [stepG.apply, hr, Frame.atR])

theorem finish_eq' {b : Frame} {a : Act} {k : List Item} {ops : Array Oper} {i : Nat} {rest : List Nat} {o : Oper} (ho : ops[i]? = some o) (v : Value) : (b.atR a (.inRegion ops (i :: rest) :: k)).finish v = b.atR (a.put o.dst v) (.inRegion ops rest :: k) := finish_eq ho v

theorem oper_no_defer {o : Oper} {l : List Value} {A : Heap} {r : Value × Heap} (h : aOper P c lim l o A = some r) : isDefer o.op = false := by
  unfold aOper at h
  split at h
  · rename_i hyo; exact yieldOf_no_defer hyo
  split at h
  · rename_i f args hco
    unfold aCallOf at hco
    split at hco
    · rename_i x xs ats ho; rw [ho]; rfl
    · cases hco
  · obtain ⟨dst, op, type, pos, after, guard⟩ := o
    cases op <;> first | rfl | (simp [aOp] at h)
/-- An operation of a frame goes to K. -/
def OpTo (P : Program) (ops : Array Oper) (b : Frame) (k : List Item) (cs : List Frame) (i : Nat) (a : Act) (w : World) (K : Act → World → Prop) : Prop :=
  ∀ rest, ∃ a' w', K a' w' ∧ Steps P (lone (b.atR a (.inRegion ops (i :: rest) :: k)) cs w) (lone (b.atR a' (.inRegion ops rest :: k)) cs w')
theorem opTo_oper {ρ : Loc} {l : List Value} {A A' : Heap} {w : World} {a : Act} {v : Value} {ops : Array Oper} {b : Frame} {k : List Item} {cs : List Frame} {i : Nat} {o : Oper} {K : Act → World → Prop} (hC : SubOK P G c) (ho : ops[i]? = some o) (hw : Region.wanted o (yielded ops a.tmps) = true)
    (E : ∀ x ∈ o.op.operands.toList, VR ρ (ev l x) (a.eval x)) (hG : Globs ρ G) (hR : Rel P ρ A w) (hok : okOper G nt o = true) (h : aOper P c lim l o A = some (v, A'))
    (hK : ∀ v' w' ρ', VR ρ' v v' → Rel P ρ' A' w' → Moves ρ A w ρ' A' w' → K (a.put o.dst v') w') : OpTo P ops b k cs i a w K := by
  intro rest
  cases hy : aYieldOf l o with
  | none => exact oper_steps (Q := fun e _ _ => e = .normal) (fun _ _ _ h => h) (oper_no_defer h) ho hw (aOper_wp hC hy E hG hR hok h hK)
  | some r =>
    obtain ⟨y, args⟩ := r
    unfold aOper at h
    rw [hy] at h
    simp only at h
    split at h
    · rename_i t A1 hyd
      cases h
      obtain ⟨args', y', hargs, hy', hrun⟩ := yieldOf_run (ρ := ρ) E hy
      obtain ⟨L, fn, tm, as, bo, hL, hyr, hgo⟩ := hC.says lim y args A t _ hyd ρ w args' hargs hG hR
      rw [hL] at hy'
      cases hy'
      obtain ⟨ρ1, w1, s1, hR1, hM1⟩ := hgo (b.atR a (.inRegion ops (i :: rest) :: k)) cs
      rw [finish_eq ho] at s1
      exact ⟨_, w1, hK (.bool t) w1 ρ1 (.atom rfl) hR1 hM1, .head (step_round ho hw (yieldOf_no_defer hy) (by rw [hrun]; exact hyr)) s1⟩
    · cases h
theorem opTo_skip {a : Act} {w : World} {ops : Array Oper} {b : Frame} {k : List Item} {cs : List Frame} {i : Nat} {o : Oper} {K : Act → World → Prop} (ho : ops[i]? = some o) (hw : Region.wanted o (yielded ops a.tmps) = false) (hK : K (a.put o.dst undef) w) : OpTo P ops b k cs i a w K := by
  intro rest
  refine ⟨_, w, hK, .one ?_⟩
  have := stepR_op_skip (P := P) (b := b) (a := a) (k := k) (cs := cs) (w := w) (ops := ops) (i := i) (rest := rest) (by simp [ho, hw])
  simp only [ho, Option.bind_some] at this
  exact this
theorem OpTo.mono {a : Act} {w : World} {ops : Array Oper} {b : Frame} {k : List Item} {cs : List Frame} {i : Nat} {K K' : Act → World → Prop} (h : OpTo P ops b k cs i a w K) (hK : ∀ a w, K a w → K' a w) : OpTo P ops b k cs i a w K' := fun rest =>
  let ⟨a', w', h1, h2⟩ := h rest
  ⟨a', w', hK _ _ h1, h2⟩
/-- The operations of a region, in every order. -/
def anyTo (P : Program) (md : Region.Mode) (ops : Array Oper) (b : Frame) (k : List Item) (cs : List Frame) (Q : Act → World → Prop) : Nat → Array Bool → Act → World → Prop
  | 0, listed, a, w => Region.ready md ops listed = [] ∧ Q a w
  | fuel + 1, listed, a, w => (Region.ready md ops listed = [] → Q a w) ∧ ∀ i ∈ Region.ready md ops listed, OpTo P ops b k cs i a w (anyTo P md ops b k cs Q fuel (listed.setIfInBounds i true))
theorem anyTo_sound {md : Region.Mode} {ops : Array Oper} {b : Frame} {k : List Item} {cs : List Frame} {Q : Act → World → Prop} : ∀ (fuel t : Nat) (listed : Array Bool) (a : Act) (w : World), anyTo P md ops b k cs Q fuel listed a w →
    ∃ a' w', Q a' w' ∧ Steps P (lone (b.atR a (.inRegion ops (Region.linearise.go md ops fuel t listed []) :: k)) cs w) (lone (b.atR a' k) cs w') := by
  intro fuel
  induction fuel with
  | zero => intro t listed a w h; exact ⟨a, w, h.2, .one (by simpa [Region.linearise.go] using stepR_region_end)⟩
  | succ fuel ih =>
    intro t listed a w h
    obtain ⟨h₀, h₁⟩ := h
    simp only [Region.linearise.go]
    change ∃ a' w', Q a' w' ∧ Steps P (lone (b.atR a (.inRegion ops (match (Region.ready md ops listed)[t % (Region.ready md ops listed).length]? with
      | some i => Region.linearise.go md ops fuel (t / (Region.ready md ops listed).length) (listed.setIfInBounds i true) [i]
      | none => [].reverse) :: k)) cs w) (lone (b.atR a' k) cs w')
    cases hi : (Region.ready md ops listed)[t % (Region.ready md ops listed).length]? with
    | none =>
      have hnil : Region.ready md ops listed = [] := by
        cases hr : Region.ready md ops listed with
        | nil => rfl
        | cons x xs =>
          rw [hr] at hi
          have hlt : t % (x :: xs).length < (x :: xs).length := Nat.mod_lt _ (by simp)
          simp at hi
          simp at hlt
          omega
      exact ⟨a, w, h₀ hnil, .one (by simpa using stepR_region_end)⟩
    | some i =>
      simp only []
      rw [linearise_go_acc, List.reverse_singleton, List.singleton_append]
      obtain ⟨a1, w1, g1, g2⟩ := h₁ i (List.mem_of_getElem? hi) (Region.linearise.go md ops fuel (t / (Region.ready md ops listed).length) (listed.setIfInBounds i true) [])
      obtain ⟨a2, w2, g3, g4⟩ := ih _ _ a1 w1 g1
      exact ⟨a2, w2, g3, g2.trans g4⟩

theorem step_says (hP : ProgOK P G) (hC : SubOK P G c) (hdraw : draw = aDraw P c lim E.impure) (hD : DrawSays P G lim E.impure c) (hi : RunSays P G ih) : RunSays P G (aStep P c draw lim ih) := by
  intro todo l A l' A' j h nt hok ρ a w b cs rs kk hkk hro hS hG hR hmk
  have on : ∀ {k : List It} {l1 : List Value} {A1 : Heap} {ρ1 : Loc} {a1 : Act} {w1 : World}, ih k l1 A1 = some (l', A', j) → k.all (okIt G nt) = true → StR ρ1 nt l1 a1 → Globs ρ1 G → Rel P ρ1 A1 w1 → Moves ρ A w ρ1 A1 w1 → a1.defers = a.defers →
      Steps P (lone (b.atR a (todo.map It.real ++ kk)) cs w) (lone (b.atR a1 (k.map It.real ++ kk)) cs w1) →
      ∃ ρ' a' w' td, Steps P (lone (b.atR a (todo.map It.real ++ kk)) cs w) (lone (b.atR a' td) cs w') ∧ Left kk j td ∧ StR ρ' nt l' a' ∧ Rel P ρ' A' w' ∧ Moves ρ A w ρ' A' w' ∧ ∃ rs', MarksOK w' a'.defers rs' ∧ ∀ r ∈ rs', r ∈ rs ∨ w.heap.size ≤ r := by
    intro k l1 A1 ρ1 a1 w1 hk hok1 hS1 hG1 hR1 hM1 hdf1 hst
    obtain ⟨ρ', a', w', td, h1, hleft, h2, h3, h4, rs', h5, h6⟩ := hi k l1 A1 l' A' j hk nt hok1 ρ1 a1 w1 b cs rs kk hkk (fun r hr => hM1.loops _ (hro r hr)) hS1 hG1 hR1 (by rw [hdf1]; exact hmk.moves hR hM1)
    exact ⟨ρ', a', w', td, hst.trans h1, hleft, h2, h3, hM1.trans h4, rs', h5, fun r hr => (h6 r hr).imp id (Nat.le_trans hM1.size)⟩
  have same : ∀ {k : List It}, ih k l A = some (l', A', j) → k.all (okIt G nt) = true → step P (lone (b.atR a (todo.map It.real ++ kk)) cs w) = .next (lone (b.atR a (k.map It.real ++ kk)) cs w) →
      ∃ ρ' a' w' td, Steps P (lone (b.atR a (todo.map It.real ++ kk)) cs w) (lone (b.atR a' td) cs w') ∧ Left kk j td ∧ StR ρ' nt l' a' ∧ Rel P ρ' A' w' ∧ Moves ρ A w ρ' A' w' ∧ ∃ rs', MarksOK w' a'.defers rs' ∧ ∀ r ∈ rs', r ∈ rs ∨ w.heap.size ≤ r :=
    fun hk hok1 hst => on hk hok1 hS hG hR (Moves.refl _ _ _) rfl (.one hst)
  cases todo with
  | nil => cases h; exact ⟨ρ, a, w, _, .refl _ _, rfl, hS, hR, Moves.refl _ _ _, rs, hmk, fun r hr => .inl hr⟩
  | cons x k =>
    simp only [List.all_cons, Bool.and_eq_true] at hok
    obtain ⟨hx, hk⟩ := hok
    cases x with
    | inBlock id => exact same h hk stepR_inBlock
    | inScope c => exact same h hk stepR_inScope
    | inLoop c => exact same h (ok_cons (by simpa [okIt] using hx) (ok_cons hx hk)) stepR_inLoop
    | ops all i =>
      simp only [aStep] at h
      split at h
      · rename_i hn
        refine same h hk ?_
        simp only [List.map_cons, List.cons_append, ops_end all i hn]
        exact stepR_region_end
      · rename_i o ho
        have hlt : i < all.size := (Array.getElem?_eq_some_iff.1 ho).1
        have hoko : okOper G nt o = true := List.all_eq_true.1 hx o (by
          have : o ∈ all := Array.mem_of_getElem? ho
          simpa using this)
        split at h
        · rename_i hw
          rw [wanted_eq hS] at hw
          split at h
          · rename_i v A1 hop
            obtain ⟨a1, w1, ⟨hdf1, ρ1, h1, h2, h3⟩, hst⟩ := opTo_oper (b := b) (cs := cs) (k := k.map It.real ++ kk) (K := fun a1 w1 => a1.defers = a.defers ∧ ∃ ρ1, StR ρ1 nt (tput l o.dst v) a1 ∧ Rel P ρ1 A1 w1 ∧ Moves ρ A w ρ1 A1 w1) hC ho hw (operands_ok hS hG hoko) hG hR hoko hop (fun v' w1 ρ1 h1 h2 h3 => by
              refine ⟨put_defers _ _ _, ρ1, (hS.mono h3.pre).put (fun d hd => ?_) h1, h2, h3⟩
              simp only [okOper, Bool.and_eq_true, hd] at hoko
              simpa using hoko.1.2) (List.range' (i + 1) (all.size - (i + 1)))
            refine on h (ok_cons (by simpa [okIt] using hx) hk) h1 (hG.mono h3.pre) h2 h3 hdf1 ?_
            simp only [List.map_cons, List.cons_append, ops_real all i hlt, ops_next]
            exact hst
          · cases h
        · rename_i hw
          rw [wanted_eq hS] at hw
          refine on h (ok_cons (by simpa [okIt] using hx) hk) (hS.put (fun d hd => ?_) (VR.undef ρ)) hG hR (Moves.refl _ _ _) (put_defers _ _ _) ?_
          · simp only [okOper, Bool.and_eq_true, hd] at hoko
            simpa using hoko.1.2
          · simp only [List.map_cons, List.cons_append, ops_real all i hlt, ops_next]
            have := stepR_op_skip (P := P) (b := b) (a := a) (k := k.map It.real ++ kk) (cs := cs) (w := w) (ops := all) (i := i) (rest := List.range' (i + 1) (all.size - (i + 1))) (by simp [ho]; simpa using hw)
            simp only [ho, Option.bind_some] at this
            exact .one this
    | code c =>
      cases c with
      | ret => cases h; exact ⟨ρ, a, w, _, .refl _ _, ⟨_, rfl⟩, hS, hR, Moves.refl _ _ _, rs, hmk, fun r hr => .inl hr⟩
      | skip => exact same h hk stepR_skip
      | label g => exact same h hk stepR_label
      | seq c d =>
        simp only [okIt, okCode, Bool.and_eq_true] at hx
        exact same h (ok_cons hx.1 (ok_cons hx.2 hk)) stepR_seq
      | cond x c d =>
        simp only [okIt, okCode, Bool.and_eq_true] at hx
        simp only [aStep] at h
        split at h
        · rename_i t ht
          have he : a.eval x = .bool t := by have := hS.ev hG hx.1.1; rw [ht] at this; exact this.bool_inv
          split at h
          · rename_i hb
            subst hb
            exact same h (ok_cons hx.1.2 hk) (by have := stepR_cond (P := P) (b := b) (k := k.map It.real ++ kk) (cs := cs) (w := w) (x := c) (y := d) he; simpa [It.real] using this)
          · rename_i hb
            have hb : t = false := by simpa using hb
            subst hb
            exact same h (ok_cons hx.2 hk) (by have := stepR_cond (P := P) (b := b) (k := k.map It.real ++ kk) (cs := cs) (w := w) (x := c) (y := d) he; simpa [It.real] using this)
        · cases h
      | block id c => exact same h (ok_cons hx (ok_cons rfl hk)) stepR_block
      | loop c => exact same h (ok_cons hx (ok_cons hx hk)) stepR_loop
      | scope c => exact same h (ok_cons hx (ok_cons hx hk)) stepR_scope
      | exit id =>
        simp only [aStep] at h
        split at h
        · rename_i k' hk'
          exact same h (exit_ok hk' hk) (stepR_exit ((exit_real id kk k).trans (by rw [hk'])))
        · rename_i hn
          cases h
          exact ⟨ρ, a, w, _, .refl _ _, ⟨_, rfl, (exit_real id kk k).trans (by rw [hn, hkk (by simp)]; rfl)⟩, hS, hR, Moves.refl _ _ _, rs, hmk, fun r hr => .inl hr⟩
      | goto g =>
        simp only [aStep] at h
        split at h
        · rename_i k' hk'
          exact same h (goto_ok hk' hk) (stepR_goto ((goto_real g kk k).trans (by rw [hk'])))
        · rename_i hn
          cases h
          exact ⟨ρ, a, w, _, .refl _ _, ⟨_, rfl, (goto_real g kk k).trans (by rw [hn, hkk (by simp)]; rfl)⟩, hS, hR, Moves.refl _ _ _, rs, hmk, fun r hr => .inl hr⟩
      | region id ops d =>
        simp only [okIt, okCode, Bool.and_eq_true] at hx
        cases d with
        | false =>
          refine same h (ok_cons hx.1 hk) ?_
          have : List.range ops.size = List.range' 0 (ops.size - 0) := by simp [List.range_eq_range']
          simp only [List.map_cons, List.cons_append, It.real, ← this]
          exact stepR_region
        | true =>
          simp only [aStep] at h
          split at h
          · rename_i l1 A1 hd
            rw [hdraw] at hd
            have hx2 : okDraw ops = true ∧ ops.toList.all (fun o => !isDefer o.op) = true := by simpa using hx.2
            obtain ⟨a1, w1, ⟨hdf1, ρ1, h1, h2, h3⟩, hst⟩ := hD ops l A l1 A1 hd nt hx.1 hx2.1 ρ a w hS hG hR (w.tape w.drawn (.order b.fn id)) b (k.map It.real ++ kk) cs
            exact on h hk h1 (hG.mono h3.pre) h2 h3 hdf1 (.head stepR_region_draw hst)
          · cases h
      | rangeFunc f ps as bo =>
        simp only [aStep] at h
        have go : ∀ {pe : Option Code} {A1 : Heap} {k1 : List It}, aRangeFunc c.call lim l f ps as bo A = some (pe, A1) → k1.map It.real = (pe.map Item.code).toList ++ k.map It.real → k1.all (okIt G nt) = true → ih k1 l A1 = some (l', A', j) →
            ∃ ρ' a' w' td, Steps P (lone (b.atR a ((It.code (.rangeFunc f ps as bo) :: k).map It.real ++ kk)) cs w) (lone (b.atR a' td) cs w') ∧ Left kk j td ∧ StR ρ' nt l' a' ∧ Rel P ρ' A' w' ∧ Moves ρ A w ρ' A' w' ∧ ∃ rs', MarksOK w' a'.defers rs' ∧ ∀ r ∈ rs', r ∈ rs ∨ w.heap.size ≤ r := by
          intro pe A1 k1 hrf hk1 hok1 hih
          obtain ⟨ρ1, a1, w1, s1, hS1, hR1, hM1, rs1, hmk1, hrs1⟩ := rangeFunc_says (b := b) (k := k.map It.real ++ kk) (cs := cs) hP hC.call hrf (by simpa [okIt] using hx) hro hS hG hR hmk
          obtain ⟨ρ', a', w', td, h1, hleft, h2, h3, h4, rs', h5, h6⟩ := hi k1 l A1 l' A' j hih nt hok1 ρ1 a1 w1 b cs rs1 kk hkk (fun r hr => hM1.loops _ (hro r hr)) hS1 (hG.mono hM1.pre) hR1 hmk1
          rw [hk1, List.append_assoc] at h1
          exact ⟨ρ', a', w', td, s1.trans h1, hleft, h2, h3, hM1.trans h4, rs', h5, fun r hr => by
            rcases h6 r hr with g | g
            · exact hrs1 r g
            · exact .inr (Nat.le_trans hM1.size g)⟩
        split at h
        · rename_i A1 hrf
          exact go hrf rfl hk h
        · rename_i c1 A1 hrf
          split at h
          · rename_i hj
            exact go hrf rfl (ok_cons (by cases c1 <;> first | rfl | simp [isJump] at hj) hk) h
          · cases h
        · cases h
      | refuse s => simp [aStep] at h

theorem step_keeps (hC : SubKeeps c) (hdraw : draw = aDraw P c lim E.impure) (hD : DrawKeeps P lim E.impure c) (hi : RunKeeps lim ih) : RunKeeps lim (aStep P c draw lim ih) := by
  intro todo l A l' A' j h
  cases todo with
  | nil => cases h; exact Keeps.refl _ _
  | cons x k =>
    cases x with
    | inBlock id => exact hi _ _ _ _ _ _ h
    | inScope c => exact hi _ _ _ _ _ _ h
    | inLoop c => exact hi _ _ _ _ _ _ h
    | ops all i =>
      simp only [aStep] at h
      split at h
      · exact hi _ _ _ _ _ _ h
      · split at h
        · split at h
          · rename_i v A1 hop
            exact (aOper_keeps hC hop).trans (hi _ _ _ _ _ _ h)
          · cases h
        · exact hi _ _ _ _ _ _ h
    | code c =>
      cases c with
      | ret => cases h; exact Keeps.refl _ _
      | skip => exact hi _ _ _ _ _ _ h
      | label g => exact hi _ _ _ _ _ _ h
      | seq c d => exact hi _ _ _ _ _ _ h
      | cond x c d =>
        simp only [aStep] at h
        split at h
        · split at h <;> exact hi _ _ _ _ _ _ h
        · cases h
      | block id c => exact hi _ _ _ _ _ _ h
      | loop c => exact hi _ _ _ _ _ _ h
      | scope c => exact hi _ _ _ _ _ _ h
      | exit id =>
        simp only [aStep] at h
        split at h
        · exact hi _ _ _ _ _ _ h
        · cases h; exact Keeps.refl _ _
      | goto g =>
        simp only [aStep] at h
        split at h
        · exact hi _ _ _ _ _ _ h
        · cases h; exact Keeps.refl _ _
      | region id ops d =>
        cases d with
        | false => exact hi _ _ _ _ _ _ h
        | true =>
          simp only [aStep] at h
          split at h
          · rename_i l1 A1 hd
            rw [hdraw] at hd
            exact (hD _ _ _ _ _ hd).trans (hi _ _ _ _ _ _ h)
          · cases h
      | rangeFunc f ps c d =>
        simp only [aStep] at h
        split at h
        · rename_i A1 hrf
          exact (rangeFunc_keeps hC.call hrf).trans (hi _ _ _ _ _ _ h)
        · rename_i c1 A1 hrf
          split at h
          · exact (rangeFunc_keeps hC.call hrf).trans (hi _ _ _ _ _ _ h)
          · cases h
        · cases h
      | refuse s => simp [aStep] at h

/-- A RUN OF THE MACHINE IS A RUN OF THE MODEL. -/
theorem run_says (hP : ProgOK P G) (hE : EnvOK P G E) (hD : ∀ c lim, SubOK P G c → DrawSays P G lim E.impure c) (hDk : ∀ c lim, SubKeeps c → DrawKeeps P lim E.impure c) :
    ∀ n lim, RunSays P G (aRun P E n lim) ∧ RunKeeps lim (aRun P E n lim)
  | 0, lim => ⟨fun _ _ _ _ _ _ h => (by cases h), fun _ _ _ _ _ _ h => (by cases h)⟩
  | n + 1, lim => by
    have hC : SubOK P G ⟨aCallBy P E (aRun P E n), fun lim y args A => aYield lim (aRun P E n lim) y args A⟩ :=
      ⟨callBy_ok hP hE (fun lim => (run_says hP hE hD hDk n lim).1) (fun lim => (run_says hP hE hD hDk n lim).2), fun lim y args A t A' h ρ w args' hargs hG hR => yield_says hP (run_says hP hE hD hDk n lim).1 h hargs hG hR, fun lim y args A t A' h => yield_keeps (run_says hP hE hD hDk n lim).2 h⟩
    have hi := run_says hP hE hD hDk n lim
    exact ⟨step_says hP hC rfl (hD _ lim hC) hi.1, step_keeps hC.keeps' rfl (hDk _ lim hC.keeps') hi.2⟩

theorem call_ok (hP : ProgOK P G) (hE : EnvOK P G E) (hD : ∀ c lim, SubOK P G c → DrawSays P G lim E.impure c) (hDk : ∀ c lim, SubKeeps c → DrawKeeps P lim E.impure c) (n : Nat) : CallOK P G (aCall P E n) :=
  callBy_ok hP hE (fun lim => (run_says hP hE hD hDk n lim).1) (fun lim => (run_says hP hE hD hDk n lim).2)
end
end Go.Abs
