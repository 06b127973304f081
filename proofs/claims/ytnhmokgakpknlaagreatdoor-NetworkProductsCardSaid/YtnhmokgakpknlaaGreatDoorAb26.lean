/-
The abstract machine: runs put together.
-/
import Derived.Test.YtnhmokgakpknlaaGreatDoorAb24
namespace Go.Abs
open Go

theorem exit_app {id : Nat} {k' : List It} (kk : List It) : ∀ {k : List It}, aExit id k = some k' → aExit id (k ++ kk) = some (k' ++ kk)
  | [], h => by cases h
  | x :: k, h => by
    cases x <;> simp only [List.cons_append, aExit] at h ⊢
    case inBlock id' =>
      split at h
      · rename_i hh; cases h; rw [if_pos hh]
      · rename_i hh; rw [if_neg hh]; exact exit_app kk h
    all_goals exact exit_app kk h
theorem goto_app {g : Nat} {k' : List It} (kk : List It) : ∀ {k : List It}, aGoto g k = some k' → aGoto g (k ++ kk) = some (k' ++ kk)
  | [], h => by cases h
  | x :: k, h => by
    cases x <;> simp only [List.cons_append, aGoto] at h ⊢
    case inScope b =>
      split at h
      · cases h; rfl
      · exact goto_app kk h
    all_goals exact goto_app kk h

/-- A run that comes to its end goes on with what is behind it. -/
def AppLe (ih ih' : RunF) (kk : List It) (l1 : List Value) (A1 : Heap) (r : List Value × Heap × Option Code) : Prop :=
  ∀ k l A, ih k l A = some (l1, A1, none) → ih' (k ++ kk) l A = some r

theorem aStep_app {P : Program} {c c' : Sub} {d d' : Array Oper → List Value → Heap → Option (List Value × Heap)} {ih ih' : RunF} {lim : Nat} {kk : List It} {l1 : List Value} {A1 : Heap} {r : List Value × Heap × Option Code} (h : SubLe c c') (hd : ∀ ops l A r, d ops l A = some r → d' ops l A = some r) (hi : AppLe ih ih' kk l1 A1 r)
    (hend : aStep P c' d' lim ih' kk l1 A1 = some r) : AppLe (aStep P c d lim ih) (aStep P c' d' lim ih') kk l1 A1 r := by
  intro todo l A hr
  cases todo with
  | nil => cases hr; exact hend
  | cons x k =>
    cases x with
    | inBlock id => exact hi _ _ _ hr
    | inScope c => exact hi _ _ _ hr
    | inLoop c => exact hi _ _ _ hr
    | ops all i =>
      simp only [List.cons_append, aStep] at hr ⊢
      split
      · rename_i hn; rw [hn] at hr; exact hi _ _ _ hr
      · rename_i o ho
        rw [ho] at hr
        simp only at hr
        split
        · rename_i hw
          rw [if_pos hw] at hr
          split at hr
          · rename_i v A1 hop
            rw [aOper_le h hop]
            exact hi _ _ _ hr
          · cases hr
        · rename_i hw
          rw [if_neg hw] at hr
          exact hi _ _ _ hr
    | code c =>
      cases c with
      | ret => simp [aStep] at hr
      | cond x c1 c2 =>
        simp only [List.cons_append, aStep] at hr ⊢
        split
        · rename_i t ht
          rw [ht] at hr
          simp only at hr
          split
          · rename_i hb; rw [if_pos hb] at hr; exact hi _ _ _ hr
          · rename_i hb; rw [if_neg hb] at hr; exact hi _ _ _ hr
        · rename_i hn
          split at hr
          · rename_i t ht; exact absurd ht (hn t)
          · cases hr
      | exit id =>
        simp only [List.cons_append, aStep] at hr ⊢
        split at hr
        · rename_i k' hk'; rw [exit_app kk hk']; exact hi _ _ _ hr
        · simp at hr
      | goto g =>
        simp only [List.cons_append, aStep] at hr ⊢
        split at hr
        · rename_i k' hk'; rw [goto_app kk hk']; exact hi _ _ _ hr
        · simp at hr
      | rangeFunc g ps as bo =>
        simp only [List.cons_append, aStep] at hr ⊢
        split at hr
        · rename_i A1 h1; rw [aRangeFunc_le h.call h1]; exact hi _ _ _ hr
        · rename_i c1 A1 h1
          rw [aRangeFunc_le h.call h1]
          split at hr
          · rename_i hj; simp only [hj, if_true]; exact hi _ _ _ hr
          · cases hr
        · cases hr
      | region id ops b =>
        cases b with
        | false => exact hi _ _ _ hr
        | true =>
          simp only [List.cons_append, aStep] at hr ⊢
          split at hr
          · rename_i l1 A1 h1; rw [hd _ _ _ _ h1]; exact hi _ _ _ hr
          · cases hr
      | _ => first | exact hi _ _ _ hr | cases hr

theorem subLe_mono {P : Program} {E : Env} {n m : Nat} (h : n ≤ m) : SubLe ⟨aCallBy P E (aRun P E n), fun lim y args A => aYield lim (aRun P E n lim) y args A⟩ ⟨aCallBy P E (aRun P E m), fun lim y args A => aYield lim (aRun P E m lim) y args A⟩ :=
  ⟨aCallBy_le fun lim => aRun_mono h lim, fun lim _ _ _ _ hy => aYield_le (aRun_mono h lim) hy⟩

theorem run_append {P : Program} {E : Env} {lim m : Nat} {kk : List It} {l1 : List Value} {A1 : Heap} {r : List Value × Heap × Option Code} (hm : aRun P E m lim kk l1 A1 = some r) : ∀ n, AppLe (aRun P E n lim) (aRun P E (m + n) lim) kk l1 A1 r
  | 0 => fun k l A h => by cases h
  | n + 1 => by
    have hs := subLe_mono (P := P) (E := E) (show n ≤ m + n by omega)
    refine aStep_app hs (fun ops l A r h => aDrawGo_le hs _ _ _ _ _ _ _ h) (run_append hm n) ?_
    exact aRun_mono (show m ≤ m + n + 1 by omega) lim _ _ _ _ hm

/-- A run, with fuel enough. -/
def Runs (P : Program) (E : Env) (lim : Nat) (todo : List It) (l : List Value) (A : Heap) (r : List Value × Heap × Option Code) : Prop := ∃ n, aRun P E n lim todo l A = some r
/-- A call, with fuel enough. -/
def Gives (P : Program) (E : Env) (lim : Nat) (f : FuncId) (args : List Value) (A : Heap) (r : Value × Heap) : Prop := ∃ n, aCall P E n lim f args A = some r

section
variable {P : Program} {E : Env} {lim : Nat} {l l1 : List Value} {A A1 : Heap} {r : List Value × Heap × Option Code}
theorem Runs.app {k kk : List It} (h : Runs P E lim k l A (l1, A1, none)) (h2 : Runs P E lim kk l1 A1 r) : Runs P E lim (k ++ kk) l A r := by
  obtain ⟨n, h⟩ := h
  obtain ⟨m, h2⟩ := h2
  exact ⟨m + n, run_append h2 n k l A h⟩
theorem Runs.step {k : List It} (h : ∃ n, aRun P E (n + 1) lim k l A = some r) : Runs P E lim k l A r := let ⟨n, h⟩ := h; ⟨n + 1, h⟩
/-- One statement, then the others. -/
theorem Runs.seq {a b : Code} {k : List It} (h : Runs P E lim [.code a] l A (l1, A1, none)) (h2 : Runs P E lim (.code b :: k) l1 A1 r) : Runs P E lim (.code (.seq a b) :: k) l A r := by
  obtain ⟨n, h3⟩ := h.app h2
  exact ⟨n + 1, h3⟩
theorem Runs.cond {x : Operand} {a b : Code} {k : List It} {t : Bool} (ht : ev l x = .bool t) (h : Runs P E lim (.code (if t then a else b) :: k) l A r) : Runs P E lim (.code (.cond x a b) :: k) l A r := by
  obtain ⟨n, h⟩ := h
  refine ⟨n + 1, ?_⟩
  show aStep P _ _ lim _ _ l A = _
  simp only [aStep, ht]
  cases t <;> simpa using h
theorem Runs.block {id : Nat} {a : Code} {k : List It} (h : Runs P E lim (.code a :: .inBlock id :: k) l A r) : Runs P E lim (.code (.block id a) :: k) l A r := let ⟨n, h⟩ := h; ⟨n + 1, h⟩
theorem Runs.loop {a : Code} {k : List It} (h : Runs P E lim (.code a :: .inLoop a :: k) l A r) : Runs P E lim (.code (.loop a) :: k) l A r := let ⟨n, h⟩ := h; ⟨n + 1, h⟩
theorem Runs.inLoop {a : Code} {k : List It} (h : Runs P E lim (.code a :: .inLoop a :: k) l A r) : Runs P E lim (.inLoop a :: k) l A r := let ⟨n, h⟩ := h; ⟨n + 1, h⟩
/-- A call from a run of its body. -/
theorem Gives.of_body {f : FuncId} {fn : Func} {c : Code} {args : List Value} {j : Option Code} {v : Value} (hk : ∀ lim A, E.known lim f args A = none) (hf : P.funcs[f]? = some fn) (hb : fn.body = some c) (hn : decide (fn.ntmps < args.length) = false) (hi : E.impure f = false)
    (h : Runs P E A.length [.code c] args A (l1, A1, j)) (hj : retB j = true) (hr : aResults P fn l1 A1 = some v) : Gives P E lim f args A (aGC A v A1) := by
  obtain ⟨n, h⟩ := h
  refine ⟨n, ?_⟩
  simp only [aCall, aCallBy, hk, hf, hb, if_neg (of_decide_eq_false hn), hi, Bool.false_eq_true, if_false, h, hj, if_true, hr]
end
end Go.Abs
