/-
The abstract machine: more fuel does no harm.
-/
import Derived.Test.YtnhmokgakpknlaaGreatDoorAb22
namespace Go.Abs
open Go

def CallLe (c c' : CallF) : Prop := ∀ lim f args A r, c lim f args A = some r → c' lim f args A = some r
def RunLe (c c' : RunF) : Prop := ∀ k l A r, c k l A = some r → c' k l A = some r

structure SubLe (c c' : Sub) : Prop where
  call : CallLe c.call c'.call
  yld : ∀ lim y args A r, c.yld lim y args A = some r → c'.yld lim y args A = some r
theorem aOper_le {P : Program} {c c' : Sub} (h : SubLe c c') {lim : Nat} {l : List Value} {o : Oper} {A : Heap} {r : Value × Heap} (ho : aOper P c lim l o A = some r) : aOper P c' lim l o A = some r := by
  unfold aOper at ho ⊢
  split at ho
  · split at ho
    · rename_i hy
      rw [h.yld _ _ _ _ _ hy]
      exact ho
    · cases ho
  · split at ho
    · exact h.call _ _ _ _ _ ho
    · exact ho

theorem aDrawGo_le {P : Program} {c c' : Sub} (h : SubLe c c') {lim : Nat} {imp : FuncId → Bool} {all : Array Oper} {an ws : List Nat} {A0 : Heap} : ∀ (os : List (Oper × Nat)) (l : List Value) (B : Heap) (news : List (Nat × Heap)) (rs : List Nat) (wr : List (Option Nat)) (r : List Value × Heap),
    aDrawGo P c lim imp all an ws A0 os l B news rs wr = some r → aDrawGo P c' lim imp all an ws A0 os l B news rs wr = some r
  | [], l, B, news, rs, wr, r, hr => hr
  | (o, i) :: os, l, B, news, rs, wr, r, hr => by
    simp only [aDrawGo] at hr ⊢
    split
    · rename_i hw
      rw [if_pos hw] at hr
      split
      · rename_i hp
        rw [if_pos hp] at hr
        split at hr
        · rename_i v R hop
          rw [aOper_le h hop]
          exact aDrawGo_le h os _ _ _ _ _ r hr
        · cases hr
      rename_i hp
      rw [if_neg hp] at hr
      split
      · rename_i hf
        rw [if_pos hf] at hr
        split at hr
        · rename_i r1 hrow
          split at hr
          · rename_i v R hop
            rw [aOper_le h hop]
            exact aDrawGo_le h os _ _ _ _ _ r hr
          · cases hr
        · cases hr
      · rename_i hf
        rw [if_neg hf] at hr
        split
        · rename_i hs
          rw [if_pos hs] at hr
          split at hr
          · rename_i v R hop
            rw [aOper_le h hop]
            exact aDrawGo_le h os _ _ _ _ _ r hr
          · cases hr
        · rename_i hs
          rw [if_neg hs] at hr
          split at hr
          · rename_i v R hop
            rw [aOper_le h hop]
            exact aDrawGo_le h os _ _ _ _ _ r hr
          · cases hr
    · rename_i hw
      rw [if_neg hw] at hr
      exact aDrawGo_le h os _ _ _ _ _ r hr

theorem aYield_le {ih ih' : RunF} {lim : Nat} (hi : RunLe ih ih') {y : Nat} {args : List Value} {A : Heap} {r : Bool × Heap} (h : aYield lim ih y args A = some r) : aYield lim ih' y args A = some r := by
  unfold aYield at h ⊢
  split at h
  · rename_i tm ps as bo pe hy
    split at h
    · rename_i hc
      simp only [hc, and_self, if_true]
      split at h
      · rename_i l1 A1 h1
        rw [hi _ _ _ _ h1]
        simp only
        split at h
        · rename_i tm1 ps1 as1 bo1 pe1 hy1
          split at h
          · rename_i l2 A2 j h2
            rw [hi _ _ _ _ h2]
            exact h
          · cases h
        · cases h
      · cases h
    · cases h
  · cases h
theorem aRangeFunc_le {c c' : CallF} (h : CallLe c c') {lim : Nat} {l : List Value} {g : Operand} {ps : Array Tmp} {as bo : Code} {A : Heap} {r : Option Code × Heap} (hr : aRangeFunc c lim l g ps as bo A = some r) : aRangeFunc c' lim l g ps as bo A = some r := by
  unfold aRangeFunc at hr ⊢
  split at hr
  · split at hr
    · rename_i v A1 h1
      rw [h _ _ _ _ _ h1]
      exact hr
    · cases hr
  · cases hr

theorem aStep_le {P : Program} {c c' : Sub} {d d' : Array Oper → List Value → Heap → Option (List Value × Heap)} {ih ih' : RunF} {lim : Nat} (h : SubLe c c') (hd : ∀ ops l A r, d ops l A = some r → d' ops l A = some r) (hi : RunLe ih ih') :
    RunLe (aStep P c d lim ih) (aStep P c' d' lim ih') := by
  intro todo l A r hr
  cases todo with
  | nil => exact hr
  | cons x k =>
    cases x with
    | inBlock id => exact hi _ _ _ _ hr
    | inScope c => exact hi _ _ _ _ hr
    | inLoop c => exact hi _ _ _ _ hr
    | ops all i =>
      simp only [aStep] at hr ⊢
      split
      · rename_i hn; rw [hn] at hr; exact hi _ _ _ _ hr
      · rename_i o ho
        rw [ho] at hr
        simp only at hr
        split
        · rename_i hw
          rw [if_pos hw] at hr
          split at hr
          · rename_i v A1 hop
            rw [aOper_le h hop]
            exact hi _ _ _ _ hr
          · cases hr
        · rename_i hw
          rw [if_neg hw] at hr
          exact hi _ _ _ _ hr
    | code c =>
      cases c with
      | cond x c1 c2 =>
        simp only [aStep] at hr ⊢
        split
        · rename_i t ht
          rw [ht] at hr
          simp only at hr
          split
          · rename_i hb; rw [if_pos hb] at hr; exact hi _ _ _ _ hr
          · rename_i hb; rw [if_neg hb] at hr; exact hi _ _ _ _ hr
        · rename_i hn
          split at hr
          · rename_i t ht; exact absurd ht (hn t)
          · cases hr
      | exit id =>
        simp only [aStep] at hr ⊢
        split at hr
        · exact hi _ _ _ _ hr
        · exact hr
      | goto g =>
        simp only [aStep] at hr ⊢
        split at hr
        · exact hi _ _ _ _ hr
        · exact hr
      | rangeFunc g ps as bo =>
        simp only [aStep] at hr ⊢
        split at hr
        · rename_i A1 h1; rw [aRangeFunc_le h.call h1]; exact hi _ _ _ _ hr
        · rename_i c1 A1 h1
          rw [aRangeFunc_le h.call h1]
          split at hr
          · rename_i hj; simp only [hj, if_true]; exact hi _ _ _ _ hr
          · cases hr
        · cases hr
      | region id ops b =>
        cases b with
        | false => exact hi _ _ _ _ hr
        | true =>
          simp only [aStep] at hr ⊢
          split at hr
          · rename_i l1 A1 h1; rw [hd _ _ _ _ h1]; exact hi _ _ _ _ hr
          · cases hr
      | _ => first | exact hr | exact hi _ _ _ _ hr | cases hr

theorem aCallBy_le {P : Program} {E : Env} {run run' : Nat → RunF} (h : ∀ lim, RunLe (run lim) (run' lim)) : CallLe (aCallBy P E run) (aCallBy P E run') := by
  intro lim f args A r hr
  unfold aCallBy at hr ⊢
  split
  · rename_i x hx; rw [hx] at hr; exact hr
  · rename_i hx
    rw [hx] at hr
    simp only at hr
    split
    · rename_i hf; rw [hf] at hr; exact hr
    · rename_i fn hf
      rw [hf] at hr
      simp only at hr
      split
      · rename_i hb; rw [hb] at hr; exact hr
      · rename_i c hb
        rw [hb] at hr
        simp only at hr
        split
        · rename_i hl; rw [if_pos hl] at hr; exact hr
        · rename_i hl
          rw [if_neg hl] at hr
          split
          · rename_i hE
            rw [if_pos hE] at hr
            split at hr
            · rename_i l1 A1 j h1; rw [h _ _ _ _ _ h1]; exact hr
            · cases hr
          · rename_i hE
            rw [if_neg hE] at hr
            split at hr
            · rename_i l1 A1 j h1; rw [h _ _ _ _ _ h1]; exact hr
            · cases hr

theorem aRun_le {P : Program} {E : Env} : ∀ (n lim : Nat), RunLe (aRun P E n lim) (aRun P E (n + 1) lim)
  | 0, lim => fun k l A r h => by cases h
  | n + 1, lim => by
    have hc : SubLe ⟨aCallBy P E (aRun P E n), fun lim y args A => aYield lim (aRun P E n lim) y args A⟩ ⟨aCallBy P E (aRun P E (n + 1)), fun lim y args A => aYield lim (aRun P E (n + 1) lim) y args A⟩ :=
      ⟨aCallBy_le (aRun_le n), fun lim y args A r h => aYield_le (aRun_le n lim) h⟩
    exact aStep_le hc (fun ops l A r h => aDrawGo_le hc _ _ _ _ _ _ _ h) (aRun_le n lim)
theorem aRun_mono {P : Program} {E : Env} {n m : Nat} (h : n ≤ m) (lim : Nat) : RunLe (aRun P E n lim) (aRun P E m lim) := by
  induction h with
  | refl => exact fun _ _ _ _ h => h
  | step _ ih => exact fun k l A r h => aRun_le _ lim _ _ _ _ (ih k l A r h)
theorem aCall_mono {P : Program} {E : Env} {n m : Nat} (h : n ≤ m) : CallLe (aCall P E n) (aCall P E m) := aCallBy_le fun lim => aRun_mono h lim
end Go.Abs
