/-
The abstract machine: rows below the limit stay as they are.
-/
import Derived.Test.YtnhmokgakpknlaaGreatDoorAb13
namespace Go.Abs
open Go

def Keeps (lim : Nat) (A A' : Heap) : Prop := A.length ≤ A'.length ∧ ∀ i, i < lim → i < A.length → hget A' i = hget A i

theorem Keeps.refl (lim : Nat) (A : Heap) : Keeps lim A A := ⟨Nat.le_refl _, fun _ _ _ => rfl⟩
theorem Keeps.trans {lim : Nat} {A B C : Heap} (h : Keeps lim A B) (h' : Keeps lim B C) : Keeps lim A C :=
  ⟨Nat.le_trans h.1 h'.1, fun i hi hA => (h'.2 i hi (Nat.lt_of_lt_of_le hA h.1)).trans (h.2 i hi hA)⟩
theorem Keeps.push (lim : Nat) (A : Heap) (x : Option ARow) : Keeps lim A (A ++ [x]) :=
  ⟨by simp, fun i _ hA => by rw [hget_append, if_pos hA]⟩
theorem Keeps.set {lim : Nat} (A : Heap) {i : Nat} (hi : lim ≤ i) (x : Option ARow) : Keeps lim A (hset A i x) :=
  ⟨by simp, fun j hj hA => by rw [hget_hset, if_neg (by omega)]⟩
theorem Keeps.setPush {lim : Nat} (A : Heap) {i : Nat} (hi : lim ≤ i) (x y : Option ARow) : Keeps lim A (hset A i x ++ [y]) :=
  (Keeps.set A hi x).trans (Keeps.push lim _ y)
theorem Keeps.le {lim lim' : Nat} {A A' : Heap} (h : Keeps lim A A') (hl : lim' ≤ lim) : Keeps lim' A A' := ⟨h.1, fun i hi hA => h.2 i (by omega) hA⟩

section
variable {P : Program} {lim : Nat} {l : List Value} {A A' : Heap} {v : Value}

theorem alloc_keeps {t : TypeId} (h : aAlloc P t A = some (v, A')) : Keeps lim A A' := by
  unfold aAlloc at h
  repeat' (split at h)
  all_goals first | (cases h; exact Keeps.push _ _ _) | cases h
theorem buildSlice_keeps {t : TypeId} {n : Nat} {ps : List (Nat × Value)} (h : aBuildSlice P t n ps A = some (v, A')) : Keeps lim A A' := by
  unfold aBuildSlice at h
  repeat' (split at h)
  all_goals first | (cases h; exact Keeps.push _ _ _) | cases h
theorem makeSlice_keeps {t : TypeId} {x c : Value} (h : aMakeSlice P t x c A = some (v, A')) : Keeps lim A A' := by
  unfold aMakeSlice at h
  repeat' (split at h)
  all_goals first | (cases h; exact Keeps.push _ _ _) | cases h
theorem store_keeps {t : TypeId} {p x : Value} (h : aStore P lim t p x A = some A') : Keeps lim A A' := by
  unfold aStore at h
  repeat' (split at h)
  all_goals first | (rename_i hh; cases h; exact Keeps.set _ hh.2.1 _) | cases h
theorem append_keeps {ats : Array TypeId} {s x : Value} (h : aAppend P lim ats s x A = some (v, A')) : Keeps lim A A' := by
  unfold aAppend at h
  repeat' (split at h)
  all_goals first | (cases h; exact Keeps.refl _ _) | (cases h; exact Keeps.push _ _ _) | (rename_i hh; cases h; exact Keeps.setPush _ hh.1 _ _) | cases h
theorem copy_keeps {ats : Array TypeId} {s x : Value} (h : aCopy P lim ats s x A = some (v, A')) : Keeps lim A A' := by
  unfold aCopy at h
  repeat' (split at h)
  all_goals first | (cases h; exact Keeps.refl _ _) | (rename_i hh; cases h; exact Keeps.set _ hh.2.1 _) | cases h
theorem convert_keeps {s d : TypeId} {x : Value} (h : aConvert P s d x A = some (v, A')) : Keeps lim A A' := by
  unfold aConvert at h
  repeat' (split at h)
  all_goals first | (obtain ⟨_, _, he⟩ := map_some h; cases he; exact Keeps.refl _ _) | (cases h; exact Keeps.push _ _ _) | (cases h; exact Keeps.refl _ _) | cases h
theorem range_keeps {t : TypeId} {x : Value} (h : aRange P t x A = some (v, A')) : Keeps lim A A' := by
  unfold aRange at h
  repeat' (split at h)
  all_goals first | (cases h; exact Keeps.push _ _ _) | cases h
theorem next_keeps {x : Value} {b : Bool} (h : aNext lim x b A = some (v, A')) : Keeps lim A A' := by
  unfold aNext at h
  repeat' (split at h)
  all_goals first | (cases h; exact Keeps.refl _ _) | (rename_i hh _; cases h; exact Keeps.set _ hh _) | cases h
theorem unsafeString_keeps {ats : Array TypeId} {p n : Value} (h : aUnsafeString P lim ats p n A = some (v, A')) : Keeps lim A A' := by
  unfold aUnsafeString at h
  repeat' (split at h)
  all_goals first | (cases h; exact Keeps.refl _ _) | (rename_i hh; cases h; exact Keeps.set _ hh.2.2.2.2.2.2 _) | cases h
theorem makeMap_keeps {t : TypeId} {r : Option Value} (h : aMakeMap P t r A = some (v, A')) : Keeps lim A A' := by
  unfold aMakeMap at h
  repeat' (split at h)
  all_goals first | (cases h; exact Keeps.push _ _ _) | cases h
theorem mapUpdate_keeps {t : TypeId} {m k x : Value} (h : aMapUpdate P lim t m k x A = some A') : Keeps lim A A' := by
  unfold aMapUpdate at h
  split at h
  · split at h
    · split at h
      · rename_i hc
        repeat' (split at h)
        all_goals first | (cases h; exact Keeps.set _ hc.2.1 _) | cases h
      · cases h
    · cases h
  · cases h
theorem pure_keeps {o : Oper} (h : aPure P l o A = some (v, A')) : A' = A := by
  unfold aPure at h
  repeat' (split at h)
  all_goals first | (cases h; rfl) | cases h
theorem map_keeps {α : Type} {f : α → Value} {x : Option α} (h : x.map (fun y => (f y, A)) = some (v, A')) : Keeps lim A A' := by
  obtain ⟨_, _, he⟩ := map_some h; cases he; exact Keeps.refl _ _

theorem op_keeps {o : Oper} (h : aOp P lim l o A = some (v, A')) : Keeps lim A A' := by
  have hp : aPure P l o A = some (v, A') → Keeps lim A A' := fun h => by rw [pure_keeps h]; exact Keeps.refl _ _
  obtain ⟨dst, op, type, pos, after, guard⟩ := o
  cases op
  case move x => cases h; exact Keeps.refl _ _
  case assign x => cases h; exact Keeps.refl _ _
  case pick c x y => simp only [aOp] at h; split at h <;> first | (cases h; exact Keeps.refl _ _) | cases h
  case load t x => obtain ⟨_, _, he⟩ := map_some h; cases he; exact Keeps.refl _ _
  case store t x y => obtain ⟨_, hz, he⟩ := map_some h; cases he; exact store_keeps hz
  case alloc t => exact alloc_keeps h
  case box t x => cases h; exact Keeps.push _ _ _
  case build t ps => obtain ⟨_, _, he⟩ := map_some h; cases he; exact Keeps.refl _ _
  case buildSlice t n ps => exact buildSlice_keeps h
  case makeSlice t x c => exact makeSlice_keeps h
  case fieldAddr t x f => obtain ⟨_, _, he⟩ := map_some h; cases he; exact Keeps.refl _ _
  case indexAddr t x i => obtain ⟨_, _, he⟩ := map_some h; cases he; exact Keeps.refl _ _
  case slice t x lo hi mx =>
    cases mx with
    | some m => simp [aOp] at h
    | none =>
      simp only [aOp] at h
      split at h
      · exact hp h
      · obtain ⟨_, _, he⟩ := map_some h; cases he; exact Keeps.refl _ _
  case field t x f => obtain ⟨_, _, he⟩ := map_some h; cases he; exact Keeps.refl _ _
  case index t x i => obtain ⟨_, _, he⟩ := map_some h; cases he; exact Keeps.refl _ _
  case extract x i =>
    simp only [aOp] at h
    split at h
    · obtain ⟨_, _, he⟩ := map_some h; cases he; exact Keeps.refl _ _
    · cases h
  case makeFunc fn f c => simp only [aOp] at h; split at h <;> first | (cases h; exact Keeps.refl _ _) | cases h
  case makeInterface t x => simp only [aOp] at h; split at h <;> first | (cases h; exact Keeps.refl _ _) | cases h
  case nilCheck x => obtain ⟨_, _, he⟩ := map_some h; cases he; exact Keeps.refl _ _
  case range t x => exact range_keeps h
  case next x b => exact next_keeps h
  case makeMap t r => exact makeMap_keeps h
  case lookup t x k b => obtain ⟨_, _, he⟩ := map_some h; cases he; exact Keeps.refl _ _
  case mapUpdate t m k x => obtain ⟨_, hz, he⟩ := map_some h; cases he; exact mapUpdate_keeps hz
  case insert t m k x => obtain ⟨_, hz, he⟩ := map_some h; cases he; exact mapUpdate_keeps hz
  case convert s d x =>
    simp only [aOp] at h
    split at h <;> split at h <;> first | exact hp h | exact convert_keeps h
  case binOp op t x y u =>
    cases op <;> simp only [aOp] at h <;> try exact hp h
    all_goals
      split at h
      · cases h; exact Keeps.refl _ _
      · split at h
        · cases h; exact Keeps.refl _ _
        · exact hp h
  case unOp op t x => exact hp h
  case call c =>
    obtain ⟨callee, args, ats⟩ := c
    cases callee with
    | value f => simp [aOp] at h
    | invoke r m => simp [aOp] at h
    | builtin b =>
      cases b <;> try (simp only [aOp] at h; exact hp h)
      case append => simp only [aOp] at h; split at h <;> first | exact append_keeps h | cases h
      case copy => simp only [aOp] at h; split at h <;> first | exact copy_keeps h | cases h
      case len =>
        simp only [aOp] at h
        split at h
        · obtain ⟨_, _, he⟩ := map_some h; cases he; exact Keeps.refl _ _
        · cases h
      case unsafeSliceData =>
        simp only [aOp] at h
        split at h
        · obtain ⟨_, _, he⟩ := map_some h; cases he; exact Keeps.refl _ _
        · cases h
      case unsafeString => simp only [aOp] at h; split at h <;> first | exact unsafeString_keeps h | cases h
  all_goals simp [aOp] at h
end

def CallKeeps (call : CallF) : Prop := ∀ lim f args A v A', call lim f args A = some (v, A') → Keeps lim A A'
theorem CallOK.keeps' {P : Program} {G : Nat} {call : CallF} (h : CallOK P G call) : CallKeeps call := fun lim f args A v A' hc => h.keeps lim f args A v A' hc

structure SubKeeps (c : Sub) : Prop where
  call : CallKeeps c.call
  yld : ∀ lim y args A t A', c.yld lim y args A = some (t, A') → Keeps lim A A'
theorem SubOK.keeps' {P : Program} {G : Nat} {c : Sub} (h : SubOK P G c) : SubKeeps c := ⟨h.call.keeps', fun lim y args A t A' hc => h.keeps lim y args A t A' hc⟩

theorem aOper_keeps {P : Program} {c : Sub} (hC : SubKeeps c) {lim : Nat} {l : List Value} {o : Oper} {A A' : Heap} {v : Value} (h : aOper P c lim l o A = some (v, A')) : Keeps lim A A' := by
  unfold aOper at h
  split at h
  · split at h
    · rename_i hy
      cases h
      exact hC.yld _ _ _ _ _ _ hy
    · cases h
  · split at h
    · exact hC.call _ _ _ _ _ _ h
    · exact op_keeps h
end Go.Abs
