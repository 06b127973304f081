/-
The abstract machine: operations of a region, some at a time.
-/
import Derived.Test.YtnhmokgakpknlaaGreatDoorAb26
namespace Go.Abs
open Go

/-- Guards look at operations before them. -/
def guardsB (all : Array Oper) : Bool := all.toList.zipIdx.all fun x => match x.1.guard with
  | some (g, _) => decide (g < x.2)
  | none => true
theorem guards_lt {all : Array Oper} (h : guardsB all = true) {i : Nat} {o : Oper} (ho : all[i]? = some o) {g : Nat} {b : Bool} (hg : o.guard = some (g, b)) : g < i := by
  have := List.all_eq_true.1 h (o, i) (List.mem_iff_getElem?.2 ⟨i, by rw [List.getElem?_zipIdx]; simp [Array.getElem?_toList, ho]⟩)
  simp only [hg] at this
  simpa using this

def firsts (all : Array Oper) (j : Nat) : Array Oper := (all.toList.take j).toArray
theorem firsts_get {all : Array Oper} {i j : Nat} : (firsts all j)[i]? = if i < j then all[i]? else none := by
  simp only [firsts, List.getElem?_toArray, List.getElem?_take]
  split <;> simp
theorem firsts_wanted {all : Array Oper} (hg : guardsB all = true) {i j : Nat} (hij : i < j) {o : Oper} (ho : all[i]? = some o) (l : List Value) : aWanted (firsts all j) l o = aWanted all l o := by
  unfold aWanted
  cases hgo : o.guard with
  | none => rfl
  | some g =>
    obtain ⟨g, b⟩ := g
    have hlt := guards_lt hg ho hgo
    simp only [aYielded, firsts_get, if_pos (show g < j by omega)]

/-- THE OPERATIONS UP TO j, then the others. -/
theorem Runs.ops_split {P : Program} {E : Env} {lim : Nat} {all : Array Oper} {j : Nat} {k : List It} {l1 : List Value} {A1 : Heap} {r : List Value × Heap × Option Code} (hg : guardsB all = true) (h2 : Runs P E lim (.ops all j :: k) l1 A1 r) :
    ∀ (n i : Nat) (l : List Value) (A : Heap), i ≤ j → aRun P E n lim [.ops (firsts all j) i] l A = some (l1, A1, none) → Runs P E lim (.ops all i :: k) l A r
  | 0, i, l, A, hij, h => by cases h
  | n + 1, i, l, A, hij, h => by
    change aStep P _ _ lim _ _ l A = _ at h
    simp only [aStep, firsts_get] at h
    by_cases hlt : i < j
    · rw [if_pos hlt] at h
      cases ho : all[i]? with
      | none =>
        rw [ho] at h
        simp only at h
        -- beyond the end: nothing is left on either side
        cases n with
        | zero => cases h
        | succ n =>
          cases h
          obtain ⟨m, hm⟩ := h2
          cases m with
          | zero => cases hm
          | succ m =>
            have hj : all[j]? = none := by
              have := Array.getElem?_eq_none_iff.1 ho
              exact Array.getElem?_eq_none_iff.2 (by omega)
            refine ⟨m + 1, ?_⟩
            change aStep P _ _ lim _ _ l1 A1 = _ at hm ⊢
            simp only [aStep, hj] at hm
            simp only [aStep, ho]
            exact hm
      | some o =>
        rw [ho] at h
        simp only [firsts_wanted hg hlt ho] at h
        split at h
        · rename_i hw
          split at h
          · rename_i v A2 hop
            obtain ⟨m, hm⟩ := Runs.ops_split hg h2 n (i + 1) _ _ hlt h
            refine ⟨m + n + 1, ?_⟩
            change aStep P _ _ lim _ _ l A = _
            simp only [aStep, ho, hw, if_true]
            rw [aOper_le (subLe_mono (show n ≤ m + n by omega)) hop]
            exact aRun_mono (show m ≤ m + n by omega) lim _ _ _ _ hm
          · cases h
        · rename_i hw
          obtain ⟨m, hm⟩ := Runs.ops_split hg h2 n (i + 1) _ _ hlt h
          refine ⟨m + 1, ?_⟩
          change aStep P _ _ lim _ _ l A = _
          simp only [aStep, ho, hw, Bool.false_eq_true, if_false]
          exact hm
    · have hij : i = j := by omega
      subst hij
      rw [if_neg hlt] at h
      cases n with
      | zero => cases h
      | succ n => cases h; exact h2
theorem Runs.region {P : Program} {E : Env} {lim id : Nat} {all : Array Oper} {k : List It} {l : List Value} {A : Heap} {r : List Value × Heap × Option Code} (h : Runs P E lim (.ops all 0 :: k) l A r) : Runs P E lim (.code (.region id all false) :: k) l A r := let ⟨n, h⟩ := h; ⟨n + 1, h⟩
end Go.Abs
