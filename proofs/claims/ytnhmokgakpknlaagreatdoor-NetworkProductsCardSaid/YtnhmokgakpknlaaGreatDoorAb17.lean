/-
The abstract machine: regions whose order is open. First part: rows of a region, masks, and a piece of a run beside others.
-/
import Derived.Test.YtnhmokgakpknlaaGreatDoorAb16
namespace Go.Abs
open Go

def restr (ρ : Loc) (p : Nat → Bool) : Loc := fun id => if p id then ρ id else none
theorem restr_ext (ρ : Loc) (p : Nat → Bool) : Ext (restr ρ p) ρ := fun i L h => by
  unfold restr at h; split at h
  · exact h
  · cases h
theorem restr_mono {ρ ρ' : Loc} {p p' : Nat → Bool} (h : Ext ρ ρ') (hp : ∀ i L, ρ i = some L → p i = true → p' i = true) : Ext (restr ρ p) (restr ρ' p') := fun i L hi => by
  unfold restr at hi ⊢
  split at hi
  · rename_i h1; rw [if_pos (hp i L hi h1)]; exact h i L hi
  · cases hi

/-- A PIECE OF A RUN OVER SOME OF THE ROWS, BESIDE THE OTHERS. -/
theorem soft_core {P : Program} {ρ ρ1 ρ0 ρM : Loc} {H H' M R A0 : Heap} {w w' w0 : World} (hH : Rel P ρ H w) (hM0 : Moves ρ0 A0 w0 ρ H w)
    (hsub : ∀ id r, hget M id = some r → hget H id = some r) (hρM : Ext ρM ρ) (hM : Rel P ρM M w) (hR : Rel P ρ1 R w') (hmv : Moves ρM M w ρ1 R w') (hk : ∀ id, id < M.length → hget R id = hget M id)
    (hfree : ∀ id, M.length ≤ id → id < R.length → ρ id = none) (hA0 : A0.length ≤ M.length) (hlen : H'.length = H.length) (hRl : R.length ≤ H.length)
    (hH' : ∀ id r, hget H' id = some r → (hget H id = some r ∧ ¬ (M.length ≤ id ∧ id < R.length)) ∨ (M.length ≤ id ∧ id < R.length ∧ hget R id = some r)) :
    ∃ ρ' : Loc, (∀ id, ρ' id = if M.length ≤ id ∧ id < R.length then ρ1 id else ρ id) ∧ Ext ρ1 ρ' ∧ Ext ρ ρ' ∧ Rel P ρ' H' w' ∧ Moves ρ0 A0 w0 ρ' H' w' := by
  let ρ' : Loc := fun id => if M.length ≤ id ∧ id < R.length then ρ1 id else ρ id
  have hdef : ∀ id, ρ' id = if M.length ≤ id ∧ id < R.length then ρ1 id else ρ id := fun _ => rfl
  have e1 : Ext ρ1 ρ' := fun id L h => by
    rw [hdef]
    split
    · exact h
    · rename_i hn
      have hlt : id < M.length := by
        rcases Nat.lt_or_ge id M.length with h1 | h1
        · exact h1
        · rcases Nat.lt_or_ge id R.length with h2 | h2
          · exact absurd ⟨h1, h2⟩ hn
          · rw [hR.sup id h2] at h; cases h
      exact hρM id L (by rw [← hmv.same id hlt]; exact h)
  have e2 : Ext ρ ρ' := fun id L h => by
    rw [hdef]
    split
    · rename_i hn; rw [hfree id hn.1 hn.2] at h; cases h
    · exact h
  -- an old row
  have inM : ∀ {id r L}, hget M id = some r → ρ id = some L → hget R id = some r ∧ ρ1 id = some L := by
    intro id r L h1 h2
    have hlt := hget_lt h1
    obtain ⟨L', hL'⟩ := hM.has id r h1
    have : L' = L := by have := hρM id L' hL'; rw [h2] at this; cases this; rfl
    subst this
    exact ⟨by rw [hk id hlt]; exact h1, by rw [hmv.same id hlt]; exact hL'⟩
  have ownM : ∀ b, OwnIn ρM M b → OwnIn ρ H b := fun b ⟨k, r, L, a1, a2, a3, a4⟩ => ⟨k, r, L, hsub k r a1, hρM k L a2, a3, a4⟩
  have notown : ∀ {id r L}, hget M id = none → hget H id = some r → ρ id = some L → ¬ OwnIn ρM M L.blk := by
    rintro id r L hn h1 h2 ⟨k, q, K, a1, a2, a3, a4⟩
    have hne : k ≠ id := fun e => by subst e; rw [hn] at a1; cases a1
    exact hH.sep k id q r K L (hsub k q a1) h1 (hρM k K a2) h2 hne a3 a4
  have newblk : ∀ {id r L}, M.length ≤ id → hget R id = some r → ρ1 id = some L → w.heap.size ≤ L.blk ∨ OwnIn ρM M L.blk := by
    intro id r L h1 h2 h3
    rcases hmv.rows id r L h2 h3 with ⟨hlt, _⟩ | h | h
    · omega
    · exact .inl h
    · exact .inr h
  have old : ∀ {id L}, ¬ (M.length ≤ id ∧ id < R.length) → ρ' id = some L → ρ id = some L := fun hn h => by rw [hdef, if_neg hn] at h; exact h
  have new : ∀ {id L}, M.length ≤ id → id < R.length → ρ' id = some L → ρ1 id = some L := fun h1 h2 h => by rw [hdef, if_pos ⟨h1, h2⟩] at h; exact h
  refine ⟨ρ', hdef, e1, e2, ⟨?_, ?_, ?_, ?_⟩, ⟨hM0.pre.trans e2, by have := hM0.len; omega, ?_, Nat.le_trans hM0.size hmv.size, ?_, ?_, ⟨hmv.out.1.trans hM0.out.1, hmv.out.2.trans hM0.out.2⟩, fun b hb => hmv.loops b (hM0.loops b hb)⟩⟩
  · intro id hid
    rw [hdef, if_neg (by omega)]
    exact hH.sup id (by omega)
  · intro id r hid
    rcases hH' id r hid with ⟨h1, h2⟩ | ⟨h1, h2, h3⟩
    · obtain ⟨L, hL⟩ := hH.has id r h1
      exact ⟨L, e2 id L hL⟩
    · obtain ⟨L, hL⟩ := hR.has id r h3
      exact ⟨L, e1 id L hL⟩
  · intro id r L hid hL
    rcases hH' id r hid with ⟨h1, h2⟩ | ⟨h1, h2, h3⟩
    · have hL := old h2 hL
      cases hm : hget M id with
      | none =>
        have hrow := hH.row id r L h1 hL
        exact hrow.move e2 (hmv.frame L.blk hrow.lt (notown hm h1 hL))
      | some q =>
        have hq : q = r := by have := hsub id q hm; rw [h1] at this; cases this; rfl
        subst hq
        obtain ⟨b1, b2⟩ := inM hm hL
        exact (hR.row id q L b1 b2).move e1 rfl
    · exact (hR.row id r L h3 (new h1 h2 hL)).move e1 rfl
  · intro i j r s L K hi hj hL hK hne hr
    rcases hH' i r hi with ⟨a1, a2⟩ | ⟨a1, a2, a3⟩ <;> rcases hH' j s hj with ⟨b1, b2⟩ | ⟨b1, b2, b3⟩
    · exact hH.sep i j r s L K a1 b1 (old a2 hL) (old b2 hK) hne hr
    · have hL := old a2 hL
      have hK := new b1 b2 hK
      cases hm : hget M i with
      | some q =>
        have hq : q = r := by have := hsub i q hm; rw [a1] at this; cases this; rfl
        subst hq
        obtain ⟨c1, c2⟩ := inM hm hL
        exact hR.sep i j q s L K c1 b3 c2 hK hne hr
      | none =>
        rcases newblk b1 b3 hK with h | ⟨k, q, Q, d1, d2, d3, d4⟩
        · have := (hH.row i r L a1 hL).lt; omega
        · rw [← d4]
          have hki : k ≠ i := fun e => by subst e; rw [hm] at d1; cases d1
          exact fun e => hH.sep k i q r Q L (hsub k q d1) a1 (hρM k Q d2) hL hki d3 e.symm
    · have hL := new a1 a2 hL
      have hK := old b2 hK
      cases hm : hget M j with
      | some q =>
        have hq : q = s := by have := hsub j q hm; rw [b1] at this; cases this; rfl
        subst hq
        obtain ⟨c1, c2⟩ := inM hm hK
        exact hR.sep i j r q L K a3 c1 hL c2 hne hr
      | none =>
        rcases newblk a1 a3 hL with h | ⟨k, q, Q, d1, d2, d3, d4⟩
        · have := (hH.row j s K b1 hK).lt; omega
        · rw [← d4]
          have hkj : k ≠ j := fun e => by subst e; rw [hm] at d1; cases d1
          exact hH.sep k j q s Q K (hsub k q d1) b1 (hρM k Q d2) hK hkj d3
    · exact hR.sep i j r s L K a3 b3 (new a1 a2 hL) (new b1 b2 hK) hne hr
  · intro id hid
    rw [hdef, if_neg (by omega)]
    exact hM0.same id hid
  · intro b hb hn
    have h1 := hM0.frame b hb hn
    rw [hmv.frame b (Nat.lt_of_lt_of_le hb hM0.size) (fun ho => hn (hM0.own b hb (ownM b ho))), h1]
  · intro id r L hid hL
    rcases hH' id r hid with ⟨h1, h2⟩ | ⟨h1, h2, h3⟩
    · exact hM0.rows id r L h1 (old h2 hL)
    · rcases newblk h1 h3 (new h1 h2 hL) with h | h
      · exact .inr (.inl (Nat.le_trans hM0.size h))
      · obtain ⟨k, q, Q, d1, d2, d3, d4⟩ := ownM _ h
        rcases hM0.rows k q Q d1 d2 with ⟨c1, r0, c2, c3⟩ | h | h
        · exact .inr (.inr ⟨k, r0, Q, c2, by rw [← hM0.same k c1]; exact d2, c3 d3, d4⟩)
        · exact .inr (.inl (by omega))
        · exact .inr (.inr (d4 ▸ h))

/-- Which operation made the k-th of the rows that a region made. -/
def crOf : List (Nat × Heap) → Nat → Option Nat
  | [], _ => none
  | (i, N) :: l, k => if k < N.length then some i else crOf l (k - N.length)
def maskBy (S : Nat → Bool) : List (Nat × Heap) → Heap
  | [] => []
  | (j, N) :: l => (if S j then N else N.map fun _ => none) ++ maskBy S l

theorem maskRows_eq (m : Nat) : ∀ l, maskRows m l = maskBy (fun j => m.testBit j) l
  | [] => rfl
  | (j, N) :: l => by simp only [maskRows, maskBy, maskRows_eq m l]
@[simp] theorem maskBy_length (S : Nat → Bool) : ∀ l, (maskBy S l).length = (flatRows l).length
  | [] => rfl
  | (j, N) :: l => by simp only [maskBy, flatRows, List.length_append, maskBy_length S l]; split <;> simp
theorem hget_none (N : Heap) (i : Nat) : hget (N.map fun _ => none) i = none := by
  induction N generalizing i with
  | nil => rfl
  | cons r N ih => cases i with
    | zero => rfl
    | succ i => exact ih i
theorem hget_mask (S : Nat → Bool) : ∀ (l : List (Nat × Heap)) (k : Nat) (r : ARow), hget (maskBy S l) k = some r ↔ hget (flatRows l) k = some r ∧ ∃ i, crOf l k = some i ∧ S i = true
  | [], k, r => by simp [maskBy, flatRows]
  | (j, N) :: l, k, r => by
    simp only [maskBy, flatRows, hget_append, crOf]
    by_cases hk : k < N.length
    · simp only [if_pos hk]
      by_cases hS : S j = true
      · simp [hS, hk]
      · have hS' : S j = false := by simpa using hS
        simp [hS', hk, hget_none]
    · have : ¬ k < (if S j = true then N else N.map fun _ => none).length := by split <;> simpa using hk
      rw [if_neg this, if_neg hk, if_neg hk]
      have e : (if S j = true then N else N.map fun _ => none).length = N.length := by split <;> simp
      rw [e]
      exact hget_mask S l _ r
theorem crOf_lt : ∀ (l : List (Nat × Heap)) (k i : Nat), crOf l k = some i → k < (flatRows l).length ∧ ∃ N, (i, N) ∈ l ∧ N ≠ []
  | [], k, i, h => by cases h
  | (j, N) :: l, k, i, h => by
    simp only [crOf] at h
    split at h
    · cases h
      rename_i hk
      exact ⟨by simp [flatRows]; omega, N, by simp, by intro e; subst e; simp at hk⟩
    · obtain ⟨h1, N', h2, h3⟩ := crOf_lt l _ i h
      exact ⟨by simp [flatRows]; omega, N', by simp [h2], h3⟩
theorem crOf_append (l l2 : List (Nat × Heap)) (k : Nat) : crOf (l ++ l2) k = if k < (flatRows l).length then crOf l k else crOf l2 (k - (flatRows l).length) := by
  induction l generalizing k with
  | nil => simp [flatRows, crOf]
  | cons x l ih =>
    obtain ⟨j, N⟩ := x
    simp only [List.cons_append, crOf, flatRows, List.length_append]
    by_cases hk : k < N.length
    · simp [hk, show k < N.length + (flatRows l).length from by omega]
    · rw [if_neg hk, ih]
      by_cases h2 : k - N.length < (flatRows l).length
      · rw [if_pos h2, if_pos (by omega), if_neg hk]
      · rw [if_neg h2, if_neg (by omega)]
        congr 1; omega
theorem crOf_some {l : List (Nat × Heap)} {k : Nat} (h : k < (flatRows l).length) : ∃ i, crOf l k = some i := by
  induction l generalizing k with
  | nil => simp [flatRows] at h
  | cons x l ih =>
    obtain ⟨j, N⟩ := x
    simp only [crOf]
    by_cases hk : k < N.length
    · exact ⟨j, by simp [hk]⟩
    · rw [if_neg hk]
      exact ih (by simp [flatRows] at h; omega)
theorem flatRows_append (l l2 : List (Nat × Heap)) : flatRows (l ++ l2) = flatRows l ++ flatRows l2 := by
  induction l with
  | nil => rfl
  | cons x l ih => obtain ⟨j, N⟩ := x; simp [flatRows, ih]
theorem mask_all {S : Nat → Bool} : ∀ {l : List (Nat × Heap)}, (∀ x ∈ l, S x.1 = true ∨ x.2 = []) → maskBy S l = flatRows l
  | [], _ => rfl
  | (j, N) :: l, h => by
    simp only [maskBy, flatRows]
    rw [mask_all fun x hx => h x (by simp [hx])]
    rcases h (j, N) (by simp) with h1 | h1
    · simp only at h1; rw [if_pos h1]
    · simp only at h1; subst h1; split <;> rfl
end Go.Abs
