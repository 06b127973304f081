/-
The abstract machine: contracts that are known.
-/
import Derived.Test.YtnhmokgakpknlaaGreatDoorAb22
import Derived.Test.YtnhmokgakpknlaaGreatDoorAb26
namespace Go.Abs
open Go

/-- E with contracts of its own. -/
def Env.with (E : Env) (K : Nat → FuncId → List Value → Heap → Option (Value × Heap)) : Env :=
  { impure := E.impure, known := fun lim f args A => match K lim f args A with
    | some r => some r
    | none => E.known lim f args A }

theorem env_with {P : Program} {G : Nat} {E : Env} {K : Nat → FuncId → List Value → Heap → Option (Value × Heap)} (hP : ProgOK P G) (hE : EnvOK P G E) (hK : ∀ lim f args A r, K lim f args A = some r → Gives P E lim f args A r) : EnvOK P G (E.with K) := by
  refine ⟨?_, ?_⟩
  · intro lim f args A v A' h
    simp only [Env.with] at h
    split at h
    · rename_i r hr
      cases h
      obtain ⟨n, hn⟩ := hK _ _ _ _ _ hr
      exact (call_sound hP hE n).says lim f args A v A' hn
    · exact hE.says lim f args A v A' h
  · intro lim f args A v A' h
    simp only [Env.with] at h
    split at h
    · rename_i r hr
      cases h
      obtain ⟨n, hn⟩ := hK _ _ _ _ _ hr
      exact (call_sound hP hE n).keeps lim f args A v A' hn
    · exact hE.keeps lim f args A v A' h

/-- A heap of tables: rows that are read alone, of values without addresses. -/
def tableRow : Option ARow → Bool
  | none => true
  | some (.cells cs _ .ro) => cs.all atomB
  | _ => false
/-- The rows of H are those of A, as far as whole numbers go. -/
def intEq : Value → Value → Bool
  | .int j a, .int k b => j == k && a == b
  | _, _ => false
def intsEq : List Value → List Value → Bool
  | [], [] => true
  | a :: l, b :: l' => intEq a b && intsEq l l'
  | _, _ => false
def rowEq : Option ARow → Option ARow → Bool
  | none, _ => true
  | some (.cells cs e .ro), some (.cells cs' e' .ro) => e == e' && intsEq cs cs'
  | _, _ => false
def startsB : Heap → Heap → Bool
  | [], _ => true
  | x :: H, y :: A => rowEq x y && startsB H A
  | _, _ => false
theorem intsEq_eq : ∀ {l l' : List Value}, intsEq l l' = true → l = l'
  | [], [], _ => rfl
  | a :: l, b :: l', h => by
    simp only [intsEq, Bool.and_eq_true] at h
    have h1 : a = b := by
      have h0 := h.1
      unfold intEq at h0
      split at h0
      · simp only [Bool.and_eq_true, beq_iff_eq] at h0; rw [h0.1, h0.2]
      · cases h0
    rw [h1, intsEq_eq h.2]
  | [], _ :: _, h => by cases h
  | _ :: _, [], h => by cases h
theorem rowEq_eq {x y : Option ARow} (h : rowEq x y = true) {r : ARow} (hx : x = some r) : y = some r := by
  subst hx
  unfold rowEq at h
  split at h
  · rename_i hh; cases hh
  · rename_i hh
    cases hh
    simp only [Bool.and_eq_true, beq_iff_eq] at h; rw [h.1, intsEq_eq h.2]
  · cases h
theorem startsB_get : ∀ {H A : Heap}, startsB H A = true → H.length ≤ A.length ∧ ∀ i r, hget H i = some r → hget A i = some r
  | [], A, _ => ⟨by simp, fun i r hi => by simp at hi⟩
  | x :: H, [], h => by cases h
  | x :: H, y :: A, h => by
    simp only [startsB, Bool.and_eq_true] at h
    obtain ⟨h1, h2⟩ := startsB_get h.2
    refine ⟨by simp [h1], fun i r hi => ?_⟩
    cases i with
    | zero => simp at hi ⊢; exact rowEq_eq h.1 hi
    | succ i => simp at hi ⊢; exact h2 i r hi

/-- A CALL WITHOUT ADDRESSES THAT LOOKS AT TABLES ALONE. -/
theorem base_says {P : Program} {H A : Heap} {ρ : Loc} {w : World} {f : FuncId} {args args' : List Value} {v : Value} {G : Nat} (hgl : G ≤ H.length) (hH : H.all tableRow = true) (hs : startsB H A = true) (ha : args.all freeB = true) (hv : freeB v = true)
    (hsay : ∀ ρ w args', VRs ρ args args' → Globs ρ G → Rel P ρ H w → CallSays P ρ H w f args' v H) (hargs : VRs ρ args args') (hG : Globs ρ G) (hR : Rel P ρ A w) : CallSays P ρ A w f args' v A := by
  obtain ⟨hlen, hget'⟩ := startsB_get hs
  let ρg : Loc := fun i => if i < H.length then ρ i else none
  have hρ : ∀ {i L}, ρg i = some L → i < H.length ∧ ρ i = some L := by
    intro i L h
    simp only [ρg] at h
    split at h
    · exact ⟨‹_›, h⟩
    · cases h
  have hρ' : ∀ {i}, i < H.length → ρg i = ρ i := fun h => by simp [ρg, h]
  have row : ∀ {i r}, hget H i = some r → ∃ cs e, r = .cells cs e .ro ∧ cs.all atomB = true := by
    intro i r hi
    have := List.all_eq_true.1 hH (some r) (List.mem_of_getElem? ((hget_eq H i r).1 hi))
    unfold tableRow at this
    split at this
    · rename_i h; cases h
    · rename_i cs e h; cases h; exact ⟨cs, e, rfl, this⟩
    · cases this
  have hRg : Rel P ρg H w := by
    refine ⟨fun i hi => by simp [ρg, Nat.not_lt.2 hi], fun i r hi => ?_, fun i r L hi hL => ?_, fun i j r s L M hi _ _ _ _ hr => ?_⟩
    · have hlt := hget_lt hi
      obtain ⟨L, hL⟩ := hR.has i r (hget' i _ hi)
      exact ⟨L, (hρ' hlt).trans hL⟩
    · have hlt := hget_lt hi
      obtain ⟨cs, e, rfl, hat⟩ := row hi
      obtain ⟨cs', e', fz, b1, b2, b3⟩ := hR.row i _ L (hget' i _ hi) (hρ hL).2
      exact ⟨cs', e', fz, b1, fun o x hx => let ⟨x', y1, y2⟩ := b2 o x hx; ⟨x', y1, by
        have hax := List.all_eq_true.1 hat x (List.mem_of_getElem? hx)
        rw [y2.atom_eq hax]; exact .atom hax⟩, b3⟩
    · obtain ⟨cs, e, rfl, _⟩ := row hi
      simp [ARow.isOwn] at hr
  have hno : ∀ b, ¬ OwnIn ρg H b := by
    rintro b ⟨i, r, L, hi, _, hr, _⟩
    obtain ⟨cs, e, rfl, _⟩ := row hi
    simp [ARow.isOwn] at hr
  have free_all : ∀ {l l' : List Value} {ρ1 ρ2 : Loc}, VRs ρ1 l l' → l.all freeB = true → VRs ρ2 l l' := by
    intro l
    induction l with
    | nil => intro l' ρ1 ρ2 h _; cases l' with
      | nil => exact VRs.nil _
      | cons x y => exact absurd h.1 (by simp)
    | cons x l ih =>
      intro l' ρ1 ρ2 h ha
      obtain ⟨y, l2, rfl, h1, h2⟩ := h.uncons
      simp only [List.all_cons, Bool.and_eq_true] at ha
      rw [h1.free_eq ha.1]
      exact VRs.cons (VR.refl _ ha.1) (ih h2 ha.2)
  have hGg : Globs ρg G := fun g hg => by
    obtain ⟨e, f, h⟩ := hG g hg
    exact ⟨e, f, (hρ' (by omega)).trans h⟩
  -- the other rows stay
  have back : ∀ {v' : Value} {w' : World} {ρ1 : Loc}, VR ρ1 v v' → Rel P ρ1 H w' → Moves ρg H w ρ1 H w' → VR ρ v v' ∧ Rel P ρ A w' ∧ Moves ρ A w ρ A w' := by
    intro v' w' ρ1 hvr hR1 hM
    refine ⟨by rw [hvr.free_eq hv]; exact VR.refl _ hv, ⟨hR.sup, hR.has, fun i r L hi hL => ?_, hR.sep⟩, Ext.refl _, Nat.le_refl _, fun _ _ => rfl, hM.size, fun b hb _ => hM.frame b hb (hno b), fun i r L hi _ => .inl ⟨hget_lt hi, r, hi, id⟩, hM.out, hM.loops⟩
    have h0 := hR.row i r L hi hL
    exact h0.move (Ext.refl _) (hM.frame _ h0.lt (hno _))
  rcases hsay ρg w args' (free_all hargs ha) hGg hRg with ⟨v', w', ρ1, h1, h2, h3, h4⟩ | ⟨h1, h2⟩
  · obtain ⟨g1, g2, g3⟩ := back h2 h3 h4
    exact .inl ⟨v', w', ρ, h1, g1, g2, g3⟩
  · refine .inr ⟨h1, h2.mono ?_⟩
    rintro e w' ⟨v', ρ1, rfl, h3, h4, h5⟩
    obtain ⟨g1, g2, g3⟩ := back h3 h4 h5
    exact ⟨v', ρ, rfl, g1, g2, g3⟩

/-- Contracts of calls that look at tables alone: of a function and its arguments: the tables that are looked at, and the result. -/
def baseKnown (B : FuncId → List Value → Option (Heap × Value)) : Nat → FuncId → List Value → Heap → Option (Value × Heap) := fun _ f args A =>
  match B f args with
  | some (H, v) => if args.all freeB && freeB v && startsB H A then some (v, A) else none
  | none => none
theorem env_base {P : Program} {G : Nat} {E : Env} {B : FuncId → List Value → Option (Heap × Value)} (hP : ProgOK P G) (hE : EnvOK P G E) (hB : ∀ f args H v, B f args = some (H, v) → G ≤ H.length ∧ H.all tableRow = true ∧ Gives P E 0 f args H (v, H)) :
    EnvOK P G (E.with (baseKnown B)) := by
  refine ⟨?_, ?_⟩
  · intro lim f args A v A' h
    simp only [Env.with] at h
    split at h
    · rename_i r hr
      cases h
      unfold baseKnown at hr
      split at hr
      · rename_i H u hu
        split at hr
        · rename_i hc
          cases hr
          simp only [Bool.and_eq_true] at hc
          obtain ⟨hgl, hH, n, hn⟩ := hB f args H _ hu
          exact fun ρ w args' hargs hG hR => base_says hgl hH hc.2 hc.1.1 hc.1.2 (fun ρ w args' => (call_sound hP hE n).says 0 f args H _ H hn ρ w args') hargs hG hR
        · cases hr
      · cases hr
    · exact hE.says lim f args A v A' h
  · intro lim f args A v A' h
    simp only [Env.with] at h
    split at h
    · rename_i r hr
      cases h
      unfold baseKnown at hr
      split at hr
      · split at hr
        · cases hr; exact Keeps.refl _ _
        · cases hr
      · cases hr
    · exact hE.keeps lim f args A v A' h
end Go.Abs
