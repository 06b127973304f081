/-
The abstract machine: rows to which a result does not lead are forgotten.
-/
import Derived.Test.YtnhmokgakpknlaaGreatDoorAb12
namespace Go.Abs
open Go

theorem VR.transfer {ρ ρ2 ρ' : Loc} (hρ : ∀ i L, ρ i = some L → ρ' i = ρ2 i) {x x1 : Value} (h : VR ρ x x1) : ∀ {x2 : Value}, VR ρ2 x x2 → VR ρ' x x2 := by
  have lists : ∀ {l l1 : Array Value}, l.size = l1.size → (∀ (k : Nat) (v v' : Value), l.toList[k]? = some v → l1.toList[k]? = some v' → ∀ {x2 : Value}, VR ρ2 v x2 → VR ρ' v x2) → ∀ {l2 : Array Value},
      (∀ (k : Nat) (v v' : Value), l.toList[k]? = some v → l2.toList[k]? = some v' → VR ρ2 v v') → ∀ (k : Nat) (v v' : Value), l.toList[k]? = some v → l2.toList[k]? = some v' → VR ρ' v v' := by
    intro l l1 hs ih l2 h2 k v v' hv hv'
    have hk : k < l1.toList.length := by
      have := (List.getElem?_eq_some_iff.1 hv).1
      simp at this ⊢; omega
    exact ih k v l1.toList[k] hv (List.getElem?_eq_getElem hk) (h2 k v v' hv hv')
  induction h with
  | atom h => intro x2 h2; rw [h2.atom_eq h]; exact .atom h
  | ptr h =>
    intro x2 h2
    obtain ⟨L2, hL2, rfl⟩ := h2.ptr_inv
    exact .ptr ((hρ _ _ h).trans hL2)
  | slice h hn hp hb =>
    intro x2 h2
    obtain ⟨L2, p, c', hL2, rfl, a1, a2, a3⟩ := h2.slice_inv
    exact .slice ((hρ _ _ h).trans hL2) a1 a2 a3
  | func hy hf hc hfs hcs ih1 ih2 =>
    intro x2 h2
    cases h2 with
    | atom h => simp [atomB] at h
    | func b1 b2 b3 b4 b5 => exact .func b1 b2 b3 (lists hf ih1 b4) (lists hc ih2 b5)
    | yield => simp [Fn.notYield] at hy
  | yield h =>
    intro x2 h2
    cases h2 with
    | atom h => simp [atomB] at h
    | func b1 => simp [Fn.notYield] at b1
    | yield h2 => exact .yield ((hρ _ _ h).trans h2)
  | map h =>
    intro x2 h2
    cases h2 with
    | atom h => simp [atomB] at h
    | map h2 => exact .map ((hρ _ _ h).trans h2)
  | iface h ih =>
    intro x2 h2
    cases h2 with
    | atom h => simp [atomB] at h
    | iface h2 => exact .iface (ih h2)
  | agg hs h ih =>
    intro x2 h2
    cases h2 with
    | atom h => simp [atomB] at h
    | agg b1 b2 => exact .agg b1 (lists hs ih b2)
  | tuple hs h ih =>
    intro x2 h2
    cases h2 with
    | atom h => simp [atomB] at h
    | tuple b1 b2 => exact .tuple b1 (lists hs ih b2)

theorem place_get {i j : Nat} : ∀ {l : List Nat}, place i l = some j → l[j]? = some i
  | [], h => by cases h
  | k :: l, h => by
    simp only [place] at h
    split at h
    · cases h; simp [*]
    · obtain ⟨m, hm, he⟩ := map_some h
      subst he
      simpa using place_get hm
theorem place_none {i : Nat} : ∀ {l : List Nat}, place i l = none → i ∉ l
  | [], _ => by simp
  | k :: l, h => by
    simp only [place] at h
    split at h
    · cases h
    · rename_i hne
      have : place i l = none := by
        cases hp : place i l with
        | none => rfl
        | some j => rw [hp] at h; cases h
      simp only [List.mem_cons, not_or]
      exact ⟨fun e => hne e.symm, place_none this⟩
theorem nodup_get : ∀ {l : List Nat}, nodupB l = true → ∀ (a b x : Nat), l[a]? = some x → l[b]? = some x → a = b
  | [], _, a, b, x, ha, _ => by simp at ha
  | k :: l, h, a, b, x, ha, hb => by
    simp only [nodupB, Bool.and_eq_true, Option.isNone_iff_eq_none] at h
    obtain ⟨h1, h2⟩ := h
    have hn := place_none h1
    cases a <;> cases b
    · rfl
    · simp at ha hb; subst ha; exact absurd (List.mem_of_getElem? hb) hn
    · simp at ha hb; subst hb; exact absurd (List.mem_of_getElem? ha) hn
    · simp at ha hb; rw [nodup_get h2 _ _ _ ha hb]

section
variable {s : Nat} {ids : List Nat} {ρ2 ρ' : Loc}

theorem cellRen_sound (h1 : ∀ i, i < s → ρ' i = ρ2 i) (h2 : ∀ i j, ids[j]? = some i → ρ' (s + j) = ρ2 i) {v v' c : Value} (h : cellRen s ids v = some v') (hv : VR ρ2 v c) : VR ρ' v' c := by
  unfold cellRen at h
  split at h
  · rename_i i o
    obtain ⟨L, hL, rfl⟩ := hv.ptr_inv
    split at h
    · rename_i hi
      cases h; exact .ptr ((h1 i hi).trans hL)
    · obtain ⟨j, hj, he⟩ := map_some h
      subst he
      exact .ptr ((h2 i j (place_get hj)).trans hL)
  · rename_i i o n cc
    obtain ⟨L, p, c', hL, rfl, a1, a2, a3⟩ := hv.slice_inv
    split at h
    · rename_i hi
      cases h; exact .slice ((h1 i hi).trans hL) a1 a2 a3
    · obtain ⟨j, hj, he⟩ := map_some h
      subst he
      exact .slice ((h2 i j (place_get hj)).trans hL) a1 a2 a3
  · split at h
    · rename_i ha
      cases h
      rw [hv.atom_eq ha]; exact .atom ha
    · cases h

theorem listRen_sound {f : Value → Option Value} (hf : ∀ v v' c, f v = some v' → VR ρ2 v c → VR ρ' v' c) : ∀ (l l' c : List Value), listRen f l = some l' → VRs ρ2 l c → VRs ρ' l' c
  | [], l', c, h, hv => by
    cases h
    cases c with
    | nil => exact VRs.nil _
    | cons x y => exact absurd hv.1 (by simp)
  | v :: l, l', c, h, hv => by
    obtain ⟨c1, c2, rfl, hv1, hv2⟩ := hv.uncons
    simp only [listRen] at h
    split at h
    · rename_i u us hu hus
      cases h
      exact VRs.cons (hf _ _ _ hu hv1) (listRen_sound hf l us c2 hus hv2)
    · cases h

theorem aggRen_sound (h1 : ∀ i, i < s → ρ' i = ρ2 i) (h2 : ∀ i j, ids[j]? = some i → ρ' (s + j) = ρ2 i) {v v' c : Value} (h : aggRen s ids v = some v') (hv : VR ρ2 v c) : VR ρ' v' c := by
  unfold aggRen at h
  split at h
  · obtain ⟨l, hl, he⟩ := map_some h
    subst he
    obtain ⟨c', rfl, hc⟩ := hv.agg_inv
    have := listRen_sound (fun v v' c a b => cellRen_sound h1 h2 a b) _ _ _ hl hc
    exact .agg (by simpa using this.1) (by simpa using this.2)
  · exact cellRen_sound h1 h2 h hv

theorem valRen_sound (h1 : ∀ i, i < s → ρ' i = ρ2 i) (h2 : ∀ i j, ids[j]? = some i → ρ' (s + j) = ρ2 i) {v v' c : Value} (h : valRen s ids v = some v') (hv : VR ρ2 v c) : VR ρ' v' c := by
  unfold valRen at h
  split at h
  · obtain ⟨l, hl, he⟩ := map_some h
    subst he
    obtain ⟨c', rfl, hc⟩ := hv.tuple_inv
    have := listRen_sound (fun v v' c a b => aggRen_sound h1 h2 a b) _ _ _ hl hc
    exact .tuple (by simpa using this.1) (by simpa using this.2)
  · exact aggRen_sound h1 h2 h hv
end

theorem kept_get {A : Heap} : ∀ {ids : List Nat} {R : Heap}, keptRows A ids = some R → R.length = ids.length ∧ ∀ k i, ids[k]? = some i → ∃ cs e u, hget A i = some (.cells cs e u) ∧ cs.all atomB = true ∧ hget R k = some (.cells cs e u)
  | [], R, h => by cases h; exact ⟨rfl, fun k i h => by simp at h⟩
  | i :: ids, R, h => by
    simp only [keptRows] at h
    split at h
    · rename_i cs e u R2 hg hk
      split at h
      · rename_i ha
        cases h
        obtain ⟨h1, h2⟩ := kept_get hk
        refine ⟨by simp [h1], fun k j hj => ?_⟩
        cases k with
        | zero => simp at hj; subst hj; exact ⟨cs, e, u, hg, ha, rfl⟩
        | succ k => obtain ⟨cs, e, u, a1, a2, a3⟩ := h2 k j (by simpa using hj); exact ⟨cs, e, u, a1, a2, by simpa [] using a3⟩
      · cases h
    · cases h

theorem hget_take (A : Heap) (s i : Nat) : hget (A.take s) i = if i < s then hget A i else none := by
  induction A generalizing s i with
  | nil => simp []
  | cons r A ih => cases s <;> cases i <;> simp [ih]

theorem cellIds_ge (s : Nat) (v : Value) : ∀ j ∈ cellIds s v, s ≤ j := by
  intro j hj
  unfold cellIds at hj
  split at hj
  · split at hj
    · simp at hj; omega
    · simp at hj
  · split at hj
    · simp at hj; omega
    · simp at hj
  · simp at hj
theorem aggIds_ge (s : Nat) (v : Value) : ∀ j ∈ aggIds s v, s ≤ j := by
  intro j hj
  unfold aggIds at hj
  split at hj
  · obtain ⟨x, _, hx⟩ := List.mem_flatMap.1 hj
    exact cellIds_ge s x j hx
  · exact cellIds_ge s _ j hj
theorem valIds_ge (s : Nat) (v : Value) : ∀ j ∈ valIds s v, s ≤ j := by
  intro j hj
  unfold valIds at hj
  split at hj
  · obtain ⟨x, _, hx⟩ := List.mem_flatMap.1 hj
    exact aggIds_ge s x j hx
  · exact aggIds_ge s _ j hj

theorem aGC_cases {A A2 A' : Heap} {v v' : Value} (h : aGC A v A2 = (v', A')) : (∃ R, valRen A.length (valIds A.length v) v = some v' ∧ keptRows A2 (valIds A.length v) = some R ∧ nodupB (valIds A.length v) = true ∧ A' = A ++ R) ∨ (v' = v ∧ A' = A2) := by
  unfold aGC at h
  split at h
  · rename_i u hren hk
    cases h
    have hl := (kept_get hk).1
    have : valIds A.length v = [] := List.length_eq_zero_iff.1 (by simpa using hl.symm)
    exact .inl ⟨[], hren, hk, by rw [this]; rfl, by simp⟩
  · rename_i u R hne hren hk
    split at h
    · rename_i hnd
      cases h
      exact .inl ⟨R, hren, hk, hnd, rfl⟩
    · cases h; exact .inr ⟨rfl, rfl⟩
  · cases h; exact .inr ⟨rfl, rfl⟩

/-- BEHIND A CALL: what the result does not lead to is forgotten. -/
theorem gc_sound {P : Program} {ρ ρ2 : Loc} {A A2 A' : Heap} {w w2 : World} {v v' c : Value} (hR : Rel P ρ A w) (hR2 : Rel P ρ2 A2 w2) (hM : Moves ρ A w ρ2 A2 w2) (hlen : A.length ≤ A2.length)
    (hkeep : ∀ i, i < A.length → hget A2 i = hget A i) (hv : VR ρ2 v c) (h : aGC A v A2 = (v', A')) : ∃ ρ', VR ρ' v' c ∧ Rel P ρ' A' w2 ∧ Moves ρ A w ρ' A' w2 := by
  rcases aGC_cases h with ⟨R, hren, hkept, hnd, hA'⟩ | ⟨hv', hA'⟩
  · subst hA'
    · obtain ⟨hRl, hRg⟩ := kept_get hkept
      have hge := valIds_ge A.length v
      generalize valIds A.length v = ids at *
      let ρ' : Loc := fun i => if i < A.length then ρ2 i else match ids[i - A.length]? with | some j => ρ2 j | none => none
      have e1 : ∀ i, i < A.length → ρ' i = ρ2 i := fun i hi => by simp [ρ', hi]
      have e2 : ∀ i j, ids[j]? = some i → ρ' (A.length + j) = ρ2 i := fun i j hj => by
        have : ¬ A.length + j < A.length := by omega
        simp only [ρ', if_neg this, Nat.add_sub_cancel_left, hj]
      have getA : ∀ i r, hget (A ++ R) i = some r → (i < A.length ∧ hget A i = some r ∧ hget A2 i = some r) ∨ (∃ k j, i = A.length + k ∧ ids[k]? = some j ∧ hget A2 j = some r ∧ ∃ cs e u, r = .cells cs e u ∧ cs.all atomB = true) := by
        intro i r hi
        rw [hget_append] at hi
        split at hi
        · rename_i hlt
          exact .inl ⟨hlt, hi, by rw [hkeep i hlt]; exact hi⟩
        · rename_i hge
          have hk : i - A.length < R.length := hget_lt hi
          have hk' : i - A.length < ids.length := by omega
          obtain ⟨cs, e, u, a1, a2, a3⟩ := hRg (i - A.length) ids[i - A.length] (List.getElem?_eq_getElem hk')
          rw [a3] at hi; cases hi
          exact .inr ⟨i - A.length, _, by omega, List.getElem?_eq_getElem hk', a1, cs, e, u, rfl, a2⟩
      have trans : ∀ {x x1 x2 : Value}, VR ρ x x1 → VR ρ2 x x2 → VR ρ' x x2 := fun h1 h2 => VR.transfer (fun i L hi => e1 i (by
        rcases Nat.lt_or_ge i A.length with h | h
        · exact h
        · rw [hR.sup i h] at hi; cases hi)) h1 h2
      refine ⟨ρ', valRen_sound e1 e2 hren hv, ⟨?_, ?_, ?_, ?_⟩, ⟨?_, by simp only [List.length_append]; omega, fun i hi => (e1 i hi).trans (hM.same i hi), hM.size, hM.frame, ?_, hM.out, hM.loops⟩⟩
      · intro i hi
        simp only [List.length_append, hRl] at hi
        have h1 : ¬ i < A.length := by omega
        have h2 : ids[i - A.length]? = none := List.getElem?_eq_none (by omega)
        simp only [ρ', if_neg h1, h2]
      · intro i r hi
        rcases getA i r hi with ⟨hlt, _, h2⟩ | ⟨k, j, rfl, hj, hg, _⟩
        · rw [e1 i hlt]; exact hR2.has i r h2
        · rw [e2 j k hj]; exact hR2.has j r hg
      · intro i r L hi hL
        rcases getA i r hi with ⟨hlt, h1, h2⟩ | ⟨k, j, rfl, hj, hg, cs, e, u, rfl, ha⟩
        · rw [e1 i hlt] at hL
          have hr2 := hR2.row i r L h2 hL
          obtain ⟨L1, hL1, hr1⟩ := hR.found h1
          cases r with
          | cells cs e use =>
            obtain ⟨cs', e', fz, b1, b2, b3, b4⟩ := hr2
            obtain ⟨ds', d', dz, c1, c2, c3, c4⟩ := hr1
            exact ⟨cs', e', fz, b1, fun o x hx => let ⟨x2, y1, y2⟩ := b2 o x hx; let ⟨x1, _, z2⟩ := c2 o x hx; ⟨x2, y1, trans z2 y2⟩, b3, b4⟩
          | iter s p => exact hr2
          | loop =>
            obtain ⟨t2, f2, d2, b1, b2, b3⟩ := hr2
            obtain ⟨t1, f1, d1, c1, c2, _⟩ := hr1
            exact ⟨t2, f2, d2, b1, fun k => trans (c2 k) (b2 k), b3⟩
          | map =>
            obtain ⟨es2, b1, b2, b3⟩ := hr2
            obtain ⟨es1, c1, c2, c3⟩ := hr1
            exact ⟨es2, b1, b2, fun k key val born hk => let ⟨e2, y1, y2, y3, y4⟩ := b3 k key val born hk; let ⟨e1, _, _, _, z4⟩ := c3 k key val born hk; ⟨e2, y1, y2, y3, trans z4 y4⟩⟩
        · rw [e2 j k hj] at hL
          obtain ⟨cs', e', fz, b1, b2, b3, b4⟩ := hR2.row j _ L hg hL
          exact ⟨cs', e', fz, b1, fun o x hx => by
            obtain ⟨x2, y1, y2⟩ := b2 o x hx
            have hax := List.all_eq_true.1 ha x (List.mem_of_getElem? hx)
            exact ⟨x2, y1, by rw [y2.atom_eq hax]; exact .atom hax⟩, b3, b4⟩
      · intro i j r q L M hi hj hL hM' hne hr
        rcases getA i r hi with ⟨hlt, _, h2⟩ | ⟨k, i', rfl, hi', hg, cs, e, u, rfl, ha⟩ <;> rcases getA j q hj with ⟨hlt', _, h2'⟩ | ⟨k', j', rfl, hj', hg', cs', e', u', rfl, ha'⟩
        · rw [e1 i hlt] at hL; rw [e1 j hlt'] at hM'
          exact hR2.sep i j r q L M h2 h2' hL hM' hne hr
        · rw [e1 i hlt] at hL; rw [e2 _ _ hj'] at hM'
          exact hR2.sep i j' r _ L M h2 hg' hL hM' (by have := hge j' (List.mem_of_getElem? hj'); omega) hr
        · rw [e2 _ _ hi'] at hL; rw [e1 j hlt'] at hM'
          exact hR2.sep i' j _ q L M hg h2' hL hM' (by have := hge i' (List.mem_of_getElem? hi'); omega) hr
        · rw [e2 _ _ hi'] at hL; rw [e2 _ _ hj'] at hM'
          exact hR2.sep i' j' _ _ L M hg hg' hL hM' (fun e => hne (by subst e; rw [nodup_get hnd k k' i' hi' hj'])) hr
      · intro i L hi
        have hlt : i < A.length := by
          rcases Nat.lt_or_ge i A.length with h | h
          · exact h
          · rw [hR.sup i h] at hi; cases hi
        rw [e1 i hlt]; exact hM.pre i L hi
      · intro i r L hi hL
        rcases getA i r hi with ⟨hlt, h1, h2⟩ | ⟨k, j, rfl, hj, hg, _⟩
        · exact .inl ⟨hlt, r, h1, id⟩
        · rw [e2 _ _ hj] at hL
          rcases hM.rows j r L hg hL with ⟨hlt, _⟩ | h2 | h2
          · have := hge j (List.mem_of_getElem? hj); omega
          · exact .inr (.inl h2)
          · exact .inr (.inr h2)
  · subst hv'; subst hA'; exact ⟨ρ2, hv, hR2, hM⟩
end Go.Abs
