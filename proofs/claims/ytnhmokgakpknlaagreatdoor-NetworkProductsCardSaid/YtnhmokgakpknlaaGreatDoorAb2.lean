/-
The abstract machine: how its rows go on when the world's memory is read, written, or made.
-/
import Derived.Test.YtnhmokgakpknlaaGreatDoorAb1
import Derived.Laws.Tables
import Derived.Laws.CopyRow
import Derived.Laws.Append
import Derived.Laws.AppendOwn
import Derived.Laws.MakeOwn
import Derived.Lib.FrozenHead
namespace Go.Abs
open Go

theorem RowOK.lt {P : Program} {ρ : Loc} {w : World} {L : L4} {r : ARow} (h : RowOK P ρ w L r) : L.blk < w.heap.size := by
  cases r with
  | cells cs e use => obtain ⟨cs', e', fz, hb, _⟩ := h; exact (Array.getElem?_eq_some_iff.1 hb).1
  | iter s pos => exact (Array.getElem?_eq_some_iff.1 h.1).1
  | loop => obtain ⟨_, _, _, hb, _⟩ := h; exact (Array.getElem?_eq_some_iff.1 hb).1
  | map => obtain ⟨_, hb, _⟩ := h; exact (Array.getElem?_eq_some_iff.1 hb).1
theorem RowOK.move {P : Program} {ρ ρ' : Loc} {w w' : World} {L : L4} {r : ARow} (h : RowOK P ρ w L r) (hp : Ext ρ ρ') (hw : w'.heap[L.blk]? = w.heap[L.blk]?) : RowOK P ρ' w' L r := by
  cases r with
  | cells cs e use =>
    obtain ⟨cs', e', fz, hb, hc, ho⟩ := h
    exact ⟨cs', e', fz, hw.trans hb, fun o v hv => let ⟨v', a, b⟩ := hc o v hv; ⟨v', a, b.mono hp⟩, ho⟩
  | iter s pos => exact ⟨hw.trans h.1, h.2⟩
  | loop => obtain ⟨t, f, d, hb, ht, ho⟩ := h; exact ⟨t, f, d, hw.trans hb, fun k => (ht k).mono hp, ho⟩
  | map => obtain ⟨es, hb, hs, he⟩ := h; exact ⟨es, hw.trans hb, hs, fun k key val born hk => let ⟨e, a, b, c, d⟩ := he k key val born hk; ⟨e, a, b, c, d.mono hp⟩⟩
theorem RowOK.loop_iff {P : Program} {ρ : Loc} {w : World} {L : L4} {r : ARow} (h : RowOK P ρ w L r) : IsLoop w L.blk ↔ r.isLoop = true := by
  cases r with
  | cells cs e use => obtain ⟨_, _, _, hb, _⟩ := h; simp [IsLoop, hb, ARow.isLoop]
  | iter s pos => simp [IsLoop, h.1, ARow.isLoop]
  | loop => obtain ⟨_, _, _, hb, _⟩ := h; simp [IsLoop, hb, ARow.isLoop]
  | map => obtain ⟨_, hb, _⟩ := h; simp [IsLoop, hb, ARow.isLoop]
theorem IsLoop.of_eq {w w' : World} {b : Nat} (h : w'.heap[b]? = w.heap[b]?) (hl : IsLoop w b) : IsLoop w' b := let ⟨r, hr⟩ := hl; ⟨r, h.trans hr⟩

theorem Rel.found {P : Program} {ρ : Loc} {A : Heap} {w : World} (h : Rel P ρ A w) {i : Nat} {r : ARow} (hi : hget A i = some r) : ∃ L, ρ i = some L ∧ RowOK P ρ w L r := by
  obtain ⟨L, hL⟩ := h.has i r hi
  exact ⟨L, hL, h.row i r L hi hL⟩
theorem Rel.row' {P : Program} {ρ : Loc} {A : Heap} {w : World} (h : Rel P ρ A w) {i : Nat} {r : ARow} {L : L4} (hL : ρ i = some L) (hi : hget A i = some r) : RowOK P ρ w L r := h.row i r L hi hL

theorem Rel.heap {P : Program} {ρ : Loc} {A : Heap} {w w' : World} (h : Rel P ρ A w) (hw : w'.heap = w.heap) (hout : w'.os = w.os ∧ w'.output = w.output := by exact ⟨rfl, rfl⟩) : Rel P ρ A w' ∧ Moves ρ A w ρ A w' :=
  ⟨⟨h.sup, h.has, fun i r L hi hL => (h.row i r L hi hL).move (Ext.refl _) (by rw [hw]), h.sep⟩, Ext.refl _, Nat.le_refl _, fun _ _ => rfl, by rw [hw]; exact Nat.le_refl _, fun b _ _ => by rw [hw], fun i r _ hi _ => .inl ⟨hget_lt hi, r, hi, id⟩, hout, fun b hb => hb.of_eq (by rw [hw])⟩

theorem put_inv {ρ : Loc} {n : Nat} {L M : L4} {i : Nat} (h : ρ.put n L i = some M) : (i ≠ n ∧ ρ i = some M) ∨ (i = n ∧ M = L) := by
  unfold Loc.put at h
  split at h
  · cases h; exact .inr ⟨‹_›, rfl⟩
  · exact .inl ⟨‹_›, h⟩
theorem hget_snoc {A : Heap} {x : Option ARow} {i : Nat} {r : ARow} (h : hget (A ++ [x]) i = some r) : (i < A.length ∧ hget A i = some r) ∨ (i = A.length ∧ x = some r) := by
  rw [hget_append] at h
  split at h
  · exact .inl ⟨‹_›, h⟩
  · cases hk : i - A.length with
    | zero => rw [hk] at h; exact .inr ⟨by omega, h⟩
    | succ k => rw [hk] at h; simp [] at h

/-- A NEW BLOCK. -/
theorem Rel.alloc {P : Program} {ρ : Loc} {A : Heap} {w : World} (h : Rel P ρ A w) {o : Obj} {r : ARow} {esz fin : Nat}
    (hr : RowOK P (ρ.put A.length ⟨w.heap.size, 0, esz, fin⟩) (w.alloc o) ⟨w.heap.size, 0, esz, fin⟩ r) :
    Rel P (ρ.put A.length ⟨w.heap.size, 0, esz, fin⟩) (A ++ [some r]) (w.alloc o) ∧ Moves ρ A w (ρ.put A.length ⟨w.heap.size, 0, esz, fin⟩) (A ++ [some r]) (w.alloc o) := by
  have hx : Ext ρ (ρ.put A.length ⟨w.heap.size, 0, esz, fin⟩) := Ext.put (h.sup _ (Nat.le_refl _)) _
  have old : ∀ b, b < w.heap.size → (w.alloc o).heap[b]? = w.heap[b]? := fun b hb => heap_alloc_old w o b hb
  have get : ∀ i q L, hget (A ++ [some r]) i = some q → ρ.put A.length ⟨w.heap.size, 0, esz, fin⟩ i = some L → (i < A.length ∧ hget A i = some q ∧ ρ i = some L) ∨ (i = A.length ∧ q = r ∧ L = ⟨w.heap.size, 0, esz, fin⟩) := by
    intro i q L hi hL
    rcases hget_snoc hi with ⟨hlt, hi⟩ | ⟨e, hx⟩
    · rcases put_inv hL with ⟨_, hL⟩ | ⟨h1, _⟩
      · exact .inl ⟨hlt, hi, hL⟩
      · omega
    · rcases put_inv hL with ⟨h1, _⟩ | ⟨_, e2⟩
      · exact absurd e h1
      · cases hx; exact .inr ⟨e, rfl, e2⟩
  refine ⟨⟨?_, ?_, ?_, ?_⟩, hx, by simp, fun i hi => by simp [Loc.put, Nat.ne_of_lt hi], by simp, fun b hb _ => old b hb, ?_, ⟨rfl, rfl⟩, fun b hb => hb.of_eq (old b (let ⟨_, hr⟩ := hb; (Array.getElem?_eq_some_iff.1 hr).1))⟩
  · intro i hi
    simp at hi
    have : ¬ i = A.length := by omega
    simp [Loc.put, this, h.sup i (by omega)]
  · intro i q hi
    rcases hget_snoc hi with ⟨hlt, hi⟩ | ⟨rfl, _⟩
    · obtain ⟨L, hL⟩ := h.has i q hi
      exact ⟨L, hx i L hL⟩
    · exact ⟨_, Loc.put_self _ _ _⟩
  · intro i q L hi hL
    rcases get i q L hi hL with ⟨_, hi, hL⟩ | ⟨_, rfl, rfl⟩
    · have := h.row i q L hi hL
      exact this.move hx (old _ this.lt)
    · exact hr
  · intro i j q s L M hi hj hL hM hne hq
    rcases get i q L hi hL with ⟨_, hi1, hL1⟩ | ⟨e1, e2, e3⟩ <;> rcases get j s M hj hM with ⟨_, hj1, hM1⟩ | ⟨f1, f2, f3⟩
    · exact h.sep i j q s L M hi1 hj1 hL1 hM1 hne hq
    · have := (h.row i q L hi1 hL1).lt
      rw [f3]; simp only; omega
    · have := (h.row j s M hj1 hM1).lt
      rw [e3]; simp only; omega
    · omega
  · intro i q L hi hL
    rcases get i q L hi hL with ⟨hlt, hi1, hL1⟩ | ⟨e1, e2, e3⟩
    · exact .inl ⟨hlt, q, hi1, id⟩
    · rw [e3]; exact .inr (.inl (Nat.le_refl _))

/-- AN OWN ROW TURNS. -/
theorem Rel.setOwn {P : Program} {ρ : Loc} {A : Heap} {w w' : World} (h : Rel P ρ A w) {i : Nat} {q q' : ARow} {L : L4}
    (hi : hget A i = some q) (own : q.isOwn = true) (own' : q'.isOwn = true) (hL : ρ i = some L) (hnew : RowOK P ρ w' L q') (hother : ∀ b, b ≠ L.blk → w'.heap[b]? = w.heap[b]?) (hsz : w'.heap.size = w.heap.size) (hout : w'.os = w.os ∧ w'.output = w.output := by exact ⟨rfl, rfl⟩) (hk : q.isLoop = true → q'.isLoop = true := by intro h; cases h) :
    Rel P ρ (hset A i (some q')) w' ∧ Moves ρ A w ρ (hset A i (some q')) w' := by
  have get : ∀ j r, hget (hset A i (some q')) j = some r → (j = i ∧ r = q') ∨ (j ≠ i ∧ hget A j = some r) := by
    intro j r hj
    rw [hget_hset] at hj
    split at hj
    · rename_i hh; obtain ⟨rfl, _⟩ := hh; cases hj; exact .inl ⟨rfl, rfl⟩
    · rename_i hh
      refine .inr ⟨fun e => hh ⟨e.symm, ?_⟩, hj⟩
      exact hget_lt hj
  refine ⟨⟨fun k hk => h.sup k (by simpa using hk), fun j r hj => ?_, ?_, ?_⟩, Ext.refl _, by simp, fun _ _ => rfl, by omega, ?_, ?_, hout, ?_⟩
  · rcases get j r hj with ⟨rfl, rfl⟩ | ⟨hne, hj⟩
    · exact ⟨L, hL⟩
    · exact h.has j r hj
  · intro j r M hj hM
    rcases get j r hj with ⟨rfl, rfl⟩ | ⟨hne, hj⟩
    · rw [hL] at hM; cases hM; exact hnew
    · have hrow := h.row j r M hj hM
      exact hrow.move (Ext.refl _) (hother _ (fun e => h.sep i j _ r L M hi hj hL hM (Ne.symm hne) own e.symm))
  · intro j k r s M N hj hk hM hN hne hr
    rcases get j r hj with ⟨e1, e2⟩ | ⟨hnj, hj1⟩ <;> rcases get k s hk with ⟨f1, f2⟩ | ⟨hnk, hk1⟩
    · exact absurd (e1.trans f1.symm) hne
    · subst e1; exact h.sep j k _ s M N hi hk1 hM hN hne own
    · subst f1; exact h.sep j k r _ M N hj1 hi hM hN hne hr
    · exact h.sep j k r s M N hj1 hk1 hM hN hne hr
  · intro b _ hn
    exact hother b fun e => hn ⟨i, _, L, hi, hL, own, e.symm⟩
  · intro j r M hj hM
    rcases get j r hj with ⟨e1, _⟩ | ⟨hnj, hj⟩
    · subst e1; exact .inl ⟨hget_lt hi, q, hi, fun _ => own⟩
    · exact .inl ⟨hget_lt hj, r, hj, id⟩
  · intro b hb
    by_cases e : b = L.blk
    · subst e; exact hnew.loop_iff.2 (hk ((h.row i q L hi hL).loop_iff.1 hb))
    · exact hb.of_eq (hother b e)

/-- CELLS OF AN OWN ROW ARE WRITTEN. -/
theorem Rel.setRow {P : Program} {ρ : Loc} {A : Heap} {w : World} (h : Rel P ρ A w) {i : Nat} {cs cs2 : List Value} {e : TypeId} {use : Use} {L : L4} {cs' cs2' : Array Value} {w' : World} {fz : Nat × Nat}
    (hi : hget A i = some (.cells cs e use)) (hu : use ≠ .ro) (hL : ρ i = some L) (hw : w.heap[L.blk]? = some (.cells cs' e fz)) (hnew : w'.heap[L.blk]? = some (.cells cs2' e fz)) (hother : ∀ b, b ≠ L.blk → w'.heap[b]? = w.heap[b]?) (hsz : w'.heap.size = w.heap.size) (hs : cs2'.size = cs'.size)
    (hc : ∀ (o : Nat) (v : Value), cs2[o]? = some v → ∃ v', cs2'[o]? = some v' ∧ VR ρ v v') (hout : w'.os = w.os ∧ w'.output = w.output := by exact ⟨rfl, rfl⟩) :
    Rel P ρ (hset A i (some (.cells cs2 e use))) w' ∧ Moves ρ A w ρ (hset A i (some (.cells cs2 e use))) w' := by
  have own : ∀ cs, ARow.isOwn (.cells cs e use) = true := fun cs => by cases use <;> simp_all [ARow.isOwn]
  obtain ⟨c0, e0, f0, hb, _, ho', ho⟩ := h.row i _ L hi hL
  rw [hw] at hb; cases hb
  obtain ⟨_, o2, o3, o4, o5⟩ := ho hu
  exact h.setOwn hi (own _) (own _) hL ⟨cs2', e, fz, hnew, fun o v hv => by rw [o2, Nat.zero_add]; exact hc o v hv, ho', fun _ => ⟨rfl, o2, by rw [hs]; exact o3, by rw [o4, hs], o5⟩⟩ hother hsz hout (by intro h; cases h)

/-- AN OWN ROW IS GIVEN UP, AND A NEW NUMBER STANDS FOR ITS BLOCK. -/
theorem Rel.renew {P : Program} {ρ : Loc} {A : Heap} {w : World} (h : Rel P ρ A w) {i : Nat} {cs : List Value} {e : TypeId} {use : Use} {L : L4}
    (hi : hget A i = some (.cells cs e use)) (hu : use ≠ .ro) (hL : ρ i = some L) :
    Rel P (ρ.put A.length L) (hset A i none ++ [some (.cells cs e use)]) w ∧ Moves ρ A w (ρ.put A.length L) (hset A i none ++ [some (.cells cs e use)]) w := by
  have hx : Ext ρ (ρ.put A.length L) := Ext.put (h.sup _ (Nat.le_refl _)) _
  have own : ARow.isOwn (.cells cs e use) = true := by cases use <;> simp_all [ARow.isOwn]
  have get0 : ∀ j r, hget (hset A i none ++ [some (.cells cs e use)]) j = some r → (j = A.length ∧ r = .cells cs e use) ∨ (j ≠ i ∧ j < A.length ∧ hget A j = some r) := by
    intro j r hj
    rcases hget_snoc hj with ⟨hlt, hj⟩ | ⟨rfl, hx⟩
    · rw [hset_length] at hlt
      rw [hget_hset] at hj
      split at hj
      · cases hj
      · rename_i hh
        exact .inr ⟨fun e => hh ⟨e.symm, hlt⟩, hlt, hj⟩
    · cases hx; exact .inl ⟨by simp, rfl⟩
  have get : ∀ j r M, hget (hset A i none ++ [some (.cells cs e use)]) j = some r → ρ.put A.length L j = some M →
      (j = A.length ∧ r = .cells cs e use ∧ M = L) ∨ (j ≠ i ∧ j ≠ A.length ∧ hget A j = some r ∧ ρ j = some M) := by
    intro j r M hj hM
    rcases get0 j r hj with ⟨e1, e2⟩ | ⟨h1, h2, h3⟩
    · rcases put_inv hM with ⟨h1, _⟩ | ⟨_, e3⟩
      · exact absurd e1 h1
      · exact .inl ⟨e1, e2, e3⟩
    · rcases put_inv hM with ⟨_, hM⟩ | ⟨h4, _⟩
      · exact .inr ⟨h1, by omega, h3, hM⟩
      · omega
  refine ⟨⟨?_, ?_, ?_, ?_⟩, hx, by simp, fun k hk => by simp [Loc.put, Nat.ne_of_lt hk], Nat.le_refl _, fun _ _ _ => rfl, ?_, ⟨rfl, rfl⟩, fun _ h => h⟩
  · intro k hk
    simp at hk
    have : ¬ k = A.length := by omega
    simp [Loc.put, this, h.sup k (by omega)]
  · intro j r hj
    rcases get0 j r hj with ⟨rfl, _⟩ | ⟨_, _, hj⟩
    · exact ⟨L, Loc.put_self _ _ _⟩
    · obtain ⟨M, hM⟩ := h.has j r hj
      exact ⟨M, hx j M hM⟩
  · intro j r M hj hM
    rcases get j r M hj hM with ⟨rfl, rfl, rfl⟩ | ⟨_, _, hj, hM⟩
    · exact (h.row i _ M hi hL).move hx rfl
    · exact (h.row j r M hj hM).move hx rfl
  · intro j k r s M N hj hk hM hN hne hr
    rcases get j r M hj hM with ⟨e1, e2, e3⟩ | ⟨n1, _, hj1, hM1⟩ <;> rcases get k s N hk hN with ⟨f1, f2, f3⟩ | ⟨n2, _, hk1, hN1⟩
    · exact absurd (e1.trans f1.symm) hne
    · subst e3; exact h.sep i k _ s M N hi hk1 hL hN1 (Ne.symm n2) own
    · subst f3; exact h.sep j i r _ M N hj1 hi hM1 hL n1 hr
    · exact h.sep j k r s M N hj1 hk1 hM1 hN1 hne hr
  · intro j r M hj hM
    rcases get j r M hj hM with ⟨rfl, rfl, rfl⟩ | ⟨_, _, hj, hM⟩
    · exact .inr (.inr ⟨i, _, M, hi, hL, own, rfl⟩)
    · exact .inl ⟨hget_lt hj, r, hj, id⟩

/-- ROWS MAY BE FORGOTTEN. -/
theorem Rel.forget {P : Program} {ρ : Loc} {A : Heap} {w : World} (h : Rel P ρ A w) (i : Nat) : Rel P ρ (hset A i none) w ∧ Moves ρ A w ρ (hset A i none) w := by
  have get : ∀ j r, hget (hset A i none) j = some r → hget A j = some r := by
    intro j r hj
    rw [hget_hset] at hj
    split at hj
    · cases hj
    · exact hj
  exact ⟨⟨fun k hk => h.sup k (by simpa using hk), fun j r hj => h.has j r (get j r hj), fun j r L hj hL => h.row j r L (get j r hj) hL, fun j k r s L M hj hk => h.sep j k r s L M (get j r hj) (get k s hk)⟩,
    Ext.refl _, by simp, fun _ _ => rfl, Nat.le_refl _, fun _ _ _ => rfl, fun j r L hj _ => .inl ⟨hget_lt (get j r hj), r, get j r hj, id⟩, ⟨rfl, rfl⟩, fun _ h => h⟩
/-- AN OWN ROW IS GIVEN UP; ITS BLOCK MAY TURN. -/
theorem Rel.drop {P : Program} {ρ : Loc} {A : Heap} {w w' : World} (h : Rel P ρ A w) {i : Nat} {q : ARow} {L : L4} (hi : hget A i = some q) (own : q.isOwn = true) (hL : ρ i = some L)
    (hother : ∀ b, b ≠ L.blk → w'.heap[b]? = w.heap[b]?) (hsz : w'.heap.size = w.heap.size) (hout : w'.os = w.os ∧ w'.output = w.output := by exact ⟨rfl, rfl⟩) (hk : q.isLoop = false := by rfl) : Rel P ρ (hset A i none) w' ∧ Moves ρ A w ρ (hset A i none) w' := by
  have get : ∀ j r, hget (hset A i none) j = some r → j ≠ i ∧ hget A j = some r := by
    intro j r hj
    rw [hget_hset] at hj
    split at hj
    · cases hj
    · rename_i hh
      exact ⟨fun e => hh ⟨e.symm, hget_lt hj⟩, hj⟩
  refine ⟨⟨fun k hk => h.sup k (by simpa using hk), fun j r hj => h.has j r (get j r hj).2, fun j r M hj hM => ?_, fun j k r s L M hj hk => h.sep j k r s L M (get j r hj).2 (get k s hk).2⟩,
    Ext.refl _, by simp, fun _ _ => rfl, by omega, fun b _ hn => hother b fun e => hn ⟨i, q, L, hi, hL, own, e.symm⟩, fun j r M hj _ => .inl ⟨hget_lt (get j r hj).2, r, (get j r hj).2, id⟩, hout, fun b hb => hb.of_eq (hother b fun e => by subst e; have := (h.row i q L hi hL).loop_iff.1 hb; rw [hk] at this; cases this)⟩
  obtain ⟨hne, hj⟩ := get j r hj
  exact (h.row j r M hj hM).move (Ext.refl _) (hother _ fun e => h.sep i j q r L M hi hj hL hM (Ne.symm hne) own e.symm)
end Go.Abs
