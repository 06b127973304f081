/-
The abstract machine: the marks that ranges over functions leave among the deferred calls of a frame.
-/
import Derived.Test.YtnhmokgakpknlaaGreatDoorAb14
import Derived.RangeFuncLeaves
namespace Go.Abs
open Go

def mark (r : Nat) : Deferred := { target := .collected r, args := #[] }
/-- Marks whose blocks hold no call. -/
structure MarksOK (w : World) (ds : List Deferred) (rs : List Nat) : Prop where
  marks : ds = rs.map mark
  nodup : rs.Nodup
  empty : ∀ r ∈ rs, w.heap[r]? = some (.deferred (some []))

theorem RowOK.no_marks {P : Program} {ρ : Loc} {w : World} {L : L4} {q : ARow} (h : RowOK P ρ w L q) {r : Nat} {x : Option (List Deferred)} (hr : w.heap[r]? = some (.deferred x)) : L.blk ≠ r := by
  intro e
  subst e
  cases q with
  | cells cs e use => obtain ⟨_, _, _, hb, _⟩ := h; rw [hr] at hb; cases hb
  | iter s p => have hb := h.1; rw [hr] at hb; cases hb
  | loop => obtain ⟨_, _, _, hb, _⟩ := h; rw [hr] at hb; cases hb
  | map => obtain ⟨_, hb, _⟩ := h; rw [hr] at hb; cases hb
theorem MarksOK.moves {P : Program} {ρ ρ' : Loc} {A A' : Heap} {w w' : World} {ds : List Deferred} {rs : List Nat} (h : MarksOK w ds rs) (hR : Rel P ρ A w) (hM : Moves ρ A w ρ' A' w') : MarksOK w' ds rs := by
  refine ⟨h.marks, h.nodup, fun r hr => ?_⟩
  have h1 := h.empty r hr
  rw [hM.frame r (Array.getElem?_eq_some_iff.1 h1).1 ?_, h1]
  rintro ⟨i, q, L, a1, a2, a3, a4⟩
  exact (hR.row i q L a1 a2).no_marks h1 a4

/-- A block without a row, behind the first heap, may turn. -/
theorem Rel.turn {P : Program} {ρ0 ρ : Loc} {A0 A : Heap} {w0 w w' : World} (hR : Rel P ρ A w) (hM : Moves ρ0 A0 w0 ρ A w) {r : Nat} {x : Option (List Deferred)} (hr : w.heap[r]? = some (.deferred x)) (h0 : w0.heap.size ≤ r)
    (hother : ∀ b, b ≠ r → w'.heap[b]? = w.heap[b]?) (hsz : w'.heap.size = w.heap.size) (hout : w'.os = w.os ∧ w'.output = w.output) : Rel P ρ A w' ∧ Moves ρ0 A0 w0 ρ A w' :=
  ⟨⟨hR.sup, hR.has, fun i q L hi hL => (hR.row i q L hi hL).move (Ext.refl _) (hother _ ((hR.row i q L hi hL).no_marks hr)), hR.sep⟩,
   hM.pre, hM.len, hM.same, by rw [hsz]; exact hM.size, fun b hb hn => by rw [hother b (by omega), hM.frame b hb hn], hM.rows, ⟨hout.1.trans hM.out.1, hout.2.trans hM.out.2⟩, fun b hb => (hM.loops b hb).of_eq (hother b fun e => by subst e; obtain ⟨q, hq⟩ := hM.loops b hb; rw [hr] at hq; cases hq)⟩

theorem run_take {P : Program} {w : World} {r : Nat} (h : w.heap[r]? = some (.deferred (some []))) : (Instr.takeDeferred r).run P w = .ok [] { w with heap := w.heap.setIfInBounds r (.deferred none) } := by
  have hg : (getObj r).run P w = .ok (.deferred (some [])) w := by simp [getObj, Sem.run, h]
  have hs : (setObj r (.deferred none)).run P w = .ok () { w with heap := w.heap.setIfInBounds r (.deferred none) } := by simp [setObj, Sem.run, h]
  simp only [Instr.takeDeferred, Sem.run_bind, hg, Result.andThen_ok, hs, Sem.run_pure]

theorem marks_run {P : Program} {ρ0 ρ : Loc} {A0 A : Heap} {w0 : World} : ∀ (rs : List Nat) (fr : Frame) (cs : List Frame) (w : World) (ds : List Deferred), MarksOK w ds rs → (∀ r ∈ rs, w0.heap.size ≤ r) → fr.mode ≠ .run → fr.defers = ds → Rel P ρ A w → Moves ρ0 A0 w0 ρ A w →
    ∃ w', Steps P (lone fr cs w) (lone { fr with defers := [] } cs w') ∧ Rel P ρ A w' ∧ Moves ρ0 A0 w0 ρ A w'
  | [], fr, cs, w, ds, h, _, _, hd, hR, hM => by
    have := h.marks
    simp only [List.map_nil] at this
    subst this
    have : { fr with defers := [] } = fr := by cases fr; simp_all
    rw [this]
    exact ⟨w, .refl _ _, hR, hM⟩
  | r :: rs, fr, cs, w, ds, h, h0, hm, hd, hR, hM => by
    have hds := h.marks
    simp only [List.map_cons] at hds
    have hr := h.empty r (by simp)
    have hst := step_collected (P := P) (cs := cs) hm (hd.trans hds) rfl (run_take hr)
    have hnd := List.nodup_cons.1 h.nodup
    obtain ⟨hR1, hM1⟩ := hR.turn hM (w' := { w with heap := w.heap.setIfInBounds r (.deferred none) }) hr (h0 r (by simp)) (fun b hb => by simp [Array.getElem?_setIfInBounds_ne (Ne.symm hb)]) (by simp) ⟨rfl, rfl⟩
    obtain ⟨w', g1, g2, g3⟩ := marks_run rs { fr with defers := rs.map mark } cs _ (rs.map mark) ⟨rfl, hnd.2, fun r' hr' => by
      have : r ≠ r' := fun e => hnd.1 (e ▸ hr')
      simp only [Array.getElem?_setIfInBounds_ne this]
      exact h.empty r' (by simp [hr'])⟩ (fun r' hr' => h0 r' (by simp [hr'])) hm rfl hR1 hM1
    exact ⟨w', .head (by simpa using hst) g1, g2, g3⟩
end Go.Abs
