/-
The abstract machine: each operation is what the model does. First part: reading, writing, making.
-/
import Derived.Test.YtnhmokgakpknlaaGreatDoorAb3
namespace Go.Abs
open Go

def GoesV (P : Program) (ρ : Loc) (A : Heap) (w : World) (s : Sem Value) (v : Value) (A' : Heap) : Prop :=
  ∃ v' w' ρ', s.run P w = .ok v' w' ∧ VR ρ' v v' ∧ Rel P ρ' A' w' ∧ Moves ρ A w ρ' A' w'

theorem GoesV.same {P : Program} {ρ : Loc} {A : Heap} {w : World} {s : Sem Value} {v v' : Value} (hR : Rel P ρ A w) (h : s.run P w = .ok v' w) (hv : VR ρ v v') : GoesV P ρ A w s v A :=
  ⟨v', w, ρ, h, hv, hR, Moves.refl _ _ _⟩

theorem run_isAgg {P : Program} {w : World} {t : TypeId} {d : TypeDesc} (ht : P.underlying t = some d) : (isAgg t).run P w = .ok (descAgg d) w := by
  cases d <;> simp [isAgg, run_underlying ht, descAgg]
theorem run_typeInfo {P : Program} {w : World} {t : TypeId} {i : TypeInfo} (hi : P.info? t = some i) : (typeInfo t).run P w = .ok i w := by simp [typeInfo, hi]
theorem run_sizeOf {P : Program} {w : World} {t : TypeId} {i : TypeInfo} (hi : P.info? t = some i) : (sizeOf t).run P w = .ok i.size w := by simp [sizeOf, run_typeInfo hi]
theorem run_zeroValue {P : Program} {w : World} {t : TypeId} {i : TypeInfo} {z : Value} (hi : P.info? t = some i) (hz : i.zero = some z) : (zeroValue t).run P w = .ok z w := by simp [zeroValue, run_typeInfo hi, hz]

theorem row_sub {ρ : Loc} {cs : List Value} {cs' : Array Value} {off o n : Nat} (hc : ∀ (o : Nat) (v : Value), cs[o]? = some v → ∃ v', cs'[off + o]? = some v' ∧ VR ρ v v') (h : o + n ≤ cs.length) :
    VRs ρ ((cs.drop o).take n) ((cs'.toList.drop (off + o)).take n) := by
  have hlen : n = 0 ∨ off + o + n ≤ cs'.size := by
    rcases Nat.eq_zero_or_pos n with h0 | h0
    · exact .inl h0
    · obtain ⟨v', hv', _⟩ := hc (o + (n - 1)) cs[o + (n - 1)] (List.getElem?_eq_getElem (by omega))
      have := (Array.getElem?_eq_some_iff.1 hv').1
      exact .inr (by omega)
  refine ⟨?_, fun k v v' hv hv' => ?_⟩
  · rcases hlen with h0 | h0
    · simp [h0]
    · simp; omega
  · rw [List.getElem?_take] at hv hv'
    split at hv
    · rename_i hk
      rw [if_pos hk] at hv'
      rw [List.getElem?_drop] at hv hv'
      obtain ⟨u, hu, hr⟩ := hc _ _ hv
      have : u = v' := by
        have h2 : cs'[off + (o + k)]? = some v' := by rw [← Array.getElem?_toList, ← Nat.add_assoc]; exact hv'
        rw [h2] at hu; cases hu; rfl
      exact this ▸ hr
    · cases hv

theorem VRs.agg {ρ : Loc} {l l' : List Value} (h : VRs ρ l l') : VR ρ (.agg l.toArray) (.agg l'.toArray) :=
  .agg (by simpa using h.1) (by simpa using h.2)
theorem VR.agg_inv {ρ : Loc} {cs : Array Value} {v : Value} (h : VR ρ (.agg cs) v) : ∃ cs', v = .agg cs' ∧ VRs ρ cs.toList cs'.toList := by
  cases h with
  | atom h => simp [atomB] at h
  | agg hs h => exact ⟨_, rfl, by simpa using hs, h⟩
theorem VR.tuple_inv {ρ : Loc} {cs : Array Value} {v : Value} (h : VR ρ (.tuple cs) v) : ∃ cs', v = .tuple cs' ∧ VRs ρ cs.toList cs'.toList := by
  cases h with
  | atom h => simp [atomB] at h
  | tuple hs h => exact ⟨_, rfl, by simpa using hs, h⟩
theorem VR.ptr_inv {ρ : Loc} {i o : Nat} {v : Value} (h : VR ρ (.pointer (some ⟨i, o, none⟩)) v) : ∃ L, ρ i = some L ∧ v = .pointer (some ⟨L.blk, L.off + o, none⟩) := by
  cases h with
  | atom h => simp [atomB] at h
  | ptr h => exact ⟨_, h, rfl⟩
theorem VR.slice_inv {ρ : Loc} {i o n c : Nat} {v : Value} (h : VR ρ (.slice (some ⟨i, o, none⟩) n c) v) :
    ∃ L p c', ρ i = some L ∧ v = .slice (some p) n c' ∧ n ≤ c' ∧ (c' = 0 ∨ p = ⟨L.blk, L.off + o, none⟩) ∧ (L.esz ≠ 0 → L.off + o + c' * L.esz ≤ L.fin) := by
  cases h with
  | atom h => simp [atomB] at h
  | slice h hn hp hb => exact ⟨_, _, _, h, rfl, hn, hp, hb⟩

theorem add_eq (b off n : Nat) : (⟨b, off, none⟩ : Addr).add n = ⟨b, off + n, none⟩ := by unfold Addr.add; split <;> simp_all

theorem loadVar_sound {P : Program} {ρ : Loc} {w : World} {L : L4} {cs : List Value} {e : TypeId} {use : Use} (hR : RowOK P ρ w L (.cells cs e use)) {t : TypeId} {o : Nat} {v : Value}
    (h : aPart P t cs o = some v) : ∃ v', (loadVar t ⟨L.blk, L.off + o, none⟩).run P w = .ok v' w ∧ VR ρ v v' := by
  obtain ⟨cs', e', fz, hb, hc, _, _⟩ := hR
  have hcell : ∀ k, w.cell? ⟨L.blk, k, none⟩ = cs'[k]? := fun k => by simp [World.cell?, hb]
  unfold aPart at h
  split at h
  · cases h
  · rename_i d hd
    split at h
    · rename_i hagg
      split at h
      · cases h
      · rename_i i hi
        split at h
        · rename_i hle
          cases h
          have hs := row_sub hc hle
          have hlen : ((cs'.toList.drop (L.off + o)).take i.size).length = i.size := by rw [← hs.1]; simp; omega
          refine ⟨_, ?_, hs.agg⟩
          have hl := run_loadCells_list (P := P) w ⟨L.blk, L.off + o, none⟩ ((cs'.toList.drop (L.off + o)).take i.size) (fun j u hu => by
            rw [add_eq, hcell, ← Array.getElem?_toList]
            rw [List.getElem?_take] at hu
            split at hu
            · rwa [List.getElem?_drop] at hu
            · cases hu)
          rw [hlen] at hl
          simp [loadVar, run_isAgg hd, hagg, run_sizeOf hi, hl]
        · cases h
    · rename_i hagg
      obtain ⟨v', hv', hr⟩ := hc o v h
      refine ⟨v', ?_, hr⟩
      have hagg' : descAgg d = false := by simpa using hagg
      simp [loadVar, run_isAgg hd, hagg', hcell, hv']

theorem load_sound {P : Program} {ρ : Loc} {A : Heap} {w : World} (hR : Rel P ρ A w) {t : TypeId} {p p' v : Value} (h : aLoad P t p A = some v) (hp : VR ρ p p') :
    GoesV P ρ A w (Instr.loadAt t p') v A := by
  unfold aLoad at h
  split at h
  · rename_i i o
    split at h
    · rename_i cs e use hg
      obtain ⟨L, hL, rfl⟩ := hp.ptr_inv
      obtain ⟨v', hrun, hv⟩ := loadVar_sound (hR.row' hL hg) h
      exact GoesV.same hR (by simp [Instr.loadAt, Instr.sureAddr, hrun]) hv
    · cases h
  · cases h

theorem VR.oneCell {ρ : Loc} {v v' : Value} (h : VR ρ v v') : v'.oneCell' = v.oneCell' := by
  cases h <;> simp [Value.oneCell']
theorem VR.cells {ρ : Loc} {v v' : Value} (h : VR ρ v v') : VRs ρ v.cells.toList v'.cells.toList := by
  have h1 : ∀ {x y : Value}, x.cells = #[x] → y.cells = #[y] → VR ρ x y → VRs ρ x.cells.toList y.cells.toList := fun hx hy h => by
    rw [hx, hy]; exact VRs.cons h (VRs.nil ρ)
  cases h with
  | agg hs h => exact ⟨by simp [Value.cells, hs], h⟩
  | atom ha =>
    have hc : v.cells = #[v] := by cases v <;> simp [atomB] at ha <;> rfl
    exact h1 hc hc (.atom ha)
  | ptr h => exact h1 rfl rfl (.ptr h)
  | slice a b c d => exact h1 rfl rfl (.slice a b c d)
  | func a b c d e => exact h1 rfl rfl (.func a b c d e)
  | yield h => exact h1 rfl rfl (.yield h)
  | map h => exact h1 rfl rfl (.map h)
  | iface h => exact h1 rfl rfl (.iface h)
  | tuple a b => exact h1 rfl rfl (.tuple a b)

theorem splice_set (cs : List Value) (o : Nat) (v : Value) (vs : List Value) (hl : o + (vs.length + 1) ≤ cs.length) : splice (cs.set o v) (o + 1) vs = splice cs o (v :: vs) := by
  simp only [splice]
  apply List.ext_getElem?
  intro j
  simp only [List.getElem?_append, List.getElem?_take, List.getElem?_drop, List.getElem?_set, List.length_take, List.length_set, List.length_cons, List.length_append]
  by_cases hj : j < o
  · have a1 : j < o + 1 := by omega
    have a2 : ¬ o = j := by omega
    simp [hj, a1, a2, show j < min (o + 1) cs.length from by omega, show j < min o cs.length from by omega, show j < min (o + 1) cs.length + vs.length from by omega, show j < min o cs.length + (vs.length + 1) from by omega]
  · by_cases hj2 : j = o
    · subst hj2
      have : j < cs.length := by omega
      simp [this, show j < min (j + 1) cs.length from by omega, show ¬ j < min j cs.length from by omega, show j < min (j + 1) cs.length + vs.length from by omega, show j < min j cs.length + (vs.length + 1) from by omega, show min j cs.length = j from by omega]
    · have e1 : min (o + 1) cs.length = o + 1 := by omega
      have e2 : min o cs.length = o := by omega
      rw [e1, e2]
      by_cases hj3 : j < o + 1 + vs.length
      · have a1 : ¬ j < o + 1 := by omega
        have a3 : j < o + (vs.length + 1) := by omega
        obtain ⟨m, rfl⟩ : ∃ m, j = o + 1 + m := ⟨j - (o + 1), by omega⟩
        simp [hj3, a1, a3, hj, show o + 1 + m - (o + 1) = m from by omega, show o + 1 + m - o = m + 1 from by omega]
      · have a1 : ¬ j < o + (vs.length + 1) := by omega
        simp only [if_neg hj3, if_neg a1, show o + 1 + vs.length + (j - (o + 1 + vs.length)) = o + (vs.length + 1) + (j - (o + (vs.length + 1))) from by omega, if_neg (show ¬ o = o + (vs.length + 1) + (j - (o + (vs.length + 1))) from by omega)]

/-- Cells written one after the other. -/
theorem setCells_out (b : Nat) : ∀ (vs : List Value) (o : Nat) (w : World), (w.setCells b o vs).os = w.os ∧ (w.setCells b o vs).output = w.output
  | [], _, _ => ⟨rfl, rfl⟩
  | v :: r, o, w => setCells_out b r (o + 1) (w.setCell ⟨b, o, none⟩ v)
theorem setCells_heap (b o : Nat) : ∀ (vs : List Value) (o : Nat) (cs : Array Value) (e : TypeId) (fz : Nat × Nat) (w : World), w.heap[b]? = some (.cells cs e fz) → o + vs.length ≤ cs.size →
    ∃ cs2 : Array Value, (w.setCells b o vs).heap[b]? = some (.cells cs2 e fz) ∧ cs2.toList = splice cs.toList o vs ∧ (∀ k, k ≠ b → (w.setCells b o vs).heap[k]? = w.heap[k]?) ∧ (w.setCells b o vs).heap.size = w.heap.size
  | [], o, cs, e, fz, w, hb, hl => ⟨cs, hb, by simp [splice], fun _ _ => rfl, rfl⟩
  | v :: vs, o, cs, e, fz, w, hb, hl => by
    have hset : (w.setCell ⟨b, o, none⟩ v).heap[b]? = some (.cells (cs.setIfInBounds o v) e fz) := by
      simp [World.setCell, Array.getElem?_modify, hb]
    obtain ⟨cs2, h1, h2, h3, h4⟩ := setCells_heap b o vs (o + 1) (cs.setIfInBounds o v) e fz (w.setCell ⟨b, o, none⟩ v) hset (by simp at hl ⊢; omega)
    refine ⟨cs2, h1, ?_, fun k hk => ?_, ?_⟩
    · rw [h2, Array.toList_setIfInBounds]
      exact splice_set _ _ _ _ (by simp at hl ⊢; omega)
    · show ((w.setCell ⟨b, o, none⟩ v).setCells b (o + 1) vs).heap[k]? = _
      rw [h3 k hk]
      simp [World.setCell, Array.getElem?_modify, Ne.symm hk]
    · show ((w.setCell ⟨b, o, none⟩ v).setCells b (o + 1) vs).heap.size = _
      rw [h4]
      simp [World.setCell]

theorem fz_free {fz : Nat × Nat} {n o : Nat} (h : fzOK fz n) (ho : o < n) : ¬ (fz.1 ≤ o ∧ o < fz.2) := by
  rcases h with rfl | h
  · simp
  · omega

/-- What a write of cells into an own row does. -/
theorem write_sound {P : Program} {ρ : Loc} {A : Heap} {w : World} (hR : Rel P ρ A w) {i o : Nat} {cs vs vs' : List Value} {e : TypeId} {use : Use} {L : L4} (hg : hget A i = some (.cells cs e use)) (hu : use ≠ .ro)
    (hL : ρ i = some L) (hv : VRs ρ vs vs') (hl : o + vs.length ≤ cs.length) (h1 : vs.all Value.oneCell' = true) :
    ∃ w', (storeCells ⟨L.blk, L.off + o, none⟩ vs').run P w = .ok () w' ∧ Rel P ρ (hset A i (some (.cells (splice cs o vs) e use))) w' ∧ Moves ρ A w ρ (hset A i (some (.cells (splice cs o vs) e use))) w' := by
  obtain ⟨cs', e', fz, hb, hc, _, hown⟩ := hR.row' hL hg
  obtain ⟨rfl, hoff, hfz, hfin, _⟩ := hown hu
  rw [hoff, Nat.zero_add]
  simp only [hoff, Nat.zero_add] at hc
  have hsz : cs.length ≤ cs'.size := by
    rcases Nat.eq_zero_or_pos cs.length with h0 | h0
    · omega
    · obtain ⟨u, hu, _⟩ := hc (cs.length - 1) cs[cs.length - 1] (List.getElem?_eq_getElem (by omega))
      have := (Array.getElem?_eq_some_iff.1 hu).1
      omega
  have hvl := hv.1
  have hrun := run_storeCells_cells (P := P) L.blk o vs' 0 w (fun j hj => by simp [World.cell?, hb]; omega)
    (fun j hj => by
      simp only [World.frozen?, hb]
      have := fz_free hfz (o := o + 0 + j) (by omega)
      obtain ⟨lo, hi⟩ := fz
      simpa using this)
    (fun v hm => by
      obtain ⟨k, hk⟩ := List.mem_iff_getElem?.1 hm
      have hk' : k < vs.length := by rw [hvl]; exact (List.getElem?_eq_some_iff.1 hk).1
      rw [VR.oneCell (hv.2 k vs[k] v (List.getElem?_eq_getElem hk') hk)]
      exact List.all_eq_true.1 h1 _ (List.getElem_mem hk'))
  obtain ⟨cs2, hb2, hcs2, ho2, hs2⟩ := setCells_heap L.blk o vs' (o + 0) cs' e' fz w hb (by omega)
  refine ⟨_, hrun, hR.setRow hg hu hL hb hb2 ho2 hs2 ?_ ?_ (hout := setCells_out _ _ _ _)⟩
  · have := congrArg List.length hcs2
    simp [splice] at this
    omega
  · intro k v hk
    rw [← Array.getElem?_toList, hcs2]
    simp only [Nat.add_zero, splice, List.getElem?_append, List.length_append, List.length_take, Array.length_toList, List.getElem?_take, List.getElem?_drop] at hk ⊢
    have e1 : min o cs.length = o := by omega
    have e2 : min o cs'.size = o := by omega
    rw [e1] at hk
    rw [e2]
    rw [hvl] at hk
    by_cases hko : k < o
    · simp only [if_pos hko, if_pos (show k < o + vs'.length by omega)] at hk ⊢
      obtain ⟨v', a, b⟩ := hc k v hk
      exact ⟨v', by rw [Array.getElem?_toList]; exact a, b⟩
    · by_cases hk2 : k < o + vs'.length
      · simp only [if_pos hk2, if_neg hko] at hk ⊢
        exact hv.get hk
      · simp only [if_neg hk2] at hk ⊢
        obtain ⟨v', a, b⟩ := hc _ v hk
        exact ⟨v', by rw [Array.getElem?_toList]; exact a, b⟩

theorem store_sound {P : Program} {ρ : Loc} {A A' : Heap} {w : World} {lim : Nat} (hR : Rel P ρ A w) {t : TypeId} {p p' x x' : Value} (h : aStore P lim t p x A = some A') (hp : VR ρ p p') (hx : VR ρ x x') :
    ∃ w', (Instr.storeAt t p' x').run P w = .ok () w' ∧ Rel P ρ A' w' ∧ Moves ρ A w ρ A' w' := by
  unfold aStore at h
  split at h
  · rename_i i o
    split at h
    · rename_i cs e use ti hg hti
      split at h
      · rename_i hh
        obtain ⟨h1, h2, h3, h4, h5⟩ := hh
        cases h
        obtain ⟨L, hL, rfl⟩ := hp.ptr_inv
        obtain ⟨w', hrun, hr, hm⟩ := write_sound hR hg h1 hL hx.cells h4 h5
        refine ⟨w', ?_, hr, hm⟩
        have hc : x'.cells.size = ti.size := by have := hx.cells.1; simp at this h3; omega
        simp [Instr.storeAt, Instr.sureAddr, storeVar, run_sizeOf hti, hc, hrun]
      · cases h
    · cases h
  · cases h
end Go.Abs
