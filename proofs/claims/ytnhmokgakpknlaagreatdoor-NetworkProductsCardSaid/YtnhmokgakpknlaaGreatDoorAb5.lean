/-
The abstract machine: each operation is what the model does. Second part: what is made, and addresses.
-/
import Derived.Test.YtnhmokgakpknlaaGreatDoorAb4
import Derived.Laws.Entries
import Derived.Laws.Slices
namespace Go.Abs
open Go

def eszOf (P : Program) (e : TypeId) : Use → Nat
  | .row => P.cellsOf e
  | _ => 0

theorem ARow.own_cells {cs : List Value} {e : TypeId} {use : Use} (hu : use ≠ .ro) : ARow.isOwn (.cells cs e use) = true := by cases use <;> simp_all [ARow.isOwn]

/-- A new block of cells. -/
theorem new_sound {P : Program} {ρ : Loc} {A : Heap} {w : World} (hR : Rel P ρ A w) {cs : List Value} {cs' : Array Value} {e : TypeId} {use : Use} {fz : Nat × Nat} (hu : use ≠ .ro) (hfz : fzOK fz cs'.size)
    (hc : ∀ (o : Nat) (v : Value), cs[o]? = some v → ∃ v', cs'[o]? = some v' ∧ VR ρ v v') :
    ∃ L : L4, L = ⟨w.heap.size, 0, eszOf P e use, cs'.size⟩ ∧ Rel P (ρ.put A.length L) (A ++ [some (.cells cs e use)]) (w.alloc (.cells cs' e fz)) ∧
      Moves ρ A w (ρ.put A.length L) (A ++ [some (.cells cs e use)]) (w.alloc (.cells cs' e fz)) ∧ ρ.put A.length L A.length = some L := by
  have h := hR.alloc (o := .cells cs' e fz) (r := .cells cs e use) (esz := eszOf P e use) (fin := cs'.size)
    ⟨cs', e, fz, heap_alloc_new w _, fun o v hv => let ⟨v', a, b⟩ := hc o v hv; ⟨v', by simpa using a, b.mono (Ext.put (hR.sup _ (Nat.le_refl _)) _)⟩,
      fun hu => by cases use <;> simp_all [eszOf], fun _ => ⟨rfl, rfl, hfz, rfl, fun hu => by subst hu; rfl⟩⟩
  exact ⟨_, rfl, h.1, h.2, Loc.put_self _ _ _⟩

theorem VRs.cell {ρ : Loc} {l : List Value} {c : Array Value} (h : VRs ρ l c.toList) : ∀ (o : Nat) (v : Value), l[o]? = some v → ∃ v', c[o]? = some v' ∧ VR ρ v v' := fun o v hv => by
  obtain ⟨v', a, b⟩ := h.get hv
  exact ⟨v', by rwa [Array.getElem?_toList] at a, b⟩

theorem free_cells (ρ : Loc) {z : Value} (hz : freeB z = true) : VRs ρ z.cells.toList z.cells.toList := (VR.refl ρ hz).cells

theorem run_newVar (P : Program) (w : World) (t : TypeId) (v : Value) : (newVar t v).run P w = .ok ⟨w.heap.size, 0, none⟩ (w.alloc (.cells v.cells t)) := by
  simp [newVar, newRow]

theorem alloc_sound {P : Program} {ρ : Loc} {A A' : Heap} {w : World} (hR : Rel P ρ A w) {t : TypeId} {v : Value} (h : aAlloc P t A = some (v, A')) :
    GoesV P ρ A w (Instr.alloc t true (.tuple #[])) v A' := by
  unfold aAlloc at h
  split at h
  · cases h
  · rename_i i hi
    split at h
    · cases h
    · rename_i z hz
      split at h
      · rename_i hf
        cases h
        obtain ⟨L, hL, hr, hm, hget⟩ := new_sound hR (e := t) (use := .var) (by simp) (.inl rfl) (free_cells ρ hf).cell
        refine ⟨.pointer (some ⟨w.heap.size, 0, none⟩), _, _, ?_, ?_, hr, hm⟩
        · simp [Instr.alloc, run_zeroValue hi hz, run_newVar]
        · have := VR.ptr (o := 0) hget
          rw [hL] at this
          rwa [hL]
      · cases h

theorem box_sound {P : Program} {ρ : Loc} {A : Heap} {w : World} (hR : Rel P ρ A w) {t : TypeId} {x x' : Value} (hx : VR ρ x x') :
    GoesV P ρ A w (Instr.box t x') (aBox t x A).1 (aBox t x A).2 := by
  obtain ⟨L, hL, hr, hm, hget⟩ := new_sound hR (e := t) (use := .var) (by simp) (.inl rfl) hx.cells.cell
  refine ⟨.pointer (some ⟨w.heap.size, 0, none⟩), _, _, ?_, ?_, hr, hm⟩
  · simp [Instr.box, run_newVar]
  · have := VR.ptr (o := 0) hget
    rw [hL] at this
    rwa [hL]

theorem VRs.splice {ρ : Loc} {a a' b b' : List Value} (h : VRs ρ a a') (h2 : VRs ρ b b') (o : Nat) : VRs ρ (splice a o b) (splice a' o b') := by
  unfold Abs.splice
  rw [← h2.1]
  exact ((h.take o).append h2).append (h.drop _)

theorem foldl_splice : ∀ (vs : List Value) (k off : Nat) (cs : Array Value), off + k + vs.length ≤ cs.size →
    ((vs.zipIdx k).foldl (fun (cs : Array Value) (p : Value × Nat) => cs.setIfInBounds (off + p.2) p.1) cs).toList = splice cs.toList (off + k) vs
  | [], k, off, cs, _ => by simp [splice]
  | v :: vs, k, off, cs, h => by
    simp only [List.zipIdx_cons, List.foldl_cons]
    rw [foldl_splice vs (k + 1) off _ (by simp at h ⊢; omega), Array.toList_setIfInBounds]
    rw [show off + (k + 1) = off + k + 1 by omega]
    exact splice_set _ _ _ _ (by simp at h ⊢; omega)

theorem splice_length (cs : List Value) (o : Nat) (vs : List Value) (h : o + vs.length ≤ cs.length) : (splice cs o vs).length = cs.length := by
  simp [splice]; omega

theorem fill_sound {ρ : Loc} {place : Nat → Option (Nat × Nat)} : ∀ (ps ps' : List (Nat × Value)) (cells r : List Value) (cells' : Array Value), aFill place cells ps = some r → VRs ρ cells cells'.toList →
    ps.length = ps'.length → (∀ (k i : Nat) (v : Value) (i' : Nat) (v' : Value), ps[k]? = some (i, v) → ps'[k]? = some (i', v') → i = i' ∧ VR ρ v v') → ∃ r', Instr.fill place cells' ps' = some r' ∧ VRs ρ r r'.toList
  | [], ps', cells, r, cells', h, hc, hl, hp => by
    cases ps' with
    | nil => cases h; exact ⟨cells', rfl, hc⟩
    | cons x y => simp at hl
  | (i, v) :: ps, ps', cells, r, cells', h, hc, hl, hp => by
    cases ps' with
    | nil => simp at hl
    | cons p' ps' =>
      obtain ⟨i', v'⟩ := p'
      obtain ⟨rfl, hv⟩ := hp 0 i v i' v' rfl rfl
      simp only [aFill] at h
      split at h
      · cases h
      · rename_i off size hpl
        split at h
        · rename_i hh
          have hvc := hv.cells
          have hs : v'.cells.size = size := by have := hvc.1; have := hh.1; simp at *; omega
          have hcl := hc.1
          have hfold : (v'.cells.zipIdx.foldl (fun (cs : Array Value) (p : Value × Nat) => cs.setIfInBounds (off + p.2) p.1) cells').toList = splice cells'.toList off v'.cells.toList := by
            have := foldl_splice v'.cells.toList 0 off cells' (by simp at hcl ⊢; omega)
            rw [← Array.foldl_toList]
            simpa using this
          have hnot : (decide (v'.cells.size ≠ size) || decide (off + v'.cells.size > cells'.size)) = false := by
            simp at hcl
            simp; omega
          obtain ⟨r', hr', hrr⟩ := fill_sound ps ps' (splice cells off v.cells.toList) r _ h (by rw [hfold]; exact hc.splice hvc off) (by simpa using hl)
            (fun k a b c d ha hb => hp (k + 1) a b c d (by simpa using ha) (by simpa using hb))
          refine ⟨r', ?_, hrr⟩
          simp only [Instr.fill, hpl]
          rw [if_neg (by simpa using hnot)]
          exact hr'
        · cases h

theorem aZeros_get (z : List Value) : ∀ (n k : Nat), (aZeros z n)[k]? = if k < n * z.length then z[k % z.length]? else none
  | 0, k => by simp [aZeros]
  | n + 1, k => by
    simp only [aZeros, List.getElem?_append]
    by_cases hk : k < z.length
    · have : k < (n + 1) * z.length := by rw [Nat.succ_mul]; omega
      simp [hk, this, Nat.mod_eq_of_lt hk]
    · rw [if_neg hk, aZeros_get z n]
      have e1 : (k - z.length) % z.length = k % z.length := by
        rw [← Nat.mod_eq_sub_mod (by omega)]
      rw [e1]
      rw [Nat.succ_mul]
      by_cases h2 : k - z.length < n * z.length
      · rw [if_pos h2, if_pos (by omega)]
      · rw [if_neg h2, if_neg (by omega)]
theorem aZeros_len (z : List Value) (n : Nat) : (aZeros z n).length = n * z.length := by
  induction n with
  | zero => simp [aZeros]
  | succ n ih => simp [aZeros, ih, Nat.succ_mul]; omega
theorem aZeros_made (z : Array Value) (n : Nat) : (madeCells z (n * z.size)).toList = aZeros z.toList n := by
  apply List.ext_getElem?
  intro k
  rw [aZeros_get]
  simp only [madeCells, Array.toList_map, Array.toList_range, List.getElem?_map, List.getElem?_range', Array.length_toList]
  by_cases hk : k < n * z.size
  · have hz : 0 < z.size := by
      rcases Nat.eq_zero_or_pos z.size with h0 | h0
      · rw [h0] at hk; simp at hk
      · exact h0
    have hm := Nat.mod_lt k hz
    simp [hk, List.getElem?_range hk, hm]
  · simp [hk, List.getElem?_eq_none]
theorem aZeros_free (ρ : Loc) {z : List Value} (hz : VRs ρ z z) (n : Nat) : VRs ρ (aZeros z n) (aZeros z n) := by
  induction n with
  | zero => exact VRs.nil ρ
  | succ n ih => exact hz.append ih

theorem buildSlice_sound {P : Program} {ρ : Loc} {A A' : Heap} {w : World} (hR : Rel P ρ A w) {t : TypeId} {len : Nat} {ps : List (Nat × Value)} {ps' : Array (Nat × Value)} {v : Value} (h : aBuildSlice P t len ps A = some (v, A'))
    (hl : ps.length = ps'.toList.length) (hp : ∀ (k i : Nat) (v : Value) (i' : Nat) (v' : Value), ps[k]? = some (i, v) → ps'.toList[k]? = some (i', v') → i = i' ∧ VR ρ v v') :
    GoesV P ρ A w (Instr.buildSlice t len ps') v A' := by
  unfold aBuildSlice at h
  split at h
  · rename_i e ht
    split at h
    · rename_i ti hi
      split at h
      · rename_i z hz
        split at h
        · rename_i hh
          obtain ⟨hf, hsz, h24⟩ := hh
          split at h
          · rename_i cells hfill
            cases h
            have hzs : z.cells.size = ti.size := by simpa using hsz
            have base : ((Array.range (len * ti.size)).map (z.cells[· % z.cells.size]!)).toList = aZeros z.cells.toList len := by
              have := aZeros_made z.cells len
              rw [hzs] at this
              rw [← this]; rfl
            obtain ⟨r', hr', hrr⟩ := fill_sound (ρ := ρ) ps ps'.toList _ cells ((Array.range (len * ti.size)).map (z.cells[· % z.cells.size]!)) hfill (by rw [base]; exact aZeros_free ρ (free_cells ρ hf) len) hl hp
            obtain ⟨L, hL, hr, hm, hget⟩ := new_sound hR (e := e) (use := .row) (by simp) (.inl rfl) hrr.cell
            refine ⟨.slice (some ⟨w.heap.size, 0, none⟩) len len, _, _, ?_, ?_, hr, hm⟩
            · have n24 : ¬ (16777216 < len * ti.size) := by omega
              by_cases h0 : len * ti.size = 0
              · have hr2 : Instr.fill (fun i => some (i * ti.size, ti.size)) #[] ps'.toList = some r' := by
                  have : ((Array.range (len * ti.size)).map (z.cells[· % z.cells.size]!)) = #[] := by
                    apply Array.eq_empty_of_size_eq_zero; simp [h0]
                  rw [this] at hr'; exact hr'
                have e0 : (Array.map (fun (_ : Nat) => (default : Value)) (Array.range 0)) = #[] := by apply Array.eq_empty_of_size_eq_zero; simp
                simp [Instr.buildSlice, run_underlying ht, run_sizeOf hi, n24, h0, e0, hr2, newRow]
              · simp [Instr.buildSlice, run_underlying ht, run_sizeOf hi, n24, h0, run_zeroValue hi hz, hr', newRow]
            · have hcl : r'.size = len * ti.size := by
                have h1 := hrr.1
                have h2 : ∀ (ps : List (Nat × Value)) (cs r : List Value) (pl : Nat → Option (Nat × Nat)), aFill pl cs ps = some r → r.length = cs.length := by
                  intro ps
                  induction ps with
                  | nil => intro cs r pl h; cases h; rfl
                  | cons p ps ih =>
                    intro cs r pl h
                    obtain ⟨i, v⟩ := p
                    simp only [aFill] at h
                    split at h
                    · cases h
                    · split at h
                      · rename_i hh
                        rw [ih _ _ _ h, splice_length _ _ _ (by omega)]
                      · cases h
                have h3 := h2 _ _ _ _ hfill
                rw [aZeros_len] at h3
                simp at h1 hzs
                rw [hsz] at h3
                omega
              refine VR.slice hget (Nat.le_refl _) (.inr ?_) (fun _ => ?_)
              · rw [hL]
              · subst hL
                simp only [eszOf, Program.cellsOf, hi, Option.map_some, Option.getD_some]
                omega
          · cases h
        · cases h
      · cases h
    · cases h
  · cases h

theorem places_eq (P : Program) : ∀ (fs : List Field) (ps : List (Nat × Nat)), aPlaces P fs = some ps → fs.mapM (fun f => (P.info? f.type).map fun i => (f.offset, i.size)) = some ps
  | [], ps, h => by cases h; rfl
  | f :: fs, ps, h => by
    simp only [aPlaces] at h
    split at h
    · rename_i i qs hi hq
      cases h
      have := places_eq P fs qs hq
      simp [List.mapM_cons, hi, this]
    · cases h

theorem build_sound {P : Program} {ρ : Loc} {A : Heap} {w : World} (hR : Rel P ρ A w) {t : TypeId} {ps : List (Nat × Value)} {ps' : Array (Nat × Value)} {v : Value} (h : aBuild P t ps = some v)
    (hl : ps.length = ps'.toList.length) (hp : ∀ (k i : Nat) (v : Value) (i' : Nat) (v' : Value), ps[k]? = some (i, v) → ps'.toList[k]? = some (i', v') → i = i' ∧ VR ρ v v') :
    GoesV P ρ A w (Instr.build t ps') v A := by
  unfold aBuild at h
  split at h
  · cases h
  · rename_i ti hi
    split at h
    · cases h
    · rename_i z hz
      split at h
      · rename_i hf
        split at h
        · rename_i fields ht
          split at h
          · rename_i pl hpl
            split at h
            · rename_i cells hfill
              cases h
              obtain ⟨r', hr', hrr⟩ := fill_sound (ρ := ρ) ps ps'.toList _ cells z.cells hfill (free_cells ρ hf) hl hp
              refine GoesV.same hR (run_build w t ps' r' ?_) hrr.agg
              simp only [Program.built, hi, ht, hz, places_eq P _ _ hpl]
              simpa using hr'
            · cases h
          · cases h
        · rename_i n e ht
          split at h
          · rename_i ei he
            split at h
            · rename_i cells hfill
              cases h
              obtain ⟨r', hr', hrr⟩ := fill_sound (ρ := ρ) ps ps'.toList _ cells z.cells hfill (free_cells ρ hf) hl hp
              refine GoesV.same hR (run_build w t ps' r' ?_) hrr.agg
              simp only [Program.built, hi, ht, hz, he]
              exact hr'
            · cases h
          · cases h
        · cases h
      · cases h
end Go.Abs
