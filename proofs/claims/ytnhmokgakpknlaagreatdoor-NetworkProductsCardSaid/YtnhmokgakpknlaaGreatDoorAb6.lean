/-
The abstract machine: each operation is what the model does. Third part: slices, addresses, parts.
-/
import Derived.Test.YtnhmokgakpknlaaGreatDoorAb5
namespace Go.Abs
open Go

theorem VR.int_inv {ρ : Loc} {k : IntKind} {n : Int} {v : Value} (h : VR ρ (.int k n) v) : v = .int k n := h.atom_eq rfl
theorem VR.bool_inv {ρ : Loc} {b : Bool} {v : Value} (h : VR ρ (.bool b) v) : v = .bool b := h.atom_eq rfl
theorem VR.string_inv {ρ : Loc} {s : ByteArray} {v : Value} (h : VR ρ (.string s) v) : v = .string s := h.atom_eq rfl
theorem VR.int {ρ : Loc} (k : IntKind) (n : Int) : VR ρ (.int k n) (.int k n) := .atom rfl

theorem makeSlice_sound {P : Program} {ρ : Loc} {A A' : Heap} {w : World} (hR : Rel P ρ A w) {t : TypeId} {l l' c c' v : Value} (h : aMakeSlice P t l c A = some (v, A')) (hl : VR ρ l l') (hc : VR ρ c c') :
    GoesV P ρ A w (Instr.makeSlice t l' c') v A' := by
  unfold aMakeSlice at h
  split at h
  · rename_i e kl n kc m ht
    split at h
    · rename_i ti hi
      split at h
      · rename_i z hz
        split at h
        · rename_i hh
          obtain ⟨hf, hsz, h0, hnm, hm1, hb⟩ := hh
          cases h
          obtain rfl := hl.int_inv
          obtain rfl := hc.int_inv
          have hzs : z.cells.size = ti.size := by simpa using hsz
          have hmade : (madeCells z.cells (m.toNat * ti.size)).toList = aZeros z.cells.toList m.toNat := by
            have := aZeros_made z.cells m.toNat; rwa [hzs] at this
          have hcell : ∀ (o : Nat) (v : Value), (aZeros z.cells.toList n.toNat)[o]? = some v → ∃ v', (madeCells z.cells (m.toNat * ti.size))[o]? = some v' ∧ VR ρ v v' := by
            intro o v hv
            have hfree := aZeros_free ρ (free_cells ρ hf) n.toNat
            refine ⟨v, ?_, hfree.2 o v v hv hv⟩
            rw [← Array.getElem?_toList, hmade, aZeros_get]
            rw [aZeros_get] at hv
            split at hv
            · rename_i hlt
              rw [if_pos (Nat.lt_of_lt_of_le hlt (Nat.mul_le_mul_right _ (by omega)))]; exact hv
            · cases hv
          obtain ⟨L, hL, hr, hm, hget⟩ := new_sound hR (e := e) (use := .row) (fz := (0, 0)) (by simp) (.inl rfl) hcell
          refine ⟨_, _, _, run_make w t e ti z ht hi hz kl kc n m h0 hnm hb (by omega), ?_, hr, hm⟩
          refine VR.slice hget (by omega) (.inr (by rw [hL])) (fun _ => ?_)
          subst hL
          simp only [eszOf, Program.cellsOf, hi, Option.map_some, Option.getD_some, size_madeCells]
          omega
        · cases h
      · cases h
    · cases h
  · cases h

theorem fieldAddr_sound {P : Program} {ρ : Loc} {A : Heap} {w : World} (hR : Rel P ρ A w) {t : TypeId} {f : Nat} {p p' v : Value} (h : aFieldAddr P t p f = some v) (hp : VR ρ p p') :
    GoesV P ρ A w (Instr.fieldAt t p' f) v A := by
  unfold aFieldAddr at h
  split at h
  · rename_i fields i o ht
    split at h
    · rename_i fd hfd
      split at h
      · rename_i ti hi
        split at h
        · cases h
        · rename_i hsz
          cases h
          obtain ⟨L, hL, rfl⟩ := hp.ptr_inv
          refine GoesV.same hR (v' := .pointer (some ⟨L.blk, L.off + o + fd.offset, none⟩)) ?_ ?_
          · simp [Instr.fieldAt, run_underlying ht, hfd, Instr.sureAddr, fieldPlace, run_sizeOf hi, hsz, add_eq]
          · rw [Nat.add_assoc]; exact .ptr hL
      · cases h
    · cases h
  · cases h

theorem indexAddr_sound {P : Program} {ρ : Loc} {A : Heap} {w : World} (hR : Rel P ρ A w) {t : TypeId} {x x' i i' v : Value} (h : aIndexAddr P t x i = some v) (hx : VR ρ x x') (hi : VR ρ i i') :
    GoesV P ρ A w (Instr.indexAt t x' i') v A := by
  unfold aIndexAddr at h
  split at h
  · rename_i e j o n c kk k ht
    split at h
    · rename_i ti hti
      split at h
      · rename_i hk
        cases h
        obtain rfl := hi.int_inv
        obtain ⟨L, p, c', hL, rfl, hn, hp, hb⟩ := hx.slice_inv
        obtain rfl : p = ⟨L.blk, L.off + o, none⟩ := hp.resolve_left (by omega)
        refine GoesV.same hR (v' := .pointer (some ⟨L.blk, L.off + o + k.toNat * ti.size, none⟩)) ?_ ?_
        · simp [Instr.indexAt, asIntOf, run_underlying ht, hk, run_sizeOf hti, add_eq]
        · rw [Nat.add_assoc]; exact .ptr hL
      · cases h
    · cases h
  · rename_i n e j o kk k ht
    split at h
    · rename_i ti hti
      split at h
      · rename_i hk
        cases h
        obtain rfl := hi.int_inv
        obtain ⟨L, hL, rfl⟩ := hx.ptr_inv
        refine GoesV.same hR (v' := .pointer (some ⟨L.blk, L.off + o + k.toNat * ti.size, none⟩)) ?_ ?_
        · simp [Instr.indexAt, asIntOf, run_underlying ht, Instr.sureAddr, hk, run_sizeOf hti, add_eq]
        · rw [Nat.add_assoc]; exact .ptr hL
      · cases h
    · cases h
  · cases h

def OptR (ρ : Loc) : Option Value → Option Value → Prop
  | none, none => True
  | some v, some v' => VR ρ v v'
  | _, _ => False

theorem bound_sound {ρ : Loc} {d l : Nat} {lo lo' : Option Value} (h : aBound d lo = some l) (hr : OptR ρ lo lo') : (lo' = none ∧ l = d) ∨ ∃ (k : IntKind) (n : Int), lo' = some (.int k n) ∧ 0 ≤ n ∧ l = n.toNat := by
  unfold aBound at h
  split at h
  · cases h
    cases lo' with
    | none => exact .inl ⟨rfl, rfl⟩
    | some v => exact hr.elim
  · split at h
    · cases h
      cases lo' with
      | none => exact hr.elim
      | some v => obtain rfl := VR.int_inv hr; exact .inr ⟨_, _, rfl, ‹_›, rfl⟩
    · cases h
  · cases h

theorem run_bounds (P : Program) (w : World) (b : Bool) (n cap l h : Nat) (lo hi : Option Value) (hlo : (lo = none ∧ l = 0) ∨ ∃ (k : IntKind) (n : Int), lo = some (.int k n) ∧ 0 ≤ n ∧ l = n.toNat)
    (hhi : (hi = none ∧ h = n) ∨ ∃ (k : IntKind) (n : Int), hi = some (.int k n) ∧ 0 ≤ n ∧ h = n.toNat) (hlh : l ≤ h) (hn : h ≤ n) (hc : n ≤ cap) :
    (Instr.sliceBounds b n cap lo hi none).run P w = .ok (l, h, cap) w := by
  have hh : (match hi with | some v => Instr.sliceBound v cap (if b then .sliceAcap else .sliceAlen) | none => pure n : Sem Nat).run P w = .ok h w := by
    rcases hhi with ⟨rfl, rfl⟩ | ⟨k, m, rfl, h0, rfl⟩
    · rfl
    · exact run_sliceBound w k m cap _ h0 (by omega)
  have hl : (match lo with | some v => Instr.sliceBound v h .sliceB | none => pure 0 : Sem Nat).run P w = .ok l w := by
    rcases hlo with ⟨rfl, rfl⟩ | ⟨k, m, rfl, h0, rfl⟩
    · rfl
    · exact run_sliceBound w k m h _ h0 (by omega)
  cases hi <;> cases lo <;> simp [Instr.sliceBounds] at hh hl ⊢ <;> simp [hh, hl]

theorem slice_sound {P : Program} {ρ : Loc} {A : Heap} {w : World} (hR : Rel P ρ A w) {t : TypeId} {x x' v : Value} {lo hi lo' hi' : Option Value} (h : aSlice P t x lo hi A = some v) (hx : VR ρ x x') (hlo : OptR ρ lo lo') (hhi : OptR ρ hi hi') :
    GoesV P ρ A w (Instr.sliceAt t x' lo' hi' none) v A := by
  unfold aSlice at h
  split at h
  · rename_i e i o n c ht
    split at h
    · rename_i ti l hh cs re use hti hl hh' hg
      split at h
      · rename_i hc
        obtain ⟨h1, h2, h3⟩ := hc
        cases h
        obtain ⟨L, p, c', hL, rfl, hn, hp, hb⟩ := hx.slice_inv
        obtain ⟨cs', e', fz, hblk, hcells, huse, hown⟩ := hR.row' hL hg
        refine GoesV.same hR (v' := .slice (if c' = l then some p else some (p.add (l * ti.size))) (hh - l) (c' - l)) ?_ ?_
        · have hbd := run_bounds P w true n c' l hh lo' hi' (bound_sound hl hlo) (bound_sound hh' hhi) h1 h2 hn
          simp [Instr.sliceAt, Instr.slice, run_underlying ht, hbd, run_sizeOf hti]
        · have hb2 : L.esz ≠ 0 → L.off + (o + l * ti.size) + (c' - l) * L.esz ≤ L.fin := by
            intro hne
            have hu : use = .row := by
              cases use with
              | row => rfl
              | ro => exact absurd (huse (by simp)) hne
              | var => exact absurd (huse (by simp)) hne
            obtain ⟨_, _, _, _, hrow⟩ := hown (by rw [hu]; simp)
            have e1 : L.esz = ti.size := by rw [hrow hu, h3 hu]
            have := hb hne
            rw [e1] at this ⊢
            have e2 : c' * ti.size = l * ti.size + (c' - l) * ti.size := by rw [← Nat.add_mul]; congr 1; omega
            omega
          by_cases hcl : c' = l
          · rw [if_pos hcl]
            exact .slice hL (by omega) (.inl (by omega)) hb2
          · rw [if_neg hcl]
            obtain rfl : p = ⟨L.blk, L.off + o, none⟩ := hp.resolve_left (by omega)
            exact .slice hL (by omega) (.inr (by rw [add_eq, Nat.add_assoc])) hb2
      · cases h
    · cases h
  · rename_i e ht
    split at h
    · rename_i ti hti hl hh'
      cases h
      have hx' : x' = .slice none 0 0 := hx.atom_eq rfl
      subst hx'
      refine GoesV.same hR (v' := .slice none 0 0) ?_ (.atom rfl)
      have hbd := run_bounds P w true 0 0 0 0 lo' hi' (bound_sound hl hlo) (bound_sound hh' hhi) (Nat.le_refl _) (Nat.le_refl _) (Nat.le_refl _)
      simp [Instr.sliceAt, Instr.slice, run_underlying ht, hbd, run_sizeOf hti]
    · cases h
  · rename_i n e i o ht
    have go : ∀ (ti : TypeInfo) (l hh : Nat) (cs : List Value) (re : TypeId) (use : Use), P.info? e = some ti → aBound 0 lo = some l → aBound n hi = some hh → hget A i = some (.cells cs re use) → use ≠ .row → l ≤ hh → hh ≤ n →
        GoesV P ρ A w (Instr.sliceAt t x' lo' hi' none) (.slice (some ⟨i, o + l * ti.size, none⟩) (hh - l) (hh - l)) A := by
      intro ti l hh cs re use hti hl hh' hg hu h1 h2
      obtain ⟨L, hL, rfl⟩ := hx.ptr_inv
      obtain ⟨cs', e', fz, hblk, hcells, huse, hown⟩ := hR.row' hL hg
      refine GoesV.same hR (v' := .slice (some (if n = l then ⟨L.blk, L.off + o, none⟩ else (⟨L.blk, L.off + o, none⟩ : Addr).add (l * ti.size))) (hh - l) (n - l)) ?_ ?_
      · have hbd := run_bounds P w false n n l hh lo' hi' (bound_sound hl hlo) (bound_sound hh' hhi) h1 h2 (Nat.le_refl _)
        simp [Instr.sliceAt, run_underlying ht, Instr.sureAddr, hbd, run_sizeOf hti]
      · refine .slice hL (by omega) ?_ (fun hne => absurd (huse hu) hne)
        by_cases hcl : n = l
        · exact .inl (by omega)
        · exact .inr (by rw [if_neg hcl, add_eq, Nat.add_assoc])
    split at h
    · rename_i ti l hh cs re hti hl hh' hg
      split at h
      · rename_i hc; cases h; exact go ti l hh cs re .var hti hl hh' hg (by simp) hc.1 hc.2
      · cases h
    · rename_i ti l hh cs re hti hl hh' hg
      split at h
      · rename_i hc; cases h; exact go ti l hh cs re .ro hti hl hh' hg (by simp) hc.1 hc.2
      · cases h
    · cases h
  · cases h

theorem part_sound {P : Program} {ρ : Loc} {w : World} {t : TypeId} {cs cs' : Array Value} {o : Nat} {v : Value} (h : aPart P t cs.toList o = some v) (hc : VRs ρ cs.toList cs'.toList) :
    ∃ v', (part t cs' o).run P w = .ok v' w ∧ VR ρ v v' := by
  unfold aPart at h
  split at h
  · cases h
  · rename_i d hd
    split at h
    · rename_i hagg
      split at h
      · cases h
      · rename_i i hi
        split at h
        · cases h
          refine ⟨.agg (cs'.extract o (o + i.size)), ?_, ?_⟩
          · simp [part, run_isAgg hd, hagg, run_sizeOf hi]
          · have := ((hc.drop o).take i.size).agg
            have e : cs'.extract o (o + i.size) = ((cs'.toList.drop o).take i.size).toArray := by
              apply Array.ext'
              simp
            rw [e]; exact this
        · cases h
    · rename_i hagg
      obtain ⟨v', hv', hr⟩ := hc.get h
      refine ⟨v', ?_, hr⟩
      have hagg' : descAgg d = false := by simpa using hagg
      simp at hv'
      simp [part, run_isAgg hd, hagg', hv']

theorem field_sound {P : Program} {ρ : Loc} {A : Heap} {w : World} (hR : Rel P ρ A w) {t : TypeId} {f : Nat} {x x' v : Value} (h : aField P t x f = some v) (hx : VR ρ x x') :
    GoesV P ρ A w (Instr.field t x' f) v A := by
  unfold aField at h
  split at h
  · rename_i fields cs ht
    split at h
    · rename_i fd hfd
      obtain ⟨cs', rfl, hcs⟩ := hx.agg_inv
      obtain ⟨v', hrun, hv⟩ := part_sound (w := w) h hcs
      exact GoesV.same hR (by simp [Instr.field, run_underlying ht, hfd, asAgg, hrun]) hv
    · cases h
  · cases h

theorem index_sound {P : Program} {ρ : Loc} {A : Heap} {w : World} (hR : Rel P ρ A w) {t : TypeId} {x x' i i' v : Value} (h : aIndex P t x i = some v) (hx : VR ρ x x') (hi : VR ρ i i') :
    GoesV P ρ A w (Instr.index t x' i') v A := by
  unfold aIndex at h
  split at h
  · rename_i n e cs kk k ht
    split at h
    · rename_i ti hti
      split at h
      · rename_i hk
        obtain rfl := hi.int_inv
        obtain ⟨cs', rfl, hcs⟩ := hx.agg_inv
        obtain ⟨v', hrun, hv⟩ := part_sound (w := w) h hcs
        exact GoesV.same hR (by simp [Instr.index, asIntOf, run_underlying ht, hk, run_sizeOf hti, hrun]) hv
      · cases h
    · cases h
  · rename_i s kk k ht
    obtain rfl := hi.int_inv
    obtain rfl := hx.string_inv
    split at h
    · rename_i hk
      cases hb : s.data.toList[k.toNat]? with
      | none => rw [hb] at h; cases h
      | some b =>
        rw [hb] at h
        cases h
        refine GoesV.same hR (v' := .int .u8 b.toNat) ?_ (.atom rfl)
        have hlt : k.toNat < s.data.size := by
          have := (List.getElem?_eq_some_iff.1 hb).1; simpa using this
        have hb' : s[k.toNat]? = some b := by
          have h2 : s.data[k.toNat]? = some b := by rw [← Array.getElem?_toList]; exact hb
          have h3 : s[k.toNat]? = some (s[k.toNat]'hlt) := getElem?_pos s k.toNat hlt
          rw [h3]
          have h4 := (Array.getElem?_eq_some_iff.1 h2).2
          exact congrArg some h4
        simp [Instr.index, asIntOf, run_underlying ht, hk, hb']
    · cases h
  · cases h
end Go.Abs
