/-
The abstract machine: every operation that it runs is what the model does.
-/
import Derived.Test.YtnhmokgakpknlaaGreatDoorAb8E
namespace Go.Abs
open Go

theorem pureVal_run {P : Program} : ∀ (e : Sem Next) (v : Value), pureVal P e = some v → ∀ w, e.run P w = .ok (.value v) w := by
  intro e
  induction e with
  | pure n => intro v h w; cases n <;> simp [pureVal] at h; subst h; rfl
  | program k ih => intro v h w; exact ih P v h w
  | mark m k ih => intro v h w; exact ih v h w
  | _ => intro v h; simp [pureVal] at h

def Goes (P : Program) (ρ : Loc) (A : Heap) (w : World) (s : Sem Next) (v : Value) (A' : Heap) : Prop :=
  ∃ n v' w' ρ', s.run P w = .ok n w' ∧ (n = .value v' ∨ (n = .skip ∧ v' = undef)) ∧ VR ρ' v v' ∧ Rel P ρ' A' w' ∧ Moves ρ A w ρ' A' w'

theorem GoesV.up {P : Program} {ρ : Loc} {A A' : Heap} {w : World} {s : Sem Value} {v : Value} (h : GoesV P ρ A w s v A') : Goes P ρ A w (do pure (.value (← s))) v A' := by
  obtain ⟨v', w', ρ', hr, hv, hR, hM⟩ := h
  exact ⟨.value v', v', w', ρ', by simp [hr], .inl rfl, hv, hR, hM⟩

section
variable {P : Program} {ρ : Loc} {G nt lim : Nat} {A A' : Heap} {w : World} {l : List Value} {a : Act} {v : Value}

theorem pure_sound {o : Oper} (E : ∀ x ∈ o.op.operands.toList, VR ρ (ev l x) (a.eval x)) (hR : Rel P ρ A w) (hok : okOper G nt o = true) (h : aPure P l o A = some (v, A')) : Goes P ρ A w (execOp a.eval o) v A' := by
  unfold aPure at h
  split at h
  · rename_i hall
    split at h
    · rename_i u hp
      split at h
      · rename_i hf
        cases h
        have hcong : execOp (ev l) o = execOp a.eval o := by
          refine execOp_congr o ?_ fun x hx => ?_
          · intro cs b hsel
            simp [okOper, hsel] at hok
          · have hx' : x ∈ o.op.operands.toList := by simpa using hx
            have h1 := List.all_eq_true.1 hall x hx'
            exact ((E x hx').free_eq h1).symm
        rw [hcong] at hp
        exact ⟨.value v, v, w, ρ, pureVal_run _ _ hp w, .inl rfl, VR.refl ρ hf, hR, Moves.refl _ _ _⟩
      · cases h
    · cases h
  · cases h

theorem range_sound (hR : Rel P ρ A w) {t : TypeId} {x x' : Value} (h : aRange P t x A = some (v, A')) (hx : VR ρ x x') : GoesV P ρ A w (Instr.range t x') v A' := by
  unfold aRange at h
  split at h
  · rename_i s ht
    cases h
    obtain rfl := hx.string_inv
    obtain ⟨hr, hm⟩ := hR.alloc (o := .stringIter s 0) (r := .iter s 0) (esz := 0) (fin := 0) ⟨heap_alloc_new w _, rfl⟩
    refine ⟨.pointer (some ⟨w.heap.size, 0, none⟩), _, _, ?_, ?_, hr, hm⟩
    · simp [Instr.range, run_underlying ht]
    · exact VR.ptr (o := 0) (Loc.put_self _ _ _)
  · cases h

theorem run_getObj' (P : Program) (w : World) (r : Nat) (s : ByteArray) (p : Nat) (h : w.heap[r]? = some (.stringIter s p)) : (getObj r).run P w = .ok (.stringIter s p) w := by
  simp [getObj, Sem.run, h]
theorem run_setObj' (P : Program) (w : World) (r : Nat) (s : ByteArray) (p : Nat) (o : Obj) (h : w.heap[r]? = some (.stringIter s p)) : (setObj r o).run P w = .ok () { w with heap := w.heap.setIfInBounds r o } := by
  simp [setObj, Sem.run, h]

theorem next_sound (hR : Rel P ρ A w) {ty : TypeId} {x x' : Value} {b : Bool} (h : aNext lim x b A = some (v, A')) (hx : VR ρ x x') : GoesV P ρ A w (Instr.next x' b ty) v A' := by
  unfold aNext at h
  split at h
  · rename_i i
    split at h
    · rename_i s pos hg
      split at h
      · rename_i hlim
        obtain ⟨L, hL, rfl⟩ := hx.ptr_inv
        obtain ⟨hblk, hoff⟩ := hR.row' hL hg
        have hget := run_getObj' P w L.blk s pos hblk
        split at h
        · rename_i hlt
          cases h
          obtain ⟨hr, hm⟩ := hR.setOwn (w' := { w with heap := w.heap.setIfInBounds L.blk (.stringIter s (pos + (Utf8.decode s pos).2)) }) (q' := .iter s (pos + (Utf8.decode s pos).2)) hg rfl rfl hL
            ⟨by have := (Array.getElem?_eq_some_iff.1 hblk).1; simp [this], hoff⟩ (fun k hk => by simp [Array.getElem?_setIfInBounds_ne (Ne.symm hk)]) (by simp)
          refine ⟨_, _, ρ, ?_, VR.refl ρ (by simp [freeB, atom2B, atomB]), hr, hm⟩
          have hset := run_setObj' P w L.blk s pos (.stringIter s (pos + (Utf8.decode s pos).2)) hblk
          simp [Instr.next, hoff, hget, hlt, hset, goInt]
        · rename_i hlt
          cases h
          exact GoesV.same hR (v' := .tuple #[.bool false]) (by simp [Instr.next, hoff, hget, hlt]) (VR.refl ρ (by simp [freeB, atom2B, atomB]))
      · cases h
    · cases h
  · cases h

theorem VRs.evs : ∀ (xs : List Operand), (∀ x ∈ xs, VR ρ (ev l x) (a.eval x)) → VRs ρ (xs.map (ev l)) (xs.map a.eval)
  | [], _ => VRs.nil ρ
  | x :: xs, h => VRs.cons (h x (by simp)) (VRs.evs xs fun y hy => h y (by simp [hy]))

theorem parts_ok (ps : Array (Nat × Operand)) (h : ∀ x ∈ ps.toList.map (·.2), VR ρ (ev l x) (a.eval x)) :
    (parts l ps).length = (ps.map fun (i, x) => (i, a.eval x)).toList.length ∧
    ∀ (k i : Nat) (v : Value) (i' : Nat) (v' : Value), (parts l ps)[k]? = some (i, v) → (ps.map fun (i, x) => (i, a.eval x)).toList[k]? = some (i', v') → i = i' ∧ VR ρ v v' := by
  refine ⟨by simp [parts], fun k i v i' v' h1 h2 => ?_⟩
  simp only [parts, List.getElem?_map, Array.toList_map] at h1 h2
  cases hk : ps.toList[k]? with
  | none => rw [hk] at h1; cases h1
  | some p =>
    obtain ⟨j, x⟩ := p
    rw [hk] at h1 h2
    cases h1; cases h2
    exact ⟨rfl, (h x (List.mem_map.2 ⟨(j, x), List.mem_of_getElem? hk, rfl⟩))⟩

theorem optEv {x : Option Operand} (h : ∀ y, x = some y → VR ρ (ev l y) (a.eval y)) : OptR ρ (x.map (ev l)) (x.map a.eval) := by
  cases x with
  | none => trivial
  | some y => exact h y rfl

theorem map_some {α β : Type} {x : Option α} {f : α → β} {y : β} (h : x.map f = some y) : ∃ z, x = some z ∧ f z = y := by
  cases x with
  | none => cases h
  | some z => exact ⟨z, rfl, by cases h; rfl⟩

theorem nilCheck_sound (hR : Rel P ρ A w) {o : Oper} {x : Operand} (ho : o.op = .nilCheck x) (h : aNilCheck (ev l x) = some v) (hx : VR ρ (ev l x) (a.eval x)) : Goes P ρ A w (execOp a.eval o) v A := by
  generalize hq : a.eval x = x' at hx
  have run : ∀ y, (∃ a, y = .pointer (some a)) ∨ (∃ k f c, y = .func (.func k) f c) ∨ (∃ a n c, y = .slice a n c) → a.eval x = y → (execOp a.eval o).run P w = .ok (.value y) w := by
    rintro y (⟨b, rfl⟩ | ⟨k, f, c, rfl⟩ | ⟨b, n, c, rfl⟩) hy <;> simp [execOp, ho, hy]
  unfold aNilCheck at h
  split at h
  · rename_i he
    rw [he] at hx
    cases h
    cases hx with
    | atom h => simp [atomB] at h
    | ptr hL => exact ⟨_, _, w, ρ, run _ (.inl ⟨_, rfl⟩) hq, .inl rfl, .ptr hL, hR, Moves.refl _ _ _⟩
  · rename_i he
    rw [he] at hx
    cases h
    cases hx with
    | atom h => simp [atomB] at h
    | func a b c d e => exact ⟨_, _, w, ρ, run _ (.inr (.inl ⟨_, _, _, rfl⟩)) hq, .inl rfl, .func a b c d e, hR, Moves.refl _ _ _⟩
  · rename_i he
    rw [he] at hx
    cases h
    cases hx with
    | atom h => exact ⟨_, _, w, ρ, run _ (.inr (.inr ⟨_, _, _, rfl⟩)) hq, .inl rfl, .atom h, hR, Moves.refl _ _ _⟩
    | slice a b c d => exact ⟨_, _, w, ρ, run _ (.inr (.inr ⟨_, _, _, rfl⟩)) hq, .inl rfl, .slice a b c d, hR, Moves.refl _ _ _⟩
  · cases h

set_option maxHeartbeats 1000000 in
theorem aOp_sound {o : Oper} (E : ∀ x ∈ o.op.operands.toList, VR ρ (ev l x) (a.eval x)) (hR : Rel P ρ A w) (hok : okOper G nt o = true) (h : aOp P lim l o A = some (v, A')) : Goes P ρ A w (execOp a.eval o) v A' := by
  have hp := fun hh => pure_sound (v := v) (A' := A') E hR hok hh
  obtain ⟨dst, op, type, pos, after, guard⟩ := o
  cases op
  case move x => cases h; exact ⟨_, _, w, ρ, rfl, .inl rfl, E x (by simp [Op.operands]), hR, Moves.refl _ _ _⟩
  case assign x => cases h; exact ⟨_, _, w, ρ, rfl, .inl rfl, E x (by simp [Op.operands]), hR, Moves.refl _ _ _⟩
  case pick c x y =>
    simp only [aOp] at h
    split at h
    · rename_i t hc
      cases h
      have hc' : a.eval c = .bool t := by have := E c (by simp [Op.operands]); rw [hc] at this; exact this.bool_inv
      refine ⟨.value (if t then a.eval x else a.eval y), _, w, ρ, by simp [execOp, hc', asBool], .inl rfl, ?_, hR, Moves.refl _ _ _⟩
      cases t
      · exact E y (by simp [Op.operands])
      · exact E x (by simp [Op.operands])
    · cases h
  case load t x =>
    obtain ⟨z, hz, he⟩ := map_some h
    cases he
    exact (load_sound hR hz (E x (by simp [Op.operands]))).up
  case store t x y =>
    obtain ⟨z, hz, he⟩ := map_some h
    cases he
    obtain ⟨w', hrun, hr, hm⟩ := store_sound hR hz (E x (by simp [Op.operands])) (E y (by simp [Op.operands]))
    exact ⟨.skip, undef, w', ρ, by simp [execOp, hrun], .inr ⟨rfl, rfl⟩, VR.undef ρ, hr, hm⟩
  case alloc t => exact (alloc_sound hR h).up
  case box t x => cases h; exact (box_sound hR (E x (by simp [Op.operands]))).up
  case build t ps =>
    obtain ⟨z, hz, he⟩ := map_some h
    cases he
    obtain ⟨h1, h2⟩ := parts_ok ps (fun x hx => E x (by simpa [Op.operands] using hx))
    exact (build_sound hR hz h1 h2).up
  case buildSlice t n ps =>
    obtain ⟨h1, h2⟩ := parts_ok ps (fun x hx => E x (by simpa [Op.operands] using hx))
    exact (buildSlice_sound hR h h1 h2).up
  case makeSlice t x c => exact (makeSlice_sound hR h (E x (by simp [Op.operands])) (E c (by simp [Op.operands]))).up
  case fieldAddr t x f =>
    obtain ⟨z, hz, he⟩ := map_some h
    cases he
    exact (fieldAddr_sound hR hz (E x (by simp [Op.operands]))).up
  case indexAddr t x i =>
    obtain ⟨z, hz, he⟩ := map_some h
    cases he
    exact (indexAddr_sound hR hz (E x (by simp [Op.operands])) (E i (by simp [Op.operands]))).up
  case slice t x lo hi mx =>
    cases mx with
    | some m => simp [aOp] at h
    | none =>
      simp only [aOp] at h
      split at h
      · exact hp h
      · obtain ⟨z, hz, he⟩ := map_some h
        cases he
        exact (slice_sound hR hz (E x (by simp [Op.operands])) (optEv fun y hy => E y (by simp [Op.operands, hy])) (optEv fun y hy => E y (by simp [Op.operands, hy]))).up
  case field t x f =>
    obtain ⟨z, hz, he⟩ := map_some h
    cases he
    exact (field_sound hR hz (E x (by simp [Op.operands]))).up
  case index t x i =>
    obtain ⟨z, hz, he⟩ := map_some h
    cases he
    exact (index_sound hR hz (E x (by simp [Op.operands])) (E i (by simp [Op.operands]))).up
  case extract x i =>
    simp only [aOp] at h
    split at h
    · rename_i vs hvs
      obtain ⟨z, hz, he⟩ := map_some h
      cases he
      have hx := E x (by simp [Op.operands])
      rw [hvs] at hx
      obtain ⟨vs', he, hvv⟩ := hx.tuple_inv
      obtain ⟨v', hv', hr⟩ := hvv.get hz
      have hv2 : vs'[i]? = some v' := by rw [← Array.getElem?_toList]; exact hv'
      exact GoesV.up (GoesV.same hR (by simp [he, Instr.extract, hv2]) hr)
    · cases h
  case makeFunc fn f c =>
    simp only [aOp] at h
    split at h
    · rename_i hy
      cases h
      have e1 := VRs.evs f.toList (fun x hx => E x (by simp [Op.operands]; exact .inl (by simpa using hx)))
      have e2 := VRs.evs c.toList (fun x hx => E x (by simp [Op.operands]; exact .inr (by simpa using hx)))
      refine GoesV.up (GoesV.same hR (v' := .func fn (f.map a.eval) (c.map a.eval)) (by simp [Instr.makeFunc]) (.func hy (by simp) (by simp) (by simpa using e1.2) (by simpa using e2.2)))
    · cases h
  case makeInterface t x =>
    simp only [aOp] at h
    split at h
    · rename_i hc
      cases h
      exact GoesV.up (GoesV.same hR (run_makeInterface w t _ hc) (.iface (E x (by simp [Op.operands]))))
    · cases h
  case nilCheck x =>
    obtain ⟨z, hz, he⟩ := map_some h
    cases he
    exact nilCheck_sound hR rfl hz (E x (by simp [Op.operands]))
  case range t x => exact (range_sound hR h (E x (by simp [Op.operands]))).up
  case next x b => exact (next_sound hR h (E x (by simp [Op.operands]))).up
  case makeMap t r => exact (makeMap_sound hR h (optEv fun y hy => E y (by simp [Op.operands, hy]))).up
  case lookup t x k b =>
    obtain ⟨z, hz, he⟩ := map_some h
    cases he
    exact (lookup_sound hR hz (E x (by simp [Op.operands])) (E k (by simp [Op.operands]))).up
  case mapUpdate t m k x =>
    obtain ⟨z, hz, he⟩ := map_some h
    cases he
    obtain ⟨w', hrun, hr, hm⟩ := mapUpdate_sound hR hz (E m (by simp [Op.operands])) (E k (by simp [Op.operands])) (E x (by simp [Op.operands]))
    exact ⟨.skip, undef, w', ρ, by simp [execOp, hrun], .inr ⟨rfl, rfl⟩, VR.undef ρ, hr, hm⟩
  case insert t m k x =>
    obtain ⟨z, hz, he⟩ := map_some h
    cases he
    obtain ⟨w', hrun, hr, hm⟩ := mapUpdate_sound hR hz (E m (by simp [Op.operands])) (E k (by simp [Op.operands])) (E x (by simp [Op.operands]))
    exact ⟨.skip, undef, w', ρ, by simp [execOp, hrun], .inr ⟨rfl, rfl⟩, VR.undef ρ, hr, hm⟩
  case convert s d x =>
    simp only [aOp] at h
    split at h <;> split at h <;> first | exact hp h | exact (convert_sound hR h (E x (by simp [Op.operands]))).up
  case binOp op t x y u =>
    have eqs : ∀ {b : Bool}, aEqNil P t (ev l x) (ev l y) = some b → _ := fun {b} hb => eqNil_run (w := w) hb (E x (by simp [Op.operands])) (E y (by simp [Op.operands])) x y
    have eqa : ∀ {b : Bool}, aEqAgg P t (ev l x) (ev l y) = some b → _ := fun {b} hb => eqAgg_run (w := w) hb (E x (by simp [Op.operands])) (E y (by simp [Op.operands])) x y
    cases op <;> simp only [aOp] at h <;> try exact hp h
    case eql =>
      split at h
      · rename_i b hb
        cases h
        exact GoesV.up (GoesV.same hR (eqs hb).1 (.atom rfl))
      · split at h
        · rename_i b hb
          cases h
          exact GoesV.up (GoesV.same hR (eqa hb).1 (.atom rfl))
        · exact hp h
    case neq =>
      split at h
      · rename_i b hb
        cases h
        exact GoesV.up (GoesV.same hR (eqs hb).2 (.atom rfl))
      · split at h
        · rename_i b hb
          cases h
          exact GoesV.up (GoesV.same hR (eqa hb).2 (.atom rfl))
        · exact hp h
  case unOp op t x => exact hp h
  case call c =>
    obtain ⟨callee, args, ats⟩ := c
    cases callee with
    | value f => simp [aOp] at h
    | invoke r m => simp [aOp] at h
    | builtin b =>
      have two : ∀ {x y : Operand}, args.toList = [x, y] → args = #[x, y] := fun h => by apply Array.ext'; simpa using h
      have one : ∀ {x : Operand}, args.toList = [x] → args = #[x] := fun h => by apply Array.ext'; simpa using h
      cases b <;> try (simp only [aOp] at h; exact hp h)
      case append =>
        simp only [aOp] at h
        split at h
        · rename_i x y hxy
          obtain rfl := two hxy
          have := append_sound (ty := type) (s := ev l x) (s' := a.eval x) (x := ev l y) (x' := a.eval y) hR h (E x (by simp [Op.operands, Call.operands])) (E y (by simp [Op.operands, Call.operands]))
          have h2 := this.up
          simpa [execOp, resolve, invoke, builtin] using h2
        · cases h
      case copy =>
        simp only [aOp] at h
        split at h
        · rename_i x y hxy
          obtain rfl := two hxy
          have h2 := (copy_sound (ty := type) hR h (E x (by simp [Op.operands, Call.operands])) (E y (by simp [Op.operands, Call.operands]))).up
          simpa [execOp, resolve, invoke, builtin] using h2
        · cases h
      case len =>
        simp only [aOp] at h
        split at h
        · rename_i x hxy
          obtain rfl := one hxy
          obtain ⟨z, hz, he⟩ := map_some h
          cases he
          have h2 := (len_sound (ty := type) hR hz (E x (by simp [Op.operands, Call.operands]))).up
          simpa [execOp, resolve, invoke, builtin] using h2
        · cases h
      case unsafeSliceData =>
        simp only [aOp] at h
        split at h
        · rename_i x hxy
          obtain rfl := one hxy
          obtain ⟨z, hz, he⟩ := map_some h
          cases he
          have h2 := (sliceData_sound (ats := ats) (ty := type) hR hz (E x (by simp [Op.operands, Call.operands]))).up
          simpa [execOp, resolve, invoke, builtin] using h2
        · cases h
      case unsafeString =>
        simp only [aOp] at h
        split at h
        · rename_i x y hxy
          obtain rfl := two hxy
          have h2 := (unsafeString_sound (ty := type) hR h (E x (by simp [Op.operands, Call.operands])) (E y (by simp [Op.operands, Call.operands]))).up
          simpa [execOp, resolve, invoke, builtin] using h2
        · cases h
  all_goals simp [aOp] at h
end
end Go.Abs
