/-
The abstract machine: each operation is what the model does. Fifth part: the rest, and all of them.
-/
import Derived.Test.YtnhmokgakpknlaaGreatDoorAb7
import Derived.Laws.BytesArg
import Derived.Laws.NewFold
import Derived.Lib.Builder
import Derived.Lib.UnsafeStr
namespace Go.Abs
open Go

theorem hset_self (A : Heap) (i : Nat) (r : ARow) (h : hget A i = some r) : hset A i (some r) = A := by
  induction A generalizing i with
  | nil => rfl
  | cons x A ih => cases i with
    | zero => simp [] at h; simp [h]
    | succ i => simp [] at h; simp [ih i h]

theorem copy_sound {P : Program} {ρ : Loc} {A A' : Heap} {w : World} {lim : Nat} (hR : Rel P ρ A w) {ats : Array TypeId} {ty : TypeId} {d d' x x' v : Value} (h : aCopy P lim ats d x A = some (v, A')) (hd : VR ρ d d') (hx : VR ρ x x') :
    GoesV P ρ A w (Builtin.copy_ ats ty #[d', x']) v A' := by
  unfold aCopy at h
  split at h
  · rename_i t h0
    split at h
    · rename_i e ht
      split at h
      · rename_i ti hi
        split at h
        · rename_i m cells hco
          obtain ⟨a, c, new', rfl, hnew, hnl, hcell, hnone⟩ := cellsOf_sound hR hco hx
          split at h
          · cases h
            obtain rfl : d' = .slice none 0 0 := hd.atom_eq rfl
            refine GoesV.same hR (v' := .int .i64 0) ?_ (.atom rfl)
            have hf : (Builtin.firstCells ti.size 0 (.slice a m c)).run P w = .ok #[] w := by
              cases a with
              | none => simp [Builtin.firstCells]
              | some a =>
                have := run_firstCells_some (P := P) w ti.size 0 a m c [] (by simp) (fun j v h => by simp at h)
                simpa using this
            simp [Builtin.copy_, h0, run_underlying ht, Builtin.lenOf, run_sizeOf hi, hf, goInt]
          · rename_i i o n cc
            split at h
            · rename_i cs re use hg
              split at h
              · rename_i hh
                obtain ⟨hu, hlim, hfit, hone⟩ := hh
                cases h
                obtain ⟨L, p, c', hL, rfl, hn, hp, hb⟩ := hd.slice_inv
                have hk : Nat.min m n * ti.size ≤ m * ti.size := Nat.mul_le_mul_right _ (Nat.min_le_left _ _)
                have hlenk : (cells.take (Nat.min m n * ti.size)).length = Nat.min m n * ti.size := by
                  have := hnew.1
                  simp; omega
                have hf : (Builtin.firstCells ti.size (Nat.min m n) (.slice a m c)).run P w = .ok (new'.take (Nat.min m n * ti.size)).toArray w := by
                  cases a with
                  | none =>
                    have hm0 := hnone rfl
                    subst hm0
                    have : new' = [] := List.length_eq_zero_iff.1 (by rw [hnl]; simp)
                    subst this
                    simp [Builtin.firstCells]
                  | some a =>
                    refine run_firstCells_some (P := P) w ti.size _ a m c _ (by simp; omega) (fun j v hj => ?_)
                    rw [List.getElem?_take] at hj
                    split at hj
                    · exact hcell a rfl j v hj
                    · cases hj
                obtain ⟨w', hst, hr, hm⟩ := write_sound hR hg hu hL (hnew.take (Nat.min m n * ti.size)) (by rw [hlenk]; exact hfit) (List.all_eq_true.2 fun v hv => List.all_eq_true.1 hone v (List.mem_of_mem_take hv))
                refine ⟨.int .i64 (Nat.min m n : Nat), w', ρ, ?_, .atom rfl, hr, hm⟩
                rcases hp with hc0 | rfl
                · have hn0 : n = 0 := by omega
                  subst hn0
                  have e0 : Nat.min m 0 = 0 := Nat.min_zero m
                  rw [e0] at hst hf ⊢
                  simp at hf hst
                  have hst' : (storeCells p ([] : List Value)).run P w = .ok () w := rfl
                  have hw : w' = w := by
                    have h1 : (storeCells ⟨L.blk, L.off + o, none⟩ ([] : List Value)).run P w = .ok () w := rfl
                    rw [h1] at hst; cases hst; rfl
                  subst hw
                  simp [Builtin.copy_, h0, run_underlying ht, Builtin.lenOf, run_sizeOf hi, hf, goInt, hst', e0]
                · simp [Builtin.copy_, h0, run_underlying ht, Builtin.lenOf, run_sizeOf hi, hf, hst, goInt]
              · cases h
            · cases h
          · cases h
        · cases h
      · cases h
    · cases h
  · cases h

theorem eqNil_run {P : Program} {ρ : Loc} {w : World} {t : TypeId} {x x' y y' : Value} {b : Bool} (h : aEqNil P t x y = some b) (hx : VR ρ x x') (hy : VR ρ y y') (u v : Operand) :
    (do eqGuard .eql t u v x' y'; binOp .eql t x' y').run P w = .ok (.bool b) w ∧ (do eqGuard .neq t u v x' y'; binOp .neq t x' y').run P w = .ok (.bool !b) w := by
  have key : ∀ {x' y' : Value}, (∀ d, (Op.equalIn (d + 1) t x' y').run P w = .ok b w) → (∀ a c, ¬ (x' = .agg a ∧ y' = .agg c)) → ¬ (x' = .nilIface ∧ y' = .nilIface) → (binOp .eql t x' y' = do pure (.bool (← Op.equal t x' y'))) → (binOp .neq t x' y' = do pure (.bool (!(← Op.equal t x' y')))) →
      (do eqGuard .eql t u v x' y'; binOp .eql t x' y').run P w = .ok (.bool b) w ∧ (do eqGuard .neq t u v x' y'; binOp .neq t x' y').run P w = .ok (.bool !b) w := by
    intro x' y' he hagg hnil h1 h2
    have he' : (Op.equal t x' y').run P w = .ok b w := he 9999
    have g : ∀ op, (op = .eql ∨ op = .neq) → (eqGuard op t u v x' y').run P w = .ok () w := by
      intro op hop
      rcases hop with rfl | rfl <;> unfold eqGuard <;> simp <;> split <;> simp_all
    rw [h1, h2]
    simp [g .eql (.inl rfl), g .neq (.inr rfl), he']
  unfold aEqNil at h
  split at h
  · rename_i e a ht
    cases h
    cases hx with
    | atom h => simp [atomB] at h
    | ptr hL =>
      obtain rfl : y' = .pointer none := hy.atom_eq rfl
      exact key (fun d => by simp [Op.equalIn, run_underlying ht]) (by simp) (by simp) rfl rfl
  · rename_i e a ht
    cases h
    cases hy with
    | atom h => simp [atomB] at h
    | ptr hL =>
      obtain rfl : x' = .pointer none := hx.atom_eq rfl
      exact key (fun d => by simp [Op.equalIn, run_underlying ht]) (by simp) (by simp) rfl rfl
  · rename_i e a n c n' c' ht
    cases h
    cases hx with
    | atom h => simp [atomB] at h
    | slice hL =>
      obtain rfl : y' = .slice none n' c' := hy.atom_eq rfl
      exact key (fun d => by simp [Op.equalIn, run_underlying ht]) (by simp) (by simp) rfl rfl
  · rename_i e n c a n' c' ht
    cases h
    cases hy with
    | atom h => simp [atomB] at h
    | slice hL =>
      obtain rfl : x' = .slice none n c := hx.atom_eq rfl
      exact key (fun d => by simp [Op.equalIn, run_underlying ht]) (by simp) (by simp) rfl rfl
  · rename_i ps rs vv fn f c ht
    cases h
    obtain rfl : x' = .nilFunc := hx.atom_eq rfl
    cases hy with
    | atom h => simp [atomB] at h
    | func => exact key (fun d => by simp [Op.equalIn, run_underlying ht]) (by simp) (by simp) rfl rfl
    | yield => exact key (fun d => by simp [Op.equalIn, run_underlying ht]) (by simp) (by simp) rfl rfl
  · rename_i ps rs vv fn f c ht
    cases h
    obtain rfl : y' = .nilFunc := hy.atom_eq rfl
    cases hx with
    | atom h => simp [atomB] at h
    | func => exact key (fun d => by simp [Op.equalIn, run_underlying ht]) (by simp) (by simp) rfl rfl
    | yield => exact key (fun d => by simp [Op.equalIn, run_underlying ht]) (by simp) (by simp) rfl rfl
  · rename_i ms tt vv ht
    cases h
    obtain rfl : x' = .nilIface := hx.atom_eq rfl
    cases hy with
    | atom h => simp [atomB] at h
    | iface => exact key (fun d => by simp [Op.equalIn, run_underlying ht]) (by simp) (by simp) rfl rfl
  · rename_i ms tt vv ht
    cases h
    obtain rfl : y' = .nilIface := hy.atom_eq rfl
    cases hx with
    | atom h => simp [atomB] at h
    | iface => exact key (fun d => by simp [Op.equalIn, run_underlying ht]) (by simp) (by simp) rfl rfl
  · rename_i kt vt m ht
    cases h
    obtain rfl : y' = .map none := hy.atom_eq rfl
    cases hx with
    | atom h => simp [atomB] at h
    | map => exact key (fun d => by simp [Op.equalIn, run_underlying ht]) (by simp) (by simp) rfl rfl
  · rename_i kt vt m ht
    cases h
    obtain rfl : x' = .map none := hx.atom_eq rfl
    cases hy with
    | atom h => simp [atomB] at h
    | map => exact key (fun d => by simp [Op.equalIn, run_underlying ht]) (by simp) (by simp) rfl rfl
  · rename_i te i o j p ht
    split at h
    · rename_i hc
      obtain ⟨rfl, rfl, hinfo⟩ := hc
      cases h
      obtain ⟨ti, hti⟩ := Option.isSome_iff_exists.1 hinfo
      obtain ⟨L, hL, rfl⟩ := hx.ptr_inv
      obtain ⟨L', hL', rfl⟩ := hy.ptr_inv
      rw [hL] at hL'; cases hL'
      exact key (fun d => by simp [Op.equalIn, run_underlying ht, sizeOf, typeInfo, hti, run_sameAddr_same]) (by simp) (by simp) rfl rfl
    · cases h
  · cases h

theorem len_sound {P : Program} {ρ : Loc} {A : Heap} {w : World} (hR : Rel P ρ A w) {ats : Array TypeId} {ty : TypeId} {x x' v : Value} (h : aLen P ats x = some v) (hx : VR ρ x x') :
    GoesV P ρ A w (Builtin.len_ ats ty #[x']) v A := by
  unfold aLen at h
  split at h
  · rename_i t h0
    split at h
    · rename_i e a n c ht
      cases h
      have : ∃ a' c', x' = .slice a' n c' := by
        cases hx with
        | atom h => cases a <;> simp [atomB] at h; exact ⟨_, _, rfl⟩
        | slice => exact ⟨_, _, rfl⟩
      obtain ⟨a', c', rfl⟩ := this
      exact GoesV.same hR (v' := .int .i64 n) (by simp [Builtin.len_, h0, run_underlying ht, goInt]) (.atom rfl)
    · rename_i n e ht
      cases h
      refine GoesV.same hR (v' := .int .i64 n) ?_ (.atom rfl)
      cases x' <;> simp [Builtin.len_, h0, run_underlying ht, goInt]
    · rename_i s ht
      cases h
      obtain rfl := hx.string_inv
      exact GoesV.same hR (v' := .int .i64 s.size) (by simp [Builtin.len_, h0, run_underlying ht, goInt]) (.atom rfl)
    · cases h
  · cases h

theorem aBytes_cells : ∀ (cells : List Value) (l : List UInt8), aBytes cells = some l → ∃ ns : List Int, cells = ns.map (Value.int .u8) ∧ l = ns.map fun n => UInt8.ofNat n.toNat
  | [], l, h => by cases h; exact ⟨[], rfl, rfl⟩
  | v :: cells, l, h => by
    unfold aBytes at h
    split at h
    · rename_i heq; cases heq
    · rename_i n l' heq
      cases heq
      cases hb : aBytes cells with
      | none => rw [hb] at h; cases h
      | some l2 =>
        rw [hb] at h
        cases h
        obtain ⟨ns, rfl, rfl⟩ := aBytes_cells cells l2 hb
        exact ⟨n :: ns, rfl, rfl⟩
    · cases h

theorem foldl_push (ns : List Int) : ∀ b : ByteArray, ns.foldl (fun r n => r.push (UInt8.ofNat n.toNat)) b = ⟨b.data ++ (ns.map fun n => UInt8.ofNat n.toNat).toArray⟩ := by
  induction ns with
  | nil => intro b; simp
  | cons n ns ih =>
    intro b
    rw [List.foldl_cons, ih]
    congr 1
    apply Array.ext'
    simp [ByteArray.push]

theorem freeze_alloc (w : World) (c : Array Value) (e : TypeId) (n : Nat) : (w.alloc (.cells c e)).freeze ⟨w.heap.size, n, none⟩ 1 = w.alloc (.cells c e (n, n + 1)) := by
  have h : ∀ (h : Array Obj) (o : Obj) (f : Obj → Obj), (h.push o).modify h.size f = h.push (f o) := by
    intro h o f
    apply Array.ext_getElem?
    intro i
    rw [Array.getElem?_modify, Array.getElem?_push, Array.getElem?_push]
    by_cases hi : h.size = i
    · subst hi; simp
    · have : ¬ i = h.size := fun e => hi e.symm
      simp [hi, this]
  simp only [World.freeze, World.alloc, Nat.one_ne_zero, if_false, h]
  simp
theorem shape_alloc (w : World) (c : Array Value) (e : TypeId) : (w.alloc (.cells c e)).shape? w.heap.size = some (e, c.size) := by
  simp only [World.shape?, heap_alloc_new]
theorem run_stringToBytes (P : Program) (w : World) (e : TypeId) (s : ByteArray) : (Conv.stringToBytes e s).run P w = .ok (.slice (some ⟨w.heap.size, 0, none⟩) s.size (grownCap w s.size 0 e))
    (w.drew.alloc (.cells ((s.data.map fun (b : UInt8) => (Value.int .u8 b.toNat)) ++ Array.replicate (grownCap w s.size 0 e - s.size) (Value.int .u8 0)) e (grownCap w s.size 0 e, grownCap w s.size 0 e + 1))) := by
  have hge := grownCap_ge w s.size 0 e
  have hlen : s.data.size = s.size := rfl
  have hsize : ((s.data.map fun (b : UInt8) => (Value.int .u8 b.toNat)) ++ Array.replicate (grownCap w s.size 0 e - s.size) (Value.int .u8 0)).size = grownCap w s.size 0 e := by
    simp [hlen]; omega
  have hsh := shape_alloc w.drew ((s.data.map fun (b : UInt8) => (Value.int .u8 b.toNat)) ++ Array.replicate (grownCap w s.size 0 e - s.size) (Value.int .u8 0)) e
  have hfr := freeze_alloc w.drew ((s.data.map fun (b : UInt8) => (Value.int .u8 b.toNat)) ++ Array.replicate (grownCap w s.size 0 e - s.size) (Value.int .u8 0)) e (grownCap w s.size 0 e)
  rw [hsize] at hsh
  have hch : (choose (.appendCap s.size 0 e)).run P w = .ok (grownCap w s.size 0 e) w.drew := by
    simp [run_choose, Question.forced, grownCap]
  unfold Conv.stringToBytes
  simp only [Sem.run_bind, hch, Result.andThen_ok, newRow, Functor.map_map, Sem.run_map, run_newObj_alloc, markStringish, run_shape, bind_assoc, pure_bind, Sem.run_pure]
  simp only [hsh, Sem.run_bind, run_freeze, hfr, Result.andThen_ok, Sem.run_pure]
  rfl

theorem hset_same {A : Heap} {i : Nat} {r : ARow} (h : hget A i = some r) : hset A i (some r) = A := by
  induction A generalizing i with
  | nil => simp [] at h
  | cons x A ih => cases i with
    | zero => simp [] at h; subst h; rfl
    | succ i => rw [hset_succ, ih (by simpa using h)]

theorem run_convert_same (w : World) {P : Program} (src : TypeId) (e0 e : TypeId) (a : Addr) (n c : Nat) (hs : P.underlying src = some (.slice e)) (he : P.underlying e = some (.int .u8)) {cs : Array Value} {el : TypeId} {fz : Nat × Nat} (hw : w.heap[a.block]? = some (.cells cs el fz)) :
    (convert src src (.slice (some a) n c)).run P w = .ok (.slice (some a) n c) (w.freeze ⟨a.block, cs.size, none⟩ 1) := by
  have hsh : w.shape? a.block = some (el, cs.size) := by simp [World.shape?, hw]
  simp [convert, run_underlying hs, run_underlying he, markStringish, hsh]

theorem freeze_get (w : World) (b m : Nat) {cs : Array Value} {el : TypeId} {fz : Nat × Nat} (hw : w.heap[b]? = some (.cells cs el fz)) (hf : fzOK fz cs.size) (hm : m = cs.size) :
    (∃ fz', (w.freeze ⟨b, m, none⟩ 1).heap[b]? = some (.cells cs el fz') ∧ fzOK fz' cs.size) ∧ (∀ b', b' ≠ b → (w.freeze ⟨b, m, none⟩ 1).heap[b']? = w.heap[b']?) ∧ (w.freeze ⟨b, m, none⟩ 1).heap.size = w.heap.size := by
  obtain ⟨lo, hi⟩ := fz
  refine ⟨?_, fun b' hb => ?_, by simp [World.freeze]⟩
  · have hlt := (Array.getElem?_eq_some_iff.1 hw).1
    refine ⟨if lo == hi then (m, m + 1) else (min lo m, max hi (m + 1)), ?_, ?_⟩
    · simp [World.freeze, Array.getElem?_modify, hw]
    · subst hm
      split
      · exact .inr (Nat.le_refl _)
      · rename_i hne
        rcases hf with h | h
        · cases h; simp at hne
        · right; simp at h ⊢; omega
  · simp [World.freeze, Array.getElem?_modify, Ne.symm hb]

theorem rowAt_mono {P : Program} {fits : TypeId → Bool} : ∀ {d e count count' off n : Nat}, count ≤ count' → rowAt P fits d e count off n = true → rowAt P fits d e count' off n = true
  | 0, _, _, _, _, _, _, h => by simp [rowAt] at h
  | d + 1, e, count, count', off, n, hc, h => by
    simp only [rowAt] at h ⊢
    split
    · rename_i h0; rw [if_pos h0] at h; exact h
    · rename_i h0
      rw [if_neg h0] at h
      simp only [Bool.or_eq_true, Bool.and_eq_true, decide_eq_true_eq] at h ⊢
      rcases h with ⟨⟨h1, h2⟩, h3⟩ | ⟨h1, h2⟩
      · exact .inl ⟨⟨h1, by omega⟩, h3⟩
      · exact .inr ⟨by omega, h2⟩
theorem liesAt_mono {P : Program} {e count count' off u n : Nat} (hc : count ≤ count') : ∀ {d : Nat}, liesAt P d e count off u n = true → liesAt P d e count' off u n = true := by
  intro d
  induction d generalizing u n with
  | zero => intro h; simp [liesAt] at h
  | succ d ih =>
    intro h
    simp only [liesAt, Bool.or_eq_true] at h ⊢
    rcases h with h | h
    · exact .inl (rowAt_mono hc h)
    · right
      split at h
      · rename_i m u' hu; exact ih h
      · cases h

theorem convert_sound {P : Program} {ρ : Loc} {A A' : Heap} {w : World} (hR : Rel P ρ A w) {src dst : TypeId} {x x' v : Value} (h : aConvert P src dst x A = some (v, A')) (hx : VR ρ x x') :
    GoesV P ρ A w (convert src dst x') v A' := by
  unfold aConvert at h
  split at h
  · rename_i x0 e hs hd
    split at h
    · rename_i m cells he hco
      cases hb : aBytes cells with
      | none => rw [hb] at h; cases h
      | some l =>
        rw [hb] at h
        cases h
        obtain ⟨a, c, new', rfl, hnew, hnl, hcell, hnone⟩ := cellsOf_sound hR hco hx
        obtain ⟨ns, rfl, rfl⟩ := aBytes_cells cells l hb
        obtain rfl : new' = ns.map (Value.int .u8) := hnew.atoms_eq (by simp [atomB])
        refine GoesV.same hR (v' := .string ⟨(ns.map fun n => UInt8.ofNat n.toNat).toArray⟩) ?_ (.atom rfl)
        rw [run_convert_bytes_string w src dst e a m c hs he hd]
        cases a with
        | none =>
          have := hnone rfl
          subst this
          have : ns = [] := by
            cases ns with
            | nil => rfl
            | cons => simp at hnl
          subst this
          simp [Conv.bytesToString]
          rfl
        | some a =>
          have hl := run_loadCells_list (P := P) w a (ns.map (Value.int .u8)) (hcell a rfl)
          rw [hnl, Nat.mul_one] at hl
          rw [run_bytesToString w a m c ns hl, foldl_push]
          simp [ByteArray.empty, ByteArray.emptyWithCapacity]
          rfl
    · cases h
  · rename_i e s hs hd
    split at h
    · rename_i ti he hi
      split at h
      · rename_i hsz
        cases h
        obtain rfl := hx.string_inv
        have hcof : P.cellsOf e = 1 := by simp [Program.cellsOf, hi, hsz]
        have hge := grownCap_ge w s.size 0 e
        have hlen : s.data.size = s.size := rfl
        obtain ⟨hR1, hM1⟩ := hR.heap (w' := w.drew) rfl
        obtain ⟨L, hL, hr, hm, hget⟩ := new_sound hR1 (e := e) (use := .row) (cs := s.data.toList.map fun (b : UInt8) => (Value.int .u8 b.toNat))
          (cs' := (s.data.map fun (b : UInt8) => (Value.int .u8 b.toNat)) ++ Array.replicate (grownCap w s.size 0 e - s.size) (Value.int .u8 0)) (fz := (grownCap w s.size 0 e, grownCap w s.size 0 e + 1)) (by simp)
          (.inr (by simp [hlen]; omega)) (fun o v hv => by
            refine ⟨v, ?_, ?_⟩
            · rw [Array.getElem?_append_left (by have := (List.getElem?_eq_some_iff.1 hv).1; simpa using this)]
              rw [← Array.getElem?_toList, Array.toList_map]; exact hv
            · rw [List.getElem?_map] at hv
              cases hb : s.data.toList[o]? with
              | none => rw [hb] at hv; cases hv
              | some b => rw [hb] at hv; cases hv; exact .atom rfl)
        have hrun : (convert src dst (.string s)).run P w = .ok (.slice (some ⟨w.heap.size, 0, none⟩) s.size (grownCap w s.size 0 e))
            (w.drew.alloc (.cells ((s.data.map fun (b : UInt8) => (Value.int .u8 b.toNat)) ++ Array.replicate (grownCap w s.size 0 e - s.size) (Value.int .u8 0)) e (grownCap w s.size 0 e, grownCap w s.size 0 e + 1))) := by
          have hcv : (convert src dst (.string s)).run P w = (Conv.stringToBytes e s).run P w := by simp [convert, run_underlying hs, run_underlying hd, run_underlying he]
          rw [hcv, run_stringToBytes]
        refine ⟨_, _, _, hrun, ?_, hr, hM1.trans hm⟩
        refine .slice hget hge (.inr (by rw [hL]; rfl)) (fun _ => ?_)
        subst hL
        simp only [eszOf, hcof, Array.size_append, Array.size_map, Array.size_replicate, hlen]
        omega
      · cases h
    · cases h
  · rename_i e0 e i o n c hs hd
    split at h
    · rename_i cs el u he hg
      split at h
      · rename_i hcond
        obtain ⟨rfl, hn, hu⟩ := hcond
        cases h
        obtain ⟨L, p, c', hL, rfl, h1, h2, h3⟩ := hx.slice_inv
        have hp : p = ⟨L.blk, L.off + o, none⟩ := by
          rcases h2 with h2 | h2
          · omega
          · exact h2
        subst hp
        obtain ⟨cs', e', fz, hb, hcells, hse, hrest⟩ := hR.row i _ L hg hL
        obtain ⟨r1, r2, r3, r4, r5⟩ := hrest hu
        subst r1
        obtain ⟨⟨fz', f1, f2⟩, f3, f4⟩ := freeze_get w L.blk cs'.size hb r3 rfl
        have own : ARow.isOwn (.cells cs e' u) = true := by cases u <;> simp_all [ARow.isOwn]
        obtain ⟨g1, g2⟩ := hR.setOwn hg own own hL (w' := w.freeze ⟨L.blk, cs'.size, none⟩ 1) ⟨cs', e', fz', f1, hcells, hse, fun _ => ⟨rfl, r2, f2, r4, r5⟩⟩ f3 f4
        have hset : hset A i (some (.cells cs e' u)) = A := hset_same hg
        rw [hset] at g1 g2
        rw [hs] at hd
        cases hd
        exact ⟨_, _, ρ, run_convert_same w src e0 _ ⟨L.blk, L.off + o, none⟩ n c' hs he hb, .slice hL h1 (.inr rfl) h3, g1, g2⟩
      · cases h
    · cases h
  · rename_i t0 i o hs hd
    split at h
    · rename_i ti cs el u hi hg
      split at h
      · rename_i hcond
        obtain ⟨hsz, ho⟩ := hcond
        cases h
        obtain ⟨L, hL, rfl⟩ := hx.ptr_inv
        obtain ⟨cs', e', fz, hb, hcells, _⟩ := hR.row i _ L hg hL
        obtain ⟨v', hv', _⟩ := hcells o cs[o] (List.getElem?_eq_getElem ho)
        have hlt : L.off + o < cs'.size := (Array.getElem?_eq_some_iff.1 hv').1
        exact GoesV.same hR (Lib.run_to_unsafe w ⟨L.blk, L.off + o, none⟩ hs hd hi hsz (e := e') (cells := cs'.size) (by simp [World.shape?, hb]) hlt) (.ptr hL)
      · cases h
    · cases h
  · rename_i u0 i o hs hd
    split at h
    · rename_i ti cs e use hi hg
      split at h
      · rename_i hcond
        obtain ⟨hu, hlies⟩ := hcond
        cases h
        obtain ⟨L, hL, rfl⟩ := hx.ptr_inv
        obtain ⟨cs', e', fz, hb, hcells, _, hrest⟩ := hR.row i _ L hg hL
        obtain ⟨r1, r2, r3, r4, r5⟩ := hrest hu
        subst r1
        have hle : cs.length ≤ cs'.size := by
          rcases Nat.eq_zero_or_pos cs.length with h0 | h0
          · omega
          · obtain ⟨v', hv', _⟩ := hcells (cs.length - 1) cs[cs.length - 1] (List.getElem?_eq_getElem (by omega))
            have := (Array.getElem?_eq_some_iff.1 hv').1
            omega
        refine GoesV.same hR (Lib.run_from_unsafe w ⟨L.blk, L.off + o, none⟩ hs hd hi (e := e') (cells := cs'.size) (by simp [World.shape?, hb]) ?_) (.ptr hL)
        rw [r2, Nat.zero_add]
        exact liesAt_mono (Nat.div_le_div_right hle) hlies
      · cases h
    · cases h
  · cases h

theorem sliceData_sound {P : Program} {ρ : Loc} {A : Heap} {w : World} (hR : Rel P ρ A w) {ats : Array TypeId} {ty : TypeId} {x x' v : Value} (h : aSliceData x = some v) (hx : VR ρ x x') :
    GoesV P ρ A w (Builtin.unsafeSliceData_ ats ty #[x']) v A := by
  unfold aSliceData at h
  split at h
  · rename_i n c
    cases h
    obtain rfl := hx.atom_eq rfl
    exact GoesV.same hR (Lib.run_unsafeSliceData_nil w ats ty n c) (.atom rfl)
  · rename_i i o n c
    split at h
    · rename_i hn
      cases h
      obtain ⟨L, p, c', hL, rfl, h1, h2, h3⟩ := hx.slice_inv
      have hp : p = ⟨L.blk, L.off + o, none⟩ := by
        rcases h2 with h2 | h2
        · omega
        · exact h2
      subst hp
      exact GoesV.same hR (Lib.run_unsafeSliceData_row w ats ty _ n c' (by omega)) (.ptr hL)
    · cases h
  · cases h

theorem aBytes8_spec : ∀ (cells : List Value) (l : List UInt8), aBytes8 cells = some l → cells = l.map fun b => Value.int .u8 b.toNat
  | [], l, h => by cases h; rfl
  | v :: cells, l, h => by
    unfold aBytes8 at h
    split at h
    · rename_i heq; cases heq
    · rename_i n l2 heq
      cases heq
      split at h
      · rename_i hn
        cases hb : aBytes8 cells with
        | none => rw [hb] at h; cases h
        | some l1 =>
          rw [hb] at h
          cases h
          rw [aBytes8_spec cells l1 hb]
          simp only [List.map_cons, List.cons.injEq, Value.int.injEq, true_and, and_true]
          have : n.toNat < 256 := by omega
          simp [UInt8.toNat_ofNat, Nat.mod_eq_of_lt this]
          omega
      · cases h
    · cases h

theorem unsafeString_sound {P : Program} {ρ : Loc} {A A' : Heap} {w : World} {lim : Nat} (hR : Rel P ρ A w) {ats : Array TypeId} {ty : TypeId} {x x' y y' v : Value} (h : aUnsafeString P lim ats x y A = some (v, A')) (hx : VR ρ x x') (hy : VR ρ y y') :
    GoesV P ρ A w (Builtin.unsafeString_ ats ty #[x', y']) v A' := by
  unfold aUnsafeString at h
  split at h
  · rename_i pt it n hats
    have hats : ats = #[pt, it] := by apply Array.ext'; simpa using hats
    subst hats
    obtain rfl := hy.atom_eq rfl
    split at h
    · rename_i hn
      subst hn
      split at h
      · cases h
        obtain rfl := hx.atom_eq rfl
        exact GoesV.same hR (Lib.run_unsafeString_none w pt it ty none) (.atom rfl)
      · cases h
    · split at h
      · rename_i i
        split at h
        · rename_i e cs e' u he hg
          split at h
          · rename_i l hl
            split at h
            · rename_i hcond
              obtain ⟨rfl, hc, hn0, hnm, hnl, hu, _⟩ := hcond
              cases h
              obtain ⟨L, hL, rfl⟩ := hx.ptr_inv
              obtain ⟨cs', e2, fz, hb, hcells, _, hrest⟩ := hR.row i _ L hg hL
              obtain ⟨r1, r2, r3, r4, r5⟩ := hrest hu
              subst r1
              have hsp := aBytes8_spec _ _ hl
              have hll : l.length = n.toNat := by
                have := congrArg List.length hsp
                simp at this; omega
              have own : ARow.isOwn (.cells cs e2 u) = true := by cases u <;> simp_all [ARow.isOwn]
              have hlen : (n : Int) = (l.length : Int) := by omega
              have hrow := Lib.run_unsafeString_row (P := P) w pt it ty e2 he hc L.blk cs'.size (by simp [World.shape?, hb]) l (by intro e; subst e; simp at hll; omega) (by
                rcases Nat.eq_zero_or_pos l.length with h0 | h0
                · omega
                · obtain ⟨v', hv', _⟩ := hcells (l.length - 1) cs[l.length - 1] (List.getElem?_eq_getElem (by omega))
                  have := (Array.getElem?_eq_some_iff.1 hv').1
                  omega) (by omega) (fun j b hj => by
                have hjl := (List.getElem?_eq_some_iff.1 hj).1
                have hcj : cs[j]? = some (.int .u8 b.toNat) := by
                  have := congrArg (·[j]?) hsp
                  simp only [List.getElem?_take, List.getElem?_map, hj, Option.map_some] at this
                  rwa [if_pos (by omega)] at this
                obtain ⟨v', hv', hvr⟩ := hcells j _ hcj
                have hv2 := hvr.atom_eq rfl
                subst hv2
                rw [r2, Nat.zero_add] at hv'
                rw [add_eq, Nat.zero_add]
                simp [World.cell?, hb, hv'])
              obtain ⟨g1, g2⟩ := hR.drop hg own hL (w' := w.freeze ⟨L.blk, 0, none⟩ l.length) (fun b' hb' => by
                unfold World.freeze
                split
                · rfl
                · simp [Array.getElem?_modify, Ne.symm hb']) (by unfold World.freeze; split <;> simp) (by unfold World.freeze; split <;> exact ⟨rfl, rfl⟩)
              refine ⟨_, _, ρ, ?_, .atom rfl, g1, g2⟩
              rw [hlen, r2]
              exact hrow
            · cases h
          · cases h
        · cases h
      · cases h
  · cases h
end Go.Abs
