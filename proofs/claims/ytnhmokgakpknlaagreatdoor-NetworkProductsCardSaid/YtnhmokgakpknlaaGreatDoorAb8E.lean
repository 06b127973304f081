/-
The abstract machine: structs and arrays of plain parts are compared part by part.
-/
import Derived.Test.YtnhmokgakpknlaaGreatDoorAb8M
namespace Go.Abs
open Go

theorem run_eqLoop {α : Type} {P : Program} {w : World} (body : α → Option Bool × Unit → Sem (ForInStep (Option Bool × Unit))) : ∀ (l : List α) (bs : List Bool), l.length = bs.length →
    (∀ (k : Nat) (x : α) (b : Bool), l[k]? = some x → bs[k]? = some b → ∀ s, (body x s).run P w = .ok (if b then .yield (none, ()) else .done (some false, ())) w) →
    (forIn l ((none, ()) : Option Bool × Unit) body).run P w = .ok (if bs.all id then (none, ()) else (some false, ())) w
  | [], bs, hl, _ => by
    obtain rfl : bs = [] := List.length_eq_zero_iff.1 (by simpa using hl.symm)
    simp
  | x :: l, [], hl, _ => by simp at hl
  | x :: l, b :: bs, hl, h => by
    have h0 := h 0 x b rfl rfl (none, ())
    have ih := run_eqLoop body l bs (by simpa using hl) (fun k x b hx hb s => h (k + 1) x b (by simpa using hx) (by simpa using hb) s)
    rw [List.forIn_cons, Sem.run_bind, h0]
    cases b with
    | true => simpa using ih
    | false => simp

theorem parts_bools {P : Program} {f : TypeId → Value → Value → Option Bool} {xs ys : List Value} : ∀ (ps : List (TypeId × Nat)) (b : Bool), aEqParts P f xs ys ps = some b →
    ∃ bs : List Bool, bs.length = ps.length ∧ b = bs.all id ∧ ∀ (k : Nat) (t : TypeId) (o : Nat), ps[k]? = some (t, o) → ∃ x y e, bs[k]? = some e ∧ aPart P t xs o = some x ∧ aPart P t ys o = some y ∧ f t x y = some e
  | [], b, h => by cases h; exact ⟨[], rfl, rfl, fun k t o h => by simp at h⟩
  | (t, o) :: ps, b, h => by
    simp only [aEqParts] at h
    split at h
    · rename_i x y hx hy
      split at h
      · rename_i e r he hr
        cases h
        obtain ⟨bs, h1, h2, h3⟩ := parts_bools ps r hr
        refine ⟨e :: bs, by simp [h1], by simp [h2], fun k t' o' hk => ?_⟩
        cases k with
        | zero => simp at hk; obtain ⟨rfl, rfl⟩ := hk; exact ⟨x, y, e, rfl, hx, hy, he⟩
        | succ k => exact h3 k t' o' (by simpa using hk)
      · cases h
    · cases h

theorem VR.aggs {ρ : Loc} {xs xs' : Array Value} (hs : xs.size = xs'.size) (h : ∀ (k : Nat) (v v' : Value), xs.toList[k]? = some v → xs'.toList[k]? = some v' → VR ρ v v') : VRs ρ xs.toList xs'.toList := ⟨by simpa using hs, h⟩

theorem eqDeep_run {P : Program} {w : World} {ρ : Loc} : ∀ (d D : Nat), d ≤ D → ∀ (t : TypeId) (x y x' y' : Value) (b : Bool), aEqDeep P d t x y = some b → VR ρ x x' → VR ρ y y' → (Op.equalIn D t x' y').run P w = .ok b w
  | 0, D, _, t, x, y, x', y', b, h, _, _ => by cases h
  | d + 1, 0, hd, _, _, _, _, _, _, _, _, _ => by omega
  | d + 1, D + 1, hd, t, x, y, x', y', b, h, hx, hy => by
    have ih := eqDeep_run (P := P) (w := w) (ρ := ρ) d D (by omega)
    have loop : ∀ {xs ys xs' ys' : Array Value} {ps : List (TypeId × Nat)} {b : Bool}, VRs ρ xs.toList xs'.toList → VRs ρ ys.toList ys'.toList → aEqParts P (aEqDeep P d) xs.toList ys.toList ps = some b →
        ∃ bs : List Bool, bs.length = ps.length ∧ b = bs.all id ∧ ∀ (k : Nat) (t : TypeId) (o : Nat) (e : Bool), ps[k]? = some (t, o) → bs[k]? = some e → ∃ x' y', (part t xs' o).run P w = .ok x' w ∧ (part t ys' o).run P w = .ok y' w ∧ (Op.equalIn D t x' y').run P w = .ok e w := by
      intro xs ys xs' ys' ps b hxs hys hp
      obtain ⟨bs, h1, h2, h3⟩ := parts_bools ps b hp
      refine ⟨bs, h1, h2, fun k t o e hk he => ?_⟩
      obtain ⟨x, y, e', g1, g2, g3, g4⟩ := h3 k t o hk
      rw [he] at g1; cases g1
      obtain ⟨x', a1, a2⟩ := part_sound (w := w) g2 hxs
      obtain ⟨y', b1, b2⟩ := part_sound (w := w) g3 hys
      exact ⟨x', y', a1, b1, ih t x y x' y' _ g4 a2 b2⟩
    unfold aEqDeep at h
    split at h
    · rename_i a c ht
      cases h
      obtain rfl := hx.bool_inv
      obtain rfl := hy.bool_inv
      simp [Op.equalIn, run_underlying ht]
    · rename_i j a k c ht
      obtain rfl := hx.int_inv
      obtain rfl := hy.int_inv
      split at h
      · rename_i hjk
        cases h
        simp [Op.equalIn, run_underlying ht, hjk]
      · cases h
    · rename_i a c ht
      cases h
      obtain rfl := hx.string_inv
      obtain rfl := hy.string_inv
      simp [Op.equalIn, run_underlying ht]
    · rename_i j a k c ht
      obtain rfl := hx.atom_eq rfl
      obtain rfl := hy.atom_eq rfl
      split at h
      · rename_i hjk
        cases h
        simp [Op.equalIn, run_underlying ht, hjk]
      · cases h
    · rename_i j a a2 k c c2 ht
      obtain rfl := hx.atom_eq rfl
      obtain rfl := hy.atom_eq rfl
      split at h
      · rename_i hjk
        cases h
        simp [Op.equalIn, run_underlying ht, hjk]
      · cases h
    · rename_i fs xs ys ht
      split at h
      · cases h
      · rename_i hc
        simp only [Bool.or_eq_true, not_or, Bool.not_eq_true] at hc
        obtain ⟨xs', rfl, hxs⟩ := hx.agg_inv
        obtain ⟨ys', rfl, hys⟩ := hy.agg_inv
        obtain ⟨bs, h1, h2, h3⟩ := loop hxs hys h
        have hl := run_eqLoop (P := P) (w := w) (fun (f : Field) (_ : Option Bool × Unit) => if f.name = "_" then pure (ForInStep.yield (none, ())) else do
              let a ← part f.type xs' f.offset
              let c ← part f.type ys' f.offset
              let e ← Op.equalIn D f.type a c
              if e = false then pure (ForInStep.done (some false, ())) else pure (ForInStep.yield (none, ()))) fs.toList bs (by rw [h1]; simp) (fun k f e hf he s => by
            have hname : ¬ f.name = "_" := by
              intro hn
              have := List.any_eq_false.1 hc.2 f (List.mem_of_getElem? hf)
              simp [hn] at this
            obtain ⟨a, c, g1, g2, g3⟩ := h3 k f.type f.offset e (by rw [List.getElem?_map, hf]; rfl) he
            simp only [if_neg hname, Sem.run_bind, g1, g2, g3, Result.andThen_ok]
            cases e <;> simp)
        simp only [Op.equalIn, Sem.run_bind, run_underlying ht, Result.andThen_ok]
        simp only [Array.forIn_toList] at hl
        simp [hc.1]
        rw [hl, h2]
        cases bs.all id <;> simp
    · rename_i n e xs ys ht
      split at h
      · rename_i ti hi
        obtain ⟨xs', rfl, hxs⟩ := hx.agg_inv
        obtain ⟨ys', rfl, hys⟩ := hy.agg_inv
        obtain ⟨bs, h1, h2, h3⟩ := loop hxs hys h
        have hl := run_eqLoop (P := P) (w := w) (fun (i : Nat) (_ : Option Bool × Unit) => do
              let a ← part e xs' (i * ti.size)
              let c ← part e ys' (i * ti.size)
              let r ← Op.equalIn D e a c
              if r = false then pure (ForInStep.done (some false, ())) else pure (ForInStep.yield (none, ()))) (List.range' 0 n) bs (by rw [h1]; simp) (fun k i r hf he s => by
            have hk : (List.range n)[k]? = some i := by rw [List.range_eq_range']; exact hf
            obtain ⟨a, c, g1, g2, g3⟩ := h3 k e (i * ti.size) r (by rw [List.getElem?_map, hk]; rfl) he
            simp only [Sem.run_bind, g1, g2, g3, Result.andThen_ok]
            cases r <;> simp)
        simp only [Op.equalIn, Sem.run_bind, run_underlying ht, Result.andThen_ok, run_sizeOf hi]
        simp
        rw [hl, h2]
        cases bs.all id <;> simp
      · cases h
    · cases h

theorem eqAgg_run {P : Program} {ρ : Loc} {w : World} {t : TypeId} {x x' y y' : Value} {b : Bool} (h : aEqAgg P t x y = some b) (hx : VR ρ x x') (hy : VR ρ y y') (u v : Operand) :
    (do eqGuard .eql t u v x' y'; binOp .eql t x' y').run P w = .ok (.bool b) w ∧ (do eqGuard .neq t u v x' y'; binOp .neq t x' y').run P w = .ok (.bool !b) w := by
  unfold aEqAgg at h
  split at h
  · rename_i xs ys
    split at h
    · cases h
    · rename_i hg
      obtain ⟨xs', rfl, hxs⟩ := hx.agg_inv
      obtain ⟨ys', rfl, hys⟩ := hy.agg_inv
      have he : (Op.equal t (.agg xs') (.agg ys')).run P w = .ok b w := eqDeep_run 20 10000 (by decide) t _ _ _ _ b h hx hy
      have hg' : P.eqGuardType P.depth t = false := by simpa using hg
      have g : ∀ op, (op = .eql ∨ op = .neq) → (eqGuard op t u v (.agg xs') (.agg ys')).run P w = .ok () w := by
        intro op hop
        rcases hop with rfl | rfl <;> unfold eqGuard <;> simp [hg']
      have h1 : binOp .eql t (.agg xs') (.agg ys') = (do pure (.bool (← Op.equal t (.agg xs') (.agg ys'))) : Sem Value) := rfl
      have h2 : binOp .neq t (.agg xs') (.agg ys') = (do pure (.bool (!(← Op.equal t (.agg xs') (.agg ys')))) : Sem Value) := rfl
      rw [h1, h2]
      simp [g .eql (.inl rfl), g .neq (.inr rfl), he]
  · cases h
end Go.Abs
