/-
The abstract machine: each operation is what the model does. Maps with plain keys.
-/
import Derived.Test.YtnhmokgakpknlaaGreatDoorAb8
namespace Go.Abs
open Go

theorem VR.map_inv {ρ : Loc} {i : Nat} {v : Value} (h : VR ρ (.map (some i)) v) : ∃ L, ρ i = some L ∧ v = .map (some L.blk) := by
  cases h with
  | atom h => simp [atomB] at h
  | map h => exact ⟨_, h, rfl⟩

theorem makeMap_sound {P : Program} {ρ : Loc} {A A' : Heap} {w : World} (hR : Rel P ρ A w) {t : TypeId} {r r' : Option Value} {v : Value} (h : aMakeMap P t r A = some (v, A')) (hr : OptR ρ r r') : GoesV P ρ A w (Instr.makeMap t r') v A' := by
  have key : ∃ ρ', VR ρ' (.map (some A.length)) (.map (some w.heap.size)) ∧ Rel P ρ' (A ++ [some (.map [] 0)]) (w.alloc (.map #[] 0)) ∧ Moves ρ A w ρ' (A ++ [some (.map [] 0)]) (w.alloc (.map #[] 0)) := by
    obtain ⟨h1, h2⟩ := hR.alloc (o := .map #[] 0) (r := .map [] 0) (esz := 0) (fin := 0) ⟨#[], heap_alloc_new w _, rfl, fun k key val born hk => by simp at hk⟩
    exact ⟨_, .map (Loc.put_self _ _ _), h1, h2⟩
  obtain ⟨ρ', k1, k2, k3⟩ := key
  unfold aMakeMap at h
  split at h
  · cases h
    cases r' with
    | some r' => exact absurd hr (by simp [OptR])
    | none => exact ⟨_, _, ρ', by simp [Instr.makeMap], k1, k2, k3⟩
  · split at h
    · rename_i ht
      cases h
      cases r' with
      | none => exact absurd hr (by simp [OptR])
      | some r' =>
        simp only [OptR] at hr
        obtain rfl := hr.int_inv
        exact ⟨_, _, ρ', by simp [Instr.makeMap, run_underlying ht, asInt, asIntOf], k1, k2, k3⟩
    · cases h
  · cases h

/-- The entries of a map and those of its row. -/
def EntR (ρ : Loc) (es : List (Value × Value × Nat)) (es' : Array MapEntry) : Prop :=
  es'.size = es.length ∧ ∀ (k : Nat) (key val : Value) (born : Nat), es[k]? = some (key, val, born) → ∃ e' : MapEntry, es'[k]? = some e' ∧ e'.key = key ∧ e'.born = born ∧ VR ρ val e'.val

theorem find_sound {ρ : Loc} {d : TypeDesc} {k : Value} : ∀ (es : List (Value × Value × Nat)) (es' : List MapEntry) (i : Nat) (r : Option (Nat × Value)), aFind d k es i = some r → es'.length = es.length →
    (∀ (j : Nat) (key val : Value) (born : Nat), es[j]? = some (key, val, born) → ∃ e' : MapEntry, es'[j]? = some e' ∧ e'.key = key ∧ e'.born = born ∧ VR ρ val e'.val) →
    (r = none ∧ Instr.findNow d k es' i = some none) ∨ ∃ j v v' key born, r = some (i + j, v) ∧ Instr.findNow d k es' i = some (some (i + j, v')) ∧ VR ρ v v' ∧ es[j]? = some (key, v, born) ∧ Instr.sameNow d k key = some true
  | [], es', i, r, h, hl, he => by
    cases h
    obtain rfl : es' = [] := List.length_eq_zero_iff.1 (by simpa using hl)
    exact .inl ⟨rfl, rfl⟩
  | (key, val, born) :: es, es', i, r, h, hl, he => by
    obtain ⟨e', h1, h2, h3, h4⟩ := he 0 key val born rfl
    cases es' with
    | nil => simp at hl
    | cons e1 es1 =>
      simp only [List.getElem?_cons_zero, Option.some.injEq] at h1
      subst h1
      unfold aFind at h
      unfold Instr.findNow
      rw [h2]
      split at h
      · rename_i hs
        cases h
        rw [hs]
        exact .inr ⟨0, val, e1.val, key, born, rfl, rfl, h4, rfl, hs⟩
      · rename_i hs
        rw [hs]
        rcases find_sound es es1 (i + 1) r h (by simpa using hl) (fun j key val born hj => by simpa using he (j + 1) key val born (by simpa using hj)) with ⟨g1, g2⟩ | ⟨j, v, v', key', born', g1, g2, g3, g4, g5⟩
        · exact .inl ⟨g1, g2⟩
        · exact .inr ⟨j + 1, v, v', key', born', by rw [g1, Nat.add_assoc, Nat.add_comm 1 j], by rw [g2, Nat.add_assoc, Nat.add_comm 1 j], g3, by simpa using g4, g5⟩
      · cases h

theorem run_findKey {P : Program} {w : World} {kt : TypeId} {d : TypeDesc} {k : Value} {es : List MapEntry} {r : Option (Nat × Value)} (hd : P.underlying kt = some d) (h : Instr.findNow d k es 0 = some r) : (Instr.findKey kt k es).run P w = .ok r w := by
  simp [Instr.findKey, run_underlying hd, h]
theorem run_checkKey1 {P : Program} {w : World} {kt : TypeId} {d : TypeDesc} {k : Value} {b : Bool} (n : Nat) (hd : P.underlying kt = some d) (hp : plainKey d = true) : (Instr.checkKey b (n + 1) kt k).run P w = .ok () w := by
  cases d <;> simp [plainKey] at hp <;> simp [Instr.checkKey, run_underlying hd]
theorem run_checkKey {P : Program} {w : World} {kt : TypeId} {d : TypeDesc} {k : Value} {b : Bool} (hd : P.underlying kt = some d) (hp : plainKey d = true) : (Instr.checkKey b 10000 kt k).run P w = .ok () w := run_checkKey1 9999 hd hp
theorem run_getMap {P : Program} {w : World} {r : Nat} {es : Array MapEntry} {c : Nat} (h : w.heap[r]? = some (.map es c)) : (getObj r).run P w = .ok (.map es c) w := by
  simp [getObj, Sem.run, h]
theorem run_setMap {P : Program} {w : World} {r : Nat} {o : Obj} {es : Array MapEntry} {c : Nat} (h : w.heap[r]? = some (.map es c)) : (setObj r o).run P w = .ok () { w with heap := w.heap.setIfInBounds r o } := by
  simp [setObj, Sem.run, h]

theorem entries_sound {P : Program} {ρ : Loc} {A : Heap} {w : World} (hR : Rel P ρ A w) {x x' : Value} {es : List (Value × Value × Nat)} (h : aEntries x A = some es) (hx : VR ρ x x') :
    (x' = .map none ∧ es = []) ∨ ∃ (L : L4) (es' : Array MapEntry) (clock : Nat), x' = .map (some L.blk) ∧ w.heap[L.blk]? = some (.map es' clock) ∧ EntR ρ es es' := by
  unfold aEntries at h
  split at h
  · cases h; exact .inl ⟨hx.atom_eq rfl, rfl⟩
  · split at h
    · rename_i i es0 clock hg
      cases h
      obtain ⟨L, hL, rfl⟩ := hx.map_inv
      obtain ⟨es', h1, h2, h3⟩ := hR.row' hL hg
      exact .inr ⟨L, es', clock, rfl, h1, h2, h3⟩
    · cases h
  · cases h

theorem lookup_sound {P : Program} {ρ : Loc} {A : Heap} {w : World} (hR : Rel P ρ A w) {t : TypeId} {x x' k k' v : Value} {ok : Bool} (h : aLookup P t x k ok A = some v) (hx : VR ρ x x') (hk : VR ρ k k') :
    GoesV P ρ A w (Instr.lookup t x' k' ok) v A := by
  unfold aLookup at h
  split at h
  · rename_i kt et es ht hes
    split at h
    · rename_i d hd
      split at h
      · rename_i hc
        obtain ⟨hpk, hak⟩ := hc
        obtain rfl := hk.atom_eq hak
        have hent := entries_sound hR hes hx
        have tup : ∀ {u u' : Value} {b : Bool}, VR ρ u u' → VR ρ (if ok then .tuple #[u, .bool b] else u) (if ok then .tuple #[u', .bool b] else u') := by
          intro u u' b hu
          cases ok with
          | false => simpa using hu
          | true => simpa using VR.tuple (cs := #[u, .bool b]) (cs' := #[u', .bool b]) rfl (VRs.cons hu (VRs.cons (.atom rfl) (VRs.nil ρ))).2
        split at h
        · rename_i j u hf
          rcases hent with ⟨_, rfl⟩ | ⟨L, es', clock, rfl, hw, he1, he2⟩
          · simp [aFind] at hf
          · rcases find_sound es es'.toList 0 _ hf (by simpa using he1) (by simpa using he2) with ⟨g, _⟩ | ⟨j, u, u', key, born, g1, g2, g3, g4, g5⟩
            · cases g
            · cases g1
              cases h
              refine GoesV.same hR ?_ (tup (b := true) g3)
              simp [Instr.lookup, run_underlying ht, run_getMap hw, run_checkKey hd hpk, run_findKey hd g2]
        · rename_i hf
          split at h
          · rename_i ti hti
            split at h
            · rename_i z hz
              split at h
              · rename_i hzf
                cases h
                have hzr := tup (b := false) (VR.refl ρ hzf)
                rcases hent with ⟨rfl, rfl⟩ | ⟨L, es', clock, rfl, hw, he1, he2⟩
                · refine GoesV.same hR ?_ hzr
                  simp [Instr.lookup, run_underlying ht, run_checkKey hd hpk, run_findKey (es := []) (r := none) hd rfl, run_zeroValue hti hz]
                · rcases Nat.eq_zero_or_pos es.length with h0 | h0
                  · obtain rfl : es = [] := List.length_eq_zero_iff.1 h0
                    obtain rfl : es' = #[] := Array.size_eq_zero_iff.1 (by simpa using he1)
                    refine GoesV.same hR ?_ hzr
                    simp [Instr.lookup, run_underlying ht, run_getMap hw, run_checkKey hd hpk, run_findKey (es := []) (r := none) hd rfl, run_zeroValue hti hz]
                  · rcases find_sound es es'.toList 0 _ hf (by simpa using he1) (by simpa using he2) with ⟨_, g⟩ | ⟨j, u, u', key, born, g1, _⟩
                    · refine GoesV.same hR ?_ hzr
                      simp [Instr.lookup, run_underlying ht, run_getMap hw, run_checkKey hd hpk, run_findKey hd g, run_zeroValue hti hz]
                    · cases g1
              · cases h
            · cases h
          · cases h
        · cases h
      · cases h
    · cases h
  · cases h

theorem lset_get {α : Type} (l : List α) (n : Nat) (x : α) (k : Nat) : (lset l n x)[k]? = if k = n ∧ n < l.length then some x else l[k]? := by
  induction l generalizing n k with
  | nil => simp [lset]
  | cons y l ih => cases n <;> cases k <;> simp [lset, ih]
theorem lset_length {α : Type} (l : List α) (n : Nat) (x : α) : (lset l n x).length = l.length := by
  induction l generalizing n with
  | nil => rfl
  | cons y l ih => cases n <;> simp [lset, ih]

theorem bytes_beq {a b : ByteArray} : (a == b) = true ↔ a = b := by
  have : (a == b) = (a.data == b.data) := rfl
  rw [this]
  constructor
  · intro h; cases a; cases b; simp at h; simp [h]
  · intro h; subst h; simp
theorem same_bits {d : TypeDesc} {a b : Value} (h : Instr.sameNow d a b = some true) : b = a := by
  unfold Instr.sameNow at h
  split at h
  · split at h
    · rename_i hk
      simp only [Option.some.injEq, beq_iff_eq] at h
      subst h; subst hk; rfl
    · cases h
  · simp only [Option.some.injEq, bytes_beq] at h
    subst h; rfl
  · simp only [Option.some.injEq, beq_iff_eq] at h
    subst h; rfl
  · cases h
theorem run_keyThatStays {P : Program} {w : World} {d : TypeDesc} {a b : Value} (h : Instr.sameNow d a b = some true) : (Instr.keyThatStays b a).run P w = .ok a w := by
  have hb := same_bits h
  subst hb
  have : Instr.sameBits 10000 b b = true := by
    unfold Instr.sameNow at h
    split at h <;> first | simp [Instr.sameBits, bytes_beq] | cases h
  simp [Instr.keyThatStays, this]

theorem mapUpdate_sound {P : Program} {ρ : Loc} {A A' : Heap} {w : World} {lim : Nat} (hR : Rel P ρ A w) {t : TypeId} {m m' k k' x x' : Value} (h : aMapUpdate P lim t m k x A = some A') (hm : VR ρ m m') (hk : VR ρ k k') (hx : VR ρ x x') :
    ∃ w', (Instr.mapUpdate t m' k' x').run P w = .ok () w' ∧ Rel P ρ A' w' ∧ Moves ρ A w ρ A' w' := by
  unfold aMapUpdate at h
  split at h
  · rename_i kt et i ht
    split at h
    · rename_i d es clock hd hg
      split at h
      · rename_i hc
        obtain ⟨hpk, hlim, hak⟩ := hc
        obtain rfl := hk.atom_eq hak
        obtain ⟨L, hL, rfl⟩ := hm.map_inv
        obtain ⟨es', hw, he1, he2⟩ := hR.row' hL hg
        have hlt : L.blk < w.heap.size := (Array.getElem?_eq_some_iff.1 hw).1
        have fin : ∀ {es2 : List (Value × Value × Nat)} {es2' : Array MapEntry} {c2 : Nat}, EntR ρ es2 es2' → Rel P ρ (hset A i (some (.map es2 c2))) { w with heap := w.heap.setIfInBounds L.blk (.map es2' c2) } ∧ Moves ρ A w ρ (hset A i (some (.map es2 c2))) { w with heap := w.heap.setIfInBounds L.blk (.map es2' c2) } := by
          intro es2 es2' c2 hen
          refine hR.setOwn hg rfl rfl hL ⟨es2', by simp [hlt], hen.1, hen.2⟩ (fun b hb => by simp [Array.getElem?_setIfInBounds_ne (Ne.symm hb)]) (by simp)
        split at h
        · rename_i j u hf
          rcases find_sound es es'.toList 0 _ hf (by simpa using he1) (by simpa using he2) with ⟨g, _⟩ | ⟨j, u, u', key, born, g1, g2, g3, g4, g5⟩
          · cases g
          · cases g1
            obtain ⟨e', b1, b2, b3, b4⟩ := he2 j key _ born g4
            simp only [Nat.zero_add] at h g2
            rw [g4] at h
            simp only [Option.some.injEq] at h
            subst h
            have hjlt : j < es.length := (List.getElem?_eq_some_iff.1 g4).1
            obtain ⟨r1, r2⟩ := fin (es2 := lset es j (k', x, born)) (es2' := es'.modify j fun e => { e with key := k', val := x' }) (c2 := clock) ⟨by simp [lset_length, he1], fun n key2 val2 born2 hn => by
              rw [lset_get] at hn
              split at hn
              · rename_i hh
                obtain ⟨rfl, _⟩ := hh
                cases hn
                exact ⟨{ e' with key := k', val := x' }, by simp [Array.getElem?_modify, b1], rfl, b3, hx⟩
              · rename_i hh
                obtain ⟨e2, c1, c2, c3, c4⟩ := he2 n key2 val2 born2 hn
                have hne : ¬ j = n := fun e => hh ⟨e.symm, hjlt⟩
                exact ⟨e2, by simp [Array.getElem?_modify, c1, hne], c2, c3, c4⟩⟩
            refine ⟨_, ?_, r1, r2⟩
            have hst : (Instr.keyThatStays e'.key k').run P w = .ok k' w := by rw [b2]; exact run_keyThatStays g5
            simp [Instr.mapUpdate, run_underlying ht, run_getMap hw, run_checkKey hd hpk, run_findKey hd g2, b1, hst, run_setMap hw]
        · rename_i hf
          cases h
          rcases find_sound es es'.toList 0 _ hf (by simpa using he1) (by simpa using he2) with ⟨_, g⟩ | ⟨j, u, u', key, born, g1, _⟩
          · obtain ⟨r1, r2⟩ := fin (es2 := es ++ [(k', x, clock)]) (es2' := es'.push { key := k', val := x', born := clock }) (c2 := clock + 1) ⟨by simp [he1], fun n key2 val2 born2 hn => by
              rcases Nat.lt_or_ge n es.length with hlt2 | hge
              · rw [List.getElem?_append_left hlt2] at hn
                obtain ⟨e2, c1, c2, c3, c4⟩ := he2 n key2 val2 born2 hn
                have hne : ¬ n = es'.size := by omega
                exact ⟨e2, by rw [Array.getElem?_push]; simp [hne, c1], c2, c3, c4⟩
              · rw [List.getElem?_append_right hge] at hn
                cases hz : n - es.length with
                | succ z => rw [hz] at hn; simp at hn
                | zero =>
                  rw [hz] at hn
                  cases hn
                  have heq : n = es'.size := by omega
                  exact ⟨{ key := k', val := x', born := clock }, by rw [Array.getElem?_push]; simp [heq], rfl, rfl, hx⟩⟩
            refine ⟨_, ?_, r1, r2⟩
            simp [Instr.mapUpdate, run_underlying ht, run_getMap hw, run_checkKey hd hpk, run_findKey hd g, run_setMap hw]
          · cases g1
        · cases h
      · cases h
    · cases h
  · cases h
end Go.Abs
