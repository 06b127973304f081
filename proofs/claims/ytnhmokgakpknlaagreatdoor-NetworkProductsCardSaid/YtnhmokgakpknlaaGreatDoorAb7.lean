/-
The abstract machine: each operation is what the model does. Fourth part: append, copy, strings.
-/
import Derived.Test.YtnhmokgakpknlaaGreatDoorAb6
import Derived.Laws.BytesString
import Derived.Lib.AppendZeros
namespace Go.Abs
open Go

theorem cellsOf_sound {P : Program} {ρ : Loc} {A : Heap} {w : World} (hR : Rel P ρ A w) {size m : Nat} {x x' : Value} {new : List Value} (h : aCellsOf size x A = some (m, new)) (hx : VR ρ x x') :
    ∃ a c new', x' = .slice a m c ∧ VRs ρ new new' ∧ new'.length = m * size ∧ (∀ p, a = some p → ∀ (j : Nat) (v : Value), new'[j]? = some v → w.cell? (p.add j) = some v) ∧ (a = none → m = 0) := by
  unfold aCellsOf at h
  split at h
  · cases h
    obtain rfl : x' = .slice none 0 0 := hx.atom_eq rfl
    exact ⟨none, 0, [], rfl, VRs.nil ρ, by simp, fun _ h => by simp at h, fun _ => rfl⟩
  · rename_i i o n c
    split at h
    · rename_i cs e use hg
      split at h
      · rename_i hle
        cases h
        obtain ⟨L, p, c', hL, rfl, hn, hp, hb⟩ := hx.slice_inv
        obtain ⟨cs', e', fz, hblk, hcells, huse, hown⟩ := hR.row' hL hg
        have hs := row_sub hcells hle
        have hlen : ((cs'.toList.drop (L.off + o)).take (m * size)).length = m * size := by rw [← hs.1]; simp; omega
        refine ⟨some p, c', _, rfl, hs, hlen, fun q hq j v hv => ?_, fun h => by simp at h⟩
        cases hq
        rcases hp with h0 | rfl
        · have : m = 0 := by omega
          subst this
          simp at hv
        · rw [add_eq]
          rw [List.getElem?_take] at hv
          split at hv
          · rw [List.getElem?_drop] at hv
            simp [World.cell?, hblk]
            simpa using hv
          · cases hv
      · cases h
    · cases h
  · cases h

theorem hset_append (A B : Heap) (x : Option ARow) : hset (A ++ [x]) A.length B.head?.join = A ++ [B.head?.join] := by
  induction A with
  | nil => rfl
  | cons r A ih => simp [ih]
theorem hset_last (A : Heap) (x y : Option ARow) : hset (A ++ [x]) A.length y = A ++ [y] := by
  induction A with
  | nil => rfl
  | cons r A ih => simp [ih]

theorem VRs.oneCell {ρ : Loc} {l l' : List Value} (h : VRs ρ l l') (h1 : l.all Value.oneCell' = true) : ∀ v ∈ l', v.oneCell' = true := by
  intro v hm
  obtain ⟨k, hk⟩ := List.mem_iff_getElem?.1 hm
  have hk' : k < l.length := by rw [h.1]; exact (List.getElem?_eq_some_iff.1 hk).1
  rw [VR.oneCell (h.2 k l[k] v (List.getElem?_eq_getElem hk') hk)]
  exact List.all_eq_true.1 h1 _ (List.getElem_mem hk')

/-- A source of an append, as the model sees it. -/
structure Src (P : Program) (w : World) (size : Nat) (t' : TypeId) (m : Nat) (new' : List Value) (x' : Value) : Prop where
  desc : (∃ e', P.underlying t' = some (.slice e')) ∨ P.underlying t' = some .string
  len : ∀ w, (Builtin.lenOf x').run P w = .ok m w
  cells : ∀ w1 : World, w1.heap = w.heap → (Builtin.firstCells size m x').run P w1 = .ok new'.toArray w1

theorem source_sound {P : Program} {ρ : Loc} {A : Heap} {w : World} (hR : Rel P ρ A w) {t t' e : TypeId} {size m : Nat} {x x' : Value} {new : List Value} (ht : P.underlying t = some (.slice e)) (h : aSource P size t t' x A = some (m, new)) (hx : VR ρ x x') :
    ∃ new', VRs ρ new new' ∧ new'.length = m * size ∧ Src P w size t' m new' x' := by
  unfold aSource at h
  split at h
  · rename_i he
    subst he
    obtain ⟨a, c, new', rfl, hnew, hnl, hcell, hnone⟩ := cellsOf_sound hR h hx
    refine ⟨new', hnew, hnl, (.inl ⟨_, ht⟩), fun w => rfl, fun w1 hw1 => ?_⟩
    cases a with
    | none =>
      have := hnone rfl
      subst this
      have : new' = [] := List.length_eq_zero_iff.1 (by rw [hnl]; simp)
      subst this
      simp [Builtin.firstCells]
    | some a =>
      refine run_firstCells_some (P := P) w1 size m a m c new' hnl (fun j v hj => ?_)
      have := hcell a rfl j v hj
      simpa [World.cell?, hw1] using this
  · split at h
    · rename_i s hd
      split at h
      · rename_i hsz
        cases h
        obtain rfl := hx.string_inv
        subst hsz
        refine ⟨_, ⟨rfl, fun k v v' h1 h2 => ?_⟩, ?_, (.inr hd), fun w => rfl, fun w1 _ => ?_⟩
        · rw [h1] at h2; cases h2
          rw [List.getElem?_map] at h1
          cases hb : s.data.toList[k]? with
          | none => rw [hb] at h1; cases h1
          | some b => rw [hb] at h1; cases h1; exact .atom rfl
        · simp
        · simp [Builtin.firstCells]
          apply Array.ext'
          simp
      · cases h
    · cases h

section
variable {P : Program} {w : World} {t t' e ty : TypeId} {ti : TypeInfo} {m : Nat} {new' : List Value} {x' : Value}

theorem append_zero (ht : P.underlying t = some (.slice e)) (hi : P.info? e = some ti) (b : Option Addr) (n c : Nat) (hs : Src P w ti.size t' 0 [] x') (hn : n ≤ c) :
    (Builtin.append_ #[t, t'] ty #[.slice b n c, x']).run P w = .ok (.slice b n c) w := by
  obtain ⟨hd, hlen, hcells⟩ := hs
  have hf := hcells w rfl
  rcases hd with ⟨e', hd⟩ | hd <;> cases b <;> simp [Builtin.append_, run_underlying ht, run_underlying hd, run_sizeOf hi, hlen, hn, hf, storeCells]

theorem append_nil_run {z : Value} (ht : P.underlying t = some (.slice e)) (hi : P.info? e = some ti) (hz : ti.zero = some z) (hs : Src P w ti.size t' m new' x') (h0 : 0 < m) (h63 : (m : Int) ≤ 9223372036854775807) (h48 : m * ti.bytes ≤ 281474976710656) :
    (Builtin.append_ #[t, t'] ty #[.slice none 0 0, x']).run P w =
      .ok (.slice (some ⟨w.heap.size, 0, none⟩) m (grownCap w m 0 e)) (w.drew.alloc (.cells (new'.toArray ++ Builtin.zeroCells z.cells (grownCap w m 0 e - m)) e)) := by
  obtain ⟨hd, hlen, hcells⟩ := hs
  have hn : m ≠ 0 := by omega
  have h63' : ¬ (9223372036854775807 < (m : Int)) := by omega
  have h48' : ¬ (281474976710656 < Builtin.nextslicecap m 0 * ti.bytes) := by rw [nextslicecap_zero h0]; omega
  have hf := hcells w.drew rfl
  rcases hd with ⟨e', hd⟩ | hd
  all_goals simp [Builtin.append_, run_underlying ht, run_underlying hd, sizeOf, typeInfo, zeroValue, hi, hz, hlen, hn, h63', h48', Question.forced, run_firstCells_none, hf, newRow, grownCap]

theorem append_grow_run {z : Value} (ht : P.underlying t = some (.slice e)) (hi : P.info? e = some ti) (hz : ti.zero = some z) (b : Addr) (sLen sCap : Nat) (olds : List Value) (hlo : olds.length = sLen * ti.size)
    (holds : ∀ (j : Nat) (v : Value), olds[j]? = some v → w.cell? (b.add j) = some v) (hs : Src P w ti.size t' m new' x')
    (hg : sCap < sLen + m) (h63 : ((sLen + m : Nat) : Int) ≤ 9223372036854775807) (hfit : Builtin.nextslicecap (sLen + m) sCap * ti.bytes ≤ 281474976710656) :
    (Builtin.append_ #[t, t'] ty #[.slice (some b) sLen sCap, x']).run P w =
      .ok (.slice (some ⟨w.heap.size, 0, none⟩) (sLen + m) (grownCap w (sLen + m) sCap e))
        (w.drew.alloc (.cells (olds.toArray ++ new'.toArray ++ Builtin.zeroCells z.cells (grownCap w (sLen + m) sCap e - (sLen + m))) e)) := by
  obtain ⟨hd, hlen, hcells⟩ := hs
  have hn : ¬ (sLen + m ≤ sCap) := by omega
  have h63' : ¬ (9223372036854775807 < ((sLen : Int) + (m : Int))) := by omega
  have h48' : ¬ (281474976710656 < Builtin.nextslicecap (sLen + m) sCap * ti.bytes) := by omega
  have hf := hcells w.drew rfl
  have hfo := run_firstCells_some (P := P) w.drew ti.size sLen b sLen sCap olds hlo (by simpa using holds)
  rcases hd with ⟨e', hd⟩ | hd
  all_goals
    simp [Builtin.append_, run_underlying ht, run_underlying hd, sizeOf, typeInfo, zeroValue, hi, hz, hlen, hn, h63', h48', Question.forced, hf, hfo, newRow, grownCap]
    congr 2
    apply Array.ext'
    simp [List.append_assoc]

theorem append_room_run (ht : P.underlying t = some (.slice e)) (hi : P.info? e = some ti) (b : Addr) (n c : Nat) (hs : Src P w ti.size t' m new' x') (hroom : n + m ≤ c) {w' : World}
    (hst : (storeCells (b.add (n * ti.size)) new').run P w = .ok () w') :
    (Builtin.append_ #[t, t'] ty #[.slice (some b) n c, x']).run P w = .ok (.slice (some b) (n + m) c) w' := by
  obtain ⟨hd, hlen, hcells⟩ := hs
  have hf := hcells w rfl
  rcases hd with ⟨e', hd⟩ | hd
  all_goals simp [Builtin.append_, run_underlying ht, run_underlying hd, run_sizeOf hi, hlen, hroom, hf, hst]
end

theorem append_sound {P : Program} {ρ : Loc} {A A' : Heap} {w : World} {lim : Nat} (hR : Rel P ρ A w) {ats : Array TypeId} {ty : TypeId} {s s' x x' v : Value} (h : aAppend P lim ats s x A = some (v, A')) (hs : VR ρ s s') (hx : VR ρ x x') :
    GoesV P ρ A w (Builtin.append_ ats ty #[s', x']) v A' := by
  unfold aAppend at h
  split at h
  · rename_i t t' h0 h1
    split at h
    · rename_i e ht
      split at h
      · rename_i ti hi
        split at h
        · rename_i z hz
          split at h
          · rename_i hh
            obtain ⟨hsz, hf, hzs⟩ := hh
            obtain rfl : ats = #[t, t'] := by
              apply Array.ext
              · simpa using hsz
              · intro i hi1 hi2
                simp at hi2
                have : i = 0 ∨ i = 1 := by omega
                rcases this with rfl | rfl
                · have := (Array.getElem?_eq_some_iff.1 h0).2; simpa using this
                · have := (Array.getElem?_eq_some_iff.1 h1).2; simpa using this
            have hzs' : z.cells.size = ti.size := by simpa using hzs
            split at h
            · rename_i kn k n ht'
              split at h
              · rename_i hbd
                obtain ⟨hn0, hs0, hb1, hb2⟩ := hbd
                cases h
                obtain rfl : s' = .slice none 0 0 := hs.atom_eq rfl
                obtain rfl := hx.int_inv
                have hrun := Lib.run_append_nil_zeros (P := P) w t t' ty e ti z k kn ht ht' hi hz n.toNat (by omega) hs0 (by omega) (by omega)
                rw [Int.toNat_of_nonneg (by omega)] at hrun
                have hze : ∀ n, (Builtin.zeroCells z.cells n).toList = aZeros z.cells.toList n := fun n => aZeros_made z.cells n
                obtain ⟨hR1, hM1⟩ := hR.heap (w' := w.drew) rfl
                obtain ⟨L, hL, hr, hm, hget⟩ := new_sound hR1 (e := e) (use := .row) (fz := (0, 0)) (cs := aZeros z.cells.toList n.toNat) (cs' := Builtin.zeroCells z.cells n.toNat ++ Builtin.zeroCells z.cells (grownCap w n.toNat 0 e - n.toNat)) (by simp) (.inl rfl) (fun o v hv => by
                  refine ⟨v, ?_, (aZeros_free ρ (free_cells ρ hf) n.toNat).2 o v v hv hv⟩
                  rw [← Array.getElem?_toList, Array.toList_append, hze, List.getElem?_append_left (List.getElem?_eq_some_iff.1 hv).1]
                  exact hv)
                refine ⟨_, _, _, hrun, ?_, hr, hM1.trans hm⟩
                have hge := grownCap_ge w n.toNat 0 e
                refine .slice hget hge (.inr (by rw [hL]; rfl)) (fun _ => ?_)
                subst hL
                simp only [eszOf, Program.cellsOf, hi, Option.map_some, Option.getD_some, Array.size_append, size_zeroCells, hzs']
                rw [← Nat.add_mul]
                have : (n.toNat + (grownCap w n.toNat 0 e - n.toNat)) = grownCap w n.toNat 0 e := by omega
                rw [this]; omega
              · cases h
            · split at h
              · rename_i new hco
                obtain ⟨new', hnew, hnl, hsrc⟩ := source_sound hR ht hco hx
                obtain rfl : new' = [] := List.length_eq_zero_iff.1 (by rw [hnl]; simp)
                split at h
                · cases h
                  obtain rfl : s' = .slice none 0 0 := hs.atom_eq rfl
                  exact GoesV.same hR (append_zero ht hi none 0 0 hsrc (Nat.le_refl _)) hs
                · cases h
                  obtain ⟨L, p, c', hL, rfl, hn, hp, hb⟩ := hs.slice_inv
                  exact GoesV.same hR (append_zero ht hi (some p) _ c' hsrc hn) hs
                · cases h
              · rename_i m new hco
                obtain ⟨new', hnew, hnl, hsrc⟩ := source_sound hR ht hco hx
                simp only [Nat.succ_eq_add_one] at hnl hsrc
                split at h
                · rename_i hone
                  split at h
                  · split at h
                    · rename_i hbd
                      obtain ⟨hb1, hb2⟩ := hbd
                      cases h
                      obtain rfl : s' = .slice none 0 0 := hs.atom_eq rfl
                      have hrun := append_nil_run (ty := ty) ht hi hz hsrc (by omega) (by omega) (by omega)
                      obtain ⟨hR1, hM1⟩ := hR.heap (w' := w.drew) rfl
                      obtain ⟨L, hL, hr, hm, hget⟩ := new_sound hR1 (e := e) (use := .row) (fz := (0, 0)) (cs := new) (cs' := new'.toArray ++ Builtin.zeroCells z.cells (grownCap w (m + 1) 0 e - (m + 1))) (by simp) (.inl rfl) (fun o v hv => by
                        obtain ⟨v', h1, h2⟩ := hnew.get hv
                        refine ⟨v', ?_, h2⟩
                        rw [Array.getElem?_append_left (by simpa using (List.getElem?_eq_some_iff.1 h1).1)]
                        simpa using h1)
                      refine ⟨_, _, _, hrun, ?_, hr, hM1.trans hm⟩
                      have hge := grownCap_ge w (m + 1) 0 e
                      refine .slice hget hge (.inr (by rw [hL]; rfl)) (fun _ => ?_)
                      subst hL
                      simp only [eszOf, Program.cellsOf, hi, Option.map_some, Option.getD_some, Array.size_append, size_zeroCells, hzs', List.size_toArray, hnl]
                      rw [← Nat.add_mul]
                      have : (m + 1 + (grownCap w (m + 1) 0 e - (m + 1))) = grownCap w (m + 1) 0 e := by omega
                      rw [this]; omega
                    · cases h
                  · rename_i i n cc _
                    split at h
                    · rename_i cs re hg
                      split at h
                      · rename_i hbd
                        obtain ⟨hlim, hree, hcl, hb1, hb2⟩ := hbd
                        subst hree
                        cases h
                        obtain ⟨L, q, c', hL, rfl, hn, hp, hb⟩ := hs.slice_inv
                        obtain ⟨cs', e', fz, hblk, hcells, huse, hown⟩ := hR.row' hL hg
                        obtain ⟨hee, hoff, hfz, hfin, hesz⟩ := hown (by simp)
                        subst hee
                        have hesz := hesz rfl
                        have hcof : P.cellsOf e' = ti.size := by simp [Program.cellsOf, hi]
                        have hold : VRs ρ (cs.take (n * ti.size)) (cs'.toList.take (n * ti.size)) := by
                          have := row_sub (o := 0) (n := n * ti.size) hcells (by omega)
                          rw [hoff] at this
                          simpa using this
                        have hlo : (cs'.toList.take (n * ti.size)).length = n * ti.size := by rw [← hold.1]; simp; omega
                        by_cases hroom : n + (m + 1) ≤ c'
                        · obtain rfl : q = ⟨L.blk, L.off + 0, none⟩ := hp.resolve_left (by omega)
                          rw [hoff]
                          have hspace : n * ti.size + new'.length ≤ cs'.size := by
                            have h3 : (n + (m + 1)) * ti.size ≤ c' * ti.size := Nat.mul_le_mul_right _ hroom
                            rw [hnl, ← Nat.add_mul]
                            by_cases hz0 : ti.size = 0
                            · rw [hz0]; simp
                            · have := hb (by rw [hesz, hcof]; exact hz0)
                              rw [hesz, hcof, hoff] at this
                              omega
                          have hst := run_storeCells_cells (P := P) L.blk (n * ti.size) new' 0 w (fun j hj => by simp [World.cell?, hblk]; omega)
                            (fun j hj => by
                              simp only [World.frozen?, hblk]
                              have := fz_free hfz (o := n * ti.size + 0 + j) (by omega)
                              obtain ⟨lo, hi⟩ := fz
                              simpa using this) (hnew.oneCell hone)
                          obtain ⟨cs2, hb2', hcs2, ho2, hs2⟩ := setCells_heap L.blk (n * ti.size) new' (n * ti.size + 0) cs' e' fz w hblk (by omega)
                          obtain ⟨hR1, hM1⟩ := hR.renew hg (by simp) hL
                          have hget1 : hget (hset A i none ++ [some (.cells cs e' .row)]) A.length = some (.cells cs e' .row) := by
                            rw [hget_append]; simp []
                          have hL1 : ρ.put A.length L A.length = some L := Loc.put_self _ _ _
                          obtain ⟨hR2, hM2⟩ := hR1.setRow (hout := setCells_out _ _ _ _) (cs2 := cs.take (n * ti.size) ++ new) (cs2' := cs2) hget1 (by simp) hL1 hblk hb2' ho2 hs2
                            (by have := congrArg List.length hcs2; simp [splice] at this; omega)
                            (fun o v hv => by
                              rw [← Array.getElem?_toList, hcs2]
                              simp only [Nat.add_zero, splice]
                              have := (hold.append hnew).mono hM1.pre
                              obtain ⟨v', a1, a2⟩ := this.get hv
                              refine ⟨v', ?_, a2⟩
                              rw [List.getElem?_append_left (by have := (List.getElem?_eq_some_iff.1 a1).1; simpa using this)]
                              exact a1)
                          have hlast : ∀ x y, hset (hset A i none ++ [x]) A.length y = hset A i none ++ [y] := fun x y => by have := hset_last (hset A i none) x y; rwa [hset_length] at this
                          rw [hlast] at hR2 hM2
                          refine ⟨.slice (some ⟨L.blk, 0, none⟩) (n + (m + 1)) c', _, _, append_room_run ht hi _ n c' hsrc hroom (by rw [add_eq, Nat.zero_add]; exact hst), ?_, hR2, hM1.trans hM2⟩
                          exact .slice hL1 hroom (.inr (by rw [hoff])) (by simpa using hb)
                        · have holds : ∀ (j : Nat) (v : Value), (cs'.toList.take (n * ti.size))[j]? = some v → w.cell? (q.add j) = some v := by
                            intro j v hj
                            rcases hp with h0 | rfl
                            · have : n = 0 := by omega
                              subst this; simp at hj
                            · rw [add_eq, hoff]
                              rw [List.getElem?_take] at hj
                              split at hj
                              · simp [World.cell?, hblk]; simpa using hj
                              · cases hj
                          have hrun := append_grow_run (ty := ty) ht hi hz q n c' _ hlo holds hsrc (by omega) (by omega) (growslice_fits (by omega) (by omega))
                          obtain ⟨hR0, hM0⟩ := hR.forget i
                          obtain ⟨hR1, hM1⟩ := hR0.heap (w' := w.drew) rfl
                          obtain ⟨K, hK, hr, hm, hget⟩ := new_sound hR1 (e := e') (use := .row) (fz := (0, 0)) (cs := cs.take (n * ti.size) ++ new)
                            (cs' := (cs'.toList.take (n * ti.size)).toArray ++ new'.toArray ++ Builtin.zeroCells z.cells (grownCap w (n + (m + 1)) c' e' - (n + (m + 1)))) (by simp) (.inl rfl) (fun o v hv => by
                              obtain ⟨v', h1, h2⟩ := (hold.append hnew).get hv
                              refine ⟨v', ?_, h2⟩
                              rw [Array.getElem?_append_left (by have := (List.getElem?_eq_some_iff.1 h1).1; simpa using this)]
                              simpa using h1)
                          simp only [hset_length] at hget hr hm
                          refine ⟨_, _, _, hrun, ?_, hr, hM0.trans (hM1.trans hm)⟩
                          have hge := grownCap_ge w (n + (m + 1)) c' e'
                          refine .slice hget hge (.inr (by rw [hK]; rfl)) (fun _ => ?_)
                          subst hK
                          simp only [eszOf, hcof, Array.size_append, size_zeroCells, hzs', List.size_toArray, hnl, hlo]
                          rw [← Nat.add_mul, ← Nat.add_mul]
                          have : (n + (m + 1) + (grownCap w (n + (m + 1)) c' e' - (n + (m + 1)))) = grownCap w (n + (m + 1)) c' e' := by omega
                          rw [this]; omega
                      · cases h
                    · cases h
                  · cases h
                · cases h
              · cases h
          · cases h
        · cases h
      · cases h
    · cases h
  · cases h
end Go.Abs
