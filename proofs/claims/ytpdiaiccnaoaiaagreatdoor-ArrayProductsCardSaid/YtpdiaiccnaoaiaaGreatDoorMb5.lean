/-
Joined: AbS, AbX, AbF, Ab29, AbC, AbH, AbD.
-/
import Derived.OpenShut
import Derived.KernelRfl
import Derived.ChangeSlices
import Derived.Test.YtpdiaiccnaoaiaaGreatDoorMb2
import Derived.Lib.LaidTab
import Derived.ReadAgain
import Derived.ChangeCalls
import Derived.RowKit
import Derived.Test.YtpdiaiccnaoaiaaGreatDoorMb4
set_option linter.unusedVariables false
set_option linter.unusedSimpArgs false
set_option linter.unusedSectionVars false
/-
Arguments of numbers, bools, strings, and slices of rows of them: cell by cell, and the first rows that they make.
-/
namespace Go.Abs
open Go

/-- The kind of a cell without an address. -/
inductive AK where
  | int (k : IntKind) | bool | str
inductive AtomAs : AK → Value → Prop
  | int {k : IntKind} {a : Int} (h : (Lit.int k a).wf = true) : AtomAs (.int k) (.int k a)
  | bool {b : Bool} : AtomAs .bool (.bool b)
  | str {s : ByteArray} (h : s.size ≤ maxLen) : AtomAs .str (.string s)
theorem AtomAs.atom {k : AK} {v : Value} (h : AtomAs k v) : atomB v = true := by cases h <;> rfl
inductive AtomsAs : List AK → List Value → Prop
  | nil : AtomsAs [] []
  | cons {k : AK} {v : Value} {ks : List AK} {cs : List Value} (h : AtomAs k v) (t : AtomsAs ks cs) : AtomsAs (k :: ks) (v :: cs)
theorem AtomsAs.len {ks : List AK} {cs : List Value} (h : AtomsAs ks cs) : cs.length = ks.length := by
  induction h with
  | nil => rfl
  | cons _ _ ih => simp [ih]
theorem AtomsAs.all {ks : List AK} {cs : List Value} (h : AtomsAs ks cs) : cs.all atomB = true := by
  induction h with
  | nil => rfl
  | cons h _ ih => simp [h.atom, ih]
theorem AtomsAs.int_inv {k : IntKind} {ks : List AK} {cs : List Value} (h : AtomsAs (.int k :: ks) cs) : ∃ a cs', cs = .int k a :: cs' ∧ (Lit.int k a).wf = true ∧ AtomsAs ks cs' := by
  cases h with
  | cons h t => cases h with
    | int h => exact ⟨_, _, rfl, h, t⟩
theorem AtomsAs.end {cs : List Value} (h : AtomsAs [] cs) : cs = [] := by cases h; rfl

/-- The kind of an argument's cell: without an address, or a slice of elements of such cells. -/
inductive ArgK where
  | atom (a : AK) | list (e : TypeId) (l : List AK)
def atomsOf : List ArgK → Option (List AK)
  | [] => some []
  | .atom a :: ks => (atomsOf ks).map (a :: ·)
  | .list .. :: _ => none

/-- n elements of these cells, from an address on. -/
def ListAt (w : World) (a : Addr) (l : List AK) (n : Nat) (cs : List Value) : Prop :=
  cs.length = n * l.length ∧ (∀ i, i < n * l.length → w.cell? (a.add i) = cs[i]?) ∧ ∀ i, i < n → AtomsAs l ((cs.drop (i * l.length)).take l.length)
inductive CellsAs (w : World) : List ArgK → List Value → Prop
  | nil : CellsAs w [] []
  | atom {a : AK} {v : Value} {ks : List ArgK} {cs : List Value} (h : AtomAs a v) (t : CellsAs w ks cs) : CellsAs w (.atom a :: ks) (v :: cs)
  | none {e : TypeId} {l : List AK} {ks : List ArgK} {cs : List Value} (t : CellsAs w ks cs) : CellsAs w (.list e l :: ks) (.slice none 0 0 :: cs)
  | list {e : TypeId} {l : List AK} {ks : List ArgK} {cs rows : List Value} {a : Addr} {n c : Nat} (hn : n ≤ c) (h : ListAt w a l n rows) (hc : c ≠ 0 → ∃ v, w.cell? a = some v) (hl : 0 < l.length) (t : CellsAs w ks cs) : CellsAs w (.list e l :: ks) (.slice (some a) n c :: cs)
theorem CellsAs.append {w : World} {ks ls : List ArgK} {cs ds : List Value} (h : CellsAs w ks cs) (h' : CellsAs w ls ds) : CellsAs w (ks ++ ls) (cs ++ ds) := by
  induction h with
  | nil => exact h'
  | atom h _ ih => exact .atom h ih
  | none _ ih => exact .none ih
  | list hn h hc hl _ ih => exact .list hn h hc hl ih
theorem CellsAs.atoms {w : World} {ks : List ArgK} {cs : List Value} (h : CellsAs w ks cs) : ∀ {l : List AK}, atomsOf ks = some l → AtomsAs l cs := by
  induction h with
  | nil => intro l h; cases h; exact .nil
  | atom h _ ih =>
    intro l hl
    simp only [atomsOf, Option.map_eq_some_iff] at hl
    obtain ⟨r, hr, rfl⟩ := hl
    exact .cons h (ih hr)
  | none _ _ => intro l hl; cases hl
  | list _ _ _ _ _ _ => intro l hl; cases hl
theorem CellsAs.int_inv {w : World} {k : IntKind} {ks : List ArgK} {cs : List Value} (h : CellsAs w (.atom (.int k) :: ks) cs) : ∃ a cs', cs = .int k a :: cs' ∧ (Lit.int k a).wf = true ∧ CellsAs w ks cs' := by
  cases h with
  | atom h t => cases h with
    | int h => exact ⟨_, _, rfl, h, t⟩
theorem CellsAs.end {w : World} {cs : List Value} (h : CellsAs w [] cs) : cs = [] := by cases h; rfl

def argRow (F : TypeId → Option (List ArgK)) (P : Program) : List Field → Nat → Option (List ArgK)
  | [], _ => some []
  | f :: fs, off => match F f.type with
    | some l => if f.offset == off && P.cellsOf f.type == l.length then (argRow F P fs (off + l.length)).map (l ++ ·) else none
    | none => none
/-- The kinds of the cells of an argument's type. -/
def argKinds (P : Program) : Nat → TypeId → Option (List ArgK)
  | 0, _ => none
  | n + 1, t => match P.underlying t with
    | some (.int k) => some [.atom (.int k)]
    | some .bool => some [.atom .bool]
    | some .string => some [.atom .str]
    | some (.slice e) => match argKinds P n e with
      | some ks => match atomsOf ks with
        | some l => if P.cellsOf e == l.length && decide (0 < l.length) then some [.list e l] else none
        | none => none
      | none => none
    | some (.struct fs) => match argRow (argKinds P n) P fs.toList 0 with
      | some l => if P.cellsOf t == l.length then some l else none
      | none => none
    | some (.array m e) => match argKinds P n e with
      | some l => if P.cellsOf e == l.length && P.cellsOf t == m * l.length then some (List.replicate m l).flatten else none
      | none => none
    | _ => none

theorem add_add (a : Addr) (x j : Nat) : (a.add x).add j = a.add (x + j) := by
  unfold Addr.add
  by_cases hj : j = 0
  · subst hj; simp
  · by_cases hx : x = 0
    · subst hx; simp [hj]
    · have : x + j ≠ 0 := by omega
      simp [hj, hx, Nat.add_assoc]

section
variable {H : Type} {enc : TypeId × Value → H} {P : Program} {w : World} {base : Nat} {held : Bool}
theorem argRow_of {F : TypeId → Option (List ArgK)} {T : TypeId → List Value → Prop} (hT : ∀ t l c, F t = some l → T t c → CellsAs w l c) :
    ∀ (fs : List Field) (off : Nat) (ks : List ArgK) (cs : List Value), argRow F P fs off = some ks → (∀ f ∈ fs, T f.type ((cs.drop f.offset).take (P.cellsOf f.type))) → off + ks.length = cs.length → CellsAs w ks (cs.drop off)
  | [], off, ks, cs, h, _, hl => by
    cases h
    simp at hl
    rw [List.drop_eq_nil_of_le (by omega)]
    exact .nil
  | f :: fs, off, ks, cs, h, hf, hl => by
    unfold argRow at h
    split at h
    · rename_i l hF
      split at h
      · rename_i hc
        simp only [Bool.and_eq_true, beq_iff_eq] at hc
        simp only [Option.map_eq_some_iff] at h
        obtain ⟨r, hr, rfl⟩ := h
        simp only [List.length_append] at hl
        have g1 := argRow_of hT fs (off + l.length) r cs hr (fun f hm => hf f (List.mem_cons_of_mem _ hm)) (by omega)
        have g3 := hT _ _ _ hF (hf f (by simp))
        rw [hc.1, hc.2] at g3
        have := g3.append g1
        rwa [← List.drop_drop, List.take_append_drop] at this
      · cases h
    · cases h
theorem argArr_of {l : List ArgK} {n : Nat} {cs : List Value} (hlen : cs.length = n * l.length) (hT : ∀ i, i < n → CellsAs w l ((cs.drop (i * l.length)).take l.length)) :
    ∀ (m k : Nat), k + m = n → CellsAs w (List.replicate m l).flatten (cs.drop (k * l.length))
  | 0, k, h => by
    have : k = n := by omega
    subst this
    rw [List.drop_eq_nil_of_le (by omega)]
    exact .nil
  | m + 1, k, h => by
    have h2 := hT k (by omega)
    have g1 := argArr_of hlen hT m (k + 1) (by omega)
    rw [List.replicate_succ, List.flatten_cons]
    have := h2.append g1
    rwa [Nat.succ_mul, ← List.drop_drop, List.take_append_drop] at this
/-- WHAT IS READ AS SUCH A TYPE. -/
theorem args_of : ∀ (n : Nat) (t : TypeId) (ks : List ArgK) (fuel : Nat) (cs : List Value) (x : DataW H × List MemPlace), argKinds P n t = some ks → DataW.trod enc P w base (fun _ => true) held fuel t cs = some x → CellsAs w ks cs
  | 0, t, ks, fuel, cs, x, h, _ => by cases h
  | n + 1, t, ks, fuel, cs, x, h, hx => by
    have ih := fun t ks fuel cs x => args_of n t ks fuel cs x
    unfold argKinds at h
    split at h
    · rename_i k ht
      cases h
      obtain ⟨a, rfl, rfl, hw⟩ := DataW.trod_int ht hx
      exact .atom (.int hw) .nil
    · rename_i ht
      cases h
      obtain ⟨b, rfl, rfl⟩ := DataW.trod_bool ht hx
      exact .atom .bool .nil
    · rename_i ht
      cases h
      obtain ⟨s, rfl, rfl, hs⟩ := DataW.trod_string ht hx
      exact .atom (.str hs) .nil
    · rename_i e ht
      split at h
      · rename_i ks' hks
        split at h
        · rename_i l hl
          split at h
          · rename_i hc
            cases h
            simp only [Bool.and_eq_true, beq_iff_eq, decide_eq_true_eq] at hc
            obtain ⟨hc, hpos⟩ := hc
            rcases DataW.trod_slice ht hx with ⟨rfl, _⟩ | ⟨a, len, cap, elems, rest, m, rfl, rfl, rfl, hb, hlc, hm, hlen, hel, hsp, _⟩
            · exact .none .nil
            · obtain ⟨hrl, hrest⟩ := hsp rfl
              rw [hc] at hel hrest
              have one : ∀ (i : Nat) (y : DataW H × List MemPlace), (w.cells? base (a.add (i * l.length)) l.length).bind (DataW.trod enc P w base (fun _ => true) held m e) = some y → ∃ ci, AtomsAs l ci ∧ ∀ r, r < l.length → w.cell? (a.add (i * l.length + r)) = ci[r]? := by
                intro i y hy
                obtain ⟨ci, h1, h2⟩ := Option.bind_eq_some_iff.1 hy
                obtain ⟨_, _, h3⟩ := World.cells?_some h1
                refine ⟨ci, (ih e ks' m ci y hks h2).atoms hl, fun r hr => ?_⟩
                rw [← add_add]
                exact h3 r hr
              have each : ∀ i, i < len → ∃ ci, AtomsAs l ci ∧ ∀ r, r < l.length → w.cell? (a.add (i * l.length + r)) = ci[r]? := by
                intro i hi
                have := hel i hi
                have hi' : i < elems.length := by omega
                rw [List.getElem?_eq_getElem hi'] at this
                exact one i _ this
              let rows : List Value := (List.range (len * l.length)).map fun j => (w.cell? (a.add j)).getD undef
              have hat : ∀ j, j < len * l.length → w.cell? (a.add j) = rows[j]? := by
                intro j hj
                have hi : j / l.length < len := Nat.div_lt_of_lt_mul (by rwa [Nat.mul_comm])
                have hr : j % l.length < l.length := Nat.mod_lt _ hpos
                obtain ⟨ci, h1, h2⟩ := each (j / l.length) hi
                have h3 := h2 (j % l.length) hr
                have e1 : j / l.length * l.length + j % l.length = j := by rw [Nat.mul_comm]; exact Nat.div_add_mod j l.length
                rw [e1] at h3
                have hlt : j % l.length < ci.length := by rw [h1.len]; exact hr
                rw [List.getElem?_eq_getElem hlt] at h3
                simp only [rows, List.getElem?_map, List.getElem?_range hj, Option.map_some, h3, Option.getD_some]
              refine .list hlc (rows := rows) ⟨by simp [rows], hat, fun i hi => ?_⟩ (fun hcap => ?_) hpos .nil
              · obtain ⟨ci, h1, h2⟩ := each i hi
                have : (rows.drop (i * l.length)).take l.length = ci := by
                  apply List.ext_getElem?
                  intro r
                  rw [List.getElem?_take]
                  split
                  · rename_i hr
                    rw [List.getElem?_drop, ← hat _ (by
                      have : (i + 1) * l.length ≤ len * l.length := Nat.mul_le_mul_right _ hi
                      rw [Nat.succ_mul] at this
                      omega), h2 r hr]
                  · rename_i hr
                    rw [List.getElem?_eq_none (by rw [h1.len]; omega)]
                rw [this]; exact h1
              · have e0 : a.add (0 * l.length + 0) = a := by simp [Addr.add]
                have fin : ∀ ci, AtomsAs l ci → (∀ r, r < l.length → w.cell? (a.add (0 * l.length + r)) = ci[r]?) → ∃ v, w.cell? a = some v := by
                  intro ci h1 h2
                  have h3 := h2 0 hpos
                  rw [e0, List.getElem?_eq_getElem (by rw [h1.len]; exact hpos)] at h3
                  exact ⟨_, h3⟩
                by_cases h0 : 0 < len
                · obtain ⟨ci, h1, h2⟩ := each 0 h0
                  exact fin ci h1 h2
                · have hlen0 : len = 0 := by omega
                  subst hlen0
                  have h1 := hrest 0 (by omega)
                  rw [Nat.zero_add] at h1
                  have h2 : 0 < rest.length := by omega
                  rw [List.getElem?_eq_getElem h2] at h1
                  obtain ⟨ci, h3, h4⟩ := one 0 _ h1
                  exact fin ci h3 h4
          · cases h
        · cases h
      · cases h
    · rename_i fs ht
      split at h
      · rename_i l hl
        split at h
        · rename_i hc
          cases h
          have hc : P.cellsOf t = ks.length := by simpa using hc
          obtain ⟨xs, m, rfl, _, h1, h2, h3⟩ := DataW.trod_struct ht hx
          have := argRow_of (w := w) (T := fun t c => ∃ x, DataW.trod enc P w base (fun _ => true) held m t c = some x) (fun t l c hl hx => hx.elim fun x hx => ih t l m c x hl hx) fs.toList 0 ks cs hl (fun f hf => by
            obtain ⟨i, hi⟩ := List.getElem?_of_mem hf
            have h4 := h3 i f (by simpa using hi)
            have hi' : i < xs.length := by
              have := (List.getElem?_eq_some_iff.1 hi).1
              rw [h2]; simpa using this
            rw [List.getElem?_eq_getElem hi'] at h4
            exact ⟨_, h4⟩) (by omega)
          simpa using this
        · cases h
      · cases h
    · rename_i m e ht
      split at h
      · rename_i l hl
        split at h
        · rename_i hc
          cases h
          simp only [Bool.and_eq_true, beq_iff_eq] at hc
          obtain ⟨xs, f', hf, _, h1, h2, h3⟩ := DataW.trod_array ht hx
          have := argArr_of (w := w) (l := l) (n := m) (cs := cs) (by rw [h1, hc.2]) (fun i hi => by
            have h4 := h3 i hi
            have hi' : i < xs.length := by omega
            rw [List.getElem?_eq_getElem hi'] at h4
            have := ih _ _ _ _ _ hl h4
            rwa [hc.1] at this) m 0 (by omega)
          simpa using this
        · cases h
      · cases h
    · cases h
end

/-- A row that is read alone comes to rows of which none is own. -/
theorem Rel.putRo {P : Program} {ρ : Loc} {A : Heap} {w : World} (hR : Rel P ρ A w) (hn : noOwn A = true) {cs : List Value} {e : TypeId} {L : L4} (hrow : RowOK P (ρ.put A.length L) w L (.cells cs e .ro)) : Rel P (ρ.put A.length L) (A ++ [some (.cells cs e .ro)]) w := by
  have h0 : ρ A.length = none := hR.sup _ (Nat.le_refl _)
  have hx := Ext.put (L := L) h0
  have get : ∀ i r, hget (A ++ [some (.cells cs e .ro)]) i = some r → (i < A.length ∧ hget A i = some r) ∨ (i = A.length ∧ r = .cells cs e .ro) := by
    intro i r hi
    rw [hget_append] at hi
    split at hi
    · exact .inl ⟨‹_›, hi⟩
    · rename_i hge
      have hlt : i - A.length < 1 := by simpa using hget_lt hi
      have : i - A.length = 0 := by omega
      rw [this] at hi
      simp at hi
      exact .inr ⟨by omega, hi.symm⟩
  have old : ∀ i, i < A.length → ρ.put A.length L i = ρ i := fun i hi => by simp [Loc.put, Nat.ne_of_lt hi]
  refine ⟨fun i hi => ?_, fun i r hi => ?_, fun i r M hi hM => ?_, fun i j r s M N hi _ _ _ _ ho => ?_⟩
  · simp at hi
    have : i ≠ A.length := by omega
    simp only [Loc.put, if_neg this]
    exact hR.sup i (by omega)
  · rcases get i r hi with ⟨hlt, h1⟩ | ⟨rfl, _⟩
    · rw [old i hlt]; exact hR.has i r h1
    · exact ⟨L, by simp⟩
  · rcases get i r hi with ⟨hlt, h1⟩ | ⟨rfl, rfl⟩
    · rw [old i hlt] at hM
      exact (hR.row i r M h1 hM).move hx rfl
    · simp at hM
      subst hM
      exact hrow
  · rcases get i r hi with ⟨hlt, h1⟩ | ⟨rfl, rfl⟩
    · exfalso
      obtain ⟨M', hM'⟩ := hR.has i r h1
      exact noOwn_spec hn ⟨i, r, M', h1, hM', ho, rfl⟩
    · cases ho
theorem noOwn_put {A : Heap} (hn : noOwn A = true) {cs : List Value} {e : TypeId} : noOwn (A ++ [some (.cells cs e .ro)]) = true := by
  unfold noOwn at hn ⊢
  rw [List.all_append, hn]
  rfl
/-- The value of a slice among the arguments: nil, or that of the row i with n elements. -/
def sval (b : Bool) (i n : Nat) : Value := if b then .slice (some ⟨i, 0, none⟩) n n else .slice none 0 0
/-- n elements of these cells. -/
def ListOf (l : List AK) (n : Nat) (rows : List Value) : Prop := rows.length = n * l.length ∧ ∀ i, i < n → AtomsAs l ((rows.drop (i * l.length)).take l.length)
/-- A slice among the arguments makes a row. -/
theorem CellsAs.list_inv {P : Program} {ρ : Loc} {A : Heap} {w : World} {e : TypeId} {l : List AK} {ks : List ArgK} {cs : List Value} (h : CellsAs w (.list e l :: ks) cs) (hR : Rel P ρ A w) (hn : noOwn A = true) (hz : ∃ i cs e u, hget A i = some (.cells cs e u)) :
    ∃ v cs' b n rows ρ', cs = v :: cs' ∧ CellsAs w ks cs' ∧ ListOf l n rows ∧ (b = false → n = 0) ∧ VR ρ' (sval b A.length n) v ∧ Ext ρ ρ' ∧ Rel P ρ' (A ++ [some (.cells rows e .ro)]) w ∧ noOwn (A ++ [some (.cells rows e .ro)]) = true := by
  have h0 : ρ A.length = Option.none := hR.sup _ (Nat.le_refl _)
  -- a row of nothing
  have none_row : ∃ L : L4, L.esz = 0 ∧ ∀ ρ', RowOK P ρ' w L (.cells [] e .ro) := by
    obtain ⟨i, cs0, e0, u0, hi⟩ := hz
    obtain ⟨L, hL⟩ := hR.has i _ hi
    obtain ⟨cs', e', fz, b1, _⟩ := hR.row i _ L hi hL
    exact ⟨⟨L.blk, L.off, 0, L.fin⟩, rfl, fun ρ' => ⟨cs', e', fz, b1, fun o v hv => by simp at hv, fun _ _ => rfl, fun h => absurd rfl h⟩⟩
  cases h with
  | none t =>
    obtain ⟨L, _, hrow⟩ := none_row
    exact ⟨_, _, false, 0, [], ρ.put A.length L, rfl, t, ⟨by simp, fun i hi => by omega⟩, fun _ => rfl, .atom rfl, Ext.put h0 L, hR.putRo hn (hrow _), noOwn_put hn⟩
  | list hnc h hc hl t =>
    rename_i cs' rows a n c
    by_cases hc0 : c = 0
    · have hn0 : n = 0 := by omega
      subst hn0
      obtain ⟨L, hL0, hrow⟩ := none_row
      obtain ⟨h1, _, _⟩ := h
      have hr : rows = [] := List.length_eq_zero_iff.1 (by simpa using h1)
      subst hr
      refine ⟨_, _, true, 0, [], ρ.put A.length L, rfl, t, ⟨by simp, fun i hi => by omega⟩, (by intro h; cases h), ?_, Ext.put h0 L, hR.putRo hn (hrow _), noOwn_put hn⟩
      exact .slice (L := L) (Loc.put_self ρ A.length L) hnc (.inl hc0) (fun h => absurd hL0 h)
    · obtain ⟨v, hv⟩ := hc hc0
      obtain ⟨h1, h2, h3⟩ := h
      have hspot : a.spot = Option.none := by
        unfold World.cell? at hv
        split at hv
        · split at hv
          · cases hv
          · rename_i hs; simpa using hs
        · cases hv
      have ha : a = ⟨a.block, a.off, Option.none⟩ := by
        obtain ⟨b, o, s⟩ := a
        cases hspot
        rfl
      have hblk : ∃ cs' e' fz, w.heap[a.block]? = some (.cells cs' e' fz) := by
        unfold World.cell? at hv
        split at hv
        · rename_i c t fr hw; exact ⟨c, t, fr, hw⟩
        · cases hv
      obtain ⟨ds, e', fz, hw⟩ := hblk
      have cell : ∀ i v, w.cell? (a.add i) = some v → ds[a.off + i]? = some v := by
        intro i v hv
        unfold World.cell? at hv
        have hb : (a.add i).block = a.block := by unfold Addr.add; split <;> rfl
        have ho : (a.add i).off = a.off + i := by
          unfold Addr.add
          split
          · rename_i h0; rw [h0]; rfl
          · rfl
        rw [hb, hw] at hv
        simp only at hv
        split at hv
        · cases hv
        · rw [ho] at hv; exact hv
      let L : L4 := ⟨a.block, a.off, 0, 0⟩
      have hatoms : ∀ (o : Nat) (v : Value), rows[o]? = some v → atomB v = true := by
        intro o v hv
        have ho : o < rows.length := (List.getElem?_eq_some_iff.1 hv).1
        rw [h1] at ho
        have hi : o / l.length < n := Nat.div_lt_of_lt_mul (by rwa [Nat.mul_comm])
        have hall := (h3 _ hi).all
        have hm : ((rows.drop (o / l.length * l.length)).take l.length)[o % l.length]? = some v := by
          rw [List.getElem?_take, if_pos (Nat.mod_lt _ hl), List.getElem?_drop]
          have e1 : o / l.length * l.length + o % l.length = o := by rw [Nat.mul_comm]; exact Nat.div_add_mod o l.length
          rw [e1]; exact hv
        exact List.all_eq_true.1 hall v (List.mem_of_getElem? hm)
      have hrow : RowOK P (ρ.put A.length L) w L (.cells rows e .ro) := by
        refine ⟨ds, e', fz, hw, fun o v hv => ⟨v, ?_, .atom (hatoms o v hv)⟩, fun _ _ => rfl, fun h => absurd rfl h⟩
        have ho : o < n * l.length := by rw [← h1]; exact (List.getElem?_eq_some_iff.1 hv).1
        exact cell o v (by rw [h2 o ho]; exact hv)
      refine ⟨_, _, true, n, rows, ρ.put A.length L, rfl, t, ⟨h1, h3⟩, (by intro h; cases h), ?_, Ext.put h0 L, hR.putRo hn hrow, noOwn_put hn⟩
      exact .slice (L := L) (Loc.put_self ρ A.length L) hnc (.inr (by rw [ha]; rfl)) (fun h => absurd rfl h)
end Go.Abs
/-
Slices among the arguments, whatever rows there are: nil, without room, or a row.
-/
namespace Go.Abs
open Go
end Go.Abs
/-
Arguments of whole numbers alone: structs and arrays of them, cell by cell.
-/
namespace Go.Abs
open Go

/-- Cells that are whole numbers of these kinds. -/
inductive IntsAs : List IntKind → List Value → Prop
  | nil : IntsAs [] []
  | cons {k : IntKind} {a : Int} {ks : List IntKind} {cs : List Value} (h : (Lit.int k a).wf = true) (t : IntsAs ks cs) : IntsAs (k :: ks) (.int k a :: cs)
section
variable {H : Type} {enc : TypeId × Value → H} {P : Program} {w : World} {base : Nat} {spare : Nat → Bool} {held : Bool}
end
end Go.Abs
/-
The abstract machine: the tables that a row lists, as rows of the first heap; and behind a call that leaves all old blocks, what a row asks.
-/
namespace Go.Abs
open Go

/-- Where the parts begin. -/
def offs (ls : List (List Value)) : List Nat := (List.range ls.length).map fun i => (ls.take i).flatten.length
/-- The cells of a datum of plain parts, in their order. -/
def flatRow {H : Type} (P : Program) : Nat → TypeId → DataW H → Option (List Value)
  | 0, _, _ => none
  | fuel + 1, t, d =>
    match P.underlying t, d with
    | some .bool, .lit (.bool b) => some [.bool b]
    | some (.int k), .lit (.int k' n) => if k' = k then some [.int k n] else none
    | some (.array n e), .agg ds => (ds.mapM fun d => flatRow P fuel e d).bind fun ls => if ds.length = n ∧ offs ls = (List.range n).map (· * P.cellsOf e) then some ls.flatten else none
    | some (.struct fs), .agg ds => ((fs.toList.zip ds).mapM fun x => flatRow P fuel x.1.type x.2).bind fun ls => if ds.length = fs.size ∧ offs ls = fs.toList.map (·.offset) then some ls.flatten else none
    | _, _ => none

theorem flat_get : ∀ {ls : List (List Value)} {o : Nat} {v : Value}, ls.flatten[o]? = some v → ∃ (i : Nat) (a : List Value) (j : Nat), ls[i]? = some a ∧ a[j]? = some v ∧ o = (ls.take i).flatten.length + j
  | [], o, v, h => by simp at h
  | a :: ls, o, v, h => by
    rw [List.flatten_cons, List.getElem?_append] at h
    split at h
    · exact ⟨0, a, o, rfl, h, by simp⟩
    · rename_i hn
      obtain ⟨i, b, j, h1, h2, h3⟩ := flat_get h
      refine ⟨i + 1, b, j, by simpa using h1, h2, ?_⟩
      simp only [List.take_succ_cons, List.flatten_cons, List.length_append]
      omega
theorem offs_at {ls : List (List Value)} {i : Nat} {a : List Value} (h : ls[i]? = some a) : (offs ls)[i]? = some (ls.take i).flatten.length := by
  have hi : i < ls.length := (List.getElem?_eq_some_iff.1 h).1
  simp [offs, hi]
theorem mapM_back {α β : Type} {f : α → Option β} {l : List α} {r : List β} (h : l.mapM f = some r) {i : Nat} {b : β} (hb : r[i]? = some b) : ∃ a, l[i]? = some a ∧ f a = some b := by
  have hi : i < r.length := (List.getElem?_eq_some_iff.1 hb).1
  have hl : i < l.length := by rw [← Lib.mapM_length h]; exact hi
  obtain ⟨b', h1, h2⟩ := Lib.mapM_at h i l[i] (List.getElem?_eq_getElem hl)
  rw [hb] at h1
  cases h1
  exact ⟨l[i], List.getElem?_eq_getElem hl, h2⟩
theorem cut_get {cs : List Value} {o n j : Nat} {v : Value} (h : ((cs.drop o).take n)[j]? = some v) : cs[o + j]? = some v := by
  rw [List.getElem?_take] at h
  split at h
  · simpa [List.getElem?_drop] using h
  · cases h

theorem flatRow_spec {H : Type} {enc : TypeId × Value → H} {P : Program} {w : World} {base : Nat} {sp : Nat → Bool} {hd : Bool} : ∀ (n m : Nat) (t : TypeId) (d : DataW H) (l cs : List Value) (p : List MemPlace), flatRow P n t d = some l →
    DataW.trod enc P w base sp hd m t cs = some (d, p) → ∀ (o : Nat) (v : Value), l[o]? = some v → cs[o]? = some v
  | 0, _, _, _, _, _, _, h, _ => by cases h
  | n + 1, m, t, d, l, cs, p, h, ht => by
    intro o v ho
    unfold flatRow at h
    split at h
    · rename_i hu
      obtain ⟨b, rfl, e⟩ := DataW.trod_bool hu ht
      cases e; cases h; exact ho
    · rename_i k k' z hu
      obtain ⟨b, rfl, e, _⟩ := DataW.trod_int hu ht
      cases e
      simp only [if_true, Option.some.injEq] at h
      subst h; exact ho
    · rename_i na e ds hu
      obtain ⟨xs, m', rfl, ex, hlen, hxl, hx⟩ := DataW.trod_array hu ht
      obtain ⟨ls, hls, h⟩ := Option.bind_eq_some_iff.1 h
      split at h
      · rename_i hc
        cases h
        obtain ⟨i, a, j, h1, h2, rfl⟩ := flat_get ho
        obtain ⟨d', hd', hf⟩ := mapM_back hls h1
        cases ex
        simp only [List.getElem?_map, Option.map_eq_some_iff] at hd'
        obtain ⟨x, hx1, rfl⟩ := hd'
        have hi : i < na := by rw [← hxl]; exact (List.getElem?_eq_some_iff.1 hx1).1
        have hr := hx i hi
        rw [hx1] at hr
        have := flatRow_spec n m' e x.1 a _ x.2 hf hr j v h2
        have ho' := offs_at h1
        rw [hc.2] at ho'
        simp only [List.getElem?_map, List.getElem?_range hi, Option.map_some, Option.some.injEq] at ho'
        rw [← ho']
        exact cut_get this
      · cases h
    · rename_i fs ds hu
      obtain ⟨xs, m', rfl, ex, hlen, hxl, hx⟩ := DataW.trod_struct hu ht
      obtain ⟨ls, hls, h⟩ := Option.bind_eq_some_iff.1 h
      split at h
      · rename_i hc
        cases h
        obtain ⟨i, a, j, h1, h2, rfl⟩ := flat_get ho
        obtain ⟨fd, hd', hf⟩ := mapM_back hls h1
        cases ex
        obtain ⟨hf1, hd1⟩ := List.getElem?_zip_eq_some.1 hd'
        simp only [List.getElem?_map, Option.map_eq_some_iff] at hd1
        obtain ⟨x, hx1, hx2⟩ := hd1
        have hr := hx i fd.1 (by simpa using hf1)
        rw [hx1] at hr
        rw [← hx2] at hf
        have := flatRow_spec n m' fd.1.type x.1 a _ x.2 hf hr j v h2
        have ho' := offs_at h1
        rw [hc.2] at ho'
        simp only [List.getElem?_map, hf1, Option.map_some, Option.some.injEq] at ho'
        rw [← ho']
        exact cut_get this
      · cases h
    · cases h

/-- The tables of the list, as rows; other variables have none. -/
def tabRow (P : Program) (laid : List (String × DataW Unit)) (g : Nat) : Option ARow :=
  laid.findSome? fun x => if P.globalNamed x.1 = some g then (P.globals[g]?).bind fun v => (flatRow P 9 v.type x.2).bind fun cs => if cs.all atomB = true then some (.cells cs 0 .ro) else none else none
def tabRows (P : Program) (laid : List (String × DataW Unit)) (G : Nat) : Heap := (List.range G).map (tabRow P laid)
def tabLoc (G : Nat) : Loc := fun i => if i < G then some ⟨i, 0, 0, 0⟩ else none
theorem tabLoc_globs (G : Nat) : Globs (tabLoc G) G := fun g hg => ⟨0, 0, by simp [tabLoc, hg]⟩

theorem laidVars_mem {P : Program} {w : World} : ∀ {l : List (String × DataW Unit)} {ps : List MemPlace}, DataW.LaidVars P w l ps → ∀ x ∈ l, ∃ g t cs fuel p, P.globalNamed x.1 = some g ∧ (P.globals[g]?).map (·.type) = some t ∧ w.var? P x.1 = some cs ∧
    DataW.trod (fun _ => ()) P w 0 (fun _ => true) false fuel t cs.toList = some (x.2, p)
  | [], _, _, x, hx => by cases hx
  | y :: l, _, ⟨g, t, cs, fuel, p, q, h1, h2, h3, h4, h5, _⟩, x, hx => by
    rcases List.mem_cons.1 hx with rfl | hx
    · exact ⟨g, t, cs, fuel, p, h1, h2, h3, h4⟩
    · exact laidVars_mem h5 x hx

theorem tabRows_rel {P : Program} {laid : List (String × DataW Unit)} {G : Nat} {w : World} (h : laidMet P laid w) : Rel P (tabLoc G) (tabRows P laid G) w := by
  have get : ∀ i r, hget (tabRows P laid G) i = some r → i < G ∧ tabRow P laid i = some r := by
    intro i r hi
    rw [hget_eq] at hi
    simp only [tabRows, List.getElem?_map, Option.map_eq_some_iff] at hi
    obtain ⟨j, hj, hr⟩ := hi
    have hlt : i < G := by have := (List.getElem?_eq_some_iff.1 hj).1; simpa using this
    simp [hlt] at hj
    subst hj
    exact ⟨hlt, hr⟩
  have row : ∀ i r, tabRow P laid i = some r → ∃ cs, r = .cells cs 0 .ro ∧ ∃ cs' e' fz, w.heap[i]? = some (.cells cs' e' fz) ∧ cs.all atomB = true ∧ ∀ (o : Nat) (v : Value), cs[o]? = some v → cs'[o]? = some v := by
    intro i r hr
    obtain ⟨x, hx, hr⟩ := List.exists_of_findSome?_eq_some hr
    split at hr
    · rename_i hn
      obtain ⟨v, hv, hr⟩ := Option.bind_eq_some_iff.1 hr
      obtain ⟨cs, hcs, hr⟩ := Option.bind_eq_some_iff.1 hr
      by_cases hat : cs.all atomB = true
      case neg => rw [if_neg hat] at hr; cases hr
      rw [if_pos hat] at hr; cases hr
      obtain ⟨ps, hl, _⟩ := h
      obtain ⟨g, t, cs', fuel, p, h1, h2, h3, h4⟩ := laidVars_mem hl x hx
      rw [hn] at h1; cases h1
      rw [hv] at h2; cases h2
      refine ⟨cs, rfl, ?_⟩
      simp only [World.var?, hn, Option.bind_some] at h3
      split at h3
      · rename_i c e fz hw
        cases h3
        exact ⟨_, _, _, hw, hat, fun o v ho => by simpa using flatRow_spec 9 fuel _ _ cs _ p hcs h4 o v ho⟩
      · cases h3
    · cases hr
  have loc : ∀ i, i < G → tabLoc G i = some ⟨i, 0, 0, 0⟩ := fun i hi => by simp [tabLoc, hi]
  refine ⟨fun i hi => ?_, fun i r hi => ⟨_, loc i (get i r hi).1⟩, fun i r L hi hL => ?_, fun i j r s L M hi hj hL hM _ ho => ?_⟩
  · simp [tabRows] at hi
    simp [tabLoc, Nat.not_lt.2 hi]
  · obtain ⟨hlt, hr⟩ := get i r hi
    rw [loc i hlt] at hL; cases hL
    obtain ⟨cs, rfl, cs', e', fz, hw, hat, hc⟩ := row i r hr
    refine ⟨cs', e', fz, hw, fun o v hv => ⟨v, by simpa using hc o v hv, ?_⟩, fun _ _ => rfl, fun h => absurd rfl h⟩
    exact .atom (List.all_eq_true.1 hat v (List.mem_of_getElem? hv))
  · obtain ⟨hlt, hr⟩ := get i r hi
    obtain ⟨cs, rfl, _⟩ := row i r hr
    cases ho

open Go.ChangeShapes in
theorem post_of_still {H : Type} {enc : TypeId × Value → H} {P : Program} {f : Func} {s : ChangeSpec} {apart fresh handsOn again : Bool} {W W' : World} {args : Array Value} {v : Value} {ds gs : List (DataW H)} {before pa pv : List MemPlace}
    (hW : DataW.Whole enc P f.params.toList s.vars apart W args.toList ds gs before)
    (hres : ∀ (b : Nat) (sp : Nat → Bool) (hd : Bool), DataW.TrodAll enc P W' b sp hd f.resultTypes.toList (v.resultList f.resultTypes.size) (s.fn H (ds ++ gs)).results [])
    (hargs : ∀ sp : Nat → Bool, (∀ p ∈ before, sp p.block = true) → DataW.TrodAll enc P W' 0 sp true f.params.toList args.toList (s.fn H (ds ++ gs)).args pa)
    (hvars : ∀ sp : Nat → Bool, (∀ p ∈ before, sp p.block = true) → DataW.TrodVars enc P W' sp s.vars (s.fn H (ds ++ gs)).vars pv)
    (hps : before = pa ++ pv) (ho : W'.os = W.os ∧ W'.output = W.output) (hb : ∀ b, b < W.heap.size → W'.heap[b]? = W.heap[b]?)
    (hok : ∀ (j : Nat) (t : TypeId) (r : Value), f.resultTypes[j]? = some t → (v.resultList f.resultTypes.size)[j]? = some r → Value.okWide P W' .any 0 t r) :
    s.post enc P f apart fresh handsOn again W args v W' := by
  have hlt := hW.lt
  have hold : ∀ p ∈ before, (fun b => decide (b < W.heap.size)) p.block = true := fun p hp => by simpa using hlt p hp
  refine ⟨ds, gs, before, [], pa, pv, hW, hres _ _ _, hargs _ hold, hvars _ hold, kept_of_same ho hb _, fun _ => ?_⟩
  obtain ⟨_, _, _, _, _, hz, hn⟩ := hW
  refine ⟨hok, _, _, ([] ++ pa) ++ pv, ⟨[] ++ pa, pv, trodAll_append (hargs _ (fun _ _ => rfl)) (hres _ _ _), hvars _ (fun _ _ => rfl), rfl, ?_, ?_⟩, ?_⟩
  · intro b off hp
    have hp' : MemPlace.cell b off ∈ before := by rw [hps]; simpa using hp
    rw [frozen_of_same hb (hlt _ hp')]
    exact hz b off hp'
  · intro ha
    have := hn ha
    rw [hps] at this
    simpa using this
  · intro p hp _
    rw [hps]
    simpa using hp

/-- Behind a call that leaves all old blocks the arguments read as before. -/
theorem trodAll_still {H : Type} {enc : TypeId × Value → H} {P : Program} {W W' : World} (hb : ∀ b, b < W.heap.size → W'.heap[b]? = W.heap[b]?) : ∀ {ts : List TypeId} {vs : List Value} {ds : List (DataW H)} {ps : List MemPlace} {sp : Nat → Bool} {hd : Bool}, (∀ p ∈ ps, p.block < W.heap.size) → DataW.TrodAll enc P W 0 sp hd ts vs ds ps → DataW.TrodAll enc P W' 0 sp hd ts vs ds ps
  | [], [], [], _, _, _, _, h => h
  | _ :: _, _ :: _, _ :: _, _, _, _, hl, ⟨p, q, ⟨n, h1⟩, h2, e⟩ => ⟨p, q, ⟨n, DataW.trod_carry n _ _ _ h1 fun x hx => by
      have := hl x (by rw [e]; exact List.mem_append_left _ hx)
      cases x with
      | cell b off => simp only [World.sameAt, World.cell?, hb b this]
      | map b => exact hb b this⟩, trodAll_still hb (fun x hx => hl x (by rw [e]; exact List.mem_append_right _ hx)) h2, e⟩
  | [], _ :: _, _, _, _, _, _, h => h.elim
  | [], [], _ :: _, _, _, _, _, h => h.elim
  | _ :: _, [], _, _, _, _, _, h => h.elim
  | _ :: _, _ :: _, [], _, _, _, _, h => h.elim

/-- What is asked of the program's types, that arguments read again. -/
structure Reads (P : Program) : Prop where
  out : laidOutB P = true
  maps : mapsRowed P = true
  full : ((List.range P.types.size).all fun t => match P.underlying t with | some (.slice e) => decide (0 < P.cellsOf e) | _ => true) = true

open Go.ChangeShapes Go.RowKit in
/-- WHAT A LAW's ROW ASKS: true came back, all old blocks are as they were. -/
theorem law_post {H : Type} {enc : TypeId × Value → H} {P : Program} (hP : Reads P) {f : Func} {s : ChangeSpec} {apart fresh handsOn again : Bool} {W W' : World} {args : Array Value} {ds gs : List (DataW H)} {before : List MemPlace} {bt : TypeId}
    (hv : s.vars = []) (hfn : ∀ ds : List (DataW H), ds.length = f.params.size → s.fn H ds = { results := [.lit (.bool true)], args := ds }) (hr : f.resultTypes = #[bt]) (hu : P.underlying bt = some .bool) (hts : f.params.toList.all (fun t => decide (t < P.types.size)) = true)
    (hW : DataW.Whole enc P f.params.toList s.vars apart W args.toList ds gs before) (ho : W'.os = W.os ∧ W'.output = W.output) (hb : ∀ b, b < W.heap.size → W'.heap[b]? = W.heap[b]?) :
    s.post enc P f apart fresh handsOn again W args (.bool true) W' := by
  have hW0 := hW
  have hlt := hW.lt
  obtain ⟨p, q, hA, hV, rfl, hz, hn⟩ := hW
  rw [hv] at hV
  obtain ⟨rfl, rfl⟩ : gs = [] ∧ q = [] := by
    cases gs with
    | nil => exact ⟨rfl, hV⟩
    | cons => exact hV.elim
  have hlen : ds.length = f.params.size := by simpa using (Go.trodAll_length hA).2
  have hf := hfn ds hlen
  refine post_of_still (pa := p) (pv := []) hW0 (fun b sp hd => ?_) (fun sp hs => ?_) (fun sp _ => ?_) rfl ho hb ?_
  · rw [List.append_nil, hf, hr]
    exact trodAll_cons_mk (shut_bool hu true) trodAll_mk0
  · rw [List.append_nil, hf]
    refine trodAll_still hb (fun x hx => hlt x (by simpa using hx)) ?_
    exact DataW.TrodAll.respare (kids_rows hP.out hP.maps) (fun t e ht => slices_full_of P hP.full t e ht) (fun t ht => by simpa using List.all_eq_true.1 hts t ht) hA (fun x hx => hs x (by simpa using hx))
  · rw [List.append_nil, hf, hv]
    exact rfl
  · exact ok_one hr rfl (okWide_bool_mk hu true)
end Go.Abs
/-
A list of exact calls becomes known; a row that nobody has may stand behind the others.
-/
namespace Go.Abs
open Go
theorem hget_addNone (A : Heap) (i : Nat) (r : ARow) (h : hget (A ++ [none]) i = some r) : hget A i = some r := by
  rw [hget_append] at h
  by_cases hi : i < A.length
  · rw [if_pos hi] at h; exact h
  · rw [if_neg hi] at h
    rcases hj : i - A.length with _ | k
    · rw [hj] at h; simp at h
    · rw [hj] at h; cases h
theorem Rel.addNone {P : Program} {ρ : Loc} {A : Heap} {w : World} (h : Rel P ρ A w) : Rel P ρ (A ++ [none]) w where
  sup i hi := h.sup i (by simp at hi; omega)
  has i r hr := h.has i r (hget_addNone A i r hr)
  row i r L hr hL := h.row i r L (hget_addNone A i r hr) hL
  sep i j r s L M hr hs := h.sep i j r s L M (hget_addNone A i r hr) (hget_addNone A j s hs)
theorem Moves.addNone {ρ ρ' : Loc} {A A' : Heap} {w w' : World} (h : Moves ρ A w ρ' A' w') : Moves ρ A w ρ' (A' ++ [none]) w' where
  pre := h.pre
  len := by simp; have := h.len; omega
  same := h.same
  size := h.size
  frame := h.frame
  rows i r L hr hL := h.rows i r L (hget_addNone A' i r hr) hL
  out := h.out
  loops := h.loops
theorem SaysAt.addNone {P : Program} {G : Nat} {f : FuncId} {args : List Value} {A : Heap} {v : Value} {A' : Heap} (h : SaysAt P G f args A v A') : SaysAt P G f args A v (A' ++ [none]) := by
  intro ρ w args' ha hg hr
  rcases h ρ w args' ha hg hr with ⟨v', w', ρ', h1, h2, h3, h4⟩ | ⟨h1, h2⟩
  · exact .inl ⟨v', w', ρ', h1, h2, h3.addNone, h4.addNone⟩
  · exact .inr ⟨h1, h2.mono fun e w' ⟨v', ρ', g1, g2, g3, g4⟩ => ⟨v', ρ', g1, g2, g3.addNone, g4.addNone⟩⟩
/-- An exact call that makes new rows alone. -/
structure CallC where
  f : FuncId
  args : List Value
  A : Heap
  v : Value
  R : Heap
open Classical in
noncomputable def callsK (L : List CallC) (f : FuncId) (args : List Value) (A : Heap) : Option (Value × Heap) := if h : ∃ c ∈ L, f = c.f ∧ args = c.args ∧ A = c.A then some ((Classical.choose h).v, A ++ (Classical.choose h).R) else none
/-- E, with the calls of the functions fs that stand in L. -/
noncomputable def Env.calls (E : Env) (fs : List FuncId) (L : List CallC) : Env := E.with fun _ f args A => if fs.contains f then callsK L f args A else none
theorem Env.calls_ok {P : Program} {G : Nat} {E : Env} {fs : List FuncId} {L : List CallC} (hE : EnvOK P G E) (hs : ∀ c ∈ L, SaysAt P G c.f c.args c.A c.v (c.A ++ c.R)) : EnvOK P G (E.calls fs L) := by
  refine env_says hE fun lim f args A v A' h => ?_
  by_cases hf : fs.contains f = true
  · rw [if_pos hf] at h
    unfold callsK at h
    by_cases he : ∃ c ∈ L, f = c.f ∧ args = c.args ∧ A = c.A
    · rw [dif_pos he] at h
      obtain ⟨h0, h1, h2, h3⟩ := Classical.choose_spec he
      cases h
      have s1 := hs _ h0
      rw [← h1, ← h2, ← h3] at s1
      exact ⟨s1, by simp, fun i _ hi => by rw [hget_append, if_pos hi]⟩
    · rw [dif_neg he] at h; cases h
  · rw [if_neg hf] at h; cases h
/-- Calls at different functions or different numbers of rows. -/
def keysC : List (Nat × Nat) → Bool
  | [] => true
  | (a, b) :: l => (l.all fun k => !(Nat.beq a k.1 && Nat.beq b k.2)) && keysC l
theorem keysC_one : ∀ {L : List CallC}, keysC (L.map fun c => (c.f, c.A.length)) = true → ∀ c ∈ L, ∀ d ∈ L, c.f = d.f → c.A = d.A → c = d
  | [], _, c, hc, _, _, _, _ => by cases hc
  | x :: L, h, c, hc, d, hd, hf, hA => by
    simp only [List.map_cons, keysC, Bool.and_eq_true, List.all_map, List.all_eq_true] at h
    obtain ⟨h1, h2⟩ := h
    have key : ∀ y ∈ L, x.f = y.f → x.A = y.A → False := fun y hy e1 e2 => by
      have := h1 y hy
      simp [Function.comp, e1, e2] at this
    rcases List.mem_cons.1 hc with hcx | hc' <;> rcases List.mem_cons.1 hd with hdx | hd'
    · rw [hcx, hdx]
    · rw [hcx] at hf hA; exact (key d hd' hf hA).elim
    · rw [hdx] at hf hA; exact (key c hc' hf.symm hA.symm).elim
    · exact keysC_one h2 c hc' d hd' hf hA
theorem Env.calls_here {P : Program} {E : Env} {fs : List FuncId} {L : List CallC} {lim : Nat} (h1 : ∀ c ∈ L, ∀ d ∈ L, c.f = d.f → c.A = d.A → c.v = d.v ∧ c.R = d.R) (c : CallC) (hc : c ∈ L) (hf : fs.contains c.f = true) : Gives P (E.calls fs L) lim c.f c.args c.A (c.v, c.A ++ c.R) := by
  apply known_gives
  have he : ∃ d ∈ L, c.f = d.f ∧ c.args = d.args ∧ c.A = d.A := ⟨c, hc, rfl, rfl, rfl⟩
  simp only [Env.calls, Env.with, hf, if_true]
  unfold callsK
  rw [dif_pos he]
  obtain ⟨g0, g1, _, g3⟩ := Classical.choose_spec he
  obtain ⟨e1, e2⟩ := h1 _ hc _ g0 g1 g3
  simp only [← e1, ← e2]
theorem SaysAt.rows {P : Program} {G : Nat} {T A R0 R1 : Heap} {f : FuncId} {args args0 : List Value} {v0 v : Value} (ids : List Nat) (h : SaysAt P G f args0 (T ++ R0) v0 (T ++ R0 ++ R1)) (hTl : T.length = G) (hT : T.all tableRow = true) (hs : startsB T A = true) (hids : ids.all (fun i => decide (G ≤ i)) = true) (hnd : nodupB ids = true) (hrows : rowsAt A ids = some R0) (hargs0 : listRen (valBy (inNum G ids)) args = some args0) (hR1 : R1.all plainRow = true) (hv : valBy (outNum G ids A.length) v0 = some v) : SaysAt P G f args A v (A ++ R1) :=
  fun _ _ _ ha hg hr => rows_says hTl hT hs (by simpa [List.all_eq_true] using hids) hnd hrows hargs0 hR1 hv h ha hg hr
theorem OwnIn.addNone {ρ : Loc} {A : Heap} {b : Nat} : OwnIn ρ (A ++ [none]) b ↔ OwnIn ρ A b := by
  constructor
  · rintro ⟨i, r, L, h1, h2⟩
    exact ⟨i, r, L, hget_addNone A i r h1, h2⟩
  · rintro ⟨i, r, L, h1, h2⟩
    exact ⟨i, r, L, by rw [hget_append, if_pos (hget_lt h1)]; exact h1, h2⟩
theorem Moves.dropNone {ρ ρ' : Loc} {A A' : Heap} {w w' : World} (h : Moves ρ (A ++ [none]) w ρ' A' w') : Moves ρ A w ρ' A' w' where
  pre := h.pre
  len := by have := h.len; simp at this; omega
  same i hi := h.same i (by simp; omega)
  size := h.size
  frame b hb hn := h.frame b hb (fun ho => hn (OwnIn.addNone.1 ho))
  rows i r L hr hL := by
    rcases h.rows i r L hr hL with ⟨_, r0, h0, ho⟩ | h1 | h1
    · have h0 := hget_addNone A i r0 h0
      exact .inl ⟨hget_lt h0, r0, h0, ho⟩
    · exact .inr (.inl h1)
    · exact .inr (.inr (OwnIn.addNone.1 h1))
  out := h.out
  loops := h.loops
/-- What holds beside a row that nobody has, holds without it. -/
theorem SaysAt.dropNone {P : Program} {G : Nat} {f : FuncId} {args : List Value} {A : Heap} {v : Value} {A' : Heap} (h : SaysAt P G f args (A ++ [none]) v A') : SaysAt P G f args A v A' := by
  intro ρ w args' ha hg hr
  rcases h ρ w args' ha hg hr.addNone with ⟨v', w', ρ', h1, h2, h3, h4⟩ | ⟨h1, h2⟩
  · exact .inl ⟨v', w', ρ', h1, h2, h3, h4.dropNone⟩
  · exact .inr ⟨h1, h2.mono fun e w' ⟨v', ρ', g1, g2, g3, g4⟩ => ⟨v', ρ', g1, g2, g3, g4.dropNone⟩⟩
end Go.Abs
/-
A slice of a list, from a fact.
-/
namespace Go.Abs
open Go
end Go.Abs
/-
A slice to which a loop appends, nil or not; a row that nobody has may stand at the end of the heap in the midst of a call, too.
-/
namespace Go.Abs
open Go
theorem EndsA.addNone {P : Program} {G : Nat} {fn : Func} {A0 A1 A : Heap} {v : Value} {todo : List It} {l : List Value} (h : EndsA P G fn A0 v A1 todo l (A ++ [none])) : EndsA P G fn A0 v A1 todo l A :=
  fun hok ρ0 ρ w0 w a b cs rs hro hG hR0 hS hR hM hmk hrs => h hok ρ0 ρ w0 w a b cs rs hro hG hR0 hS hR.addNone hM.addNone hmk hrs
theorem EndsG.addNone {P : Program} {G : Nat} {fn : Func} {A0 A A' : Heap} {v' : Value} {todo : List It} {l : List Value} (h : EndsG P G fn A0 v' A' todo l (A ++ [none])) : EndsG P G fn A0 v' A' todo l A :=
  let ⟨v, A1, g, h⟩ := h; ⟨v, A1, g, EndsA.addNone h⟩
theorem EndsG.heap {P : Program} {G : Nat} {fn : Func} {A0 A B A' : Heap} {v' : Value} {todo : List It} {l : List Value} (e : B = A) (h : EndsG P G fn A0 v' A' todo l B) : EndsG P G fn A0 v' A' todo l A := e ▸ h
/-- A slice of M elements at row r; nil without any. -/
def svA (r : Nat) : Nat → Value
  | 0 => .slice none 0 0
  | M + 1 => .slice (some ⟨r, 0, none⟩) (M + 1) (M + 1)
theorem svA_nb (r M : Nat) : boolB (svA r M) = false := by cases M <;> rfl
/-- Its row. -/
def rwA (E : Nat) : Nat → List Value → Option ARow
  | 0, _ => none
  | _ + 1, cs => some (.cells cs E .row)
theorem call1 {P : Program} {E : Env} {fs : List FuncId} {c : CallC} {lim : Nat} (hf : fs.contains c.f = true) : Gives P (E.calls fs [c]) lim c.f c.args c.A (c.v, c.A ++ c.R) :=
  Env.calls_here (fun a ha b hb _ _ => by rw [List.mem_singleton.1 ha, List.mem_singleton.1 hb]; exact ⟨rfl, rfl⟩) c (List.mem_singleton.2 rfl) hf
section
variable {P : Program} {t e : TypeId} {ti : TypeInfo} {m : Nat}
theorem app_gen0 {lim q c' : Nat} {A : Heap} {new : List Value} {e' : Nat} {u : Use} {z : Value} {b : Nat} (ht : P.underlying t = some (.slice e)) (hi : P.info? e = some ti) (hs : ti.size = m) (hz : ti.zero = some z) (hb : ti.bytes = b)
    (hzf : freeB z = true) (hzl : z.cells.toList.length = m) (hq : hget A q = some (.cells new e' u)) (hnew : new.length = m) (hone : new.all oneC = true) (hsz : b ≤ 70368744177664) :
    aAppend P lim #[t, t] (.slice none 0 0) (.slice (some ⟨q, 0, none⟩) 1 c') A = some (.slice (some ⟨A.length, 0, none⟩) 1 1, A ++ [some (.cells new e .row)]) := by
  subst hs; subst hb
  have hc : aCellsOf ti.size (.slice (some ⟨q, 0, none⟩) 1 c') A = some (1, new) := by
    simp only [aCellsOf, hq, Nat.one_mul, Nat.zero_add, hnew, Nat.le_refl, if_true, List.drop_zero]
    rw [List.take_of_length_le (by rw [hnew]; exact Nat.le_refl _)]
  simp only [aAppend, List.getElem?_toArray, List.getElem?_cons_zero, List.getElem?_cons_succ, ht, hi, hz, aSource, if_true]
  rw [hc]
  simp only [hone, if_true]
  rw [if_pos (by exact ⟨rfl, hzf, hzl⟩), if_pos (by omega)]
theorem app_gen {lim r q M c' : Nat} {A : Heap} {cs new : List Value} {e' : Nat} {u : Use} {z : Value} {b : Nat} (ht : P.underlying t = some (.slice e)) (hi : P.info? e = some ti) (hs : ti.size = m) (hz : ti.zero = some z) (hb : ti.bytes = b)
    (hzf : freeB z = true) (hzl : z.cells.toList.length = m) (hr : hget A r = rwA e M cs) (hw : M = 0 → hset A r none = A) (hq : hget A q = some (.cells new e' u)) (hcs : cs.length = M * m) (hnew : new.length = m) (hone : new.all oneC = true) (hlim : lim ≤ r) (hsz : (M + 1) * b ≤ 70368744177664) (hn : M + 1 ≤ 1099511627776) :
    aAppend P lim #[t, t] (svA r M) (.slice (some ⟨q, 0, none⟩) 1 c') A = some (.slice (some ⟨A.length, 0, none⟩) (M + 1) (M + 1), hset A r none ++ [some (.cells (cs ++ new) e .row)]) := by
  cases M with
  | zero =>
    rw [Nat.zero_mul] at hcs
    obtain rfl := List.eq_nil_of_length_eq_zero hcs
    rw [hw rfl, List.nil_append]
    exact app_gen0 (P := P) ht hi hs hz hb hzf hzl hq hnew hone (by omega)
  | succ M => exact app_one (P := P) ht hi hs hz hb hzf hzl hr hq hcs hnew hone hlim hsz hn ht
end
end Go.Abs
