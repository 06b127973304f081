/-
The abstract machine: regions whose order is open. Third part: the run in the order of the text; slots; rows.
-/
import Derived.Test.YtnhmokgakpknlaaGreatDoorAb18
namespace Go.Abs
open Go

def Trace (P : Program) (c : Sub) (lim : Nat) (imp : FuncId → Bool) (ops : Array Oper) (At : Heap) (rs : List Nat) (st : Nat → DS) : Prop :=
  ∀ i o, ops[i]? = some o → DStep P c lim imp ops At rs i o (st i) (st (i + 1))

theorem Keeps.append (lim : Nat) (A X : Heap) : Keeps lim A (A ++ X) := ⟨by simp, fun i _ hA => by rw [hget_append, if_pos hA]⟩

noncomputable def isSol (imp : FuncId → Bool) (ops : Array Oper) (o : Oper) (i : Nat) (s : DS) : Bool :=
  aWanted ops s.l o && (!looseB imp ops o i && solidIn (writersOf imp ops.toList) ops.toList (ancs ops.toList) i)

theorem writer_not_pure {imp : FuncId → Bool} {op : Op} (h : isWriter imp op = true) : isPure op = false := by
  cases op <;> simp_all [isWriter, isPure]
  rename_i c
  obtain ⟨callee, args, ats⟩ := c
  cases callee with
  | value f => rfl
  | invoke r m => rfl
  | builtin b => cases b <;> simp_all [isWriter, isPure]

theorem writerAt_not_pure {imp : FuncId → Bool} {l : List Value} {o : Oper} (h : isWriterAt imp l o = true) : isPure o.op = false ∧ isLoad o.op = false := by
  simp only [isWriterAt, Bool.or_eq_true] at h
  rcases h with (h | h) | h
  · refine ⟨writer_not_pure h, ?_⟩
    cases ho : o.op <;> rw [ho] at h <;> simp [isWriter] at h <;> rfl
  · unfold aYieldOf at h
    split at h
    · rename_i x xs ats ho; rw [ho]; exact ⟨rfl, rfl⟩
    · cases h
  · split at h
    · rename_i f args hc
      unfold aCallOf at hc
      split at hc
      · rename_i x xs ats ho; rw [ho]; exact ⟨rfl, rfl⟩
      · cases hc
    · cases h
theorem writer_not_loose {imp : FuncId → Bool} {l : List Value} {ops : Array Oper} {o : Oper} {i : Nat} (h : isWriterAt imp l o = true) : looseB imp ops o i = false := by
  obtain ⟨h1, h2⟩ := writerAt_not_pure h
  simp [looseB, isFree, h1, h2]

section
variable {P : Program} {c : Sub} {lim : Nat} {imp : FuncId → Bool} {ops : Array Oper} {At : Heap} {rs : List Nat} {st : Nat → DS}

theorem trace_of {l l' : List Value} {A A' : Heap} (h : aDraw P c lim imp ops l A = some (l', A')) :
    ∃ (rs : List Nat) (st : Nat → DS), st 0 = ⟨l, A, []⟩ ∧ (st ops.size).l = l' ∧ (st ops.size).full = A' ∧ Trace P c lim imp ops A rs st := by
  obtain ⟨rs, st, _, _, h1, h2, h3, h4⟩ := trace ops.toList 0 ⟨l, A, []⟩ [] [] (by simp) (by omega) h
  refine ⟨rs, st, h1, h2, h3, fun i o ho => ?_⟩
  obtain ⟨o', ho', hs⟩ := h4 i (by omega) (Array.getElem?_eq_some_iff.1 ho).1
  rw [ho] at ho'; cases ho'
  exact hs

theorem DStep.keeps (hC : SubKeeps c) {i : Nat} {o : Oper} {s s' : DS} (h : DStep P c lim imp ops At rs i o s s') : Keeps lim s.full s'.full := by
  cases h with
  | skip => exact Keeps.refl _ _
  | pure => exact Keeps.refl _ _
  | free => exact Keeps.refl _ _
  | solid hw hp hf h2 hrow hr =>
    have := aOper_keeps hC hr
    split at this
    · simpa [DS.full, flatRows] using this
    · have h3 : Keeps lim s.full _ := ⟨this.1, fun i _ hA => this.2 i hA hA⟩
      simpa [DS.full, flatRows] using h3
  | soft hw hp hnf hn hr =>
    rename_i v R
    have := Keeps.append lim s.full (R.drop s.full.length)
    simpa [DS.full, flatRows_append, flatRows] using this

theorem Trace.keeps (hT : Trace P c lim imp ops At rs st) (hC : SubKeeps c) (i : Nat) : ∀ d, i + d ≤ ops.size → Keeps lim (st i).full (st (i + d)).full
  | 0, _ => Keeps.refl _ _
  | d + 1, h => (hT.keeps hC i d (by omega)).trans ((hT (i + d) _ (Array.getElem?_eq_getElem (by omega))).keeps hC)

theorem draw_keeps (hC : SubKeeps c) : DrawKeeps P lim imp c := by
  intro ops l A l' A' h
  obtain ⟨rs, st, h1, h2, h3, hT⟩ := trace_of h
  have := hT.keeps hC 0 ops.size (by omega)
  rw [h1, Nat.zero_add, h3] at this
  simpa [DS.full, flatRows] using this

/-- What an operation that is not solid does to the rows. -/
def Made (imp : FuncId → Bool) (ops : Array Oper) (st : Nat → DS) (x : Nat × Heap) : Prop :=
  ∃ o, ops[x.1]? = some o ∧ (x.2 ≠ [] → looseB imp ops o x.1 = false ∧ aWanted ops (st x.1).l o = true)

theorem quiet_step (hT : Trace P c lim imp ops At rs st) {i : Nat} {o : Oper} (ho : ops[i]? = some o) (hq : isSol imp ops o i (st i) = false) :
    (st (i + 1)).B = (st i).B ∧ ∃ X, (st (i + 1)).news = (st i).news ++ X ∧ ∀ x ∈ X, x.1 = i ∧ Made imp ops st x := by
  have h := hT i o ho
  unfold isSol at hq
  generalize he : st (i + 1) = s' at h ⊢
  cases h with
  | skip => exact ⟨rfl, [], by simp, fun x hx => by cases hx⟩
  | pure => exact ⟨rfl, [], by simp, fun x hx => by cases hx⟩
  | free => exact ⟨rfl, [], by simp, fun x hx => by cases hx⟩
  | solid hw hp hf h2 _ hr => rw [hw, h2] at hq; simp [looseB, hp, hf] at hq
  | soft hw hp hf hn hr =>
    refine ⟨rfl, _, rfl, fun x hx => ?_⟩
    simp only [List.mem_singleton] at hx
    subst hx
    exact ⟨rfl, o, ho, fun _ => ⟨by simp [looseB, hf, hp], hw⟩⟩

def QuietIn (imp : FuncId → Bool) (ops : Array Oper) (st : Nat → DS) (q e : Nat) : Prop := ∀ i o, q ≤ i → i < e → ops[i]? = some o → isSol imp ops o i (st i) = false

theorem quiet_news (hT : Trace P c lim imp ops At rs st) (q : Nat) : ∀ d, q + d ≤ ops.size → QuietIn imp ops st q (q + d) →
    (st (q + d)).B = (st q).B ∧ ∃ X, (st (q + d)).news = (st q).news ++ X ∧ ∀ x ∈ X, (q ≤ x.1 ∧ x.1 < q + d) ∧ Made imp ops st x
  | 0, _, _ => ⟨rfl, [], by simp, fun x hx => by cases hx⟩
  | d + 1, h, hq => by
    obtain ⟨h1, X, h2, h3⟩ := quiet_news hT q d (by omega) (fun i o a b => hq i o a (by omega))
    have hlt : q + d < ops.size := by omega
    obtain ⟨g1, Y, g2, g3⟩ := quiet_step hT (Array.getElem?_eq_getElem hlt) (hq (q + d) _ (by omega) (by omega) (Array.getElem?_eq_getElem hlt))
    refine ⟨g1.trans h1, X ++ Y, by rw [show q + (d + 1) = q + d + 1 from rfl, g2, h2, List.append_assoc], fun x hx => ?_⟩
    rcases List.mem_append.1 hx with hx | hx
    · have := h3 x hx; exact ⟨⟨this.1.1, by omega⟩, this.2⟩
    · have := g3 x hx; exact ⟨⟨by omega, by omega⟩, this.2⟩

theorem DStep.slot {i : Nat} {o : Oper} {s s' : DS} (h : DStep P c lim imp ops At rs i o s s') {t : Nat} (ht : o.dst ≠ some t) : tget s'.l t = tget s.l t := by
  have key : ∀ v, tget (tput s.l o.dst v) t = tget s.l t := fun v => by
    unfold tput
    split
    · rename_i d hd
      rw [tget_tset, if_neg (fun e => ht (by rw [hd, e]))]
    · rfl
  cases h <;> exact key _

theorem same_slot (hT : Trace P c lim imp ops At rs st) {t : Nat} (i : Nat) : ∀ d, i + d ≤ ops.size → (∀ k o, i ≤ k → k < i + d → ops[k]? = some o → o.dst ≠ some t) → tget (st (i + d)).l t = tget (st i).l t
  | 0, _, _ => rfl
  | d + 1, h, hn => by
    have hlt : i + d < ops.size := by omega
    have h1 := same_slot hT i d (by omega) (fun k o a b => hn k o a (by omega))
    rw [← h1]
    exact (hT (i + d) _ (Array.getElem?_eq_getElem hlt)).slot (hn (i + d) _ (by omega) (by omega) (Array.getElem?_eq_getElem hlt))

/-- The next solid operation. -/
theorem next_solid (imp : FuncId → Bool) (ops : Array Oper) (st : Nat → DS) : ∀ (d q : Nat), q + d = ops.size → ∃ e, q ≤ e ∧ e ≤ ops.size ∧ QuietIn imp ops st q e ∧ (e = ops.size ∨ ∃ o, ops[e]? = some o ∧ isSol imp ops o e (st e) = true)
  | 0, q, h => ⟨q, Nat.le_refl _, by omega, fun i o a b => by omega, .inl (by omega)⟩
  | d + 1, q, h => by
    have hlt : q < ops.size := by omega
    have ho := Array.getElem?_eq_getElem hlt
    cases hs : isSol imp ops ops[q] q (st q) with
    | true => exact ⟨q, Nat.le_refl _, by omega, fun i o a b => by omega, .inr ⟨_, ho, hs⟩⟩
    | false =>
      obtain ⟨e, h1, h2, h3, h4⟩ := next_solid imp ops st d (q + 1) (by omega)
      refine ⟨e, by omega, h2, fun i o a b hi => ?_, h4⟩
      by_cases hiq : i = q
      · subst hiq; rw [ho] at hi; cases hi; exact hs
      · exact h3 i o (by omega) b hi

/-- Rows that free loads read stay as they are. -/
theorem free_rows (hT : Trace P c lim imp ops At rs st) (h0 : (st 0).full = At) {r : Nat} (hr : r ∈ rs) (hlt : r < At.length) (hC : SubKeeps c) : ∀ k, k ≤ ops.size → hget (st k).full r = hget At r
  | 0, _ => by rw [h0]
  | k + 1, hk => by
    have ih := free_rows hT h0 hr hlt hC k (by omega)
    have hle : r < (st k).full.length := by
      have := (hT.keeps hC 0 k (by omega)).1
      rw [h0, Nat.zero_add] at this; omega
    have hs := hT k _ (Array.getElem?_eq_getElem (by omega))
    rw [← ih]
    generalize st (k + 1) = s' at hs
    cases hs with
    | skip => rfl
    | pure => rfl
    | free => rfl
    | solid hw hp hf h2 hrow hop =>
      by_cases hwr : isWriterAt imp (st k).l ops[k] = true
      · obtain ⟨w, hw1, hw2⟩ := hrow hwr r hr
        have := store_indep hw1 hop hw2
        simpa [DS.full, flatRows] using this
      · rw [if_neg hwr] at hop
        have := (aOper_keeps hC hop).2 r hle hle
        simpa [DS.full, flatRows] using this
    | soft hw hp hf hn hop =>
      simp only [DS.full, flatRows_append, ← List.append_assoc] at hle ⊢
      rw [hget_append, if_pos hle]

def withSelf (ops : Array Oper) (i : Nat) : Nat → Bool := fun k => (anOf ops i).testBit k || k == i
def addS (S : Nat → Bool) (j : Nat) : Nat → Bool := fun k => S k || k == j
def noneS : Nat → Bool := fun _ => false

/-- What the slots hold when the operations of S have run. -/
def Slots (ops : Array Oper) (st : Nat → DS) (S : Nat → Bool) (V : (Nat → Bool) → Loc) (a : Act) : Prop :=
  ∀ t, ((∀ i o, S i = true → ops[i]? = some o → o.dst ≠ some t) ∧ VR (V noneS) (tget (st 0).l t) (a.tmps.getD t undef)) ∨
    ∃ i o, S i = true ∧ ops[i]? = some o ∧ o.dst = some t ∧ (∀ k o', S k = true → ops[k]? = some o' → o'.dst = some t → k ≤ i) ∧ VR (V (withSelf ops i)) (tget (st (i + 1)).l t) (a.tmps.getD t undef)

/-- An operation that may run now. -/
structure Ready (ops : Array Oper) (S : Nat → Bool) (j : Nat) (o : Oper) : Prop where
  at_ : ops[j]? = some o
  new : S j = false
  pre : ∀ e ∈ o.after.toList, Region.binds .any e = true → S e.on = true

variable {S : Nat → Bool}

theorem Ready.lt {j : Nat} {o : Oper} (h : Ready ops S j o) : j < ops.size := (Array.getElem?_eq_some_iff.1 h.at_).1
theorem Ready.an (hd : okDraw ops = true) (hS : Closed ops S) {j : Nat} {o : Oper} (h : Ready ops S j o) {k : Nat} (hk : (anOf ops j).testBit k = true) : S k = true :=
  closed_an hd hS j k h.lt (fun o' ho' => by rw [h.at_] at ho'; cases ho'; exact h.pre) hk
theorem not_an (hd : okDraw ops = true) (hS : Closed ops S) {i j : Nat} {o x : Oper} (h : Ready ops S j o) (hi : ops[i]? = some x) (hSi : S i = true) : (anOf ops i).testBit j = false := by
  cases hb : (anOf ops i).testBit j with
  | false => rfl
  | true =>
    have := closed_an hd hS i j (Array.getElem?_eq_some_iff.1 hi).1 (fun o' ho' => hS i o' hSi ho') hb
    rw [h.new] at this; cases this
theorem closed_add (hS : Closed ops S) {j : Nat} {o : Oper} (h : Ready ops S j o) : Closed ops (addS S j) := by
  intro i o' hi ho' e he hb
  simp only [addS, Bool.or_eq_true, beq_iff_eq] at hi ⊢
  rcases hi with hi | rfl
  · exact .inl (hS i o' hi ho' e he hb)
  · rw [h.at_] at ho'; cases ho'; exact .inl (h.pre e he hb)

/-- What an operation looks at is as in the order of the text. -/
theorem slot_ok (hd : okDraw ops = true) (hT : Trace P c lim imp ops At rs st) (hS : Closed ops S) {V : (Nat → Bool) → Loc} (hV : ∀ m m' : Nat → Bool, (∀ k, m k = true → m' k = true) → Ext (V m) (V m'))
    {a : Act} (hs : Slots ops st S V a) {j : Nat} {o : Oper} (h : Ready ops S j o) {t : Nat} (ht : t ∈ o.looksAt ops) : VR (V fun k => (anOf ops j).testBit k) (tget (st j).l t) (a.tmps.getD t undef) := by
  have hj := h.lt
  -- a writer before j comes before it always
  have wr : ∀ k o', ops[k]? = some o' → o'.dst = some t → k < j → (anOf ops j).testBit k = true := by
    intro k o' hk hdst hlt
    rcases apart_of hd hk h.at_ hlt with h1 | h1
    · exact h1
    · exact absurd ht ((Oper.apart_spec h1).1 t hdst)
  rcases hs t with ⟨h1, h2⟩ | ⟨i, oi, h1, h2, h3, h4, h5⟩
  · have := same_slot hT (t := t) 0 j (by omega) (fun k o' _ hk ho' hdst => h1 k o' (h.an hd hS (wr k o' ho' hdst (by omega))) ho' hdst)
    rw [Nat.zero_add] at this
    rw [this]
    exact h2.mono (hV _ _ fun k hk => by cases hk)
  · have hne : i ≠ j := fun e => by rw [e, h.new] at h1; cases h1
    rcases Nat.lt_or_ge i j with hlt | hge
    · have hw := wr i oi h2 h3 hlt
      have := same_slot hT (t := t) (i + 1) (j - (i + 1)) (by omega) (fun k o' hk1 hk2 ho' hdst => by
        have := h4 k o' (h.an hd hS (wr k o' ho' hdst (by omega))) ho' hdst
        omega)
      rw [show i + 1 + (j - (i + 1)) = j from by omega] at this
      rw [this]
      refine h5.mono (hV _ _ fun k hk => ?_)
      simp only [withSelf, Bool.or_eq_true, beq_iff_eq] at hk
      rcases hk with hk | rfl
      · exact an_trans hd j i k hj hw hk
      · exact hw
    · have hlt : j < i := by omega
      rcases apart_of hd h.at_ h2 hlt with g | g
      · rw [not_an hd hS h h2 h1] at g; cases g
      · exact absurd ht ((Oper.apart_spec g).2.2 t h3)

/-- An operation has run: the slots. -/
theorem slots_put (hd : okDraw ops = true) (hS : Closed ops S) {V V' : (Nat → Bool) → Loc} (hVV : ∀ m, Ext (V m) (V' m)) {a : Act} (hs : Slots ops st S V a) {j : Nat} {o : Oper} (h : Ready ops S j o)
    {v v' : Value} (hl : (st (j + 1)).l = tput (st j).l o.dst v) (hv : VR (V' (withSelf ops j)) v v') (hnt : ∀ d, o.dst = some d → d < a.tmps.size) : Slots ops st (addS S j) V' (a.put o.dst v') := by
  intro t
  by_cases ht : o.dst = some t
  · refine .inr ⟨j, o, by simp [addS], h.at_, ht, fun k o' hk ho' hdst => ?_, ?_⟩
    · simp only [addS, Bool.or_eq_true, beq_iff_eq] at hk
      rcases hk with hk | rfl
      · rcases Nat.lt_or_ge j k with hlt | hge
        · rcases apart_of hd h.at_ ho' hlt with g | g
          · rw [not_an hd hS h ho' hk] at g; cases g
          · exact absurd hdst ((Oper.apart_spec g).2.1 t ht)
        · exact hge
      · exact Nat.le_refl _
    · have hlt := hnt t ht
      rw [hl, ht]
      simp only [tput, tget_tset, if_true, Act.put]
      simpa [hlt] using hv
  · have hput : (a.put o.dst v').tmps.getD t undef = a.tmps.getD t undef := by
      cases hdst : o.dst with
      | none => rfl
      | some d =>
        have hne : d ≠ t := fun e => ht (by rw [hdst, e])
        simp [Act.put, Array.getElem?_setIfInBounds_ne hne]
    rw [hput]
    rcases hs t with ⟨h1, h2⟩ | ⟨i, oi, h1, h2, h3, h4, h5⟩
    · refine .inl ⟨fun i o' hi ho' => ?_, h2.mono (hVV _)⟩
      simp only [addS, Bool.or_eq_true, beq_iff_eq] at hi
      rcases hi with hi | rfl
      · exact h1 i o' hi ho'
      · rw [h.at_] at ho'; cases ho'; exact ht
    · refine .inr ⟨i, oi, by simp [addS, h1], h2, h3, fun k o' hk ho' hdst => ?_, h5.mono (hVV _)⟩
      simp only [addS, Bool.or_eq_true, beq_iff_eq] at hk
      rcases hk with hk | rfl
      · exact h4 k o' hk ho' hdst
      · rw [h.at_] at ho'; cases ho'; exact absurd hdst ht
end

theorem RowOK.transfer {P : Program} {ρ0 ρ1 ρ' : Loc} {w w' : World} {L : L4} {r : ARow} (h0 : RowOK P ρ0 w L r) (h1 : RowOK P ρ1 w' L r) (hρ : ∀ i L, ρ0 i = some L → ρ' i = ρ1 i) : RowOK P ρ' w' L r := by
  cases r with
  | cells cs e use =>
    obtain ⟨c0, _, _, _, a0, _⟩ := h0
    obtain ⟨c1, e1, fz, b1, a1, rest⟩ := h1
    refine ⟨c1, e1, fz, b1, fun o v hv => ?_, rest⟩
    obtain ⟨v0, _, hv0⟩ := a0 o v hv
    obtain ⟨v1, hc1, hv1⟩ := a1 o v hv
    exact ⟨v1, hc1, VR.transfer hρ hv0 hv1⟩
  | iter s pos => exact h1
  | loop =>
    obtain ⟨t2, f2, d2, b1, b2, b3⟩ := h1
    obtain ⟨t1, f1, d1, c1, c2, _⟩ := h0
    exact ⟨t2, f2, d2, b1, fun k => VR.transfer hρ (c2 k) (b2 k), b3⟩
  | map =>
    obtain ⟨es2, b1, b2, b3⟩ := h1
    obtain ⟨es1, c1, c2, c3⟩ := h0
    exact ⟨es2, b1, b2, fun k key val born hk => let ⟨e2, y1, y2, y3, y4⟩ := b3 k key val born hk; let ⟨e1, _, _, _, z4⟩ := c3 k key val born hk; ⟨e2, y1, y2, y3, VR.transfer hρ z4 y4⟩⟩

/-- Rows of the others stay; rows of the piece are as it left them. -/
theorem soft_rows {P : Program} {ρ ρ1 ρM : Loc} {H M R : Heap} {w w' : World} (hH : Rel P ρ H w) (hsub : ∀ id r, hget M id = some r → hget H id = some r) (hρM : Ext ρM ρ) (hM : Rel P ρM M w)
    (hmv : Moves ρM M w ρ1 R w') (hk : ∀ id, id < M.length → hget R id = hget M id) {id : Nat} {r : ARow} {L : L4} (h1 : hget H id = some r) (h2 : ρ id = some L) :
    w'.heap[L.blk]? = w.heap[L.blk]? ∨ (hget M id = some r ∧ hget R id = some r ∧ ρ1 id = some L) := by
  cases hm : hget M id with
  | some q =>
    have hq : q = r := by have := hsub id q hm; rw [h1] at this; cases this; rfl
    subst hq
    have hlt := hget_lt hm
    obtain ⟨L', hL'⟩ := hM.has id q hm
    have : L' = L := by have := hρM id L' hL'; rw [h2] at this; cases this; rfl
    subst this
    exact .inr ⟨rfl, by rw [hk id hlt]; exact hm, by rw [hmv.same id hlt]; exact hL'⟩
  | none =>
    refine .inl (hmv.frame L.blk (hH.row id r L h1 h2).lt ?_)
    rintro ⟨k, q, K, a1, a2, a3, a4⟩
    have hne : k ≠ id := fun e => by subst e; rw [hm] at a1; cases a1
    exact hH.sep k id q r K L (hsub k q a1) h1 (hρM k K a2) h2 hne a3 a4
end Go.Abs
