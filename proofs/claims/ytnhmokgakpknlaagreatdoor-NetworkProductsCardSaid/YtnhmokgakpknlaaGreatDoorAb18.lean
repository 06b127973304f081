/-
The abstract machine: regions whose order is open. Second part: what comes before what; the run in the order of the text.
-/
import Derived.Test.YtnhmokgakpknlaaGreatDoorAb17
namespace Go.Abs
open Go

def edgeMask (acc : List Nat) (o : Oper) : Nat := o.after.toList.foldl (fun s e => if Region.binds .any e then s ||| 2 ^ e.on ||| acc.getD e.on 0 else s) 0

theorem edges_bit (acc : List Nat) (j : Nat) : ∀ (l : List Edge) (s : Nat), (l.foldl (fun s e => if Region.binds .any e then s ||| 2 ^ e.on ||| acc.getD e.on 0 else s) s).testBit j = true ↔
    s.testBit j = true ∨ ∃ e ∈ l, Region.binds .any e = true ∧ (e.on = j ∨ (acc.getD e.on 0).testBit j = true)
  | [], s => by simp
  | e :: l, s => by
    rw [List.foldl_cons, edges_bit acc j l]
    by_cases hb : Region.binds .any e = true
    · simp only [if_pos hb, Nat.testBit_or, Nat.testBit_two_pow, Bool.or_eq_true, decide_eq_true_eq]
      constructor
      · rintro (((h | h) | h) | ⟨e', h1, h2⟩)
        · exact .inl h
        · exact .inr ⟨e, by simp, hb, .inl h⟩
        · exact .inr ⟨e, by simp, hb, .inr h⟩
        · exact .inr ⟨e', by simp [h1], h2⟩
      · rintro (h | ⟨e', h1, h2, h3⟩)
        · exact .inl (.inl (.inl h))
        · rcases List.mem_cons.1 h1 with rfl | h1
          · rcases h3 with h | h
            · exact .inl (.inl (.inr h))
            · exact .inl (.inr h)
          · exact .inr ⟨e', h1, h2, h3⟩
    · rw [if_neg hb]
      constructor
      · rintro (h | ⟨e', h1, h2⟩)
        · exact .inl h
        · exact .inr ⟨e', by simp [h1], h2⟩
      · rintro (h | ⟨e', h1, h2, h3⟩)
        · exact .inl h
        · rcases List.mem_cons.1 h1 with rfl | h1
          · exact absurd h2 hb
          · exact .inr ⟨e', h1, h2, h3⟩

theorem ancsFrom_spec : ∀ (os : List Oper) (acc : List Nat), ∃ t, ancsFrom os acc = acc ++ t ∧ t.length = os.length ∧
    ∀ k o, os[k]? = some o → (ancsFrom os acc).getD (acc.length + k) 0 = edgeMask ((ancsFrom os acc).take (acc.length + k)) o
  | [], acc => ⟨[], by simp [ancsFrom], rfl, fun k o h => by simp at h⟩
  | o :: os, acc => by
    obtain ⟨t, h1, h2, h3⟩ := ancsFrom_spec os (acc ++ [edgeMask acc o])
    have e : ancsFrom (o :: os) acc = ancsFrom os (acc ++ [edgeMask acc o]) := rfl
    refine ⟨edgeMask acc o :: t, by rw [e, h1]; simp, by simp [h2], fun k o' hk => ?_⟩
    cases k with
    | zero =>
      simp at hk; subst hk
      rw [e, h1]
      simp [List.getD_eq_getElem?_getD]
    | succ k =>
      have := h3 k o' (by simpa using hk)
      rw [e]
      simpa [Nat.add_assoc, Nat.add_comm 1 k] using this

section
variable {ops : Array Oper}

def anOf (ops : Array Oper) (i : Nat) : Nat := (ancs ops.toList).getD i 0

theorem an_bit (hd : okDraw ops = true) {i : Nat} {o : Oper} (ho : ops[i]? = some o) (j : Nat) : (anOf ops i).testBit j = true ↔ ∃ e ∈ o.after.toList, Region.binds .any e = true ∧ e.on < i ∧ (e.on = j ∨ (anOf ops e.on).testBit j = true) := by
  have hlt : ∀ e ∈ o.after.toList, Region.binds .any e = true → e.on < i := by
    intro e he hb
    simp only [okDraw, Bool.and_eq_true] at hd
    have h1 := List.all_eq_true.1 hd.1 (o, i) (List.mem_iff_getElem?.2 ⟨i, by rw [List.getElem?_zipIdx]; simp [Array.getElem?_toList, ho]⟩)
    have h2 := List.all_eq_true.1 h1 e he
    simpa [hb] using h2
  obtain ⟨t, h1, h2, h3⟩ := ancsFrom_spec ops.toList []
  have h4 := h3 i o (by rw [Array.getElem?_toList]; exact ho)
  simp only [List.length_nil, Nat.zero_add] at h4
  have h5 : anOf ops i = edgeMask ((ancs ops.toList).take i) o := h4
  have hget : ∀ e ∈ o.after.toList, Region.binds .any e = true → ((ancs ops.toList).take i).getD e.on 0 = anOf ops e.on := by
    intro e he hb
    have := hlt e he hb
    simp [anOf, List.getD_eq_getElem?_getD, List.getElem?_take, this]
  rw [h5, edgeMask, edges_bit]
  constructor
  · rintro (h | ⟨e, a, b, c⟩)
    · simp at h
    · exact ⟨e, a, b, hlt e a b, by rwa [hget e a b] at c⟩
  · rintro ⟨e, a, b, _, c⟩
    exact .inr ⟨e, a, b, by rwa [hget e a b]⟩

theorem an_lt (hd : okDraw ops = true) : ∀ (i j : Nat), i < ops.size → (anOf ops i).testBit j = true → j < i := by
  intro i
  induction i using Nat.strongRecOn with
  | _ i ih =>
    intro j hi h
    obtain ⟨e, _, _, h1, h2⟩ := (an_bit hd (Array.getElem?_eq_getElem hi) j).1 h
    rcases h2 with h2 | h2
    · omega
    · have := ih e.on h1 j (by omega) h2; omega
theorem an_trans (hd : okDraw ops = true) : ∀ (j i k : Nat), j < ops.size → (anOf ops j).testBit i = true → (anOf ops i).testBit k = true → (anOf ops j).testBit k = true := by
  intro j
  induction j using Nat.strongRecOn with
  | _ j ih =>
    intro i k hj h hk
    obtain ⟨e, a, b, h1, h2⟩ := (an_bit hd (Array.getElem?_eq_getElem hj) i).1 h
    refine (an_bit hd (Array.getElem?_eq_getElem hj) k).2 ⟨e, a, b, h1, .inr ?_⟩
    rcases h2 with h2 | h2
    · rw [h2]; exact hk
    · exact ih e.on h1 i k (by omega) h2 hk

/-- A set that holds, with an operation, all that comes before it. -/
def Closed (ops : Array Oper) (S : Nat → Bool) : Prop := ∀ i o, S i = true → ops[i]? = some o → ∀ e ∈ o.after.toList, Region.binds .any e = true → S e.on = true

theorem closed_an (hd : okDraw ops = true) {S : Nat → Bool} (hS : Closed ops S) : ∀ (i j : Nat), i < ops.size → (∀ o, ops[i]? = some o → ∀ e ∈ o.after.toList, Region.binds .any e = true → S e.on = true) → (anOf ops i).testBit j = true → S j = true := by
  intro i
  induction i using Nat.strongRecOn with
  | _ i ih =>
    intro j hi hpre h
    obtain ⟨e, a, b, h1, h2⟩ := (an_bit hd (Array.getElem?_eq_getElem hi) j).1 h
    have hse := hpre _ (Array.getElem?_eq_getElem hi) e a b
    rcases h2 with h2 | h2
    · rw [← h2]; exact hse
    · exact ih e.on h1 j (by omega) (fun o ho => hS e.on o hse ho) h2

theorem apart_of (hd : okDraw ops = true) {i j : Nat} {x y : Oper} (hi : ops[i]? = some x) (hj : ops[j]? = some y) (hlt : i < j) : (anOf ops j).testBit i = true ∨ Oper.apart ops x y = true := by
  simp only [okDraw, Bool.and_eq_true] at hd
  have mem : ∀ {k : Nat} {z : Oper}, ops[k]? = some z → (z, k) ∈ ops.toList.zipIdx := fun {k} {z} hk => List.mem_iff_getElem?.2 ⟨k, by rw [List.getElem?_zipIdx]; simp [Array.getElem?_toList, hk]⟩
  have h1 := List.all_eq_true.1 (List.all_eq_true.1 hd.2 (y, j) (mem hj)) (x, i) (mem hi)
  simp only [hlt, decide_true, Bool.not_true, Bool.false_or, Bool.or_eq_true] at h1
  exact h1
end

theorem pure_indep {P : Program} {c : Sub} {lim : Nat} {l : List Value} {o : Oper} {A R : Heap} {v : Value} (hp : isPure o.op = true) (h : aOper P c lim l o A = some (v, R)) :
    R = A ∧ ∀ lim' A', aOper P c lim' l o A' = some (v, A') := by
  have hpure : aPure P l o A = some (v, R) → R = A ∧ ∀ A', aPure P l o A' = some (v, A') := by
    intro h
    unfold aPure at h ⊢
    split at h
    · rename_i hall
      split at h
      · rename_i u hu
        split at h
        · rename_i hf
          cases h
          exact ⟨rfl, fun A' => by simp [hall, hu, hf]⟩
        · cases h
      · cases h
    · cases h
  have hmap : ∀ {x : Option Value}, x.map (fun y => (y, A)) = some (v, R) → R = A ∧ ∀ A' : Heap, x.map (fun y => (y, A')) = some (v, A') := by
    intro x h
    obtain ⟨z, hz, he⟩ := map_some h
    cases he
    exact ⟨rfl, fun A' => by rw [hz]; rfl⟩
  obtain ⟨dst, op, type, pos, after, guard⟩ := o
  have hnc : aCallOf l ⟨dst, op, type, pos, after, guard⟩ = none := by
    unfold aCallOf
    split
    · rename_i x xs ats ho
      simp only at ho hp
      rw [ho] at hp
      simp [isPure] at hp
    · rfl
  have hny : aYieldOf l ⟨dst, op, type, pos, after, guard⟩ = none := by
    unfold aYieldOf
    split
    · rename_i x xs ats ho
      simp only at ho hp
      rw [ho] at hp
      simp [isPure] at hp
    · rfl
  simp only [aOper, hny, hnc] at h ⊢
  cases op <;> simp only [isPure, Bool.false_eq_true] at hp
  case move x => cases h; exact ⟨rfl, fun _ _ => rfl⟩
  case assign x => cases h; exact ⟨rfl, fun _ _ => rfl⟩
  case pick c0 x y =>
    simp only [aOp] at h
    split at h
    · rename_i t ht; cases h; exact ⟨rfl, fun _ _ => by simp [aOp, ht]⟩
    · cases h
  case build t ps => exact ⟨(hmap h).1, fun _ A' => (hmap h).2 A'⟩
  case fieldAddr t x f => exact ⟨(hmap h).1, fun _ A' => (hmap h).2 A'⟩
  case indexAddr t x f => exact ⟨(hmap h).1, fun _ A' => (hmap h).2 A'⟩
  case field t x f => exact ⟨(hmap h).1, fun _ A' => (hmap h).2 A'⟩
  case index t x f => exact ⟨(hmap h).1, fun _ A' => (hmap h).2 A'⟩
  case nilCheck x => exact ⟨(hmap h).1, fun _ A' => (hmap h).2 A'⟩
  case extract x i =>
    simp only [aOp] at h
    split at h
    · rename_i vs hvs
      exact ⟨(hmap h).1, fun _ A' => by have := (hmap h).2 A'; simp only [aOp, hvs]; exact this⟩
    · cases h
  case makeFunc fn f c0 =>
    simp only [aOp] at h
    split at h
    · rename_i hy; cases h; exact ⟨rfl, fun _ _ => by simp [aOp, hy]⟩
    · cases h
  case makeInterface t x =>
    simp only [aOp] at h
    split at h
    · rename_i hy; cases h; exact ⟨rfl, fun _ _ => by simp [aOp, hy]⟩
    · cases h
  case unOp op t x => exact ⟨(hpure h).1, fun _ A' => (hpure h).2 A'⟩
  case binOp op t x y u =>
    cases op <;> simp only [aOp] at h <;> try exact ⟨(hpure h).1, fun _ A' => (hpure h).2 A'⟩
    all_goals
      split at h
      · rename_i b hb; cases h; exact ⟨rfl, fun _ _ => by simp [aOp, hb]⟩
      · rename_i hb
        split at h
        · rename_i b hb2; cases h; exact ⟨rfl, fun _ _ => by simp [aOp, hb, hb2]⟩
        · rename_i hb2; exact ⟨(hpure h).1, fun _ A' => by simp only [aOp, hb, hb2]; exact (hpure h).2 A'⟩
  case call c0 =>
    obtain ⟨callee, args, ats⟩ := c0
    cases callee with
    | value f => simp [isPure] at hp
    | invoke r m => simp [isPure] at hp
    | builtin b =>
      cases b <;> simp [isPure] at hp
      simp only [aOp] at h
      split at h
      · rename_i x hx
        exact ⟨(hmap h).1, fun _ A' => by have := (hmap h).2 A'; simp only [aOp, hx]; exact this⟩
      · cases h

/-- A state of a run in the order of the text. -/
structure DS where
  l : List Value
  B : Heap
  news : List (Nat × Heap)
def DS.full (s : DS) : Heap := s.B ++ flatRows s.news

/-- An operation that may run at any time. -/
def looseB (imp : FuncId → Bool) (ops : Array Oper) (o : Oper) (i : Nat) : Bool := isPure o.op || isFree (writersOf imp ops.toList) (ancs ops.toList) o i

inductive DStep (P : Program) (c : Sub) (lim : Nat) (imp : FuncId → Bool) (ops : Array Oper) (A0 : Heap) (rs : List Nat) (i : Nat) (o : Oper) (s : DS) : DS → Prop
  | skip (h : aWanted ops s.l o = false) : DStep P c lim imp ops A0 rs i o s ⟨tput s.l o.dst undef, s.B, s.news⟩
  | pure {v : Value} {R : Heap} (h : aWanted ops s.l o = true) (hp : isPure o.op = true) (hr : aOper P c lim s.l o [] = some (v, R)) : DStep P c lim imp ops A0 rs i o s ⟨tput s.l o.dst v, s.B, s.news⟩
  | free {v : Value} {R : Heap} {r : Nat} (h : aWanted ops s.l o = true) (hf : isFree (writersOf imp ops.toList) (ancs ops.toList) o i = true) (hrow : loadRow s.l o = some r) (hrs : r ∈ rs) (hr : aOper P c lim s.l o A0 = some (v, R)) :
      DStep P c lim imp ops A0 rs i o s ⟨tput s.l o.dst v, s.B, s.news⟩
  | solid {v : Value} {R : Heap} (h : aWanted ops s.l o = true) (hp : isPure o.op = false) (hf : isFree (writersOf imp ops.toList) (ancs ops.toList) o i = false) (hs : solidIn (writersOf imp ops.toList) ops.toList (ancs ops.toList) i = true)
      (hrow : isWriterAt imp s.l o = true → ∀ r ∈ rs, ∃ w, storeRow s.l o = some w ∧ w ≠ r) (hr : aOper P c (if isWriterAt imp s.l o then lim else s.full.length) s.l o s.full = some (v, R)) :
      DStep P c lim imp ops A0 rs i o s ⟨tput s.l o.dst v, R, []⟩
  | soft {v : Value} {R : Heap} (h : aWanted ops s.l o = true) (hp : isPure o.op = false) (hf : isFree (writersOf imp ops.toList) (ancs ops.toList) o i = false) (hn : solidIn (writersOf imp ops.toList) ops.toList (ancs ops.toList) i = false) (hr : aOper P c s.full.length s.l o (s.B ++ maskRows (anOf ops i) s.news) = some (v, R)) :
      DStep P c lim imp ops A0 rs i o s ⟨tput s.l o.dst v, s.B, s.news ++ [(i, R.drop s.full.length)]⟩

theorem rowsApart_spec {rs : List Nat} {wr : List (Option Nat)} (h : rowsApart rs wr = true) : ∀ r ∈ rs, ∀ w ∈ wr, ∃ w', w = some w' ∧ w' ≠ r := by
  intro r hr w hw
  have := List.all_eq_true.1 (List.all_eq_true.1 h r hr) w hw
  cases w with
  | none => simp at this
  | some w => exact ⟨w, rfl, by simpa using this⟩

theorem trace {P : Program} {c : Sub} {lim : Nat} {imp : FuncId → Bool} {ops : Array Oper} {A0 : Heap} {l' : List Value} {A' : Heap} : ∀ (rest : List Oper) (k : Nat) (s : DS) (rs : List Nat) (wr : List (Option Nat)), rest = ops.toList.drop k → k ≤ ops.size →
    aDrawGo P c lim imp ops (ancs ops.toList) (writersOf imp ops.toList) A0 (rest.zipIdx k) s.l s.B s.news rs wr = some (l', A') →
    ∃ (rsF : List Nat) (st : Nat → DS), (∀ r ∈ rs, r ∈ rsF) ∧ (∀ w ∈ wr, ∀ r ∈ rsF, ∃ w', w = some w' ∧ w' ≠ r) ∧ st k = s ∧ (st ops.size).l = l' ∧ (st ops.size).full = A' ∧ ∀ i, k ≤ i → i < ops.size → ∃ o, ops[i]? = some o ∧ DStep P c lim imp ops A0 rsF i o (st i) (st (i + 1))
  | [], k, s, rs, wr, hr, hk, h => by
    have : ops.size ≤ k := by
      have := congrArg List.length hr
      simp at this; omega
    have hk : k = ops.size := by omega
    subst hk
    simp only [List.zipIdx_nil, aDrawGo] at h
    split at h
    · rename_i ha
      cases h
      exact ⟨rs, fun _ => s, fun _ h => h, fun w hw r hr => rowsApart_spec ha r hr w hw, rfl, rfl, rfl, fun i h1 h2 => by omega⟩
    · cases h
  | o :: rest, k, s, rs, wr, hr, hk, h => by
    have hlt : k < ops.size := by
      have := congrArg List.length hr
      simp at this; omega
    have hd := List.drop_eq_getElem_cons (l := ops.toList) (i := k) (by simpa using hlt)
    rw [hd] at hr
    simp only [List.cons.injEq] at hr
    have ho : ops[k]? = some o := by rw [Array.getElem?_eq_getElem hlt]; simp [hr.1]
    have go : ∀ (s' : DS) (rs1 : List Nat) (wr1 : List (Option Nat)), (∀ r ∈ rs, r ∈ rs1) → (∀ w ∈ wr, w ∈ wr1) → (∀ rsF : List Nat, (∀ r ∈ rs1, r ∈ rsF) → (∀ w ∈ wr1, ∀ r ∈ rsF, ∃ w', w = some w' ∧ w' ≠ r) → DStep P c lim imp ops A0 rsF k o s s') →
        aDrawGo P c lim imp ops (ancs ops.toList) (writersOf imp ops.toList) A0 (rest.zipIdx (k + 1)) s'.l s'.B s'.news rs1 wr1 = some (l', A') →
        ∃ (rsF : List Nat) (st : Nat → DS), (∀ r ∈ rs, r ∈ rsF) ∧ (∀ w ∈ wr, ∀ r ∈ rsF, ∃ w', w = some w' ∧ w' ≠ r) ∧ st k = s ∧ (st ops.size).l = l' ∧ (st ops.size).full = A' ∧ ∀ i, k ≤ i → i < ops.size → ∃ o, ops[i]? = some o ∧ DStep P c lim imp ops A0 rsF i o (st i) (st (i + 1)) := fun s' rs1 wr1 hrs hwr hs h' => by
      obtain ⟨rsF, st, g1, g2, h1, h2, h3, h4⟩ := trace rest (k + 1) s' rs1 wr1 hr.2 (by omega) h'
      have hne : ¬ ops.size = k := by omega
      exact ⟨rsF, fun i => if i = k then s else st i, fun r hr => g1 r (hrs r hr), fun w hw => g2 w (hwr w hw), by simp, by simpa [hne] using h2, by simpa [hne] using h3, fun i hi1 hi2 => by
        by_cases hik : i = k
        · subst hik
          refine ⟨o, ho, ?_⟩
          have h5 : ¬ i + 1 = i := by omega
          show DStep P c lim imp ops A0 rsF i o (if i = i then s else st i) (if i + 1 = i then s else st (i + 1))
          rw [if_pos rfl, if_neg h5, h1]; exact hs rsF g1 g2
        · obtain ⟨o', a, b⟩ := h4 i (by omega) hi2
          refine ⟨o', a, ?_⟩
          have h5 : ¬ i + 1 = k := by omega
          show DStep P c lim imp ops A0 rsF i o' (if i = k then s else st i) (if i + 1 = k then s else st (i + 1))
          rw [if_neg hik, if_neg h5]; exact b⟩
    simp only [List.zipIdx_cons, aDrawGo] at h
    split at h
    · rename_i hw
      split at h
      · rename_i hp
        split at h
        · rename_i v R hop
          exact go ⟨tput s.l o.dst v, s.B, s.news⟩ rs wr (fun _ h => h) (fun _ h => h) (fun rsF g1 g2 => .pure hw hp hop) h
        · cases h
      rename_i hpure
      split at h
      · rename_i hf
        split at h
        · rename_i r hrow
          split at h
          · rename_i v R hop
            exact go ⟨tput s.l o.dst v, s.B, s.news⟩ (r :: rs) wr (fun r hr => List.mem_cons_of_mem _ hr) (fun _ h => h) (fun rsF g1 g2 => .free hw hf hrow (g1 r (by simp)) hop) h
          · cases h
        · cases h
      · rename_i hf
        split at h
        · rename_i hws
          rw [fullOf_eq] at h
          split at h
          · rename_i v R hop
            exact go ⟨tput s.l o.dst v, R, []⟩ rs (if isWriterAt imp s.l o then storeRow s.l o :: wr else wr) (fun _ h => h) (fun w hw => by split <;> simp [hw])
              (fun rsF g1 g2 => .solid hw (by simpa using hpure) (by simpa using hf) hws (fun hwr => g2 _ (by rw [if_pos hwr]; simp)) hop) h
          · cases h
        · rename_i hws
          split at h
          · rename_i v R hop
            exact go ⟨tput s.l o.dst v, s.B, s.news ++ [(k, R.drop s.full.length)]⟩ rs wr (fun _ h => h) (fun _ h => h) (fun rsF g1 g2 => .soft hw (by simpa using hpure) (by simpa using hf) (by simpa using hws) hop) h
          · cases h
    · rename_i hw
      exact go ⟨tput s.l o.dst undef, s.B, s.news⟩ rs wr (fun _ h => h) (fun _ h => h) (fun rsF g1 g2 => .skip (by simpa using hw)) h

/-- A load depends on its row alone. -/
theorem load_indep {P : Program} {c : Sub} {lim lim' : Nat} {l : List Value} {o : Oper} {A A' R : Heap} {v : Value} {r : Nat} (hrow : loadRow l o = some r) (h : aOper P c lim l o A = some (v, R)) (hg : hget A' r = hget A r) : aOper P c lim' l o A' = some (v, A') ∧ r < A.length := by
  obtain ⟨dst, op, type, pos, after, guard⟩ := o
  cases op <;> simp only [loadRow, reduceCtorEq] at hrow
  rename_i t a
  split at hrow
  · rename_i i off hev
    cases hrow
    simp only [aOper, aYieldOf, aCallOf, aOp, aLoad, hev, hg] at h ⊢
    cases hx : hget A r with
    | none => rw [hx] at h; cases h
    | some q =>
      rw [hx] at h
      obtain ⟨z, hz, he⟩ := map_some h
      cases he
      exact ⟨by rw [hz]; rfl, hget_lt hx⟩
  · cases hrow

/-- A store turns its row alone. -/
theorem store_indep {P : Program} {c : Sub} {lim : Nat} {l : List Value} {o : Oper} {A R : Heap} {v : Value} {w r : Nat} (hrow : storeRow l o = some w) (h : aOper P c lim l o A = some (v, R)) (hne : w ≠ r) : hget R r = hget A r := by
  obtain ⟨dst, op, type, pos, after, guard⟩ := o
  cases op <;> simp only [storeRow, reduceCtorEq] at hrow
  rename_i t a x
  split at hrow
  · rename_i i off hev
    cases hrow
    simp only [aOper, aYieldOf, aCallOf, aOp] at h
    obtain ⟨z, hz, he⟩ := map_some h
    cases he
    rw [hev] at hz
    simp only [aStore] at hz
    split at hz
    · split at hz
      · cases hz
        rw [hget_hset, if_neg (fun hc => hne hc.1)]
      · cases hz
    · cases hz
  · cases hrow
end Go.Abs
