/-
The abstract machine: regions whose order is open. Fourth part: what holds when some of the operations have run.
-/
import Derived.Test.YtnhmokgakpknlaaGreatDoorAb19
namespace Go.Abs
open Go

theorem yielded_at {ρ : Loc} {l : List Value} {a : Act} (ops : Array Oper) (j : Nat) (h : ∀ d, (ops[j]?).bind (·.dst) = some d → VR ρ (tget l d) (a.tmps.getD d undef)) : aYielded ops l j = yielded ops a.tmps j := by
  unfold aYielded yielded
  cases hd : (ops[j]?).bind (·.dst) with
  | none => rfl
  | some d =>
    have hr := h d hd
    rw [Array.getD_eq_getD_getElem?] at hr
    simp only [Option.bind_some]
    cases hy : a.tmps[d]? with
    | none =>
      rw [hy] at hr
      simp only [Option.getD_none] at hr
      have hn : ∀ b, tget l d ≠ .bool b := by
        intro b hb; rw [hb] at hr; have := hr.bool_inv; simp [undef] at this
      split
      · rename_i b hb; exact absurd hb (hn b)
      · rfl
    | some y =>
      rw [hy] at hr
      simp only [Option.getD_some] at hr
      generalize tget l d = x at hr
      cases hr with
      | atom h => cases y <;> rfl
      | _ => rfl
theorem wanted_at {ρ : Loc} {l : List Value} {a : Act} (ops : Array Oper) (o : Oper) (h : ∀ t, t ∈ o.looksAt ops → VR ρ (tget l t) (a.tmps.getD t undef)) : aWanted ops l o = Region.wanted o (yielded ops a.tmps) := by
  unfold aWanted Region.wanted
  cases hg : o.guard with
  | none => rfl
  | some g =>
    obtain ⟨j, want⟩ := g
    simp only
    rw [yielded_at ops j fun d hd => h d (by
      unfold Oper.looksAt
      rw [hg]
      simp [hd])]

def visB (st : Nat → DS) (q e : Nat) (m : Nat → Bool) (id : Nat) : Bool :=
  decide (id < (st q).B.length) || ((crOf (st e).news (id - (st q).B.length)).map m).getD false
def HS (st : Nat → DS) (q e : Nat) (S : Nat → Bool) : Heap := (st q).B ++ maskBy S (st e).news

section
variable {st : Nat → DS} {q e : Nat}

theorem vis_iff {m : Nat → Bool} {id : Nat} : visB st q e m id = true ↔ id < (st q).B.length ∨ ∃ k, crOf (st e).news (id - (st q).B.length) = some k ∧ m k = true := by
  unfold visB
  cases crOf (st e).news (id - (st q).B.length) <;> simp
theorem vis_mono {m m' : Nat → Bool} (h : ∀ k, m k = true → m' k = true) {id : Nat} (hv : visB st q e m id = true) : visB st q e m' id = true := by
  rw [vis_iff] at hv ⊢
  rcases hv with h1 | ⟨k, h1, h2⟩
  · exact .inl h1
  · exact .inr ⟨k, h1, h k h2⟩
theorem restr_vis {ρ ρ' : Loc} (hp : Ext ρ ρ') {m m' : Nat → Bool} (h : ∀ k, m k = true → m' k = true) : Ext (restr ρ (visB st q e m)) (restr ρ' (visB st q e m')) :=
  restr_mono hp fun _ _ _ hv => vis_mono h hv
theorem restr_some {ρ : Loc} {p : Nat → Bool} {id : Nat} {L : L4} : restr ρ p id = some L ↔ p id = true ∧ ρ id = some L := by
  unfold restr
  split <;> simp_all
theorem hget_HS {S : Nat → Bool} {id : Nat} {r : ARow} : hget (HS st q e S) id = some r ↔
    (id < (st q).B.length ∧ hget (st q).B id = some r) ∨ ((st q).B.length ≤ id ∧ hget (flatRows (st e).news) (id - (st q).B.length) = some r ∧ ∃ k, crOf (st e).news (id - (st q).B.length) = some k ∧ S k = true) := by
  unfold HS
  rw [hget_append]
  by_cases h : id < (st q).B.length
  · rw [if_pos h]
    exact ⟨fun hh => .inl ⟨h, hh⟩, fun hh => by
      rcases hh with hh | hh
      · exact hh.2
      · omega⟩
  · rw [if_neg h, hget_mask]
    simp [h, Nat.le_of_not_lt h]
theorem HS_length (S : Nat → Bool) : (HS st q e S).length = (st q).B.length + (flatRows (st e).news).length := by simp [HS]
end

structure Inv (P : Program) (G nt : Nat) (imp : FuncId → Bool) (ops : Array Oper) (st : Nat → DS) (d0 : List Deferred) (ρ0 : Loc) (A0 : Heap) (w0 : World) (q e : Nat) (S : Nat → Bool) (ρ : Loc) (a : Act) (w : World) : Prop where
  qe : q ≤ e
  en : e ≤ ops.size
  fresh : (st q).news = []
  quiet : QuietIn imp ops st q e
  next : e = ops.size ∨ ∃ o, ops[e]? = some o ∧ isSol imp ops o e (st e) = true
  low : ∀ i o, i < q → ops[i]? = some o → looseB imp ops o i = false → S i = true
  high : ∀ i o, e ≤ i → ops[i]? = some o → looseB imp ops o i = false → S i = false
  lt : ∀ i, S i = true → i < ops.size
  closed : Closed ops S
  rel : Rel P ρ (HS st q e S) w
  hidden : ∀ id k, (st q).B.length ≤ id → crOf (st e).news (id - (st q).B.length) = some k → S k = false → ρ id = none
  moves : Moves ρ0 A0 w0 ρ (HS st q e S) w
  rowsB : ∀ id r L, id < (st q).B.length → hget (HS st q e S) id = some r → ρ id = some L → RowOK P (restr ρ (visB st q e noneS)) w L r
  rowsN : ∀ id k r L, (st q).B.length ≤ id → crOf (st e).news (id - (st q).B.length) = some k → hget (HS st q e S) id = some r → ρ id = some L → RowOK P (restr ρ (visB st q e (withSelf ops k))) w L r
  slots : Slots ops st S (fun m => restr ρ (visB st q e m)) a
  globs : Globs (restr ρ (visB st q e noneS)) G
  defers : a.defers = d0
  size : a.tmps.size = nt
  base : A0.length ≤ (st q).B.length

section
variable {P : Program} {G nt : Nat} {c : Sub} {lim : Nat} {imp : FuncId → Bool} {ops : Array Oper} {At : Heap} {rs : List Nat} {st : Nat → DS} {d0 : List Deferred} {ρ0 ρ : Loc} {A0 : Heap} {w0 w : World} {q e : Nat} {S : Nat → Bool} {a : Act}

theorem inv_fresh (hT : Trace P c lim imp ops At rs st) (hq : q ≤ ops.size) (fresh : (st q).news = []) (low : ∀ i o, i < q → ops[i]? = some o → looseB imp ops o i = false → S i = true)
    (high : ∀ i o, q ≤ i → ops[i]? = some o → looseB imp ops o i = false → S i = false) (lt : ∀ i, S i = true → i < ops.size) (closed : Closed ops S) (rel : Rel P ρ (st q).B w) (moves : Moves ρ0 A0 w0 ρ (st q).B w)
    (slots : Slots ops st S (fun _ => ρ) a) (globs : Globs ρ G) (defers : a.defers = d0) (size : a.tmps.size = nt) : ∃ e, Inv P G nt imp ops st d0 ρ0 A0 w0 q e S ρ a w := by
  obtain ⟨e, h1, h2, h3, h4⟩ := next_solid imp ops st (ops.size - q) q (by omega)
  obtain ⟨g1, X, g2, g3⟩ := quiet_news hT q (e - q) (by omega) (by rw [show q + (e - q) = e from by omega]; exact h3)
  rw [show q + (e - q) = e from by omega] at g1 g2 g3
  rw [fresh, List.nil_append] at g2
  have hno : ∀ k i, crOf (st e).news k = some i → S i = true → False := by
    intro k i hk hS
    obtain ⟨_, N, hN, hne⟩ := crOf_lt _ _ _ hk
    rw [g2] at hN
    obtain ⟨b1, o, b2, b3⟩ := g3 _ hN
    have := high _ o b1.1 b2 (b3 hne).1
    rw [this] at hS; cases hS
  have hH : ∀ {id r}, hget (HS st q e S) id = some r → hget (st q).B id = some r := by
    intro id r h
    rcases hget_HS.1 h with ⟨_, h⟩ | ⟨_, _, k, c1, c2⟩
    · exact h
    · exact (hno _ _ c1 c2).elim
  have hE : ∀ m, Ext ρ (restr ρ (visB st q e m)) := fun m id L h => restr_some.2 ⟨vis_iff.2 (.inl (Nat.lt_of_not_le fun hge => by rw [rel.sup id hge] at h; cases h)), h⟩
  refine ⟨e, h1, h2, fresh, h3, h4, low, fun i o hi => high i o (by omega), lt, closed, ⟨fun id hid => rel.sup id ?_, fun id r h => rel.has id r (hH h), fun id r L h => rel.row id r L (hH h), fun i j r s L M hi hj => rel.sep i j r s L M (hH hi) (hH hj)⟩,
    fun id k hid hk hS => rel.sup id hid, ⟨moves.pre, ?_, moves.same, moves.size, moves.frame, fun id r L h => moves.rows id r L (hH h), moves.out, moves.loops⟩, fun id r L _ h hL => (rel.row id r L (hH h) hL).move (hE _) rfl,
    fun id k r L _ _ h hL => (rel.row id r L (hH h) hL).move (hE _) rfl, fun t => ?_, globs.mono (hE _), defers, size, moves.len⟩
  · rw [HS_length] at hid; omega
  · rw [HS_length]; have := moves.len; omega
  · rcases slots t with ⟨c1, c2⟩ | ⟨i, oi, c1, c2, c3, c4, c5⟩
    · exact .inl ⟨c1, c2.mono (hE _)⟩
    · exact .inr ⟨i, oi, c1, c2, c3, c4, c5.mono (hE _)⟩

theorem Inv.operands (I : Inv P G nt imp ops st d0 ρ0 A0 w0 q e S ρ a w) (hd : okDraw ops = true) (hT : Trace P c lim imp ops At rs st) {j : Nat} {o : Oper} (h : Ready ops S j o) (hok : okOper G nt o = true) :
    (∀ t ∈ o.looksAt ops, VR (restr ρ (visB st q e fun k => (anOf ops j).testBit k)) (tget (st j).l t) (a.tmps.getD t undef)) ∧
    ∀ x ∈ o.op.operands.toList, VR (restr ρ (visB st q e fun k => (anOf ops j).testBit k)) (ev (st j).l x) (a.eval x) := by
  have h1 : ∀ t ∈ o.looksAt ops, VR (restr ρ (visB st q e fun k => (anOf ops j).testBit k)) (tget (st j).l t) (a.tmps.getD t undef) := fun t ht =>
    slot_ok hd hT I.closed (V := fun m => restr ρ (visB st q e m)) (fun m m' hm => restr_vis (Ext.refl _) hm) I.slots h ht
  refine ⟨h1, fun x hx => ?_⟩
  simp only [okOper, Bool.and_eq_true] at hok
  have hxo := List.all_eq_true.1 hok.1.1 x hx
  have hg : Globs (restr ρ (visB st q e fun k => (anOf ops j).testBit k)) G := I.globs.mono (restr_vis (Ext.refl _) fun k hk => by cases hk)
  cases x with
  | tmp t => exact h1 t (List.mem_append_left _ (List.mem_filterMap.2 ⟨.tmp t, hx, rfl⟩))
  | const v => exact VR.refl _ hxo
  | global g =>
    obtain ⟨e', f, hg⟩ := hg g (by simpa [okOperand] using hxo)
    have := VR.ptr (o := 0) hg
    simpa [Abs.ev, Act.eval] using this
  | func f => exact .func rfl rfl rfl (fun k v v' a => by simp at a) (fun k v v' a => by simp at a)

theorem Inv.soft (I : Inv P G nt imp ops st d0 ρ0 A0 w0 q e S ρ a w) (hC : SubOK P G c) (hd : okDraw ops = true) (hT : Trace P c lim imp ops At rs st) {j : Nat} {o : Oper} (h : Ready ops S j o) (hok : okOper G nt o = true)
    {lim' : Nat} {M R : Heap} {v : Value} {X Y : List (Nat × Heap)} (hnews : (st e).news = X ++ Y) (hMdef : M = (st q).B ++ maskBy (fun k => (anOf ops j).testBit k) X)
    (hop : aOper P c lim' (st j).l o M = some (v, R)) (hl : (st (j + 1)).l = tput (st j).l o.dst v) (hk : ∀ id, id < M.length → hget R id = hget M id) (hRl : R.length ≤ (HS st q e S).length)
    (hin : ∀ id, M.length ≤ id → id < R.length → crOf (st e).news (id - (st q).B.length) = some j) (hout : ∀ id, (st q).B.length ≤ id → crOf (st e).news (id - (st q).B.length) = some j → M.length ≤ id ∧ id < R.length)
    (heq : ∀ id r, M.length ≤ id → id < R.length → hget (flatRows (st e).news) (id - (st q).B.length) = some r → hget R id = some r)
    (hY : ∀ id k, M.length ≤ id → crOf (st e).news (id - (st q).B.length) = some k → (anOf ops j).testBit k = false) (hje : looseB imp ops o j = false → j < e) (hwd : Region.wanted o (yielded ops a.tmps) = true) {b : Frame} {kk : List Item} {cs : List Frame}
    {K : Act → World → Prop} (hK : ∀ v' w' ρ', Inv P G nt imp ops st d0 ρ0 A0 w0 q e (addS S j) ρ' (a.put o.dst v') w' → K (a.put o.dst v') w') : OpTo P ops b kk cs j a w K := by
  obtain ⟨_, hE⟩ := I.operands hd hT h hok
  have hML : M.length = (st q).B.length + (flatRows X).length := by rw [hMdef]; simp
  have hcrX : ∀ {id k}, (st q).B.length ≤ id → id < M.length → (crOf (st e).news (id - (st q).B.length) = some k ↔ crOf X (id - (st q).B.length) = some k) := by
    intro id k h1 h2
    rw [hnews, crOf_append, if_pos (by omega)]
  have hflX : ∀ {id}, (st q).B.length ≤ id → id < M.length → hget (flatRows (st e).news) (id - (st q).B.length) = hget (flatRows X) (id - (st q).B.length) := by
    intro id h1 h2
    rw [hnews, flatRows_append, hget_append, if_pos (by omega)]
  have hgM : ∀ {id r}, hget M id = some r ↔ (id < (st q).B.length ∧ hget (st q).B id = some r) ∨ ((st q).B.length ≤ id ∧ id < M.length ∧ hget (flatRows (st e).news) (id - (st q).B.length) = some r ∧ ∃ k, crOf (st e).news (id - (st q).B.length) = some k ∧ (anOf ops j).testBit k = true) := by
    intro id r
    constructor
    · intro hm
      have hlt := hget_lt hm
      rw [hMdef, hget_append] at hm
      by_cases hB : id < (st q).B.length
      · rw [if_pos hB] at hm; exact .inl ⟨hB, hm⟩
      · rw [if_neg hB, hget_mask] at hm
        have hB := Nat.le_of_not_lt hB
        obtain ⟨m1, k, m2, m3⟩ := hm
        exact .inr ⟨hB, hlt, by rw [hflX hB hlt]; exact m1, k, (hcrX hB hlt).2 m2, m3⟩
    · rintro (⟨hB, hm⟩ | ⟨hB, hlt, m1, k, m2, m3⟩)
      · rw [hMdef, hget_append, if_pos hB]; exact hm
      · rw [hMdef, hget_append, if_neg (by omega), hget_mask]
        exact ⟨by rw [← hflX hB hlt]; exact m1, k, (hcrX hB hlt).1 m2, m3⟩
  have hsub : ∀ id r, hget M id = some r → hget (HS st q e S) id = some r := by
    intro id r hm
    rcases hgM.1 hm with h1 | ⟨h1, h2, h3, k, h4, h5⟩
    · exact hget_HS.2 (.inl h1)
    · exact hget_HS.2 (.inr ⟨h1, h3, k, h4, h.an hd I.closed h5⟩)
  let ρM := restr ρ (visB st q e fun k => (anOf ops j).testBit k)
  have hρM : Ext ρM ρ := restr_ext _ _
  have hvisM : ∀ {id L}, ρM id = some L → id < M.length := by
    intro id L hL
    obtain ⟨h1, _⟩ := restr_some.1 hL
    rcases Nat.lt_or_ge id M.length with h2 | h2
    · exact h2
    · rcases vis_iff.1 h1 with h3 | ⟨k, h3, h4⟩
      · omega
      · rw [hY id k h2 h3] at h4; cases h4
  have hMk : ∀ {id r}, hget M id = some r → visB st q e (fun k => (anOf ops j).testBit k) id = true := by
    intro id r hm
    rcases hgM.1 hm with h1 | ⟨_, _, _, k, h4, h5⟩
    · exact vis_iff.2 (.inl h1.1)
    · exact vis_iff.2 (.inr ⟨k, h4, h5⟩)
  have hM : Rel P ρM M w := by
    refine ⟨fun id hid => ?_, fun id r hm => ?_, fun id r L hm hL => ?_, fun i i' r s L K h1 h2 h3 h4 => I.rel.sep i i' r s L K (hsub i r h1) (hsub i' s h2) (hρM _ _ h3) (hρM _ _ h4)⟩
    · cases hx : ρM id with
      | none => rfl
      | some L => have := hvisM hx; omega
    · obtain ⟨L, hL⟩ := I.rel.has id r (hsub id r hm)
      exact ⟨L, restr_some.2 ⟨hMk hm, hL⟩⟩
    · have hLρ := hρM _ _ hL
      rcases hgM.1 hm with h1 | ⟨h1, h2, h3, k, h4, h5⟩
      · exact (I.rowsB id r L h1.1 (hsub id r hm) hLρ).move (restr_vis (Ext.refl _) fun k hk => by cases hk) rfl
      · refine (I.rowsN id k r L h1 h4 (hsub id r hm) hLρ).move (restr_vis (Ext.refl _) fun k' hk' => ?_) rfl
        simp only [withSelf, Bool.or_eq_true, beq_iff_eq] at hk'
        rcases hk' with hk' | rfl
        · exact an_trans hd j k k' h.lt h5 hk'
        · exact h5
  have hGM : Globs ρM G := I.globs.mono (restr_vis (Ext.refl _) fun k hk => by cases hk)
  refine opTo_oper hC h.at_ hwd hE hGM hM hok hop fun v' w' ρ1 hv hR hmv => hK v' w' ?_ ?_
  · exact fun id => if M.length ≤ id ∧ id < R.length then ρ1 id else ρ id
  have hfree : ∀ id, M.length ≤ id → id < R.length → ρ id = none := fun id h1 h2 => I.hidden id j (by omega) (hin id h1 h2) h.new
  have hH' : ∀ id r, hget (HS st q e (addS S j)) id = some r → (hget (HS st q e S) id = some r ∧ ¬ (M.length ≤ id ∧ id < R.length)) ∨ (M.length ≤ id ∧ id < R.length ∧ hget R id = some r) := by
    intro id r hid
    rcases hget_HS.1 hid with h1 | ⟨h1, h2, k, h3, h4⟩
    · exact .inl ⟨hget_HS.2 (.inl h1), by omega⟩
    · by_cases hkj : k = j
      · subst hkj
        obtain ⟨c1, c2⟩ := hout id h1 h3
        exact .inr ⟨c1, c2, heq id r c1 c2 h2⟩
      · have hSk : S k = true := by simpa [addS, hkj] using h4
        refine .inl ⟨hget_HS.2 (.inr ⟨h1, h2, k, h3, hSk⟩), fun ⟨c1, c2⟩ => ?_⟩
        rw [hin id c1 c2] at h3; cases h3
        exact hkj rfl
  obtain ⟨ρ', hdef, e1, e2, hrel, hmoves⟩ := soft_core (H' := HS st q e (addS S j)) I.rel I.moves hsub hρM hM hR hmv hk hfree (by have := I.base; omega) (by rw [HS_length, HS_length]) hRl hH'
  have hfun : (fun id => if M.length ≤ id ∧ id < R.length then ρ1 id else ρ id) = ρ' := by funext id; exact (hdef id).symm
  rw [hfun]
  -- what the piece knows, the operation's own rows with it
  have hX : Ext ρ1 (restr ρ' (visB st q e (withSelf ops j))) := by
    intro id L hL
    refine restr_some.2 ⟨?_, e1 id L hL⟩
    rcases Nat.lt_or_ge id M.length with hlt | hge
    · rw [hmv.same id hlt] at hL
      exact vis_mono (fun k hk => by simp [withSelf, hk]) (restr_some.1 hL).1
    · have hlt : id < R.length := Nat.lt_of_not_le fun h2 => by rw [hR.sup id h2] at hL; cases hL
      exact vis_iff.2 (.inr ⟨j, hin id hge hlt, by simp [withSelf]⟩)
  -- an old row
  have old : ∀ {id r L} {m : Nat → Bool}, hget (HS st q e S) id = some r → ¬ (M.length ≤ id ∧ id < R.length) → ρ' id = some L → (hget M id = some r → ∀ k, m k = true → (anOf ops j).testBit k = true) →
      RowOK P (restr ρ (visB st q e m)) w L r → RowOK P (restr ρ' (visB st q e m)) w' L r := by
    intro id r L m h1 h2 h3 hm h0
    rw [hdef, if_neg h2] at h3
    rcases soft_rows I.rel hsub hρM hM hmv hk h1 h3 with hw | ⟨g1, g2, g3⟩
    · exact h0.move (restr_vis e2 fun _ h => h) hw
    · refine h0.transfer (hR.row id r L g2 g3) fun i K hi => ?_
      obtain ⟨c1, c2⟩ := restr_some.1 hi
      have c3 : ρM i = some K := restr_some.2 ⟨vis_mono (hm g1) c1, c2⟩
      have c4 := hvisM c3
      rw [hmv.same i c4]
      exact (restr_some.2 ⟨c1, e2 i K c2⟩).trans c3.symm
  have hnt : ∀ d, o.dst = some d → d < a.tmps.size := fun d hdst => by
    simp only [okOper, Bool.and_eq_true, hdst] at hok
    rw [I.size]; simpa using hok.1.2
  refine ⟨I.qe, I.en, I.fresh, I.quiet, I.next, fun i o' hi ho' hp => by simp [addS, I.low i o' hi ho' hp], fun i o' hi ho' hp => ?_, fun i hi => ?_, closed_add I.closed h, hrel, fun id k h1 h2 h3 => ?_, hmoves,
    fun id r L hid hr hL => ?_, fun id k r L hid hc hr hL => ?_, slots_put hd I.closed (V := fun m => restr ρ (visB st q e m)) (fun m => restr_vis e2 fun _ h => h) I.slots h hl (hv.mono hX) hnt, I.globs.mono (restr_vis e2 fun _ h => h), ?_, ?_, I.base⟩
  · have hne : i ≠ j := by
      intro hij
      subst hij
      rw [h.at_] at ho'; cases ho'
      have := hje hp
      omega
    simp [addS, I.high i o' hi ho' hp, hne]
  · simp only [addS, Bool.or_eq_true, beq_iff_eq] at hi
    rcases hi with hi | rfl
    · exact I.lt i hi
    · exact h.lt
  · simp only [addS, Bool.or_eq_false_iff, beq_eq_false_iff_ne] at h3
    rw [hdef, if_neg (fun hc => h3.2 (by have := hin id hc.1 hc.2; rw [h2] at this; cases this; rfl))]
    exact I.hidden id k h1 h2 h3.1
  · rcases hH' id r hr with ⟨g1, g2⟩ | ⟨g1, g2, g3⟩
    · refine old g1 g2 hL (fun _ k hk => by cases hk) (I.rowsB id r L hid g1 ?_)
      rw [hdef, if_neg g2] at hL; exact hL
    · omega
  · rcases hH' id r hr with ⟨g1, g2⟩ | ⟨g1, g2, g3⟩
    · refine old g1 g2 hL (fun hm k' hk' => ?_) (I.rowsN id k r L hid hc g1 ?_)
      · rcases hgM.1 hm with c | ⟨_, _, _, k2, c2, c3⟩
        · omega
        · rw [hc] at c2; cases c2
          simp only [withSelf, Bool.or_eq_true, beq_iff_eq] at hk'
          rcases hk' with hk' | rfl
          · exact an_trans hd j k k' h.lt c3 hk'
          · exact c3
      · rw [hdef, if_neg g2] at hL; exact hL
    · have hkj : k = j := by have := hin id g1 g2; rw [hc] at this; cases this; rfl
      subst hkj
      rw [hdef, if_pos ⟨g1, g2⟩] at hL
      exact (hR.row id r L g3 hL).move hX rfl
  · cases o.dst <;> exact I.defers
  · have := I.size
    cases hdst : o.dst <;> simp [Act.put, this]
end
end Go.Abs
