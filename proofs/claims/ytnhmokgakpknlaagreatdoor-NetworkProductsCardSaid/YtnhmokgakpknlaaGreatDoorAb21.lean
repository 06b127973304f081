/-
The abstract machine: regions whose order is open. Fifth part: every order does as the order of the text does.
-/
import Derived.Test.YtnhmokgakpknlaaGreatDoorAb20
namespace Go.Abs
open Go

theorem hget_drop (R : Heap) (n i : Nat) : hget (R.drop n) i = hget R (n + i) := by
  induction n generalizing R with
  | zero => simp
  | succ n ih => cases R with
    | nil => simp []
    | cons r R => rw [List.drop_succ_cons, ih, show n + 1 + i = (n + i) + 1 from by omega]; rfl

section
variable {P : Program} {G nt : Nat} {c : Sub} {lim : Nat} {imp : FuncId → Bool} {ops : Array Oper} {At : Heap} {rs : List Nat} {st : Nat → DS} {d0 : List Deferred} {ρ0 ρ : Loc} {A0 : Heap} {w0 w : World} {q e : Nat} {S : Nat → Bool} {a : Act}

theorem solid_cmp {i j : Nat} {x : Oper} (h : solidIn (writersOf imp ops.toList) ops.toList (ancs ops.toList) j = true) (hx : ops[i]? = some x) (hp : looseB imp ops x i = false) (hne : i ≠ j) : (anOf ops j).testBit i = true ∨ (anOf ops i).testBit j = true := by
  have h1 := List.all_eq_true.1 h (x, i) (List.mem_iff_getElem?.2 ⟨i, by rw [List.getElem?_zipIdx]; simp [Array.getElem?_toList, hx]⟩)
  simp only [looseB, Bool.or_eq_false_iff] at hp
  simp only [hp.1, hp.2, Bool.or_false, cmpIn, Bool.or_eq_true, beq_iff_eq] at h1
  rcases h1 with h1 | h1 | h1
  · exact absurd h1.symm hne
  · exact .inl h1
  · exact .inr h1

theorem Inv.news (I : Inv P G nt imp ops st d0 ρ0 A0 w0 q e S ρ a w) (hT : Trace P c lim imp ops At rs st) {i : Nat} (h1 : q ≤ i) (h2 : i ≤ e) :
    (st i).B = (st q).B ∧ ∀ x ∈ (st i).news, (q ≤ x.1 ∧ x.1 < i) ∧ Made imp ops st x := by
  obtain ⟨g1, X, g2, g3⟩ := quiet_news hT q (i - q) (by have := I.en; omega) (fun k o a b => I.quiet k o a (by omega))
  rw [show q + (i - q) = i from by omega] at g1 g2 g3
  rw [I.fresh, List.nil_append] at g2
  exact ⟨g1, by rw [g2]; exact g3⟩

theorem Inv.place (I : Inv P G nt imp ops st d0 ρ0 A0 w0 q e S ρ a w) (hd : okDraw ops = true) {j : Nat} {o : Oper} (h : Ready ops S j o) (hp : looseB imp ops o j = false) : q ≤ j ∧ (j < e ∨ (j = e ∧ isSol imp ops o j (st j) = true)) := by
  constructor
  · rcases Nat.lt_or_ge j q with hlt | hge
    · have := I.low j o hlt h.at_ hp
      rw [h.new] at this; cases this
    · exact hge
  · rcases Nat.lt_trichotomy j e with hlt | rfl | hgt
    · exact .inl hlt
    · rcases I.next with rfl | ⟨o', ho', hs⟩
      · exact absurd h.lt (by omega)
      · rw [h.at_] at ho'; cases ho'; exact .inr ⟨rfl, hs⟩
    · rcases I.next with rfl | ⟨oe, hoe, hs⟩
      · exact absurd h.lt (by omega)
      · unfold isSol at hs
        simp only [Bool.and_eq_true] at hs
        rcases solid_cmp hs.2.2 h.at_ hp (by omega) with g | g
        · have := an_lt hd e j (Array.getElem?_eq_some_iff.1 hoe).1 g; omega
        · have h1 := h.an hd I.closed g
          rw [I.high e oe (Nat.le_refl _) hoe (by simpa using hs.2.1)] at h1; cases h1

theorem Inv.skip (I : Inv P G nt imp ops st d0 ρ0 A0 w0 q e S ρ a w) (hd : okDraw ops = true) (hT : Trace P c lim imp ops At rs st) {j : Nat} {o : Oper} (h : Ready ops S j o) (hok : okOper G nt o = true)
    (hw : aWanted ops (st j).l o = false) (hl : (st (j + 1)).l = tput (st j).l o.dst undef) : Inv P G nt imp ops st d0 ρ0 A0 w0 q e (addS S j) ρ (a.put o.dst undef) w := by
  have hH : HS st q e (addS S j) = HS st q e S := by
    unfold HS
    have : ∀ l : List (Nat × Heap), (∀ x ∈ l, x.1 = j → x.2 = []) → maskBy (addS S j) l = maskBy S l := by
      intro l
      induction l with
      | nil => intro _; rfl
      | cons x l ih =>
        intro hx
        obtain ⟨i, N⟩ := x
        simp only [maskBy]
        rw [ih fun y hy => hx y (by simp [hy])]
        by_cases hij : i = j
        · have := hx (i, N) (by simp) hij
          simp only at this
          subst this
          simp
        · simp [addS, hij]
    rw [this]
    rintro ⟨i, N⟩ hx rfl
    cases N with
    | nil => rfl
    | cons r N =>
      exfalso
      obtain ⟨_, o', ho', hm⟩ := (I.news hT I.qe (Nat.le_refl _)).2 _ hx
      simp only at ho' hm
      rw [h.at_] at ho'; cases ho'
      rw [(hm (by simp)).2] at hw; cases hw
  have hje : looseB imp ops o j = false → j < e := fun hp => by
    rcases (I.place hd h hp).2 with h1 | ⟨_, h1⟩
    · exact h1
    · unfold isSol at h1; rw [hw] at h1; simp at h1
  have hnt : ∀ d, o.dst = some d → d < a.tmps.size := fun d hdst => by
    simp only [okOper, Bool.and_eq_true, hdst] at hok
    rw [I.size]; simpa using hok.1.2
  refine ⟨I.qe, I.en, I.fresh, I.quiet, I.next, fun i o' hi ho' hp => by simp [addS, I.low i o' hi ho' hp], fun i o' hi ho' hp => ?_, fun i hi => ?_, closed_add I.closed h, by rw [hH]; exact I.rel, fun id k h1 h2 h3 => ?_, by rw [hH]; exact I.moves,
    by rw [hH]; exact I.rowsB, by rw [hH]; exact I.rowsN, slots_put hd I.closed (V := fun m => restr ρ (visB st q e m)) (fun m => Ext.refl _) I.slots h hl (VR.undef _) hnt, I.globs, ?_, ?_, I.base⟩
  · have hne : i ≠ j := by
      intro hij
      subst hij
      rw [h.at_] at ho'; cases ho'
      have := hje hp
      omega
    simp [addS, I.high i o' hi ho' hp, hne]
  · simp only [addS, Bool.or_eq_true, beq_iff_eq] at hi
    rcases hi with hi | rfl
    · exact I.lt i hi
    · exact h.lt
  · simp only [addS, Bool.or_eq_false_iff, beq_eq_false_iff_ne] at h3
    exact I.hidden id k h1 h2 h3.1
  · cases o.dst <;> exact I.defers
  · have := I.size
    cases hdst : o.dst <;> simp [Act.put, this]

/-- An operation that may run now does as in the order of the text. -/
theorem Inv.op (I : Inv P G nt imp ops st d0 ρ0 A0 w0 q e S ρ a w) (hC : SubOK P G c) (hd : okDraw ops = true) (hok : ops.toList.all (okOper G nt) = true) (hT : Trace P c lim imp ops At rs st) (h0 : (st 0).full = At) {j : Nat} {o : Oper} (h : Ready ops S j o)
    {b : Frame} {kk : List Item} {cs : List Frame} {K : Act → World → Prop} (hK : ∀ q' e' ρ' a' w', Inv P G nt imp ops st d0 ρ0 A0 w0 q' e' (addS S j) ρ' a' w' → K a' w') : OpTo P ops b kk cs j a w K := by
  have hoko : okOper G nt o = true := List.all_eq_true.1 hok o (by
    have : o ∈ ops := Array.mem_of_getElem? h.at_
    simpa using this)
  obtain ⟨hlook, hE⟩ := I.operands hd hT h hoko
  have hwant := wanted_at ops o hlook
  have hnews := I.news hT I.qe (Nat.le_refl _)
  have hstep := hT j o h.at_
  generalize hs' : st (j + 1) = s' at hstep
  cases hstep with
  | skip hw =>
    rw [hw] at hwant
    exact opTo_skip h.at_ hwant.symm (hK q e ρ _ w (I.skip hd hT h hoko hw (by rw [hs'])))
  | solid hw hpp hff hso hrow hr =>
    rename_i v R
    rw [hw] at hwant
    have hp : looseB imp ops o j = false := by simp [looseB, hpp, hff]
    have hje : j = e := by
      obtain ⟨h1, h2 | ⟨h2, _⟩⟩ := I.place hd h hp
      · have := I.quiet j o h1 h2 h.at_
        unfold isSol at this
        rw [hw, hp, hso] at this; simp at this
      · exact h2
    subst hje
    have hlow : ∀ i o', i < j → ops[i]? = some o' → looseB imp ops o' i = false → S i = true := by
      intro i o' hi ho' hp'
      rcases solid_cmp hso ho' hp' (by omega) with g | g
      · exact h.an hd I.closed g
      · have := an_lt hd i j (Array.getElem?_eq_some_iff.1 ho').1 g; omega
    have hfull : HS st q j S = (st j).full := by
      unfold HS DS.full
      rw [hnews.1, mask_all]
      intro x hx
      obtain ⟨b1, o', b2, b3⟩ := hnews.2 x hx
      cases hx2 : x.2 with
      | nil => exact .inr rfl
      | cons r N => exact .inl (hlow x.1 o' b1.2 b2 (b3 (by simp [hx2])).1)
    have hrel := I.rel
    have hmov := I.moves
    rw [hfull] at hrel hmov
    refine opTo_oper hC h.at_ hwant.symm (fun x hx => (hE x hx).mono (restr_ext _ _)) (I.globs.mono (restr_ext _ _)) hrel hoko hr fun v' w' ρ1 hv hR hmv => ?_
    have hnt : ∀ d, o.dst = some d → d < a.tmps.size := fun d hdst => by
      simp only [okOper, Bool.and_eq_true, hdst] at hoko
      rw [I.size]; simpa using hoko.1.2
    have hB : (st (j + 1)).B = R := by rw [hs']
    have f1 : ∀ i o', i < j + 1 → ops[i]? = some o' → looseB imp ops o' i = false → addS S j i = true := by
      intro i o' hi ho' hp'
      by_cases hij : i = j
      · simp [addS, hij]
      · simp [addS, hlow i o' (by omega) ho' hp']
    have f2 : ∀ i o', j + 1 ≤ i → ops[i]? = some o' → looseB imp ops o' i = false → addS S j i = false := by
      intro i o' hi ho' hp'
      have hij : i ≠ j := by omega
      simp [addS, hij, I.high i o' (by omega) ho' hp']
    have f3 : ∀ i, addS S j i = true → i < ops.size := by
      intro i hi
      simp only [addS, Bool.or_eq_true, beq_iff_eq] at hi
      rcases hi with hi | rfl
      · exact I.lt i hi
      · exact h.lt
    obtain ⟨e', I'⟩ := inv_fresh (P := P) (G := G) (nt := nt) (d0 := d0) (ρ0 := ρ0) (A0 := A0) (w0 := w0) (ρ := ρ1) (w := w') (q := j + 1) (S := addS S j) (a := a.put o.dst v') hT h.lt (by rw [hs']) f1 f2 f3 (closed_add I.closed h)
      (by rw [hB]; exact hR) (by rw [hB]; exact hmov.trans hmv) (slots_put hd I.closed (V := fun m => restr ρ (visB st q j m)) (V' := fun _ => ρ1) (fun m => (restr_ext _ _).trans hmv.pre) I.slots h (by rw [hs']) hv hnt)
      (I.globs.mono ((restr_ext _ _).trans hmv.pre)) (by cases o.dst <;> exact I.defers) (by have := I.size; cases hdst : o.dst <;> simp [Act.put, this])
    exact hK _ _ _ _ _ I'
  | free hw hf hrow hrs hr =>
    rename_i v R r
    rw [hw] at hwant
    have hl : (st (j + 1)).l = tput (st j).l o.dst v := by rw [hs']
    have hloose : looseB imp ops o j = true := by simp [looseB, hf]
    have hno : ∀ k, crOf (st e).news k ≠ some j := by
      intro k hk
      obtain ⟨_, N, hN, hne⟩ := crOf_lt _ _ _ hk
      obtain ⟨_, o', ho', hm⟩ := hnews.2 _ hN
      simp only at ho' hm
      rw [h.at_] at ho'; cases ho'
      rw [(hm hne).1] at hloose; cases hloose
    have hrlt : r < At.length := (load_indep (lim' := 0) hrow hr rfl).2
    have hBq := free_rows hT h0 hrs hrlt hC.keeps' q (Nat.le_trans I.qe I.en)
    have hfq : (st q).full = (st q).B := by simp [DS.full, I.fresh, flatRows]
    rw [hfq] at hBq
    have hrB : r < (st q).B.length := by
      have := (hT.keeps hC.keeps' 0 q (by have := I.qe; have := I.en; omega)).1
      rw [h0, Nat.zero_add, hfq] at this; omega
    have hind : ∀ A', hget A' r = hget (st q).B r → aOper P c 0 (st j).l o A' = some (v, A') := fun A' hA => (load_indep hrow hr (hA.trans hBq)).1
    refine I.soft hC hd hT h hoko (X := (st e).news) (Y := []) (by simp) rfl (hind _ (by rw [hget_append, if_pos hrB])) hl (fun _ _ => rfl) (by simp [HS]) (fun id h1 h2 => by omega) (fun id h1 h2 => absurd h2 (hno _)) (fun id r h1 h2 => by omega)
      (fun id k h1 h2 => ?_) (fun hp' => by rw [hloose] at hp'; cases hp') hwant.symm (fun v' w' ρ' I' => hK _ _ _ _ _ I')
    have := (crOf_lt _ _ _ h2).1
    simp at h1
    omega
  | pure hw hp hr =>
    rename_i v R
    rw [hw] at hwant
    have hl : (st (j + 1)).l = tput (st j).l o.dst v := by rw [hs']
    have hind := (pure_indep hp hr).2
    have hno : ∀ k, crOf (st e).news k ≠ some j := by
      intro k hk
      obtain ⟨_, N, hN, hne⟩ := crOf_lt _ _ _ hk
      obtain ⟨_, o', ho', hm⟩ := hnews.2 _ hN
      simp only at ho' hm
      rw [h.at_] at ho'; cases ho'
      have := (hm hne).1
      simp [looseB, hp] at this
    refine I.soft hC hd hT h hoko (X := (st e).news) (Y := []) (by simp) rfl (hind 0 _) hl (fun _ _ => rfl) (by simp [HS]) (fun id h1 h2 => by omega) (fun id h1 h2 => absurd h2 (hno _)) (fun id r h1 h2 => by omega)
      (fun id k h1 h2 => ?_) (fun hp' => by simp [looseB, hp] at hp') hwant.symm (fun v' w' ρ' I' => hK _ _ _ _ _ I')
    have := (crOf_lt _ _ _ h2).1
    simp at h1
    omega
  | soft hw hp hnf hn hr =>
    rename_i v R
    rw [hw] at hwant
    have hl : (st (j + 1)).l = tput (st j).l o.dst v := by rw [hs']
    obtain ⟨hqj, hje⟩ := I.place hd h (by simp [looseB, hp, hnf])
    have hje : j < e := by
      rcases hje with h1 | ⟨_, h1⟩
      · exact h1
      · unfold isSol at h1; rw [hn] at h1; simp at h1
    have hnj := I.news hT hqj (Nat.le_of_lt hje)
    obtain ⟨_, Z, z2, z3⟩ := quiet_news hT (j + 1) (e - (j + 1)) (by have := I.en; omega) (fun k o' a b => I.quiet k o' (by omega) (by omega))
    rw [show j + 1 + (e - (j + 1)) = e from by omega, hs'] at z2
    simp only [List.append_assoc, List.singleton_append] at z2
    have hM : (st j).B ++ maskRows (anOf ops j) (st j).news = (st q).B ++ maskBy (fun k => (anOf ops j).testBit k) (st j).news := by rw [hnj.1, maskRows_eq]
    rw [hM] at hr
    have hlenM : (st j).full.length = ((st q).B ++ maskBy (fun k => (anOf ops j).testBit k) (st j).news).length := by simp [DS.full, hnj.1]
    have hkeep := aOper_keeps hC.keeps' hr
    rw [hlenM] at hkeep
    generalize hMd : (st q).B ++ maskBy (fun k => (anOf ops j).testBit k) (st j).news = M at hr hlenM hkeep
    have hML : M.length = (st q).B.length + (flatRows (st j).news).length := by rw [← hMd]; simp
    rw [hlenM] at z2
    have hN : (R.drop M.length).length = R.length - M.length := by simp
    have hcr : ∀ id, M.length ≤ id → crOf (st e).news (id - (st q).B.length) = if id < R.length then some j else crOf Z (id - R.length) := by
      intro id h1
      rw [z2, crOf_append, if_neg (by omega), crOf, hN]
      have := hkeep.1
      by_cases h2 : id < R.length
      · rw [if_pos (by omega), if_pos h2]
      · rw [if_neg (by omega), if_neg h2]
        congr 1; omega
    have hZ : ∀ {k i}, crOf Z k = some i → j < i := by
      intro k i hk
      obtain ⟨_, N, hN, _⟩ := crOf_lt _ _ _ hk
      have := (z3 _ hN).1.1
      simp only at this; omega
    refine I.soft hC hd hT h hoko (X := (st j).news) (M := M) z2 hMd.symm hr hl (fun id h1 => hkeep.2 id h1 h1) ?_ (fun id h1 h2 => by rw [hcr id h1, if_pos h2]) (fun id h1 h2 => ?_) (fun id r h1 h2 h3 => ?_) (fun id k h1 h2 => ?_) (fun _ => hje) hwant.symm (fun v' w' ρ' I' => hK _ _ _ _ _ I')
    · rw [HS_length, z2, flatRows_append]
      simp only [flatRows, List.length_append, hN]
      omega
    · rcases Nat.lt_or_ge id M.length with hlt | hge
      · rw [z2, crOf_append, if_pos (by omega)] at h2
        obtain ⟨_, N, hN, _⟩ := crOf_lt _ _ _ h2
        have := (hnj.2 _ hN).1.2
        simp only at this; omega
      · rw [hcr id hge] at h2
        split at h2
        · rename_i hlt; exact ⟨hge, hlt⟩
        · have := hZ h2; omega
    · rw [z2, flatRows_append, hget_append, if_neg (by omega), flatRows, hget_append, if_pos (by omega), hget_drop] at h3
      rw [← h3]; congr 1; omega
    · cases hb : (anOf ops j).testBit k with
      | false => rfl
      | true =>
        have := an_lt hd j k h.lt hb
        rw [hcr id h1] at h2
        split at h2
        · cases h2; omega
        · have := hZ h2; omega

theorem Inv.done (I : Inv P G nt imp ops st d0 ρ0 A0 w0 q e S ρ a w) (hT : Trace P c lim imp ops At rs st) (hall : ∀ k, k < ops.size → S k = true) : StR ρ nt (st ops.size).l a ∧ Rel P ρ (st ops.size).full w ∧ Moves ρ0 A0 w0 ρ (st ops.size).full w ∧ a.defers = d0 := by
  have he : e = ops.size := by
    rcases I.next with h | ⟨o, ho, hs⟩
    · exact h
    · unfold isSol at hs
      simp only [Bool.and_eq_true] at hs
      have := I.high e o (Nat.le_refl _) ho (by simpa using hs.2.1)
      rw [hall e (Array.getElem?_eq_some_iff.1 ho).1] at this; cases this
  subst he
  have hnews := I.news hT I.qe (Nat.le_refl _)
  have hfull : HS st q ops.size S = (st ops.size).full := by
    unfold HS DS.full
    rw [hnews.1, mask_all]
    exact fun x hx => .inl (hall x.1 (hnews.2 x hx).1.2)
  have hrel := I.rel
  have hmov := I.moves
  rw [hfull] at hrel hmov
  refine ⟨⟨I.size, fun t => ?_⟩, hrel, hmov, I.defers⟩
  rcases I.slots t with ⟨h1, h2⟩ | ⟨i, oi, h1, h2, h3, h4, h5⟩
  · have := same_slot hT (t := t) 0 ops.size (by omega) (fun k o' _ hk ho' => h1 k o' (hall k (by omega)) ho')
    rw [Nat.zero_add] at this
    rw [this]
    exact h2.mono (restr_ext _ _)
  · have hi := (Array.getElem?_eq_some_iff.1 h2).1
    have := same_slot hT (t := t) (i + 1) (ops.size - (i + 1)) (by omega) (fun k o' hk1 hk2 ho' hdst => by
      have := h4 k o' (hall k (by omega)) ho' hdst
      omega)
    rw [show i + 1 + (ops.size - (i + 1)) = ops.size from by omega] at this
    rw [this]
    exact h5.mono (restr_ext _ _)

theorem wpAny_draw (hC : SubOK P G c) (hd : okDraw ops = true) (hok : ops.toList.all (okOper G nt) = true) (hT : Trace P c lim imp ops At rs st) (hfst : (st 0).full = At) {b : Frame} {kk : List Item} {cs : List Frame} {Q : Act → World → Prop}
    (hQ : ∀ ρ a w, StR ρ nt (st ops.size).l a → Rel P ρ (st ops.size).full w → Moves ρ0 A0 w0 ρ (st ops.size).full w → a.defers = d0 → Q a w) :
    ∀ (fuel : Nat) (listed : Array Bool), listed.size = ops.size → listed.toList.count false = fuel → ∀ q e ρ a w, Inv P G nt imp ops st d0 ρ0 A0 w0 q e (fun k => listed.getD k false) ρ a w → anyTo P .any ops b kk cs Q fuel listed a w := by
  have fin : ∀ (listed : Array Bool), listed.size = ops.size → Region.ready .any ops listed = [] → ∀ q e ρ a w, Inv P G nt imp ops st d0 ρ0 A0 w0 q e (fun k => listed.getD k false) ρ a w → Q a w := by
    intro listed hsz hr q e ρ a w I
    obtain ⟨h1, h2, h3, h4⟩ := I.done hT fun k => by
      induction k using Nat.strongRecOn with
      | _ k ih =>
        intro hk
        cases hb : listed.getD k false with
        | true => rfl
        | false =>
          exfalso
          have : k ∈ Region.ready .any ops listed := by
            rw [mem_ready]
            refine ⟨by rw [Array.getD_eq_getD_getElem?, Array.getElem?_eq_getElem (by omega)] at hb ⊢; simpa using hb, ops[k], Array.getElem?_eq_getElem hk, fun x hx hbx => ?_⟩
            have hlt : x.on < k := by
              simp only [okDraw, Bool.and_eq_true] at hd
              have h1 := List.all_eq_true.1 hd.1 (ops[k], k) (List.mem_iff_getElem?.2 ⟨k, by rw [List.getElem?_zipIdx]; simp [Array.getElem?_toList, Array.getElem?_eq_getElem hk]⟩)
              have h2 := List.all_eq_true.1 h1 x (by simpa using hx)
              simpa [hbx] using h2
            exact ih x.on hlt (by omega)
          rw [hr] at this; cases this
    exact hQ ρ a w h1 h2 h3 h4
  intro fuel
  induction fuel with
  | zero =>
    intro listed hsz hcnt q e ρ a w I
    have hr : Region.ready .any ops listed = [] := by
      cases hr : Region.ready .any ops listed with
      | nil => rfl
      | cons j rs =>
        exfalso
        have hj : j ∈ Region.ready .any ops listed := by rw [hr]; simp
        rw [mem_ready] at hj
        obtain ⟨h0, o, ho, _⟩ := hj
        have hlt : j < listed.size := by rw [hsz]; exact (Array.getElem?_eq_some_iff.1 ho).1
        rw [Array.getD_eq_getD_getElem?, Array.getElem?_eq_getElem hlt] at h0
        simp only [Option.getD_some] at h0
        have := List.count_eq_zero.1 hcnt
        exact this (by rw [← h0]; simp)
    exact ⟨hr, fin listed hsz hr q e ρ a w I⟩
  | succ fuel ih =>
    intro listed hsz hcnt q e ρ a w I
    refine ⟨fun hr => fin listed hsz hr q e ρ a w I, fun j hj => ?_⟩
    rw [mem_ready] at hj
    obtain ⟨h0, o, ho, hpre⟩ := hj
    have hlt : j < listed.size := by rw [hsz]; exact (Array.getElem?_eq_some_iff.1 ho).1
    have hlj : listed[j] = false := by
      rw [Array.getD_eq_getD_getElem?, Array.getElem?_eq_getElem hlt] at h0
      simpa using h0
    have hready : Ready ops (fun k => listed.getD k false) j o := ⟨ho, by simp [hlt, hlj], fun x hx hb => hpre x (by simpa using hx) hb⟩
    refine I.op hC hd hok hT hfst hready fun q' e' ρ' a' w' I' => ih _ (by simpa using hsz) ?_ q' e' ρ' a' w' ?_
    · have := List.count_set (l := listed.toList) (i := j) (a := true) (b := false) (by simpa using hlt)
      simp only [Array.toList_setIfInBounds, this]
      simp [hlj, hcnt]
    · have : addS (fun k => listed.getD k false) j = fun k => (listed.setIfInBounds j true).getD k false := by
        funext k
        by_cases hkj : k = j
        · subst hkj; simp [addS, hlt]
        · simp [addS, hkj, Array.getElem?_setIfInBounds_ne (Ne.symm hkj)]
      rw [this] at I'
      exact I'
end

/-- EVERY ORDER DOES AS THE ORDER OF THE TEXT DOES. -/
theorem draw_says {P : Program} {G lim : Nat} {imp : FuncId → Bool} {c : Sub} (hm : P.follows .mixedOrders = true) (hC : SubOK P G c) : DrawSays P G lim imp c := by
  intro ops l A l' A' h nt hok hd ρ a w hS hG hR t b k cs
  obtain ⟨rs, st, h1, h2, h3, hT⟩ := trace_of h
  simp only [Region.schedule, hm, Bool.true_or, if_true]
  refine anyTo_sound (Q := fun a' w' => a'.defers = a.defers ∧ ∃ ρ', StR ρ' nt l' a' ∧ Rel P ρ' A' w' ∧ Moves ρ A w ρ' A' w') ops.size t _ a _ ?_
  obtain ⟨hR1, hM1⟩ := hR.heap (w' := { w with drawn := w.drawn + 1 }) rfl
  have hf : ∀ k, (Array.replicate ops.size false).getD k false = false := by
    intro k
    simp only [Array.getD_eq_getD_getElem?, Array.getElem?_replicate]
    split <;> rfl
  have hno : ∀ {k : Nat}, (fun k => (Array.replicate ops.size false).getD k false) k = true → False := fun {k} hk => by
    have := hf k
    simp only at hk
    rw [this] at hk; cases hk
  obtain ⟨e, I⟩ := inv_fresh (P := P) (G := G) (nt := nt) (d0 := a.defers) (ρ0 := ρ) (A0 := A) (w0 := w) (ρ := ρ) (w := { w with drawn := w.drawn + 1 }) (q := 0) (S := fun k => (Array.replicate ops.size false).getD k false) (a := a) hT (by omega) (by rw [h1])
    (fun i o hi => by omega) (fun i o _ ho _ => hf i) (fun i hi => (hno hi).elim) (fun i o hi _ => (hno hi).elim) (by rw [h1]; exact hR1) (by rw [h1]; exact hM1) (fun t => .inl ⟨fun i o hi _ => (hno hi).elim, by rw [h1]; exact hS.tmps t⟩) hG rfl hS.size
  exact wpAny_draw hC hd hok hT (by rw [h1]; simp [DS.full, flatRows]) (d0 := a.defers) (ρ0 := ρ) (A0 := A) (w0 := w) (fun ρ' a' w' g1 g2 g3 g4 => ⟨g4, ρ', by rw [← h2]; exact g1, by rw [← h3]; exact g2, by rw [← h3]; exact g3⟩) ops.size (Array.replicate ops.size false) (by simp) (by simp) 0 e ρ a _ I
end Go.Abs
