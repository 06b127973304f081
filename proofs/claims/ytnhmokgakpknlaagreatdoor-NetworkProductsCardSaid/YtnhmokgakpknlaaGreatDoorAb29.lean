/-
The abstract machine: the tables that a row lists, as rows of the first heap; and behind a call that leaves all old blocks, what a row asks.
-/
import Derived.Test.YtnhmokgakpknlaaGreatDoorAb25
import Derived.Lib.LaidTab
import Derived.ReadAgain
import Derived.ChangeCalls
import Derived.RowKit
namespace Go.Abs
open Go

/-- Where the parts begin. -/
def offs (ls : List (List Value)) : List Nat := (List.range ls.length).map fun i => (ls.take i).flatten.length
/-- The cells of a datum of plain parts, in their order. -/
def flatRow {H : Type} (P : Program) : Nat → TypeId → DataW H → Option (List Value)
  | 0, _, _ => none
  | fuel + 1, t, d =>
    match P.underlying t, d with
    | some .bool, .lit (.bool b) => some [.bool b]
    | some (.int k), .lit (.int k' n) => if k' = k then some [.int k n] else none
    | some (.array n e), .agg ds => (ds.mapM fun d => flatRow P fuel e d).bind fun ls => if ds.length = n ∧ offs ls = (List.range n).map (· * P.cellsOf e) then some ls.flatten else none
    | some (.struct fs), .agg ds => ((fs.toList.zip ds).mapM fun x => flatRow P fuel x.1.type x.2).bind fun ls => if ds.length = fs.size ∧ offs ls = fs.toList.map (·.offset) then some ls.flatten else none
    | _, _ => none

theorem flat_get : ∀ {ls : List (List Value)} {o : Nat} {v : Value}, ls.flatten[o]? = some v → ∃ (i : Nat) (a : List Value) (j : Nat), ls[i]? = some a ∧ a[j]? = some v ∧ o = (ls.take i).flatten.length + j
  | [], o, v, h => by simp at h
  | a :: ls, o, v, h => by
    rw [List.flatten_cons, List.getElem?_append] at h
    split at h
    · exact ⟨0, a, o, rfl, h, by simp⟩
    · rename_i hn
      obtain ⟨i, b, j, h1, h2, h3⟩ := flat_get h
      refine ⟨i + 1, b, j, by simpa using h1, h2, ?_⟩
      simp only [List.take_succ_cons, List.flatten_cons, List.length_append]
      omega
theorem offs_at {ls : List (List Value)} {i : Nat} {a : List Value} (h : ls[i]? = some a) : (offs ls)[i]? = some (ls.take i).flatten.length := by
  have hi : i < ls.length := (List.getElem?_eq_some_iff.1 h).1
  simp [offs, hi]
theorem mapM_back {α β : Type} {f : α → Option β} {l : List α} {r : List β} (h : l.mapM f = some r) {i : Nat} {b : β} (hb : r[i]? = some b) : ∃ a, l[i]? = some a ∧ f a = some b := by
  have hi : i < r.length := (List.getElem?_eq_some_iff.1 hb).1
  have hl : i < l.length := by rw [← Lib.mapM_length h]; exact hi
  obtain ⟨b', h1, h2⟩ := Lib.mapM_at h i l[i] (List.getElem?_eq_getElem hl)
  rw [hb] at h1
  cases h1
  exact ⟨l[i], List.getElem?_eq_getElem hl, h2⟩
theorem cut_get {cs : List Value} {o n j : Nat} {v : Value} (h : ((cs.drop o).take n)[j]? = some v) : cs[o + j]? = some v := by
  rw [List.getElem?_take] at h
  split at h
  · simpa [List.getElem?_drop] using h
  · cases h

theorem flatRow_spec {H : Type} {enc : TypeId × Value → H} {P : Program} {w : World} {base : Nat} {sp : Nat → Bool} {hd : Bool} : ∀ (n m : Nat) (t : TypeId) (d : DataW H) (l cs : List Value) (p : List MemPlace), flatRow P n t d = some l →
    DataW.trod enc P w base sp hd m t cs = some (d, p) → ∀ (o : Nat) (v : Value), l[o]? = some v → cs[o]? = some v
  | 0, _, _, _, _, _, _, h, _ => by cases h
  | n + 1, m, t, d, l, cs, p, h, ht => by
    intro o v ho
    unfold flatRow at h
    split at h
    · rename_i hu
      obtain ⟨b, rfl, e⟩ := DataW.trod_bool hu ht
      cases e; cases h; exact ho
    · rename_i k k' z hu
      obtain ⟨b, rfl, e, _⟩ := DataW.trod_int hu ht
      cases e
      simp only [if_true, Option.some.injEq] at h
      subst h; exact ho
    · rename_i na e ds hu
      obtain ⟨xs, m', rfl, ex, hlen, hxl, hx⟩ := DataW.trod_array hu ht
      obtain ⟨ls, hls, h⟩ := Option.bind_eq_some_iff.1 h
      split at h
      · rename_i hc
        cases h
        obtain ⟨i, a, j, h1, h2, rfl⟩ := flat_get ho
        obtain ⟨d', hd', hf⟩ := mapM_back hls h1
        cases ex
        simp only [List.getElem?_map, Option.map_eq_some_iff] at hd'
        obtain ⟨x, hx1, rfl⟩ := hd'
        have hi : i < na := by rw [← hxl]; exact (List.getElem?_eq_some_iff.1 hx1).1
        have hr := hx i hi
        rw [hx1] at hr
        have := flatRow_spec n m' e x.1 a _ x.2 hf hr j v h2
        have ho' := offs_at h1
        rw [hc.2] at ho'
        simp only [List.getElem?_map, List.getElem?_range hi, Option.map_some, Option.some.injEq] at ho'
        rw [← ho']
        exact cut_get this
      · cases h
    · rename_i fs ds hu
      obtain ⟨xs, m', rfl, ex, hlen, hxl, hx⟩ := DataW.trod_struct hu ht
      obtain ⟨ls, hls, h⟩ := Option.bind_eq_some_iff.1 h
      split at h
      · rename_i hc
        cases h
        obtain ⟨i, a, j, h1, h2, rfl⟩ := flat_get ho
        obtain ⟨fd, hd', hf⟩ := mapM_back hls h1
        cases ex
        obtain ⟨hf1, hd1⟩ := List.getElem?_zip_eq_some.1 hd'
        simp only [List.getElem?_map, Option.map_eq_some_iff] at hd1
        obtain ⟨x, hx1, hx2⟩ := hd1
        have hr := hx i fd.1 (by simpa using hf1)
        rw [hx1] at hr
        rw [← hx2] at hf
        have := flatRow_spec n m' fd.1.type x.1 a _ x.2 hf hr j v h2
        have ho' := offs_at h1
        rw [hc.2] at ho'
        simp only [List.getElem?_map, hf1, Option.map_some, Option.some.injEq] at ho'
        rw [← ho']
        exact cut_get this
      · cases h
    · cases h

/-- The tables of the list, as rows; other variables have none. -/
def tabRow (P : Program) (laid : List (String × DataW Unit)) (g : Nat) : Option ARow :=
  laid.findSome? fun x => if P.globalNamed x.1 = some g then (P.globals[g]?).bind fun v => (flatRow P 9 v.type x.2).bind fun cs => if cs.all atomB = true then some (.cells cs 0 .ro) else none else none
def tabRows (P : Program) (laid : List (String × DataW Unit)) (G : Nat) : Heap := (List.range G).map (tabRow P laid)
def tabLoc (G : Nat) : Loc := fun i => if i < G then some ⟨i, 0, 0, 0⟩ else none
theorem tabLoc_globs (G : Nat) : Globs (tabLoc G) G := fun g hg => ⟨0, 0, by simp [tabLoc, hg]⟩

theorem laidVars_mem {P : Program} {w : World} : ∀ {l : List (String × DataW Unit)} {ps : List MemPlace}, DataW.LaidVars P w l ps → ∀ x ∈ l, ∃ g t cs fuel p, P.globalNamed x.1 = some g ∧ (P.globals[g]?).map (·.type) = some t ∧ w.var? P x.1 = some cs ∧
    DataW.trod (fun _ => ()) P w 0 (fun _ => true) false fuel t cs.toList = some (x.2, p)
  | [], _, _, x, hx => by cases hx
  | y :: l, _, ⟨g, t, cs, fuel, p, q, h1, h2, h3, h4, h5, _⟩, x, hx => by
    rcases List.mem_cons.1 hx with rfl | hx
    · exact ⟨g, t, cs, fuel, p, h1, h2, h3, h4⟩
    · exact laidVars_mem h5 x hx

theorem tabRows_rel {P : Program} {laid : List (String × DataW Unit)} {G : Nat} {w : World} (h : laidMet P laid w) : Rel P (tabLoc G) (tabRows P laid G) w := by
  have get : ∀ i r, hget (tabRows P laid G) i = some r → i < G ∧ tabRow P laid i = some r := by
    intro i r hi
    rw [hget_eq] at hi
    simp only [tabRows, List.getElem?_map, Option.map_eq_some_iff] at hi
    obtain ⟨j, hj, hr⟩ := hi
    have hlt : i < G := by have := (List.getElem?_eq_some_iff.1 hj).1; simpa using this
    simp [hlt] at hj
    subst hj
    exact ⟨hlt, hr⟩
  have row : ∀ i r, tabRow P laid i = some r → ∃ cs, r = .cells cs 0 .ro ∧ ∃ cs' e' fz, w.heap[i]? = some (.cells cs' e' fz) ∧ cs.all atomB = true ∧ ∀ (o : Nat) (v : Value), cs[o]? = some v → cs'[o]? = some v := by
    intro i r hr
    obtain ⟨x, hx, hr⟩ := List.exists_of_findSome?_eq_some hr
    split at hr
    · rename_i hn
      obtain ⟨v, hv, hr⟩ := Option.bind_eq_some_iff.1 hr
      obtain ⟨cs, hcs, hr⟩ := Option.bind_eq_some_iff.1 hr
      by_cases hat : cs.all atomB = true
      case neg => rw [if_neg hat] at hr; cases hr
      rw [if_pos hat] at hr; cases hr
      obtain ⟨ps, hl, _⟩ := h
      obtain ⟨g, t, cs', fuel, p, h1, h2, h3, h4⟩ := laidVars_mem hl x hx
      rw [hn] at h1; cases h1
      rw [hv] at h2; cases h2
      refine ⟨cs, rfl, ?_⟩
      simp only [World.var?, hn, Option.bind_some] at h3
      split at h3
      · rename_i c e fz hw
        cases h3
        exact ⟨_, _, _, hw, hat, fun o v ho => by simpa using flatRow_spec 9 fuel _ _ cs _ p hcs h4 o v ho⟩
      · cases h3
    · cases hr
  have loc : ∀ i, i < G → tabLoc G i = some ⟨i, 0, 0, 0⟩ := fun i hi => by simp [tabLoc, hi]
  refine ⟨fun i hi => ?_, fun i r hi => ⟨_, loc i (get i r hi).1⟩, fun i r L hi hL => ?_, fun i j r s L M hi hj hL hM _ ho => ?_⟩
  · simp [tabRows] at hi
    simp [tabLoc, Nat.not_lt.2 hi]
  · obtain ⟨hlt, hr⟩ := get i r hi
    rw [loc i hlt] at hL; cases hL
    obtain ⟨cs, rfl, cs', e', fz, hw, hat, hc⟩ := row i r hr
    refine ⟨cs', e', fz, hw, fun o v hv => ⟨v, by simpa using hc o v hv, ?_⟩, fun _ => rfl, fun h => absurd rfl h⟩
    exact .atom (List.all_eq_true.1 hat v (List.mem_of_getElem? hv))
  · obtain ⟨hlt, hr⟩ := get i r hi
    obtain ⟨cs, rfl, _⟩ := row i r hr
    cases ho

open Go.ChangeShapes in
theorem post_of_still {H : Type} {enc : TypeId × Value → H} {P : Program} {f : Func} {s : ChangeSpec} {apart fresh handsOn again : Bool} {W W' : World} {args : Array Value} {v : Value} {ds gs : List (DataW H)} {before pa pv : List MemPlace}
    (hW : DataW.Whole enc P f.params.toList s.vars apart W args.toList ds gs before)
    (hres : ∀ (b : Nat) (sp : Nat → Bool) (hd : Bool), DataW.TrodAll enc P W' b sp hd f.resultTypes.toList (v.resultList f.resultTypes.size) (s.fn H (ds ++ gs)).results [])
    (hargs : ∀ sp : Nat → Bool, (∀ p ∈ before, sp p.block = true) → DataW.TrodAll enc P W' 0 sp true f.params.toList args.toList (s.fn H (ds ++ gs)).args pa)
    (hvars : ∀ sp : Nat → Bool, (∀ p ∈ before, sp p.block = true) → DataW.TrodVars enc P W' sp s.vars (s.fn H (ds ++ gs)).vars pv)
    (hps : before = pa ++ pv) (ho : W'.os = W.os ∧ W'.output = W.output) (hb : ∀ b, b < W.heap.size → W'.heap[b]? = W.heap[b]?)
    (hok : ∀ (j : Nat) (t : TypeId) (r : Value), f.resultTypes[j]? = some t → (v.resultList f.resultTypes.size)[j]? = some r → Value.okWide P W' .any 0 t r) :
    s.post enc P f apart fresh handsOn again W args v W' := by
  have hlt := hW.lt
  have hold : ∀ p ∈ before, (fun b => decide (b < W.heap.size)) p.block = true := fun p hp => by simpa using hlt p hp
  refine ⟨ds, gs, before, [], pa, pv, hW, hres _ _ _, hargs _ hold, hvars _ hold, kept_of_same ho hb _, fun _ => ?_⟩
  obtain ⟨_, _, _, _, _, hz, hn⟩ := hW
  refine ⟨hok, _, _, ([] ++ pa) ++ pv, ⟨[] ++ pa, pv, trodAll_append (hargs _ (fun _ _ => rfl)) (hres _ _ _), hvars _ (fun _ _ => rfl), rfl, ?_, ?_⟩, ?_⟩
  · intro b off hp
    have hp' : MemPlace.cell b off ∈ before := by rw [hps]; simpa using hp
    rw [frozen_of_same hb (hlt _ hp')]
    exact hz b off hp'
  · intro ha
    have := hn ha
    rw [hps] at this
    simpa using this
  · intro p hp _
    rw [hps]
    simpa using hp

/-- Behind a call that leaves all old blocks the arguments read as before. -/
theorem trodAll_still {H : Type} {enc : TypeId × Value → H} {P : Program} {W W' : World} (hb : ∀ b, b < W.heap.size → W'.heap[b]? = W.heap[b]?) : ∀ {ts : List TypeId} {vs : List Value} {ds : List (DataW H)} {ps : List MemPlace} {sp : Nat → Bool} {hd : Bool}, (∀ p ∈ ps, p.block < W.heap.size) → DataW.TrodAll enc P W 0 sp hd ts vs ds ps → DataW.TrodAll enc P W' 0 sp hd ts vs ds ps
  | [], [], [], _, _, _, _, h => h
  | _ :: _, _ :: _, _ :: _, _, _, _, hl, ⟨p, q, ⟨n, h1⟩, h2, e⟩ => ⟨p, q, ⟨n, DataW.trod_carry n _ _ _ h1 fun x hx => by
      have := hl x (by rw [e]; exact List.mem_append_left _ hx)
      cases x with
      | cell b off => simp only [World.sameAt, World.cell?, hb b this]
      | map b => exact hb b this⟩, trodAll_still hb (fun x hx => hl x (by rw [e]; exact List.mem_append_right _ hx)) h2, e⟩
  | [], _ :: _, _, _, _, _, _, h => h.elim
  | [], [], _ :: _, _, _, _, _, h => h.elim
  | _ :: _, [], _, _, _, _, _, h => h.elim
  | _ :: _, _ :: _, [], _, _, _, _, h => h.elim

/-- What is asked of the program's types, that arguments read again. -/
structure Reads (P : Program) : Prop where
  out : laidOutB P = true
  maps : mapsRowed P = true
  full : ((List.range P.types.size).all fun t => match P.underlying t with | some (.slice e) => decide (0 < P.cellsOf e) | _ => true) = true

open Go.ChangeShapes Go.RowKit in
/-- WHAT A LAW's ROW ASKS: true came back, all old blocks are as they were. -/
theorem law_post {H : Type} {enc : TypeId × Value → H} {P : Program} (hP : Reads P) {f : Func} {s : ChangeSpec} {apart fresh handsOn again : Bool} {W W' : World} {args : Array Value} {ds gs : List (DataW H)} {before : List MemPlace} {bt : TypeId}
    (hv : s.vars = []) (hfn : ∀ ds : List (DataW H), ds.length = f.params.size → s.fn H ds = { results := [.lit (.bool true)], args := ds }) (hr : f.resultTypes = #[bt]) (hu : P.underlying bt = some .bool) (hts : f.params.toList.all (fun t => decide (t < P.types.size)) = true)
    (hW : DataW.Whole enc P f.params.toList s.vars apart W args.toList ds gs before) (ho : W'.os = W.os ∧ W'.output = W.output) (hb : ∀ b, b < W.heap.size → W'.heap[b]? = W.heap[b]?) :
    s.post enc P f apart fresh handsOn again W args (.bool true) W' := by
  have hW0 := hW
  have hlt := hW.lt
  obtain ⟨p, q, hA, hV, rfl, hz, hn⟩ := hW
  rw [hv] at hV
  obtain ⟨rfl, rfl⟩ : gs = [] ∧ q = [] := by
    cases gs with
    | nil => exact ⟨rfl, hV⟩
    | cons => exact hV.elim
  have hlen : ds.length = f.params.size := by simpa using (Go.trodAll_length hA).2
  have hf := hfn ds hlen
  refine post_of_still (pa := p) (pv := []) hW0 (fun b sp hd => ?_) (fun sp hs => ?_) (fun sp _ => ?_) rfl ho hb ?_
  · rw [List.append_nil, hf, hr]
    exact trodAll_cons_mk (shut_bool hu true) trodAll_mk0
  · rw [List.append_nil, hf]
    refine trodAll_still hb (fun x hx => hlt x (by simpa using hx)) ?_
    exact DataW.TrodAll.respare (kids_rows hP.out hP.maps) (fun t e ht => slices_full_of P hP.full t e ht) (fun t ht => by simpa using List.all_eq_true.1 hts t ht) hA (fun x hx => hs x (by simpa using hx))
  · rw [List.append_nil, hf, hv]
    exact rfl
  · exact ok_one hr rfl (okWide_bool_mk hu true)
end Go.Abs
