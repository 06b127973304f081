/-
Joined: Seat, AbV, AbY, AbZ, Bq, Bp, Aj.
-/
import Derived.Test.YtinkgnklhcjejaaGreatMb3
import Derived.Test.YtinkgnklhcjejaaGreatMb2
import Derived.Test.YtinkgnklhcjejaaGreatProg
import Derived.KernelRfl
set_option linter.unusedVariables false
set_option linter.unusedSimpArgs false
set_option linter.unusedSectionVars false
/-
The seat's program, as the abstract machine wants it: there is no table and no library without bodies.
-/
namespace Go.Proofs.YtinkgnklhcjejaaGreat
open Go Go.Abs

theorem prog_ok : ProgOK Tryz.prog 0 := progOK_spec (by kernel_rfl)
def memN (l : List Nat) (n : Nat) : Bool := l.any fun m => m == n
/-- Functions that write rows of their callers. -/
def env0 : Env := { impure := memN [124, 165, 174, 177, 184, 196, 199, 202, 213], known := fun _ _ _ _ => none }
theorem env0_ok : EnvOK Tryz.prog 0 env0 := ⟨by intro lim f args A v A' h; exact absurd h (by simp [env0]), by intro lim f args A v A' h; exact absurd h (by simp [env0])⟩
def lits (k : IntKind) (l : List Int) : List Value := l.map (.int k)
/-- No table. -/
def heap0 : Heap := []
noncomputable def bodyOf (f : FuncId) : Code := match Tryz.prog.funcs[f]? with
  | some fn => fn.body.getD .skip
  | none => .skip
/-- A number. -/
abbrev I (n : Int) : Value := .int .i64 n
/-- A pointer; a slice; none; a variable's row; a slice's row; two numbers. -/
abbrev pt (i o : Nat) : Value := .pointer (some ⟨i, o, none⟩)
abbrev sl (i o n c : Nat) : Value := .slice (some ⟨i, o, none⟩) n c
abbrev sn : Value := .slice none 0 0
abbrev rvar (cs : List Value) (e : Nat) : Option ARow := some (.cells cs e .var)
abbrev rrow (cs : List Value) (e : Nat) : Option ARow := some (.cells cs e .row)
abbrev g2 (a b : Int) : Value := .agg #[I a, I b]
/-- Nothing. -/
abbrev U : Value := .tuple #[]
def us (n : Nat) : List Value := List.replicate n U
/-- No table at all. -/
def heapN : Heap := []
theorem heapN_ok {E : Env} {f : FuncId} {args : List Value} {v : Value} (h : Gives Tryz.prog E 0 f args heapN (v, heapN)) : 0 ≤ heapN.length ∧ heapN.all tableRow = true ∧ Gives Tryz.prog E 0 f args heapN (v, heapN) := ⟨by decide, by decide, h⟩
theorem heap0_ok {E : Env} {f : FuncId} {args : List Value} {v : Value} (h : Gives Tryz.prog E 0 f args heap0 (v, heap0)) : 0 ≤ heap0.length ∧ heap0.all tableRow = true ∧ Gives Tryz.prog E 0 f args heap0 (v, heap0) := ⟨by decide, by decide, h⟩
theorem known_of {P : Program} {E : Env} {lim : Nat} {f : FuncId} {args : List Value} {A A' : Heap} {v : Value} (h : E.known lim f args A = some (v, A')) : Gives P E lim f args A (v, A') := ⟨0, by simp only [aCall, aCallBy, h]⟩
theorem ite_or {α : Type} {c : Bool} {a b : Option α} {r : α} (h : (if c then a else b) = some r) : (c = true ∧ a = some r) ∨ b = some r := by
  cases c
  · exact .inr h
  · exact .inl ⟨rfl, h⟩
end Go.Proofs.YtinkgnklhcjejaaGreat
/-
Contracts of a whole family of calls: over rows of their arguments, or at exact rows that they write.
-/
namespace Go.Abs
open Go
theorem known_gives {P : Program} {E : Env} {lim : Nat} {f : FuncId} {args : List Value} {A : Heap} {r : Value × Heap} (h : E.known lim f args A = some r) : Gives P E lim f args A r := ⟨0, by simp only [aCall, aCallBy, h]⟩
theorem ints_inj : ∀ {l m : List Int}, ints l = ints m → l = m
  | [], [], _ => rfl
  | [], _ :: _, h => by simp [ints] at h
  | _ :: _, [], h => by simp [ints] at h
  | a :: l, b :: m, h => by
    simp only [ints, List.map_cons, List.cons.injEq, Value.int.injEq, true_and] at h
    rw [h.1, ints_inj (l := l) (m := m) h.2]
/-- A family of calls over rows of their arguments: what belongs to whom. -/
structure Fam where
  ι : Type
  ok : ι → Prop
  args : ι → List Value
  rows : ι → Heap
  val : ι → Value
  new : ι → Heap
  one : ∀ i j, ok i → ok j → args i = args j → rows i = rows j → val i = val j ∧ new i = new j
open Classical in
noncomputable def Fam.B (F : Fam) (T : Heap) : RowsB := fun _ args R => if h : ∃ i, F.ok i ∧ args = F.args i ∧ R = F.rows i then some (T, F.val (Classical.choose h), F.new (Classical.choose h)) else none
theorem Fam.B_of (F : Fam) (T : Heap) {f : FuncId} (i : F.ι) (hi : F.ok i) : F.B T f (F.args i) (F.rows i) = some (T, F.val i, F.new i) := by
  have he : ∃ j, F.ok j ∧ F.args i = F.args j ∧ F.rows i = F.rows j := ⟨i, hi, rfl, rfl⟩
  unfold Fam.B
  rw [dif_pos he]
  obtain ⟨h1, h2, h3⟩ := Classical.choose_spec he
  obtain ⟨g1, g2⟩ := F.one _ _ hi h1 h2 h3
  rw [← g1, ← g2]
theorem Fam.B_inv (F : Fam) {T T' : Heap} {f : FuncId} {args : List Value} {R R1 : Heap} {v : Value} (h : F.B T f args R = some (T', v, R1)) : ∃ i, F.ok i ∧ args = F.args i ∧ R = F.rows i ∧ T' = T ∧ v = F.val i ∧ R1 = F.new i := by
  unfold Fam.B at h
  by_cases he : ∃ i, F.ok i ∧ args = F.args i ∧ R = F.rows i
  · rw [dif_pos he] at h
    obtain ⟨h1, h2, h3⟩ := Classical.choose_spec he
    cases h
    exact ⟨_, h1, h2, h3, rfl, rfl, rfl⟩
  · rw [dif_neg he] at h; cases h
/-- E, with a family of calls of f0. -/
noncomputable def Env.fam (E : Env) (G : Nat) (T : Heap) (f0 : FuncId) (F : Fam) : Env := E.with fun lim f args A => if f == f0 then rowsKnown G (F.B T) lim f args A else none
theorem Env.fam_ok {P : Program} {G : Nat} {E : Env} {T : Heap} {f0 : FuncId} {F : Fam} (hE : EnvOK P G E) (hT : T.length = G) (hT2 : T.all tableRow = true) (hs : ∀ i, F.ok i → SaysAt P G f0 (F.args i) (T ++ F.rows i) (F.val i) (T ++ F.rows i ++ F.new i)) : EnvOK P G (E.fam G T f0 F) := by
  refine env_says hE fun lim f args A v A' h => ?_
  by_cases hf : (f == f0) = true
  · rw [if_pos hf] at h
    obtain rfl : f = f0 := eq_of_beq hf
    unfold rowsKnown at h
    simp only at h
    split at h
    · rename_i args0 R0 h1 h2
      split at h
      · rename_i T' v0 R1 h3
        obtain ⟨i, hi, rfl, rfl, rfl, rfl, rfl⟩ := F.B_inv h3
        split at h
        · rename_i hc
          simp only [Bool.and_eq_true, List.all_eq_true, decide_eq_true_eq] at hc
          obtain ⟨⟨⟨g1, g2⟩, g3⟩, g4⟩ := hc
          cases hv : valBy (outNum G (dedup (args.flatMap (argIds G))) A.length) (F.val i) with
          | none => rw [hv] at h; cases h
          | some v1 =>
            rw [hv] at h
            cases h
            exact ⟨fun ρ w args' hargs hG hR => rows_says hT hT2 g1 g4 g3 h2 h1 (by simpa [List.all_eq_true] using g2) hv (hs i hi) hargs hG hR, by simp, fun i _ hi => by rw [hget_append, if_pos hi]⟩
        · cases h
      · cases h
    · cases h
  · rw [if_neg hf] at h; cases h
theorem Env.fam_skip {E : Env} {G : Nat} {T : Heap} {f0 f lim : Nat} {F : Fam} {args : List Value} {A : Heap} (h : (f == f0) = false) : (E.fam G T f0 F).known lim f args A = E.known lim f args A := by
  simp only [Env.fam, Env.with, h, Bool.false_eq_true, if_false]
theorem Env.fam_here {E : Env} {G : Nat} {T : Heap} {f0 lim : Nat} {F : Fam} {args : List Value} {A : Heap} {ids : List Nat} {v' : Value} (i : F.ι) (hi : F.ok i) (h0 : dedup (args.flatMap (argIds G)) = ids) (h1 : listRen (valBy (inNum G ids)) args = some (F.args i)) (h2 : rowsAt A ids = some (F.rows i)) (hs : startsB T A = true) (h5 : nodupB ids = true) (h6 : (ids.all fun i => decide (G ≤ i)) = true) (h7 : valBy (outNum G ids A.length) (F.val i) = some v') (h8 : (F.new i).all plainRow = true) :
    (E.fam G T f0 F).known lim f0 args A = some (v', A ++ F.new i) := by
  simp only [Env.fam, Env.with, beq_self_eq_true, if_true, rowsKnown, h0, h1, h2, F.B_of T i hi, hs, h5, h6, h7, h8, Bool.and_self, Option.map_some]
/-- A family of calls at exact rows, some of which they write. -/
structure FamX where
  ι : Type
  ok : ι → Prop
  args : ι → List Value
  rows : ι → Heap
  val : ι → Value
  out : ι → Heap
  one : ∀ i j, ok i → ok j → args i = args j → rows i = rows j → val i = val j ∧ out i = out j
open Classical in
noncomputable def FamX.K (F : FamX) (L : Nat) : Nat → List Value → Heap → Option (Value × Heap) := fun lim args A => if h : ∃ i, F.ok i ∧ args = F.args i ∧ A = F.rows i ∧ lim ≤ L then some (F.val (Classical.choose h), F.out (Classical.choose h)) else none
noncomputable def Env.famX (E : Env) (f0 : FuncId) (L : Nat) (F : FamX) : Env := E.with fun lim f args A => if f == f0 then F.K L lim args A else none
theorem Env.famX_ok {P : Program} {G : Nat} {E : Env} {f0 L : Nat} {F : FamX} (hE : EnvOK P G E) (hs : ∀ i, F.ok i → SaysAt P G f0 (F.args i) (F.rows i) (F.val i) (F.out i) ∧ Keeps L (F.rows i) (F.out i)) : EnvOK P G (E.famX f0 L F) := by
  refine env_says hE fun lim f args A v A' h => ?_
  by_cases hf : (f == f0) = true
  · rw [if_pos hf] at h
    obtain rfl : f = f0 := eq_of_beq hf
    unfold FamX.K at h
    by_cases he : ∃ i, F.ok i ∧ args = F.args i ∧ A = F.rows i ∧ lim ≤ L
    · rw [dif_pos he] at h
      obtain ⟨h1, h2, h3, h4⟩ := Classical.choose_spec he
      cases h
      obtain ⟨s1, s2, s3⟩ := hs _ h1
      rw [← h2, ← h3] at s1
      rw [← h3] at s2 s3
      exact ⟨s1, s2, fun i hi hl => s3 i (by omega) hl⟩
    · rw [dif_neg he] at h; cases h
  · rw [if_neg hf] at h; cases h
theorem Env.famX_skip {E : Env} {f0 f L lim : Nat} {F : FamX} {args : List Value} {A : Heap} (h : (f == f0) = false) : (E.famX f0 L F).known lim f args A = E.known lim f args A := by
  simp only [Env.famX, Env.with, h, Bool.false_eq_true, if_false]
theorem Env.famX_here {E : Env} {f0 L lim : Nat} {F : FamX} (i : F.ι) (hi : F.ok i) (hl : lim ≤ L) : (E.famX f0 L F).known lim f0 (F.args i) (F.rows i) = some (F.val i, F.out i) := by
  have he : ∃ j, F.ok j ∧ F.args i = F.args j ∧ F.rows i = F.rows j ∧ lim ≤ L := ⟨i, hi, rfl, rfl, hl⟩
  have h : F.K L lim (F.args i) (F.rows i) = some (F.val i, F.out i) := by
    unfold FamX.K
    rw [dif_pos he]
    obtain ⟨h1, h2, h3, _⟩ := Classical.choose_spec he
    obtain ⟨g1, g2⟩ := F.one _ _ hi h1 h2 h3
    rw [← g1, ← g2]
  simp only [Env.famX, Env.with, beq_self_eq_true, if_true, h]
end Go.Abs
/-
The rest of a call, with a slot that holds a round of a range over a function.
-/
namespace Go.Abs
open Go
/-- A slot may hold a round of a range over a function, too. -/
def SlotByY (g : Nat → Option Nat) (x y : Value) : Prop := SlotBy g x y ∨ ∃ i j, g i = some j ∧ x = .func (.yield i) #[] #[] ∧ y = .func (.yield j) #[] #[]
theorem SlotByY.sound {ρ ρ' : Loc} {g : Nat → Option Nat} {x y c : Value} (h : SlotByY g x y) (hg : ∀ i j, g i = some j → ρ' j = ρ i) (hv : VR ρ x c) : VR ρ' y c := by
  rcases h with h | ⟨i, j, h, rfl, rfl⟩
  · exact h.sound hg hv
  · cases hv with
    | atom ha => simp [atomB] at ha
    | func hy => simp [Fn.notYield] at hy
    | yield hL => exact .yield (by rw [hg i j h]; exact hL)
inductive SlotsY (g : Nat → Option Nat) : List Value → List Value → Prop
  | nil : SlotsY g [] []
  | no {v : Value} {l l2 : List Value} (h : boolB v = false) (t : SlotsY g l l2) : SlotsY g (v :: l) (junk :: l2)
  | ren {v x : Value} {l l2 : List Value} (h : vBy g 6 v = some x) (t : SlotsY g l l2) : SlotsY g (v :: l) (x :: l2)
  | free {v : Value} {l l2 : List Value} (h : freeB v = true) (t : SlotsY g l l2) : SlotsY g (v :: l) (v :: l2)
  | yld {i j : Nat} {l l2 : List Value} (h : g i = some j) (t : SlotsY g l l2) : SlotsY g (.func (.yield i) #[] #[] :: l) (.func (.yield j) #[] #[] :: l2)
theorem tget_cons_zero (v : Value) (l : List Value) : tget (v :: l) 0 = v := by rw [tget_eq]; rfl
theorem tget_cons_succ (v : Value) (l : List Value) (t : Nat) : tget (v :: l) (t + 1) = tget l t := by rw [tget_eq, tget_eq, List.getElem?_cons_succ]
theorem SlotsY.get {g : Nat → Option Nat} {l l2 : List Value} (h : SlotsY g l l2) : l2.length = l.length ∧ ∀ t, t < l2.length → SlotByY g (tget l t) (tget l2 t) := by
  induction h with
  | nil => exact ⟨rfl, fun t ht => by simp at ht⟩
  | no h _ ih => exact ⟨by simp [ih.1], fun t ht => by
      cases t with
      | zero => rw [tget_cons_zero, tget_cons_zero]; exact .inl (.inl ⟨rfl, h⟩)
      | succ t => rw [tget_cons_succ, tget_cons_succ]; exact ih.2 t (by simpa using ht)⟩
  | ren h _ ih => exact ⟨by simp [ih.1], fun t ht => by
      cases t with
      | zero => rw [tget_cons_zero, tget_cons_zero]; exact .inl (.inr (.inl h))
      | succ t => rw [tget_cons_succ, tget_cons_succ]; exact ih.2 t (by simpa using ht)⟩
  | free h _ ih => exact ⟨by simp [ih.1], fun t ht => by
      cases t with
      | zero => rw [tget_cons_zero, tget_cons_zero]; exact .inl (.inr (.inr ⟨rfl, h⟩))
      | succ t => rw [tget_cons_succ, tget_cons_succ]; exact ih.2 t (by simpa using ht)⟩
  | yld h _ ih => exact ⟨by simp [ih.1], fun t ht => by
      cases t with
      | zero => rw [tget_cons_zero, tget_cons_zero]; exact .inr ⟨_, _, h, rfl, rfl⟩
      | succ t => rw [tget_cons_succ, tget_cons_succ]; exact ih.2 t (by simpa using ht)⟩
theorem EndsA.renumC {P : Program} {G : Nat} {fn : Func} {A0 A1 : Heap} {v : Value} {l l2 : List Value} {todo : List It} {A B R : Heap} {ids : List Nat} (hB : B.length = A0.length) (hbase : ∀ i, i < A0.length → BaseBy (inNum A0.length ids) (hget A0 i) (hget A i) (hget B i)) (hids : ∀ i ∈ ids, A0.length ≤ i) (hnd : nodupB ids = true) (hl : SlotsY (inNum A0.length ids) l l2) (hrows : RowsBy (inNum A0.length ids) A ids R) (hm : fn.ntmps ≤ l2.length)
    (h : EndsA P G fn A0 v A1 todo l2 (B ++ R)) : EndsA P G fn A0 v A1 todo l A := by
  intro hok ρ0 ρ w0 w a b cs rs hro hG0 hR0 hS hR hM hmk hrs
  let ρ2 : Loc := fun i => if i < A0.length then ρ i else match ids[i - A0.length]? with | some j => ρ j | none => none
  have a1 : ∀ i, i < A0.length → ρ2 i = ρ i := fun i hi => by simp [ρ2, hi]
  have a2 : ∀ k j, ids[k]? = some j → ρ2 (A0.length + k) = ρ j := fun k j hk => by
    have : ¬ A0.length + k < A0.length := by omega
    simp only [ρ2, if_neg this, Nat.add_sub_cancel_left, hk]
  have hin : ∀ i j, inNum A0.length ids i = some j → ρ2 j = ρ i := by
    intro i j h
    unfold inNum at h
    split at h
    · rename_i hi; cases h; exact a1 _ hi
    · cases hp : place i ids with
      | none => rw [hp] at h; cases h
      | some k => rw [hp] at h; cases h; exact a2 k i (place_get hp)
  have hRl := hrows.length
  have trans : ∀ {x x1 x2 : Value}, VR ρ0 x x1 → VR ρ x x2 → VR ρ2 x x2 := fun h1 h2 => VR.transfer (fun i L hi => a1 i (by
    rcases Nat.lt_or_ge i A0.length with h | h
    · exact h
    · rw [hR0.sup i h] at hi; cases hi)) h1 h2
  have getA : ∀ i r, hget (B ++ R) i = some r → (i < A0.length ∧ hget A0 i = some r ∧ hget A i = some r) ∨ (∃ k j r0, i = A0.length + k ∧ ids[k]? = some j ∧ hget A j = some r0 ∧ RowBy (inNum A0.length ids) r0 r) ∨ (∃ r0, i < A0.length ∧ hget A i = some r0 ∧ RowBy (inNum A0.length ids) r0 r) := by
    intro i r hi
    rw [hget_append] at hi
    split at hi
    · rename_i hlt
      rw [hB] at hlt
      rcases hbase i hlt with ⟨h1, h2⟩ | ⟨r0, r2, h1, h2, h3⟩ | h1
      · rw [h2] at hi; rw [hi] at h1; exact .inl ⟨hlt, hi, h1⟩
      · rw [h2] at hi; cases hi; exact .inr (.inr ⟨r0, hlt, h1, h3⟩)
      · rw [h1] at hi; cases hi
    · rename_i hge
      obtain ⟨j, r0, h1, h2, h3⟩ := hrows.get hi
      rw [hB] at h1 hge
      exact .inr (.inl ⟨i - A0.length, j, r0, by omega, h1, h2, h3⟩)
  have hS2 : StR ρ2 fn.ntmps l2 a := by
    obtain ⟨hlen, hget⟩ := hl.get
    refine ⟨hS.size, fun t => ?_⟩
    by_cases ht : t < l2.length
    · exact (hget t ht).sound hin (hS.tmps t)
    · have h1 : tget l2 t = undef := by rw [tget_eq, List.getElem?_eq_none (by omega)]; rfl
      have h2 : a.tmps.getD t undef = undef := by
        rw [Array.getD_eq_getD_getElem?, Array.getElem?_eq_none (by rw [hS.size]; omega)]; rfl
      rw [h1, h2]
      exact VR.undef _
  have ge : ∀ {k j : Nat}, ids[k]? = some j → A0.length ≤ j := fun h => hids _ (List.mem_of_getElem? h)
  -- a row's number in A
  have src : ∀ i r L, hget (B ++ R) i = some r → ρ2 i = some L → ∃ j r0, hget A j = some r0 ∧ ρ j = some L ∧ r.isOwn = r0.isOwn ∧ ((i < A0.length ∧ j = i) ∨ ∃ k, i = A0.length + k ∧ ids[k]? = some j) := by
    intro i r L hi hL
    rcases getA i r hi with ⟨hlt, h1, h2⟩ | ⟨k, j, r0, rfl, hj, hg, hby⟩ | ⟨r0, hlt, hg, hby⟩
    · exact ⟨i, r, h2, by rw [← a1 i hlt]; exact hL, rfl, .inl ⟨hlt, rfl⟩⟩
    · exact ⟨j, r0, hg, by rw [← a2 k j hj]; exact hL, hby.own, .inr ⟨k, rfl, hj⟩⟩
    · exact ⟨i, r0, hg, by rw [← a1 i hlt]; exact hL, hby.own, .inl ⟨hlt, rfl⟩⟩
  have hR2 : Rel P ρ2 (B ++ R) w := by
    refine ⟨fun i hi => ?_, fun i r hi => ?_, fun i r L hi hL => ?_, fun i j r q L M hi hj hL hM' hne hr => ?_⟩
    · simp only [List.length_append, hRl, hB] at hi
      have h1 : ¬ i < A0.length := by omega
      have h2 : ids[i - A0.length]? = none := List.getElem?_eq_none (by omega)
      simp only [ρ2, if_neg h1, h2]
    · rcases getA i r hi with ⟨hlt, _, h2⟩ | ⟨k, j, r0, rfl, hj, hg, _⟩ | ⟨r0, hlt, hg, _⟩
      · rw [a1 i hlt]; exact hR.has i r h2
      · rw [a2 k j hj]; exact hR.has j r0 hg
      · rw [a1 i hlt]; exact hR.has i r0 hg
    · rcases getA i r hi with ⟨hlt, h1, h2⟩ | ⟨k, j, r0, rfl, hj, hg, hby⟩ | ⟨r0, hlt, hg, hby⟩
      · rw [a1 i hlt] at hL
        have hr2 := hR.row i r L h2 hL
        obtain ⟨L1, hL1, hr1⟩ := hR0.found h1
        cases r with
        | cells cs e use =>
          obtain ⟨cs', e', fz, b1, b2, b3, b4⟩ := hr2
          obtain ⟨ds', d', dz, c1, c2, c3, c4⟩ := hr1
          exact ⟨cs', e', fz, b1, fun o x hx => let ⟨x2, y1, y2⟩ := b2 o x hx; let ⟨x1, _, z2⟩ := c2 o x hx; ⟨x2, y1, trans z2 y2⟩, b3, b4⟩
        | iter s p => exact hr2
        | loop =>
          obtain ⟨t2, f2, d2, b1, b2, b3⟩ := hr2
          obtain ⟨t1, f1, d1, c1, c2, _⟩ := hr1
          exact ⟨t2, f2, d2, b1, fun k => trans (c2 k) (b2 k), b3⟩
        | map =>
          obtain ⟨es2, b1, b2, b3⟩ := hr2
          obtain ⟨es1, c1, c2, c3⟩ := hr1
          exact ⟨es2, b1, b2, fun k key val born hk => let ⟨e2, y1, y2, y3, y4⟩ := b3 k key val born hk; let ⟨e1, _, _, _, z4⟩ := c3 k key val born hk; ⟨e2, y1, y2, y3, trans z4 y4⟩⟩
        | miter =>
          obtain ⟨o2, M2, b1, b2⟩ := hr2
          obtain ⟨_, M1, c1, _⟩ := hr1
          obtain ⟨L3, hL3, he⟩ := (trans (VR.ptr (o := 0) c1) (VR.ptr (o := 0) b1)).ptr_inv
          have he' : M2.blk = L3.blk := by simp only [Value.pointer.injEq, Option.some.injEq, Addr.mk.injEq] at he; exact he.1
          exact ⟨o2, L3, hL3, by rw [← he']; exact b2⟩
      · rw [a2 k j hj] at hL
        exact hby.ok hin (hR.row j r0 L hg hL)
      · rw [a1 i hlt] at hL
        exact hby.ok hin (hR.row i r0 L hg hL)
    · obtain ⟨i', r0, h1, h2, h3, h4⟩ := src i r L hi hL
      obtain ⟨j', q0, g1, g2, g3, g4⟩ := src j q M hj hM'
      refine hR.sep i' j' r0 q0 L M h1 g1 h2 g2 ?_ (h3 ▸ hr)
      intro e
      apply hne
      rcases h4 with ⟨x1, x2⟩ | ⟨k, x1, x2⟩ <;> rcases g4 with ⟨y1, y2⟩ | ⟨k', y1, y2⟩
      · rw [← x2, ← y2]; exact e
      · have := ge y2; omega
      · have := ge x2; omega
      · subst e
        have := nodup_get hnd k k' i' x2 y2
        omega
  have hM2 : Moves ρ0 A0 w0 ρ2 (B ++ R) w := by
    refine ⟨fun i L hi => ?_, by simp [hB], fun i hi => (a1 i hi).trans (hM.same i hi), hM.size, hM.frame, fun i r L hi hL => ?_, hM.out, hM.loops⟩
    · have hlt : i < A0.length := by
        rcases Nat.lt_or_ge i A0.length with h | h
        · exact h
        · rw [hR0.sup i h] at hi; cases hi
      rw [a1 i hlt]; exact hM.pre i L hi
    · obtain ⟨j, r0, h1, h2, h3, h4⟩ := src i r L hi hL
      rcases hM.rows j r0 L h1 h2 with ⟨hlt, r', g1, g2⟩ | h5 | h5
      · rcases h4 with ⟨x1, rfl⟩ | ⟨k, _, x2⟩
        · exact .inl ⟨x1, r', g1, fun ho => g2 (h3 ▸ ho)⟩
        · have := ge x2; omega
      · exact .inr (.inl h5)
      · exact .inr (.inr h5)
  exact h hok ρ0 ρ2 w0 w a b cs rs hro hG0 hR0 hS2 hR2 hM2 hmk hrs
theorem Runs.nil {P : Program} {E : Env} {lim : Nat} {l : List Value} {A : Heap} : Runs P E lim [] l A (l, A, none) := ⟨1, rfl⟩
end Go.Abs
/-
Loops whose rounds are known: counted, and searching.
-/
namespace Go.Abs
open Go
section
variable {P : Program} {E : Env} {lim id : Nat} {c : Code} {n : Nat}
/-- A loop of n rounds. -/
theorem loop_seq (S : Nat → List Value → Heap → Prop) (T : List Value → Heap → Prop)
    (hA : ∀ i, i < n → ∀ l A, S i l A → ∃ l' A', S (i + 1) l' A' ∧ Runs P E lim [.code c] l A (l', A', none))
    (hC : ∀ l A, S n l A → ∃ l' A', T l' A' ∧ Runs P E lim [.code c, .inLoop c, .inBlock id] l A (l', A', none)) :
    ∀ d i, i + d = n → ∀ l A, S i l A → ∃ l' A', T l' A' ∧ Runs P E lim [.inLoop c, .inBlock id] l A (l', A', none)
  | 0, i, hi, l, A, h => by
    obtain rfl : i = n := hi
    obtain ⟨l', A', h1, h2⟩ := hC l A h
    exact ⟨l', A', h1, Runs.inLoop h2⟩
  | d + 1, i, hi, l, A, h => by
    obtain ⟨l1, A1, h1, h2⟩ := hA i (by omega) l A h
    obtain ⟨l2, A2, h3, h4⟩ := loop_seq S T hA hC d (i + 1) (by omega) l1 A1 h1
    exact ⟨l2, A2, h3, Runs.loopAgain h2 h4⟩
/-- A loop that is left at the first round with a property, by a return. -/
theorem loop_find (p : Nat → Bool) (S R : Nat → List Value → Heap → Prop) (T : List Value → Heap → Prop)
    (hA : ∀ i, i < n → p i = false → ∀ l A, S i l A → ∃ l' A', S (i + 1) l' A' ∧ Runs P E lim [.code c] l A (l', A', none))
    (hB : ∀ i, i < n → p i = true → ∀ l A, S i l A → ∃ l' A', R i l' A' ∧ Runs P E lim [.code c, .inLoop c, .inBlock id] l A (l', A', some .ret))
    (hC : ∀ l A, S n l A → ∃ l' A', T l' A' ∧ Runs P E lim [.code c, .inLoop c, .inBlock id] l A (l', A', none)) :
    ∀ d i, i + d = n → ∀ l A, S i l A →
      (∃ k l' A', i ≤ k ∧ k < n ∧ (∀ j, i ≤ j → j < k → p j = false) ∧ p k = true ∧ R k l' A' ∧ Runs P E lim [.inLoop c, .inBlock id] l A (l', A', some .ret)) ∨
      ((∀ j, i ≤ j → j < n → p j = false) ∧ ∃ l' A', T l' A' ∧ Runs P E lim [.inLoop c, .inBlock id] l A (l', A', none))
  | 0, i, hi, l, A, h => by
    obtain rfl : i = n := hi
    obtain ⟨l', A', h1, h2⟩ := hC l A h
    exact .inr ⟨fun j h1 h2 => by omega, l', A', h1, Runs.inLoop h2⟩
  | d + 1, i, hi, l, A, h => by
    cases hp : p i with
    | true =>
      obtain ⟨l', A', h1, h2⟩ := hB i (by omega) hp l A h
      exact .inl ⟨i, l', A', Nat.le_refl _, by omega, fun j h3 h4 => by omega, hp, h1, Runs.inLoop h2⟩
    | false =>
      obtain ⟨l1, A1, h1, h2⟩ := hA i (by omega) hp l A h
      rcases loop_find p S R T hA hB hC d (i + 1) (by omega) l1 A1 h1 with ⟨k, l', A', k1, k2, k3, k4, k5, k6⟩ | ⟨k1, l', A', k2, k3⟩
      · exact .inl ⟨k, l', A', by omega, k2, fun j j1 j2 => by
          by_cases hj : j = i
          · subst hj; exact hp
          · exact k3 j (by omega) j2, k4, k5, Runs.loopAgain h2 k6⟩
      · exact .inr ⟨fun j j1 j2 => by
          by_cases hj : j = i
          · subst hj; exact hp
          · exact k1 j (by omega) j2, l', A', k2, Runs.loopAgain h2 k3⟩
end
/-- A block with a loop. -/
theorem Runs.blkLoop {P : Program} {E : Env} {lim id : Nat} {c0 c : Code} {l : List Value} {A : Heap} {r : List Value × Heap × Option Code} (hb : c0 = .block id (.loop c)) (h : Runs P E lim [.inLoop c, .inBlock id] l A r) : Runs P E lim [.code c0] l A r := by
  rw [hb]; exact Runs.ofLoop h
end Go.Abs
namespace Go.Abs
open Go
/-- The first number from i on, of d, with a property. -/
def firstP (p : Nat → Bool) : Nat → Nat → Option Nat
  | _, 0 => none
  | i, d + 1 => if p i then some i else firstP p (i + 1) d
theorem firstP_congr {p q : Nat → Bool} : ∀ {d i : Nat}, (∀ j, i ≤ j → j < i + d → p j = q j) → firstP p i d = firstP q i d
  | 0, _, _ => rfl
  | d + 1, i, h => by
    simp only [firstP]
    rw [h i (Nat.le_refl _) (by omega), firstP_congr (d := d) (i := i + 1) fun j h1 h2 => h j (by omega) (by omega)]
theorem firstP_some {p : Nat → Bool} : ∀ {d i k : Nat}, firstP p i d = some k → i ≤ k ∧ k < i + d ∧ p k = true ∧ ∀ j, i ≤ j → j < k → p j = false
  | 0, _, _, h => by cases h
  | d + 1, i, k, h => by
    simp only [firstP] at h
    cases hp : p i with
    | true => rw [hp] at h; cases h; exact ⟨Nat.le_refl _, by omega, hp, fun j h1 h2 => by omega⟩
    | false =>
      rw [hp] at h
      obtain ⟨h1, h2, h3, h4⟩ := firstP_some (by simpa using h)
      exact ⟨by omega, by omega, h3, fun j j1 j2 => by
        by_cases hj : j = i
        · subst hj; exact hp
        · exact h4 j (by omega) j2⟩
theorem firstP_none {p : Nat → Bool} : ∀ {d i : Nat}, firstP p i d = none → ∀ j, i ≤ j → j < i + d → p j = false
  | 0, _, _, _, _, _ => by omega
  | d + 1, i, h, j, j1, j2 => by
    simp only [firstP] at h
    cases hp : p i with
    | true => rw [hp] at h; cases h
    | false =>
      rw [hp] at h
      by_cases hj : j = i
      · subst hj; exact hp
      · exact firstP_none (d := d) (i := i + 1) (by simpa using h) j (by omega) (by omega)
section
variable {P : Program} {E : Env} {lim id : Nat} {c : Code} {n : Nat}
/-- A loop that is left at the first round with a property. -/
theorem loop_first (p : Nat → Bool) (S R : Nat → List Value → Heap → Prop) (T : List Value → Heap → Prop)
    (hA : ∀ i, i < n → p i = false → ∀ l A, S i l A → ∃ l' A', S (i + 1) l' A' ∧ Runs P E lim [.code c] l A (l', A', none))
    (hB : ∀ i, i < n → p i = true → ∀ l A, S i l A → ∃ l' A', R i l' A' ∧ Runs P E lim [.code c, .inLoop c, .inBlock id] l A (l', A', some .ret))
    (hC : ∀ l A, S n l A → ∃ l' A', T l' A' ∧ Runs P E lim [.code c, .inLoop c, .inBlock id] l A (l', A', none))
    {l : List Value} {A : Heap} (h : S 0 l A) :
      (∃ k l' A', firstP p 0 n = some k ∧ R k l' A' ∧ Runs P E lim [.inLoop c, .inBlock id] l A (l', A', some .ret)) ∨
      (firstP p 0 n = none ∧ ∃ l' A', T l' A' ∧ Runs P E lim [.inLoop c, .inBlock id] l A (l', A', none)) := by
  rcases loop_find p S R T hA hB hC n 0 (Nat.zero_add _) l A h with ⟨k, l', A', _, k2, k3, k4, k5, k6⟩ | ⟨k1, l', A', k2, k3⟩
  · refine .inl ⟨k, l', A', ?_, k5, k6⟩
    cases hf : firstP p 0 n with
    | none => have := firstP_none hf k (Nat.zero_le _) (by omega); rw [k4] at this; cases this
    | some j =>
      obtain ⟨j1, j2, j3, j4⟩ := firstP_some hf
      rcases Nat.lt_trichotomy j k with hlt | rfl | hgt
      · have := k3 j j1 hlt; rw [j3] at this; cases this
      · rfl
      · have := j4 k (Nat.zero_le _) hgt; rw [k4] at this; cases this
  · refine .inr ⟨?_, l', A', k2, k3⟩
    cases hf : firstP p 0 n with
    | none => rfl
    | some j =>
      obtain ⟨j1, j2, j3, j4⟩ := firstP_some hf
      have := k1 j j1 (by omega); rw [j3] at this; cases this
end
/-- Bools, as cells. -/
def bls (l : List Bool) : List Value := l.map .bool
theorem bls_len (l : List Bool) : (bls l).length = l.length := by simp [bls]
theorem bls_get {l : List Bool} {k : Nat} (h : k < l.length) : (bls l)[k]? = some (.bool (l.getD k false)) := by simp [bls, h]
theorem bls_atoms (l : List Bool) : (bls l).all atomB = true := by
  rw [List.all_eq_true]
  intro v hv
  obtain ⟨x, _, rfl⟩ := List.mem_map.1 hv
  rfl
theorem bls_inj : ∀ {l m : List Bool}, bls l = bls m → l = m
  | [], [], _ => rfl
  | [], _ :: _, h => by simp [bls] at h
  | _ :: _, [], h => by simp [bls] at h
  | a :: l, b :: m, h => by
    simp only [bls, List.map_cons, List.cons.injEq, Value.bool.injEq] at h
    rw [h.1, bls_inj (l := l) (m := m) h.2]
theorem ld_bool {P : Program} {t : TypeId} (ht : P.underlying t = some .bool) {A : Heap} {r k : Nat} {e : Nat} {u : Use} {l : List Bool} (hr : hget A r = some (.cells (bls l) e u)) (hk : k < l.length) : aLoad P t (.pointer (some ⟨r, k, none⟩)) A = some (.bool (l.getD k false)) := by
  simp only [aLoad, hr, aPart, ht, descAgg, Bool.false_eq_true, if_false]
  exact bls_get hk
/-- How many of the first k are true. -/
def cntB (l : List Bool) (k : Nat) : Nat := (l.take k).count true
theorem cntB_zero (l : List Bool) : cntB l 0 = 0 := by simp [cntB]
theorem cntB_succ {l : List Bool} {k : Nat} (h : k < l.length) : cntB l (k + 1) = cntB l k + if l.getD k false then 1 else 0 := by
  unfold cntB
  rw [List.take_succ_eq_append_getElem h, List.count_append]
  have : l.getD k false = l[k] := by simp [h]
  rw [this]
  cases l[k] <;> simp
theorem cntB_le (l : List Bool) (k : Nat) : cntB l k ≤ k := Nat.le_trans List.count_le_length (by simp; omega)
end Go.Abs
/-
The best pairing of the units of the examples, piece by piece.
-/
namespace Go.Proofs.YtinkgnklhcjejaaGreat
open Go Go.Abs
def codeBq_0 : Code := (.block (3) (.seq (.region (10) (#[{ dst := some 31, op := Op.move (Operand.tmp 10), type := 103, pos := "pairs.go:100", after := #[], guard := none }, { dst := some 32, op := Op.load 209 (Operand.tmp 9), type := 209, pos := "pairs.go:100", after := #[], guard := none }, { dst := some 33, op := Op.call { callee := Callee.value (Operand.func 173), args := #[Operand.tmp 31, Operand.tmp 32], argTypes := #[103, 209] }, type := 4, pos := "pairs.go:100", after := #[{ on := 0, ground := Ground.data }, { on := 1, ground := Ground.data }], guard := none }, { dst := some 34, op := Op.unOp UnOp.not 4 (Operand.tmp 33), type := 4, pos := "pairs.go:100", after := #[{ on := 2, ground := Ground.data }], guard := none }]) false) (.cond (Go.Operand.tmp (34)) (.seq (.region (11) (#[{ dst := some 35, op := Op.move (Operand.tmp 10), type := 103, pos := "pairs.go:101", after := #[], guard := none }, { dst := some 36, op := Op.load 3 (Operand.tmp 7), type := 3, pos := "pairs.go:101", after := #[{ on := 2, ground := Ground.gcOnly Departure.lateStores }], guard := none }, { dst := none, op := Op.store 103 (Operand.tmp 4) (Operand.tmp 35), type := 0, pos := "pairs.go:101", after := #[{ on := 0, ground := Ground.data }, { on := 0, ground := Ground.phase }, { on := 1, ground := Ground.textOnly Departure.lateStores }], guard := none }, { dst := none, op := Op.store 3 (Operand.tmp 5) (Operand.tmp 36), type := 0, pos := "pairs.go:101", after := #[{ on := 1, ground := Ground.data }, { on := 2, ground := Ground.chain }, { on := 0, ground := Ground.phase }, { on := 1, ground := Ground.phase }, { on := 2, ground := Ground.phase }], guard := none }]) true) (.exit (0))) .skip)))
def codeBq_1 : Code := (.block (3) (.seq (.region (9) (#[{ dst := some 36, op := Op.load 238 (Operand.tmp 2), type := 238, pos := "pairs.go:83", after := #[], guard := none }, { dst := some 37, op := Op.load 26 (Operand.tmp 4), type := 26, pos := "pairs.go:83", after := #[], guard := none }, { dst := some 38, op := Op.buildSlice 103 1 #[(0, Operand.tmp 37)], type := 103, pos := "pairs.go:83", after := #[{ on := 1, ground := Ground.data }], guard := none }, { dst := some 39, op := Op.move (Operand.tmp 5), type := 103, pos := "pairs.go:83", after := #[], guard := none }, { dst := some 40, op := Op.buildSlice 253 2 #[(0, Operand.tmp 38), (1, Operand.tmp 39)], type := 253, pos := "pairs.go:83", after := #[{ on := 2, ground := Ground.data }, { on := 3, ground := Ground.data }], guard := none }, { dst := some 41, op := Op.call { callee := Callee.value (Operand.func 197), args := #[Operand.tmp 40], argTypes := #[253] }, type := 103, pos := "pairs.go:83", after := #[{ on := 4, ground := Ground.data }], guard := none }, { dst := some 42, op := Op.call { callee := Callee.value (Operand.tmp 36), args := #[Operand.tmp 41], argTypes := #[103] }, type := 4, pos := "pairs.go:83", after := #[{ on := 0, ground := Ground.data }, { on := 5, ground := Ground.data }, { on := 5, ground := Ground.chain }], guard := none }, { dst := some 43, op := Op.unOp UnOp.not 4 (Operand.tmp 42), type := 4, pos := "pairs.go:83", after := #[{ on := 6, ground := Ground.data }], guard := none }]) true) (.cond (Go.Operand.tmp (43)) .ret .skip)))
noncomputable def rowBq_0 : Option ARow := (.some (.loop [(sl 4 0 4 4), U, sn, I 0, (pt 5 0), (pt 6 0), U, (pt 244 0), (pt 246 0), (pt 247 0), U, (sl 4 0 4 4), (sl 4 0 4 4), I 4, (sl 7 0 6 6), (sl 8 0 7 7), I 7, I 4, (.bool true), (pt 8 4), I 18, (sl 4 0 4 4), I 18, I 19, (sl 245 0 4 4), (.func (.func 169) #[] #[(pt 246 0)]), (sl 4 0 4 4), I 4, (sl 248 0 4 4), (.func (.func 196) #[] #[(pt 249 0)]), U, U, U, U, U, U, U, I 4, U, U] #[30] (.region (9) (#[{ dst := some 10, op := Op.assign (Operand.tmp 30), type := 103, pos := "pairs.go:99", after := #[], guard := none }]) false) codeBq_0 .exhausted (.some (.exit (0)))))
noncomputable def rowBq_1 : Option ARow := (.some (.loop [(sl 4 0 4 4), U, sn, I 0, (pt 5 0), (pt 6 0), U, (pt 126 0), (pt 128 0), (pt 129 0), U, (sl 4 0 4 4), (sl 4 0 4 4), I 4, (sl 7 0 6 6), (sl 8 0 7 7), I 7, I 2, (.bool true), (pt 8 2), I 6, (sl 4 0 4 4), I 6, I 7, (sl 127 0 3 3), (.func (.func 169) #[] #[(pt 128 0)]), (sl 4 0 4 4), I 4, (sl 130 0 4 4), (.func (.func 196) #[] #[(pt 131 0)]), U, U, U, U, U, U, U, I 2, U, U] #[30] (.region (9) (#[{ dst := some 10, op := Op.assign (Operand.tmp 30), type := 103, pos := "pairs.go:99", after := #[], guard := none }]) false) codeBq_0 .exhausted .none))
noncomputable def rowBq_2 : Option ARow := (.some (.loop [(sl 4 0 4 4), U, sn, I 0, (pt 5 0), (pt 6 0), U, (pt 185 0), (pt 187 0), (pt 188 0), U, (sl 4 0 4 4), (sl 4 0 4 4), I 4, (sl 7 0 6 6), (sl 8 0 7 7), I 7, I 3, (.bool true), (pt 8 3), I 6, (sl 4 0 4 4), I 6, I 7, (sl 186 0 3 3), (.func (.func 169) #[] #[(pt 187 0)]), (sl 4 0 4 4), I 4, (sl 189 0 4 4), (.func (.func 196) #[] #[(pt 190 0)]), U, U, U, U, U, U, U, I 3, U, U] #[30] (.region (9) (#[{ dst := some 10, op := Op.assign (Operand.tmp 30), type := 103, pos := "pairs.go:99", after := #[], guard := none }]) false) codeBq_0 .exhausted .none))
noncomputable def rowBq_3 : Option ARow := (.some (.loop [(sl 4 0 4 4), U, sn, I 0, (pt 5 0), (pt 6 0), U, (pt 67 0), (pt 69 0), (pt 70 0), U, (sl 4 0 4 4), (sl 4 0 4 4), I 4, (sl 7 0 6 6), (sl 8 0 7 7), I 7, I 1, (.bool true), (pt 8 1), I 2, (sl 4 0 4 4), I 2, I 3, (sl 68 0 1 1), (.func (.func 169) #[] #[(pt 69 0)]), (sl 4 0 4 4), I 4, (sl 71 0 4 4), (.func (.func 196) #[] #[(pt 72 0)]), U, U, U, U, U, U, U, I 1, U, U] #[30] (.region (9) (#[{ dst := some 10, op := Op.assign (Operand.tmp 30), type := 103, pos := "pairs.go:99", after := #[], guard := none }]) false) codeBq_0 .exhausted .none))
noncomputable def rowBq_4 : Option ARow := (.some (.loop ([(sl 4 0 4 4), U, sn, I 0, (pt 5 0), (pt 6 0), U, (pt 9 0), (pt 10 0), (pt 11 0), U, (sl 4 0 4 4), (sl 4 0 4 4), I 4, (sl 7 0 6 6), (sl 8 0 7 7), I 7, I 0, (.bool true), (pt 8 0), I 0, (sl 4 0 4 4), I 0, I 1, sn, (.func (.func 169) #[] #[(pt 10 0)]), (sl 4 0 4 4), I 4, (sl 12 0 4 4), (.func (.func 196) #[] #[(pt 13 0)])] ++ us 10) #[30] (.region (9) (#[{ dst := some 10, op := Op.assign (Operand.tmp 30), type := 103, pos := "pairs.go:99", after := #[], guard := none }]) false) codeBq_0 .exhausted .none))
noncomputable def rowBq_5 : Option ARow := (.some (.loop ([(.func (.yield 250) #[] #[]), (pt 249 0), (pt 251 0), I 2, (pt 269 0), U, (sl 248 0 4 4), I 4, (.bool false), U, U, I 2, (sl 248 0 4 4), I 4, (.bool true), I 1, I 2, (sl 248 0 4 4), (pt 248 0), I 0, (sl 248 0 4 4), I 2, (pt 248 2), I 2, (g2 0 2), (sl 248 0 4 4), I 2, (sl 248 1 1 1), (sl 248 0 4 4), I 2, I 3, (sl 248 3 1 1), (sl 270 0 2 2), (sl 271 0 2 2), (.func (.func 196) #[] #[(pt 272 0)])] ++ us 9) #[35] (.region (8) (#[{ dst := some 5, op := Op.assign (Operand.tmp 35), type := 103, pos := "pairs.go:82", after := #[], guard := none }]) false) codeBq_1 .exhausted (.some .ret)))
noncomputable def rowBq_6 : Option ARow := (.some (.loop ([(.func (.yield 132) #[] #[]), (pt 131 0), (pt 133 0), I 2, (pt 151 0), U, (sl 130 0 4 4), I 4, (.bool false), U, U, I 2, (sl 130 0 4 4), I 4, (.bool true), I 1, I 2, (sl 130 0 4 4), (pt 130 0), I 0, (sl 130 0 4 4), I 2, (pt 130 2), I 2, (g2 0 2), (sl 130 0 4 4), I 2, (sl 130 1 1 1), (sl 130 0 4 4), I 2, I 3, (sl 130 3 1 1), (sl 152 0 2 2), (sl 153 0 2 2), (.func (.func 196) #[] #[(pt 154 0)])] ++ us 9) #[35] (.region (8) (#[{ dst := some 5, op := Op.assign (Operand.tmp 35), type := 103, pos := "pairs.go:82", after := #[], guard := none }]) false) codeBq_1 .exhausted .none))
noncomputable def rowBq_7 : Option ARow := (.some (.loop ([(.func (.yield 132) #[] #[]), (pt 131 0), (pt 133 0), I 3, (pt 168 0), U, (sl 130 0 4 4), I 4, (.bool false), U, U, I 3, (sl 130 0 4 4), I 4, (.bool true), I 2, I 3, (sl 130 0 4 4), (pt 130 0), I 0, (sl 130 0 4 4), I 3, (pt 130 3), I 3, (g2 0 3), (sl 130 0 4 4), I 3, (sl 130 1 2 2), (sl 130 0 4 4), I 3, I 4, (sl 130 4 0 0), (sl 169 0 2 2), (sl 170 0 2 2), (.func (.func 196) #[] #[(pt 171 0)])] ++ us 9) #[35] (.region (8) (#[{ dst := some 5, op := Op.assign (Operand.tmp 35), type := 103, pos := "pairs.go:82", after := #[], guard := none }]) false) codeBq_1 .exhausted .none))
noncomputable def rowBq_8 : Option ARow := (.some (.loop ([(.func (.yield 191) #[] #[]), (pt 190 0), (pt 192 0), I 2, (pt 210 0), U, (sl 189 0 4 4), I 4, (.bool false), U, U, I 2, (sl 189 0 4 4), I 4, (.bool true), I 1, I 2, (sl 189 0 4 4), (pt 189 0), I 0, (sl 189 0 4 4), I 2, (pt 189 2), I 2, (g2 0 2), (sl 189 0 4 4), I 2, (sl 189 1 1 1), (sl 189 0 4 4), I 2, I 3, (sl 189 3 1 1), (sl 211 0 2 2), (sl 212 0 2 2), (.func (.func 196) #[] #[(pt 213 0)])] ++ us 9) #[35] (.region (8) (#[{ dst := some 5, op := Op.assign (Operand.tmp 35), type := 103, pos := "pairs.go:82", after := #[], guard := none }]) false) codeBq_1 .exhausted .none))
noncomputable def rowBq_9 : Option ARow := (.some (.loop ([(.func (.yield 191) #[] #[]), (pt 190 0), (pt 192 0), I 3, (pt 227 0), U, (sl 189 0 4 4), I 4, (.bool false), U, U, I 3, (sl 189 0 4 4), I 4, (.bool true), I 2, I 3, (sl 189 0 4 4), (pt 189 0), I 0, (sl 189 0 4 4), I 3, (pt 189 3), I 3, (g2 0 3), (sl 189 0 4 4), I 3, (sl 189 1 2 2), (sl 189 0 4 4), I 3, I 4, (sl 189 4 0 0), (sl 228 0 2 2), (sl 229 0 2 2), (.func (.func 196) #[] #[(pt 230 0)])] ++ us 9) #[35] (.region (8) (#[{ dst := some 5, op := Op.assign (Operand.tmp 35), type := 103, pos := "pairs.go:82", after := #[], guard := none }]) false) codeBq_1 .exhausted .none))
noncomputable def rowBq_10 : Option ARow := (.some (.loop ([(.func (.yield 73) #[] #[]), (pt 72 0), (pt 74 0), I 3, (pt 109 0), U, (sl 71 0 4 4), I 4, (.bool false), U, U, I 3, (sl 71 0 4 4), I 4, (.bool true), I 2, I 3, (sl 71 0 4 4), (pt 71 0), I 0, (sl 71 0 4 4), I 3, (pt 71 3), I 3, (g2 0 3), (sl 71 0 4 4), I 3, (sl 71 1 2 2), (sl 71 0 4 4), I 3, I 4, (sl 71 4 0 0), (sl 110 0 2 2), (sl 111 0 2 2), (.func (.func 196) #[] #[(pt 112 0)])] ++ us 9) #[35] (.region (8) (#[{ dst := some 5, op := Op.assign (Operand.tmp 35), type := 103, pos := "pairs.go:82", after := #[], guard := none }]) false) codeBq_1 .exhausted .none))
noncomputable def rowBq_11 : Option ARow := (.some (.loop ([(.func (.yield 14) #[] #[]), (pt 13 0), (pt 15 0), I 2, (pt 33 0), U, (sl 12 0 4 4), I 4, (.bool false), U, U, I 2, (sl 12 0 4 4), I 4, (.bool true), I 1, I 2, (sl 12 0 4 4), (pt 12 0), I 0, (sl 12 0 4 4), I 2, (pt 12 2), I 2, (g2 0 2), (sl 12 0 4 4), I 2, (sl 12 1 1 1), (sl 12 0 4 4), I 2, I 3, (sl 12 3 1 1), (sl 34 0 2 2), (sl 35 0 2 2), (.func (.func 196) #[] #[(pt 36 0)])] ++ us 9) #[35] (.region (8) (#[{ dst := some 5, op := Op.assign (Operand.tmp 35), type := 103, pos := "pairs.go:82", after := #[], guard := none }]) false) codeBq_1 .exhausted .none))
noncomputable def rowBq_12 : Option ARow := (.some (.loop ([(.func (.yield 14) #[] #[]), (pt 13 0), (pt 15 0), I 3, (pt 50 0), U, (sl 12 0 4 4), I 4, (.bool false), U, U, I 3, (sl 12 0 4 4), I 4, (.bool true), I 2, I 3, (sl 12 0 4 4), (pt 12 0), I 0, (sl 12 0 4 4), I 3, (pt 12 3), I 3, (g2 0 3), (sl 12 0 4 4), I 3, (sl 12 1 2 2), (sl 12 0 4 4), I 3, I 4, (sl 12 4 0 0), (sl 51 0 2 2), (sl 52 0 2 2), (.func (.func 196) #[] #[(pt 53 0)])] ++ us 9) #[35] (.region (8) (#[{ dst := some 5, op := Op.assign (Operand.tmp 35), type := 103, pos := "pairs.go:82", after := #[], guard := none }]) false) codeBq_1 .exhausted .none))
noncomputable def rowBq_13 : Option ARow := (.some (.loop ([(.func (.yield 73) #[] #[]), (pt 72 0), (pt 74 0), I 2, (pt 92 0), U, (sl 71 0 4 4), I 4, (.bool false), U, U, I 2, (sl 71 0 4 4), I 4, (.bool true), I 1, I 2, (sl 71 0 4 4), (pt 71 0), I 0, (sl 71 0 4 4), I 2, (pt 71 2), I 2, (g2 0 2), (sl 71 0 4 4), I 2, (sl 71 1 1 1), (sl 71 0 4 4), I 2, I 3, (sl 71 3 1 1), (sl 93 0 2 2), (sl 94 0 2 2), (.func (.func 196) #[] #[(pt 95 0)])] ++ us 9) #[35] (.region (8) (#[{ dst := some 5, op := Op.assign (Operand.tmp 35), type := 103, pos := "pairs.go:82", after := #[], guard := none }]) false) codeBq_1 .exhausted .none))
noncomputable def rowBq_14 : Option ARow := (.some (.loop ([(.func (.yield 132) #[] #[]), (pt 131 0), (pt 133 0), I 1, (pt 134 0), U, (sl 130 0 4 4), I 4, (.bool false), U, U, I 1, (sl 130 0 4 4), I 4, (.bool true), U, U, (sl 130 0 4 4), (pt 130 0), I 0, (sl 130 0 4 4), I 1, (pt 130 1), I 1, (g2 0 1), (sl 130 0 4 4), I 1, (sl 130 1 0 0), (sl 130 0 4 4), I 1, I 2, (sl 130 2 2 2), (sl 135 0 2 2), (sl 136 0 2 2), (.func (.func 196) #[] #[(pt 137 0)])] ++ us 9) #[35] (.region (8) (#[{ dst := some 5, op := Op.assign (Operand.tmp 35), type := 103, pos := "pairs.go:82", after := #[], guard := none }]) false) codeBq_1 .exhausted .none))
noncomputable def rowBq_15 : Option ARow := (.some (.loop ([(.func (.yield 191) #[] #[]), (pt 190 0), (pt 192 0), I 1, (pt 193 0), U, (sl 189 0 4 4), I 4, (.bool false), U, U, I 1, (sl 189 0 4 4), I 4, (.bool true), U, U, (sl 189 0 4 4), (pt 189 0), I 0, (sl 189 0 4 4), I 1, (pt 189 1), I 1, (g2 0 1), (sl 189 0 4 4), I 1, (sl 189 1 0 0), (sl 189 0 4 4), I 1, I 2, (sl 189 2 2 2), (sl 194 0 2 2), (sl 195 0 2 2), (.func (.func 196) #[] #[(pt 196 0)])] ++ us 9) #[35] (.region (8) (#[{ dst := some 5, op := Op.assign (Operand.tmp 35), type := 103, pos := "pairs.go:82", after := #[], guard := none }]) false) codeBq_1 .exhausted .none))
noncomputable def rowBq_16 : Option ARow := (.some (.loop ([(.func (.yield 250) #[] #[]), (pt 249 0), (pt 251 0), I 1, (pt 252 0), U, (sl 248 0 4 4), I 4, (.bool false), U, U, I 1, (sl 248 0 4 4), I 4, (.bool true), U, U, (sl 248 0 4 4), (pt 248 0), I 0, (sl 248 0 4 4), I 1, (pt 248 1), I 1, (g2 0 1), (sl 248 0 4 4), I 1, (sl 248 1 0 0), (sl 248 0 4 4), I 1, I 2, (sl 248 2 2 2), (sl 253 0 2 2), (sl 254 0 2 2), (.func (.func 196) #[] #[(pt 255 0)])] ++ us 9) #[35] (.region (8) (#[{ dst := some 5, op := Op.assign (Operand.tmp 35), type := 103, pos := "pairs.go:82", after := #[], guard := none }]) false) codeBq_1 .exhausted .none))
noncomputable def rowBq_17 : Option ARow := (.some (.loop ([(.func (.yield 273) #[] #[]), (pt 272 0), (pt 274 0), I 1, (pt 275 0), U, (sl 271 0 2 2), I 2, (.bool false), U, U, I 1, (sl 271 0 2 2), I 2, (.bool true), U, U, (sl 271 0 2 2), (pt 271 0), I 1, (sl 271 0 2 2), I 1, (pt 271 1), I 3, (g2 1 3), (sl 271 0 2 2), I 1, (sl 271 1 0 0), (sl 271 0 2 2), I 1, I 2, (sl 271 2 0 0), (sl 276 0 2 2), sn, (.func (.func 196) #[] #[(pt 277 0)])] ++ us 9) #[35] (.region (8) (#[{ dst := some 5, op := Op.assign (Operand.tmp 35), type := 103, pos := "pairs.go:82", after := #[], guard := none }]) false) codeBq_1 .exhausted (.some .ret)))
noncomputable def rowBq_18 : Option ARow := (.some (.loop ([(.func (.yield 14) #[] #[]), (pt 13 0), (pt 15 0), I 1, (pt 16 0), U, (sl 12 0 4 4), I 4, (.bool false), U, U, I 1, (sl 12 0 4 4), I 4, (.bool true), U, U, (sl 12 0 4 4), (pt 12 0), I 0, (sl 12 0 4 4), I 1, (pt 12 1), I 1, (g2 0 1), (sl 12 0 4 4), I 1, (sl 12 1 0 0), (sl 12 0 4 4), I 1, I 2, (sl 12 2 2 2), (sl 17 0 2 2), (sl 18 0 2 2), (.func (.func 196) #[] #[(pt 19 0)])] ++ us 9) #[35] (.region (8) (#[{ dst := some 5, op := Op.assign (Operand.tmp 35), type := 103, pos := "pairs.go:82", after := #[], guard := none }]) false) codeBq_1 .exhausted .none))
noncomputable def rowBq_19 : Option ARow := (.some (.loop ([(.func (.yield 73) #[] #[]), (pt 72 0), (pt 74 0), I 1, (pt 75 0), U, (sl 71 0 4 4), I 4, (.bool false), U, U, I 1, (sl 71 0 4 4), I 4, (.bool true), U, U, (sl 71 0 4 4), (pt 71 0), I 0, (sl 71 0 4 4), I 1, (pt 71 1), I 1, (g2 0 1), (sl 71 0 4 4), I 1, (sl 71 1 0 0), (sl 71 0 4 4), I 1, I 2, (sl 71 2 2 2), (sl 76 0 2 2), (sl 77 0 2 2), (.func (.func 196) #[] #[(pt 78 0)])] ++ us 9) #[35] (.region (8) (#[{ dst := some 5, op := Op.assign (Operand.tmp 35), type := 103, pos := "pairs.go:82", after := #[], guard := none }]) false) codeBq_1 .exhausted .none))
noncomputable def rowBq_20 : Option ARow := (.some (.loop ([(.func (.yield 113) #[] #[]), (pt 112 0), (pt 114 0), I 1, (pt 115 0), U, (sl 111 0 2 2), I 2, (.bool false), U, U, I 1, (sl 111 0 2 2), I 2, (.bool true), U, U, (sl 111 0 2 2), (pt 111 0), I 1, (sl 111 0 2 2), I 1, (pt 111 1), I 2, (g2 1 2), (sl 111 0 2 2), I 1, (sl 111 1 0 0), (sl 111 0 2 2), I 1, I 2, (sl 111 2 0 0), (sl 116 0 2 2), sn, (.func (.func 196) #[] #[(pt 117 0)])] ++ us 9) #[35] (.region (8) (#[{ dst := some 5, op := Op.assign (Operand.tmp 35), type := 103, pos := "pairs.go:82", after := #[], guard := none }]) false) codeBq_1 .exhausted .none))
noncomputable def rowBq_21 : Option ARow := (.some (.loop ([(.func (.yield 138) #[] #[]), (pt 137 0), (pt 139 0), I 1, (pt 140 0), U, (sl 136 0 2 2), I 2, (.bool false), U, U, I 1, (sl 136 0 2 2), I 2, (.bool true), U, U, (sl 136 0 2 2), (pt 136 0), I 2, (sl 136 0 2 2), I 1, (pt 136 1), I 3, (g2 2 3), (sl 136 0 2 2), I 1, (sl 136 1 0 0), (sl 136 0 2 2), I 1, I 2, (sl 136 2 0 0), (sl 141 0 2 2), sn, (.func (.func 196) #[] #[(pt 142 0)])] ++ us 9) #[35] (.region (8) (#[{ dst := some 5, op := Op.assign (Operand.tmp 35), type := 103, pos := "pairs.go:82", after := #[], guard := none }]) false) codeBq_1 .exhausted .none))
noncomputable def rowBq_22 : Option ARow := (.some (.loop ([(.func (.yield 155) #[] #[]), (pt 154 0), (pt 156 0), I 1, (pt 157 0), U, (sl 153 0 2 2), I 2, (.bool false), U, U, I 1, (sl 153 0 2 2), I 2, (.bool true), U, U, (sl 153 0 2 2), (pt 153 0), I 1, (sl 153 0 2 2), I 1, (pt 153 1), I 3, (g2 1 3), (sl 153 0 2 2), I 1, (sl 153 1 0 0), (sl 153 0 2 2), I 1, I 2, (sl 153 2 0 0), (sl 158 0 2 2), sn, (.func (.func 196) #[] #[(pt 159 0)])] ++ us 9) #[35] (.region (8) (#[{ dst := some 5, op := Op.assign (Operand.tmp 35), type := 103, pos := "pairs.go:82", after := #[], guard := none }]) false) codeBq_1 .exhausted .none))
noncomputable def rowBq_23 : Option ARow := (.some (.loop ([(.func (.yield 172) #[] #[]), (pt 171 0), (pt 173 0), I 1, (pt 174 0), U, (sl 170 0 2 2), I 2, (.bool false), U, U, I 1, (sl 170 0 2 2), I 2, (.bool true), U, U, (sl 170 0 2 2), (pt 170 0), I 1, (sl 170 0 2 2), I 1, (pt 170 1), I 2, (g2 1 2), (sl 170 0 2 2), I 1, (sl 170 1 0 0), (sl 170 0 2 2), I 1, I 2, (sl 170 2 0 0), (sl 175 0 2 2), sn, (.func (.func 196) #[] #[(pt 176 0)])] ++ us 9) #[35] (.region (8) (#[{ dst := some 5, op := Op.assign (Operand.tmp 35), type := 103, pos := "pairs.go:82", after := #[], guard := none }]) false) codeBq_1 .exhausted .none))
noncomputable def rowBq_24 : Option ARow := (.some (.loop ([(.func (.yield 197) #[] #[]), (pt 196 0), (pt 198 0), I 1, (pt 199 0), U, (sl 195 0 2 2), I 2, (.bool false), U, U, I 1, (sl 195 0 2 2), I 2, (.bool true), U, U, (sl 195 0 2 2), (pt 195 0), I 2, (sl 195 0 2 2), I 1, (pt 195 1), I 3, (g2 2 3), (sl 195 0 2 2), I 1, (sl 195 1 0 0), (sl 195 0 2 2), I 1, I 2, (sl 195 2 0 0), (sl 200 0 2 2), sn, (.func (.func 196) #[] #[(pt 201 0)])] ++ us 9) #[35] (.region (8) (#[{ dst := some 5, op := Op.assign (Operand.tmp 35), type := 103, pos := "pairs.go:82", after := #[], guard := none }]) false) codeBq_1 .exhausted .none))
noncomputable def rowBq_25 : Option ARow := (.some (.loop ([(.func (.yield 214) #[] #[]), (pt 213 0), (pt 215 0), I 1, (pt 216 0), U, (sl 212 0 2 2), I 2, (.bool false), U, U, I 1, (sl 212 0 2 2), I 2, (.bool true), U, U, (sl 212 0 2 2), (pt 212 0), I 1, (sl 212 0 2 2), I 1, (pt 212 1), I 3, (g2 1 3), (sl 212 0 2 2), I 1, (sl 212 1 0 0), (sl 212 0 2 2), I 1, I 2, (sl 212 2 0 0), (sl 217 0 2 2), sn, (.func (.func 196) #[] #[(pt 218 0)])] ++ us 9) #[35] (.region (8) (#[{ dst := some 5, op := Op.assign (Operand.tmp 35), type := 103, pos := "pairs.go:82", after := #[], guard := none }]) false) codeBq_1 .exhausted .none))
noncomputable def rowBq_26 : Option ARow := (.some (.loop ([(.func (.yield 231) #[] #[]), (pt 230 0), (pt 232 0), I 1, (pt 233 0), U, (sl 229 0 2 2), I 2, (.bool false), U, U, I 1, (sl 229 0 2 2), I 2, (.bool true), U, U, (sl 229 0 2 2), (pt 229 0), I 1, (sl 229 0 2 2), I 1, (pt 229 1), I 2, (g2 1 2), (sl 229 0 2 2), I 1, (sl 229 1 0 0), (sl 229 0 2 2), I 1, I 2, (sl 229 2 0 0), (sl 234 0 2 2), sn, (.func (.func 196) #[] #[(pt 235 0)])] ++ us 9) #[35] (.region (8) (#[{ dst := some 5, op := Op.assign (Operand.tmp 35), type := 103, pos := "pairs.go:82", after := #[], guard := none }]) false) codeBq_1 .exhausted .none))
noncomputable def rowBq_27 : Option ARow := (.some (.loop ([(.func (.yield 256) #[] #[]), (pt 255 0), (pt 257 0), I 1, (pt 258 0), U, (sl 254 0 2 2), I 2, (.bool false), U, U, I 1, (sl 254 0 2 2), I 2, (.bool true), U, U, (sl 254 0 2 2), (pt 254 0), I 2, (sl 254 0 2 2), I 1, (pt 254 1), I 3, (g2 2 3), (sl 254 0 2 2), I 1, (sl 254 1 0 0), (sl 254 0 2 2), I 1, I 2, (sl 254 2 0 0), (sl 259 0 2 2), sn, (.func (.func 196) #[] #[(pt 260 0)])] ++ us 9) #[35] (.region (8) (#[{ dst := some 5, op := Op.assign (Operand.tmp 35), type := 103, pos := "pairs.go:82", after := #[], guard := none }]) false) codeBq_1 .exhausted .none))
noncomputable def rowBq_28 : Option ARow := (.some (.loop ([(.func (.yield 96) #[] #[]), (pt 95 0), (pt 97 0), I 1, (pt 98 0), U, (sl 94 0 2 2), I 2, (.bool false), U, U, I 1, (sl 94 0 2 2), I 2, (.bool true), U, U, (sl 94 0 2 2), (pt 94 0), I 1, (sl 94 0 2 2), I 1, (pt 94 1), I 3, (g2 1 3), (sl 94 0 2 2), I 1, (sl 94 1 0 0), (sl 94 0 2 2), I 1, I 2, (sl 94 2 0 0), (sl 99 0 2 2), sn, (.func (.func 196) #[] #[(pt 100 0)])] ++ us 9) #[35] (.region (8) (#[{ dst := some 5, op := Op.assign (Operand.tmp 35), type := 103, pos := "pairs.go:82", after := #[], guard := none }]) false) codeBq_1 .exhausted .none))
noncomputable def rowBq_29 : Option ARow := (.some (.loop ([(.func (.yield 20) #[] #[]), (pt 19 0), (pt 21 0), I 1, (pt 22 0), U, (sl 18 0 2 2), I 2, (.bool false), U, U, I 1, (sl 18 0 2 2), I 2, (.bool true), U, U, (sl 18 0 2 2), (pt 18 0), I 2, (sl 18 0 2 2), I 1, (pt 18 1), I 3, (g2 2 3), (sl 18 0 2 2), I 1, (sl 18 1 0 0), (sl 18 0 2 2), I 1, I 2, (sl 18 2 0 0), (sl 23 0 2 2), sn, (.func (.func 196) #[] #[(pt 24 0)])] ++ us 9) #[35] (.region (8) (#[{ dst := some 5, op := Op.assign (Operand.tmp 35), type := 103, pos := "pairs.go:82", after := #[], guard := none }]) false) codeBq_1 .exhausted .none))
noncomputable def rowBq_30 : Option ARow := (.some (.loop ([(.func (.yield 37) #[] #[]), (pt 36 0), (pt 38 0), I 1, (pt 39 0), U, (sl 35 0 2 2), I 2, (.bool false), U, U, I 1, (sl 35 0 2 2), I 2, (.bool true), U, U, (sl 35 0 2 2), (pt 35 0), I 1, (sl 35 0 2 2), I 1, (pt 35 1), I 3, (g2 1 3), (sl 35 0 2 2), I 1, (sl 35 1 0 0), (sl 35 0 2 2), I 1, I 2, (sl 35 2 0 0), (sl 40 0 2 2), sn, (.func (.func 196) #[] #[(pt 41 0)])] ++ us 9) #[35] (.region (8) (#[{ dst := some 5, op := Op.assign (Operand.tmp 35), type := 103, pos := "pairs.go:82", after := #[], guard := none }]) false) codeBq_1 .exhausted .none))
noncomputable def rowBq_31 : Option ARow := (.some (.loop ([(.func (.yield 54) #[] #[]), (pt 53 0), (pt 55 0), I 1, (pt 56 0), U, (sl 52 0 2 2), I 2, (.bool false), U, U, I 1, (sl 52 0 2 2), I 2, (.bool true), U, U, (sl 52 0 2 2), (pt 52 0), I 1, (sl 52 0 2 2), I 1, (pt 52 1), I 2, (g2 1 2), (sl 52 0 2 2), I 1, (sl 52 1 0 0), (sl 52 0 2 2), I 1, I 2, (sl 52 2 0 0), (sl 57 0 2 2), sn, (.func (.func 196) #[] #[(pt 58 0)])] ++ us 9) #[35] (.region (8) (#[{ dst := some 5, op := Op.assign (Operand.tmp 35), type := 103, pos := "pairs.go:82", after := #[], guard := none }]) false) codeBq_1 .exhausted .none))
noncomputable def rowBq_32 : Option ARow := (.some (.loop ([(.func (.yield 79) #[] #[]), (pt 78 0), (pt 80 0), I 1, (pt 81 0), U, (sl 77 0 2 2), I 2, (.bool false), U, U, I 1, (sl 77 0 2 2), I 2, (.bool true), U, U, (sl 77 0 2 2), (pt 77 0), I 2, (sl 77 0 2 2), I 1, (pt 77 1), I 3, (g2 2 3), (sl 77 0 2 2), I 1, (sl 77 1 0 0), (sl 77 0 2 2), I 1, I 2, (sl 77 2 0 0), (sl 82 0 2 2), sn, (.func (.func 196) #[] #[(pt 83 0)])] ++ us 9) #[35] (.region (8) (#[{ dst := some 5, op := Op.assign (Operand.tmp 35), type := 103, pos := "pairs.go:82", after := #[], guard := none }]) false) codeBq_1 .exhausted .none))
noncomputable def rowBq_33 : Option ARow := (rrow [(.string (ByteArray.mk #[(UInt8.ofNat 97)])), (sl 0 0 2 2), (.string (ByteArray.mk #[(UInt8.ofNat 98)])), (sl 1 0 2 2), (.string (ByteArray.mk #[(UInt8.ofNat 99)])), (sl 2 0 2 2), (.string (ByteArray.mk #[(UInt8.ofNat 100)])), (sl 3 0 2 2)] 54)
noncomputable def rowBq_34 : Option ARow := (rrow [I 0, I 1, I 0, I 2, I 1, I 2, I 0, I 3, I 1, I 3, I 2, I 3] 26)
noncomputable def rowBq_35 : Option ARow := (rrow [I 0, I 1, I 0, I 2, I 1, I 2, I 1, I 3] 26)
noncomputable def rowBq_36 : Option ARow := (rrow [I 0, I 2, I 6, I 6, I 18, I 19, I 20] 3)
noncomputable def rowBq_37 : Option ARow := (rrow [I 0, I 1, I 0, I 2, I 1, I 2] 26)
noncomputable def rowBq_38 : Option ARow := (rrow [(sl 106 0 1 1), (sl 105 0 1 1)] 103)
noncomputable def rowBq_39 : Option ARow := (rrow [(sl 123 0 1 1), (sl 122 0 1 1)] 103)
noncomputable def rowBq_40 : Option ARow := (rrow [(sl 148 0 1 1), (sl 147 0 1 1)] 103)
noncomputable def rowBq_41 : Option ARow := (rrow [(sl 165 0 1 1), (sl 164 0 1 1)] 103)
noncomputable def rowBq_42 : Option ARow := (rrow [(sl 182 0 1 1), (sl 181 0 1 1)] 103)
noncomputable def rowBq_43 : Option ARow := (rrow [(sl 207 0 1 1), (sl 206 0 1 1)] 103)
noncomputable def rowBq_44 : Option ARow := (rrow [(sl 224 0 1 1), (sl 223 0 1 1)] 103)
noncomputable def rowBq_45 : Option ARow := (rrow [(sl 241 0 1 1), (sl 240 0 1 1)] 103)
noncomputable def rowBq_46 : Option ARow := (rrow [(sl 266 0 1 1), (sl 265 0 1 1)] 103)
noncomputable def rowBq_47 : Option ARow := (rrow [(sl 283 0 1 1), (sl 282 0 1 1)] 103)
noncomputable def rowBq_48 : Option ARow := (rrow [(sl 111 1 0 0), (sl 111 2 0 0)] 23)
noncomputable def rowBq_49 : Option ARow := (rrow [(sl 130 1 0 0), (sl 130 2 2 2)] 23)
noncomputable def rowBq_50 : Option ARow := (rrow [(sl 136 1 0 0), (sl 136 2 0 0)] 23)
noncomputable def rowBq_51 : Option ARow := (rrow [(sl 130 1 1 1), (sl 130 3 1 1)] 23)
noncomputable def rowBq_52 : Option ARow := (rrow [(sl 153 1 0 0), (sl 153 2 0 0)] 23)
noncomputable def rowBq_53 : Option ARow := (rrow [(sl 130 1 2 2), (sl 130 4 0 0)] 23)
noncomputable def rowBq_54 : Option ARow := (rrow [(sl 170 1 0 0), (sl 170 2 0 0)] 23)
noncomputable def rowBq_55 : Option ARow := (rrow [(sl 189 1 0 0), (sl 189 2 2 2)] 23)
noncomputable def rowBq_56 : Option ARow := (rrow [(sl 195 1 0 0), (sl 195 2 0 0)] 23)
noncomputable def rowBq_57 : Option ARow := (rrow [(sl 189 1 1 1), (sl 189 3 1 1)] 23)
noncomputable def rowBq_58 : Option ARow := (rrow [(sl 212 1 0 0), (sl 212 2 0 0)] 23)
noncomputable def rowBq_59 : Option ARow := (rrow [(sl 189 1 2 2), (sl 189 4 0 0)] 23)
noncomputable def rowBq_60 : Option ARow := (rrow [(sl 229 1 0 0), (sl 229 2 0 0)] 23)
noncomputable def rowBq_61 : Option ARow := (rrow [(sl 248 1 0 0), (sl 248 2 2 2)] 23)
noncomputable def rowBq_62 : Option ARow := (rrow [(sl 254 1 0 0), (sl 254 2 0 0)] 23)
noncomputable def rowBq_63 : Option ARow := (rrow [(sl 248 1 1 1), (sl 248 3 1 1)] 23)
noncomputable def rowBq_64 : Option ARow := (rrow [(sl 271 1 0 0), (sl 271 2 0 0)] 23)
noncomputable def rowBq_65 : Option ARow := (rrow [(sl 30 0 1 1), (sl 29 0 1 1)] 103)
noncomputable def rowBq_66 : Option ARow := (rrow [(sl 47 0 1 1), (sl 46 0 1 1)] 103)
noncomputable def rowBq_67 : Option ARow := (rrow [(sl 64 0 1 1), (sl 63 0 1 1)] 103)
noncomputable def rowBq_68 : Option ARow := (rrow [(sl 89 0 1 1), (sl 88 0 1 1)] 103)
noncomputable def rowBq_69 : Option ARow := (rrow [(sl 12 1 0 0), (sl 12 2 2 2)] 23)
noncomputable def rowBq_70 : Option ARow := (rrow [(sl 18 1 0 0), (sl 18 2 0 0)] 23)
noncomputable def rowBq_71 : Option ARow := (rrow [(sl 12 1 1 1), (sl 12 3 1 1)] 23)
noncomputable def rowBq_72 : Option ARow := (rrow [(sl 35 1 0 0), (sl 35 2 0 0)] 23)
noncomputable def rowBq_73 : Option ARow := (rrow [(sl 12 1 2 2), (sl 12 4 0 0)] 23)
noncomputable def rowBq_74 : Option ARow := (rrow [(sl 52 1 0 0), (sl 52 2 0 0)] 23)
noncomputable def rowBq_75 : Option ARow := (rrow [(sl 71 1 0 0), (sl 71 2 2 2)] 23)
noncomputable def rowBq_76 : Option ARow := (rrow [(sl 77 1 0 0), (sl 77 2 0 0)] 23)
noncomputable def rowBq_77 : Option ARow := (rrow [(sl 71 1 1 1), (sl 71 3 1 1)] 23)
noncomputable def rowBq_78 : Option ARow := (rrow [(sl 94 1 0 0), (sl 94 2 0 0)] 23)
noncomputable def rowBq_79 : Option ARow := (rrow [(sl 71 1 2 2), (sl 71 4 0 0)] 23)
noncomputable def rowBq_80 : Option ARow := (rrow [I 0, I 1, I 2, I 3] 26)
noncomputable def rowBq_81 : Option ARow := (rrow [I 0, I 2, I 1, I 3] 26)
noncomputable def rowBq_82 : Option ARow := (rrow [I 0, I 3, I 1, I 2] 26)
noncomputable def rowBq_83 : Option ARow := (rrow [I 0, I 1, I 2, I 3] 3)
noncomputable def rowBq_84 : Option ARow := (rvar [(.func (.func 169) #[] #[(pt 128 0)])] 209)
noncomputable def rowBq_85 : Option ARow := (rvar [(.func (.func 169) #[] #[(pt 187 0)])] 209)
noncomputable def rowBq_86 : Option ARow := (rvar [(.func (.func 169) #[] #[(pt 246 0)])] 209)
noncomputable def rowBq_87 : Option ARow := (rvar [(.func (.func 169) #[] #[(pt 10 0)])] 209)
noncomputable def rowBq_88 : Option ARow := (rvar [(.func (.func 169) #[] #[(pt 69 0)])] 209)
noncomputable def rowBq_89 : Option ARow := (rrow [(sl 103 0 1 1), sn] 103)
noncomputable def rowBq_90 : Option ARow := (rrow [(sl 120 0 1 1), sn] 103)
noncomputable def rowBq_91 : Option ARow := (rrow [(sl 145 0 1 1), sn] 103)
noncomputable def rowBq_92 : Option ARow := (rrow [(sl 162 0 1 1), sn] 103)
noncomputable def rowBq_93 : Option ARow := (rrow [(sl 179 0 1 1), sn] 103)
noncomputable def rowBq_94 : Option ARow := (rrow [(sl 204 0 1 1), sn] 103)
noncomputable def rowBq_95 : Option ARow := (rrow [(sl 221 0 1 1), sn] 103)
noncomputable def rowBq_96 : Option ARow := (rrow [(sl 238 0 1 1), sn] 103)
noncomputable def rowBq_97 : Option ARow := (rrow [(sl 263 0 1 1), sn] 103)
noncomputable def rowBq_98 : Option ARow := (rrow [(sl 280 0 1 1), sn] 103)
noncomputable def rowBq_99 : Option ARow := (rrow [(sl 27 0 1 1), sn] 103)
noncomputable def rowBq_100 : Option ARow := (rrow [(sl 44 0 1 1), sn] 103)
noncomputable def rowBq_101 : Option ARow := (rrow [(sl 61 0 1 1), sn] 103)
noncomputable def rowBq_102 : Option ARow := (rrow [(sl 86 0 1 1), sn] 103)
def bodyS : Code → Code
  | .scope b => b
  | c => c
theorem Runs_scope {P : Program} {E : Env} {lim : Nat} {b : Code} {k : List It} {l : List Value} {A : Heap} {r : List Value × Heap × Option Code} (h : Runs P E lim (.code b :: .inScope b :: k) l A r) : Runs P E lim (.code (.scope b) :: k) l A r := let ⟨n, h⟩ := h; ⟨n + 1, h⟩
noncomputable def bL0 : List Value := sl 4 0 4 4 :: us 39
noncomputable def bX0 : Heap := [some (.cells [I 10, I 20] 3 .row), some (.cells [I 12, I 20] 3 .row), some (.cells [I 11, I 26] 3 .row), some (.cells [I 30, I 20] 3 .row), some (.cells [.string (ByteArray.mk #[UInt8.ofNat 97]), sl 0 0 2 2, .string (ByteArray.mk #[UInt8.ofNat 98]), sl 1 0 2 2, .string (ByteArray.mk #[UInt8.ofNat 99]), sl 2 0 2 2, .string (ByteArray.mk #[UInt8.ofNat 100]), sl 3 0 2 2] 54 .row)]
noncomputable def bL1 : List Value := ([(sl 4 0 4 4), U, sn, I 0] ++ us 36)
noncomputable def bX1 : Heap := [(rrow [I 10, I 20] 3), (rrow [I 12, I 20] 3), (rrow [I 11, I 26] 3), (rrow [I 30, I 20] 3), rowBq_33]
theorem bc0 : aRun Tryz.prog env0 100000 5 ([.code (seqAt 0 (bodyOf 128))]) bL0 bX0 = some (bL1, bX1, none) := by kernel_rfl
noncomputable def bL2 : List Value := ([(sl 4 0 4 4), U, sn, I 0, (pt 5 0)] ++ us 35)
noncomputable def bX2 : Heap := [(rrow [I 10, I 20] 3), (rrow [I 12, I 20] 3), (rrow [I 11, I 26] 3), (rrow [I 30, I 20] 3), rowBq_33, (rvar [sn] 103)]
theorem bc1 : aRun Tryz.prog env0 100000 5 ([.code (seqAt 0 (bodyS (seqAt 1 (bodyOf 128))))]) bL1 bX1 = some (bL2, bX2, none) := by kernel_rfl
noncomputable def bL3 : List Value := ([(sl 4 0 4 4), U, sn, I 0, (pt 5 0), (pt 6 0)] ++ us 34)
noncomputable def bX3 : Heap := [(rrow [I 10, I 20] 3), (rrow [I 12, I 20] 3), (rrow [I 11, I 26] 3), (rrow [I 30, I 20] 3), rowBq_33, (rvar [sn] 103), (rvar [I 0] 3)]
theorem bc2 : aRun Tryz.prog env0 100000 5 ([.code (seqAt 1 (bodyS (seqAt 1 (bodyOf 128))))]) bL2 bX2 = some (bL3, bX3, none) := by kernel_rfl
noncomputable def bL4 : List Value := ([(sl 4 0 4 4), U, sn, I 0, (pt 5 0), (pt 6 0)] ++ us 34)
noncomputable def bX4 : Heap := [(rrow [I 10, I 20] 3), (rrow [I 12, I 20] 3), (rrow [I 11, I 26] 3), (rrow [I 30, I 20] 3), rowBq_33, (rvar [sn] 103), (rvar [I 0] 3)]
theorem bc3 : aRun Tryz.prog env0 100000 5 ([.code (seqAt 2 (bodyS (seqAt 1 (bodyOf 128))))]) bL3 bX3 = some (bL4, bX4, none) := by kernel_rfl
noncomputable def bL5 : List Value := ([(sl 4 0 4 4), U, sn, I 0, (pt 5 0), (pt 6 0), U, U, U, U, U, (sl 4 0 4 4), (sl 4 0 4 4), I 4, (sl 7 0 6 6), (sl 8 0 7 7), I 7, I 0] ++ us 22)
noncomputable def bX5 : Heap := [(rrow [I 10, I 20] 3), (rrow [I 12, I 20] 3), (rrow [I 11, I 26] 3), (rrow [I 30, I 20] 3), rowBq_33, (rvar [sn] 103), (rvar [I 0] 3), rowBq_34, rowBq_36]
theorem bc4 : aRun Tryz.prog env0 100000 5 ([.code (seqAt 0 (seqAt 3 (bodyS (seqAt 1 (bodyOf 128)))))]) bL4 bX4 = some (bL5, bX5, none) := by kernel_rfl
noncomputable def bL6 : List Value := [(sl 4 0 4 4), U, sn, I 0, (pt 5 0), (pt 6 0), U, (pt 9 0), (pt 10 0), (pt 11 0), U, (sl 4 0 4 4), (sl 4 0 4 4), I 4, (sl 7 0 6 6), (sl 8 0 7 7), I 7, I 1, (.bool true), (pt 8 0), I 0, (sl 4 0 4 4), I 0, I 1, sn, (.func (.func 169) #[] #[(pt 10 0)]), (sl 4 0 4 4), I 4, (sl 12 0 4 4), (.func (.func 196) #[] #[(pt 13 0)]), U, U, U, U, U, U, U, I 1, U, U]
noncomputable def bX6 : Heap := [(rrow [I 10, I 20] 3), (rrow [I 12, I 20] 3), (rrow [I 11, I 26] 3), (rrow [I 30, I 20] 3), rowBq_33, (rvar [sn] 103), (rvar [I 0] 3), rowBq_34, rowBq_36, (rvar [I 0] 3), (rvar [sn] 103), rowBq_87, rowBq_83, (rvar [(sl 12 0 4 4)] 23), rowBq_4, (rvar [(.func (.yield 14) #[] #[])] 238), (rvar [I 0, I 1] 26), rowBq_69, (rrow [I 2, I 3] 3), (rvar [(sl 18 0 2 2)] 23), rowBq_18, (rvar [(.func (.yield 20) #[] #[])] 238), (rvar [I 2, I 3] 26), rowBq_70, (rvar [sn] 23), rowBq_29, (rvar [(.func (.yield 25) #[] #[])] 238), (rrow [I 2, I 3] 26), rowBq_99, (rrow [I 2, I 3] 26), (rrow [I 0, I 1] 26), rowBq_65, rowBq_80, (rvar [I 0, I 2] 26), rowBq_71, (rrow [I 1, I 3] 3), (rvar [(sl 35 0 2 2)] 23), rowBq_11, (rvar [(.func (.yield 37) #[] #[])] 238), (rvar [I 1, I 3] 26), rowBq_72, (rvar [sn] 23), rowBq_30, (rvar [(.func (.yield 42) #[] #[])] 238), (rrow [I 1, I 3] 26), rowBq_100, (rrow [I 1, I 3] 26), (rrow [I 0, I 2] 26), rowBq_66, rowBq_81, (rvar [I 0, I 3] 26), rowBq_73, (rrow [I 1, I 2] 3), (rvar [(sl 52 0 2 2)] 23), rowBq_12, (rvar [(.func (.yield 54) #[] #[])] 238), (rvar [I 1, I 2] 26), rowBq_74, (rvar [sn] 23), rowBq_31, (rvar [(.func (.yield 59) #[] #[])] 238), (rrow [I 1, I 2] 26), rowBq_101, (rrow [I 1, I 2] 26), (rrow [I 0, I 3] 26), rowBq_67, rowBq_82]
theorem bc5 : aRun Tryz.prog env0 100000 5 ([.code (round 0 (bodyOf 128))]) bL5 bX5 = some (bL6, bX6, none) := by kernel_rfl
noncomputable def bL7 : List Value := [(sl 4 0 4 4), U, sn, I 0, (pt 5 0), (pt 6 0), U, (pt 67 0), (pt 69 0), (pt 70 0), U, (sl 4 0 4 4), (sl 4 0 4 4), I 4, (sl 7 0 6 6), (sl 8 0 7 7), I 7, I 2, (.bool true), (pt 8 1), I 2, (sl 4 0 4 4), I 2, I 3, (sl 68 0 1 1), (.func (.func 169) #[] #[(pt 69 0)]), (sl 4 0 4 4), I 4, (sl 71 0 4 4), (.func (.func 196) #[] #[(pt 72 0)]), U, U, U, U, U, U, U, I 2, U, U]
noncomputable def bX7 : Heap := [(rrow [I 10, I 20] 3), (rrow [I 12, I 20] 3), (rrow [I 11, I 26] 3), (rrow [I 30, I 20] 3), rowBq_33, (rvar [sn] 103), (rvar [I 0] 3), rowBq_34, rowBq_36, (rvar [I 0] 3), (rvar [sn] 103), rowBq_87, rowBq_83, (rvar [(sl 12 0 4 4)] 23), rowBq_4, (rvar [(.func (.yield 14) #[] #[])] 238), (rvar [I 0, I 1] 26), rowBq_69, (rrow [I 2, I 3] 3), (rvar [(sl 18 0 2 2)] 23), rowBq_18, (rvar [(.func (.yield 20) #[] #[])] 238), (rvar [I 2, I 3] 26), rowBq_70, (rvar [sn] 23), rowBq_29, (rvar [(.func (.yield 25) #[] #[])] 238), (rrow [I 2, I 3] 26), rowBq_99, (rrow [I 2, I 3] 26), (rrow [I 0, I 1] 26), rowBq_65, rowBq_80, (rvar [I 0, I 2] 26), rowBq_71, (rrow [I 1, I 3] 3), (rvar [(sl 35 0 2 2)] 23), rowBq_11, (rvar [(.func (.yield 37) #[] #[])] 238), (rvar [I 1, I 3] 26), rowBq_72, (rvar [sn] 23), rowBq_30, (rvar [(.func (.yield 42) #[] #[])] 238), (rrow [I 1, I 3] 26), rowBq_100, (rrow [I 1, I 3] 26), (rrow [I 0, I 2] 26), rowBq_66, rowBq_81, (rvar [I 0, I 3] 26), rowBq_73, (rrow [I 1, I 2] 3), (rvar [(sl 52 0 2 2)] 23), rowBq_12, (rvar [(.func (.yield 54) #[] #[])] 238), (rvar [I 1, I 2] 26), rowBq_74, (rvar [sn] 23), rowBq_31, (rvar [(.func (.yield 59) #[] #[])] 238), (rrow [I 1, I 2] 26), rowBq_101, (rrow [I 1, I 2] 26), (rrow [I 0, I 3] 26), rowBq_67, rowBq_82, (rvar [I 2] 3), (rrow [I 0, I 1] 26), (rvar [(sl 68 0 1 1)] 103), rowBq_88, rowBq_83, (rvar [(sl 71 0 4 4)] 23), rowBq_3, (rvar [(.func (.yield 73) #[] #[])] 238), (rvar [I 0, I 1] 26), rowBq_75, (rrow [I 2, I 3] 3), (rvar [(sl 77 0 2 2)] 23), rowBq_19, (rvar [(.func (.yield 79) #[] #[])] 238), (rvar [I 2, I 3] 26), rowBq_76, (rvar [sn] 23), rowBq_32, (rvar [(.func (.yield 84) #[] #[])] 238), (rrow [I 2, I 3] 26), rowBq_102, (rrow [I 2, I 3] 26), (rrow [I 0, I 1] 26), rowBq_68, rowBq_80, (rvar [I 0, I 2] 26), rowBq_77, (rrow [I 1, I 3] 3), (rvar [(sl 94 0 2 2)] 23), rowBq_13, (rvar [(.func (.yield 96) #[] #[])] 238), (rvar [I 1, I 3] 26), rowBq_78, (rvar [sn] 23), rowBq_28, (rvar [(.func (.yield 101) #[] #[])] 238), (rrow [I 1, I 3] 26), rowBq_89, (rrow [I 1, I 3] 26), (rrow [I 0, I 2] 26), rowBq_38, rowBq_81, (rvar [I 0, I 3] 26), rowBq_79, (rrow [I 1, I 2] 3), (rvar [(sl 111 0 2 2)] 23), rowBq_10, (rvar [(.func (.yield 113) #[] #[])] 238), (rvar [I 1, I 2] 26), rowBq_48, (rvar [sn] 23), rowBq_20, (rvar [(.func (.yield 118) #[] #[])] 238), (rrow [I 1, I 2] 26), rowBq_90, (rrow [I 1, I 2] 26), (rrow [I 0, I 3] 26), rowBq_39, rowBq_82]
theorem bc6 : aRun Tryz.prog env0 100000 5 ([.code (round 0 (bodyOf 128))]) bL6 bX6 = some (bL7, bX7, none) := by kernel_rfl
noncomputable def bL8 : List Value := [(sl 4 0 4 4), U, sn, I 0, (pt 5 0), (pt 6 0), U, (pt 126 0), (pt 128 0), (pt 129 0), U, (sl 4 0 4 4), (sl 4 0 4 4), I 4, (sl 7 0 6 6), (sl 8 0 7 7), I 7, I 3, (.bool true), (pt 8 2), I 6, (sl 4 0 4 4), I 6, I 7, (sl 127 0 3 3), (.func (.func 169) #[] #[(pt 128 0)]), (sl 4 0 4 4), I 4, (sl 130 0 4 4), (.func (.func 196) #[] #[(pt 131 0)]), U, U, U, U, U, U, U, I 3, U, U]
noncomputable def bX8 : Heap := [(rrow [I 10, I 20] 3), (rrow [I 12, I 20] 3), (rrow [I 11, I 26] 3), (rrow [I 30, I 20] 3), rowBq_33, (rvar [sn] 103), (rvar [I 0] 3), rowBq_34, rowBq_36, (rvar [I 0] 3), (rvar [sn] 103), rowBq_87, rowBq_83, (rvar [(sl 12 0 4 4)] 23), rowBq_4, (rvar [(.func (.yield 14) #[] #[])] 238), (rvar [I 0, I 1] 26), rowBq_69, (rrow [I 2, I 3] 3), (rvar [(sl 18 0 2 2)] 23), rowBq_18, (rvar [(.func (.yield 20) #[] #[])] 238), (rvar [I 2, I 3] 26), rowBq_70, (rvar [sn] 23), rowBq_29, (rvar [(.func (.yield 25) #[] #[])] 238), (rrow [I 2, I 3] 26), rowBq_99, (rrow [I 2, I 3] 26), (rrow [I 0, I 1] 26), rowBq_65, rowBq_80, (rvar [I 0, I 2] 26), rowBq_71, (rrow [I 1, I 3] 3), (rvar [(sl 35 0 2 2)] 23), rowBq_11, (rvar [(.func (.yield 37) #[] #[])] 238), (rvar [I 1, I 3] 26), rowBq_72, (rvar [sn] 23), rowBq_30, (rvar [(.func (.yield 42) #[] #[])] 238), (rrow [I 1, I 3] 26), rowBq_100, (rrow [I 1, I 3] 26), (rrow [I 0, I 2] 26), rowBq_66, rowBq_81, (rvar [I 0, I 3] 26), rowBq_73, (rrow [I 1, I 2] 3), (rvar [(sl 52 0 2 2)] 23), rowBq_12, (rvar [(.func (.yield 54) #[] #[])] 238), (rvar [I 1, I 2] 26), rowBq_74, (rvar [sn] 23), rowBq_31, (rvar [(.func (.yield 59) #[] #[])] 238), (rrow [I 1, I 2] 26), rowBq_101, (rrow [I 1, I 2] 26), (rrow [I 0, I 3] 26), rowBq_67, rowBq_82, (rvar [I 2] 3), (rrow [I 0, I 1] 26), (rvar [(sl 68 0 1 1)] 103), rowBq_88, rowBq_83, (rvar [(sl 71 0 4 4)] 23), rowBq_3, (rvar [(.func (.yield 73) #[] #[])] 238), (rvar [I 0, I 1] 26), rowBq_75, (rrow [I 2, I 3] 3), (rvar [(sl 77 0 2 2)] 23), rowBq_19, (rvar [(.func (.yield 79) #[] #[])] 238), (rvar [I 2, I 3] 26), rowBq_76, (rvar [sn] 23), rowBq_32, (rvar [(.func (.yield 84) #[] #[])] 238), (rrow [I 2, I 3] 26), rowBq_102, (rrow [I 2, I 3] 26), (rrow [I 0, I 1] 26), rowBq_68, rowBq_80, (rvar [I 0, I 2] 26), rowBq_77, (rrow [I 1, I 3] 3), (rvar [(sl 94 0 2 2)] 23), rowBq_13, (rvar [(.func (.yield 96) #[] #[])] 238), (rvar [I 1, I 3] 26), rowBq_78, (rvar [sn] 23), rowBq_28, (rvar [(.func (.yield 101) #[] #[])] 238), (rrow [I 1, I 3] 26), rowBq_89, (rrow [I 1, I 3] 26), (rrow [I 0, I 2] 26), rowBq_38, rowBq_81, (rvar [I 0, I 3] 26), rowBq_79, (rrow [I 1, I 2] 3), (rvar [(sl 111 0 2 2)] 23), rowBq_10, (rvar [(.func (.yield 113) #[] #[])] 238), (rvar [I 1, I 2] 26), rowBq_48, (rvar [sn] 23), rowBq_20, (rvar [(.func (.yield 118) #[] #[])] 238), (rrow [I 1, I 2] 26), rowBq_90, (rrow [I 1, I 2] 26), (rrow [I 0, I 3] 26), rowBq_39, rowBq_82, (rvar [I 6] 3), rowBq_37, (rvar [(sl 127 0 3 3)] 103), rowBq_84, rowBq_83, (rvar [(sl 130 0 4 4)] 23), rowBq_1, (rvar [(.func (.yield 132) #[] #[])] 238), (rvar [I 0, I 1] 26), rowBq_49, (rrow [I 2, I 3] 3), (rvar [(sl 136 0 2 2)] 23), rowBq_14, (rvar [(.func (.yield 138) #[] #[])] 238), (rvar [I 2, I 3] 26), rowBq_50, (rvar [sn] 23), rowBq_21, (rvar [(.func (.yield 143) #[] #[])] 238), (rrow [I 2, I 3] 26), rowBq_91, (rrow [I 2, I 3] 26), (rrow [I 0, I 1] 26), rowBq_40, rowBq_80, (rvar [I 0, I 2] 26), rowBq_51, (rrow [I 1, I 3] 3), (rvar [(sl 153 0 2 2)] 23), rowBq_6, (rvar [(.func (.yield 155) #[] #[])] 238), (rvar [I 1, I 3] 26), rowBq_52, (rvar [sn] 23), rowBq_22, (rvar [(.func (.yield 160) #[] #[])] 238), (rrow [I 1, I 3] 26), rowBq_92, (rrow [I 1, I 3] 26), (rrow [I 0, I 2] 26), rowBq_41, rowBq_81, (rvar [I 0, I 3] 26), rowBq_53, (rrow [I 1, I 2] 3), (rvar [(sl 170 0 2 2)] 23), rowBq_7, (rvar [(.func (.yield 172) #[] #[])] 238), (rvar [I 1, I 2] 26), rowBq_54, (rvar [sn] 23), rowBq_23, (rvar [(.func (.yield 177) #[] #[])] 238), (rrow [I 1, I 2] 26), rowBq_93, (rrow [I 1, I 2] 26), (rrow [I 0, I 3] 26), rowBq_42, rowBq_82]
theorem bc7 : aRun Tryz.prog env0 100000 5 ([.code (round 0 (bodyOf 128))]) bL7 bX7 = some (bL8, bX8, none) := by kernel_rfl
noncomputable def bL9 : List Value := [(sl 4 0 4 4), U, sn, I 0, (pt 5 0), (pt 6 0), U, (pt 185 0), (pt 187 0), (pt 188 0), U, (sl 4 0 4 4), (sl 4 0 4 4), I 4, (sl 7 0 6 6), (sl 8 0 7 7), I 7, I 4, (.bool true), (pt 8 3), I 6, (sl 4 0 4 4), I 6, I 7, (sl 186 0 3 3), (.func (.func 169) #[] #[(pt 187 0)]), (sl 4 0 4 4), I 4, (sl 189 0 4 4), (.func (.func 196) #[] #[(pt 190 0)]), U, U, U, U, U, U, U, I 4, U, U]
noncomputable def bX9 : Heap := [(rrow [I 10, I 20] 3), (rrow [I 12, I 20] 3), (rrow [I 11, I 26] 3), (rrow [I 30, I 20] 3), rowBq_33, (rvar [sn] 103), (rvar [I 0] 3), rowBq_34, rowBq_36, (rvar [I 0] 3), (rvar [sn] 103), rowBq_87, rowBq_83, (rvar [(sl 12 0 4 4)] 23), rowBq_4, (rvar [(.func (.yield 14) #[] #[])] 238), (rvar [I 0, I 1] 26), rowBq_69, (rrow [I 2, I 3] 3), (rvar [(sl 18 0 2 2)] 23), rowBq_18, (rvar [(.func (.yield 20) #[] #[])] 238), (rvar [I 2, I 3] 26), rowBq_70, (rvar [sn] 23), rowBq_29, (rvar [(.func (.yield 25) #[] #[])] 238), (rrow [I 2, I 3] 26), rowBq_99, (rrow [I 2, I 3] 26), (rrow [I 0, I 1] 26), rowBq_65, rowBq_80, (rvar [I 0, I 2] 26), rowBq_71, (rrow [I 1, I 3] 3), (rvar [(sl 35 0 2 2)] 23), rowBq_11, (rvar [(.func (.yield 37) #[] #[])] 238), (rvar [I 1, I 3] 26), rowBq_72, (rvar [sn] 23), rowBq_30, (rvar [(.func (.yield 42) #[] #[])] 238), (rrow [I 1, I 3] 26), rowBq_100, (rrow [I 1, I 3] 26), (rrow [I 0, I 2] 26), rowBq_66, rowBq_81, (rvar [I 0, I 3] 26), rowBq_73, (rrow [I 1, I 2] 3), (rvar [(sl 52 0 2 2)] 23), rowBq_12, (rvar [(.func (.yield 54) #[] #[])] 238), (rvar [I 1, I 2] 26), rowBq_74, (rvar [sn] 23), rowBq_31, (rvar [(.func (.yield 59) #[] #[])] 238), (rrow [I 1, I 2] 26), rowBq_101, (rrow [I 1, I 2] 26), (rrow [I 0, I 3] 26), rowBq_67, rowBq_82, (rvar [I 2] 3), (rrow [I 0, I 1] 26), (rvar [(sl 68 0 1 1)] 103), rowBq_88, rowBq_83, (rvar [(sl 71 0 4 4)] 23), rowBq_3, (rvar [(.func (.yield 73) #[] #[])] 238), (rvar [I 0, I 1] 26), rowBq_75, (rrow [I 2, I 3] 3), (rvar [(sl 77 0 2 2)] 23), rowBq_19, (rvar [(.func (.yield 79) #[] #[])] 238), (rvar [I 2, I 3] 26), rowBq_76, (rvar [sn] 23), rowBq_32, (rvar [(.func (.yield 84) #[] #[])] 238), (rrow [I 2, I 3] 26), rowBq_102, (rrow [I 2, I 3] 26), (rrow [I 0, I 1] 26), rowBq_68, rowBq_80, (rvar [I 0, I 2] 26), rowBq_77, (rrow [I 1, I 3] 3), (rvar [(sl 94 0 2 2)] 23), rowBq_13, (rvar [(.func (.yield 96) #[] #[])] 238), (rvar [I 1, I 3] 26), rowBq_78, (rvar [sn] 23), rowBq_28, (rvar [(.func (.yield 101) #[] #[])] 238), (rrow [I 1, I 3] 26), rowBq_89, (rrow [I 1, I 3] 26), (rrow [I 0, I 2] 26), rowBq_38, rowBq_81, (rvar [I 0, I 3] 26), rowBq_79, (rrow [I 1, I 2] 3), (rvar [(sl 111 0 2 2)] 23), rowBq_10, (rvar [(.func (.yield 113) #[] #[])] 238), (rvar [I 1, I 2] 26), rowBq_48, (rvar [sn] 23), rowBq_20, (rvar [(.func (.yield 118) #[] #[])] 238), (rrow [I 1, I 2] 26), rowBq_90, (rrow [I 1, I 2] 26), (rrow [I 0, I 3] 26), rowBq_39, rowBq_82, (rvar [I 6] 3), rowBq_37, (rvar [(sl 127 0 3 3)] 103), rowBq_84, rowBq_83, (rvar [(sl 130 0 4 4)] 23), rowBq_1, (rvar [(.func (.yield 132) #[] #[])] 238), (rvar [I 0, I 1] 26), rowBq_49, (rrow [I 2, I 3] 3), (rvar [(sl 136 0 2 2)] 23), rowBq_14, (rvar [(.func (.yield 138) #[] #[])] 238), (rvar [I 2, I 3] 26), rowBq_50, (rvar [sn] 23), rowBq_21, (rvar [(.func (.yield 143) #[] #[])] 238), (rrow [I 2, I 3] 26), rowBq_91, (rrow [I 2, I 3] 26), (rrow [I 0, I 1] 26), rowBq_40, rowBq_80, (rvar [I 0, I 2] 26), rowBq_51, (rrow [I 1, I 3] 3), (rvar [(sl 153 0 2 2)] 23), rowBq_6, (rvar [(.func (.yield 155) #[] #[])] 238), (rvar [I 1, I 3] 26), rowBq_52, (rvar [sn] 23), rowBq_22, (rvar [(.func (.yield 160) #[] #[])] 238), (rrow [I 1, I 3] 26), rowBq_92, (rrow [I 1, I 3] 26), (rrow [I 0, I 2] 26), rowBq_41, rowBq_81, (rvar [I 0, I 3] 26), rowBq_53, (rrow [I 1, I 2] 3), (rvar [(sl 170 0 2 2)] 23), rowBq_7, (rvar [(.func (.yield 172) #[] #[])] 238), (rvar [I 1, I 2] 26), rowBq_54, (rvar [sn] 23), rowBq_23, (rvar [(.func (.yield 177) #[] #[])] 238), (rrow [I 1, I 2] 26), rowBq_93, (rrow [I 1, I 2] 26), (rrow [I 0, I 3] 26), rowBq_42, rowBq_82, (rvar [I 6] 3), rowBq_37, (rvar [(sl 186 0 3 3)] 103), rowBq_85, rowBq_83, (rvar [(sl 189 0 4 4)] 23), rowBq_2, (rvar [(.func (.yield 191) #[] #[])] 238), (rvar [I 0, I 1] 26), rowBq_55, (rrow [I 2, I 3] 3), (rvar [(sl 195 0 2 2)] 23), rowBq_15, (rvar [(.func (.yield 197) #[] #[])] 238), (rvar [I 2, I 3] 26), rowBq_56, (rvar [sn] 23), rowBq_24, (rvar [(.func (.yield 202) #[] #[])] 238), (rrow [I 2, I 3] 26), rowBq_94, (rrow [I 2, I 3] 26), (rrow [I 0, I 1] 26), rowBq_43, rowBq_80, (rvar [I 0, I 2] 26), rowBq_57, (rrow [I 1, I 3] 3), (rvar [(sl 212 0 2 2)] 23), rowBq_8, (rvar [(.func (.yield 214) #[] #[])] 238), (rvar [I 1, I 3] 26), rowBq_58, (rvar [sn] 23), rowBq_25, (rvar [(.func (.yield 219) #[] #[])] 238), (rrow [I 1, I 3] 26), rowBq_95, (rrow [I 1, I 3] 26), (rrow [I 0, I 2] 26), rowBq_44, rowBq_81, (rvar [I 0, I 3] 26), rowBq_59, (rrow [I 1, I 2] 3), (rvar [(sl 229 0 2 2)] 23), rowBq_9, (rvar [(.func (.yield 231) #[] #[])] 238), (rvar [I 1, I 2] 26), rowBq_60, (rvar [sn] 23), rowBq_26, (rvar [(.func (.yield 236) #[] #[])] 238), (rrow [I 1, I 2] 26), rowBq_96, (rrow [I 1, I 2] 26), (rrow [I 0, I 3] 26), rowBq_45, rowBq_82]
theorem bc8 : aRun Tryz.prog env0 100000 5 ([.code (round 0 (bodyOf 128))]) bL8 bX8 = some (bL9, bX9, none) := by kernel_rfl
noncomputable def bL10 : List Value := [(sl 4 0 4 4), U, sn, I 0, (pt 5 0), (pt 6 0), U, (pt 244 0), (pt 246 0), (pt 247 0), U, (sl 4 0 4 4), (sl 4 0 4 4), I 4, (sl 7 0 6 6), (sl 8 0 7 7), I 7, I 4, (.bool true), (pt 8 4), I 18, (sl 4 0 4 4), I 18, I 19, (sl 245 0 4 4), (.func (.func 169) #[] #[(pt 246 0)]), (sl 4 0 4 4), I 4, (sl 248 0 4 4), (.func (.func 196) #[] #[(pt 249 0)]), U, U, U, U, U, U, U, I 4, U, U]
noncomputable def bX10 : Heap := [(rrow [I 10, I 20] 3), (rrow [I 12, I 20] 3), (rrow [I 11, I 26] 3), (rrow [I 30, I 20] 3), rowBq_33, (rvar [(sl 285 0 2 2)] 103), (rvar [I 18] 3), rowBq_34, rowBq_36, (rvar [I 0] 3), (rvar [sn] 103), rowBq_87, rowBq_83, (rvar [(sl 12 0 4 4)] 23), rowBq_4, (rvar [(.func (.yield 14) #[] #[])] 238), (rvar [I 0, I 1] 26), rowBq_69, (rrow [I 2, I 3] 3), (rvar [(sl 18 0 2 2)] 23), rowBq_18, (rvar [(.func (.yield 20) #[] #[])] 238), (rvar [I 2, I 3] 26), rowBq_70, (rvar [sn] 23), rowBq_29, (rvar [(.func (.yield 25) #[] #[])] 238), (rrow [I 2, I 3] 26), rowBq_99, (rrow [I 2, I 3] 26), (rrow [I 0, I 1] 26), rowBq_65, rowBq_80, (rvar [I 0, I 2] 26), rowBq_71, (rrow [I 1, I 3] 3), (rvar [(sl 35 0 2 2)] 23), rowBq_11, (rvar [(.func (.yield 37) #[] #[])] 238), (rvar [I 1, I 3] 26), rowBq_72, (rvar [sn] 23), rowBq_30, (rvar [(.func (.yield 42) #[] #[])] 238), (rrow [I 1, I 3] 26), rowBq_100, (rrow [I 1, I 3] 26), (rrow [I 0, I 2] 26), rowBq_66, rowBq_81, (rvar [I 0, I 3] 26), rowBq_73, (rrow [I 1, I 2] 3), (rvar [(sl 52 0 2 2)] 23), rowBq_12, (rvar [(.func (.yield 54) #[] #[])] 238), (rvar [I 1, I 2] 26), rowBq_74, (rvar [sn] 23), rowBq_31, (rvar [(.func (.yield 59) #[] #[])] 238), (rrow [I 1, I 2] 26), rowBq_101, (rrow [I 1, I 2] 26), (rrow [I 0, I 3] 26), rowBq_67, rowBq_82, (rvar [I 2] 3), (rrow [I 0, I 1] 26), (rvar [(sl 68 0 1 1)] 103), rowBq_88, rowBq_83, (rvar [(sl 71 0 4 4)] 23), rowBq_3, (rvar [(.func (.yield 73) #[] #[])] 238), (rvar [I 0, I 1] 26), rowBq_75, (rrow [I 2, I 3] 3), (rvar [(sl 77 0 2 2)] 23), rowBq_19, (rvar [(.func (.yield 79) #[] #[])] 238), (rvar [I 2, I 3] 26), rowBq_76, (rvar [sn] 23), rowBq_32, (rvar [(.func (.yield 84) #[] #[])] 238), (rrow [I 2, I 3] 26), rowBq_102, (rrow [I 2, I 3] 26), (rrow [I 0, I 1] 26), rowBq_68, rowBq_80, (rvar [I 0, I 2] 26), rowBq_77, (rrow [I 1, I 3] 3), (rvar [(sl 94 0 2 2)] 23), rowBq_13, (rvar [(.func (.yield 96) #[] #[])] 238), (rvar [I 1, I 3] 26), rowBq_78, (rvar [sn] 23), rowBq_28, (rvar [(.func (.yield 101) #[] #[])] 238), (rrow [I 1, I 3] 26), rowBq_89, (rrow [I 1, I 3] 26), (rrow [I 0, I 2] 26), rowBq_38, rowBq_81, (rvar [I 0, I 3] 26), rowBq_79, (rrow [I 1, I 2] 3), (rvar [(sl 111 0 2 2)] 23), rowBq_10, (rvar [(.func (.yield 113) #[] #[])] 238), (rvar [I 1, I 2] 26), rowBq_48, (rvar [sn] 23), rowBq_20, (rvar [(.func (.yield 118) #[] #[])] 238), (rrow [I 1, I 2] 26), rowBq_90, (rrow [I 1, I 2] 26), (rrow [I 0, I 3] 26), rowBq_39, rowBq_82, (rvar [I 6] 3), rowBq_37, (rvar [(sl 127 0 3 3)] 103), rowBq_84, rowBq_83, (rvar [(sl 130 0 4 4)] 23), rowBq_1, (rvar [(.func (.yield 132) #[] #[])] 238), (rvar [I 0, I 1] 26), rowBq_49, (rrow [I 2, I 3] 3), (rvar [(sl 136 0 2 2)] 23), rowBq_14, (rvar [(.func (.yield 138) #[] #[])] 238), (rvar [I 2, I 3] 26), rowBq_50, (rvar [sn] 23), rowBq_21, (rvar [(.func (.yield 143) #[] #[])] 238), (rrow [I 2, I 3] 26), rowBq_91, (rrow [I 2, I 3] 26), (rrow [I 0, I 1] 26), rowBq_40, rowBq_80, (rvar [I 0, I 2] 26), rowBq_51, (rrow [I 1, I 3] 3), (rvar [(sl 153 0 2 2)] 23), rowBq_6, (rvar [(.func (.yield 155) #[] #[])] 238), (rvar [I 1, I 3] 26), rowBq_52, (rvar [sn] 23), rowBq_22, (rvar [(.func (.yield 160) #[] #[])] 238), (rrow [I 1, I 3] 26), rowBq_92, (rrow [I 1, I 3] 26), (rrow [I 0, I 2] 26), rowBq_41, rowBq_81, (rvar [I 0, I 3] 26), rowBq_53, (rrow [I 1, I 2] 3), (rvar [(sl 170 0 2 2)] 23), rowBq_7, (rvar [(.func (.yield 172) #[] #[])] 238), (rvar [I 1, I 2] 26), rowBq_54, (rvar [sn] 23), rowBq_23, (rvar [(.func (.yield 177) #[] #[])] 238), (rrow [I 1, I 2] 26), rowBq_93, (rrow [I 1, I 2] 26), (rrow [I 0, I 3] 26), rowBq_42, rowBq_82, (rvar [I 6] 3), rowBq_37, (rvar [(sl 186 0 3 3)] 103), rowBq_85, rowBq_83, (rvar [(sl 189 0 4 4)] 23), rowBq_2, (rvar [(.func (.yield 191) #[] #[])] 238), (rvar [I 0, I 1] 26), rowBq_55, (rrow [I 2, I 3] 3), (rvar [(sl 195 0 2 2)] 23), rowBq_15, (rvar [(.func (.yield 197) #[] #[])] 238), (rvar [I 2, I 3] 26), rowBq_56, (rvar [sn] 23), rowBq_24, (rvar [(.func (.yield 202) #[] #[])] 238), (rrow [I 2, I 3] 26), rowBq_94, (rrow [I 2, I 3] 26), (rrow [I 0, I 1] 26), rowBq_43, rowBq_80, (rvar [I 0, I 2] 26), rowBq_57, (rrow [I 1, I 3] 3), (rvar [(sl 212 0 2 2)] 23), rowBq_8, (rvar [(.func (.yield 214) #[] #[])] 238), (rvar [I 1, I 3] 26), rowBq_58, (rvar [sn] 23), rowBq_25, (rvar [(.func (.yield 219) #[] #[])] 238), (rrow [I 1, I 3] 26), rowBq_95, (rrow [I 1, I 3] 26), (rrow [I 0, I 2] 26), rowBq_44, rowBq_81, (rvar [I 0, I 3] 26), rowBq_59, (rrow [I 1, I 2] 3), (rvar [(sl 229 0 2 2)] 23), rowBq_9, (rvar [(.func (.yield 231) #[] #[])] 238), (rvar [I 1, I 2] 26), rowBq_60, (rvar [sn] 23), rowBq_26, (rvar [(.func (.yield 236) #[] #[])] 238), (rrow [I 1, I 2] 26), rowBq_96, (rrow [I 1, I 2] 26), (rrow [I 0, I 3] 26), rowBq_45, rowBq_82, (rvar [I 18] 3), rowBq_35, (rvar [(sl 245 0 4 4)] 103), rowBq_86, rowBq_83, (rvar [(sl 248 0 4 4)] 23), rowBq_0, (rvar [(.func (.yield 250) #[] #[])] 238), (rvar [I 0, I 1] 26), rowBq_61, (rrow [I 2, I 3] 3), (rvar [(sl 254 0 2 2)] 23), rowBq_16, (rvar [(.func (.yield 256) #[] #[])] 238), (rvar [I 2, I 3] 26), rowBq_62, (rvar [sn] 23), rowBq_27, (rvar [(.func (.yield 261) #[] #[])] 238), (rrow [I 2, I 3] 26), rowBq_97, (rrow [I 2, I 3] 26), (rrow [I 0, I 1] 26), rowBq_46, rowBq_80, (rvar [I 0, I 2] 26), rowBq_63, (rrow [I 1, I 3] 3), (rvar [(sl 271 0 2 2)] 23), rowBq_5, (rvar [(.func (.yield 273) #[] #[])] 238), (rvar [I 1, I 3] 26), rowBq_64, (rvar [sn] 23), rowBq_17, (rvar [(.func (.yield 278) #[] #[])] 238), (rrow [I 1, I 3] 26), rowBq_98, (rrow [I 1, I 3] 26), (rrow [I 0, I 2] 26), rowBq_47, rowBq_81]
theorem bc9 : aRun Tryz.prog env0 100000 5 ([.code (round 0 (bodyOf 128)), .inLoop (round 0 (bodyOf 128)), .inBlock 0]) bL9 bX9 = some (bL10, bX10, none) := by kernel_rfl
noncomputable def bL11 : List Value := [(sl 4 0 4 4), U, (sl 285 0 2 2), I 18, (pt 5 0), (pt 6 0), U, (pt 244 0), (pt 246 0), (pt 247 0), U, (sl 4 0 4 4), (sl 4 0 4 4), I 4, (sl 7 0 6 6), (sl 8 0 7 7), I 7, I 4, (.bool true), (pt 8 4), I 18, (sl 4 0 4 4), I 18, I 19, (sl 245 0 4 4), (.func (.func 169) #[] #[(pt 246 0)]), (sl 4 0 4 4), I 4, (sl 248 0 4 4), (.func (.func 196) #[] #[(pt 249 0)]), U, U, U, U, U, U, U, I 4, (sl 285 0 2 2), I 18]
noncomputable def bX11 : Heap := [(rrow [I 10, I 20] 3), (rrow [I 12, I 20] 3), (rrow [I 11, I 26] 3), (rrow [I 30, I 20] 3), rowBq_33, (rvar [(sl 285 0 2 2)] 103), (rvar [I 18] 3), rowBq_34, rowBq_36, (rvar [I 0] 3), (rvar [sn] 103), rowBq_87, rowBq_83, (rvar [(sl 12 0 4 4)] 23), rowBq_4, (rvar [(.func (.yield 14) #[] #[])] 238), (rvar [I 0, I 1] 26), rowBq_69, (rrow [I 2, I 3] 3), (rvar [(sl 18 0 2 2)] 23), rowBq_18, (rvar [(.func (.yield 20) #[] #[])] 238), (rvar [I 2, I 3] 26), rowBq_70, (rvar [sn] 23), rowBq_29, (rvar [(.func (.yield 25) #[] #[])] 238), (rrow [I 2, I 3] 26), rowBq_99, (rrow [I 2, I 3] 26), (rrow [I 0, I 1] 26), rowBq_65, rowBq_80, (rvar [I 0, I 2] 26), rowBq_71, (rrow [I 1, I 3] 3), (rvar [(sl 35 0 2 2)] 23), rowBq_11, (rvar [(.func (.yield 37) #[] #[])] 238), (rvar [I 1, I 3] 26), rowBq_72, (rvar [sn] 23), rowBq_30, (rvar [(.func (.yield 42) #[] #[])] 238), (rrow [I 1, I 3] 26), rowBq_100, (rrow [I 1, I 3] 26), (rrow [I 0, I 2] 26), rowBq_66, rowBq_81, (rvar [I 0, I 3] 26), rowBq_73, (rrow [I 1, I 2] 3), (rvar [(sl 52 0 2 2)] 23), rowBq_12, (rvar [(.func (.yield 54) #[] #[])] 238), (rvar [I 1, I 2] 26), rowBq_74, (rvar [sn] 23), rowBq_31, (rvar [(.func (.yield 59) #[] #[])] 238), (rrow [I 1, I 2] 26), rowBq_101, (rrow [I 1, I 2] 26), (rrow [I 0, I 3] 26), rowBq_67, rowBq_82, (rvar [I 2] 3), (rrow [I 0, I 1] 26), (rvar [(sl 68 0 1 1)] 103), rowBq_88, rowBq_83, (rvar [(sl 71 0 4 4)] 23), rowBq_3, (rvar [(.func (.yield 73) #[] #[])] 238), (rvar [I 0, I 1] 26), rowBq_75, (rrow [I 2, I 3] 3), (rvar [(sl 77 0 2 2)] 23), rowBq_19, (rvar [(.func (.yield 79) #[] #[])] 238), (rvar [I 2, I 3] 26), rowBq_76, (rvar [sn] 23), rowBq_32, (rvar [(.func (.yield 84) #[] #[])] 238), (rrow [I 2, I 3] 26), rowBq_102, (rrow [I 2, I 3] 26), (rrow [I 0, I 1] 26), rowBq_68, rowBq_80, (rvar [I 0, I 2] 26), rowBq_77, (rrow [I 1, I 3] 3), (rvar [(sl 94 0 2 2)] 23), rowBq_13, (rvar [(.func (.yield 96) #[] #[])] 238), (rvar [I 1, I 3] 26), rowBq_78, (rvar [sn] 23), rowBq_28, (rvar [(.func (.yield 101) #[] #[])] 238), (rrow [I 1, I 3] 26), rowBq_89, (rrow [I 1, I 3] 26), (rrow [I 0, I 2] 26), rowBq_38, rowBq_81, (rvar [I 0, I 3] 26), rowBq_79, (rrow [I 1, I 2] 3), (rvar [(sl 111 0 2 2)] 23), rowBq_10, (rvar [(.func (.yield 113) #[] #[])] 238), (rvar [I 1, I 2] 26), rowBq_48, (rvar [sn] 23), rowBq_20, (rvar [(.func (.yield 118) #[] #[])] 238), (rrow [I 1, I 2] 26), rowBq_90, (rrow [I 1, I 2] 26), (rrow [I 0, I 3] 26), rowBq_39, rowBq_82, (rvar [I 6] 3), rowBq_37, (rvar [(sl 127 0 3 3)] 103), rowBq_84, rowBq_83, (rvar [(sl 130 0 4 4)] 23), rowBq_1, (rvar [(.func (.yield 132) #[] #[])] 238), (rvar [I 0, I 1] 26), rowBq_49, (rrow [I 2, I 3] 3), (rvar [(sl 136 0 2 2)] 23), rowBq_14, (rvar [(.func (.yield 138) #[] #[])] 238), (rvar [I 2, I 3] 26), rowBq_50, (rvar [sn] 23), rowBq_21, (rvar [(.func (.yield 143) #[] #[])] 238), (rrow [I 2, I 3] 26), rowBq_91, (rrow [I 2, I 3] 26), (rrow [I 0, I 1] 26), rowBq_40, rowBq_80, (rvar [I 0, I 2] 26), rowBq_51, (rrow [I 1, I 3] 3), (rvar [(sl 153 0 2 2)] 23), rowBq_6, (rvar [(.func (.yield 155) #[] #[])] 238), (rvar [I 1, I 3] 26), rowBq_52, (rvar [sn] 23), rowBq_22, (rvar [(.func (.yield 160) #[] #[])] 238), (rrow [I 1, I 3] 26), rowBq_92, (rrow [I 1, I 3] 26), (rrow [I 0, I 2] 26), rowBq_41, rowBq_81, (rvar [I 0, I 3] 26), rowBq_53, (rrow [I 1, I 2] 3), (rvar [(sl 170 0 2 2)] 23), rowBq_7, (rvar [(.func (.yield 172) #[] #[])] 238), (rvar [I 1, I 2] 26), rowBq_54, (rvar [sn] 23), rowBq_23, (rvar [(.func (.yield 177) #[] #[])] 238), (rrow [I 1, I 2] 26), rowBq_93, (rrow [I 1, I 2] 26), (rrow [I 0, I 3] 26), rowBq_42, rowBq_82, (rvar [I 6] 3), rowBq_37, (rvar [(sl 186 0 3 3)] 103), rowBq_85, rowBq_83, (rvar [(sl 189 0 4 4)] 23), rowBq_2, (rvar [(.func (.yield 191) #[] #[])] 238), (rvar [I 0, I 1] 26), rowBq_55, (rrow [I 2, I 3] 3), (rvar [(sl 195 0 2 2)] 23), rowBq_15, (rvar [(.func (.yield 197) #[] #[])] 238), (rvar [I 2, I 3] 26), rowBq_56, (rvar [sn] 23), rowBq_24, (rvar [(.func (.yield 202) #[] #[])] 238), (rrow [I 2, I 3] 26), rowBq_94, (rrow [I 2, I 3] 26), (rrow [I 0, I 1] 26), rowBq_43, rowBq_80, (rvar [I 0, I 2] 26), rowBq_57, (rrow [I 1, I 3] 3), (rvar [(sl 212 0 2 2)] 23), rowBq_8, (rvar [(.func (.yield 214) #[] #[])] 238), (rvar [I 1, I 3] 26), rowBq_58, (rvar [sn] 23), rowBq_25, (rvar [(.func (.yield 219) #[] #[])] 238), (rrow [I 1, I 3] 26), rowBq_95, (rrow [I 1, I 3] 26), (rrow [I 0, I 2] 26), rowBq_44, rowBq_81, (rvar [I 0, I 3] 26), rowBq_59, (rrow [I 1, I 2] 3), (rvar [(sl 229 0 2 2)] 23), rowBq_9, (rvar [(.func (.yield 231) #[] #[])] 238), (rvar [I 1, I 2] 26), rowBq_60, (rvar [sn] 23), rowBq_26, (rvar [(.func (.yield 236) #[] #[])] 238), (rrow [I 1, I 2] 26), rowBq_96, (rrow [I 1, I 2] 26), (rrow [I 0, I 3] 26), rowBq_45, rowBq_82, (rvar [I 18] 3), rowBq_35, (rvar [(sl 245 0 4 4)] 103), rowBq_86, rowBq_83, (rvar [(sl 248 0 4 4)] 23), rowBq_0, (rvar [(.func (.yield 250) #[] #[])] 238), (rvar [I 0, I 1] 26), rowBq_61, (rrow [I 2, I 3] 3), (rvar [(sl 254 0 2 2)] 23), rowBq_16, (rvar [(.func (.yield 256) #[] #[])] 238), (rvar [I 2, I 3] 26), rowBq_62, (rvar [sn] 23), rowBq_27, (rvar [(.func (.yield 261) #[] #[])] 238), (rrow [I 2, I 3] 26), rowBq_97, (rrow [I 2, I 3] 26), (rrow [I 0, I 1] 26), rowBq_46, rowBq_80, (rvar [I 0, I 2] 26), rowBq_63, (rrow [I 1, I 3] 3), (rvar [(sl 271 0 2 2)] 23), rowBq_5, (rvar [(.func (.yield 273) #[] #[])] 238), (rvar [I 1, I 3] 26), rowBq_64, (rvar [sn] 23), rowBq_17, (rvar [(.func (.yield 278) #[] #[])] 238), (rrow [I 1, I 3] 26), rowBq_98, (rrow [I 1, I 3] 26), (rrow [I 0, I 2] 26), rowBq_47, rowBq_81]
theorem bc10 : aRun Tryz.prog env0 100000 5 ([.code (seqAt 4 (bodyS (seqAt 1 (bodyOf 128))))]) bL10 bX10 = some (bL11, bX11, none) := by kernel_rfl
end Go.Proofs.YtinkgnklhcjejaaGreat
/-
No set of the units of the examples proves that there is no pairing below 19, piece by piece.
-/
namespace Go.Proofs.YtinkgnklhcjejaaGreat
open Go Go.Abs
def codeBp_0 : Code := (.block (3) (.seq (.region (10) (#[{ dst := some 37, op := Op.load 34 (Operand.tmp 2), type := 34, pos := "proofs.go:76", after := #[], guard := none }, { dst := some 38, op := Op.call { callee := Callee.builtin Builtin.len, args := #[Operand.tmp 37], argTypes := #[34] }, type := 3, pos := "proofs.go:76", after := #[{ on := 0, ground := Ground.data }], guard := none }, { dst := some 39, op := Op.load 103 (Operand.tmp 7), type := 103, pos := "proofs.go:76", after := #[], guard := none }, { dst := some 40, op := Op.move (Operand.tmp 9), type := 23, pos := "proofs.go:76", after := #[], guard := none }, { dst := some 41, op := Op.call { callee := Callee.value (Operand.func 142), args := #[Operand.tmp 38, Operand.tmp 39, Operand.tmp 40], argTypes := #[3, 103, 23] }, type := 4, pos := "proofs.go:76", after := #[{ on := 1, ground := Ground.data }, { on := 2, ground := Ground.data }, { on := 3, ground := Ground.data }], guard := none }]) false) (.cond (Go.Operand.tmp (41)) (.seq (.region (11) (#[{ dst := some 42, op := Op.move (Operand.tmp 9), type := 23, pos := "proofs.go:77", after := #[], guard := none }, { dst := none, op := Op.store 23 (Operand.tmp 4) (Operand.tmp 42), type := 0, pos := "proofs.go:77", after := #[{ on := 0, ground := Ground.data }, { on := 0, ground := Ground.phase }], guard := none }, { dst := none, op := Op.store 31 (Operand.tmp 5) (Operand.const (Value.int IntKind.i64 0)), type := 0, pos := "proofs.go:77", after := #[{ on := 1, ground := Ground.chain }, { on := 0, ground := Ground.phase }, { on := 1, ground := Ground.phase }], guard := none }]) false) .ret) .skip)))
def codeBp_1 : Code := (.block (3) (.seq (.region (8) (#[{ dst := some 24, op := Op.load 218 (Operand.tmp 4), type := 218, pos := "proofs.go:55", after := #[], guard := none }, { dst := some 25, op := Op.load 3 (Operand.tmp 5), type := 3, pos := "proofs.go:55", after := #[], guard := none }, { dst := some 26, op := Op.buildSlice 23 1 #[(0, Operand.tmp 25)], type := 23, pos := "proofs.go:55", after := #[{ on := 1, ground := Ground.data }], guard := none }, { dst := some 27, op := Op.move (Operand.tmp 6), type := 23, pos := "proofs.go:55", after := #[], guard := none }, { dst := some 28, op := Op.buildSlice 223 2 #[(0, Operand.tmp 26), (1, Operand.tmp 27)], type := 223, pos := "proofs.go:55", after := #[{ on := 2, ground := Ground.data }, { on := 3, ground := Ground.data }], guard := none }, { dst := some 29, op := Op.call { callee := Callee.value (Operand.func 163), args := #[Operand.tmp 28], argTypes := #[223] }, type := 23, pos := "proofs.go:55", after := #[{ on := 4, ground := Ground.data }], guard := none }, { dst := some 30, op := Op.call { callee := Callee.value (Operand.tmp 24), args := #[Operand.tmp 29], argTypes := #[23] }, type := 4, pos := "proofs.go:55", after := #[{ on := 0, ground := Ground.data }, { on := 5, ground := Ground.data }, { on := 5, ground := Ground.chain }], guard := none }, { dst := some 31, op := Op.unOp UnOp.not 4 (Operand.tmp 30), type := 4, pos := "proofs.go:55", after := #[{ on := 6, ground := Ground.data }], guard := none }]) true) (.cond (Go.Operand.tmp (31)) .ret .skip)))
noncomputable def rowBp_0 : Option ARow := (.some (.loop [(sl 4 0 4 4), I 19, (pt 5 0), U, (pt 6 0), (pt 7 0), I 0, (pt 10 0), I 3, U, (sl 4 0 4 4), I 0, (sl 4 0 4 4), I 4, (.bool false), I 0, I 19, I 0, (sl 8 0 3 3), I 0, I 0, (.bool false), U, (sl 4 0 4 4), I 19, (sl 9 0 4 4), (sl 4 0 4 4), I 4, I 5, I 3, (.bool true), I 3, (sl 4 0 4 4), I 4, I 3, (.func (.func 177) #[] #[(pt 166 0), (pt 164 0), (pt 165 0)]), U, U, U, U, U, U, U, I 3] #[36] (.region (9) (#[{ dst := some 9, op := Op.assign (Operand.tmp 36), type := 23, pos := "proofs.go:75", after := #[], guard := none }]) false) codeBp_0 .exhausted .none))
noncomputable def rowBp_1 : Option ARow := (.some (.loop [(sl 4 0 4 4), I 19, (pt 5 0), U, (pt 6 0), (pt 7 0), I 0, (pt 10 0), I 4, U, (sl 4 0 4 4), I 0, (sl 4 0 4 4), I 4, (.bool false), I 0, I 19, I 0, (sl 8 0 3 3), I 0, I 0, (.bool false), U, (sl 4 0 4 4), I 19, (sl 9 0 4 4), (sl 4 0 4 4), I 4, I 5, I 4, (.bool true), I 4, (sl 4 0 4 4), I 4, I 4, (.func (.func 177) #[] #[(pt 302 0), (pt 300 0), (pt 301 0)]), U, U, U, U, U, U, U, I 4] #[36] (.region (9) (#[{ dst := some 9, op := Op.assign (Operand.tmp 36), type := 23, pos := "proofs.go:75", after := #[], guard := none }]) false) codeBp_0 .exhausted .none))
noncomputable def rowBp_2 : Option ARow := (.some (.loop [(sl 4 0 4 4), I 19, (pt 5 0), U, (pt 6 0), (pt 7 0), I 0, (pt 10 0), I 1, U, (sl 4 0 4 4), I 0, (sl 4 0 4 4), I 4, (.bool false), I 0, I 19, I 0, (sl 8 0 3 3), I 0, I 0, (.bool false), U, (sl 4 0 4 4), I 19, (sl 9 0 4 4), (sl 4 0 4 4), I 4, I 5, I 1, (.bool true), I 1, (sl 4 0 4 4), I 4, I 1, (.func (.func 177) #[] #[(pt 18 0), (pt 16 0), (pt 17 0)]), U, U, U, U, U, U, U, I 1] #[36] (.region (9) (#[{ dst := some 9, op := Op.assign (Operand.tmp 36), type := 23, pos := "proofs.go:75", after := #[], guard := none }]) false) codeBp_0 .exhausted .none))
noncomputable def rowBp_3 : Option ARow := (.some (.loop [(sl 4 0 4 4), I 19, (pt 5 0), U, (pt 6 0), (pt 7 0), I 0, (pt 10 0), I 2, U, (sl 4 0 4 4), I 0, (sl 4 0 4 4), I 4, (.bool false), I 0, I 19, I 0, (sl 8 0 3 3), I 0, I 0, (.bool false), U, (sl 4 0 4 4), I 19, (sl 9 0 4 4), (sl 4 0 4 4), I 4, I 5, I 2, (.bool true), I 2, (sl 4 0 4 4), I 4, I 2, (.func (.func 177) #[] #[(pt 60 0), (pt 58 0), (pt 59 0)]), U, U, U, U, U, U, U, I 2] #[36] (.region (9) (#[{ dst := some 9, op := Op.assign (Operand.tmp 36), type := 23, pos := "proofs.go:75", after := #[], guard := none }]) false) codeBp_0 .exhausted .none))
noncomputable def rowBp_4 : Option ARow := (.some (.loop ([(sl 4 0 4 4), I 19, (pt 5 0), U, (pt 6 0), (pt 7 0), I 0, (pt 10 0), I 0, U, (sl 4 0 4 4), I 0, (sl 4 0 4 4), I 4, (.bool false), I 0, I 19, I 0, (sl 8 0 3 3), I 0, I 0, (.bool false), U, (sl 4 0 4 4), I 19, (sl 9 0 4 4), (sl 4 0 4 4), I 4, I 5, I 0, (.bool true), I 0, (sl 4 0 4 4), I 4, I 0, (.func (.func 177) #[] #[(pt 13 0), (pt 11 0), (pt 12 0)])] ++ us 8) #[36] (.region (9) (#[{ dst := some 9, op := Op.assign (Operand.tmp 36), type := 23, pos := "proofs.go:75", after := #[], guard := none }]) false) codeBp_0 .exhausted .none))
noncomputable def rowBp_5 : Option ARow := (.some (.loop [(.func (.yield 110) #[] #[]), (pt 109 0), (pt 107 0), (pt 108 0), (pt 111 0), (pt 124 0), U, I 1, (.bool false), U, U, I 2, I 3, I 4, (.bool true), I 2, I 3, I 3, I 4, I 4, I 1, I 0, (.func (.func 177) #[] #[(pt 127 0), (pt 125 0), (pt 126 0)]), U, U, U, U, U, U, U, U, U, I 2] #[23] (.region (7) (#[{ dst := some 6, op := Op.assign (Operand.tmp 23), type := 23, pos := "proofs.go:54", after := #[], guard := none }]) false) codeBp_1 .exhausted .none))
noncomputable def rowBp_6 : Option ARow := (.some (.loop [(.func (.yield 179) #[] #[]), (pt 178 0), (pt 176 0), (pt 177 0), (pt 180 0), (pt 196 0), U, I 1, (.bool false), U, U, I 2, I 3, I 4, (.bool true), I 2, I 3, I 3, I 4, I 4, I 1, I 0, (.func (.func 177) #[] #[(pt 199 0), (pt 197 0), (pt 198 0)]), U, U, U, U, U, U, U, U, U, I 2] #[23] (.region (7) (#[{ dst := some 6, op := Op.assign (Operand.tmp 23), type := 23, pos := "proofs.go:54", after := #[], guard := none }]) false) codeBp_1 .exhausted .none))
noncomputable def rowBp_7 : Option ARow := (.some (.loop [(.func (.yield 173) #[] #[]), (pt 172 0), (pt 170 0), (pt 171 0), (pt 174 0), (pt 212 0), U, I 2, (.bool false), U, U, I 1, I 2, I 4, (.bool true), I 1, I 2, I 2, I 3, I 4, I 2, I 1, (.func (.func 177) #[] #[(pt 215 0), (pt 213 0), (pt 214 0)]), U, U, U, U, U, U, U, U, U, I 1] #[23] (.region (7) (#[{ dst := some 6, op := Op.assign (Operand.tmp 23), type := 23, pos := "proofs.go:54", after := #[], guard := none }]) false) codeBp_1 .exhausted .none))
noncomputable def rowBp_8 : Option ARow := (.some (.loop [(.func (.yield 173) #[] #[]), (pt 172 0), (pt 170 0), (pt 171 0), (pt 174 0), (pt 234 0), U, I 2, (.bool false), U, U, I 1, I 3, I 4, (.bool true), I 2, I 3, I 3, I 4, I 4, I 2, I 1, (.func (.func 177) #[] #[(pt 237 0), (pt 235 0), (pt 236 0)]), U, U, U, U, U, U, U, U, U, I 2] #[23] (.region (7) (#[{ dst := some 6, op := Op.assign (Operand.tmp 23), type := 23, pos := "proofs.go:54", after := #[], guard := none }]) false) codeBp_1 .exhausted .none))
noncomputable def rowBp_9 : Option ARow := (.some (.loop [(.func (.yield 167) #[] #[]), (pt 166 0), (pt 164 0), (pt 165 0), (pt 168 0), (pt 242 0), U, I 3, (.bool false), U, U, I 0, I 1, I 4, (.bool true), I 0, I 1, I 1, I 2, I 4, I 3, I 2, (.func (.func 177) #[] #[(pt 245 0), (pt 243 0), (pt 244 0)]), U, U, U, U, U, U, U, U, U, I 0] #[23] (.region (7) (#[{ dst := some 6, op := Op.assign (Operand.tmp 23), type := 23, pos := "proofs.go:54", after := #[], guard := none }]) false) codeBp_1 .exhausted .none))
noncomputable def rowBp_10 : Option ARow := (.some (.loop [(.func (.yield 246) #[] #[]), (pt 245 0), (pt 243 0), (pt 244 0), (pt 247 0), (pt 270 0), U, I 2, (.bool false), U, U, I 2, I 3, I 4, (.bool true), I 2, I 3, I 3, I 4, I 4, I 2, I 1, (.func (.func 177) #[] #[(pt 273 0), (pt 271 0), (pt 272 0)]), U, U, U, U, U, U, U, U, U, I 2] #[23] (.region (7) (#[{ dst := some 6, op := Op.assign (Operand.tmp 23), type := 23, pos := "proofs.go:54", after := #[], guard := none }]) false) codeBp_1 .exhausted .none))
noncomputable def rowBp_11 : Option ARow := (.some (.loop [(.func (.yield 167) #[] #[]), (pt 166 0), (pt 164 0), (pt 165 0), (pt 168 0), (pt 278 0), U, I 3, (.bool false), U, U, I 0, I 2, I 4, (.bool true), I 1, I 2, I 2, I 3, I 4, I 3, I 2, (.func (.func 177) #[] #[(pt 281 0), (pt 279 0), (pt 280 0)]), U, U, U, U, U, U, U, U, U, I 1] #[23] (.region (7) (#[{ dst := some 6, op := Op.assign (Operand.tmp 23), type := 23, pos := "proofs.go:54", after := #[], guard := none }]) false) codeBp_1 .exhausted .none))
noncomputable def rowBp_12 : Option ARow := (.some (.loop [(.func (.yield 167) #[] #[]), (pt 166 0), (pt 164 0), (pt 165 0), (pt 168 0), (pt 292 0), U, I 3, (.bool false), U, U, I 0, I 3, I 4, (.bool true), I 2, I 3, I 3, I 4, I 4, I 3, I 2, (.func (.func 177) #[] #[(pt 295 0), (pt 293 0), (pt 294 0)]), U, U, U, U, U, U, U, U, U, I 2] #[23] (.region (7) (#[{ dst := some 6, op := Op.assign (Operand.tmp 23), type := 23, pos := "proofs.go:54", after := #[], guard := none }]) false) codeBp_1 .exhausted .none))
noncomputable def rowBp_13 : Option ARow := (.some (.loop [(.func (.yield 315) #[] #[]), (pt 314 0), (pt 312 0), (pt 313 0), (pt 316 0), (pt 342 0), U, I 2, (.bool false), U, U, I 2, I 3, I 4, (.bool true), I 2, I 3, I 3, I 4, I 4, I 2, I 1, (.func (.func 177) #[] #[(pt 345 0), (pt 343 0), (pt 344 0)]), U, U, U, U, U, U, U, U, U, I 2] #[23] (.region (7) (#[{ dst := some 6, op := Op.assign (Operand.tmp 23), type := 23, pos := "proofs.go:54", after := #[], guard := none }]) false) codeBp_1 .exhausted .none))
noncomputable def rowBp_14 : Option ARow := (.some (.loop [(.func (.yield 309) #[] #[]), (pt 308 0), (pt 306 0), (pt 307 0), (pt 310 0), (pt 350 0), U, I 3, (.bool false), U, U, I 1, I 2, I 4, (.bool true), I 1, I 2, I 2, I 3, I 4, I 3, I 2, (.func (.func 177) #[] #[(pt 353 0), (pt 351 0), (pt 352 0)]), U, U, U, U, U, U, U, U, U, I 1] #[23] (.region (7) (#[{ dst := some 6, op := Op.assign (Operand.tmp 23), type := 23, pos := "proofs.go:54", after := #[], guard := none }]) false) codeBp_1 .exhausted .none))
noncomputable def rowBp_15 : Option ARow := (.some (.loop [(.func (.yield 309) #[] #[]), (pt 308 0), (pt 306 0), (pt 307 0), (pt 310 0), (pt 364 0), U, I 3, (.bool false), U, U, I 1, I 3, I 4, (.bool true), I 2, I 3, I 3, I 4, I 4, I 3, I 2, (.func (.func 177) #[] #[(pt 367 0), (pt 365 0), (pt 366 0)]), U, U, U, U, U, U, U, U, U, I 2] #[23] (.region (7) (#[{ dst := some 6, op := Op.assign (Operand.tmp 23), type := 23, pos := "proofs.go:54", after := #[], guard := none }]) false) codeBp_1 .exhausted .none))
noncomputable def rowBp_16 : Option ARow := (.some (.loop [(.func (.yield 303) #[] #[]), (pt 302 0), (pt 300 0), (pt 301 0), (pt 304 0), (pt 372 0), U, I 4, (.bool false), U, U, I 0, I 1, I 4, (.bool true), I 0, I 1, I 1, I 2, I 4, I 4, I 3, (.func (.func 177) #[] #[(pt 375 0), (pt 373 0), (pt 374 0)]), U, U, U, U, U, U, U, U, U, I 0] #[23] (.region (7) (#[{ dst := some 6, op := Op.assign (Operand.tmp 23), type := 23, pos := "proofs.go:54", after := #[], guard := none }]) false) codeBp_1 .exhausted .none))
noncomputable def rowBp_17 : Option ARow := (.some (.loop [(.func (.yield 376) #[] #[]), (pt 375 0), (pt 373 0), (pt 374 0), (pt 377 0), (pt 392 0), U, I 3, (.bool false), U, U, I 2, I 3, I 4, (.bool true), I 2, I 3, I 3, I 4, I 4, I 3, I 2, (.func (.func 177) #[] #[(pt 395 0), (pt 393 0), (pt 394 0)]), U, U, U, U, U, U, U, U, U, I 2] #[23] (.region (7) (#[{ dst := some 6, op := Op.assign (Operand.tmp 23), type := 23, pos := "proofs.go:54", after := #[], guard := none }]) false) codeBp_1 .exhausted .none))
noncomputable def rowBp_18 : Option ARow := (.some (.loop [(.func (.yield 303) #[] #[]), (pt 302 0), (pt 300 0), (pt 301 0), (pt 304 0), (pt 400 0), U, I 4, (.bool false), U, U, I 0, I 2, I 4, (.bool true), I 1, I 2, I 2, I 3, I 4, I 4, I 3, (.func (.func 177) #[] #[(pt 403 0), (pt 401 0), (pt 402 0)]), U, U, U, U, U, U, U, U, U, I 1] #[23] (.region (7) (#[{ dst := some 6, op := Op.assign (Operand.tmp 23), type := 23, pos := "proofs.go:54", after := #[], guard := none }]) false) codeBp_1 .exhausted .none))
noncomputable def rowBp_19 : Option ARow := (.some (.loop [(.func (.yield 303) #[] #[]), (pt 302 0), (pt 300 0), (pt 301 0), (pt 304 0), (pt 414 0), U, I 4, (.bool false), U, U, I 0, I 3, I 4, (.bool true), I 2, I 3, I 3, I 4, I 4, I 4, I 3, (.func (.func 177) #[] #[(pt 417 0), (pt 415 0), (pt 416 0)]), U, U, U, U, U, U, U, U, U, I 2] #[23] (.region (7) (#[{ dst := some 6, op := Op.assign (Operand.tmp 23), type := 23, pos := "proofs.go:54", after := #[], guard := none }]) false) codeBp_1 .exhausted .none))
noncomputable def rowBp_20 : Option ARow := (.some (.loop [(.func (.yield 61) #[] #[]), (pt 60 0), (pt 58 0), (pt 59 0), (pt 62 0), (pt 106 0), U, I 2, (.bool false), U, U, I 0, I 1, I 4, (.bool true), I 0, I 1, I 1, I 2, I 4, I 2, I 1, (.func (.func 177) #[] #[(pt 109 0), (pt 107 0), (pt 108 0)]), U, U, U, U, U, U, U, U, U, I 0] #[23] (.region (7) (#[{ dst := some 6, op := Op.assign (Operand.tmp 23), type := 23, pos := "proofs.go:54", after := #[], guard := none }]) false) codeBp_1 .exhausted .none))
noncomputable def rowBp_21 : Option ARow := (.some (.loop [(.func (.yield 61) #[] #[]), (pt 60 0), (pt 58 0), (pt 59 0), (pt 62 0), (pt 137 0), U, I 2, (.bool false), U, U, I 0, I 2, I 4, (.bool true), I 1, I 2, I 2, I 3, I 4, I 2, I 1, (.func (.func 177) #[] #[(pt 140 0), (pt 138 0), (pt 139 0)]), U, U, U, U, U, U, U, U, U, I 1] #[23] (.region (7) (#[{ dst := some 6, op := Op.assign (Operand.tmp 23), type := 23, pos := "proofs.go:54", after := #[], guard := none }]) false) codeBp_1 .exhausted .none))
noncomputable def rowBp_22 : Option ARow := (.some (.loop [(.func (.yield 61) #[] #[]), (pt 60 0), (pt 58 0), (pt 59 0), (pt 62 0), (pt 156 0), U, I 2, (.bool false), U, U, I 0, I 3, I 4, (.bool true), I 2, I 3, I 3, I 4, I 4, I 2, I 1, (.func (.func 177) #[] #[(pt 159 0), (pt 157 0), (pt 158 0)]), U, U, U, U, U, U, U, U, U, I 2] #[23] (.region (7) (#[{ dst := some 6, op := Op.assign (Operand.tmp 23), type := 23, pos := "proofs.go:54", after := #[], guard := none }]) false) codeBp_1 .exhausted .none))
noncomputable def rowBp_23 : Option ARow := (.some (.loop [(.func (.yield 19) #[] #[]), (pt 18 0), (pt 16 0), (pt 17 0), (pt 20 0), (pt 30 0), U, I 1, (.bool false), U, U, I 0, I 1, I 4, (.bool true), I 0, I 1, I 1, I 2, I 4, I 1, I 0, (.func (.func 177) #[] #[(pt 33 0), (pt 31 0), (pt 32 0)]), U, U, U, U, U, U, U, U, U, I 0] #[23] (.region (7) (#[{ dst := some 6, op := Op.assign (Operand.tmp 23), type := 23, pos := "proofs.go:54", after := #[], guard := none }]) false) codeBp_1 .exhausted .none))
noncomputable def rowBp_24 : Option ARow := (.some (.loop [(.func (.yield 19) #[] #[]), (pt 18 0), (pt 16 0), (pt 17 0), (pt 20 0), (pt 39 0), U, I 1, (.bool false), U, U, I 0, I 2, I 4, (.bool true), I 1, I 2, I 2, I 3, I 4, I 1, I 0, (.func (.func 177) #[] #[(pt 42 0), (pt 40 0), (pt 41 0)]), U, U, U, U, U, U, U, U, U, I 1] #[23] (.region (7) (#[{ dst := some 6, op := Op.assign (Operand.tmp 23), type := 23, pos := "proofs.go:54", after := #[], guard := none }]) false) codeBp_1 .exhausted .none))
noncomputable def rowBp_25 : Option ARow := (.some (.loop [(.func (.yield 19) #[] #[]), (pt 18 0), (pt 16 0), (pt 17 0), (pt 20 0), (pt 48 0), U, I 1, (.bool false), U, U, I 0, I 3, I 4, (.bool true), I 2, I 3, I 3, I 4, I 4, I 1, I 0, (.func (.func 177) #[] #[(pt 51 0), (pt 49 0), (pt 50 0)]), U, U, U, U, U, U, U, U, U, I 2] #[23] (.region (7) (#[{ dst := some 6, op := Op.assign (Operand.tmp 23), type := 23, pos := "proofs.go:54", after := #[], guard := none }]) false) codeBp_1 .exhausted .none))
noncomputable def rowBp_26 : Option ARow := (.some (.loop [(.func (.yield 67) #[] #[]), (pt 66 0), (pt 64 0), (pt 65 0), (pt 68 0), (pt 81 0), U, I 1, (.bool false), U, U, I 1, I 2, I 4, (.bool true), I 1, I 2, I 2, I 3, I 4, I 1, I 0, (.func (.func 177) #[] #[(pt 84 0), (pt 82 0), (pt 83 0)]), U, U, U, U, U, U, U, U, U, I 1] #[23] (.region (7) (#[{ dst := some 6, op := Op.assign (Operand.tmp 23), type := 23, pos := "proofs.go:54", after := #[], guard := none }]) false) codeBp_1 .exhausted .none))
noncomputable def rowBp_27 : Option ARow := (.some (.loop [(.func (.yield 67) #[] #[]), (pt 66 0), (pt 64 0), (pt 65 0), (pt 68 0), (pt 93 0), U, I 1, (.bool false), U, U, I 1, I 3, I 4, (.bool true), I 2, I 3, I 3, I 4, I 4, I 1, I 0, (.func (.func 177) #[] #[(pt 96 0), (pt 94 0), (pt 95 0)]), U, U, U, U, U, U, U, U, U, I 2] #[23] (.region (7) (#[{ dst := some 6, op := Op.assign (Operand.tmp 23), type := 23, pos := "proofs.go:54", after := #[], guard := none }]) false) codeBp_1 .exhausted .none))
noncomputable def rowBp_28 : Option ARow := (.some (.loop ([(.func (.yield 110) #[] #[]), (pt 109 0), (pt 107 0), (pt 108 0), (pt 111 0), (pt 112 0), U, I 1, (.bool false), U, U, I 2, I 2, I 4, (.bool true), U, U, I 2, I 3, I 4, I 1, I 0, (.func (.func 177) #[] #[(pt 115 0), (pt 113 0), (pt 114 0)])] ++ us 10) #[23] (.region (7) (#[{ dst := some 6, op := Op.assign (Operand.tmp 23), type := 23, pos := "proofs.go:54", after := #[], guard := none }]) false) codeBp_1 .exhausted .none))
noncomputable def rowBp_29 : Option ARow := (.some (.loop ([(.func (.yield 141) #[] #[]), (pt 140 0), (pt 138 0), (pt 139 0), (pt 142 0), (pt 143 0), U, I 1, (.bool false), U, U, I 3, I 3, I 4, (.bool true), U, U, I 3, I 4, I 4, I 1, I 0, (.func (.func 177) #[] #[(pt 146 0), (pt 144 0), (pt 145 0)])] ++ us 10) #[23] (.region (7) (#[{ dst := some 6, op := Op.assign (Operand.tmp 23), type := 23, pos := "proofs.go:54", after := #[], guard := none }]) false) codeBp_1 .exhausted .none))
noncomputable def rowBp_30 : Option ARow := (.some (.loop ([(.func (.yield 167) #[] #[]), (pt 166 0), (pt 164 0), (pt 165 0), (pt 168 0), (pt 169 0), U, I 3, (.bool false), U, U, I 0, I 0, I 4, (.bool true), U, U, I 0, I 1, I 4, I 3, I 2, (.func (.func 177) #[] #[(pt 172 0), (pt 170 0), (pt 171 0)])] ++ us 10) #[23] (.region (7) (#[{ dst := some 6, op := Op.assign (Operand.tmp 23), type := 23, pos := "proofs.go:54", after := #[], guard := none }]) false) codeBp_1 .exhausted .none))
noncomputable def rowBp_31 : Option ARow := (.some (.loop ([(.func (.yield 173) #[] #[]), (pt 172 0), (pt 170 0), (pt 171 0), (pt 174 0), (pt 175 0), U, I 2, (.bool false), U, U, I 1, I 1, I 4, (.bool true), U, U, I 1, I 2, I 4, I 2, I 1, (.func (.func 177) #[] #[(pt 178 0), (pt 176 0), (pt 177 0)])] ++ us 10) #[23] (.region (7) (#[{ dst := some 6, op := Op.assign (Operand.tmp 23), type := 23, pos := "proofs.go:54", after := #[], guard := none }]) false) codeBp_1 .exhausted .none))
noncomputable def rowBp_32 : Option ARow := (.some (.loop ([(.func (.yield 179) #[] #[]), (pt 178 0), (pt 176 0), (pt 177 0), (pt 180 0), (pt 181 0), U, I 1, (.bool false), U, U, I 2, I 2, I 4, (.bool true), U, U, I 2, I 3, I 4, I 1, I 0, (.func (.func 177) #[] #[(pt 184 0), (pt 182 0), (pt 183 0)])] ++ us 10) #[23] (.region (7) (#[{ dst := some 6, op := Op.assign (Operand.tmp 23), type := 23, pos := "proofs.go:54", after := #[], guard := none }]) false) codeBp_1 .exhausted .none))
noncomputable def rowBp_33 : Option ARow := (.some (.loop ([(.func (.yield 216) #[] #[]), (pt 215 0), (pt 213 0), (pt 214 0), (pt 217 0), (pt 218 0), U, I 1, (.bool false), U, U, I 3, I 3, I 4, (.bool true), U, U, I 3, I 4, I 4, I 1, I 0, (.func (.func 177) #[] #[(pt 221 0), (pt 219 0), (pt 220 0)])] ++ us 10) #[23] (.region (7) (#[{ dst := some 6, op := Op.assign (Operand.tmp 23), type := 23, pos := "proofs.go:54", after := #[], guard := none }]) false) codeBp_1 .exhausted .none))
noncomputable def rowBp_34 : Option ARow := (.some (.loop ([(.func (.yield 246) #[] #[]), (pt 245 0), (pt 243 0), (pt 244 0), (pt 247 0), (pt 248 0), U, I 2, (.bool false), U, U, I 2, I 2, I 4, (.bool true), U, U, I 2, I 3, I 4, I 2, I 1, (.func (.func 177) #[] #[(pt 251 0), (pt 249 0), (pt 250 0)])] ++ us 10) #[23] (.region (7) (#[{ dst := some 6, op := Op.assign (Operand.tmp 23), type := 23, pos := "proofs.go:54", after := #[], guard := none }]) false) codeBp_1 .exhausted .none))
noncomputable def rowBp_35 : Option ARow := (.some (.loop ([(.func (.yield 252) #[] #[]), (pt 251 0), (pt 249 0), (pt 250 0), (pt 253 0), (pt 254 0), U, I 1, (.bool false), U, U, I 3, I 3, I 4, (.bool true), U, U, I 3, I 4, I 4, I 1, I 0, (.func (.func 177) #[] #[(pt 257 0), (pt 255 0), (pt 256 0)])] ++ us 10) #[23] (.region (7) (#[{ dst := some 6, op := Op.assign (Operand.tmp 23), type := 23, pos := "proofs.go:54", after := #[], guard := none }]) false) codeBp_1 .exhausted .none))
noncomputable def rowBp_36 : Option ARow := (.some (.loop ([(.func (.yield 282) #[] #[]), (pt 281 0), (pt 279 0), (pt 280 0), (pt 283 0), (pt 284 0), U, I 2, (.bool false), U, U, I 3, I 3, I 4, (.bool true), U, U, I 3, I 4, I 4, I 2, I 1, (.func (.func 177) #[] #[(pt 287 0), (pt 285 0), (pt 286 0)])] ++ us 10) #[23] (.region (7) (#[{ dst := some 6, op := Op.assign (Operand.tmp 23), type := 23, pos := "proofs.go:54", after := #[], guard := none }]) false) codeBp_1 .exhausted .none))
noncomputable def rowBp_37 : Option ARow := (.some (.loop ([(.func (.yield 303) #[] #[]), (pt 302 0), (pt 300 0), (pt 301 0), (pt 304 0), (pt 305 0), U, I 4, (.bool false), U, U, I 0, I 0, I 4, (.bool true), U, U, I 0, I 1, I 4, I 4, I 3, (.func (.func 177) #[] #[(pt 308 0), (pt 306 0), (pt 307 0)])] ++ us 10) #[23] (.region (7) (#[{ dst := some 6, op := Op.assign (Operand.tmp 23), type := 23, pos := "proofs.go:54", after := #[], guard := none }]) false) codeBp_1 .exhausted .none))
noncomputable def rowBp_38 : Option ARow := (.some (.loop ([(.func (.yield 309) #[] #[]), (pt 308 0), (pt 306 0), (pt 307 0), (pt 310 0), (pt 311 0), U, I 3, (.bool false), U, U, I 1, I 1, I 4, (.bool true), U, U, I 1, I 2, I 4, I 3, I 2, (.func (.func 177) #[] #[(pt 314 0), (pt 312 0), (pt 313 0)])] ++ us 10) #[23] (.region (7) (#[{ dst := some 6, op := Op.assign (Operand.tmp 23), type := 23, pos := "proofs.go:54", after := #[], guard := none }]) false) codeBp_1 .exhausted .none))
noncomputable def rowBp_39 : Option ARow := (.some (.loop ([(.func (.yield 315) #[] #[]), (pt 314 0), (pt 312 0), (pt 313 0), (pt 316 0), (pt 317 0), U, I 2, (.bool false), U, U, I 2, I 2, I 4, (.bool true), U, U, I 2, I 3, I 4, I 2, I 1, (.func (.func 177) #[] #[(pt 320 0), (pt 318 0), (pt 319 0)])] ++ us 10) #[23] (.region (7) (#[{ dst := some 6, op := Op.assign (Operand.tmp 23), type := 23, pos := "proofs.go:54", after := #[], guard := none }]) false) codeBp_1 .exhausted .none))
noncomputable def rowBp_40 : Option ARow := (.some (.loop ([(.func (.yield 321) #[] #[]), (pt 320 0), (pt 318 0), (pt 319 0), (pt 322 0), (pt 323 0), U, I 1, (.bool false), U, U, I 3, I 3, I 4, (.bool true), U, U, I 3, I 4, I 4, I 1, I 0, (.func (.func 177) #[] #[(pt 326 0), (pt 324 0), (pt 325 0)])] ++ us 10) #[23] (.region (7) (#[{ dst := some 6, op := Op.assign (Operand.tmp 23), type := 23, pos := "proofs.go:54", after := #[], guard := none }]) false) codeBp_1 .exhausted .none))
noncomputable def rowBp_41 : Option ARow := (.some (.loop ([(.func (.yield 354) #[] #[]), (pt 353 0), (pt 351 0), (pt 352 0), (pt 355 0), (pt 356 0), U, I 2, (.bool false), U, U, I 3, I 3, I 4, (.bool true), U, U, I 3, I 4, I 4, I 2, I 1, (.func (.func 177) #[] #[(pt 359 0), (pt 357 0), (pt 358 0)])] ++ us 10) #[23] (.region (7) (#[{ dst := some 6, op := Op.assign (Operand.tmp 23), type := 23, pos := "proofs.go:54", after := #[], guard := none }]) false) codeBp_1 .exhausted .none))
noncomputable def rowBp_42 : Option ARow := (.some (.loop ([(.func (.yield 376) #[] #[]), (pt 375 0), (pt 373 0), (pt 374 0), (pt 377 0), (pt 378 0), U, I 3, (.bool false), U, U, I 2, I 2, I 4, (.bool true), U, U, I 2, I 3, I 4, I 3, I 2, (.func (.func 177) #[] #[(pt 381 0), (pt 379 0), (pt 380 0)])] ++ us 10) #[23] (.region (7) (#[{ dst := some 6, op := Op.assign (Operand.tmp 23), type := 23, pos := "proofs.go:54", after := #[], guard := none }]) false) codeBp_1 .exhausted .none))
noncomputable def rowBp_43 : Option ARow := (.some (.loop ([(.func (.yield 382) #[] #[]), (pt 381 0), (pt 379 0), (pt 380 0), (pt 383 0), (pt 384 0), U, I 2, (.bool false), U, U, I 3, I 3, I 4, (.bool true), U, U, I 3, I 4, I 4, I 2, I 1, (.func (.func 177) #[] #[(pt 387 0), (pt 385 0), (pt 386 0)])] ++ us 10) #[23] (.region (7) (#[{ dst := some 6, op := Op.assign (Operand.tmp 23), type := 23, pos := "proofs.go:54", after := #[], guard := none }]) false) codeBp_1 .exhausted .none))
noncomputable def rowBp_44 : Option ARow := (.some (.loop ([(.func (.yield 404) #[] #[]), (pt 403 0), (pt 401 0), (pt 402 0), (pt 405 0), (pt 406 0), U, I 3, (.bool false), U, U, I 3, I 3, I 4, (.bool true), U, U, I 3, I 4, I 4, I 3, I 2, (.func (.func 177) #[] #[(pt 409 0), (pt 407 0), (pt 408 0)])] ++ us 10) #[23] (.region (7) (#[{ dst := some 6, op := Op.assign (Operand.tmp 23), type := 23, pos := "proofs.go:54", after := #[], guard := none }]) false) codeBp_1 .exhausted .none))
noncomputable def rowBp_45 : Option ARow := (.some (.loop ([(.func (.yield 19) #[] #[]), (pt 18 0), (pt 16 0), (pt 17 0), (pt 20 0), (pt 21 0), U, I 1, (.bool false), U, U, I 0, I 0, I 4, (.bool true), U, U, I 0, I 1, I 4, I 1, I 0, (.func (.func 177) #[] #[(pt 24 0), (pt 22 0), (pt 23 0)])] ++ us 10) #[23] (.region (7) (#[{ dst := some 6, op := Op.assign (Operand.tmp 23), type := 23, pos := "proofs.go:54", after := #[], guard := none }]) false) codeBp_1 .exhausted .none))
noncomputable def rowBp_46 : Option ARow := (.some (.loop ([(.func (.yield 61) #[] #[]), (pt 60 0), (pt 58 0), (pt 59 0), (pt 62 0), (pt 63 0), U, I 2, (.bool false), U, U, I 0, I 0, I 4, (.bool true), U, U, I 0, I 1, I 4, I 2, I 1, (.func (.func 177) #[] #[(pt 66 0), (pt 64 0), (pt 65 0)])] ++ us 10) #[23] (.region (7) (#[{ dst := some 6, op := Op.assign (Operand.tmp 23), type := 23, pos := "proofs.go:54", after := #[], guard := none }]) false) codeBp_1 .exhausted .none))
noncomputable def rowBp_47 : Option ARow := (.some (.loop ([(.func (.yield 67) #[] #[]), (pt 66 0), (pt 64 0), (pt 65 0), (pt 68 0), (pt 69 0), U, I 1, (.bool false), U, U, I 1, I 1, I 4, (.bool true), U, U, I 1, I 2, I 4, I 1, I 0, (.func (.func 177) #[] #[(pt 72 0), (pt 70 0), (pt 71 0)])] ++ us 10) #[23] (.region (7) (#[{ dst := some 6, op := Op.assign (Operand.tmp 23), type := 23, pos := "proofs.go:54", after := #[], guard := none }]) false) codeBp_1 .exhausted .none))
noncomputable def rowBp_48 : Option ARow := (rrow [(.string (ByteArray.mk #[(UInt8.ofNat 97)])), (sl 0 0 2 2), (.string (ByteArray.mk #[(UInt8.ofNat 98)])), (sl 1 0 2 2), (.string (ByteArray.mk #[(UInt8.ofNat 99)])), (sl 2 0 2 2), (.string (ByteArray.mk #[(UInt8.ofNat 100)])), (sl 3 0 2 2)] 54)
noncomputable def rowBp_49 : Option ARow := (rrow [I 0, I 1, I 0, I 2, I 1, I 2, I 1, I 3] 26)
noncomputable def rowBp_50 : Option ARow := (rrow [(sl 102 0 1 1), (sl 101 0 1 1)] 23)
noncomputable def rowBp_51 : Option ARow := (rrow [(sl 121 0 1 1), (sl 120 0 1 1)] 23)
noncomputable def rowBp_52 : Option ARow := (rrow [(sl 133 0 1 1), (sl 132 0 1 1)] 23)
noncomputable def rowBp_53 : Option ARow := (rrow [(sl 152 0 1 1), (sl 151 0 1 1)] 23)
noncomputable def rowBp_54 : Option ARow := (rrow [(sl 190 0 1 1), (sl 189 0 1 1)] 23)
noncomputable def rowBp_55 : Option ARow := (rrow [(sl 193 0 1 1), (sl 192 0 2 2)] 23)
noncomputable def rowBp_56 : Option ARow := (rrow [(sl 205 0 1 1), (sl 204 0 1 1)] 23)
noncomputable def rowBp_57 : Option ARow := (rrow [(sl 208 0 1 1), (sl 207 0 2 2)] 23)
noncomputable def rowBp_58 : Option ARow := (rrow [(sl 227 0 1 1), (sl 226 0 1 1)] 23)
noncomputable def rowBp_59 : Option ARow := (rrow [(sl 230 0 1 1), (sl 229 0 2 2)] 23)
noncomputable def rowBp_60 : Option ARow := (rrow [(sl 263 0 1 1), (sl 262 0 1 1)] 23)
noncomputable def rowBp_61 : Option ARow := (rrow [(sl 266 0 1 1), (sl 265 0 2 2)] 23)
noncomputable def rowBp_62 : Option ARow := (rrow [(sl 332 0 1 1), (sl 331 0 1 1)] 23)
noncomputable def rowBp_63 : Option ARow := (rrow [(sl 335 0 1 1), (sl 334 0 2 2)] 23)
noncomputable def rowBp_64 : Option ARow := (rrow [(sl 338 0 1 1), (sl 337 0 3 3)] 23)
noncomputable def rowBp_65 : Option ARow := (rrow [(sl 78 0 1 1), (sl 77 0 1 1)] 23)
noncomputable def rowBp_66 : Option ARow := (rrow [(sl 90 0 1 1), (sl 89 0 1 1)] 23)
noncomputable def rowBp_67 : Option ARow := (rrow [I 0, I 1, I 2, I 3] 3)
noncomputable def rowBp_68 : Option ARow := (rrow [(sl 118 0 1 1), sn] 23)
noncomputable def rowBp_69 : Option ARow := (rrow [(sl 130 0 1 1), sn] 23)
noncomputable def rowBp_70 : Option ARow := (rrow [(sl 149 0 1 1), sn] 23)
noncomputable def rowBp_71 : Option ARow := (rrow [(sl 187 0 1 1), sn] 23)
noncomputable def rowBp_72 : Option ARow := (rrow [(sl 202 0 1 1), sn] 23)
noncomputable def rowBp_73 : Option ARow := (rrow [(sl 224 0 1 1), sn] 23)
noncomputable def rowBp_74 : Option ARow := (rrow [(sl 260 0 1 1), sn] 23)
noncomputable def rowBp_75 : Option ARow := (rrow [(sl 329 0 1 1), sn] 23)
noncomputable def rowBp_76 : Option ARow := (rrow [(sl 27 0 1 1), sn] 23)
noncomputable def rowBp_77 : Option ARow := (rrow [(sl 36 0 1 1), sn] 23)
noncomputable def rowBp_78 : Option ARow := (rrow [(sl 45 0 1 1), sn] 23)
noncomputable def rowBp_79 : Option ARow := (rrow [(sl 54 0 1 1), sn] 23)
noncomputable def rowBp_80 : Option ARow := (rrow [(sl 75 0 1 1), sn] 23)
noncomputable def rowBp_81 : Option ARow := (rrow [(sl 87 0 1 1), sn] 23)
noncomputable def rowBp_82 : Option ARow := (rrow [(sl 99 0 1 1), sn] 23)
noncomputable def rowBp_83 : Option ARow := (rrow [I 0, I 0, I 0] 31)
noncomputable def rowBp_84 : Option ARow := (rrow [I 0, I 1, I 2] 3)
noncomputable def rowBp_85 : Option ARow := (rrow [I 0, I 1, I 3] 3)
noncomputable def rowBp_86 : Option ARow := (rrow [I 0, I 2, I 3] 3)
noncomputable def rowBp_87 : Option ARow := (rrow [I 1, I 2, I 3] 3)
noncomputable def pL0 : List Value := sl 4 0 4 4 :: I 19 :: us 42
noncomputable def pX0 : Heap := [some (.cells [I 10, I 20] 3 .row), some (.cells [I 12, I 20] 3 .row), some (.cells [I 11, I 26] 3 .row), some (.cells [I 30, I 20] 3 .row), some (.cells [.string (ByteArray.mk #[UInt8.ofNat 97]), sl 0 0 2 2, .string (ByteArray.mk #[UInt8.ofNat 98]), sl 1 0 2 2, .string (ByteArray.mk #[UInt8.ofNat 99]), sl 2 0 2 2, .string (ByteArray.mk #[UInt8.ofNat 100]), sl 3 0 2 2] 54 .row)]
noncomputable def pL1 : List Value := ([(sl 4 0 4 4), I 19, (pt 5 0), U, (pt 6 0), (pt 7 0)] ++ us 38)
noncomputable def pX1 : Heap := [(rrow [I 10, I 20] 3), (rrow [I 12, I 20] 3), (rrow [I 11, I 26] 3), (rrow [I 30, I 20] 3), rowBp_48, (rvar [(sl 4 0 4 4)] 34), (rvar [sn] 23), (rvar [I 0] 31)]
theorem pc0 : aRun Tryz.prog env0 100000 5 ([.code (seqAt 0 (bodyOf 74))]) pL0 pX0 = some (pL1, pX1, none) := by kernel_rfl
noncomputable def pL2 : List Value := ([(sl 4 0 4 4), I 19, (pt 5 0), U, (pt 6 0), (pt 7 0), I 0, U, U, U, (sl 4 0 4 4), I 0, (sl 4 0 4 4), I 4, (.bool false), I 0, I 19, I 0, (sl 8 0 3 3), I 0] ++ us 24)
noncomputable def pX2 : Heap := [(rrow [I 10, I 20] 3), (rrow [I 12, I 20] 3), (rrow [I 11, I 26] 3), (rrow [I 30, I 20] 3), rowBp_48, (rvar [(sl 4 0 4 4)] 34), (rvar [sn] 23), (rvar [I 0] 31), rowBp_83]
theorem pc1 : aRun Tryz.prog env0 100000 5 ([.code (seqAt 1 (bodyOf 74))]) pL1 pX1 = some (pL2, pX2, none) := by kernel_rfl
noncomputable def pL3 : List Value := ([(sl 4 0 4 4), I 19, (pt 5 0), U, (pt 6 0), (pt 7 0), I 0, U, U, U, (sl 4 0 4 4), I 0, (sl 4 0 4 4), I 4, (.bool false), I 0, I 19, I 0, (sl 8 0 3 3), I 0, I 0, (.bool false)] ++ us 22)
noncomputable def pX3 : Heap := [(rrow [I 10, I 20] 3), (rrow [I 12, I 20] 3), (rrow [I 11, I 26] 3), (rrow [I 30, I 20] 3), rowBp_48, (rvar [(sl 4 0 4 4)] 34), (rvar [sn] 23), (rvar [I 0] 31), rowBp_83]
theorem pc2 : aRun Tryz.prog env0 100000 5 ([.code (seqAt 2 (bodyOf 74))]) pL2 pX2 = some (pL3, pX3, none) := by kernel_rfl
noncomputable def pL4 : List Value := ([(sl 4 0 4 4), I 19, (pt 5 0), U, (pt 6 0), (pt 7 0), I 0, (pt 10 0), U, U, (sl 4 0 4 4), I 0, (sl 4 0 4 4), I 4, (.bool false), I 0, I 19, I 0, (sl 8 0 3 3), I 0, I 0, (.bool false), U, (sl 4 0 4 4), I 19, (sl 9 0 4 4)] ++ us 18)
noncomputable def pX4 : Heap := [(rrow [I 10, I 20] 3), (rrow [I 12, I 20] 3), (rrow [I 11, I 26] 3), (rrow [I 30, I 20] 3), rowBp_48, (rvar [(sl 4 0 4 4)] 34), (rvar [sn] 23), (rvar [I 0] 31), rowBp_83, rowBp_49, (rvar [(sl 9 0 4 4)] 103)]
theorem pc3 : aRun Tryz.prog env0 100000 5 ([.code (seqAt 3 (bodyOf 74))]) pL3 pX3 = some (pL4, pX4, none) := by kernel_rfl
noncomputable def pL5 : List Value := ([(sl 4 0 4 4), I 19, (pt 5 0), U, (pt 6 0), (pt 7 0), I 0, (pt 10 0), U, U, (sl 4 0 4 4), I 0, (sl 4 0 4 4), I 4, (.bool false), I 0, I 19, I 0, (sl 8 0 3 3), I 0, I 0, (.bool false), U, (sl 4 0 4 4), I 19, (sl 9 0 4 4), (sl 4 0 4 4), I 4, I 5, I 0] ++ us 14)
noncomputable def pX5 : Heap := [(rrow [I 10, I 20] 3), (rrow [I 12, I 20] 3), (rrow [I 11, I 26] 3), (rrow [I 30, I 20] 3), rowBp_48, (rvar [(sl 4 0 4 4)] 34), (rvar [sn] 23), (rvar [I 0] 31), rowBp_83, rowBp_49, (rvar [(sl 9 0 4 4)] 103)]
theorem pc4 : aRun Tryz.prog env0 100000 5 ([.code (seqAt 0 (seqAt 4 (bodyOf 74)))]) pL4 pX4 = some (pL5, pX5, none) := by kernel_rfl
noncomputable def pL6 : List Value := [(sl 4 0 4 4), I 19, (pt 5 0), U, (pt 6 0), (pt 7 0), I 0, (pt 10 0), I 0, U, (sl 4 0 4 4), I 0, (sl 4 0 4 4), I 4, (.bool false), I 0, I 19, I 0, (sl 8 0 3 3), I 0, I 0, (.bool false), U, (sl 4 0 4 4), I 19, (sl 9 0 4 4), (sl 4 0 4 4), I 4, I 5, I 1, (.bool true), I 0, (sl 4 0 4 4), I 4, I 0, (.func (.func 177) #[] #[(pt 13 0), (pt 11 0), (pt 12 0)]), U, U, U, U, U, U, U, I 1]
noncomputable def pX6 : Heap := [(rrow [I 10, I 20] 3), (rrow [I 12, I 20] 3), (rrow [I 11, I 26] 3), (rrow [I 30, I 20] 3), rowBp_48, (rvar [(sl 4 0 4 4)] 34), (rvar [sn] 23), (rvar [I 0] 31), rowBp_83, rowBp_49, (rvar [(sl 9 0 4 4)] 103), (rvar [I 0] 3), (rvar [I 4] 3), (rvar [I 0] 3), rowBp_4, (rvar [(.func (.yield 14) #[] #[])] 218)]
theorem pc5 : aRun Tryz.prog env0 100000 5 ([.code (round 0 (bodyOf 74))]) pL5 pX5 = some (pL6, pX6, none) := by kernel_rfl
noncomputable def pL7 : List Value := [(sl 4 0 4 4), I 19, (pt 5 0), U, (pt 6 0), (pt 7 0), I 0, (pt 10 0), I 1, U, (sl 4 0 4 4), I 0, (sl 4 0 4 4), I 4, (.bool false), I 0, I 19, I 0, (sl 8 0 3 3), I 0, I 0, (.bool false), U, (sl 4 0 4 4), I 19, (sl 9 0 4 4), (sl 4 0 4 4), I 4, I 5, I 2, (.bool true), I 1, (sl 4 0 4 4), I 4, I 1, (.func (.func 177) #[] #[(pt 18 0), (pt 16 0), (pt 17 0)]), U, U, U, U, U, U, U, I 2]
noncomputable def pX7 : Heap := [(rrow [I 10, I 20] 3), (rrow [I 12, I 20] 3), (rrow [I 11, I 26] 3), (rrow [I 30, I 20] 3), rowBp_48, (rvar [(sl 4 0 4 4)] 34), (rvar [sn] 23), (rvar [I 0] 31), rowBp_83, rowBp_49, (rvar [(sl 9 0 4 4)] 103), (rvar [I 0] 3), (rvar [I 4] 3), (rvar [I 0] 3), rowBp_4, (rvar [(.func (.yield 14) #[] #[])] 218), (rvar [I 0] 3), (rvar [I 4] 3), (rvar [I 1] 3), rowBp_2, (rvar [(.func (.yield 19) #[] #[])] 218), (rvar [I 0] 3), (rvar [I 1] 3), (rvar [I 4] 3), (rvar [I 0] 3), rowBp_45, (rvar [(.func (.yield 25) #[] #[])] 218), (rrow [I 0] 3), rowBp_76, (rrow [I 0] 3), (rvar [I 1] 3), (rvar [I 2] 3), (rvar [I 4] 3), (rvar [I 0] 3), rowBp_23, (rvar [(.func (.yield 34) #[] #[])] 218), (rrow [I 1] 3), rowBp_77, (rrow [I 1] 3), (rvar [I 2] 3), (rvar [I 3] 3), (rvar [I 4] 3), (rvar [I 0] 3), rowBp_24, (rvar [(.func (.yield 43) #[] #[])] 218), (rrow [I 2] 3), rowBp_78, (rrow [I 2] 3), (rvar [I 3] 3), (rvar [I 4] 3), (rvar [I 4] 3), (rvar [I 0] 3), rowBp_25, (rvar [(.func (.yield 52) #[] #[])] 218), (rrow [I 3] 3), rowBp_79, (rrow [I 3] 3), (rvar [I 4] 3)]
theorem pc6 : aRun Tryz.prog env0 100000 5 ([.code (round 0 (bodyOf 74))]) pL6 pX6 = some (pL7, pX7, none) := by kernel_rfl
noncomputable def pL8 : List Value := [(sl 4 0 4 4), I 19, (pt 5 0), U, (pt 6 0), (pt 7 0), I 0, (pt 10 0), I 2, U, (sl 4 0 4 4), I 0, (sl 4 0 4 4), I 4, (.bool false), I 0, I 19, I 0, (sl 8 0 3 3), I 0, I 0, (.bool false), U, (sl 4 0 4 4), I 19, (sl 9 0 4 4), (sl 4 0 4 4), I 4, I 5, I 3, (.bool true), I 2, (sl 4 0 4 4), I 4, I 2, (.func (.func 177) #[] #[(pt 60 0), (pt 58 0), (pt 59 0)]), U, U, U, U, U, U, U, I 3]
noncomputable def pX8 : Heap := [(rrow [I 10, I 20] 3), (rrow [I 12, I 20] 3), (rrow [I 11, I 26] 3), (rrow [I 30, I 20] 3), rowBp_48, (rvar [(sl 4 0 4 4)] 34), (rvar [sn] 23), (rvar [I 0] 31), rowBp_83, rowBp_49, (rvar [(sl 9 0 4 4)] 103), (rvar [I 0] 3), (rvar [I 4] 3), (rvar [I 0] 3), rowBp_4, (rvar [(.func (.yield 14) #[] #[])] 218), (rvar [I 0] 3), (rvar [I 4] 3), (rvar [I 1] 3), rowBp_2, (rvar [(.func (.yield 19) #[] #[])] 218), (rvar [I 0] 3), (rvar [I 1] 3), (rvar [I 4] 3), (rvar [I 0] 3), rowBp_45, (rvar [(.func (.yield 25) #[] #[])] 218), (rrow [I 0] 3), rowBp_76, (rrow [I 0] 3), (rvar [I 1] 3), (rvar [I 2] 3), (rvar [I 4] 3), (rvar [I 0] 3), rowBp_23, (rvar [(.func (.yield 34) #[] #[])] 218), (rrow [I 1] 3), rowBp_77, (rrow [I 1] 3), (rvar [I 2] 3), (rvar [I 3] 3), (rvar [I 4] 3), (rvar [I 0] 3), rowBp_24, (rvar [(.func (.yield 43) #[] #[])] 218), (rrow [I 2] 3), rowBp_78, (rrow [I 2] 3), (rvar [I 3] 3), (rvar [I 4] 3), (rvar [I 4] 3), (rvar [I 0] 3), rowBp_25, (rvar [(.func (.yield 52) #[] #[])] 218), (rrow [I 3] 3), rowBp_79, (rrow [I 3] 3), (rvar [I 4] 3), (rvar [I 0] 3), (rvar [I 4] 3), (rvar [I 2] 3), rowBp_3, (rvar [(.func (.yield 61) #[] #[])] 218), (rvar [I 0] 3), (rvar [I 1] 3), (rvar [I 4] 3), (rvar [I 1] 3), rowBp_46, (rvar [(.func (.yield 67) #[] #[])] 218), (rvar [I 1] 3), (rvar [I 2] 3), (rvar [I 4] 3), (rvar [I 0] 3), rowBp_47, (rvar [(.func (.yield 73) #[] #[])] 218), (rrow [I 1] 3), rowBp_80, (rrow [I 1] 3), (rrow [I 0] 3), rowBp_65, (rrow [I 0, I 1] 3), (rvar [I 2] 3), (rvar [I 3] 3), (rvar [I 4] 3), (rvar [I 0] 3), rowBp_26, (rvar [(.func (.yield 85) #[] #[])] 218), (rrow [I 2] 3), rowBp_81, (rrow [I 2] 3), (rrow [I 0] 3), rowBp_66, (rrow [I 0, I 2] 3), (rvar [I 3] 3), (rvar [I 4] 3), (rvar [I 4] 3), (rvar [I 0] 3), rowBp_27, (rvar [(.func (.yield 97) #[] #[])] 218), (rrow [I 3] 3), rowBp_82, (rrow [I 3] 3), (rrow [I 0] 3), rowBp_50, (rrow [I 0, I 3] 3), (rvar [I 4] 3), (rvar [I 1] 3), (rvar [I 2] 3), (rvar [I 4] 3), (rvar [I 1] 3), rowBp_20, (rvar [(.func (.yield 110) #[] #[])] 218), (rvar [I 2] 3), (rvar [I 3] 3), (rvar [I 4] 3), (rvar [I 0] 3), rowBp_28, (rvar [(.func (.yield 116) #[] #[])] 218), (rrow [I 2] 3), rowBp_68, (rrow [I 2] 3), (rrow [I 1] 3), rowBp_51, (rrow [I 1, I 2] 3), (rvar [I 3] 3), (rvar [I 4] 3), (rvar [I 4] 3), (rvar [I 0] 3), rowBp_5, (rvar [(.func (.yield 128) #[] #[])] 218), (rrow [I 3] 3), rowBp_69, (rrow [I 3] 3), (rrow [I 1] 3), rowBp_52, (rrow [I 1, I 3] 3), (rvar [I 4] 3), (rvar [I 2] 3), (rvar [I 3] 3), (rvar [I 4] 3), (rvar [I 1] 3), rowBp_21, (rvar [(.func (.yield 141) #[] #[])] 218), (rvar [I 3] 3), (rvar [I 4] 3), (rvar [I 4] 3), (rvar [I 0] 3), rowBp_29, (rvar [(.func (.yield 147) #[] #[])] 218), (rrow [I 3] 3), rowBp_70, (rrow [I 3] 3), (rrow [I 2] 3), rowBp_53, (rrow [I 2, I 3] 3), (rvar [I 4] 3), (rvar [I 3] 3), (rvar [I 4] 3), (rvar [I 4] 3), (rvar [I 1] 3), rowBp_22, (rvar [(.func (.yield 160) #[] #[])] 218), (rvar [I 4] 3), (rvar [I 4] 3)]
theorem pc7 : aRun Tryz.prog env0 100000 5 ([.code (round 0 (bodyOf 74))]) pL7 pX7 = some (pL8, pX8, none) := by kernel_rfl
noncomputable def pL9 : List Value := [(sl 4 0 4 4), I 19, (pt 5 0), U, (pt 6 0), (pt 7 0), I 0, (pt 10 0), I 3, U, (sl 4 0 4 4), I 0, (sl 4 0 4 4), I 4, (.bool false), I 0, I 19, I 0, (sl 8 0 3 3), I 0, I 0, (.bool false), U, (sl 4 0 4 4), I 19, (sl 9 0 4 4), (sl 4 0 4 4), I 4, I 5, I 4, (.bool true), I 3, (sl 4 0 4 4), I 4, I 3, (.func (.func 177) #[] #[(pt 166 0), (pt 164 0), (pt 165 0)]), U, U, U, U, U, U, U, I 4]
noncomputable def pX9 : Heap := [(rrow [I 10, I 20] 3), (rrow [I 12, I 20] 3), (rrow [I 11, I 26] 3), (rrow [I 30, I 20] 3), rowBp_48, (rvar [(sl 4 0 4 4)] 34), (rvar [sn] 23), (rvar [I 0] 31), rowBp_83, rowBp_49, (rvar [(sl 9 0 4 4)] 103), (rvar [I 0] 3), (rvar [I 4] 3), (rvar [I 0] 3), rowBp_4, (rvar [(.func (.yield 14) #[] #[])] 218), (rvar [I 0] 3), (rvar [I 4] 3), (rvar [I 1] 3), rowBp_2, (rvar [(.func (.yield 19) #[] #[])] 218), (rvar [I 0] 3), (rvar [I 1] 3), (rvar [I 4] 3), (rvar [I 0] 3), rowBp_45, (rvar [(.func (.yield 25) #[] #[])] 218), (rrow [I 0] 3), rowBp_76, (rrow [I 0] 3), (rvar [I 1] 3), (rvar [I 2] 3), (rvar [I 4] 3), (rvar [I 0] 3), rowBp_23, (rvar [(.func (.yield 34) #[] #[])] 218), (rrow [I 1] 3), rowBp_77, (rrow [I 1] 3), (rvar [I 2] 3), (rvar [I 3] 3), (rvar [I 4] 3), (rvar [I 0] 3), rowBp_24, (rvar [(.func (.yield 43) #[] #[])] 218), (rrow [I 2] 3), rowBp_78, (rrow [I 2] 3), (rvar [I 3] 3), (rvar [I 4] 3), (rvar [I 4] 3), (rvar [I 0] 3), rowBp_25, (rvar [(.func (.yield 52) #[] #[])] 218), (rrow [I 3] 3), rowBp_79, (rrow [I 3] 3), (rvar [I 4] 3), (rvar [I 0] 3), (rvar [I 4] 3), (rvar [I 2] 3), rowBp_3, (rvar [(.func (.yield 61) #[] #[])] 218), (rvar [I 0] 3), (rvar [I 1] 3), (rvar [I 4] 3), (rvar [I 1] 3), rowBp_46, (rvar [(.func (.yield 67) #[] #[])] 218), (rvar [I 1] 3), (rvar [I 2] 3), (rvar [I 4] 3), (rvar [I 0] 3), rowBp_47, (rvar [(.func (.yield 73) #[] #[])] 218), (rrow [I 1] 3), rowBp_80, (rrow [I 1] 3), (rrow [I 0] 3), rowBp_65, (rrow [I 0, I 1] 3), (rvar [I 2] 3), (rvar [I 3] 3), (rvar [I 4] 3), (rvar [I 0] 3), rowBp_26, (rvar [(.func (.yield 85) #[] #[])] 218), (rrow [I 2] 3), rowBp_81, (rrow [I 2] 3), (rrow [I 0] 3), rowBp_66, (rrow [I 0, I 2] 3), (rvar [I 3] 3), (rvar [I 4] 3), (rvar [I 4] 3), (rvar [I 0] 3), rowBp_27, (rvar [(.func (.yield 97) #[] #[])] 218), (rrow [I 3] 3), rowBp_82, (rrow [I 3] 3), (rrow [I 0] 3), rowBp_50, (rrow [I 0, I 3] 3), (rvar [I 4] 3), (rvar [I 1] 3), (rvar [I 2] 3), (rvar [I 4] 3), (rvar [I 1] 3), rowBp_20, (rvar [(.func (.yield 110) #[] #[])] 218), (rvar [I 2] 3), (rvar [I 3] 3), (rvar [I 4] 3), (rvar [I 0] 3), rowBp_28, (rvar [(.func (.yield 116) #[] #[])] 218), (rrow [I 2] 3), rowBp_68, (rrow [I 2] 3), (rrow [I 1] 3), rowBp_51, (rrow [I 1, I 2] 3), (rvar [I 3] 3), (rvar [I 4] 3), (rvar [I 4] 3), (rvar [I 0] 3), rowBp_5, (rvar [(.func (.yield 128) #[] #[])] 218), (rrow [I 3] 3), rowBp_69, (rrow [I 3] 3), (rrow [I 1] 3), rowBp_52, (rrow [I 1, I 3] 3), (rvar [I 4] 3), (rvar [I 2] 3), (rvar [I 3] 3), (rvar [I 4] 3), (rvar [I 1] 3), rowBp_21, (rvar [(.func (.yield 141) #[] #[])] 218), (rvar [I 3] 3), (rvar [I 4] 3), (rvar [I 4] 3), (rvar [I 0] 3), rowBp_29, (rvar [(.func (.yield 147) #[] #[])] 218), (rrow [I 3] 3), rowBp_70, (rrow [I 3] 3), (rrow [I 2] 3), rowBp_53, (rrow [I 2, I 3] 3), (rvar [I 4] 3), (rvar [I 3] 3), (rvar [I 4] 3), (rvar [I 4] 3), (rvar [I 1] 3), rowBp_22, (rvar [(.func (.yield 160) #[] #[])] 218), (rvar [I 4] 3), (rvar [I 4] 3), (rvar [I 0] 3), (rvar [I 4] 3), (rvar [I 3] 3), rowBp_0, (rvar [(.func (.yield 167) #[] #[])] 218), (rvar [I 0] 3), (rvar [I 1] 3), (rvar [I 4] 3), (rvar [I 2] 3), rowBp_30, (rvar [(.func (.yield 173) #[] #[])] 218), (rvar [I 1] 3), (rvar [I 2] 3), (rvar [I 4] 3), (rvar [I 1] 3), rowBp_31, (rvar [(.func (.yield 179) #[] #[])] 218), (rvar [I 2] 3), (rvar [I 3] 3), (rvar [I 4] 3), (rvar [I 0] 3), rowBp_32, (rvar [(.func (.yield 185) #[] #[])] 218), (rrow [I 2] 3), rowBp_71, (rrow [I 2] 3), (rrow [I 1] 3), rowBp_54, (rrow [I 1, I 2] 3), (rrow [I 0] 3), rowBp_55, rowBp_84, (rvar [I 3] 3), (rvar [I 4] 3), (rvar [I 4] 3), (rvar [I 0] 3), rowBp_6, (rvar [(.func (.yield 200) #[] #[])] 218), (rrow [I 3] 3), rowBp_72, (rrow [I 3] 3), (rrow [I 1] 3), rowBp_56, (rrow [I 1, I 3] 3), (rrow [I 0] 3), rowBp_57, rowBp_85, (rvar [I 4] 3), (rvar [I 2] 3), (rvar [I 3] 3), (rvar [I 4] 3), (rvar [I 1] 3), rowBp_7, (rvar [(.func (.yield 216) #[] #[])] 218), (rvar [I 3] 3), (rvar [I 4] 3), (rvar [I 4] 3), (rvar [I 0] 3), rowBp_33, (rvar [(.func (.yield 222) #[] #[])] 218), (rrow [I 3] 3), rowBp_73, (rrow [I 3] 3), (rrow [I 2] 3), rowBp_58, (rrow [I 2, I 3] 3), (rrow [I 0] 3), rowBp_59, rowBp_86, (rvar [I 4] 3), (rvar [I 3] 3), (rvar [I 4] 3), (rvar [I 4] 3), (rvar [I 1] 3), rowBp_8, (rvar [(.func (.yield 238) #[] #[])] 218), (rvar [I 4] 3), (rvar [I 4] 3), (rvar [I 1] 3), (rvar [I 2] 3), (rvar [I 4] 3), (rvar [I 2] 3), rowBp_9, (rvar [(.func (.yield 246) #[] #[])] 218), (rvar [I 2] 3), (rvar [I 3] 3), (rvar [I 4] 3), (rvar [I 1] 3), rowBp_34, (rvar [(.func (.yield 252) #[] #[])] 218), (rvar [I 3] 3), (rvar [I 4] 3), (rvar [I 4] 3), (rvar [I 0] 3), rowBp_35, (rvar [(.func (.yield 258) #[] #[])] 218), (rrow [I 3] 3), rowBp_74, (rrow [I 3] 3), (rrow [I 2] 3), rowBp_60, (rrow [I 2, I 3] 3), (rrow [I 1] 3), rowBp_61, rowBp_87, (rvar [I 4] 3), (rvar [I 3] 3), (rvar [I 4] 3), (rvar [I 4] 3), (rvar [I 1] 3), rowBp_10, (rvar [(.func (.yield 274) #[] #[])] 218), (rvar [I 4] 3), (rvar [I 4] 3), (rvar [I 2] 3), (rvar [I 3] 3), (rvar [I 4] 3), (rvar [I 2] 3), rowBp_11, (rvar [(.func (.yield 282) #[] #[])] 218), (rvar [I 3] 3), (rvar [I 4] 3), (rvar [I 4] 3), (rvar [I 1] 3), rowBp_36, (rvar [(.func (.yield 288) #[] #[])] 218), (rvar [I 4] 3), (rvar [I 4] 3), (rvar [I 3] 3), (rvar [I 4] 3), (rvar [I 4] 3), (rvar [I 2] 3), rowBp_12, (rvar [(.func (.yield 296) #[] #[])] 218), (rvar [I 4] 3), (rvar [I 4] 3)]
theorem pc8 : aRun Tryz.prog env0 100000 5 ([.code (round 0 (bodyOf 74))]) pL8 pX8 = some (pL9, pX9, none) := by kernel_rfl
noncomputable def pL10 : List Value := [(sl 4 0 4 4), I 19, (pt 5 0), U, (pt 6 0), (pt 7 0), I 0, (pt 10 0), I 4, U, (sl 4 0 4 4), I 0, (sl 4 0 4 4), I 4, (.bool false), I 0, I 19, I 0, (sl 8 0 3 3), I 0, I 0, (.bool false), U, (sl 4 0 4 4), I 19, (sl 9 0 4 4), (sl 4 0 4 4), I 4, I 5, I 5, (.bool true), I 4, (sl 4 0 4 4), I 4, I 4, (.func (.func 177) #[] #[(pt 302 0), (pt 300 0), (pt 301 0)]), U, U, U, U, U, U, U, I 5]
noncomputable def pX10 : Heap := [(rrow [I 10, I 20] 3), (rrow [I 12, I 20] 3), (rrow [I 11, I 26] 3), (rrow [I 30, I 20] 3), rowBp_48, (rvar [(sl 4 0 4 4)] 34), (rvar [sn] 23), (rvar [I 0] 31), rowBp_83, rowBp_49, (rvar [(sl 9 0 4 4)] 103), (rvar [I 0] 3), (rvar [I 4] 3), (rvar [I 0] 3), rowBp_4, (rvar [(.func (.yield 14) #[] #[])] 218), (rvar [I 0] 3), (rvar [I 4] 3), (rvar [I 1] 3), rowBp_2, (rvar [(.func (.yield 19) #[] #[])] 218), (rvar [I 0] 3), (rvar [I 1] 3), (rvar [I 4] 3), (rvar [I 0] 3), rowBp_45, (rvar [(.func (.yield 25) #[] #[])] 218), (rrow [I 0] 3), rowBp_76, (rrow [I 0] 3), (rvar [I 1] 3), (rvar [I 2] 3), (rvar [I 4] 3), (rvar [I 0] 3), rowBp_23, (rvar [(.func (.yield 34) #[] #[])] 218), (rrow [I 1] 3), rowBp_77, (rrow [I 1] 3), (rvar [I 2] 3), (rvar [I 3] 3), (rvar [I 4] 3), (rvar [I 0] 3), rowBp_24, (rvar [(.func (.yield 43) #[] #[])] 218), (rrow [I 2] 3), rowBp_78, (rrow [I 2] 3), (rvar [I 3] 3), (rvar [I 4] 3), (rvar [I 4] 3), (rvar [I 0] 3), rowBp_25, (rvar [(.func (.yield 52) #[] #[])] 218), (rrow [I 3] 3), rowBp_79, (rrow [I 3] 3), (rvar [I 4] 3), (rvar [I 0] 3), (rvar [I 4] 3), (rvar [I 2] 3), rowBp_3, (rvar [(.func (.yield 61) #[] #[])] 218), (rvar [I 0] 3), (rvar [I 1] 3), (rvar [I 4] 3), (rvar [I 1] 3), rowBp_46, (rvar [(.func (.yield 67) #[] #[])] 218), (rvar [I 1] 3), (rvar [I 2] 3), (rvar [I 4] 3), (rvar [I 0] 3), rowBp_47, (rvar [(.func (.yield 73) #[] #[])] 218), (rrow [I 1] 3), rowBp_80, (rrow [I 1] 3), (rrow [I 0] 3), rowBp_65, (rrow [I 0, I 1] 3), (rvar [I 2] 3), (rvar [I 3] 3), (rvar [I 4] 3), (rvar [I 0] 3), rowBp_26, (rvar [(.func (.yield 85) #[] #[])] 218), (rrow [I 2] 3), rowBp_81, (rrow [I 2] 3), (rrow [I 0] 3), rowBp_66, (rrow [I 0, I 2] 3), (rvar [I 3] 3), (rvar [I 4] 3), (rvar [I 4] 3), (rvar [I 0] 3), rowBp_27, (rvar [(.func (.yield 97) #[] #[])] 218), (rrow [I 3] 3), rowBp_82, (rrow [I 3] 3), (rrow [I 0] 3), rowBp_50, (rrow [I 0, I 3] 3), (rvar [I 4] 3), (rvar [I 1] 3), (rvar [I 2] 3), (rvar [I 4] 3), (rvar [I 1] 3), rowBp_20, (rvar [(.func (.yield 110) #[] #[])] 218), (rvar [I 2] 3), (rvar [I 3] 3), (rvar [I 4] 3), (rvar [I 0] 3), rowBp_28, (rvar [(.func (.yield 116) #[] #[])] 218), (rrow [I 2] 3), rowBp_68, (rrow [I 2] 3), (rrow [I 1] 3), rowBp_51, (rrow [I 1, I 2] 3), (rvar [I 3] 3), (rvar [I 4] 3), (rvar [I 4] 3), (rvar [I 0] 3), rowBp_5, (rvar [(.func (.yield 128) #[] #[])] 218), (rrow [I 3] 3), rowBp_69, (rrow [I 3] 3), (rrow [I 1] 3), rowBp_52, (rrow [I 1, I 3] 3), (rvar [I 4] 3), (rvar [I 2] 3), (rvar [I 3] 3), (rvar [I 4] 3), (rvar [I 1] 3), rowBp_21, (rvar [(.func (.yield 141) #[] #[])] 218), (rvar [I 3] 3), (rvar [I 4] 3), (rvar [I 4] 3), (rvar [I 0] 3), rowBp_29, (rvar [(.func (.yield 147) #[] #[])] 218), (rrow [I 3] 3), rowBp_70, (rrow [I 3] 3), (rrow [I 2] 3), rowBp_53, (rrow [I 2, I 3] 3), (rvar [I 4] 3), (rvar [I 3] 3), (rvar [I 4] 3), (rvar [I 4] 3), (rvar [I 1] 3), rowBp_22, (rvar [(.func (.yield 160) #[] #[])] 218), (rvar [I 4] 3), (rvar [I 4] 3), (rvar [I 0] 3), (rvar [I 4] 3), (rvar [I 3] 3), rowBp_0, (rvar [(.func (.yield 167) #[] #[])] 218), (rvar [I 0] 3), (rvar [I 1] 3), (rvar [I 4] 3), (rvar [I 2] 3), rowBp_30, (rvar [(.func (.yield 173) #[] #[])] 218), (rvar [I 1] 3), (rvar [I 2] 3), (rvar [I 4] 3), (rvar [I 1] 3), rowBp_31, (rvar [(.func (.yield 179) #[] #[])] 218), (rvar [I 2] 3), (rvar [I 3] 3), (rvar [I 4] 3), (rvar [I 0] 3), rowBp_32, (rvar [(.func (.yield 185) #[] #[])] 218), (rrow [I 2] 3), rowBp_71, (rrow [I 2] 3), (rrow [I 1] 3), rowBp_54, (rrow [I 1, I 2] 3), (rrow [I 0] 3), rowBp_55, rowBp_84, (rvar [I 3] 3), (rvar [I 4] 3), (rvar [I 4] 3), (rvar [I 0] 3), rowBp_6, (rvar [(.func (.yield 200) #[] #[])] 218), (rrow [I 3] 3), rowBp_72, (rrow [I 3] 3), (rrow [I 1] 3), rowBp_56, (rrow [I 1, I 3] 3), (rrow [I 0] 3), rowBp_57, rowBp_85, (rvar [I 4] 3), (rvar [I 2] 3), (rvar [I 3] 3), (rvar [I 4] 3), (rvar [I 1] 3), rowBp_7, (rvar [(.func (.yield 216) #[] #[])] 218), (rvar [I 3] 3), (rvar [I 4] 3), (rvar [I 4] 3), (rvar [I 0] 3), rowBp_33, (rvar [(.func (.yield 222) #[] #[])] 218), (rrow [I 3] 3), rowBp_73, (rrow [I 3] 3), (rrow [I 2] 3), rowBp_58, (rrow [I 2, I 3] 3), (rrow [I 0] 3), rowBp_59, rowBp_86, (rvar [I 4] 3), (rvar [I 3] 3), (rvar [I 4] 3), (rvar [I 4] 3), (rvar [I 1] 3), rowBp_8, (rvar [(.func (.yield 238) #[] #[])] 218), (rvar [I 4] 3), (rvar [I 4] 3), (rvar [I 1] 3), (rvar [I 2] 3), (rvar [I 4] 3), (rvar [I 2] 3), rowBp_9, (rvar [(.func (.yield 246) #[] #[])] 218), (rvar [I 2] 3), (rvar [I 3] 3), (rvar [I 4] 3), (rvar [I 1] 3), rowBp_34, (rvar [(.func (.yield 252) #[] #[])] 218), (rvar [I 3] 3), (rvar [I 4] 3), (rvar [I 4] 3), (rvar [I 0] 3), rowBp_35, (rvar [(.func (.yield 258) #[] #[])] 218), (rrow [I 3] 3), rowBp_74, (rrow [I 3] 3), (rrow [I 2] 3), rowBp_60, (rrow [I 2, I 3] 3), (rrow [I 1] 3), rowBp_61, rowBp_87, (rvar [I 4] 3), (rvar [I 3] 3), (rvar [I 4] 3), (rvar [I 4] 3), (rvar [I 1] 3), rowBp_10, (rvar [(.func (.yield 274) #[] #[])] 218), (rvar [I 4] 3), (rvar [I 4] 3), (rvar [I 2] 3), (rvar [I 3] 3), (rvar [I 4] 3), (rvar [I 2] 3), rowBp_11, (rvar [(.func (.yield 282) #[] #[])] 218), (rvar [I 3] 3), (rvar [I 4] 3), (rvar [I 4] 3), (rvar [I 1] 3), rowBp_36, (rvar [(.func (.yield 288) #[] #[])] 218), (rvar [I 4] 3), (rvar [I 4] 3), (rvar [I 3] 3), (rvar [I 4] 3), (rvar [I 4] 3), (rvar [I 2] 3), rowBp_12, (rvar [(.func (.yield 296) #[] #[])] 218), (rvar [I 4] 3), (rvar [I 4] 3), (rvar [I 0] 3), (rvar [I 4] 3), (rvar [I 4] 3), rowBp_1, (rvar [(.func (.yield 303) #[] #[])] 218), (rvar [I 0] 3), (rvar [I 1] 3), (rvar [I 4] 3), (rvar [I 3] 3), rowBp_37, (rvar [(.func (.yield 309) #[] #[])] 218), (rvar [I 1] 3), (rvar [I 2] 3), (rvar [I 4] 3), (rvar [I 2] 3), rowBp_38, (rvar [(.func (.yield 315) #[] #[])] 218), (rvar [I 2] 3), (rvar [I 3] 3), (rvar [I 4] 3), (rvar [I 1] 3), rowBp_39, (rvar [(.func (.yield 321) #[] #[])] 218), (rvar [I 3] 3), (rvar [I 4] 3), (rvar [I 4] 3), (rvar [I 0] 3), rowBp_40, (rvar [(.func (.yield 327) #[] #[])] 218), (rrow [I 3] 3), rowBp_75, (rrow [I 3] 3), (rrow [I 2] 3), rowBp_62, (rrow [I 2, I 3] 3), (rrow [I 1] 3), rowBp_63, rowBp_87, (rrow [I 0] 3), rowBp_64, rowBp_67, (rvar [I 4] 3), (rvar [I 3] 3), (rvar [I 4] 3), (rvar [I 4] 3), (rvar [I 1] 3), rowBp_13, (rvar [(.func (.yield 346) #[] #[])] 218), (rvar [I 4] 3), (rvar [I 4] 3), (rvar [I 2] 3), (rvar [I 3] 3), (rvar [I 4] 3), (rvar [I 2] 3), rowBp_14, (rvar [(.func (.yield 354) #[] #[])] 218), (rvar [I 3] 3), (rvar [I 4] 3), (rvar [I 4] 3), (rvar [I 1] 3), rowBp_41, (rvar [(.func (.yield 360) #[] #[])] 218), (rvar [I 4] 3), (rvar [I 4] 3), (rvar [I 3] 3), (rvar [I 4] 3), (rvar [I 4] 3), (rvar [I 2] 3), rowBp_15, (rvar [(.func (.yield 368) #[] #[])] 218), (rvar [I 4] 3), (rvar [I 4] 3), (rvar [I 1] 3), (rvar [I 2] 3), (rvar [I 4] 3), (rvar [I 3] 3), rowBp_16, (rvar [(.func (.yield 376) #[] #[])] 218), (rvar [I 2] 3), (rvar [I 3] 3), (rvar [I 4] 3), (rvar [I 2] 3), rowBp_42, (rvar [(.func (.yield 382) #[] #[])] 218), (rvar [I 3] 3), (rvar [I 4] 3), (rvar [I 4] 3), (rvar [I 1] 3), rowBp_43, (rvar [(.func (.yield 388) #[] #[])] 218), (rvar [I 4] 3), (rvar [I 4] 3), (rvar [I 3] 3), (rvar [I 4] 3), (rvar [I 4] 3), (rvar [I 2] 3), rowBp_17, (rvar [(.func (.yield 396) #[] #[])] 218), (rvar [I 4] 3), (rvar [I 4] 3), (rvar [I 2] 3), (rvar [I 3] 3), (rvar [I 4] 3), (rvar [I 3] 3), rowBp_18, (rvar [(.func (.yield 404) #[] #[])] 218), (rvar [I 3] 3), (rvar [I 4] 3), (rvar [I 4] 3), (rvar [I 2] 3), rowBp_44, (rvar [(.func (.yield 410) #[] #[])] 218), (rvar [I 4] 3), (rvar [I 4] 3), (rvar [I 3] 3), (rvar [I 4] 3), (rvar [I 4] 3), (rvar [I 3] 3), rowBp_19, (rvar [(.func (.yield 418) #[] #[])] 218), (rvar [I 4] 3), (rvar [I 4] 3)]
theorem pc9 : aRun Tryz.prog env0 100000 5 ([.code (round 0 (bodyOf 74))]) pL9 pX9 = some (pL10, pX10, none) := by kernel_rfl
noncomputable def pL11 : List Value := [(sl 4 0 4 4), I 19, (pt 5 0), U, (pt 6 0), (pt 7 0), I 0, (pt 10 0), I 4, U, (sl 4 0 4 4), I 0, (sl 4 0 4 4), I 4, (.bool false), I 0, I 19, I 0, (sl 8 0 3 3), I 0, I 0, (.bool false), U, (sl 4 0 4 4), I 19, (sl 9 0 4 4), (sl 4 0 4 4), I 4, I 5, I 5, (.bool false), I 4, (sl 4 0 4 4), I 4, I 4, (.func (.func 177) #[] #[(pt 302 0), (pt 300 0), (pt 301 0)]), U, U, U, U, U, U, U, I 5]
noncomputable def pX11 : Heap := [(rrow [I 10, I 20] 3), (rrow [I 12, I 20] 3), (rrow [I 11, I 26] 3), (rrow [I 30, I 20] 3), rowBp_48, (rvar [(sl 4 0 4 4)] 34), (rvar [sn] 23), (rvar [I 0] 31), rowBp_83, rowBp_49, (rvar [(sl 9 0 4 4)] 103), (rvar [I 0] 3), (rvar [I 4] 3), (rvar [I 0] 3), rowBp_4, (rvar [(.func (.yield 14) #[] #[])] 218), (rvar [I 0] 3), (rvar [I 4] 3), (rvar [I 1] 3), rowBp_2, (rvar [(.func (.yield 19) #[] #[])] 218), (rvar [I 0] 3), (rvar [I 1] 3), (rvar [I 4] 3), (rvar [I 0] 3), rowBp_45, (rvar [(.func (.yield 25) #[] #[])] 218), (rrow [I 0] 3), rowBp_76, (rrow [I 0] 3), (rvar [I 1] 3), (rvar [I 2] 3), (rvar [I 4] 3), (rvar [I 0] 3), rowBp_23, (rvar [(.func (.yield 34) #[] #[])] 218), (rrow [I 1] 3), rowBp_77, (rrow [I 1] 3), (rvar [I 2] 3), (rvar [I 3] 3), (rvar [I 4] 3), (rvar [I 0] 3), rowBp_24, (rvar [(.func (.yield 43) #[] #[])] 218), (rrow [I 2] 3), rowBp_78, (rrow [I 2] 3), (rvar [I 3] 3), (rvar [I 4] 3), (rvar [I 4] 3), (rvar [I 0] 3), rowBp_25, (rvar [(.func (.yield 52) #[] #[])] 218), (rrow [I 3] 3), rowBp_79, (rrow [I 3] 3), (rvar [I 4] 3), (rvar [I 0] 3), (rvar [I 4] 3), (rvar [I 2] 3), rowBp_3, (rvar [(.func (.yield 61) #[] #[])] 218), (rvar [I 0] 3), (rvar [I 1] 3), (rvar [I 4] 3), (rvar [I 1] 3), rowBp_46, (rvar [(.func (.yield 67) #[] #[])] 218), (rvar [I 1] 3), (rvar [I 2] 3), (rvar [I 4] 3), (rvar [I 0] 3), rowBp_47, (rvar [(.func (.yield 73) #[] #[])] 218), (rrow [I 1] 3), rowBp_80, (rrow [I 1] 3), (rrow [I 0] 3), rowBp_65, (rrow [I 0, I 1] 3), (rvar [I 2] 3), (rvar [I 3] 3), (rvar [I 4] 3), (rvar [I 0] 3), rowBp_26, (rvar [(.func (.yield 85) #[] #[])] 218), (rrow [I 2] 3), rowBp_81, (rrow [I 2] 3), (rrow [I 0] 3), rowBp_66, (rrow [I 0, I 2] 3), (rvar [I 3] 3), (rvar [I 4] 3), (rvar [I 4] 3), (rvar [I 0] 3), rowBp_27, (rvar [(.func (.yield 97) #[] #[])] 218), (rrow [I 3] 3), rowBp_82, (rrow [I 3] 3), (rrow [I 0] 3), rowBp_50, (rrow [I 0, I 3] 3), (rvar [I 4] 3), (rvar [I 1] 3), (rvar [I 2] 3), (rvar [I 4] 3), (rvar [I 1] 3), rowBp_20, (rvar [(.func (.yield 110) #[] #[])] 218), (rvar [I 2] 3), (rvar [I 3] 3), (rvar [I 4] 3), (rvar [I 0] 3), rowBp_28, (rvar [(.func (.yield 116) #[] #[])] 218), (rrow [I 2] 3), rowBp_68, (rrow [I 2] 3), (rrow [I 1] 3), rowBp_51, (rrow [I 1, I 2] 3), (rvar [I 3] 3), (rvar [I 4] 3), (rvar [I 4] 3), (rvar [I 0] 3), rowBp_5, (rvar [(.func (.yield 128) #[] #[])] 218), (rrow [I 3] 3), rowBp_69, (rrow [I 3] 3), (rrow [I 1] 3), rowBp_52, (rrow [I 1, I 3] 3), (rvar [I 4] 3), (rvar [I 2] 3), (rvar [I 3] 3), (rvar [I 4] 3), (rvar [I 1] 3), rowBp_21, (rvar [(.func (.yield 141) #[] #[])] 218), (rvar [I 3] 3), (rvar [I 4] 3), (rvar [I 4] 3), (rvar [I 0] 3), rowBp_29, (rvar [(.func (.yield 147) #[] #[])] 218), (rrow [I 3] 3), rowBp_70, (rrow [I 3] 3), (rrow [I 2] 3), rowBp_53, (rrow [I 2, I 3] 3), (rvar [I 4] 3), (rvar [I 3] 3), (rvar [I 4] 3), (rvar [I 4] 3), (rvar [I 1] 3), rowBp_22, (rvar [(.func (.yield 160) #[] #[])] 218), (rvar [I 4] 3), (rvar [I 4] 3), (rvar [I 0] 3), (rvar [I 4] 3), (rvar [I 3] 3), rowBp_0, (rvar [(.func (.yield 167) #[] #[])] 218), (rvar [I 0] 3), (rvar [I 1] 3), (rvar [I 4] 3), (rvar [I 2] 3), rowBp_30, (rvar [(.func (.yield 173) #[] #[])] 218), (rvar [I 1] 3), (rvar [I 2] 3), (rvar [I 4] 3), (rvar [I 1] 3), rowBp_31, (rvar [(.func (.yield 179) #[] #[])] 218), (rvar [I 2] 3), (rvar [I 3] 3), (rvar [I 4] 3), (rvar [I 0] 3), rowBp_32, (rvar [(.func (.yield 185) #[] #[])] 218), (rrow [I 2] 3), rowBp_71, (rrow [I 2] 3), (rrow [I 1] 3), rowBp_54, (rrow [I 1, I 2] 3), (rrow [I 0] 3), rowBp_55, rowBp_84, (rvar [I 3] 3), (rvar [I 4] 3), (rvar [I 4] 3), (rvar [I 0] 3), rowBp_6, (rvar [(.func (.yield 200) #[] #[])] 218), (rrow [I 3] 3), rowBp_72, (rrow [I 3] 3), (rrow [I 1] 3), rowBp_56, (rrow [I 1, I 3] 3), (rrow [I 0] 3), rowBp_57, rowBp_85, (rvar [I 4] 3), (rvar [I 2] 3), (rvar [I 3] 3), (rvar [I 4] 3), (rvar [I 1] 3), rowBp_7, (rvar [(.func (.yield 216) #[] #[])] 218), (rvar [I 3] 3), (rvar [I 4] 3), (rvar [I 4] 3), (rvar [I 0] 3), rowBp_33, (rvar [(.func (.yield 222) #[] #[])] 218), (rrow [I 3] 3), rowBp_73, (rrow [I 3] 3), (rrow [I 2] 3), rowBp_58, (rrow [I 2, I 3] 3), (rrow [I 0] 3), rowBp_59, rowBp_86, (rvar [I 4] 3), (rvar [I 3] 3), (rvar [I 4] 3), (rvar [I 4] 3), (rvar [I 1] 3), rowBp_8, (rvar [(.func (.yield 238) #[] #[])] 218), (rvar [I 4] 3), (rvar [I 4] 3), (rvar [I 1] 3), (rvar [I 2] 3), (rvar [I 4] 3), (rvar [I 2] 3), rowBp_9, (rvar [(.func (.yield 246) #[] #[])] 218), (rvar [I 2] 3), (rvar [I 3] 3), (rvar [I 4] 3), (rvar [I 1] 3), rowBp_34, (rvar [(.func (.yield 252) #[] #[])] 218), (rvar [I 3] 3), (rvar [I 4] 3), (rvar [I 4] 3), (rvar [I 0] 3), rowBp_35, (rvar [(.func (.yield 258) #[] #[])] 218), (rrow [I 3] 3), rowBp_74, (rrow [I 3] 3), (rrow [I 2] 3), rowBp_60, (rrow [I 2, I 3] 3), (rrow [I 1] 3), rowBp_61, rowBp_87, (rvar [I 4] 3), (rvar [I 3] 3), (rvar [I 4] 3), (rvar [I 4] 3), (rvar [I 1] 3), rowBp_10, (rvar [(.func (.yield 274) #[] #[])] 218), (rvar [I 4] 3), (rvar [I 4] 3), (rvar [I 2] 3), (rvar [I 3] 3), (rvar [I 4] 3), (rvar [I 2] 3), rowBp_11, (rvar [(.func (.yield 282) #[] #[])] 218), (rvar [I 3] 3), (rvar [I 4] 3), (rvar [I 4] 3), (rvar [I 1] 3), rowBp_36, (rvar [(.func (.yield 288) #[] #[])] 218), (rvar [I 4] 3), (rvar [I 4] 3), (rvar [I 3] 3), (rvar [I 4] 3), (rvar [I 4] 3), (rvar [I 2] 3), rowBp_12, (rvar [(.func (.yield 296) #[] #[])] 218), (rvar [I 4] 3), (rvar [I 4] 3), (rvar [I 0] 3), (rvar [I 4] 3), (rvar [I 4] 3), rowBp_1, (rvar [(.func (.yield 303) #[] #[])] 218), (rvar [I 0] 3), (rvar [I 1] 3), (rvar [I 4] 3), (rvar [I 3] 3), rowBp_37, (rvar [(.func (.yield 309) #[] #[])] 218), (rvar [I 1] 3), (rvar [I 2] 3), (rvar [I 4] 3), (rvar [I 2] 3), rowBp_38, (rvar [(.func (.yield 315) #[] #[])] 218), (rvar [I 2] 3), (rvar [I 3] 3), (rvar [I 4] 3), (rvar [I 1] 3), rowBp_39, (rvar [(.func (.yield 321) #[] #[])] 218), (rvar [I 3] 3), (rvar [I 4] 3), (rvar [I 4] 3), (rvar [I 0] 3), rowBp_40, (rvar [(.func (.yield 327) #[] #[])] 218), (rrow [I 3] 3), rowBp_75, (rrow [I 3] 3), (rrow [I 2] 3), rowBp_62, (rrow [I 2, I 3] 3), (rrow [I 1] 3), rowBp_63, rowBp_87, (rrow [I 0] 3), rowBp_64, rowBp_67, (rvar [I 4] 3), (rvar [I 3] 3), (rvar [I 4] 3), (rvar [I 4] 3), (rvar [I 1] 3), rowBp_13, (rvar [(.func (.yield 346) #[] #[])] 218), (rvar [I 4] 3), (rvar [I 4] 3), (rvar [I 2] 3), (rvar [I 3] 3), (rvar [I 4] 3), (rvar [I 2] 3), rowBp_14, (rvar [(.func (.yield 354) #[] #[])] 218), (rvar [I 3] 3), (rvar [I 4] 3), (rvar [I 4] 3), (rvar [I 1] 3), rowBp_41, (rvar [(.func (.yield 360) #[] #[])] 218), (rvar [I 4] 3), (rvar [I 4] 3), (rvar [I 3] 3), (rvar [I 4] 3), (rvar [I 4] 3), (rvar [I 2] 3), rowBp_15, (rvar [(.func (.yield 368) #[] #[])] 218), (rvar [I 4] 3), (rvar [I 4] 3), (rvar [I 1] 3), (rvar [I 2] 3), (rvar [I 4] 3), (rvar [I 3] 3), rowBp_16, (rvar [(.func (.yield 376) #[] #[])] 218), (rvar [I 2] 3), (rvar [I 3] 3), (rvar [I 4] 3), (rvar [I 2] 3), rowBp_42, (rvar [(.func (.yield 382) #[] #[])] 218), (rvar [I 3] 3), (rvar [I 4] 3), (rvar [I 4] 3), (rvar [I 1] 3), rowBp_43, (rvar [(.func (.yield 388) #[] #[])] 218), (rvar [I 4] 3), (rvar [I 4] 3), (rvar [I 3] 3), (rvar [I 4] 3), (rvar [I 4] 3), (rvar [I 2] 3), rowBp_17, (rvar [(.func (.yield 396) #[] #[])] 218), (rvar [I 4] 3), (rvar [I 4] 3), (rvar [I 2] 3), (rvar [I 3] 3), (rvar [I 4] 3), (rvar [I 3] 3), rowBp_18, (rvar [(.func (.yield 404) #[] #[])] 218), (rvar [I 3] 3), (rvar [I 4] 3), (rvar [I 4] 3), (rvar [I 2] 3), rowBp_44, (rvar [(.func (.yield 410) #[] #[])] 218), (rvar [I 4] 3), (rvar [I 4] 3), (rvar [I 3] 3), (rvar [I 4] 3), (rvar [I 4] 3), (rvar [I 3] 3), rowBp_19, (rvar [(.func (.yield 418) #[] #[])] 218), (rvar [I 4] 3), (rvar [I 4] 3)]
theorem pc10 : aRun Tryz.prog env0 100000 5 ([.code (round 0 (bodyOf 74)), .inLoop (round 0 (bodyOf 74)), .inBlock 0]) pL10 pX10 = some (pL11, pX11, none) := by kernel_rfl
noncomputable def pL12 : List Value := [(sl 4 0 4 4), I 19, (pt 5 0), U, (pt 6 0), (pt 7 0), I 0, (pt 10 0), I 4, U, (sl 4 0 4 4), I 0, (sl 4 0 4 4), I 4, (.bool false), I 0, I 19, I 0, (sl 8 0 3 3), I 0, I 0, (.bool false), U, (sl 4 0 4 4), I 19, (sl 9 0 4 4), (sl 4 0 4 4), I 4, I 5, I 5, (.bool false), I 4, (sl 4 0 4 4), I 4, I 4, (.func (.func 177) #[] #[(pt 302 0), (pt 300 0), (pt 301 0)]), U, U, U, U, U, U, U, I 5]
noncomputable def pX12 : Heap := [(rrow [I 10, I 20] 3), (rrow [I 12, I 20] 3), (rrow [I 11, I 26] 3), (rrow [I 30, I 20] 3), rowBp_48, (rvar [(sl 4 0 4 4)] 34), (rvar [sn] 23), (rvar [I 7] 31), rowBp_83, rowBp_49, (rvar [(sl 9 0 4 4)] 103), (rvar [I 0] 3), (rvar [I 4] 3), (rvar [I 0] 3), rowBp_4, (rvar [(.func (.yield 14) #[] #[])] 218), (rvar [I 0] 3), (rvar [I 4] 3), (rvar [I 1] 3), rowBp_2, (rvar [(.func (.yield 19) #[] #[])] 218), (rvar [I 0] 3), (rvar [I 1] 3), (rvar [I 4] 3), (rvar [I 0] 3), rowBp_45, (rvar [(.func (.yield 25) #[] #[])] 218), (rrow [I 0] 3), rowBp_76, (rrow [I 0] 3), (rvar [I 1] 3), (rvar [I 2] 3), (rvar [I 4] 3), (rvar [I 0] 3), rowBp_23, (rvar [(.func (.yield 34) #[] #[])] 218), (rrow [I 1] 3), rowBp_77, (rrow [I 1] 3), (rvar [I 2] 3), (rvar [I 3] 3), (rvar [I 4] 3), (rvar [I 0] 3), rowBp_24, (rvar [(.func (.yield 43) #[] #[])] 218), (rrow [I 2] 3), rowBp_78, (rrow [I 2] 3), (rvar [I 3] 3), (rvar [I 4] 3), (rvar [I 4] 3), (rvar [I 0] 3), rowBp_25, (rvar [(.func (.yield 52) #[] #[])] 218), (rrow [I 3] 3), rowBp_79, (rrow [I 3] 3), (rvar [I 4] 3), (rvar [I 0] 3), (rvar [I 4] 3), (rvar [I 2] 3), rowBp_3, (rvar [(.func (.yield 61) #[] #[])] 218), (rvar [I 0] 3), (rvar [I 1] 3), (rvar [I 4] 3), (rvar [I 1] 3), rowBp_46, (rvar [(.func (.yield 67) #[] #[])] 218), (rvar [I 1] 3), (rvar [I 2] 3), (rvar [I 4] 3), (rvar [I 0] 3), rowBp_47, (rvar [(.func (.yield 73) #[] #[])] 218), (rrow [I 1] 3), rowBp_80, (rrow [I 1] 3), (rrow [I 0] 3), rowBp_65, (rrow [I 0, I 1] 3), (rvar [I 2] 3), (rvar [I 3] 3), (rvar [I 4] 3), (rvar [I 0] 3), rowBp_26, (rvar [(.func (.yield 85) #[] #[])] 218), (rrow [I 2] 3), rowBp_81, (rrow [I 2] 3), (rrow [I 0] 3), rowBp_66, (rrow [I 0, I 2] 3), (rvar [I 3] 3), (rvar [I 4] 3), (rvar [I 4] 3), (rvar [I 0] 3), rowBp_27, (rvar [(.func (.yield 97) #[] #[])] 218), (rrow [I 3] 3), rowBp_82, (rrow [I 3] 3), (rrow [I 0] 3), rowBp_50, (rrow [I 0, I 3] 3), (rvar [I 4] 3), (rvar [I 1] 3), (rvar [I 2] 3), (rvar [I 4] 3), (rvar [I 1] 3), rowBp_20, (rvar [(.func (.yield 110) #[] #[])] 218), (rvar [I 2] 3), (rvar [I 3] 3), (rvar [I 4] 3), (rvar [I 0] 3), rowBp_28, (rvar [(.func (.yield 116) #[] #[])] 218), (rrow [I 2] 3), rowBp_68, (rrow [I 2] 3), (rrow [I 1] 3), rowBp_51, (rrow [I 1, I 2] 3), (rvar [I 3] 3), (rvar [I 4] 3), (rvar [I 4] 3), (rvar [I 0] 3), rowBp_5, (rvar [(.func (.yield 128) #[] #[])] 218), (rrow [I 3] 3), rowBp_69, (rrow [I 3] 3), (rrow [I 1] 3), rowBp_52, (rrow [I 1, I 3] 3), (rvar [I 4] 3), (rvar [I 2] 3), (rvar [I 3] 3), (rvar [I 4] 3), (rvar [I 1] 3), rowBp_21, (rvar [(.func (.yield 141) #[] #[])] 218), (rvar [I 3] 3), (rvar [I 4] 3), (rvar [I 4] 3), (rvar [I 0] 3), rowBp_29, (rvar [(.func (.yield 147) #[] #[])] 218), (rrow [I 3] 3), rowBp_70, (rrow [I 3] 3), (rrow [I 2] 3), rowBp_53, (rrow [I 2, I 3] 3), (rvar [I 4] 3), (rvar [I 3] 3), (rvar [I 4] 3), (rvar [I 4] 3), (rvar [I 1] 3), rowBp_22, (rvar [(.func (.yield 160) #[] #[])] 218), (rvar [I 4] 3), (rvar [I 4] 3), (rvar [I 0] 3), (rvar [I 4] 3), (rvar [I 3] 3), rowBp_0, (rvar [(.func (.yield 167) #[] #[])] 218), (rvar [I 0] 3), (rvar [I 1] 3), (rvar [I 4] 3), (rvar [I 2] 3), rowBp_30, (rvar [(.func (.yield 173) #[] #[])] 218), (rvar [I 1] 3), (rvar [I 2] 3), (rvar [I 4] 3), (rvar [I 1] 3), rowBp_31, (rvar [(.func (.yield 179) #[] #[])] 218), (rvar [I 2] 3), (rvar [I 3] 3), (rvar [I 4] 3), (rvar [I 0] 3), rowBp_32, (rvar [(.func (.yield 185) #[] #[])] 218), (rrow [I 2] 3), rowBp_71, (rrow [I 2] 3), (rrow [I 1] 3), rowBp_54, (rrow [I 1, I 2] 3), (rrow [I 0] 3), rowBp_55, rowBp_84, (rvar [I 3] 3), (rvar [I 4] 3), (rvar [I 4] 3), (rvar [I 0] 3), rowBp_6, (rvar [(.func (.yield 200) #[] #[])] 218), (rrow [I 3] 3), rowBp_72, (rrow [I 3] 3), (rrow [I 1] 3), rowBp_56, (rrow [I 1, I 3] 3), (rrow [I 0] 3), rowBp_57, rowBp_85, (rvar [I 4] 3), (rvar [I 2] 3), (rvar [I 3] 3), (rvar [I 4] 3), (rvar [I 1] 3), rowBp_7, (rvar [(.func (.yield 216) #[] #[])] 218), (rvar [I 3] 3), (rvar [I 4] 3), (rvar [I 4] 3), (rvar [I 0] 3), rowBp_33, (rvar [(.func (.yield 222) #[] #[])] 218), (rrow [I 3] 3), rowBp_73, (rrow [I 3] 3), (rrow [I 2] 3), rowBp_58, (rrow [I 2, I 3] 3), (rrow [I 0] 3), rowBp_59, rowBp_86, (rvar [I 4] 3), (rvar [I 3] 3), (rvar [I 4] 3), (rvar [I 4] 3), (rvar [I 1] 3), rowBp_8, (rvar [(.func (.yield 238) #[] #[])] 218), (rvar [I 4] 3), (rvar [I 4] 3), (rvar [I 1] 3), (rvar [I 2] 3), (rvar [I 4] 3), (rvar [I 2] 3), rowBp_9, (rvar [(.func (.yield 246) #[] #[])] 218), (rvar [I 2] 3), (rvar [I 3] 3), (rvar [I 4] 3), (rvar [I 1] 3), rowBp_34, (rvar [(.func (.yield 252) #[] #[])] 218), (rvar [I 3] 3), (rvar [I 4] 3), (rvar [I 4] 3), (rvar [I 0] 3), rowBp_35, (rvar [(.func (.yield 258) #[] #[])] 218), (rrow [I 3] 3), rowBp_74, (rrow [I 3] 3), (rrow [I 2] 3), rowBp_60, (rrow [I 2, I 3] 3), (rrow [I 1] 3), rowBp_61, rowBp_87, (rvar [I 4] 3), (rvar [I 3] 3), (rvar [I 4] 3), (rvar [I 4] 3), (rvar [I 1] 3), rowBp_10, (rvar [(.func (.yield 274) #[] #[])] 218), (rvar [I 4] 3), (rvar [I 4] 3), (rvar [I 2] 3), (rvar [I 3] 3), (rvar [I 4] 3), (rvar [I 2] 3), rowBp_11, (rvar [(.func (.yield 282) #[] #[])] 218), (rvar [I 3] 3), (rvar [I 4] 3), (rvar [I 4] 3), (rvar [I 1] 3), rowBp_36, (rvar [(.func (.yield 288) #[] #[])] 218), (rvar [I 4] 3), (rvar [I 4] 3), (rvar [I 3] 3), (rvar [I 4] 3), (rvar [I 4] 3), (rvar [I 2] 3), rowBp_12, (rvar [(.func (.yield 296) #[] #[])] 218), (rvar [I 4] 3), (rvar [I 4] 3), (rvar [I 0] 3), (rvar [I 4] 3), (rvar [I 4] 3), rowBp_1, (rvar [(.func (.yield 303) #[] #[])] 218), (rvar [I 0] 3), (rvar [I 1] 3), (rvar [I 4] 3), (rvar [I 3] 3), rowBp_37, (rvar [(.func (.yield 309) #[] #[])] 218), (rvar [I 1] 3), (rvar [I 2] 3), (rvar [I 4] 3), (rvar [I 2] 3), rowBp_38, (rvar [(.func (.yield 315) #[] #[])] 218), (rvar [I 2] 3), (rvar [I 3] 3), (rvar [I 4] 3), (rvar [I 1] 3), rowBp_39, (rvar [(.func (.yield 321) #[] #[])] 218), (rvar [I 3] 3), (rvar [I 4] 3), (rvar [I 4] 3), (rvar [I 0] 3), rowBp_40, (rvar [(.func (.yield 327) #[] #[])] 218), (rrow [I 3] 3), rowBp_75, (rrow [I 3] 3), (rrow [I 2] 3), rowBp_62, (rrow [I 2, I 3] 3), (rrow [I 1] 3), rowBp_63, rowBp_87, (rrow [I 0] 3), rowBp_64, rowBp_67, (rvar [I 4] 3), (rvar [I 3] 3), (rvar [I 4] 3), (rvar [I 4] 3), (rvar [I 1] 3), rowBp_13, (rvar [(.func (.yield 346) #[] #[])] 218), (rvar [I 4] 3), (rvar [I 4] 3), (rvar [I 2] 3), (rvar [I 3] 3), (rvar [I 4] 3), (rvar [I 2] 3), rowBp_14, (rvar [(.func (.yield 354) #[] #[])] 218), (rvar [I 3] 3), (rvar [I 4] 3), (rvar [I 4] 3), (rvar [I 1] 3), rowBp_41, (rvar [(.func (.yield 360) #[] #[])] 218), (rvar [I 4] 3), (rvar [I 4] 3), (rvar [I 3] 3), (rvar [I 4] 3), (rvar [I 4] 3), (rvar [I 2] 3), rowBp_15, (rvar [(.func (.yield 368) #[] #[])] 218), (rvar [I 4] 3), (rvar [I 4] 3), (rvar [I 1] 3), (rvar [I 2] 3), (rvar [I 4] 3), (rvar [I 3] 3), rowBp_16, (rvar [(.func (.yield 376) #[] #[])] 218), (rvar [I 2] 3), (rvar [I 3] 3), (rvar [I 4] 3), (rvar [I 2] 3), rowBp_42, (rvar [(.func (.yield 382) #[] #[])] 218), (rvar [I 3] 3), (rvar [I 4] 3), (rvar [I 4] 3), (rvar [I 1] 3), rowBp_43, (rvar [(.func (.yield 388) #[] #[])] 218), (rvar [I 4] 3), (rvar [I 4] 3), (rvar [I 3] 3), (rvar [I 4] 3), (rvar [I 4] 3), (rvar [I 2] 3), rowBp_17, (rvar [(.func (.yield 396) #[] #[])] 218), (rvar [I 4] 3), (rvar [I 4] 3), (rvar [I 2] 3), (rvar [I 3] 3), (rvar [I 4] 3), (rvar [I 3] 3), rowBp_18, (rvar [(.func (.yield 404) #[] #[])] 218), (rvar [I 3] 3), (rvar [I 4] 3), (rvar [I 4] 3), (rvar [I 2] 3), rowBp_44, (rvar [(.func (.yield 410) #[] #[])] 218), (rvar [I 4] 3), (rvar [I 4] 3), (rvar [I 3] 3), (rvar [I 4] 3), (rvar [I 4] 3), (rvar [I 3] 3), rowBp_19, (rvar [(.func (.yield 418) #[] #[])] 218), (rvar [I 4] 3), (rvar [I 4] 3)]
theorem pc11 : aRun Tryz.prog env0 100000 5 ([.code (seqAt 5 (bodyOf 74))]) pL11 pX11 = some (pL12, pX12, none) := by kernel_rfl
end Go.Proofs.YtinkgnklhcjejaaGreat
/-
Two calls of the document's examples, wherever their units lie: the best pairing of U, and no set that proves that there is none below 19.
-/
namespace Go.Abs
open Go
def valB : Value → Value → Bool
  | .int j a, .int k b => j == k && a == b
  | .string s, .string t => decide (s = t)
  | .slice (some ⟨i, o, none⟩) n c, .slice (some ⟨i', o', none⟩) n' c' => i == i' && o == o' && n == n' && c == c'
  | _, _ => false
def valsB : List Value → List Value → Bool
  | [], [] => true
  | a :: l, b :: m => valB a b && valsB l m
  | _, _ => false
def cellsB (r : Option ARow) (cs : List Value) (e : Nat) : Bool := match r with
  | some (.cells cs' e' .row) => e' == e && valsB cs' cs
  | _ => false
theorem valB_eq {a b : Value} (h : valB a b = true) : a = b := by
  unfold valB at h
  split at h
  · simp only [Bool.and_eq_true, beq_iff_eq] at h; rw [h.1, h.2]
  · rw [of_decide_eq_true h]
  · simp only [Bool.and_eq_true, beq_iff_eq] at h; rw [h.1.1.1, h.1.1.2, h.1.2, h.2]
  · cases h
theorem valsB_eq : ∀ {l m : List Value}, valsB l m = true → l = m
  | [], [], _ => rfl
  | a :: l, b :: m, h => by
    simp only [valsB, Bool.and_eq_true] at h
    rw [valB_eq h.1, valsB_eq h.2]
  | [], _ :: _, h => by cases h
  | _ :: _, [], h => by cases h
theorem cellsB_eq {r : Option ARow} {cs : List Value} {e : Nat} (h : cellsB r cs e = true) : r = some (.cells cs e .row) := by
  unfold cellsB at h
  split at h
  · simp only [Bool.and_eq_true, beq_iff_eq] at h; rw [h.1, valsB_eq h.2]
  · cases h
end Go.Abs
namespace Go.Proofs.YtinkgnklhcjejaaGreat
open Go Go.Abs
def uS (b : UInt8) : Value := .string (ByteArray.mk #[b])
def jU (k : Nat) : List Value := [uS 97, sl k 0 2 2, uS 98, sl (k + 1) 0 2 2, uS 99, sl (k + 2) 0 2 2, uS 100, sl (k + 3) 0 2 2]
def XU : Heap := [some (.cells [I 10, I 20] 3 .row), some (.cells [I 12, I 20] 3 .row), some (.cells [I 11, I 26] 3 .row), some (.cells [I 30, I 20] 3 .row), some (.cells (jU 0) 54 .row)]
theorem bq_loop : seqAt 3 (bodyS (seqAt 1 (bodyOf 128))) = .seq (seqAt 0 (seqAt 3 (bodyS (seqAt 1 (bodyOf 128))))) (blk 0 (bodyOf 128)) := by kernel_rfl
theorem best_runs : Runs Tryz.prog env0 5 [.code (dropS 0 (bodyOf 128))] bL0 bX0 (bL11, bX11, some .ret) := by
  refine runs_drop (by kernel_rfl) ⟨_, bc0⟩ ?_
  refine runs_eq (k := .code (.scope (bodyS (seqAt 1 (bodyOf 128)))) :: []) (Runs_scope ?_) rfl (by kernel_rfl) rfl rfl
  refine runs_eq (k := .code (dropS 0 (bodyS (seqAt 1 (bodyOf 128)))) :: .inScope (bodyS (seqAt 1 (bodyOf 128))) :: []) ?_ rfl (by kernel_rfl) rfl rfl
  refine runs_drop (by kernel_rfl) ⟨_, bc1⟩ ?_
  refine runs_drop (by kernel_rfl) ⟨_, bc2⟩ ?_
  refine runs_drop (by kernel_rfl) ⟨_, bc3⟩ ?_
  refine runs_drop (l1 := bL10) (A1 := bX10) (by kernel_rfl) ?_ ?_
  · rw [bq_loop]
    refine Runs.seq ⟨_, bc4⟩ ?_
    refine Runs.blkLoop (id := 0) (c := round 0 (bodyOf 128)) (by kernel_rfl) ?_
    exact Runs.loopAgain ⟨_, bc5⟩ (Runs.loopAgain ⟨_, bc6⟩ (Runs.loopAgain ⟨_, bc7⟩ (Runs.loopAgain ⟨_, bc8⟩ (Runs.inLoop ⟨_, bc9⟩))))
  · refine runs_drop (by kernel_rfl) ⟨_, bc10⟩ ?_
    exact runs_eq (k := .code .ret :: .inScope (bodyS (seqAt 1 (bodyOf 128))) :: []) ⟨1, rfl⟩ rfl (by kernel_rfl) rfl rfl
theorem best_gives : Gives Tryz.prog env0 0 128 [sl 4 0 4 4] XU (.tuple #[sl 5 0 2 2, I 18], XU ++ [some (.cells [I 0, I 2, I 1, I 3] 26 .row)]) := by
  have h := Gives.of_body (lim := 0) (args := [sl 4 0 4 4]) (A := XU) (c := bodyOf 128) (j := some .ret) (v := (.tuple #[(.slice (.some (.mk 285 0 .none)) 2 2), (.int .i64 (18))])) (l1 := bL11) (A1 := bX11) (fun _ _ => by kernel_rfl) Tryz.func128 (by kernel_rfl) (by kernel_rfl) (by kernel_rfl) (runs_eq best_runs (by kernel_rfl) (by kernel_rfl) (by kernel_rfl) (by kernel_rfl)) rfl (by kernel_rfl)
  rw [show aGC XU (.tuple #[(.slice (.some (.mk 285 0 .none)) 2 2), (.int .i64 (18))]) bX11 = (.tuple #[sl 5 0 2 2, I 18], XU ++ [some (.cells [I 0, I 2, I 1, I 3] 26 .row)]) by kernel_rfl] at h
  exact h
theorem pq_loop : seqAt 4 (bodyOf 74) = .seq (seqAt 0 (seqAt 4 (bodyOf 74))) (blk 0 (bodyOf 74)) := by kernel_rfl
theorem prove_runs : Runs Tryz.prog env0 5 [.code (dropS 0 (bodyOf 74))] pL0 pX0 (pL12, pX12, some .ret) := by
  refine runs_drop (by kernel_rfl) ⟨_, pc0⟩ ?_
  refine runs_drop (by kernel_rfl) ⟨_, pc1⟩ ?_
  refine runs_drop (by kernel_rfl) ⟨_, pc2⟩ ?_
  refine runs_drop (by kernel_rfl) ⟨_, pc3⟩ ?_
  refine runs_drop (l1 := pL11) (A1 := pX11) (by kernel_rfl) ?_ ?_
  · rw [pq_loop]
    refine Runs.seq ⟨_, pc4⟩ ?_
    refine Runs.blkLoop (id := 0) (c := round 0 (bodyOf 74)) (by kernel_rfl) ?_
    exact Runs.loopAgain ⟨_, pc5⟩ (Runs.loopAgain ⟨_, pc6⟩ (Runs.loopAgain ⟨_, pc7⟩ (Runs.loopAgain ⟨_, pc8⟩ (Runs.loopAgain ⟨_, pc9⟩ (Runs.inLoop ⟨_, pc10⟩)))))
  · refine runs_drop (by kernel_rfl) ⟨_, pc11⟩ ?_
    exact runs_eq (k := .code .ret :: []) ⟨1, rfl⟩ rfl (by kernel_rfl) rfl rfl
theorem prove_gives : Gives Tryz.prog env0 0 74 [sl 4 0 4 4, I 19] XU (.tuple #[.slice none 0 0, I 7], XU) := by
  have h := Gives.of_body (lim := 0) (args := [sl 4 0 4 4, I 19]) (A := XU) (c := bodyOf 74) (j := some .ret) (v := .tuple #[.slice none 0 0, I 7]) (l1 := pL12) (A1 := pX12) (fun _ _ => by kernel_rfl) Tryz.func74 (by kernel_rfl) (by kernel_rfl) (by kernel_rfl) (runs_eq prove_runs (by kernel_rfl) (by kernel_rfl) (by kernel_rfl) (by kernel_rfl)) rfl (by kernel_rfl)
  rw [show aGC XU (.tuple #[.slice none 0 0, I 7]) pX12 = (.tuple #[.slice none 0 0, I 7], XU) by kernel_rfl] at h
  exact h
/-- The five rows of the units, at 54. -/
noncomputable def units54 (A : Heap) : Bool := cellsB (hget A 54) [I 10, I 20] 3 && cellsB (hget A 55) [I 12, I 20] 3 && cellsB (hget A 56) [I 11, I 26] 3 && cellsB (hget A 57) [I 30, I 20] 3 && cellsB (hget A 58) (jU 54) 54
theorem call54 {f : FuncId} {args args0 : List Value} {A : Heap} {v0 v : Value} {R1 : Heap} (h : units54 A = true) (ha : listRen (valBy (inNum 0 [54, 55, 56, 57, 58])) args = some args0) (hR1 : R1.all plainRow = true) (hv : valBy (outNum 0 [54, 55, 56, 57, 58] A.length) v0 = some v) (hg : Gives Tryz.prog env0 0 f args0 XU (v0, XU ++ R1)) : SaysAt Tryz.prog 0 f args A v (A ++ R1) := by
  unfold units54 at h
  simp only [Bool.and_eq_true] at h
  have h0 := cellsB_eq h.1.1.1.1
  have h1 := cellsB_eq h.1.1.1.2
  have h2 := cellsB_eq h.1.1.2
  have h3 := cellsB_eq h.1.2
  have h4 := cellsB_eq h.2
  intro ρ w args' hargs hG hR
  refine rows_saysN (T := []) (G := 0) (R0 := XU) (R1 := R1) (ids := [54, 55, 56, 57, 58]) (args0 := args0) (v0 := v0) rfl rfl rfl (fun i _ => Nat.zero_le i) rfl ?_ ?_ ha hR1 hv ?_ (SaysAt.of_gives prog_ok env0_ok hg) hargs hG hR
  · exact .cons h0 (.plain rfl) (.cons h1 (.plain rfl) (.cons h2 (.plain rfl) (.cons h3 (.plain rfl) (.cons h4 (.cells rfl) .nil))))
  · intro k i r0 hk hr
    match k, hk with
    | 0, hk => cases hk; cases hr; exact ⟨_, h0, .plain rfl⟩
    | 1, hk => cases hk; cases hr; exact ⟨_, h1, .plain rfl⟩
    | 2, hk => cases hk; cases hr; exact ⟨_, h2, .plain rfl⟩
    | 3, hk => cases hk; cases hr; exact ⟨_, h3, .plain rfl⟩
    | 4, hk => cases hk; cases hr; exact ⟨_, h4, .cells rfl⟩
  · intro k hk
    match k, hk with
    | 0, _ => exact ⟨_, rfl⟩
    | 1, _ => exact ⟨_, rfl⟩
    | 2, _ => exact ⟨_, rfl⟩
    | 3, _ => exact ⟨_, rfl⟩
    | 4, _ => exact ⟨_, rfl⟩
/-- The five rows of the units, at 65. -/
noncomputable def units65 (A : Heap) : Bool := cellsB (hget A 65) [I 10, I 20] 3 && cellsB (hget A 66) [I 12, I 20] 3 && cellsB (hget A 67) [I 11, I 26] 3 && cellsB (hget A 68) [I 30, I 20] 3 && cellsB (hget A 69) (jU 65) 54
theorem call65 {f : FuncId} {args args0 : List Value} {A : Heap} {v0 v : Value} {R1 : Heap} (h : units65 A = true) (ha : listRen (valBy (inNum 0 [65, 66, 67, 68, 69])) args = some args0) (hR1 : R1.all plainRow = true) (hv : valBy (outNum 0 [65, 66, 67, 68, 69] A.length) v0 = some v) (hg : Gives Tryz.prog env0 0 f args0 XU (v0, XU ++ R1)) : SaysAt Tryz.prog 0 f args A v (A ++ R1) := by
  unfold units65 at h
  simp only [Bool.and_eq_true] at h
  have h0 := cellsB_eq h.1.1.1.1
  have h1 := cellsB_eq h.1.1.1.2
  have h2 := cellsB_eq h.1.1.2
  have h3 := cellsB_eq h.1.2
  have h4 := cellsB_eq h.2
  intro ρ w args' hargs hG hR
  refine rows_saysN (T := []) (G := 0) (R0 := XU) (R1 := R1) (ids := [65, 66, 67, 68, 69]) (args0 := args0) (v0 := v0) rfl rfl rfl (fun i _ => Nat.zero_le i) rfl ?_ ?_ ha hR1 hv ?_ (SaysAt.of_gives prog_ok env0_ok hg) hargs hG hR
  · exact .cons h0 (.plain rfl) (.cons h1 (.plain rfl) (.cons h2 (.plain rfl) (.cons h3 (.plain rfl) (.cons h4 (.cells rfl) .nil))))
  · intro k i r0 hk hr
    match k, hk with
    | 0, hk => cases hk; cases hr; exact ⟨_, h0, .plain rfl⟩
    | 1, hk => cases hk; cases hr; exact ⟨_, h1, .plain rfl⟩
    | 2, hk => cases hk; cases hr; exact ⟨_, h2, .plain rfl⟩
    | 3, hk => cases hk; cases hr; exact ⟨_, h3, .plain rfl⟩
    | 4, hk => cases hk; cases hr; exact ⟨_, h4, .cells rfl⟩
  · intro k hk
    match k, hk with
    | 0, _ => exact ⟨_, rfl⟩
    | 1, _ => exact ⟨_, rfl⟩
    | 2, _ => exact ⟨_, rfl⟩
    | 3, _ => exact ⟨_, rfl⟩
    | 4, _ => exact ⟨_, rfl⟩
noncomputable def KJ : Nat → FuncId → List Value → Heap → Option (Value × Heap) := fun _ f args A =>
  if f == 128 then
    match args with
    | [.slice (some ⟨u, 0, none⟩) 4 4] => if u == 58 && units54 A then some (.tuple #[sl A.length 0 2 2, I 18], A ++ [some (.cells [I 0, I 2, I 1, I 3] 26 .row)]) else none
    | _ => none
  else if f == 74 then
    match args with
    | [.slice (some ⟨u, 0, none⟩) 4 4, .int .i64 b] => if u == 69 && b == 19 && units65 A then some (.tuple #[.slice none 0 0, I 7], A) else none
    | _ => none
  else none
noncomputable def envJ : Env := env0.with KJ
theorem envJ_ok : EnvOK Tryz.prog 0 envJ := env_says env0_ok fun lim f args A v A' h => by
  unfold KJ at h
  split at h
  · rename_i hf
    obtain rfl : f = 128 := eq_of_beq hf
    split at h
    · split at h
      · rename_i hc
        simp only [Bool.and_eq_true, beq_iff_eq] at hc
        obtain ⟨rfl, hu⟩ := hc
        cases h
        exact ⟨call54 hu rfl rfl rfl best_gives, by simp, fun i _ hi => by rw [hget_append, if_pos hi]⟩
      · cases h
    · cases h
  split at h
  · rename_i hf
    obtain rfl : f = 74 := eq_of_beq hf
    split at h
    · split at h
      · rename_i hc
        simp only [Bool.and_eq_true, beq_iff_eq] at hc
        obtain ⟨⟨rfl, rfl⟩, hu⟩ := hc
        cases h
        have := call65 (f := 74) (args := [sl 69 0 4 4, I 19]) (R1 := []) hu rfl rfl (v := .tuple #[.slice none 0 0, I 7]) rfl prove_gives
        rw [List.append_nil] at this
        exact ⟨this, Keeps.refl _ _⟩
      · cases h
    · cases h
  cases h
end Go.Proofs.YtinkgnklhcjejaaGreat
