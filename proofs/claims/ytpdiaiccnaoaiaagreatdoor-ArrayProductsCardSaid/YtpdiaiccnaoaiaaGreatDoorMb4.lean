/-
Joined: Seat, AbK, WW, WZ, Ga, Gb, Gc, Gd, Ge, AwS, AwA, AwB, AwC, AwD, AwZ, Gf, AbU, AbV, AbY, AbZ, AbL, AbG, AbI.
-/
import Derived.Test.YtpdiaiccnaoaiaaGreatDoorMb2
import Derived.Test.YtpdiaiccnaoaiaaGreatDoorMb3
import Derived.Test.YtpdiaiccnaoaiaaGreatDoorProg
import Derived.KernelRfl
set_option linter.unusedVariables false
set_option linter.unusedSimpArgs false
set_option linter.unusedSectionVars false
/-
The seat's program, its tables and its library, as the abstract machine wants them.
-/
namespace Go.Proofs.YtpdiaiccnaoaiaaGreatDoor
open Go Go.Abs

theorem prog_ok : ProgOK Tryz.prog 8 := progOK_spec (by kernel_rfl)
def memN (l : List Nat) (n : Nat) : Bool := l.any fun m => m == n
/-- Functions that write rows of their callers; functions of the library without bodies. -/
def env0 : Env := { impure := memN [139, 140, 141, 158, 159, 196, 180, 149, 137, 135, 153, 169, 170, 171, 172, 173, 174, 175, 176, 189, 191, 192, 193, 201, 164, 165, 146, 145, 120], known := libKnown 181 182 5 }
theorem lib : LibOK Tryz.prog 181 182 5 where
  ne_ := ⟨_, Tryz.func181, by kernel_rfl, by kernel_rfl, by kernel_rfl, by kernel_rfl⟩
  mk_ := ⟨_, Tryz.f182.params, 193, Tryz.func182, by kernel_rfl, by kernel_rfl, by kernel_rfl, by kernel_rfl, by kernel_rfl⟩
  esz := by kernel_rfl
theorem env0_ok : EnvOK Tryz.prog 8 env0 := lib_ok lib
def lits (k : IntKind) (l : List Int) : List Value := l.map (.int k)
def H (X : Heap) : Heap :=
  some (.cells (lits .i64 [1,0,1,1,0,1,-1,1,-1,0,-1,-1,0,-1,1,-1]) 0 .ro) ::
  some (.cells (lits .i64 [1,0,0,1,-1,0,0,-1]) 0 .ro) ::
  none ::
  some (.cells (lits .u64 [1,10,100,1000,10000,100000,1000000,10000000,100000000,1000000000,10000000000,100000000000,1000000000000,10000000000000,100000000000000,1000000000000000,10000000000000000,100000000000000000,1000000000000000000,10000000000000000000]) 0 .ro) ::
  some (.cells (lits .u8 [0,1,28,2,29,14,24,3,30,22,20,15,25,17,4,8,31,27,13,23,21,19,16,7,26,12,18,6,11,5,10,9]) 0 .ro) ::
  some (.cells (lits .u8 [0,1,56,2,57,49,28,3,61,58,42,50,38,29,17,4,62,47,59,36,45,43,51,22,53,39,33,30,24,18,12,5,63,55,48,27,60,41,37,16,46,35,44,21,52,32,23,11,54,26,40,15,34,20,31,10,25,14,19,9,13,8,7,6]) 0 .ro) ::
  none :: none :: X
/-- The tables, as rows. -/
def heap0 : Heap := H []
noncomputable def bodyOf (f : FuncId) : Code := match Tryz.prog.funcs[f]? with
  | some fn => fn.body.getD .skip
  | none => .skip
/-- A number. -/
abbrev I (n : Int) : Value := .int .i64 n
/-- A pointer; a slice; none; a variable's row; a slice's row; two numbers. -/
abbrev pt (i o : Nat) : Value := .pointer (some ⟨i, o, none⟩)
abbrev sl (i o n c : Nat) : Value := .slice (some ⟨i, o, none⟩) n c
abbrev rvar (cs : List Value) (e : Nat) : Option ARow := some (.cells cs e .var)
abbrev rrow (cs : List Value) (e : Nat) : Option ARow := some (.cells cs e .row)
abbrev g2 (a b : Int) : Value := .agg #[I a, I b]
/-- Nothing. -/
abbrev U : Value := .tuple #[]
def us (n : Nat) : List Value := List.replicate n U
/-- No table at all. -/
def heapN : Heap := [none, none, none, none, none, none, none, none]
/-- Rows behind eight tables that nobody asks for. -/
abbrev n8 (l : Heap) : Heap := none :: none :: none :: none :: none :: none :: none :: none :: l
end Go.Proofs.YtpdiaiccnaoaiaaGreatDoor
/-
A call that ranges over a map, by one check: all orders are run, and end in the same state.
-/
namespace Go.Abs
open Go
def catO {α : Type} : List (Option (List α)) → Option (List α)
  | [] => some []
  | none :: _ => none
  | some a :: r => match catO r with
    | some b => some (a ++ b)
    | none => none
theorem catO_mem {α : Type} : ∀ {L : List (Option (List α))} {es : List α}, catO L = some es → ∀ o ∈ L, ∃ b, o = some b ∧ ∀ e ∈ b, e ∈ es
  | [], _, _, o, ho => by cases ho
  | none :: _, _, h, _, _ => by simp [catO] at h
  | some a :: r, es, h, o, ho => by
    simp only [catO] at h
    cases hr : catO r with
    | none => rw [hr] at h; cases h
    | some b =>
      rw [hr] at h
      cases h
      rcases List.mem_cons.1 ho with rfl | ho
      · exact ⟨a, rfl, fun e he => List.mem_append_left _ he⟩
      · obtain ⟨b', h1, h2⟩ := catO_mem hr o ho
        exact ⟨b', h1, fun e he => List.mem_append_right _ (h2 e he)⟩
/-- c's statements from j on, cnt of them. -/
noncomputable def runD (P : Program) (E : Env) (n lim : Nat) (c : Code) : Nat → Nat → List Value → Heap → Option (List Value × Heap)
  | 0, _, l, A => some (l, A)
  | cnt + 1, j, l, A => match isSeq (dropS j c), aRun P E n lim [.code (seqAt j c)] l A with
    | true, some (l1, A1, none) => runD P E n lim c cnt (j + 1) l1 A1
    | _, _ => none
theorem EndsA.runD {P : Program} {G : Nat} {E : Env} {fn : Func} {A0 A1 : Heap} {v : Value} (hP : ProgOK P G) (hE : EnvOK P G E) {n lim : Nat} {c : Code} {kk : List It} : ∀ {cnt j : Nat} {l l2 : List Value} {A A2 : Heap}, Go.Abs.runD P E n lim c cnt j l A = some (l2, A2) → EndsA P G fn A0 v A1 (.code (dropS (j + cnt) c) :: kk) l2 A2 → EndsA P G fn A0 v A1 (.code (dropS j c) :: kk) l A
  | 0, j, l, l2, A, A2, h, h2 => by
    simp only [Go.Abs.runD, Option.some.injEq, Prod.mk.injEq] at h
    obtain ⟨rfl, rfl⟩ := h
    exact h2
  | cnt + 1, j, l, l2, A, A2, h, h2 => by
    simp only [Go.Abs.runD] at h
    split at h
    · rename_i l1 A1' hs hr
      refine EndsA.drop hP hE hs ⟨n, hr⟩ (EndsA.runD hP hE h ?_)
      rw [show j + 1 + cnt = j + (cnt + 1) by omega]
      exact h2
    · cases h
theorem rowsBy_of {g : Nat → Option Nat} {A : Heap} : ∀ {ids : List Nat} {R : Heap}, rowsAt A ids = some R → RowsBy g A ids R
  | [], R, h => by simp only [rowsAt, Option.some.injEq] at h; subst h; exact .nil
  | i :: ids, R, h => by
    simp only [rowsAt] at h
    split at h
    · rename_i cs e u R' h1 h2
      split at h
      · rename_i h3
        cases h
        exact .cons h1 (.plain h3) (rowsBy_of h2)
      · cases h
    · cases h
/-- The shape of such a call: c's statement j is a range over a map, cnt statements follow before the end; in the state at the end slots m are kept, rows of the slot's value. -/
structure MapC where
  c : Code
  j : Nat
  cnt : Nat
  x : Operand
  d : Option Tmp
  m : List Keep
  slot : Nat
noncomputable def MapC.B (C : MapC) : Code := loopB (tailS (seqAt C.j C.c))
noncomputable def MapC.O (C : MapC) : Array Oper := headOps C.B
noncomputable def MapC.R (C : MapC) : Code := tailS C.B
noncomputable def MapC.id (C : MapC) : Nat := blkId (tailS (seqAt C.j C.c))
section
variable (P : Program) (E : Env) (n lim : Nat) (A0 : Heap) (C : MapC)
noncomputable def MapC.stop (l : List Value) (A : Heap) : Option (List (List Value × Heap × Heap)) :=
  match slotsTo (inNum A0.length (valIds A0.length (l.getD C.slot undef))) C.m l, rowsAt A (valIds A0.length (l.getD C.slot undef)) with
  | some (l2, fs), some R => match fs.all freeB && (valIds A0.length (l.getD C.slot undef)).all (fun i => decide (A0.length ≤ i)) && nodupB (valIds A0.length (l.getD C.slot undef)) with
    | true => some [(l2, A.take A0.length, R)]
    | false => none
  | _, _ => none
noncomputable def MapC.ends : Nat → List Value → Heap → Option (List (List Value × Heap × Heap))
  | 0, _, _ => none
  | k + 1, l, A =>
    match ev l C.x with
    | .pointer (some ⟨it, 0, none⟩) =>
      match hget A it with
      | some (.miter m since seen last) =>
        match hget A m with
        | some (.map es clock) =>
          match es.all (fun e => decide (e.2.2 < since)) && decide (since ≤ last) with
          | true =>
            match (leftA seen es).isEmpty with
            | true => match aRun P E n lim [.ops C.O 1, .code C.R, .inLoop C.B, .inBlock C.id] (tput l C.d (.tuple #[.bool false])) A with
              | some (l1, A1, none) => match runD P E n lim C.c C.cnt (C.j + 1) l1 A1 with
                | some (l2, A2) => C.stop A0 l2 A2
                | none => none
              | _ => none
            | false => catO ((leftA seen es).map fun e => match freeB e.1, aRun P E n lim [.ops C.O 1, .code C.R] (tput l C.d (.tuple #[.bool true, e.1, e.2.1])) (hset A it (some (.miter m since (seen ++ [e.2.2]) clock))) with
              | true, some (l1, A1, none) => MapC.ends k l1 A1
              | _, _ => none)
          | false => none
        | _ => none
      | _ => none
    | _ => none
end
theorem Each.of {p : Value × Value × Nat → Prop} : ∀ {r : List (Value × Value × Nat)}, (∀ e ∈ r, p e) → Each p r
  | [], _ => trivial
  | x :: r, h => ⟨h x (List.mem_cons_self ..), Each.of fun e he => h e (List.mem_cons_of_mem _ he)⟩
theorem MapC.ends_ok {P : Program} {G : Nat} {E : Env} {fn : Func} {A0 A1 RC : Heap} {v : Value} {LC : List Value} {n lim : Nat} {C : MapC} (hP : ProgOK P G) (hE : EnvOK P G E) {rid : Nat} (hB : C.B = .seq (.region rid C.O false) C.R) (hO : nextAt C.O 0 = some (C.x, C.d)) (hm : fn.ntmps ≤ C.m.length)
    (hend : EndsA P G fn A0 v A1 [.code (dropS (C.j + 1 + C.cnt) C.c)] LC (A0 ++ RC)) :
    ∀ {k : Nat} {l : List Value} {A : Heap} {es : List (List Value × Heap × Heap)}, C.ends P E n lim A0 k l A = some es → (∀ e ∈ es, e = (LC, A0, RC)) → EndsA P G fn A0 v A1 [.code C.B, .inLoop C.B, .inBlock C.id, .code (dropS (C.j + 1) C.c)] l A
  | 0, _, _, _, h, _ => by simp [MapC.ends] at h
  | k + 1, l, A, es, h, he => by
    simp only [MapC.ends] at h
    split at h
    · rename_i it hev
      split at h
      · rename_i m since seen last hit
        split at h
        · rename_i me clock hmap
          split at h
          · rename_i hc
            rw [Bool.and_eq_true, decide_eq_true_eq] at hc
            split at h
            · rename_i hemp
              split at h
              · rename_i l1 A1' hr
                split at h
                · rename_i l2 A2 hr2
                  refine EndsA.mapRound hB (EndsA.over C.x C.d it m since last clock seen me hO hev hit hmap hc.1 hc.2 (List.isEmpty_iff.1 hemp) ?_)
                  refine EndsA.run (k := [.ops C.O 1, .code C.R, .inLoop C.B, .inBlock C.id]) hP hE ⟨n, hr⟩ ?_
                  refine EndsA.runD hP hE hr2 ?_
                  unfold MapC.stop at h
                  split at h
                  · rename_i l3 fs R hs hrow
                    split at h
                    · rename_i hb
                      simp only [Bool.and_eq_true, List.all_eq_true, decide_eq_true_eq] at hb
                      cases h
                      have := he _ (List.mem_singleton.2 rfl)
                      simp only [Prod.mk.injEq] at this
                      obtain ⟨rfl, h2, rfl⟩ := this
                      rw [show A2 = A0 ++ A2.drop A0.length from by conv => lhs; rw [← List.take_append_drop A0.length A2, h2]]
                      refine EndsA.renum hb.1.2 hb.2 hm hs hb.1.1 ?_ hend
                      rw [show A0 ++ A2.drop A0.length = A2 from by conv => rhs; rw [← List.take_append_drop A0.length A2, h2]]
                      exact rowsBy_of hrow
                    · cases h
                  · cases h
                · cases h
              · cases h
            · rename_i hemp
              refine EndsA.mapRound hB (EndsA.more C.x C.d it m since last clock seen me (leftA seen me) hO hev hit hmap hc.1 hc.2 rfl hemp (Each.of fun e hmem => ?_))
              obtain ⟨b, hb1, hb2⟩ := catO_mem h _ (List.mem_map.2 ⟨e, hmem, rfl⟩)
              split at hb1
              · rename_i l1 A1' hf hr
                exact ⟨hf, EndsA.run (k := [.ops C.O 1, .code C.R]) hP hE ⟨n, hr⟩ (EndsA.again (MapC.ends_ok hP hE hB hO hm hend hb1 fun x hx => he x (hb2 x hx)))⟩
              · cases hb1
          · cases h
        · cases h
      · cases h
    · cases h
/-- A call that ranges over a map: its begin, its loop in all orders, its end. -/
theorem MapC.says {P : Program} {G : Nat} {E : Env} {fn : Func} {f : FuncId} {args : List Value} {A0 RC A' l4 l5 : List (Option ARow)} {s4 s5 LC : List Value} {v v' : Value} {n lim k rid q : Nat} {C : MapC} (hP : ProgOK P G) (hE : EnvOK P G E) (hf : P.funcs[f]? = some fn) (hb : fn.body = some C.c) (hnt : ¬ fn.ntmps < args.length)
    (h1 : runD P E n lim C.c C.j 0 (padTo fn.ntmps args) A0 = some (s4, l4)) (hS : isSeq (dropS C.j C.c) = true) (hS2 : seqAt C.j C.c = .seq (headS (seqAt C.j C.c)) (tailS (seqAt C.j C.c))) (h2 : aRun P E n lim [.code (headS (seqAt C.j C.c))] s4 l4 = some (s5, l5, none)) (hC : tailS (seqAt C.j C.c) = .block C.id (.loop C.B))
    (hB : C.B = .seq (.region rid C.O false) C.R) (hO : nextAt C.O 0 = some (C.x, C.d)) (hm : fn.ntmps ≤ C.m.length) (h3 : C.ends P E n lim A0 k s5 l5 = some (List.replicate q (LC, A0, RC)))
    (h4 : EndsA P G fn A0 v (A0 ++ RC) [.code (dropS (C.j + 1 + C.cnt) C.c)] LC (A0 ++ RC)) (hgc : aGC A0 v (A0 ++ RC) = (v', A')) : SaysAt P G f args A0 v' A' := by
  refine EndsA.says hP hf hb hnt ?_ (by simp) (fun i hi => by rw [hget_append, if_pos hi]) hgc
  have := EndsA.runD (kk := []) (fn := fn) (A0 := A0) (v := v) (A1 := A0 ++ RC) hP hE (cnt := C.j) (j := 0) h1 ?_
  · exact this
  · rw [Nat.zero_add]
    refine EndsA.dropSeq hS ?_
    rw [hS2]
    refine EndsA.seq (EndsA.run (k := [.code (headS (seqAt C.j C.c))]) hP hE ⟨n, h2⟩ (EndsA.blockLoop hC ?_))
    exact MapC.ends_ok hP hE hB hO hm h4 h3 fun e he => (List.mem_replicate.1 he).2
noncomputable def MapC.all (P : Program) (E : Env) (n lim k : Nat) (l A0 : Heap) (s : List Value) (C : MapC) : Option (List (List Value × Heap × Heap)) :=
  match runD P E n lim C.c C.j 0 s l with
  | some (s4, l4) => match aRun P E n lim [.code (headS (seqAt C.j C.c))] s4 l4 with
    | some (s5, l5, none) => C.ends P E n lim A0 k s5 l5
    | _ => none
  | none => none
theorem MapC.says1 {P : Program} {G : Nat} {E : Env} {fn : Func} {f : FuncId} {args : List Value} {A0 RC A' : Heap} {LC : List Value} {v v' : Value} {n lim k rid q : Nat} {C : MapC} (hP : ProgOK P G) (hE : EnvOK P G E) (hf : P.funcs[f]? = some fn) (hb : fn.body = some C.c) (hnt : ¬ fn.ntmps < args.length)
    (hS : isSeq (dropS C.j C.c) = true) (hS2 : seqAt C.j C.c = .seq (headS (seqAt C.j C.c)) (tailS (seqAt C.j C.c))) (hC : tailS (seqAt C.j C.c) = .block C.id (.loop C.B))
    (hB : C.B = .seq (.region rid C.O false) C.R) (hO : nextAt C.O 0 = some (C.x, C.d)) (hm : fn.ntmps ≤ C.m.length) (h3 : C.all P E n lim k A0 A0 (padTo fn.ntmps args) = some (List.replicate q (LC, A0, RC)))
    (h4 : EndsA P G fn A0 v (A0 ++ RC) [.code (dropS (C.j + 1 + C.cnt) C.c)] LC (A0 ++ RC)) (hgc : aGC A0 v (A0 ++ RC) = (v', A')) : SaysAt P G f args A0 v' A' := by
  unfold MapC.all at h3
  split at h3
  · rename_i s4 l4 h1
    split at h3
    · rename_i s5 l5 h2
      exact MapC.says hP hE hf hb hnt h1 hS hS2 h2 hC hB hO hm h3 h4 hgc
    · cases h3
  · cases h3
/-- A call by groups of its statements. -/
theorem Runs.runD {P : Program} {E : Env} {n lim : Nat} {c : Code} {r : List Value × Heap × Option Code} : ∀ {cnt j : Nat} {l l2 : List Value} {A A2 : Heap}, Go.Abs.runD P E n lim c cnt j l A = some (l2, A2) → Runs P E lim [.code (dropS (j + cnt) c)] l2 A2 r → Runs P E lim [.code (dropS j c)] l A r
  | 0, j, l, l2, A, A2, h, h2 => by
    simp only [Go.Abs.runD, Option.some.injEq, Prod.mk.injEq] at h
    obtain ⟨rfl, rfl⟩ := h
    exact h2
  | cnt + 1, j, l, l2, A, A2, h, h2 => by
    simp only [Go.Abs.runD] at h
    split at h
    · rename_i l1 A1' hs hr
      refine runs_drop hs ⟨n, hr⟩ (Runs.runD h ?_)
      rw [show j + 1 + cnt = j + (cnt + 1) by omega]
      exact h2
    · cases h
/-- The last group, with the last statement; what the call gives. -/
noncomputable def endD (P : Program) (E : Env) (n lim : Nat) (fn : Func) (c : Code) (cnt j : Nat) (l : List Value) (A A0 : Heap) : Option (Value × Heap) :=
  match runD P E n lim c cnt j l A with
  | some (l1, A1) => match aRun P E n lim [.code (seqAt (j + cnt) c)] l1 A1 with
    | some (l2, A2, some .ret) => match aResults P fn l2 A2 with
      | some v => some (aGC A0 v A2)
      | none => none
    | _ => none
  | none => none
theorem Gives.of_groups {P : Program} {E : Env} {f : FuncId} {fn : Func} {c : Code} {args l : List Value} {A A1 : Heap} {n lim cnt j : Nat} {r : Value × Heap} (hk : ∀ lim A, E.known lim f args A = none) (hf : P.funcs[f]? = some fn) (hb : fn.body = some c) (hn : decide (fn.ntmps < args.length) = false) (hi : E.impure f = false)
    (hs : isSeq (dropS (j + cnt) c) = false) (he : endD P E n A.length fn c cnt j l A1 A = some r) (h : ∀ r', Runs P E A.length [.code (dropS j c)] l A1 r' → Runs P E A.length [.code c] (padTo fn.ntmps args) A r') : Gives P E lim f args A r := by
  unfold endD at he
  split at he
  · rename_i l1 A1' h1
    split at he
    · rename_i l2 A2 h2
      split at he
      · rename_i v hv
        cases he
        exact Gives.of_body (j := some .ret) hk hf hb hn hi (h _ (Runs.runD h1 (runs_last hs ⟨n, h2⟩))) rfl hv
      · cases he
    · cases he
  · cases he
end Go.Abs
/-
The weights of the lists of the document's examples, whatever the order of the map: all orders are run.
-/
namespace Go.Proofs.YtpdiaiccnaoaiaaGreatDoor
open Go Go.Abs
noncomputable def mC : MapC := ⟨bodyOf 106, 4, 2, .tmp 28, some 29, .no :: .no :: .ren :: (List.replicate 27 .no ++ .free :: (List.replicate 5 .no ++ .free :: List.replicate 12 .no)), 2⟩
noncomputable def mL (v : Value) : List Value := junk :: junk :: v :: (List.replicate 27 junk ++ .bool false :: (List.replicate 5 junk ++ .bool true :: List.replicate 12 junk))
theorem mC_S : isSeq (dropS mC.j mC.c) = true := by kernel_rfl
theorem mC_S2 : seqAt mC.j mC.c = .seq (headS (seqAt mC.j mC.c)) (tailS (seqAt mC.j mC.c)) := by kernel_rfl
theorem mC_C : tailS (seqAt mC.j mC.c) = .block mC.id (.loop mC.B) := by kernel_rfl
theorem mC_B : mC.B = .seq (.region (headId mC.B) mC.O false) mC.R := by kernel_rfl
theorem mC_O : nextAt mC.O 0 = some (mC.x, mC.d) := by kernel_rfl
theorem mC_c (v : Value) (A : Heap) : aRun Tryz.prog env0 100000 9 [.code (dropS 7 (bodyOf 106))] (mL v) A = some (mL v, A, some .ret) := by kernel_rfl
theorem mC_r (v : Value) (A : Heap) : aResults Tryz.prog Tryz.f106 (mL v) A = some v := by kernel_rfl
theorem mC_e : [It.code (dropS (mC.j + 1 + mC.cnt) mC.c)] = [.code (dropS 7 (bodyOf 106))] := by kernel_rfl
theorem mC_end (v : Value) (A0 RC : Heap) : EndsA Tryz.prog 8 Tryz.f106 A0 v (A0 ++ RC) [.code (dropS (mC.j + 1 + mC.cnt) mC.c)] (mL v) (A0 ++ RC) :=
  EndsA.cast mC_e rfl rfl (EndsA.ret prog_ok env0_ok ⟨_, mC_c v (A0 ++ RC)⟩ rfl (mC_r v _))
theorem mC_b : Tryz.f106.body = some mC.c := by kernel_rfl
theorem mC_m : Tryz.f106.ntmps ≤ mC.m.length := Nat.le_of_ble_eq_true (by kernel_rfl)
theorem mC_says {args : List Value} {A0 RC A' : Heap} {v v' : Value} {q : Nat} (hnt : ¬ Tryz.f106.ntmps < args.length) (h : mC.all Tryz.prog env0 100000 9 5 A0 A0 (padTo Tryz.f106.ntmps args) = some (List.replicate q (mL v, A0, RC))) (hgc : aGC A0 v (A0 ++ RC) = (v', A')) : SaysAt Tryz.prog 8 106 args A0 v' A' :=
  MapC.says1 (C := mC) prog_ok env0_ok Tryz.func106 mC_b hnt mC_S mC_S2 mC_C mC_B mC_O mC_m h (mC_end v A0 RC) hgc
noncomputable def w0_A : Heap := (H [some (.cells [.int .i64 0, .int .i64 0, .int .i64 1, .int .i64 0, .int .i64 1, .int .i64 0, .int .i64 1, .int .i64 0] 32 .row)])
noncomputable def w0_V : Value := (.slice (some ⟨9, 0, none⟩) 2 2)
noncomputable def w0_RC : Heap := [(rrow [I 0, I 0, I 1, I 0, I 1, I 0, I 1, I 0] 125)]
theorem w0_says : SaysAt Tryz.prog 8 106 [.slice (some ⟨8, 0, none⟩) 2 2] w0_A w0_V (w0_A ++ w0_RC) := mC_says (v := w0_V) (RC := w0_RC) (q := 2) (by decide) (by kernel_rfl) (by kernel_rfl)
noncomputable def w1_A : Heap := (H [some (.cells [.int .i64 0, .int .i64 0, .int .i64 1, .int .i64 0, .int .i64 0, .int .i64 1, .int .i64 1, .int .i64 0] 32 .row)])
noncomputable def w1_V : Value := (.slice (some ⟨9, 0, none⟩) 2 2)
noncomputable def w1_RC : Heap := [(rrow [I 0, I 0, I 1, I 0, I 0, I 1, I 1, I 0] 125)]
theorem w1_says : SaysAt Tryz.prog 8 106 [.slice (some ⟨8, 0, none⟩) 2 2] w1_A w1_V (w1_A ++ w1_RC) := mC_says (v := w1_V) (RC := w1_RC) (q := 2) (by decide) (by kernel_rfl) (by kernel_rfl)
noncomputable def w2_A : Heap := (H [some (.cells [.int .i64 0, .int .i64 0, .int .i64 1, .int .i64 0, .int .i64 (-1), .int .i64 0, .int .i64 1, .int .i64 0] 32 .row)])
noncomputable def w2_V : Value := (.slice (some ⟨9, 0, none⟩) 2 2)
noncomputable def w2_RC : Heap := [(rrow [(I (-1)), I 0, I 1, I 0, I 0, I 0, I 1, I 0] 125)]
theorem w2_says : SaysAt Tryz.prog 8 106 [.slice (some ⟨8, 0, none⟩) 2 2] w2_A w2_V (w2_A ++ w2_RC) := mC_says (v := w2_V) (RC := w2_RC) (q := 2) (by decide) (by kernel_rfl) (by kernel_rfl)
noncomputable def w3_A : Heap := (H [some (.cells [.int .i64 0, .int .i64 0, .int .i64 1, .int .i64 0, .int .i64 0, .int .i64 (-1), .int .i64 1, .int .i64 0] 32 .row)])
noncomputable def w3_V : Value := (.slice (some ⟨9, 0, none⟩) 2 2)
noncomputable def w3_RC : Heap := [(rrow [I 0, (I (-1)), I 1, I 0, I 0, I 0, I 1, I 0] 125)]
theorem w3_says : SaysAt Tryz.prog 8 106 [.slice (some ⟨8, 0, none⟩) 2 2] w3_A w3_V (w3_A ++ w3_RC) := mC_says (v := w3_V) (RC := w3_RC) (q := 2) (by decide) (by kernel_rfl) (by kernel_rfl)
noncomputable def w4_A : Heap := (H [some (.cells [.int .i64 1, .int .i64 0, .int .i64 1, .int .i64 0, .int .i64 (-1), .int .i64 0, .int .i64 1, .int .i64 0] 32 .row)])
noncomputable def w4_V : Value := (.slice (some ⟨9, 0, none⟩) 2 2)
noncomputable def w4_RC : Heap := [(rrow [(I (-1)), I 0, I 1, I 0, I 1, I 0, I 1, I 0] 125)]
theorem w4_says : SaysAt Tryz.prog 8 106 [.slice (some ⟨8, 0, none⟩) 2 2] w4_A w4_V (w4_A ++ w4_RC) := mC_says (v := w4_V) (RC := w4_RC) (q := 2) (by decide) (by kernel_rfl) (by kernel_rfl)
noncomputable def w5_A : Heap := (H [some (.cells [.int .i64 0, .int .i64 1, .int .i64 1, .int .i64 0, .int .i64 0, .int .i64 (-1), .int .i64 1, .int .i64 0] 32 .row)])
noncomputable def w5_V : Value := (.slice (some ⟨9, 0, none⟩) 2 2)
noncomputable def w5_RC : Heap := [(rrow [I 0, (I (-1)), I 1, I 0, I 0, I 1, I 1, I 0] 125)]
theorem w5_says : SaysAt Tryz.prog 8 106 [.slice (some ⟨8, 0, none⟩) 2 2] w5_A w5_V (w5_A ++ w5_RC) := mC_says (v := w5_V) (RC := w5_RC) (q := 2) (by decide) (by kernel_rfl) (by kernel_rfl)
noncomputable def w6_A : Heap := (H [some (.cells [.int .i64 (-1), .int .i64 0, .int .i64 1, .int .i64 0, .int .i64 1, .int .i64 0, .int .i64 1, .int .i64 0] 32 .row)])
noncomputable def w6_V : Value := (.slice (some ⟨9, 0, none⟩) 2 2)
noncomputable def w6_RC : Heap := [(rrow [(I (-1)), I 0, I 1, I 0, I 1, I 0, I 1, I 0] 125)]
theorem w6_says : SaysAt Tryz.prog 8 106 [.slice (some ⟨8, 0, none⟩) 2 2] w6_A w6_V (w6_A ++ w6_RC) := mC_says (v := w6_V) (RC := w6_RC) (q := 2) (by decide) (by kernel_rfl) (by kernel_rfl)
noncomputable def w7_A : Heap := (H [some (.cells [.int .i64 0, .int .i64 (-1), .int .i64 1, .int .i64 0, .int .i64 0, .int .i64 1, .int .i64 1, .int .i64 0] 32 .row)])
noncomputable def w7_V : Value := (.slice (some ⟨9, 0, none⟩) 2 2)
noncomputable def w7_RC : Heap := [(rrow [I 0, (I (-1)), I 1, I 0, I 0, I 1, I 1, I 0] 125)]
theorem w7_says : SaysAt Tryz.prog 8 106 [.slice (some ⟨8, 0, none⟩) 2 2] w7_A w7_V (w7_A ++ w7_RC) := mC_says (v := w7_V) (RC := w7_RC) (q := 2) (by decide) (by kernel_rfl) (by kernel_rfl)
noncomputable def w8_A : Heap := (H [some (.cells [.int .i64 0, .int .i64 0, .int .i64 1, .int .i64 0, .int .i64 1, .int .i64 0, .int .i64 1, .int .i64 0, .int .i64 1, .int .i64 0, .int .i64 1, .int .i64 0, .int .i64 2, .int .i64 0, .int .i64 1, .int .i64 0] 32 .row)])
noncomputable def w8_V : Value := (.slice (some ⟨9, 0, none⟩) 3 3)
noncomputable def w8_RC : Heap := [(rrow [I 0, I 0, I 1, I 0, I 1, I 0, I 2, I 0, I 2, I 0, I 1, I 0] 125)]
theorem w8_says : SaysAt Tryz.prog 8 106 [.slice (some ⟨8, 0, none⟩) 4 4] w8_A w8_V (w8_A ++ w8_RC) := mC_says (v := w8_V) (RC := w8_RC) (q := 6) (by decide) (by kernel_rfl) (by kernel_rfl)
noncomputable def w9_A : Heap := (H [some (.cells [.int .i64 0, .int .i64 0, .int .i64 1, .int .i64 0, .int .i64 1, .int .i64 0, .int .i64 2, .int .i64 0, .int .i64 2, .int .i64 0, .int .i64 1, .int .i64 0] 32 .row)])
noncomputable def w9_V : Value := (.slice (some ⟨9, 0, none⟩) 3 3)
noncomputable def w9_RC : Heap := [(rrow [I 0, I 0, I 1, I 0, I 1, I 0, I 2, I 0, I 2, I 0, I 1, I 0] 125)]
theorem w9_says : SaysAt Tryz.prog 8 106 [.slice (some ⟨8, 0, none⟩) 3 3] w9_A w9_V (w9_A ++ w9_RC) := mC_says (v := w9_V) (RC := w9_RC) (q := 6) (by decide) (by kernel_rfl) (by kernel_rfl)
/-
The weights of the lists of the document's examples are known from here on.
-/
def w0_args : List Value := [.slice (some ⟨8, 0, none⟩) 2 2]
def w0_rows : Heap := [some (.cells [.int .i64 0, .int .i64 0, .int .i64 1, .int .i64 0, .int .i64 1, .int .i64 0, .int .i64 1, .int .i64 0] 32 .row)]
def w1_args : List Value := [.slice (some ⟨8, 0, none⟩) 2 2]
def w1_rows : Heap := [some (.cells [.int .i64 0, .int .i64 0, .int .i64 1, .int .i64 0, .int .i64 0, .int .i64 1, .int .i64 1, .int .i64 0] 32 .row)]
def w2_args : List Value := [.slice (some ⟨8, 0, none⟩) 2 2]
def w2_rows : Heap := [some (.cells [.int .i64 0, .int .i64 0, .int .i64 1, .int .i64 0, .int .i64 (-1), .int .i64 0, .int .i64 1, .int .i64 0] 32 .row)]
def w3_args : List Value := [.slice (some ⟨8, 0, none⟩) 2 2]
def w3_rows : Heap := [some (.cells [.int .i64 0, .int .i64 0, .int .i64 1, .int .i64 0, .int .i64 0, .int .i64 (-1), .int .i64 1, .int .i64 0] 32 .row)]
def w4_args : List Value := [.slice (some ⟨8, 0, none⟩) 2 2]
def w4_rows : Heap := [some (.cells [.int .i64 1, .int .i64 0, .int .i64 1, .int .i64 0, .int .i64 (-1), .int .i64 0, .int .i64 1, .int .i64 0] 32 .row)]
def w5_args : List Value := [.slice (some ⟨8, 0, none⟩) 2 2]
def w5_rows : Heap := [some (.cells [.int .i64 0, .int .i64 1, .int .i64 1, .int .i64 0, .int .i64 0, .int .i64 (-1), .int .i64 1, .int .i64 0] 32 .row)]
def w6_args : List Value := [.slice (some ⟨8, 0, none⟩) 2 2]
def w6_rows : Heap := [some (.cells [.int .i64 (-1), .int .i64 0, .int .i64 1, .int .i64 0, .int .i64 1, .int .i64 0, .int .i64 1, .int .i64 0] 32 .row)]
def w7_args : List Value := [.slice (some ⟨8, 0, none⟩) 2 2]
def w7_rows : Heap := [some (.cells [.int .i64 0, .int .i64 (-1), .int .i64 1, .int .i64 0, .int .i64 0, .int .i64 1, .int .i64 1, .int .i64 0] 32 .row)]
def w8_args : List Value := [.slice (some ⟨8, 0, none⟩) 4 4]
def w8_rows : Heap := [some (.cells [.int .i64 0, .int .i64 0, .int .i64 1, .int .i64 0, .int .i64 1, .int .i64 0, .int .i64 1, .int .i64 0, .int .i64 1, .int .i64 0, .int .i64 1, .int .i64 0, .int .i64 2, .int .i64 0, .int .i64 1, .int .i64 0] 32 .row)]
def w9_args : List Value := [.slice (some ⟨8, 0, none⟩) 3 3]
def w9_rows : Heap := [some (.cells [.int .i64 0, .int .i64 0, .int .i64 1, .int .i64 0, .int .i64 1, .int .i64 0, .int .i64 2, .int .i64 0, .int .i64 2, .int .i64 0, .int .i64 1, .int .i64 0] 32 .row)]
noncomputable def BW : RowsB := fun f args R =>
  if f == 106 then
    if litsB args w0_args && heapB R w0_rows then some (heap0, w0_V, w0_RC) else
    if litsB args w1_args && heapB R w1_rows then some (heap0, w1_V, w1_RC) else
    if litsB args w2_args && heapB R w2_rows then some (heap0, w2_V, w2_RC) else
    if litsB args w3_args && heapB R w3_rows then some (heap0, w3_V, w3_RC) else
    if litsB args w4_args && heapB R w4_rows then some (heap0, w4_V, w4_RC) else
    if litsB args w5_args && heapB R w5_rows then some (heap0, w5_V, w5_RC) else
    if litsB args w6_args && heapB R w6_rows then some (heap0, w6_V, w6_RC) else
    if litsB args w7_args && heapB R w7_rows then some (heap0, w7_V, w7_RC) else
    if litsB args w8_args && heapB R w8_rows then some (heap0, w8_V, w8_RC) else
    if litsB args w9_args && heapB R w9_rows then some (heap0, w9_V, w9_RC) else
    none
  else none
noncomputable def KW : Nat → FuncId → List Value → Heap → Option (Value × Heap) := fun lim f args A => if f == 106 then rowsKnown 8 BW lim f args A else none
noncomputable def envW : Env := env0.with KW
theorem BW_ok {f : FuncId} {args : List Value} {R T : Heap} {v0 : Value} {R1 : Heap} (h : BW f args R = some (T, v0, R1)) : T.length = 8 ∧ T.all tableRow = true ∧ SaysAt Tryz.prog 8 f args (T ++ R) v0 (T ++ R ++ R1) := by
  unfold BW at h
  split at h
  · rename_i hf
    have hf : f = 106 := by simpa using hf
    subst hf
    split at h
    · rename_i hc
      simp only [Bool.and_eq_true] at hc
      obtain rfl := litsB_eq hc.1
      obtain rfl := heapB_eq hc.2
      cases h
      exact ⟨rfl, by decide, w0_says⟩
    split at h
    · rename_i hc
      simp only [Bool.and_eq_true] at hc
      obtain rfl := litsB_eq hc.1
      obtain rfl := heapB_eq hc.2
      cases h
      exact ⟨rfl, by decide, w1_says⟩
    split at h
    · rename_i hc
      simp only [Bool.and_eq_true] at hc
      obtain rfl := litsB_eq hc.1
      obtain rfl := heapB_eq hc.2
      cases h
      exact ⟨rfl, by decide, w2_says⟩
    split at h
    · rename_i hc
      simp only [Bool.and_eq_true] at hc
      obtain rfl := litsB_eq hc.1
      obtain rfl := heapB_eq hc.2
      cases h
      exact ⟨rfl, by decide, w3_says⟩
    split at h
    · rename_i hc
      simp only [Bool.and_eq_true] at hc
      obtain rfl := litsB_eq hc.1
      obtain rfl := heapB_eq hc.2
      cases h
      exact ⟨rfl, by decide, w4_says⟩
    split at h
    · rename_i hc
      simp only [Bool.and_eq_true] at hc
      obtain rfl := litsB_eq hc.1
      obtain rfl := heapB_eq hc.2
      cases h
      exact ⟨rfl, by decide, w5_says⟩
    split at h
    · rename_i hc
      simp only [Bool.and_eq_true] at hc
      obtain rfl := litsB_eq hc.1
      obtain rfl := heapB_eq hc.2
      cases h
      exact ⟨rfl, by decide, w6_says⟩
    split at h
    · rename_i hc
      simp only [Bool.and_eq_true] at hc
      obtain rfl := litsB_eq hc.1
      obtain rfl := heapB_eq hc.2
      cases h
      exact ⟨rfl, by decide, w7_says⟩
    split at h
    · rename_i hc
      simp only [Bool.and_eq_true] at hc
      obtain rfl := litsB_eq hc.1
      obtain rfl := heapB_eq hc.2
      cases h
      exact ⟨rfl, by decide, w8_says⟩
    split at h
    · rename_i hc
      simp only [Bool.and_eq_true] at hc
      obtain rfl := litsB_eq hc.1
      obtain rfl := heapB_eq hc.2
      cases h
      exact ⟨rfl, by decide, w9_says⟩
    cases h
  · cases h
theorem envW_ok : EnvOK Tryz.prog 8 envW := by
  refine env_says env0_ok fun lim f args A v A' h => ?_
  unfold KW at h
  split at h
  · refine rows_at (B := BW) ?_ lim f args A v A' h
    intro f args R T v0 R1 h
    exact BW_ok h
  · cases h
theorem heapN_ok {E : Env} {f : FuncId} {args : List Value} {v : Value} (h : Gives Tryz.prog E 0 f args heapN (v, heapN)) : 8 ≤ heapN.length ∧ heapN.all tableRow = true ∧ Gives Tryz.prog E 0 f args heapN (v, heapN) := ⟨by decide, by decide, h⟩
theorem heap0_ok {E : Env} {f : FuncId} {args : List Value} {v : Value} (h : Gives Tryz.prog E 0 f args heap0 (v, heap0)) : 8 ≤ heap0.length ∧ heap0.all tableRow = true ∧ Gives Tryz.prog E 0 f args heap0 (v, heap0) := ⟨by decide, by decide, h⟩
/-
What functions give.
-/
theorem lim_p0 (x m : Int) : Gives Tryz.prog envW 0 124 [I x, I m] heapN ((I (if m < if IntKind.i64.wrap (0 - m) > x then IntKind.i64.wrap (0 - m) else x then m else if IntKind.i64.wrap (0 - m) > x then IntKind.i64.wrap (0 - m) else x)), heapN) :=
  Gives.by (n := 1000) (os := []) (os' := []) (by kernel_rfl) (ObsOK.nil)
def lim_r0 (x m : Int) : Int := (if m < if IntKind.i64.wrap (0 - m) > x then IntKind.i64.wrap (0 - m) else x then m else if IntKind.i64.wrap (0 - m) > x then IntKind.i64.wrap (0 - m) else x)
theorem lim_gives (x m : Int) : Gives Tryz.prog envW 0 124 [I x, I m] heapN ((I (lim_r0 x m)), heapN) := by
  simp only [lim_r0, cond_true, cond_false]; exact lim_p0 x m
def cr_c0 (n a b : Int) : Bool := decide (n < a)
def cr_c1 (n a b : Int) : Bool := decide (n > b)
theorem cr_p0 (n a b : Int) (h0 : cr_c0 n a b = true) : Gives Tryz.prog envW 0 89 [I n, I a, I b] heapN ((I 3), heapN) :=
  Gives.by (n := 1000) (os := [.br 89 22 true, .br 89 22 true, .br 89 22 true, .br 89 31 true]) (os' := []) (by kernel_rfl) (ObsOK.cond h0 (ObsOK.cond h0 (ObsOK.cond h0 (ObsOK.cond h0 (ObsOK.nil)))))
theorem cr_p1 (n a b : Int) (h0 : cr_c0 n a b = false) (h1 : cr_c1 n a b = true) : Gives Tryz.prog envW 0 89 [I n, I a, I b] heapN ((I 3), heapN) :=
  Gives.by (n := 1000) (os := [.br 89 22 false, .br 89 22 false, .br 89 22 false, .br 89 31 false, .br 89 30 true]) (os' := []) (by kernel_rfl) (ObsOK.cond h0 (ObsOK.cond h0 (ObsOK.cond h0 (ObsOK.cond h0 (ObsOK.cond h1 (ObsOK.nil))))))
theorem cr_p2 (n a b : Int) (h0 : cr_c0 n a b = false) (h1 : cr_c1 n a b = false) : Gives Tryz.prog envW 0 89 [I n, I a, I b] heapN ((I 0), heapN) :=
  Gives.by (n := 1000) (os := [.br 89 22 false, .br 89 22 false, .br 89 22 false, .br 89 31 false, .br 89 30 false]) (os' := []) (by kernel_rfl) (ObsOK.cond h0 (ObsOK.cond h0 (ObsOK.cond h0 (ObsOK.cond h0 (ObsOK.cond h1 (ObsOK.nil))))))
def cr_r0 (n a b : Int) : Int := (cond (cr_c0 n a b) (3) (cond (cr_c1 n a b) (3) (0)))
theorem cr_gives (n a b : Int) : Gives Tryz.prog envW 0 89 [I n, I a, I b] heapN ((I (cr_r0 n a b)), heapN) := by
  cases g0 : cr_c0 n a b
  · skip
    cases g1 : cr_c1 n a b
    · skip
      simp only [cr_r0, g0, g1, cond_true, cond_false]; exact cr_p2 n a b g0 g1
    · skip
      simp only [cr_r0, g0, g1, cond_true, cond_false]; exact cr_p1 n a b g0 g1
  · skip
    simp only [cr_r0, g0, cond_true, cond_false]; exact cr_p0 n a b g0
theorem mo_p0 (n : Int) : Gives Tryz.prog envW 0 105 [I n] heapN ((I ((IntKind.i64.wrap (n.tmod 4 + 4)).tmod 4)), heapN) :=
  Gives.by (n := 1000) (os := []) (os' := []) (by kernel_rfl) (ObsOK.nil)
def mo_r0 (n : Int) : Int := ((IntKind.i64.wrap (n.tmod 4 + 4)).tmod 4)
theorem mo_gives (n : Int) : Gives Tryz.prog envW 0 105 [I n] heapN ((I (mo_r0 n)), heapN) := by
  simp only [mo_r0, cond_true, cond_false]; exact mo_p0 n
theorem pl_p0 (a b c d : Int) : Gives Tryz.prog envW 0 126 [(.agg #[I a, I b]), (.agg #[I c, I d])] heapN ((.agg #[(I (IntKind.i64.wrap (a + c))), (I (IntKind.i64.wrap (b + d)))]), heapN) :=
  Gives.by (n := 1000) (os := []) (os' := []) (by kernel_rfl) (ObsOK.nil)
def pl_r0 (a b c d : Int) : Int := (IntKind.i64.wrap (a + c))
def pl_r1 (a b c d : Int) : Int := (IntKind.i64.wrap (b + d))
theorem pl_gives (a b c d : Int) : Gives Tryz.prog envW 0 126 [(.agg #[I a, I b]), (.agg #[I c, I d])] heapN ((.agg #[(I (pl_r0 a b c d)), (I (pl_r1 a b c d))]), heapN) := by
  simp only [pl_r0, pl_r1, cond_true, cond_false]; exact pl_p0 a b c d
theorem sq_p0 (a b : Int) : Gives Tryz.prog envW 0 88 [(.agg #[I a, I b])] heapN ((I (IntKind.i64.wrap (IntKind.i64.wrap (a * a) + IntKind.i64.wrap (b * b)))), heapN) :=
  Gives.by (n := 1000) (os := []) (os' := []) (by kernel_rfl) (ObsOK.nil)
def sq_r0 (a b : Int) : Int := (IntKind.i64.wrap (IntKind.i64.wrap (a * a) + IntKind.i64.wrap (b * b)))
theorem sq_gives (a b : Int) : Gives Tryz.prog envW 0 88 [(.agg #[I a, I b])] heapN ((I (sq_r0 a b)), heapN) := by
  simp only [sq_r0, cond_true, cond_false]; exact sq_p0 a b
theorem rsq_p0 (a b : Int) : Gives Tryz.prog envW 0 31 [(.agg #[I a, I b])] heapN ((I (IntKind.i64.wrap (IntKind.i64.wrap (a * a) + IntKind.i64.wrap (b * b)))), heapN) :=
  Gives.by (n := 1000) (os := []) (os' := []) (by kernel_rfl) (ObsOK.nil)
def rsq_r0 (a b : Int) : Int := (IntKind.i64.wrap (IntKind.i64.wrap (a * a) + IntKind.i64.wrap (b * b)))
theorem rsq_gives (a b : Int) : Gives Tryz.prog envW 0 31 [(.agg #[I a, I b])] heapN ((I (rsq_r0 a b)), heapN) := by
  simp only [rsq_r0, cond_true, cond_false]; exact rsq_p0 a b
theorem rpl_p0 (a b c d : Int) : Gives Tryz.prog envW 0 80 [(.agg #[I a, I b]), (.agg #[I c, I d])] heapN ((.agg #[(I (IntKind.i64.wrap (a + c))), (I (IntKind.i64.wrap (b + d)))]), heapN) :=
  Gives.by (n := 1000) (os := []) (os' := []) (by kernel_rfl) (ObsOK.nil)
def rpl_r0 (a b c d : Int) : Int := (IntKind.i64.wrap (a + c))
def rpl_r1 (a b c d : Int) : Int := (IntKind.i64.wrap (b + d))
theorem rpl_gives (a b c d : Int) : Gives Tryz.prog envW 0 80 [(.agg #[I a, I b]), (.agg #[I c, I d])] heapN ((.agg #[(I (rpl_r0 a b c d)), (I (rpl_r1 a b c d))]), heapN) := by
  simp only [rpl_r0, rpl_r1, cond_true, cond_false]; exact rpl_p0 a b c d
theorem rti_p0 (a b c d : Int) : Gives Tryz.prog envW 0 79 [(.agg #[I a, I b]), (.agg #[I c, I d])] heapN ((.agg #[(I (IntKind.i64.wrap (IntKind.i64.wrap (a * c) - IntKind.i64.wrap (b * d)))), (I (IntKind.i64.wrap (IntKind.i64.wrap (a * d) + IntKind.i64.wrap (b * c))))]), heapN) :=
  Gives.by (n := 1000) (os := []) (os' := []) (by kernel_rfl) (ObsOK.nil)
def rti_r0 (a b c d : Int) : Int := (IntKind.i64.wrap (IntKind.i64.wrap (a * c) - IntKind.i64.wrap (b * d)))
def rti_r1 (a b c d : Int) : Int := (IntKind.i64.wrap (IntKind.i64.wrap (a * d) + IntKind.i64.wrap (b * c)))
theorem rti_gives (a b c d : Int) : Gives Tryz.prog envW 0 79 [(.agg #[I a, I b]), (.agg #[I c, I d])] heapN ((.agg #[(I (rti_r0 a b c d)), (I (rti_r1 a b c d))]), heapN) := by
  simp only [rti_r0, rti_r1, cond_true, cond_false]; exact rti_p0 a b c d
theorem t0_p0 (x y : Int) : Gives Tryz.prog envW 0 127 [(.agg #[I x, I y]), I 0] heap0 ((.agg #[(I (IntKind.i64.wrap (IntKind.i64.wrap (x * 1) - IntKind.i64.wrap (y * 0)))), (I (IntKind.i64.wrap (IntKind.i64.wrap (x * 0) + IntKind.i64.wrap (y * 1))))]), heap0) :=
  Gives.by (n := 1000) (os := []) (os' := []) (by kernel_rfl) (ObsOK.nil)
def t0_r0 (x y : Int) : Int := (IntKind.i64.wrap (IntKind.i64.wrap (x * 1) - IntKind.i64.wrap (y * 0)))
def t0_r1 (x y : Int) : Int := (IntKind.i64.wrap (IntKind.i64.wrap (x * 0) + IntKind.i64.wrap (y * 1)))
theorem t0_gives (x y : Int) : Gives Tryz.prog envW 0 127 [(.agg #[I x, I y]), I 0] heap0 ((.agg #[(I (t0_r0 x y)), (I (t0_r1 x y))]), heap0) := by
  simp only [t0_r0, t0_r1, cond_true, cond_false]; exact t0_p0 x y
theorem t1_p0 (x y : Int) : Gives Tryz.prog envW 0 127 [(.agg #[I x, I y]), I 1] heap0 ((.agg #[(I (IntKind.i64.wrap (IntKind.i64.wrap (x * 0) - IntKind.i64.wrap (y * 1)))), (I (IntKind.i64.wrap (IntKind.i64.wrap (x * 1) + IntKind.i64.wrap (y * 0))))]), heap0) :=
  Gives.by (n := 1000) (os := []) (os' := []) (by kernel_rfl) (ObsOK.nil)
def t1_r0 (x y : Int) : Int := (IntKind.i64.wrap (IntKind.i64.wrap (x * 0) - IntKind.i64.wrap (y * 1)))
def t1_r1 (x y : Int) : Int := (IntKind.i64.wrap (IntKind.i64.wrap (x * 1) + IntKind.i64.wrap (y * 0)))
theorem t1_gives (x y : Int) : Gives Tryz.prog envW 0 127 [(.agg #[I x, I y]), I 1] heap0 ((.agg #[(I (t1_r0 x y)), (I (t1_r1 x y))]), heap0) := by
  simp only [t1_r0, t1_r1, cond_true, cond_false]; exact t1_p0 x y
theorem t2_p0 (x y : Int) : Gives Tryz.prog envW 0 127 [(.agg #[I x, I y]), I 2] heap0 ((.agg #[(I (IntKind.i64.wrap (IntKind.i64.wrap (x * -1) - IntKind.i64.wrap (y * 0)))), (I (IntKind.i64.wrap (IntKind.i64.wrap (x * 0) + IntKind.i64.wrap (y * -1))))]), heap0) :=
  Gives.by (n := 1000) (os := []) (os' := []) (by kernel_rfl) (ObsOK.nil)
def t2_r0 (x y : Int) : Int := (IntKind.i64.wrap (IntKind.i64.wrap (x * -1) - IntKind.i64.wrap (y * 0)))
def t2_r1 (x y : Int) : Int := (IntKind.i64.wrap (IntKind.i64.wrap (x * 0) + IntKind.i64.wrap (y * -1)))
theorem t2_gives (x y : Int) : Gives Tryz.prog envW 0 127 [(.agg #[I x, I y]), I 2] heap0 ((.agg #[(I (t2_r0 x y)), (I (t2_r1 x y))]), heap0) := by
  simp only [t2_r0, t2_r1, cond_true, cond_false]; exact t2_p0 x y
theorem t3_p0 (x y : Int) : Gives Tryz.prog envW 0 127 [(.agg #[I x, I y]), I 3] heap0 ((.agg #[(I (IntKind.i64.wrap (IntKind.i64.wrap (x * 0) - IntKind.i64.wrap (y * -1)))), (I (IntKind.i64.wrap (IntKind.i64.wrap (x * -1) + IntKind.i64.wrap (y * 0))))]), heap0) :=
  Gives.by (n := 1000) (os := []) (os' := []) (by kernel_rfl) (ObsOK.nil)
def t3_r0 (x y : Int) : Int := (IntKind.i64.wrap (IntKind.i64.wrap (x * 0) - IntKind.i64.wrap (y * -1)))
def t3_r1 (x y : Int) : Int := (IntKind.i64.wrap (IntKind.i64.wrap (x * -1) + IntKind.i64.wrap (y * 0)))
theorem t3_gives (x y : Int) : Gives Tryz.prog envW 0 127 [(.agg #[I x, I y]), I 3] heap0 ((.agg #[(I (t3_r0 x y)), (I (t3_r1 x y))]), heap0) := by
  simp only [t3_r0, t3_r1, cond_true, cond_false]; exact t3_p0 x y
theorem t4_p0 (x y : Int) : Gives Tryz.prog envW 0 127 [(.agg #[I x, I y]), I 4] heap0 ((.agg #[(I (IntKind.i64.wrap (IntKind.i64.wrap (x * 1) - IntKind.i64.wrap (y * 0)))), (I (IntKind.i64.wrap (IntKind.i64.wrap (x * 0) + IntKind.i64.wrap (y * 1))))]), heap0) :=
  Gives.by (n := 1000) (os := []) (os' := []) (by kernel_rfl) (ObsOK.nil)
def t4_r0 (x y : Int) : Int := (IntKind.i64.wrap (IntKind.i64.wrap (x * 1) - IntKind.i64.wrap (y * 0)))
def t4_r1 (x y : Int) : Int := (IntKind.i64.wrap (IntKind.i64.wrap (x * 0) + IntKind.i64.wrap (y * 1)))
theorem t4_gives (x y : Int) : Gives Tryz.prog envW 0 127 [(.agg #[I x, I y]), I 4] heap0 ((.agg #[(I (t4_r0 x y)), (I (t4_r1 x y))]), heap0) := by
  simp only [t4_r0, t4_r1, cond_true, cond_false]; exact t4_p0 x y
theorem t6_p0 (x y : Int) : Gives Tryz.prog envW 0 127 [(.agg #[I x, I y]), I 6] heap0 ((.agg #[(I (IntKind.i64.wrap (IntKind.i64.wrap (x * -1) - IntKind.i64.wrap (y * 0)))), (I (IntKind.i64.wrap (IntKind.i64.wrap (x * 0) + IntKind.i64.wrap (y * -1))))]), heap0) :=
  Gives.by (n := 1000) (os := []) (os' := []) (by kernel_rfl) (ObsOK.nil)
def t6_r0 (x y : Int) : Int := (IntKind.i64.wrap (IntKind.i64.wrap (x * -1) - IntKind.i64.wrap (y * 0)))
def t6_r1 (x y : Int) : Int := (IntKind.i64.wrap (IntKind.i64.wrap (x * 0) + IntKind.i64.wrap (y * -1)))
theorem t6_gives (x y : Int) : Gives Tryz.prog envW 0 127 [(.agg #[I x, I y]), I 6] heap0 ((.agg #[(I (t6_r0 x y)), (I (t6_r1 x y))]), heap0) := by
  simp only [t6_r0, t6_r1, cond_true, cond_false]; exact t6_p0 x y
theorem t9_p0 (x y : Int) : Gives Tryz.prog envW 0 127 [(.agg #[I x, I y]), I 9] heap0 ((.agg #[(I (IntKind.i64.wrap (IntKind.i64.wrap (x * 0) - IntKind.i64.wrap (y * 1)))), (I (IntKind.i64.wrap (IntKind.i64.wrap (x * 1) + IntKind.i64.wrap (y * 0))))]), heap0) :=
  Gives.by (n := 1000) (os := []) (os' := []) (by kernel_rfl) (ObsOK.nil)
def t9_r0 (x y : Int) : Int := (IntKind.i64.wrap (IntKind.i64.wrap (x * 0) - IntKind.i64.wrap (y * 1)))
def t9_r1 (x y : Int) : Int := (IntKind.i64.wrap (IntKind.i64.wrap (x * 1) + IntKind.i64.wrap (y * 0)))
theorem t9_gives (x y : Int) : Gives Tryz.prog envW 0 127 [(.agg #[I x, I y]), I 9] heap0 ((.agg #[(I (t9_r0 x y)), (I (t9_r1 x y))]), heap0) := by
  simp only [t9_r0, t9_r1, cond_true, cond_false]; exact t9_p0 x y
theorem tm1_p0 (x y : Int) : Gives Tryz.prog envW 0 127 [(.agg #[I x, I y]), (I (-1))] heap0 ((.agg #[(I (IntKind.i64.wrap (IntKind.i64.wrap (x * 0) - IntKind.i64.wrap (y * -1)))), (I (IntKind.i64.wrap (IntKind.i64.wrap (x * -1) + IntKind.i64.wrap (y * 0))))]), heap0) :=
  Gives.by (n := 1000) (os := []) (os' := []) (by kernel_rfl) (ObsOK.nil)
def tm1_r0 (x y : Int) : Int := (IntKind.i64.wrap (IntKind.i64.wrap (x * 0) - IntKind.i64.wrap (y * -1)))
def tm1_r1 (x y : Int) : Int := (IntKind.i64.wrap (IntKind.i64.wrap (x * -1) + IntKind.i64.wrap (y * 0)))
theorem tm1_gives (x y : Int) : Gives Tryz.prog envW 0 127 [(.agg #[I x, I y]), (I (-1))] heap0 ((.agg #[(I (tm1_r0 x y)), (I (tm1_r1 x y))]), heap0) := by
  simp only [tm1_r0, tm1_r1, cond_true, cond_false]; exact tm1_p0 x y
theorem tm2_p0 (x y : Int) : Gives Tryz.prog envW 0 127 [(.agg #[I x, I y]), (I (-2))] heap0 ((.agg #[(I (IntKind.i64.wrap (IntKind.i64.wrap (x * -1) - IntKind.i64.wrap (y * 0)))), (I (IntKind.i64.wrap (IntKind.i64.wrap (x * 0) + IntKind.i64.wrap (y * -1))))]), heap0) :=
  Gives.by (n := 1000) (os := []) (os' := []) (by kernel_rfl) (ObsOK.nil)
def tm2_r0 (x y : Int) : Int := (IntKind.i64.wrap (IntKind.i64.wrap (x * -1) - IntKind.i64.wrap (y * 0)))
def tm2_r1 (x y : Int) : Int := (IntKind.i64.wrap (IntKind.i64.wrap (x * 0) + IntKind.i64.wrap (y * -1)))
theorem tm2_gives (x y : Int) : Gives Tryz.prog envW 0 127 [(.agg #[I x, I y]), (I (-2))] heap0 ((.agg #[(I (tm2_r0 x y)), (I (tm2_r1 x y))]), heap0) := by
  simp only [tm2_r0, tm2_r1, cond_true, cond_false]; exact tm2_p0 x y
theorem tm3_p0 (x y : Int) : Gives Tryz.prog envW 0 127 [(.agg #[I x, I y]), (I (-3))] heap0 ((.agg #[(I (IntKind.i64.wrap (IntKind.i64.wrap (x * 0) - IntKind.i64.wrap (y * 1)))), (I (IntKind.i64.wrap (IntKind.i64.wrap (x * 1) + IntKind.i64.wrap (y * 0))))]), heap0) :=
  Gives.by (n := 1000) (os := []) (os' := []) (by kernel_rfl) (ObsOK.nil)
def tm3_r0 (x y : Int) : Int := (IntKind.i64.wrap (IntKind.i64.wrap (x * 0) - IntKind.i64.wrap (y * 1)))
def tm3_r1 (x y : Int) : Int := (IntKind.i64.wrap (IntKind.i64.wrap (x * 1) + IntKind.i64.wrap (y * 0)))
theorem tm3_gives (x y : Int) : Gives Tryz.prog envW 0 127 [(.agg #[I x, I y]), (I (-3))] heap0 ((.agg #[(I (tm3_r0 x y)), (I (tm3_r1 x y))]), heap0) := by
  simp only [tm3_r0, tm3_r1, cond_true, cond_false]; exact tm3_p0 x y
theorem tm4_p0 (x y : Int) : Gives Tryz.prog envW 0 127 [(.agg #[I x, I y]), (I (-4))] heap0 ((.agg #[(I (IntKind.i64.wrap (IntKind.i64.wrap (x * 1) - IntKind.i64.wrap (y * 0)))), (I (IntKind.i64.wrap (IntKind.i64.wrap (x * 0) + IntKind.i64.wrap (y * 1))))]), heap0) :=
  Gives.by (n := 1000) (os := []) (os' := []) (by kernel_rfl) (ObsOK.nil)
def tm4_r0 (x y : Int) : Int := (IntKind.i64.wrap (IntKind.i64.wrap (x * 1) - IntKind.i64.wrap (y * 0)))
def tm4_r1 (x y : Int) : Int := (IntKind.i64.wrap (IntKind.i64.wrap (x * 0) + IntKind.i64.wrap (y * 1)))
theorem tm4_gives (x y : Int) : Gives Tryz.prog envW 0 127 [(.agg #[I x, I y]), (I (-4))] heap0 ((.agg #[(I (tm4_r0 x y)), (I (tm4_r1 x y))]), heap0) := by
  simp only [tm4_r0, tm4_r1, cond_true, cond_false]; exact tm4_p0 x y
theorem tm6_p0 (x y : Int) : Gives Tryz.prog envW 0 127 [(.agg #[I x, I y]), (I (-6))] heap0 ((.agg #[(I (IntKind.i64.wrap (IntKind.i64.wrap (x * -1) - IntKind.i64.wrap (y * 0)))), (I (IntKind.i64.wrap (IntKind.i64.wrap (x * 0) + IntKind.i64.wrap (y * -1))))]), heap0) :=
  Gives.by (n := 1000) (os := []) (os' := []) (by kernel_rfl) (ObsOK.nil)
def tm6_r0 (x y : Int) : Int := (IntKind.i64.wrap (IntKind.i64.wrap (x * -1) - IntKind.i64.wrap (y * 0)))
def tm6_r1 (x y : Int) : Int := (IntKind.i64.wrap (IntKind.i64.wrap (x * 0) + IntKind.i64.wrap (y * -1)))
theorem tm6_gives (x y : Int) : Gives Tryz.prog envW 0 127 [(.agg #[I x, I y]), (I (-6))] heap0 ((.agg #[(I (tm6_r0 x y)), (I (tm6_r1 x y))]), heap0) := by
  simp only [tm6_r0, tm6_r1, cond_true, cond_false]; exact tm6_p0 x y
theorem tm9_p0 (x y : Int) : Gives Tryz.prog envW 0 127 [(.agg #[I x, I y]), (I (-9))] heap0 ((.agg #[(I (IntKind.i64.wrap (IntKind.i64.wrap (x * 0) - IntKind.i64.wrap (y * -1)))), (I (IntKind.i64.wrap (IntKind.i64.wrap (x * -1) + IntKind.i64.wrap (y * 0))))]), heap0) :=
  Gives.by (n := 1000) (os := []) (os' := []) (by kernel_rfl) (ObsOK.nil)
def tm9_r0 (x y : Int) : Int := (IntKind.i64.wrap (IntKind.i64.wrap (x * 0) - IntKind.i64.wrap (y * -1)))
def tm9_r1 (x y : Int) : Int := (IntKind.i64.wrap (IntKind.i64.wrap (x * -1) + IntKind.i64.wrap (y * 0)))
theorem tm9_gives (x y : Int) : Gives Tryz.prog envW 0 127 [(.agg #[I x, I y]), (I (-9))] heap0 ((.agg #[(I (tm9_r0 x y)), (I (tm9_r1 x y))]), heap0) := by
  simp only [tm9_r0, tm9_r1, cond_true, cond_false]; exact tm9_p0 x y
theorem pa0_p0 (x y g p : Int) : Gives Tryz.prog envW 0 86 [(.agg #[I x, I y, I g, I p]), I 0] heap0 ((I (IntKind.i64.wrap (IntKind.i64.wrap (x * 1) + IntKind.i64.wrap (y * 0)))), heap0) :=
  Gives.by (n := 1000) (os := []) (os' := []) (by kernel_rfl) (ObsOK.nil)
def pa0_r0 (x y g p : Int) : Int := (IntKind.i64.wrap (IntKind.i64.wrap (x * 1) + IntKind.i64.wrap (y * 0)))
theorem pa0_gives (x y g p : Int) : Gives Tryz.prog envW 0 86 [(.agg #[I x, I y, I g, I p]), I 0] heap0 ((I (pa0_r0 x y g p)), heap0) := by
  simp only [pa0_r0, cond_true, cond_false]; exact pa0_p0 x y g p
theorem pa1_p0 (x y g p : Int) : Gives Tryz.prog envW 0 86 [(.agg #[I x, I y, I g, I p]), I 1] heap0 ((I (IntKind.i64.wrap (IntKind.i64.wrap (x * 1) + IntKind.i64.wrap (y * 1)))), heap0) :=
  Gives.by (n := 1000) (os := []) (os' := []) (by kernel_rfl) (ObsOK.nil)
def pa1_r0 (x y g p : Int) : Int := (IntKind.i64.wrap (IntKind.i64.wrap (x * 1) + IntKind.i64.wrap (y * 1)))
theorem pa1_gives (x y g p : Int) : Gives Tryz.prog envW 0 86 [(.agg #[I x, I y, I g, I p]), I 1] heap0 ((I (pa1_r0 x y g p)), heap0) := by
  simp only [pa1_r0, cond_true, cond_false]; exact pa1_p0 x y g p
theorem pa2_p0 (x y g p : Int) : Gives Tryz.prog envW 0 86 [(.agg #[I x, I y, I g, I p]), I 2] heap0 ((I (IntKind.i64.wrap (IntKind.i64.wrap (x * 0) + IntKind.i64.wrap (y * 1)))), heap0) :=
  Gives.by (n := 1000) (os := []) (os' := []) (by kernel_rfl) (ObsOK.nil)
def pa2_r0 (x y g p : Int) : Int := (IntKind.i64.wrap (IntKind.i64.wrap (x * 0) + IntKind.i64.wrap (y * 1)))
theorem pa2_gives (x y g p : Int) : Gives Tryz.prog envW 0 86 [(.agg #[I x, I y, I g, I p]), I 2] heap0 ((I (pa2_r0 x y g p)), heap0) := by
  simp only [pa2_r0, cond_true, cond_false]; exact pa2_p0 x y g p
theorem pa3_p0 (x y g p : Int) : Gives Tryz.prog envW 0 86 [(.agg #[I x, I y, I g, I p]), I 3] heap0 ((I (IntKind.i64.wrap (IntKind.i64.wrap (x * -1) + IntKind.i64.wrap (y * 1)))), heap0) :=
  Gives.by (n := 1000) (os := []) (os' := []) (by kernel_rfl) (ObsOK.nil)
def pa3_r0 (x y g p : Int) : Int := (IntKind.i64.wrap (IntKind.i64.wrap (x * -1) + IntKind.i64.wrap (y * 1)))
theorem pa3_gives (x y g p : Int) : Gives Tryz.prog envW 0 86 [(.agg #[I x, I y, I g, I p]), I 3] heap0 ((I (pa3_r0 x y g p)), heap0) := by
  simp only [pa3_r0, cond_true, cond_false]; exact pa3_p0 x y g p
theorem pa4_p0 (x y g p : Int) : Gives Tryz.prog envW 0 86 [(.agg #[I x, I y, I g, I p]), I 4] heap0 ((I (IntKind.i64.wrap (IntKind.i64.wrap (x * -1) + IntKind.i64.wrap (y * 0)))), heap0) :=
  Gives.by (n := 1000) (os := []) (os' := []) (by kernel_rfl) (ObsOK.nil)
def pa4_r0 (x y g p : Int) : Int := (IntKind.i64.wrap (IntKind.i64.wrap (x * -1) + IntKind.i64.wrap (y * 0)))
theorem pa4_gives (x y g p : Int) : Gives Tryz.prog envW 0 86 [(.agg #[I x, I y, I g, I p]), I 4] heap0 ((I (pa4_r0 x y g p)), heap0) := by
  simp only [pa4_r0, cond_true, cond_false]; exact pa4_p0 x y g p
theorem pa5_p0 (x y g p : Int) : Gives Tryz.prog envW 0 86 [(.agg #[I x, I y, I g, I p]), I 5] heap0 ((I (IntKind.i64.wrap (IntKind.i64.wrap (x * -1) + IntKind.i64.wrap (y * -1)))), heap0) :=
  Gives.by (n := 1000) (os := []) (os' := []) (by kernel_rfl) (ObsOK.nil)
def pa5_r0 (x y g p : Int) : Int := (IntKind.i64.wrap (IntKind.i64.wrap (x * -1) + IntKind.i64.wrap (y * -1)))
theorem pa5_gives (x y g p : Int) : Gives Tryz.prog envW 0 86 [(.agg #[I x, I y, I g, I p]), I 5] heap0 ((I (pa5_r0 x y g p)), heap0) := by
  simp only [pa5_r0, cond_true, cond_false]; exact pa5_p0 x y g p
theorem pa6_p0 (x y g p : Int) : Gives Tryz.prog envW 0 86 [(.agg #[I x, I y, I g, I p]), I 6] heap0 ((I (IntKind.i64.wrap (IntKind.i64.wrap (x * 0) + IntKind.i64.wrap (y * -1)))), heap0) :=
  Gives.by (n := 1000) (os := []) (os' := []) (by kernel_rfl) (ObsOK.nil)
def pa6_r0 (x y g p : Int) : Int := (IntKind.i64.wrap (IntKind.i64.wrap (x * 0) + IntKind.i64.wrap (y * -1)))
theorem pa6_gives (x y g p : Int) : Gives Tryz.prog envW 0 86 [(.agg #[I x, I y, I g, I p]), I 6] heap0 ((I (pa6_r0 x y g p)), heap0) := by
  simp only [pa6_r0, cond_true, cond_false]; exact pa6_p0 x y g p
theorem pa7_p0 (x y g p : Int) : Gives Tryz.prog envW 0 86 [(.agg #[I x, I y, I g, I p]), I 7] heap0 ((I (IntKind.i64.wrap (IntKind.i64.wrap (x * 1) + IntKind.i64.wrap (y * -1)))), heap0) :=
  Gives.by (n := 1000) (os := []) (os' := []) (by kernel_rfl) (ObsOK.nil)
def pa7_r0 (x y g p : Int) : Int := (IntKind.i64.wrap (IntKind.i64.wrap (x * 1) + IntKind.i64.wrap (y * -1)))
theorem pa7_gives (x y g p : Int) : Gives Tryz.prog envW 0 86 [(.agg #[I x, I y, I g, I p]), I 7] heap0 ((I (pa7_r0 x y g p)), heap0) := by
  simp only [pa7_r0, cond_true, cond_false]; exact pa7_p0 x y g p
def B_envGa_124 (args : List Value) : Option (Heap × Value) :=
    match args with
    | [(.int .i64 (x)), (.int .i64 (m))] => some (heapN, (.int .i64 (lim_r0 x m)))
    | _ => none
theorem B_envGa_124_ok {args : List Value} {H : Heap} {v : Value} (h : B_envGa_124 args = some (H, v)) : 8 ≤ H.length ∧ H.all tableRow = true ∧ Gives Tryz.prog envW 0 124 args H (v, H) := by
  unfold B_envGa_124 at h
  split at h
  · cases h; exact heapN_ok (lim_gives _ _)
  · cases h
def B_envGa_89 (args : List Value) : Option (Heap × Value) :=
    match args with
    | [(.int .i64 (n)), (.int .i64 (a)), (.int .i64 (b))] => some (heapN, (.int .i64 (cr_r0 n a b)))
    | _ => none
theorem B_envGa_89_ok {args : List Value} {H : Heap} {v : Value} (h : B_envGa_89 args = some (H, v)) : 8 ≤ H.length ∧ H.all tableRow = true ∧ Gives Tryz.prog envW 0 89 args H (v, H) := by
  unfold B_envGa_89 at h
  split at h
  · cases h; exact heapN_ok (cr_gives _ _ _)
  · cases h
def B_envGa_105 (args : List Value) : Option (Heap × Value) :=
    match args with
    | [(.int .i64 (n))] => some (heapN, (.int .i64 (mo_r0 n)))
    | _ => none
theorem B_envGa_105_ok {args : List Value} {H : Heap} {v : Value} (h : B_envGa_105 args = some (H, v)) : 8 ≤ H.length ∧ H.all tableRow = true ∧ Gives Tryz.prog envW 0 105 args H (v, H) := by
  unfold B_envGa_105 at h
  split at h
  · cases h; exact heapN_ok (mo_gives _)
  · cases h
def B_envGa_126 (args : List Value) : Option (Heap × Value) :=
    match args with
    | [(.agg ⟨[(.int .i64 (a)), (.int .i64 (b))]⟩), (.agg ⟨[(.int .i64 (c)), (.int .i64 (d))]⟩)] => some (heapN, (.agg #[(.int .i64 (pl_r0 a b c d)), (.int .i64 (pl_r1 a b c d))]))
    | _ => none
theorem B_envGa_126_ok {args : List Value} {H : Heap} {v : Value} (h : B_envGa_126 args = some (H, v)) : 8 ≤ H.length ∧ H.all tableRow = true ∧ Gives Tryz.prog envW 0 126 args H (v, H) := by
  unfold B_envGa_126 at h
  split at h
  · cases h; exact heapN_ok (pl_gives _ _ _ _)
  · cases h
def B_envGa_88 (args : List Value) : Option (Heap × Value) :=
    match args with
    | [(.agg ⟨[(.int .i64 (a)), (.int .i64 (b))]⟩)] => some (heapN, (.int .i64 (sq_r0 a b)))
    | _ => none
theorem B_envGa_88_ok {args : List Value} {H : Heap} {v : Value} (h : B_envGa_88 args = some (H, v)) : 8 ≤ H.length ∧ H.all tableRow = true ∧ Gives Tryz.prog envW 0 88 args H (v, H) := by
  unfold B_envGa_88 at h
  split at h
  · cases h; exact heapN_ok (sq_gives _ _)
  · cases h
def B_envGa_31 (args : List Value) : Option (Heap × Value) :=
    match args with
    | [(.agg ⟨[(.int .i64 (a)), (.int .i64 (b))]⟩)] => some (heapN, (.int .i64 (rsq_r0 a b)))
    | _ => none
theorem B_envGa_31_ok {args : List Value} {H : Heap} {v : Value} (h : B_envGa_31 args = some (H, v)) : 8 ≤ H.length ∧ H.all tableRow = true ∧ Gives Tryz.prog envW 0 31 args H (v, H) := by
  unfold B_envGa_31 at h
  split at h
  · cases h; exact heapN_ok (rsq_gives _ _)
  · cases h
def B_envGa_80 (args : List Value) : Option (Heap × Value) :=
    match args with
    | [(.agg ⟨[(.int .i64 (a)), (.int .i64 (b))]⟩), (.agg ⟨[(.int .i64 (c)), (.int .i64 (d))]⟩)] => some (heapN, (.agg #[(.int .i64 (rpl_r0 a b c d)), (.int .i64 (rpl_r1 a b c d))]))
    | _ => none
theorem B_envGa_80_ok {args : List Value} {H : Heap} {v : Value} (h : B_envGa_80 args = some (H, v)) : 8 ≤ H.length ∧ H.all tableRow = true ∧ Gives Tryz.prog envW 0 80 args H (v, H) := by
  unfold B_envGa_80 at h
  split at h
  · cases h; exact heapN_ok (rpl_gives _ _ _ _)
  · cases h
def B_envGa_79 (args : List Value) : Option (Heap × Value) :=
    match args with
    | [(.agg ⟨[(.int .i64 (a)), (.int .i64 (b))]⟩), (.agg ⟨[(.int .i64 (c)), (.int .i64 (d))]⟩)] => some (heapN, (.agg #[(.int .i64 (rti_r0 a b c d)), (.int .i64 (rti_r1 a b c d))]))
    | _ => none
theorem B_envGa_79_ok {args : List Value} {H : Heap} {v : Value} (h : B_envGa_79 args = some (H, v)) : 8 ≤ H.length ∧ H.all tableRow = true ∧ Gives Tryz.prog envW 0 79 args H (v, H) := by
  unfold B_envGa_79 at h
  split at h
  · cases h; exact heapN_ok (rti_gives _ _ _ _)
  · cases h
def B_envGa_127 (args : List Value) : Option (Heap × Value) :=
    match args with
    | [(.agg ⟨[(.int .i64 (x)), (.int .i64 (y))]⟩), (.int .i64 (0))] => some (heap0, (.agg #[(.int .i64 (t0_r0 x y)), (.int .i64 (t0_r1 x y))]))
    | [(.agg ⟨[(.int .i64 (x)), (.int .i64 (y))]⟩), (.int .i64 (1))] => some (heap0, (.agg #[(.int .i64 (t1_r0 x y)), (.int .i64 (t1_r1 x y))]))
    | [(.agg ⟨[(.int .i64 (x)), (.int .i64 (y))]⟩), (.int .i64 (2))] => some (heap0, (.agg #[(.int .i64 (t2_r0 x y)), (.int .i64 (t2_r1 x y))]))
    | [(.agg ⟨[(.int .i64 (x)), (.int .i64 (y))]⟩), (.int .i64 (3))] => some (heap0, (.agg #[(.int .i64 (t3_r0 x y)), (.int .i64 (t3_r1 x y))]))
    | [(.agg ⟨[(.int .i64 (x)), (.int .i64 (y))]⟩), (.int .i64 (4))] => some (heap0, (.agg #[(.int .i64 (t4_r0 x y)), (.int .i64 (t4_r1 x y))]))
    | [(.agg ⟨[(.int .i64 (x)), (.int .i64 (y))]⟩), (.int .i64 (6))] => some (heap0, (.agg #[(.int .i64 (t6_r0 x y)), (.int .i64 (t6_r1 x y))]))
    | [(.agg ⟨[(.int .i64 (x)), (.int .i64 (y))]⟩), (.int .i64 (9))] => some (heap0, (.agg #[(.int .i64 (t9_r0 x y)), (.int .i64 (t9_r1 x y))]))
    | [(.agg ⟨[(.int .i64 (x)), (.int .i64 (y))]⟩), (.int .i64 (-1))] => some (heap0, (.agg #[(.int .i64 (tm1_r0 x y)), (.int .i64 (tm1_r1 x y))]))
    | [(.agg ⟨[(.int .i64 (x)), (.int .i64 (y))]⟩), (.int .i64 (-2))] => some (heap0, (.agg #[(.int .i64 (tm2_r0 x y)), (.int .i64 (tm2_r1 x y))]))
    | [(.agg ⟨[(.int .i64 (x)), (.int .i64 (y))]⟩), (.int .i64 (-3))] => some (heap0, (.agg #[(.int .i64 (tm3_r0 x y)), (.int .i64 (tm3_r1 x y))]))
    | [(.agg ⟨[(.int .i64 (x)), (.int .i64 (y))]⟩), (.int .i64 (-4))] => some (heap0, (.agg #[(.int .i64 (tm4_r0 x y)), (.int .i64 (tm4_r1 x y))]))
    | [(.agg ⟨[(.int .i64 (x)), (.int .i64 (y))]⟩), (.int .i64 (-6))] => some (heap0, (.agg #[(.int .i64 (tm6_r0 x y)), (.int .i64 (tm6_r1 x y))]))
    | [(.agg ⟨[(.int .i64 (x)), (.int .i64 (y))]⟩), (.int .i64 (-9))] => some (heap0, (.agg #[(.int .i64 (tm9_r0 x y)), (.int .i64 (tm9_r1 x y))]))
    | _ => none
theorem B_envGa_127_ok {args : List Value} {H : Heap} {v : Value} (h : B_envGa_127 args = some (H, v)) : 8 ≤ H.length ∧ H.all tableRow = true ∧ Gives Tryz.prog envW 0 127 args H (v, H) := by
  unfold B_envGa_127 at h
  split at h
  · cases h; exact heap0_ok (t0_gives _ _)
  · cases h; exact heap0_ok (t1_gives _ _)
  · cases h; exact heap0_ok (t2_gives _ _)
  · cases h; exact heap0_ok (t3_gives _ _)
  · cases h; exact heap0_ok (t4_gives _ _)
  · cases h; exact heap0_ok (t6_gives _ _)
  · cases h; exact heap0_ok (t9_gives _ _)
  · cases h; exact heap0_ok (tm1_gives _ _)
  · cases h; exact heap0_ok (tm2_gives _ _)
  · cases h; exact heap0_ok (tm3_gives _ _)
  · cases h; exact heap0_ok (tm4_gives _ _)
  · cases h; exact heap0_ok (tm6_gives _ _)
  · cases h; exact heap0_ok (tm9_gives _ _)
  · cases h
def B_envGa_86 (args : List Value) : Option (Heap × Value) :=
    match args with
    | [(.agg ⟨[(.int .i64 (x)), (.int .i64 (y)), (.int .i64 (g)), (.int .i64 (p))]⟩), (.int .i64 (0))] => some (heap0, (.int .i64 (pa0_r0 x y g p)))
    | [(.agg ⟨[(.int .i64 (x)), (.int .i64 (y)), (.int .i64 (g)), (.int .i64 (p))]⟩), (.int .i64 (1))] => some (heap0, (.int .i64 (pa1_r0 x y g p)))
    | [(.agg ⟨[(.int .i64 (x)), (.int .i64 (y)), (.int .i64 (g)), (.int .i64 (p))]⟩), (.int .i64 (2))] => some (heap0, (.int .i64 (pa2_r0 x y g p)))
    | [(.agg ⟨[(.int .i64 (x)), (.int .i64 (y)), (.int .i64 (g)), (.int .i64 (p))]⟩), (.int .i64 (3))] => some (heap0, (.int .i64 (pa3_r0 x y g p)))
    | [(.agg ⟨[(.int .i64 (x)), (.int .i64 (y)), (.int .i64 (g)), (.int .i64 (p))]⟩), (.int .i64 (4))] => some (heap0, (.int .i64 (pa4_r0 x y g p)))
    | [(.agg ⟨[(.int .i64 (x)), (.int .i64 (y)), (.int .i64 (g)), (.int .i64 (p))]⟩), (.int .i64 (5))] => some (heap0, (.int .i64 (pa5_r0 x y g p)))
    | [(.agg ⟨[(.int .i64 (x)), (.int .i64 (y)), (.int .i64 (g)), (.int .i64 (p))]⟩), (.int .i64 (6))] => some (heap0, (.int .i64 (pa6_r0 x y g p)))
    | [(.agg ⟨[(.int .i64 (x)), (.int .i64 (y)), (.int .i64 (g)), (.int .i64 (p))]⟩), (.int .i64 (7))] => some (heap0, (.int .i64 (pa7_r0 x y g p)))
    | _ => none
theorem B_envGa_86_ok {args : List Value} {H : Heap} {v : Value} (h : B_envGa_86 args = some (H, v)) : 8 ≤ H.length ∧ H.all tableRow = true ∧ Gives Tryz.prog envW 0 86 args H (v, H) := by
  unfold B_envGa_86 at h
  split at h
  · cases h; exact heap0_ok (pa0_gives _ _ _ _)
  · cases h; exact heap0_ok (pa1_gives _ _ _ _)
  · cases h; exact heap0_ok (pa2_gives _ _ _ _)
  · cases h; exact heap0_ok (pa3_gives _ _ _ _)
  · cases h; exact heap0_ok (pa4_gives _ _ _ _)
  · cases h; exact heap0_ok (pa5_gives _ _ _ _)
  · cases h; exact heap0_ok (pa6_gives _ _ _ _)
  · cases h; exact heap0_ok (pa7_gives _ _ _ _)
  · cases h
def B_envGa (f : FuncId) (args : List Value) : Option (Heap × Value) :=
  if f == 124 then B_envGa_124 args else
  if f == 89 then B_envGa_89 args else
  if f == 105 then B_envGa_105 args else
  if f == 126 then B_envGa_126 args else
  if f == 88 then B_envGa_88 args else
  if f == 31 then B_envGa_31 args else
  if f == 80 then B_envGa_80 args else
  if f == 79 then B_envGa_79 args else
  if f == 127 then B_envGa_127 args else
  if f == 86 then B_envGa_86 args else
  none
noncomputable def envGa : Env := envW.with (baseKnown B_envGa)
theorem envGa_ok : EnvOK Tryz.prog 8 envGa := env_base prog_ok envW_ok fun f args H v h => by
  unfold B_envGa at h
  split at h
  · rename_i hf
    have hf : f = 124 := by simpa using hf
    subst hf
    exact B_envGa_124_ok h
  · skip
    split at h
    · rename_i hf
      have hf : f = 89 := by simpa using hf
      subst hf
      exact B_envGa_89_ok h
    · skip
      split at h
      · rename_i hf
        have hf : f = 105 := by simpa using hf
        subst hf
        exact B_envGa_105_ok h
      · skip
        split at h
        · rename_i hf
          have hf : f = 126 := by simpa using hf
          subst hf
          exact B_envGa_126_ok h
        · skip
          split at h
          · rename_i hf
            have hf : f = 88 := by simpa using hf
            subst hf
            exact B_envGa_88_ok h
          · skip
            split at h
            · rename_i hf
              have hf : f = 31 := by simpa using hf
              subst hf
              exact B_envGa_31_ok h
            · skip
              split at h
              · rename_i hf
                have hf : f = 80 := by simpa using hf
                subst hf
                exact B_envGa_80_ok h
              · skip
                split at h
                · rename_i hf
                  have hf : f = 79 := by simpa using hf
                  subst hf
                  exact B_envGa_79_ok h
                · skip
                  split at h
                  · rename_i hf
                    have hf : f = 127 := by simpa using hf
                    subst hf
                    exact B_envGa_127_ok h
                  · skip
                    split at h
                    · rename_i hf
                      have hf : f = 86 := by simpa using hf
                      subst hf
                      exact B_envGa_86_ok h
                    · skip
                      cases h
/-
What functions give.
-/
def cn_c0 (x y : Int) : Bool := x != if 999999999 < if -999999999 > x then -999999999 else x then 999999999 else if -999999999 > x then -999999999 else x
def cn_c1 (x y : Int) : Bool := y != if 999999999 < if -999999999 > y then -999999999 else y then 999999999 else if -999999999 > y then -999999999 else y
theorem cn_p0 (x y : Int) (h0 : cn_c0 x y = true) : Gives Tryz.prog envGa 0 130 [(.agg #[I x, I y])] heapN ((I 3), heapN) :=
  Gives.by (n := 1000) (os := [.br 168 34 true]) (os' := []) (by kernel_rfl) (ObsOK.cond h0 (ObsOK.nil))
theorem cn_p1 (x y : Int) (h0 : cn_c0 x y = false) (h1 : cn_c1 x y = true) : Gives Tryz.prog envGa 0 130 [(.agg #[I x, I y])] heapN ((I 3), heapN) :=
  Gives.by (n := 1000) (os := [.br 168 34 false, .br 168 34 true]) (os' := []) (by kernel_rfl) (ObsOK.cond h0 (ObsOK.cond h1 (ObsOK.nil)))
theorem cn_p2 (x y : Int) (h0 : cn_c0 x y = false) (h1 : cn_c1 x y = false) : Gives Tryz.prog envGa 0 130 [(.agg #[I x, I y])] heapN ((I 0), heapN) :=
  Gives.by (n := 1000) (os := [.br 168 34 false, .br 168 34 false]) (os' := []) (by kernel_rfl) (ObsOK.cond h0 (ObsOK.cond h1 (ObsOK.nil)))
def cn_r0 (x y : Int) : Int := (cond (cn_c0 x y) (3) (cond (cn_c1 x y) (3) (0)))
theorem cn_gives (x y : Int) : Gives Tryz.prog envGa 0 130 [(.agg #[I x, I y])] heapN ((I (cn_r0 x y)), heapN) := by
  cases g0 : cn_c0 x y
  · skip
    cases g1 : cn_c1 x y
    · skip
      simp only [cn_r0, g0, g1, cond_true, cond_false]; exact cn_p2 x y g0 g1
    · skip
      simp only [cn_r0, g0, g1, cond_true, cond_false]; exact cn_p1 x y g0 g1
  · skip
    simp only [cn_r0, g0, cond_true, cond_false]; exact cn_p0 x y g0
def B_envGb_130 (args : List Value) : Option (Heap × Value) :=
    match args with
    | [(.agg ⟨[(.int .i64 (x)), (.int .i64 (y))]⟩)] => some (heapN, (.int .i64 (cn_r0 x y)))
    | _ => none
theorem B_envGb_130_ok {args : List Value} {H : Heap} {v : Value} (h : B_envGb_130 args = some (H, v)) : 8 ≤ H.length ∧ H.all tableRow = true ∧ Gives Tryz.prog envGa 0 130 args H (v, H) := by
  unfold B_envGb_130 at h
  split at h
  · cases h; exact heapN_ok (cn_gives _ _)
  · cases h
def B_envGb (f : FuncId) (args : List Value) : Option (Heap × Value) :=
  if f == 130 then B_envGb_130 args else
  none
noncomputable def envGb : Env := envGa.with (baseKnown B_envGb)
theorem envGb_ok : EnvOK Tryz.prog 8 envGb := env_base prog_ok envGa_ok fun f args H v h => by
  unfold B_envGb at h
  split at h
  · rename_i hf
    have hf : f = 130 := by simpa using hf
    subst hf
    exact B_envGb_130_ok h
  · skip
    cases h
/-
What functions give.
-/
def cv_c0 (x0 x1 x2 x3 x4 x5 x6 x7 : Int) : Bool := cn_r0 x0 x1 != 0
def cv_c1 (x0 x1 x2 x3 x4 x5 x6 x7 : Int) : Bool := cn_r0 x2 x3 != 0
def cv_c2 (x0 x1 x2 x3 x4 x5 x6 x7 : Int) : Bool := cn_r0 x4 x5 != 0
def cv_c3 (x0 x1 x2 x3 x4 x5 x6 x7 : Int) : Bool := cn_r0 x6 x7 != 0
theorem cv_p0 (x0 x1 x2 x3 x4 x5 x6 x7 : Int) (h0 : cv_c0 x0 x1 x2 x3 x4 x5 x6 x7 = true) : Gives Tryz.prog envGb 0 94 [(.agg #[I x0, I x1, I x2, I x3, I x4, I x5, I x6, I x7])] heapN ((I (cn_r0 x0 x1)), heapN) :=
  Gives.by (n := 1000) (os := [.br 84 26 true]) (os' := []) (by kernel_rfl) (ObsOK.cond h0 (ObsOK.nil))
theorem cv_p1 (x0 x1 x2 x3 x4 x5 x6 x7 : Int) (h0 : cv_c0 x0 x1 x2 x3 x4 x5 x6 x7 = false) (h1 : cv_c1 x0 x1 x2 x3 x4 x5 x6 x7 = true) : Gives Tryz.prog envGb 0 94 [(.agg #[I x0, I x1, I x2, I x3, I x4, I x5, I x6, I x7])] heapN ((I (cn_r0 x2 x3)), heapN) :=
  Gives.by (n := 1000) (os := [.br 84 26 false, .br 84 26 true]) (os' := []) (by kernel_rfl) (ObsOK.cond h0 (ObsOK.cond h1 (ObsOK.nil)))
theorem cv_p2 (x0 x1 x2 x3 x4 x5 x6 x7 : Int) (h0 : cv_c0 x0 x1 x2 x3 x4 x5 x6 x7 = false) (h1 : cv_c1 x0 x1 x2 x3 x4 x5 x6 x7 = false) (h2 : cv_c2 x0 x1 x2 x3 x4 x5 x6 x7 = true) : Gives Tryz.prog envGb 0 94 [(.agg #[I x0, I x1, I x2, I x3, I x4, I x5, I x6, I x7])] heapN ((I (cn_r0 x4 x5)), heapN) :=
  Gives.by (n := 1000) (os := [.br 84 26 false, .br 84 26 false, .br 84 26 true]) (os' := []) (by kernel_rfl) (ObsOK.cond h0 (ObsOK.cond h1 (ObsOK.cond h2 (ObsOK.nil))))
theorem cv_p3 (x0 x1 x2 x3 x4 x5 x6 x7 : Int) (h0 : cv_c0 x0 x1 x2 x3 x4 x5 x6 x7 = false) (h1 : cv_c1 x0 x1 x2 x3 x4 x5 x6 x7 = false) (h2 : cv_c2 x0 x1 x2 x3 x4 x5 x6 x7 = false) (h3 : cv_c3 x0 x1 x2 x3 x4 x5 x6 x7 = true) : Gives Tryz.prog envGb 0 94 [(.agg #[I x0, I x1, I x2, I x3, I x4, I x5, I x6, I x7])] heapN ((I (cn_r0 x6 x7)), heapN) :=
  Gives.by (n := 1000) (os := [.br 84 26 false, .br 84 26 false, .br 84 26 false, .br 84 26 true]) (os' := []) (by kernel_rfl) (ObsOK.cond h0 (ObsOK.cond h1 (ObsOK.cond h2 (ObsOK.cond h3 (ObsOK.nil)))))
theorem cv_p4 (x0 x1 x2 x3 x4 x5 x6 x7 : Int) (h0 : cv_c0 x0 x1 x2 x3 x4 x5 x6 x7 = false) (h1 : cv_c1 x0 x1 x2 x3 x4 x5 x6 x7 = false) (h2 : cv_c2 x0 x1 x2 x3 x4 x5 x6 x7 = false) (h3 : cv_c3 x0 x1 x2 x3 x4 x5 x6 x7 = false) : Gives Tryz.prog envGb 0 94 [(.agg #[I x0, I x1, I x2, I x3, I x4, I x5, I x6, I x7])] heapN ((I 0), heapN) :=
  Gives.by (n := 1000) (os := [.br 84 26 false, .br 84 26 false, .br 84 26 false, .br 84 26 false]) (os' := []) (by kernel_rfl) (ObsOK.cond h0 (ObsOK.cond h1 (ObsOK.cond h2 (ObsOK.cond h3 (ObsOK.nil)))))
def cv_r0 (x0 x1 x2 x3 x4 x5 x6 x7 : Int) : Int := (cond (cv_c0 x0 x1 x2 x3 x4 x5 x6 x7) (cn_r0 x0 x1) (cond (cv_c1 x0 x1 x2 x3 x4 x5 x6 x7) (cn_r0 x2 x3) (cond (cv_c2 x0 x1 x2 x3 x4 x5 x6 x7) (cn_r0 x4 x5) (cond (cv_c3 x0 x1 x2 x3 x4 x5 x6 x7) (cn_r0 x6 x7) (0)))))
theorem cv_gives (x0 x1 x2 x3 x4 x5 x6 x7 : Int) : Gives Tryz.prog envGb 0 94 [(.agg #[I x0, I x1, I x2, I x3, I x4, I x5, I x6, I x7])] heapN ((I (cv_r0 x0 x1 x2 x3 x4 x5 x6 x7)), heapN) := by
  cases g0 : cv_c0 x0 x1 x2 x3 x4 x5 x6 x7
  · skip
    cases g1 : cv_c1 x0 x1 x2 x3 x4 x5 x6 x7
    · skip
      cases g2 : cv_c2 x0 x1 x2 x3 x4 x5 x6 x7
      · skip
        cases g3 : cv_c3 x0 x1 x2 x3 x4 x5 x6 x7
        · skip
          simp only [cv_r0, g0, g1, g2, g3, cond_true, cond_false]; exact cv_p4 x0 x1 x2 x3 x4 x5 x6 x7 g0 g1 g2 g3
        · skip
          simp only [cv_r0, g0, g1, g2, g3, cond_true, cond_false]; exact cv_p3 x0 x1 x2 x3 x4 x5 x6 x7 g0 g1 g2 g3
      · skip
        simp only [cv_r0, g0, g1, g2, cond_true, cond_false]; exact cv_p2 x0 x1 x2 x3 x4 x5 x6 x7 g0 g1 g2
    · skip
      simp only [cv_r0, g0, g1, cond_true, cond_false]; exact cv_p1 x0 x1 x2 x3 x4 x5 x6 x7 g0 g1
  · skip
    simp only [cv_r0, g0, cond_true, cond_false]; exact cv_p0 x0 x1 x2 x3 x4 x5 x6 x7 g0
def tc_c0 (x0 x1 x2 x3 x4 x5 x6 x7 : Int) : Bool := cr_r0 x0 (-999999999) 999999999 != 0
def tc_c1 (x0 x1 x2 x3 x4 x5 x6 x7 : Int) : Bool := cr_r0 x1 (-999999999) 999999999 != 0
def tc_c2 (x0 x1 x2 x3 x4 x5 x6 x7 : Int) : Bool := cr_r0 x2 (-999999999) 999999999 != 0
def tc_c3 (x0 x1 x2 x3 x4 x5 x6 x7 : Int) : Bool := cr_r0 x3 (-999999999) 999999999 != 0
def tc_c4 (x0 x1 x2 x3 x4 x5 x6 x7 : Int) : Bool := cr_r0 x4 (-999999999) 999999999 != 0
def tc_c5 (x0 x1 x2 x3 x4 x5 x6 x7 : Int) : Bool := cr_r0 x5 (-999999999) 999999999 != 0
def tc_c6 (x0 x1 x2 x3 x4 x5 x6 x7 : Int) : Bool := cr_r0 x6 (-999999999) 999999999 != 0
def tc_c7 (x0 x1 x2 x3 x4 x5 x6 x7 : Int) : Bool := cr_r0 x7 (-999999999) 999999999 != 0
theorem tc_p0 (x0 x1 x2 x3 x4 x5 x6 x7 : Int) (h0 : tc_c0 x0 x1 x2 x3 x4 x5 x6 x7 = true) : Gives Tryz.prog envGb 0 43 [(.agg #[I x0, I x1, I x2, I x3, I x4, I x5, I x6, I x7])] heapN ((I (cr_r0 x0 (-999999999) 999999999)), heapN) :=
  Gives.by (n := 1000) (os := [.br 23 30 true, .br 43 46 true]) (os' := []) (by kernel_rfl) (ObsOK.cond h0 (ObsOK.cond h0 (ObsOK.nil)))
theorem tc_p1 (x0 x1 x2 x3 x4 x5 x6 x7 : Int) (h0 : tc_c0 x0 x1 x2 x3 x4 x5 x6 x7 = false) (h1 : tc_c1 x0 x1 x2 x3 x4 x5 x6 x7 = true) : Gives Tryz.prog envGb 0 43 [(.agg #[I x0, I x1, I x2, I x3, I x4, I x5, I x6, I x7])] heapN ((I (cr_r0 x1 (-999999999) 999999999)), heapN) :=
  Gives.by (n := 1000) (os := [.br 23 30 false, .br 23 30 true, .br 43 46 true]) (os' := []) (by kernel_rfl) (ObsOK.cond h0 (ObsOK.cond h1 (ObsOK.cond h1 (ObsOK.nil))))
theorem tc_p2 (x0 x1 x2 x3 x4 x5 x6 x7 : Int) (h0 : tc_c0 x0 x1 x2 x3 x4 x5 x6 x7 = false) (h1 : tc_c1 x0 x1 x2 x3 x4 x5 x6 x7 = false) (h2 : tc_c2 x0 x1 x2 x3 x4 x5 x6 x7 = true) : Gives Tryz.prog envGb 0 43 [(.agg #[I x0, I x1, I x2, I x3, I x4, I x5, I x6, I x7])] heapN ((I (cr_r0 x2 (-999999999) 999999999)), heapN) :=
  Gives.by (n := 1000) (os := [.br 23 30 false, .br 23 30 false, .br 23 30 true, .br 43 46 true]) (os' := []) (by kernel_rfl) (ObsOK.cond h0 (ObsOK.cond h1 (ObsOK.cond h2 (ObsOK.cond h2 (ObsOK.nil)))))
theorem tc_p3 (x0 x1 x2 x3 x4 x5 x6 x7 : Int) (h0 : tc_c0 x0 x1 x2 x3 x4 x5 x6 x7 = false) (h1 : tc_c1 x0 x1 x2 x3 x4 x5 x6 x7 = false) (h2 : tc_c2 x0 x1 x2 x3 x4 x5 x6 x7 = false) (h3 : tc_c3 x0 x1 x2 x3 x4 x5 x6 x7 = true) : Gives Tryz.prog envGb 0 43 [(.agg #[I x0, I x1, I x2, I x3, I x4, I x5, I x6, I x7])] heapN ((I (cr_r0 x3 (-999999999) 999999999)), heapN) :=
  Gives.by (n := 1000) (os := [.br 23 30 false, .br 23 30 false, .br 23 30 false, .br 23 30 true, .br 43 46 true]) (os' := []) (by kernel_rfl) (ObsOK.cond h0 (ObsOK.cond h1 (ObsOK.cond h2 (ObsOK.cond h3 (ObsOK.cond h3 (ObsOK.nil))))))
theorem tc_p4 (x0 x1 x2 x3 x4 x5 x6 x7 : Int) (h0 : tc_c0 x0 x1 x2 x3 x4 x5 x6 x7 = false) (h1 : tc_c1 x0 x1 x2 x3 x4 x5 x6 x7 = false) (h2 : tc_c2 x0 x1 x2 x3 x4 x5 x6 x7 = false) (h3 : tc_c3 x0 x1 x2 x3 x4 x5 x6 x7 = false) (h4 : tc_c4 x0 x1 x2 x3 x4 x5 x6 x7 = true) : Gives Tryz.prog envGb 0 43 [(.agg #[I x0, I x1, I x2, I x3, I x4, I x5, I x6, I x7])] heapN ((I (cr_r0 x4 (-999999999) 999999999)), heapN) :=
  Gives.by (n := 1000) (os := [.br 23 30 false, .br 23 30 false, .br 23 30 false, .br 23 30 false, .br 23 30 true, .br 43 46 true]) (os' := []) (by kernel_rfl) (ObsOK.cond h0 (ObsOK.cond h1 (ObsOK.cond h2 (ObsOK.cond h3 (ObsOK.cond h4 (ObsOK.cond h4 (ObsOK.nil)))))))
theorem tc_p5 (x0 x1 x2 x3 x4 x5 x6 x7 : Int) (h0 : tc_c0 x0 x1 x2 x3 x4 x5 x6 x7 = false) (h1 : tc_c1 x0 x1 x2 x3 x4 x5 x6 x7 = false) (h2 : tc_c2 x0 x1 x2 x3 x4 x5 x6 x7 = false) (h3 : tc_c3 x0 x1 x2 x3 x4 x5 x6 x7 = false) (h4 : tc_c4 x0 x1 x2 x3 x4 x5 x6 x7 = false) (h5 : tc_c5 x0 x1 x2 x3 x4 x5 x6 x7 = true) : Gives Tryz.prog envGb 0 43 [(.agg #[I x0, I x1, I x2, I x3, I x4, I x5, I x6, I x7])] heapN ((I (cr_r0 x5 (-999999999) 999999999)), heapN) :=
  Gives.by (n := 1000) (os := [.br 23 30 false, .br 23 30 false, .br 23 30 false, .br 23 30 false, .br 23 30 false, .br 23 30 true, .br 43 46 true]) (os' := []) (by kernel_rfl) (ObsOK.cond h0 (ObsOK.cond h1 (ObsOK.cond h2 (ObsOK.cond h3 (ObsOK.cond h4 (ObsOK.cond h5 (ObsOK.cond h5 (ObsOK.nil))))))))
theorem tc_p6 (x0 x1 x2 x3 x4 x5 x6 x7 : Int) (h0 : tc_c0 x0 x1 x2 x3 x4 x5 x6 x7 = false) (h1 : tc_c1 x0 x1 x2 x3 x4 x5 x6 x7 = false) (h2 : tc_c2 x0 x1 x2 x3 x4 x5 x6 x7 = false) (h3 : tc_c3 x0 x1 x2 x3 x4 x5 x6 x7 = false) (h4 : tc_c4 x0 x1 x2 x3 x4 x5 x6 x7 = false) (h5 : tc_c5 x0 x1 x2 x3 x4 x5 x6 x7 = false) (h6 : tc_c6 x0 x1 x2 x3 x4 x5 x6 x7 = true) : Gives Tryz.prog envGb 0 43 [(.agg #[I x0, I x1, I x2, I x3, I x4, I x5, I x6, I x7])] heapN ((I (cr_r0 x6 (-999999999) 999999999)), heapN) :=
  Gives.by (n := 1000) (os := [.br 23 30 false, .br 23 30 false, .br 23 30 false, .br 23 30 false, .br 23 30 false, .br 23 30 false, .br 23 30 true, .br 43 46 true]) (os' := []) (by kernel_rfl) (ObsOK.cond h0 (ObsOK.cond h1 (ObsOK.cond h2 (ObsOK.cond h3 (ObsOK.cond h4 (ObsOK.cond h5 (ObsOK.cond h6 (ObsOK.cond h6 (ObsOK.nil)))))))))
theorem tc_p7 (x0 x1 x2 x3 x4 x5 x6 x7 : Int) (h0 : tc_c0 x0 x1 x2 x3 x4 x5 x6 x7 = false) (h1 : tc_c1 x0 x1 x2 x3 x4 x5 x6 x7 = false) (h2 : tc_c2 x0 x1 x2 x3 x4 x5 x6 x7 = false) (h3 : tc_c3 x0 x1 x2 x3 x4 x5 x6 x7 = false) (h4 : tc_c4 x0 x1 x2 x3 x4 x5 x6 x7 = false) (h5 : tc_c5 x0 x1 x2 x3 x4 x5 x6 x7 = false) (h6 : tc_c6 x0 x1 x2 x3 x4 x5 x6 x7 = false) (h7 : tc_c7 x0 x1 x2 x3 x4 x5 x6 x7 = true) : Gives Tryz.prog envGb 0 43 [(.agg #[I x0, I x1, I x2, I x3, I x4, I x5, I x6, I x7])] heapN ((I (cr_r0 x7 (-999999999) 999999999)), heapN) :=
  Gives.by (n := 1000) (os := [.br 23 30 false, .br 23 30 false, .br 23 30 false, .br 23 30 false, .br 23 30 false, .br 23 30 false, .br 23 30 false, .br 23 30 true, .br 43 46 true]) (os' := []) (by kernel_rfl) (ObsOK.cond h0 (ObsOK.cond h1 (ObsOK.cond h2 (ObsOK.cond h3 (ObsOK.cond h4 (ObsOK.cond h5 (ObsOK.cond h6 (ObsOK.cond h7 (ObsOK.cond h7 (ObsOK.nil))))))))))
theorem tc_p8 (x0 x1 x2 x3 x4 x5 x6 x7 : Int) (h0 : tc_c0 x0 x1 x2 x3 x4 x5 x6 x7 = false) (h1 : tc_c1 x0 x1 x2 x3 x4 x5 x6 x7 = false) (h2 : tc_c2 x0 x1 x2 x3 x4 x5 x6 x7 = false) (h3 : tc_c3 x0 x1 x2 x3 x4 x5 x6 x7 = false) (h4 : tc_c4 x0 x1 x2 x3 x4 x5 x6 x7 = false) (h5 : tc_c5 x0 x1 x2 x3 x4 x5 x6 x7 = false) (h6 : tc_c6 x0 x1 x2 x3 x4 x5 x6 x7 = false) (h7 : tc_c7 x0 x1 x2 x3 x4 x5 x6 x7 = false) : Gives Tryz.prog envGb 0 43 [(.agg #[I x0, I x1, I x2, I x3, I x4, I x5, I x6, I x7])] heapN ((I 0), heapN) :=
  Gives.by (n := 1000) (os := [.br 23 30 false, .br 23 30 false, .br 23 30 false, .br 23 30 false, .br 23 30 false, .br 23 30 false, .br 23 30 false, .br 23 30 false]) (os' := []) (by kernel_rfl) (ObsOK.cond h0 (ObsOK.cond h1 (ObsOK.cond h2 (ObsOK.cond h3 (ObsOK.cond h4 (ObsOK.cond h5 (ObsOK.cond h6 (ObsOK.cond h7 (ObsOK.nil)))))))))
def tc_r0 (x0 x1 x2 x3 x4 x5 x6 x7 : Int) : Int := (cond (tc_c0 x0 x1 x2 x3 x4 x5 x6 x7) (cr_r0 x0 (-999999999) 999999999) (cond (tc_c1 x0 x1 x2 x3 x4 x5 x6 x7) (cr_r0 x1 (-999999999) 999999999) (cond (tc_c2 x0 x1 x2 x3 x4 x5 x6 x7) (cr_r0 x2 (-999999999) 999999999) (cond (tc_c3 x0 x1 x2 x3 x4 x5 x6 x7) (cr_r0 x3 (-999999999) 999999999) (cond (tc_c4 x0 x1 x2 x3 x4 x5 x6 x7) (cr_r0 x4 (-999999999) 999999999) (cond (tc_c5 x0 x1 x2 x3 x4 x5 x6 x7) (cr_r0 x5 (-999999999) 999999999) (cond (tc_c6 x0 x1 x2 x3 x4 x5 x6 x7) (cr_r0 x6 (-999999999) 999999999) (cond (tc_c7 x0 x1 x2 x3 x4 x5 x6 x7) (cr_r0 x7 (-999999999) 999999999) (0)))))))))
theorem tc_gives (x0 x1 x2 x3 x4 x5 x6 x7 : Int) : Gives Tryz.prog envGb 0 43 [(.agg #[I x0, I x1, I x2, I x3, I x4, I x5, I x6, I x7])] heapN ((I (tc_r0 x0 x1 x2 x3 x4 x5 x6 x7)), heapN) := by
  cases g0 : tc_c0 x0 x1 x2 x3 x4 x5 x6 x7
  · skip
    cases g1 : tc_c1 x0 x1 x2 x3 x4 x5 x6 x7
    · skip
      cases g2 : tc_c2 x0 x1 x2 x3 x4 x5 x6 x7
      · skip
        cases g3 : tc_c3 x0 x1 x2 x3 x4 x5 x6 x7
        · skip
          cases g4 : tc_c4 x0 x1 x2 x3 x4 x5 x6 x7
          · skip
            cases g5 : tc_c5 x0 x1 x2 x3 x4 x5 x6 x7
            · skip
              cases g6 : tc_c6 x0 x1 x2 x3 x4 x5 x6 x7
              · skip
                cases g7 : tc_c7 x0 x1 x2 x3 x4 x5 x6 x7
                · skip
                  simp only [tc_r0, g0, g1, g2, g3, g4, g5, g6, g7, cond_true, cond_false]; exact tc_p8 x0 x1 x2 x3 x4 x5 x6 x7 g0 g1 g2 g3 g4 g5 g6 g7
                · skip
                  simp only [tc_r0, g0, g1, g2, g3, g4, g5, g6, g7, cond_true, cond_false]; exact tc_p7 x0 x1 x2 x3 x4 x5 x6 x7 g0 g1 g2 g3 g4 g5 g6 g7
              · skip
                simp only [tc_r0, g0, g1, g2, g3, g4, g5, g6, cond_true, cond_false]; exact tc_p6 x0 x1 x2 x3 x4 x5 x6 x7 g0 g1 g2 g3 g4 g5 g6
            · skip
              simp only [tc_r0, g0, g1, g2, g3, g4, g5, cond_true, cond_false]; exact tc_p5 x0 x1 x2 x3 x4 x5 x6 x7 g0 g1 g2 g3 g4 g5
          · skip
            simp only [tc_r0, g0, g1, g2, g3, g4, cond_true, cond_false]; exact tc_p4 x0 x1 x2 x3 x4 x5 x6 x7 g0 g1 g2 g3 g4
        · skip
          simp only [tc_r0, g0, g1, g2, g3, cond_true, cond_false]; exact tc_p3 x0 x1 x2 x3 x4 x5 x6 x7 g0 g1 g2 g3
      · skip
        simp only [tc_r0, g0, g1, g2, cond_true, cond_false]; exact tc_p2 x0 x1 x2 x3 x4 x5 x6 x7 g0 g1 g2
    · skip
      simp only [tc_r0, g0, g1, cond_true, cond_false]; exact tc_p1 x0 x1 x2 x3 x4 x5 x6 x7 g0 g1
  · skip
    simp only [tc_r0, g0, cond_true, cond_false]; exact tc_p0 x0 x1 x2 x3 x4 x5 x6 x7 g0
theorem sN_p0 (x0 x1 x2 x3 x4 x5 x6 x7 : Int) : Gives Tryz.prog envGb 0 95 [(.agg #[I x0, I x1, I x2, I x3, I x4, I x5, I x6, I x7]), (I (-1))] heap0 ((.agg #[(I (IntKind.i64.wrap (IntKind.i64.wrap (IntKind.i64.wrap (IntKind.i64.wrap (0 + IntKind.i64.wrap (IntKind.i64.wrap (x0 * 1) - IntKind.i64.wrap (x1 * 0))) + IntKind.i64.wrap (IntKind.i64.wrap (x2 * 1) - IntKind.i64.wrap (x3 * 0))) + IntKind.i64.wrap (IntKind.i64.wrap (x4 * 1) - IntKind.i64.wrap (x5 * 0))) + IntKind.i64.wrap (IntKind.i64.wrap (x6 * 1) - IntKind.i64.wrap (x7 * 0))))), (I (IntKind.i64.wrap (IntKind.i64.wrap (IntKind.i64.wrap (IntKind.i64.wrap (0 + IntKind.i64.wrap (IntKind.i64.wrap (x0 * 0) + IntKind.i64.wrap (x1 * 1))) + IntKind.i64.wrap (IntKind.i64.wrap (x2 * 0) + IntKind.i64.wrap (x3 * 1))) + IntKind.i64.wrap (IntKind.i64.wrap (x4 * 0) + IntKind.i64.wrap (x5 * 1))) + IntKind.i64.wrap (IntKind.i64.wrap (x6 * 0) + IntKind.i64.wrap (x7 * 1))))), (I (IntKind.i64.wrap (IntKind.i64.wrap (IntKind.i64.wrap (IntKind.i64.wrap (0 + IntKind.i64.wrap (IntKind.i64.wrap (x0 * 1) - IntKind.i64.wrap (x1 * 0))) + tm1_r0 x2 x3) + tm2_r0 x4 x5) + IntKind.i64.wrap (IntKind.i64.wrap (x6 * 0) - IntKind.i64.wrap (x7 * 1))))), (I (IntKind.i64.wrap (IntKind.i64.wrap (IntKind.i64.wrap (IntKind.i64.wrap (0 + IntKind.i64.wrap (IntKind.i64.wrap (x0 * 0) + IntKind.i64.wrap (x1 * 1))) + tm1_r1 x2 x3) + IntKind.i64.wrap (IntKind.i64.wrap (x4 * 0) + IntKind.i64.wrap (x5 * -1))) + IntKind.i64.wrap (IntKind.i64.wrap (x6 * 1) + IntKind.i64.wrap (x7 * 0))))), (I (IntKind.i64.wrap (IntKind.i64.wrap (IntKind.i64.wrap (IntKind.i64.wrap (0 + IntKind.i64.wrap (IntKind.i64.wrap (x0 * 1) - IntKind.i64.wrap (x1 * 0))) + tm2_r0 x2 x3) + IntKind.i64.wrap (IntKind.i64.wrap (x4 * 1) - IntKind.i64.wrap (x5 * 0))) + IntKind.i64.wrap (IntKind.i64.wrap (x6 * -1) - IntKind.i64.wrap (x7 * 0))))), (I (IntKind.i64.wrap (IntKind.i64.wrap (IntKind.i64.wrap (IntKind.i64.wrap (0 + IntKind.i64.wrap (IntKind.i64.wrap (x0 * 0) + IntKind.i64.wrap (x1 * 1))) + IntKind.i64.wrap (IntKind.i64.wrap (x2 * 0) + IntKind.i64.wrap (x3 * -1))) + IntKind.i64.wrap (IntKind.i64.wrap (x4 * 0) + IntKind.i64.wrap (x5 * 1))) + IntKind.i64.wrap (IntKind.i64.wrap (x6 * 0) + IntKind.i64.wrap (x7 * -1))))), (I (IntKind.i64.wrap (IntKind.i64.wrap (IntKind.i64.wrap (IntKind.i64.wrap (0 + IntKind.i64.wrap (IntKind.i64.wrap (x0 * 1) - IntKind.i64.wrap (x1 * 0))) + IntKind.i64.wrap (IntKind.i64.wrap (x2 * 0) - IntKind.i64.wrap (x3 * 1))) + IntKind.i64.wrap (IntKind.i64.wrap (x4 * -1) - IntKind.i64.wrap (x5 * 0))) + IntKind.i64.wrap (IntKind.i64.wrap (x6 * 0) - IntKind.i64.wrap (x7 * -1))))), (I (IntKind.i64.wrap (IntKind.i64.wrap (IntKind.i64.wrap (IntKind.i64.wrap (0 + IntKind.i64.wrap (IntKind.i64.wrap (x0 * 0) + IntKind.i64.wrap (x1 * 1))) + IntKind.i64.wrap (IntKind.i64.wrap (x2 * 1) + IntKind.i64.wrap (x3 * 0))) + IntKind.i64.wrap (IntKind.i64.wrap (x4 * 0) + IntKind.i64.wrap (x5 * -1))) + IntKind.i64.wrap (IntKind.i64.wrap (x6 * -1) + IntKind.i64.wrap (x7 * 0)))))]), heap0) :=
  Gives.by (n := 1000) (os := []) (os' := []) (by kernel_rfl) (ObsOK.nil)
def sN_r0 (x0 x1 x2 x3 x4 x5 x6 x7 : Int) : Int := (IntKind.i64.wrap (IntKind.i64.wrap (IntKind.i64.wrap (IntKind.i64.wrap (0 + IntKind.i64.wrap (IntKind.i64.wrap (x0 * 1) - IntKind.i64.wrap (x1 * 0))) + IntKind.i64.wrap (IntKind.i64.wrap (x2 * 1) - IntKind.i64.wrap (x3 * 0))) + IntKind.i64.wrap (IntKind.i64.wrap (x4 * 1) - IntKind.i64.wrap (x5 * 0))) + IntKind.i64.wrap (IntKind.i64.wrap (x6 * 1) - IntKind.i64.wrap (x7 * 0))))
def sN_r1 (x0 x1 x2 x3 x4 x5 x6 x7 : Int) : Int := (IntKind.i64.wrap (IntKind.i64.wrap (IntKind.i64.wrap (IntKind.i64.wrap (0 + IntKind.i64.wrap (IntKind.i64.wrap (x0 * 0) + IntKind.i64.wrap (x1 * 1))) + IntKind.i64.wrap (IntKind.i64.wrap (x2 * 0) + IntKind.i64.wrap (x3 * 1))) + IntKind.i64.wrap (IntKind.i64.wrap (x4 * 0) + IntKind.i64.wrap (x5 * 1))) + IntKind.i64.wrap (IntKind.i64.wrap (x6 * 0) + IntKind.i64.wrap (x7 * 1))))
def sN_r2 (x0 x1 x2 x3 x4 x5 x6 x7 : Int) : Int := (IntKind.i64.wrap (IntKind.i64.wrap (IntKind.i64.wrap (IntKind.i64.wrap (0 + IntKind.i64.wrap (IntKind.i64.wrap (x0 * 1) - IntKind.i64.wrap (x1 * 0))) + tm1_r0 x2 x3) + tm2_r0 x4 x5) + IntKind.i64.wrap (IntKind.i64.wrap (x6 * 0) - IntKind.i64.wrap (x7 * 1))))
def sN_r3 (x0 x1 x2 x3 x4 x5 x6 x7 : Int) : Int := (IntKind.i64.wrap (IntKind.i64.wrap (IntKind.i64.wrap (IntKind.i64.wrap (0 + IntKind.i64.wrap (IntKind.i64.wrap (x0 * 0) + IntKind.i64.wrap (x1 * 1))) + tm1_r1 x2 x3) + IntKind.i64.wrap (IntKind.i64.wrap (x4 * 0) + IntKind.i64.wrap (x5 * -1))) + IntKind.i64.wrap (IntKind.i64.wrap (x6 * 1) + IntKind.i64.wrap (x7 * 0))))
def sN_r4 (x0 x1 x2 x3 x4 x5 x6 x7 : Int) : Int := (IntKind.i64.wrap (IntKind.i64.wrap (IntKind.i64.wrap (IntKind.i64.wrap (0 + IntKind.i64.wrap (IntKind.i64.wrap (x0 * 1) - IntKind.i64.wrap (x1 * 0))) + tm2_r0 x2 x3) + IntKind.i64.wrap (IntKind.i64.wrap (x4 * 1) - IntKind.i64.wrap (x5 * 0))) + IntKind.i64.wrap (IntKind.i64.wrap (x6 * -1) - IntKind.i64.wrap (x7 * 0))))
def sN_r5 (x0 x1 x2 x3 x4 x5 x6 x7 : Int) : Int := (IntKind.i64.wrap (IntKind.i64.wrap (IntKind.i64.wrap (IntKind.i64.wrap (0 + IntKind.i64.wrap (IntKind.i64.wrap (x0 * 0) + IntKind.i64.wrap (x1 * 1))) + IntKind.i64.wrap (IntKind.i64.wrap (x2 * 0) + IntKind.i64.wrap (x3 * -1))) + IntKind.i64.wrap (IntKind.i64.wrap (x4 * 0) + IntKind.i64.wrap (x5 * 1))) + IntKind.i64.wrap (IntKind.i64.wrap (x6 * 0) + IntKind.i64.wrap (x7 * -1))))
def sN_r6 (x0 x1 x2 x3 x4 x5 x6 x7 : Int) : Int := (IntKind.i64.wrap (IntKind.i64.wrap (IntKind.i64.wrap (IntKind.i64.wrap (0 + IntKind.i64.wrap (IntKind.i64.wrap (x0 * 1) - IntKind.i64.wrap (x1 * 0))) + IntKind.i64.wrap (IntKind.i64.wrap (x2 * 0) - IntKind.i64.wrap (x3 * 1))) + IntKind.i64.wrap (IntKind.i64.wrap (x4 * -1) - IntKind.i64.wrap (x5 * 0))) + IntKind.i64.wrap (IntKind.i64.wrap (x6 * 0) - IntKind.i64.wrap (x7 * -1))))
def sN_r7 (x0 x1 x2 x3 x4 x5 x6 x7 : Int) : Int := (IntKind.i64.wrap (IntKind.i64.wrap (IntKind.i64.wrap (IntKind.i64.wrap (0 + IntKind.i64.wrap (IntKind.i64.wrap (x0 * 0) + IntKind.i64.wrap (x1 * 1))) + IntKind.i64.wrap (IntKind.i64.wrap (x2 * 1) + IntKind.i64.wrap (x3 * 0))) + IntKind.i64.wrap (IntKind.i64.wrap (x4 * 0) + IntKind.i64.wrap (x5 * -1))) + IntKind.i64.wrap (IntKind.i64.wrap (x6 * -1) + IntKind.i64.wrap (x7 * 0))))
theorem sN_gives (x0 x1 x2 x3 x4 x5 x6 x7 : Int) : Gives Tryz.prog envGb 0 95 [(.agg #[I x0, I x1, I x2, I x3, I x4, I x5, I x6, I x7]), (I (-1))] heap0 ((.agg #[(I (sN_r0 x0 x1 x2 x3 x4 x5 x6 x7)), (I (sN_r1 x0 x1 x2 x3 x4 x5 x6 x7)), (I (sN_r2 x0 x1 x2 x3 x4 x5 x6 x7)), (I (sN_r3 x0 x1 x2 x3 x4 x5 x6 x7)), (I (sN_r4 x0 x1 x2 x3 x4 x5 x6 x7)), (I (sN_r5 x0 x1 x2 x3 x4 x5 x6 x7)), (I (sN_r6 x0 x1 x2 x3 x4 x5 x6 x7)), (I (sN_r7 x0 x1 x2 x3 x4 x5 x6 x7))]), heap0) := by
  simp only [sN_r0, sN_r1, sN_r2, sN_r3, sN_r4, sN_r5, sN_r6, sN_r7, cond_true, cond_false]; exact sN_p0 x0 x1 x2 x3 x4 x5 x6 x7
theorem sP_p0 (x0 x1 x2 x3 x4 x5 x6 x7 : Int) : Gives Tryz.prog envGb 0 95 [(.agg #[I x0, I x1, I x2, I x3, I x4, I x5, I x6, I x7]), I 1] heap0 ((.agg #[(I (IntKind.i64.wrap (IntKind.i64.wrap (IntKind.i64.wrap (IntKind.i64.wrap (0 + IntKind.i64.wrap (IntKind.i64.wrap (x0 * 1) - IntKind.i64.wrap (x1 * 0))) + IntKind.i64.wrap (IntKind.i64.wrap (x2 * 1) - IntKind.i64.wrap (x3 * 0))) + IntKind.i64.wrap (IntKind.i64.wrap (x4 * 1) - IntKind.i64.wrap (x5 * 0))) + IntKind.i64.wrap (IntKind.i64.wrap (x6 * 1) - IntKind.i64.wrap (x7 * 0))))), (I (IntKind.i64.wrap (IntKind.i64.wrap (IntKind.i64.wrap (IntKind.i64.wrap (0 + IntKind.i64.wrap (IntKind.i64.wrap (x0 * 0) + IntKind.i64.wrap (x1 * 1))) + IntKind.i64.wrap (IntKind.i64.wrap (x2 * 0) + IntKind.i64.wrap (x3 * 1))) + IntKind.i64.wrap (IntKind.i64.wrap (x4 * 0) + IntKind.i64.wrap (x5 * 1))) + IntKind.i64.wrap (IntKind.i64.wrap (x6 * 0) + IntKind.i64.wrap (x7 * 1))))), (I (IntKind.i64.wrap (IntKind.i64.wrap (IntKind.i64.wrap (IntKind.i64.wrap (0 + IntKind.i64.wrap (IntKind.i64.wrap (x0 * 1) - IntKind.i64.wrap (x1 * 0))) + IntKind.i64.wrap (IntKind.i64.wrap (x2 * 0) - IntKind.i64.wrap (x3 * 1))) + IntKind.i64.wrap (IntKind.i64.wrap (x4 * -1) - IntKind.i64.wrap (x5 * 0))) + IntKind.i64.wrap (IntKind.i64.wrap (x6 * 0) - IntKind.i64.wrap (x7 * -1))))), (I (IntKind.i64.wrap (IntKind.i64.wrap (IntKind.i64.wrap (IntKind.i64.wrap (0 + IntKind.i64.wrap (IntKind.i64.wrap (x0 * 0) + IntKind.i64.wrap (x1 * 1))) + IntKind.i64.wrap (IntKind.i64.wrap (x2 * 1) + IntKind.i64.wrap (x3 * 0))) + IntKind.i64.wrap (IntKind.i64.wrap (x4 * 0) + IntKind.i64.wrap (x5 * -1))) + IntKind.i64.wrap (IntKind.i64.wrap (x6 * -1) + IntKind.i64.wrap (x7 * 0))))), (I (IntKind.i64.wrap (IntKind.i64.wrap (IntKind.i64.wrap (IntKind.i64.wrap (0 + IntKind.i64.wrap (IntKind.i64.wrap (x0 * 1) - IntKind.i64.wrap (x1 * 0))) + IntKind.i64.wrap (IntKind.i64.wrap (x2 * -1) - IntKind.i64.wrap (x3 * 0))) + IntKind.i64.wrap (IntKind.i64.wrap (x4 * 1) - IntKind.i64.wrap (x5 * 0))) + IntKind.i64.wrap (IntKind.i64.wrap (x6 * -1) - IntKind.i64.wrap (x7 * 0))))), (I (IntKind.i64.wrap (IntKind.i64.wrap (IntKind.i64.wrap (IntKind.i64.wrap (0 + IntKind.i64.wrap (IntKind.i64.wrap (x0 * 0) + IntKind.i64.wrap (x1 * 1))) + IntKind.i64.wrap (IntKind.i64.wrap (x2 * 0) + IntKind.i64.wrap (x3 * -1))) + IntKind.i64.wrap (IntKind.i64.wrap (x4 * 0) + IntKind.i64.wrap (x5 * 1))) + IntKind.i64.wrap (IntKind.i64.wrap (x6 * 0) + IntKind.i64.wrap (x7 * -1))))), (I (IntKind.i64.wrap (IntKind.i64.wrap (IntKind.i64.wrap (IntKind.i64.wrap (0 + IntKind.i64.wrap (IntKind.i64.wrap (x0 * 1) - IntKind.i64.wrap (x1 * 0))) + IntKind.i64.wrap (IntKind.i64.wrap (x2 * 0) - IntKind.i64.wrap (x3 * -1))) + IntKind.i64.wrap (IntKind.i64.wrap (x4 * -1) - IntKind.i64.wrap (x5 * 0))) + IntKind.i64.wrap (IntKind.i64.wrap (x6 * 0) - IntKind.i64.wrap (x7 * 1))))), (I (IntKind.i64.wrap (IntKind.i64.wrap (IntKind.i64.wrap (IntKind.i64.wrap (0 + IntKind.i64.wrap (IntKind.i64.wrap (x0 * 0) + IntKind.i64.wrap (x1 * 1))) + IntKind.i64.wrap (IntKind.i64.wrap (x2 * -1) + IntKind.i64.wrap (x3 * 0))) + IntKind.i64.wrap (IntKind.i64.wrap (x4 * 0) + IntKind.i64.wrap (x5 * -1))) + IntKind.i64.wrap (IntKind.i64.wrap (x6 * 1) + IntKind.i64.wrap (x7 * 0)))))]), heap0) :=
  Gives.by (n := 1000) (os := []) (os' := []) (by kernel_rfl) (ObsOK.nil)
def sP_r0 (x0 x1 x2 x3 x4 x5 x6 x7 : Int) : Int := (IntKind.i64.wrap (IntKind.i64.wrap (IntKind.i64.wrap (IntKind.i64.wrap (0 + IntKind.i64.wrap (IntKind.i64.wrap (x0 * 1) - IntKind.i64.wrap (x1 * 0))) + IntKind.i64.wrap (IntKind.i64.wrap (x2 * 1) - IntKind.i64.wrap (x3 * 0))) + IntKind.i64.wrap (IntKind.i64.wrap (x4 * 1) - IntKind.i64.wrap (x5 * 0))) + IntKind.i64.wrap (IntKind.i64.wrap (x6 * 1) - IntKind.i64.wrap (x7 * 0))))
def sP_r1 (x0 x1 x2 x3 x4 x5 x6 x7 : Int) : Int := (IntKind.i64.wrap (IntKind.i64.wrap (IntKind.i64.wrap (IntKind.i64.wrap (0 + IntKind.i64.wrap (IntKind.i64.wrap (x0 * 0) + IntKind.i64.wrap (x1 * 1))) + IntKind.i64.wrap (IntKind.i64.wrap (x2 * 0) + IntKind.i64.wrap (x3 * 1))) + IntKind.i64.wrap (IntKind.i64.wrap (x4 * 0) + IntKind.i64.wrap (x5 * 1))) + IntKind.i64.wrap (IntKind.i64.wrap (x6 * 0) + IntKind.i64.wrap (x7 * 1))))
def sP_r2 (x0 x1 x2 x3 x4 x5 x6 x7 : Int) : Int := (IntKind.i64.wrap (IntKind.i64.wrap (IntKind.i64.wrap (IntKind.i64.wrap (0 + IntKind.i64.wrap (IntKind.i64.wrap (x0 * 1) - IntKind.i64.wrap (x1 * 0))) + IntKind.i64.wrap (IntKind.i64.wrap (x2 * 0) - IntKind.i64.wrap (x3 * 1))) + IntKind.i64.wrap (IntKind.i64.wrap (x4 * -1) - IntKind.i64.wrap (x5 * 0))) + IntKind.i64.wrap (IntKind.i64.wrap (x6 * 0) - IntKind.i64.wrap (x7 * -1))))
def sP_r3 (x0 x1 x2 x3 x4 x5 x6 x7 : Int) : Int := (IntKind.i64.wrap (IntKind.i64.wrap (IntKind.i64.wrap (IntKind.i64.wrap (0 + IntKind.i64.wrap (IntKind.i64.wrap (x0 * 0) + IntKind.i64.wrap (x1 * 1))) + IntKind.i64.wrap (IntKind.i64.wrap (x2 * 1) + IntKind.i64.wrap (x3 * 0))) + IntKind.i64.wrap (IntKind.i64.wrap (x4 * 0) + IntKind.i64.wrap (x5 * -1))) + IntKind.i64.wrap (IntKind.i64.wrap (x6 * -1) + IntKind.i64.wrap (x7 * 0))))
def sP_r4 (x0 x1 x2 x3 x4 x5 x6 x7 : Int) : Int := (IntKind.i64.wrap (IntKind.i64.wrap (IntKind.i64.wrap (IntKind.i64.wrap (0 + IntKind.i64.wrap (IntKind.i64.wrap (x0 * 1) - IntKind.i64.wrap (x1 * 0))) + IntKind.i64.wrap (IntKind.i64.wrap (x2 * -1) - IntKind.i64.wrap (x3 * 0))) + IntKind.i64.wrap (IntKind.i64.wrap (x4 * 1) - IntKind.i64.wrap (x5 * 0))) + IntKind.i64.wrap (IntKind.i64.wrap (x6 * -1) - IntKind.i64.wrap (x7 * 0))))
def sP_r5 (x0 x1 x2 x3 x4 x5 x6 x7 : Int) : Int := (IntKind.i64.wrap (IntKind.i64.wrap (IntKind.i64.wrap (IntKind.i64.wrap (0 + IntKind.i64.wrap (IntKind.i64.wrap (x0 * 0) + IntKind.i64.wrap (x1 * 1))) + IntKind.i64.wrap (IntKind.i64.wrap (x2 * 0) + IntKind.i64.wrap (x3 * -1))) + IntKind.i64.wrap (IntKind.i64.wrap (x4 * 0) + IntKind.i64.wrap (x5 * 1))) + IntKind.i64.wrap (IntKind.i64.wrap (x6 * 0) + IntKind.i64.wrap (x7 * -1))))
def sP_r6 (x0 x1 x2 x3 x4 x5 x6 x7 : Int) : Int := (IntKind.i64.wrap (IntKind.i64.wrap (IntKind.i64.wrap (IntKind.i64.wrap (0 + IntKind.i64.wrap (IntKind.i64.wrap (x0 * 1) - IntKind.i64.wrap (x1 * 0))) + IntKind.i64.wrap (IntKind.i64.wrap (x2 * 0) - IntKind.i64.wrap (x3 * -1))) + IntKind.i64.wrap (IntKind.i64.wrap (x4 * -1) - IntKind.i64.wrap (x5 * 0))) + IntKind.i64.wrap (IntKind.i64.wrap (x6 * 0) - IntKind.i64.wrap (x7 * 1))))
def sP_r7 (x0 x1 x2 x3 x4 x5 x6 x7 : Int) : Int := (IntKind.i64.wrap (IntKind.i64.wrap (IntKind.i64.wrap (IntKind.i64.wrap (0 + IntKind.i64.wrap (IntKind.i64.wrap (x0 * 0) + IntKind.i64.wrap (x1 * 1))) + IntKind.i64.wrap (IntKind.i64.wrap (x2 * -1) + IntKind.i64.wrap (x3 * 0))) + IntKind.i64.wrap (IntKind.i64.wrap (x4 * 0) + IntKind.i64.wrap (x5 * -1))) + IntKind.i64.wrap (IntKind.i64.wrap (x6 * 1) + IntKind.i64.wrap (x7 * 0))))
theorem sP_gives (x0 x1 x2 x3 x4 x5 x6 x7 : Int) : Gives Tryz.prog envGb 0 95 [(.agg #[I x0, I x1, I x2, I x3, I x4, I x5, I x6, I x7]), I 1] heap0 ((.agg #[(I (sP_r0 x0 x1 x2 x3 x4 x5 x6 x7)), (I (sP_r1 x0 x1 x2 x3 x4 x5 x6 x7)), (I (sP_r2 x0 x1 x2 x3 x4 x5 x6 x7)), (I (sP_r3 x0 x1 x2 x3 x4 x5 x6 x7)), (I (sP_r4 x0 x1 x2 x3 x4 x5 x6 x7)), (I (sP_r5 x0 x1 x2 x3 x4 x5 x6 x7)), (I (sP_r6 x0 x1 x2 x3 x4 x5 x6 x7)), (I (sP_r7 x0 x1 x2 x3 x4 x5 x6 x7))]), heap0) := by
  simp only [sP_r0, sP_r1, sP_r2, sP_r3, sP_r4, sP_r5, sP_r6, sP_r7, cond_true, cond_false]; exact sP_p0 x0 x1 x2 x3 x4 x5 x6 x7
def B_envGc_94 (args : List Value) : Option (Heap × Value) :=
    match args with
    | [(.agg ⟨[(.int .i64 (x0)), (.int .i64 (x1)), (.int .i64 (x2)), (.int .i64 (x3)), (.int .i64 (x4)), (.int .i64 (x5)), (.int .i64 (x6)), (.int .i64 (x7))]⟩)] => some (heapN, (.int .i64 (cv_r0 x0 x1 x2 x3 x4 x5 x6 x7)))
    | _ => none
theorem B_envGc_94_ok {args : List Value} {H : Heap} {v : Value} (h : B_envGc_94 args = some (H, v)) : 8 ≤ H.length ∧ H.all tableRow = true ∧ Gives Tryz.prog envGb 0 94 args H (v, H) := by
  unfold B_envGc_94 at h
  split at h
  · cases h; exact heapN_ok (cv_gives _ _ _ _ _ _ _ _)
  · cases h
def B_envGc_43 (args : List Value) : Option (Heap × Value) :=
    match args with
    | [(.agg ⟨[(.int .i64 (x0)), (.int .i64 (x1)), (.int .i64 (x2)), (.int .i64 (x3)), (.int .i64 (x4)), (.int .i64 (x5)), (.int .i64 (x6)), (.int .i64 (x7))]⟩)] => some (heapN, (.int .i64 (tc_r0 x0 x1 x2 x3 x4 x5 x6 x7)))
    | _ => none
theorem B_envGc_43_ok {args : List Value} {H : Heap} {v : Value} (h : B_envGc_43 args = some (H, v)) : 8 ≤ H.length ∧ H.all tableRow = true ∧ Gives Tryz.prog envGb 0 43 args H (v, H) := by
  unfold B_envGc_43 at h
  split at h
  · cases h; exact heapN_ok (tc_gives _ _ _ _ _ _ _ _)
  · cases h
def B_envGc_95 (args : List Value) : Option (Heap × Value) :=
    match args with
    | [(.agg ⟨[(.int .i64 (x0)), (.int .i64 (x1)), (.int .i64 (x2)), (.int .i64 (x3)), (.int .i64 (x4)), (.int .i64 (x5)), (.int .i64 (x6)), (.int .i64 (x7))]⟩), (.int .i64 (-1))] => some (heap0, (.agg #[(.int .i64 (sN_r0 x0 x1 x2 x3 x4 x5 x6 x7)), (.int .i64 (sN_r1 x0 x1 x2 x3 x4 x5 x6 x7)), (.int .i64 (sN_r2 x0 x1 x2 x3 x4 x5 x6 x7)), (.int .i64 (sN_r3 x0 x1 x2 x3 x4 x5 x6 x7)), (.int .i64 (sN_r4 x0 x1 x2 x3 x4 x5 x6 x7)), (.int .i64 (sN_r5 x0 x1 x2 x3 x4 x5 x6 x7)), (.int .i64 (sN_r6 x0 x1 x2 x3 x4 x5 x6 x7)), (.int .i64 (sN_r7 x0 x1 x2 x3 x4 x5 x6 x7))]))
    | [(.agg ⟨[(.int .i64 (x0)), (.int .i64 (x1)), (.int .i64 (x2)), (.int .i64 (x3)), (.int .i64 (x4)), (.int .i64 (x5)), (.int .i64 (x6)), (.int .i64 (x7))]⟩), (.int .i64 (1))] => some (heap0, (.agg #[(.int .i64 (sP_r0 x0 x1 x2 x3 x4 x5 x6 x7)), (.int .i64 (sP_r1 x0 x1 x2 x3 x4 x5 x6 x7)), (.int .i64 (sP_r2 x0 x1 x2 x3 x4 x5 x6 x7)), (.int .i64 (sP_r3 x0 x1 x2 x3 x4 x5 x6 x7)), (.int .i64 (sP_r4 x0 x1 x2 x3 x4 x5 x6 x7)), (.int .i64 (sP_r5 x0 x1 x2 x3 x4 x5 x6 x7)), (.int .i64 (sP_r6 x0 x1 x2 x3 x4 x5 x6 x7)), (.int .i64 (sP_r7 x0 x1 x2 x3 x4 x5 x6 x7))]))
    | _ => none
theorem B_envGc_95_ok {args : List Value} {H : Heap} {v : Value} (h : B_envGc_95 args = some (H, v)) : 8 ≤ H.length ∧ H.all tableRow = true ∧ Gives Tryz.prog envGb 0 95 args H (v, H) := by
  unfold B_envGc_95 at h
  split at h
  · cases h; exact heap0_ok (sN_gives _ _ _ _ _ _ _ _)
  · cases h; exact heap0_ok (sP_gives _ _ _ _ _ _ _ _)
  · cases h
def B_envGc (f : FuncId) (args : List Value) : Option (Heap × Value) :=
  if f == 94 then B_envGc_94 args else
  if f == 43 then B_envGc_43 args else
  if f == 95 then B_envGc_95 args else
  none
noncomputable def envGc : Env := envGb.with (baseKnown B_envGc)
theorem envGc_ok : EnvOK Tryz.prog 8 envGc := env_base prog_ok envGb_ok fun f args H v h => by
  unfold B_envGc at h
  split at h
  · rename_i hf
    have hf : f = 94 := by simpa using hf
    subst hf
    exact B_envGc_94_ok h
  · skip
    split at h
    · rename_i hf
      have hf : f = 43 := by simpa using hf
      subst hf
      exact B_envGc_43_ok h
    · skip
      split at h
      · rename_i hf
        have hf : f = 95 := by simpa using hf
        subst hf
        exact B_envGc_95_ok h
      · skip
        cases h
/-
What functions give.
-/
def ha_c0 (x0 x1 x2 x3 x4 x5 x6 x7 : Int) : Bool := cv_r0 x0 x1 x2 x3 x4 x5 x6 x7 != 0
theorem ha_p0 (x0 x1 x2 x3 x4 x5 x6 x7 : Int) (h0 : ha_c0 x0 x1 x2 x3 x4 x5 x6 x7 = true) : Gives Tryz.prog envGc 0 41 [(.agg #[I x0, I x1, I x2, I x3, I x4, I x5, I x6, I x7])] heap0 ((.tuple #[(.agg #[I 0, I 0, I 0, I 0, I 0, I 0, I 0, I 0]), (I (cv_r0 x0 x1 x2 x3 x4 x5 x6 x7))]), heap0) :=
  Gives.by (n := 1000) (os := [.br 41 18 true]) (os' := []) (by kernel_rfl) (ObsOK.cond h0 (ObsOK.nil))
theorem ha_p1 (x0 x1 x2 x3 x4 x5 x6 x7 : Int) (h0 : ha_c0 x0 x1 x2 x3 x4 x5 x6 x7 = false) : Gives Tryz.prog envGc 0 41 [(.agg #[I x0, I x1, I x2, I x3, I x4, I x5, I x6, I x7])] heap0 ((.tuple #[(.agg #[(I (sN_r0 x0 x1 x2 x3 x4 x5 x6 x7)), (I (sN_r1 x0 x1 x2 x3 x4 x5 x6 x7)), (I (sN_r2 x0 x1 x2 x3 x4 x5 x6 x7)), (I (sN_r3 x0 x1 x2 x3 x4 x5 x6 x7)), (I (sN_r4 x0 x1 x2 x3 x4 x5 x6 x7)), (I (sN_r5 x0 x1 x2 x3 x4 x5 x6 x7)), (I (sN_r6 x0 x1 x2 x3 x4 x5 x6 x7)), (I (sN_r7 x0 x1 x2 x3 x4 x5 x6 x7))]), I 0]), heap0) :=
  Gives.by (n := 1000) (os := [.br 41 18 false]) (os' := []) (by kernel_rfl) (ObsOK.cond h0 (ObsOK.nil))
def ha_r0 (x0 x1 x2 x3 x4 x5 x6 x7 : Int) : Int := (cond (ha_c0 x0 x1 x2 x3 x4 x5 x6 x7) (0) (sN_r0 x0 x1 x2 x3 x4 x5 x6 x7))
def ha_r1 (x0 x1 x2 x3 x4 x5 x6 x7 : Int) : Int := (cond (ha_c0 x0 x1 x2 x3 x4 x5 x6 x7) (0) (sN_r1 x0 x1 x2 x3 x4 x5 x6 x7))
def ha_r2 (x0 x1 x2 x3 x4 x5 x6 x7 : Int) : Int := (cond (ha_c0 x0 x1 x2 x3 x4 x5 x6 x7) (0) (sN_r2 x0 x1 x2 x3 x4 x5 x6 x7))
def ha_r3 (x0 x1 x2 x3 x4 x5 x6 x7 : Int) : Int := (cond (ha_c0 x0 x1 x2 x3 x4 x5 x6 x7) (0) (sN_r3 x0 x1 x2 x3 x4 x5 x6 x7))
def ha_r4 (x0 x1 x2 x3 x4 x5 x6 x7 : Int) : Int := (cond (ha_c0 x0 x1 x2 x3 x4 x5 x6 x7) (0) (sN_r4 x0 x1 x2 x3 x4 x5 x6 x7))
def ha_r5 (x0 x1 x2 x3 x4 x5 x6 x7 : Int) : Int := (cond (ha_c0 x0 x1 x2 x3 x4 x5 x6 x7) (0) (sN_r5 x0 x1 x2 x3 x4 x5 x6 x7))
def ha_r6 (x0 x1 x2 x3 x4 x5 x6 x7 : Int) : Int := (cond (ha_c0 x0 x1 x2 x3 x4 x5 x6 x7) (0) (sN_r6 x0 x1 x2 x3 x4 x5 x6 x7))
def ha_r7 (x0 x1 x2 x3 x4 x5 x6 x7 : Int) : Int := (cond (ha_c0 x0 x1 x2 x3 x4 x5 x6 x7) (0) (sN_r7 x0 x1 x2 x3 x4 x5 x6 x7))
def ha_r8 (x0 x1 x2 x3 x4 x5 x6 x7 : Int) : Int := (cond (ha_c0 x0 x1 x2 x3 x4 x5 x6 x7) (cv_r0 x0 x1 x2 x3 x4 x5 x6 x7) (0))
theorem ha_gives (x0 x1 x2 x3 x4 x5 x6 x7 : Int) : Gives Tryz.prog envGc 0 41 [(.agg #[I x0, I x1, I x2, I x3, I x4, I x5, I x6, I x7])] heap0 ((.tuple #[(.agg #[(I (ha_r0 x0 x1 x2 x3 x4 x5 x6 x7)), (I (ha_r1 x0 x1 x2 x3 x4 x5 x6 x7)), (I (ha_r2 x0 x1 x2 x3 x4 x5 x6 x7)), (I (ha_r3 x0 x1 x2 x3 x4 x5 x6 x7)), (I (ha_r4 x0 x1 x2 x3 x4 x5 x6 x7)), (I (ha_r5 x0 x1 x2 x3 x4 x5 x6 x7)), (I (ha_r6 x0 x1 x2 x3 x4 x5 x6 x7)), (I (ha_r7 x0 x1 x2 x3 x4 x5 x6 x7))]), (I (ha_r8 x0 x1 x2 x3 x4 x5 x6 x7))]), heap0) := by
  cases g0 : ha_c0 x0 x1 x2 x3 x4 x5 x6 x7
  · skip
    simp only [ha_r0, ha_r1, ha_r2, ha_r3, ha_r4, ha_r5, ha_r6, ha_r7, ha_r8, g0, cond_true, cond_false]; exact ha_p1 x0 x1 x2 x3 x4 x5 x6 x7 g0
  · skip
    simp only [ha_r0, ha_r1, ha_r2, ha_r3, ha_r4, ha_r5, ha_r6, ha_r7, ha_r8, g0, cond_true, cond_false]; exact ha_p0 x0 x1 x2 x3 x4 x5 x6 x7 g0
def ba_c0 (x0 x1 x2 x3 x4 x5 x6 x7 : Int) : Bool := cv_r0 x0 x1 x2 x3 x4 x5 x6 x7 != 0
def ba_c1 (x0 x1 x2 x3 x4 x5 x6 x7 : Int) : Bool := !(sN_r0 (IntKind.i64.wrap ((sP_r0 x0 x1 x2 x3 x4 x5 x6 x7).tdiv 4)) (IntKind.i64.wrap ((sP_r1 x0 x1 x2 x3 x4 x5 x6 x7).tdiv 4)) (IntKind.i64.wrap ((sP_r2 x0 x1 x2 x3 x4 x5 x6 x7).tdiv 4)) (IntKind.i64.wrap ((sP_r3 x0 x1 x2 x3 x4 x5 x6 x7).tdiv 4)) (IntKind.i64.wrap ((sP_r4 x0 x1 x2 x3 x4 x5 x6 x7).tdiv 4)) (IntKind.i64.wrap ((sP_r5 x0 x1 x2 x3 x4 x5 x6 x7).tdiv 4)) (IntKind.i64.wrap ((sP_r6 x0 x1 x2 x3 x4 x5 x6 x7).tdiv 4)) (IntKind.i64.wrap ((sP_r7 x0 x1 x2 x3 x4 x5 x6 x7).tdiv 4)) == x0 && (sN_r1 (IntKind.i64.wrap ((sP_r0 x0 x1 x2 x3 x4 x5 x6 x7).tdiv 4)) (IntKind.i64.wrap ((sP_r1 x0 x1 x2 x3 x4 x5 x6 x7).tdiv 4)) (IntKind.i64.wrap ((sP_r2 x0 x1 x2 x3 x4 x5 x6 x7).tdiv 4)) (IntKind.i64.wrap ((sP_r3 x0 x1 x2 x3 x4 x5 x6 x7).tdiv 4)) (IntKind.i64.wrap ((sP_r4 x0 x1 x2 x3 x4 x5 x6 x7).tdiv 4)) (IntKind.i64.wrap ((sP_r5 x0 x1 x2 x3 x4 x5 x6 x7).tdiv 4)) (IntKind.i64.wrap ((sP_r6 x0 x1 x2 x3 x4 x5 x6 x7).tdiv 4)) (IntKind.i64.wrap ((sP_r7 x0 x1 x2 x3 x4 x5 x6 x7).tdiv 4)) == x1 && true) && (sN_r2 (IntKind.i64.wrap ((sP_r0 x0 x1 x2 x3 x4 x5 x6 x7).tdiv 4)) (IntKind.i64.wrap ((sP_r1 x0 x1 x2 x3 x4 x5 x6 x7).tdiv 4)) (IntKind.i64.wrap ((sP_r2 x0 x1 x2 x3 x4 x5 x6 x7).tdiv 4)) (IntKind.i64.wrap ((sP_r3 x0 x1 x2 x3 x4 x5 x6 x7).tdiv 4)) (IntKind.i64.wrap ((sP_r4 x0 x1 x2 x3 x4 x5 x6 x7).tdiv 4)) (IntKind.i64.wrap ((sP_r5 x0 x1 x2 x3 x4 x5 x6 x7).tdiv 4)) (IntKind.i64.wrap ((sP_r6 x0 x1 x2 x3 x4 x5 x6 x7).tdiv 4)) (IntKind.i64.wrap ((sP_r7 x0 x1 x2 x3 x4 x5 x6 x7).tdiv 4)) == x2 && (sN_r3 (IntKind.i64.wrap ((sP_r0 x0 x1 x2 x3 x4 x5 x6 x7).tdiv 4)) (IntKind.i64.wrap ((sP_r1 x0 x1 x2 x3 x4 x5 x6 x7).tdiv 4)) (IntKind.i64.wrap ((sP_r2 x0 x1 x2 x3 x4 x5 x6 x7).tdiv 4)) (IntKind.i64.wrap ((sP_r3 x0 x1 x2 x3 x4 x5 x6 x7).tdiv 4)) (IntKind.i64.wrap ((sP_r4 x0 x1 x2 x3 x4 x5 x6 x7).tdiv 4)) (IntKind.i64.wrap ((sP_r5 x0 x1 x2 x3 x4 x5 x6 x7).tdiv 4)) (IntKind.i64.wrap ((sP_r6 x0 x1 x2 x3 x4 x5 x6 x7).tdiv 4)) (IntKind.i64.wrap ((sP_r7 x0 x1 x2 x3 x4 x5 x6 x7).tdiv 4)) == x3 && true) && (sN_r4 (IntKind.i64.wrap ((sP_r0 x0 x1 x2 x3 x4 x5 x6 x7).tdiv 4)) (IntKind.i64.wrap ((sP_r1 x0 x1 x2 x3 x4 x5 x6 x7).tdiv 4)) (IntKind.i64.wrap ((sP_r2 x0 x1 x2 x3 x4 x5 x6 x7).tdiv 4)) (IntKind.i64.wrap ((sP_r3 x0 x1 x2 x3 x4 x5 x6 x7).tdiv 4)) (IntKind.i64.wrap ((sP_r4 x0 x1 x2 x3 x4 x5 x6 x7).tdiv 4)) (IntKind.i64.wrap ((sP_r5 x0 x1 x2 x3 x4 x5 x6 x7).tdiv 4)) (IntKind.i64.wrap ((sP_r6 x0 x1 x2 x3 x4 x5 x6 x7).tdiv 4)) (IntKind.i64.wrap ((sP_r7 x0 x1 x2 x3 x4 x5 x6 x7).tdiv 4)) == x4 && (sN_r5 (IntKind.i64.wrap ((sP_r0 x0 x1 x2 x3 x4 x5 x6 x7).tdiv 4)) (IntKind.i64.wrap ((sP_r1 x0 x1 x2 x3 x4 x5 x6 x7).tdiv 4)) (IntKind.i64.wrap ((sP_r2 x0 x1 x2 x3 x4 x5 x6 x7).tdiv 4)) (IntKind.i64.wrap ((sP_r3 x0 x1 x2 x3 x4 x5 x6 x7).tdiv 4)) (IntKind.i64.wrap ((sP_r4 x0 x1 x2 x3 x4 x5 x6 x7).tdiv 4)) (IntKind.i64.wrap ((sP_r5 x0 x1 x2 x3 x4 x5 x6 x7).tdiv 4)) (IntKind.i64.wrap ((sP_r6 x0 x1 x2 x3 x4 x5 x6 x7).tdiv 4)) (IntKind.i64.wrap ((sP_r7 x0 x1 x2 x3 x4 x5 x6 x7).tdiv 4)) == x5 && true) && (sN_r6 (IntKind.i64.wrap ((sP_r0 x0 x1 x2 x3 x4 x5 x6 x7).tdiv 4)) (IntKind.i64.wrap ((sP_r1 x0 x1 x2 x3 x4 x5 x6 x7).tdiv 4)) (IntKind.i64.wrap ((sP_r2 x0 x1 x2 x3 x4 x5 x6 x7).tdiv 4)) (IntKind.i64.wrap ((sP_r3 x0 x1 x2 x3 x4 x5 x6 x7).tdiv 4)) (IntKind.i64.wrap ((sP_r4 x0 x1 x2 x3 x4 x5 x6 x7).tdiv 4)) (IntKind.i64.wrap ((sP_r5 x0 x1 x2 x3 x4 x5 x6 x7).tdiv 4)) (IntKind.i64.wrap ((sP_r6 x0 x1 x2 x3 x4 x5 x6 x7).tdiv 4)) (IntKind.i64.wrap ((sP_r7 x0 x1 x2 x3 x4 x5 x6 x7).tdiv 4)) == x6 && (sN_r7 (IntKind.i64.wrap ((sP_r0 x0 x1 x2 x3 x4 x5 x6 x7).tdiv 4)) (IntKind.i64.wrap ((sP_r1 x0 x1 x2 x3 x4 x5 x6 x7).tdiv 4)) (IntKind.i64.wrap ((sP_r2 x0 x1 x2 x3 x4 x5 x6 x7).tdiv 4)) (IntKind.i64.wrap ((sP_r3 x0 x1 x2 x3 x4 x5 x6 x7).tdiv 4)) (IntKind.i64.wrap ((sP_r4 x0 x1 x2 x3 x4 x5 x6 x7).tdiv 4)) (IntKind.i64.wrap ((sP_r5 x0 x1 x2 x3 x4 x5 x6 x7).tdiv 4)) (IntKind.i64.wrap ((sP_r6 x0 x1 x2 x3 x4 x5 x6 x7).tdiv 4)) (IntKind.i64.wrap ((sP_r7 x0 x1 x2 x3 x4 x5 x6 x7).tdiv 4)) == x7 && true) && true))))
theorem ba_p0 (x0 x1 x2 x3 x4 x5 x6 x7 : Int) (h0 : ba_c0 x0 x1 x2 x3 x4 x5 x6 x7 = true) : Gives Tryz.prog envGc 0 42 [(.agg #[I x0, I x1, I x2, I x3, I x4, I x5, I x6, I x7])] heap0 ((.tuple #[(.agg #[I 0, I 0, I 0, I 0, I 0, I 0, I 0, I 0]), (I (cv_r0 x0 x1 x2 x3 x4 x5 x6 x7))]), heap0) :=
  Gives.by (n := 1000) (os := [.br 42 24 true]) (os' := []) (by kernel_rfl) (ObsOK.cond h0 (ObsOK.nil))
theorem ba_p1 (x0 x1 x2 x3 x4 x5 x6 x7 : Int) (h0 : ba_c0 x0 x1 x2 x3 x4 x5 x6 x7 = false) (h1 : ba_c1 x0 x1 x2 x3 x4 x5 x6 x7 = true) : Gives Tryz.prog envGc 0 42 [(.agg #[I x0, I x1, I x2, I x3, I x4, I x5, I x6, I x7])] heap0 ((.tuple #[(.agg #[I 0, I 0, I 0, I 0, I 0, I 0, I 0, I 0]), I 30]), heap0) :=
  Gives.by (n := 1000) (os := [.br 42 24 false, .br 42 68 true]) (os' := []) (by kernel_rfl) (ObsOK.cond h0 (ObsOK.cond h1 (ObsOK.nil)))
theorem ba_p2 (x0 x1 x2 x3 x4 x5 x6 x7 : Int) (h0 : ba_c0 x0 x1 x2 x3 x4 x5 x6 x7 = false) (h1 : ba_c1 x0 x1 x2 x3 x4 x5 x6 x7 = false) : Gives Tryz.prog envGc 0 42 [(.agg #[I x0, I x1, I x2, I x3, I x4, I x5, I x6, I x7])] heap0 ((.tuple #[(.agg #[(I (IntKind.i64.wrap ((sP_r0 x0 x1 x2 x3 x4 x5 x6 x7).tdiv 4))), (I (IntKind.i64.wrap ((sP_r1 x0 x1 x2 x3 x4 x5 x6 x7).tdiv 4))), (I (IntKind.i64.wrap ((sP_r2 x0 x1 x2 x3 x4 x5 x6 x7).tdiv 4))), (I (IntKind.i64.wrap ((sP_r3 x0 x1 x2 x3 x4 x5 x6 x7).tdiv 4))), (I (IntKind.i64.wrap ((sP_r4 x0 x1 x2 x3 x4 x5 x6 x7).tdiv 4))), (I (IntKind.i64.wrap ((sP_r5 x0 x1 x2 x3 x4 x5 x6 x7).tdiv 4))), (I (IntKind.i64.wrap ((sP_r6 x0 x1 x2 x3 x4 x5 x6 x7).tdiv 4))), (I (IntKind.i64.wrap ((sP_r7 x0 x1 x2 x3 x4 x5 x6 x7).tdiv 4)))]), I 0]), heap0) :=
  Gives.by (n := 1000) (os := [.br 42 24 false, .br 42 68 false]) (os' := []) (by kernel_rfl) (ObsOK.cond h0 (ObsOK.cond h1 (ObsOK.nil)))
def ba_r0 (x0 x1 x2 x3 x4 x5 x6 x7 : Int) : Int := (cond (ba_c0 x0 x1 x2 x3 x4 x5 x6 x7) (0) (cond (ba_c1 x0 x1 x2 x3 x4 x5 x6 x7) (0) (IntKind.i64.wrap ((sP_r0 x0 x1 x2 x3 x4 x5 x6 x7).tdiv 4))))
def ba_r1 (x0 x1 x2 x3 x4 x5 x6 x7 : Int) : Int := (cond (ba_c0 x0 x1 x2 x3 x4 x5 x6 x7) (0) (cond (ba_c1 x0 x1 x2 x3 x4 x5 x6 x7) (0) (IntKind.i64.wrap ((sP_r1 x0 x1 x2 x3 x4 x5 x6 x7).tdiv 4))))
def ba_r2 (x0 x1 x2 x3 x4 x5 x6 x7 : Int) : Int := (cond (ba_c0 x0 x1 x2 x3 x4 x5 x6 x7) (0) (cond (ba_c1 x0 x1 x2 x3 x4 x5 x6 x7) (0) (IntKind.i64.wrap ((sP_r2 x0 x1 x2 x3 x4 x5 x6 x7).tdiv 4))))
def ba_r3 (x0 x1 x2 x3 x4 x5 x6 x7 : Int) : Int := (cond (ba_c0 x0 x1 x2 x3 x4 x5 x6 x7) (0) (cond (ba_c1 x0 x1 x2 x3 x4 x5 x6 x7) (0) (IntKind.i64.wrap ((sP_r3 x0 x1 x2 x3 x4 x5 x6 x7).tdiv 4))))
def ba_r4 (x0 x1 x2 x3 x4 x5 x6 x7 : Int) : Int := (cond (ba_c0 x0 x1 x2 x3 x4 x5 x6 x7) (0) (cond (ba_c1 x0 x1 x2 x3 x4 x5 x6 x7) (0) (IntKind.i64.wrap ((sP_r4 x0 x1 x2 x3 x4 x5 x6 x7).tdiv 4))))
def ba_r5 (x0 x1 x2 x3 x4 x5 x6 x7 : Int) : Int := (cond (ba_c0 x0 x1 x2 x3 x4 x5 x6 x7) (0) (cond (ba_c1 x0 x1 x2 x3 x4 x5 x6 x7) (0) (IntKind.i64.wrap ((sP_r5 x0 x1 x2 x3 x4 x5 x6 x7).tdiv 4))))
def ba_r6 (x0 x1 x2 x3 x4 x5 x6 x7 : Int) : Int := (cond (ba_c0 x0 x1 x2 x3 x4 x5 x6 x7) (0) (cond (ba_c1 x0 x1 x2 x3 x4 x5 x6 x7) (0) (IntKind.i64.wrap ((sP_r6 x0 x1 x2 x3 x4 x5 x6 x7).tdiv 4))))
def ba_r7 (x0 x1 x2 x3 x4 x5 x6 x7 : Int) : Int := (cond (ba_c0 x0 x1 x2 x3 x4 x5 x6 x7) (0) (cond (ba_c1 x0 x1 x2 x3 x4 x5 x6 x7) (0) (IntKind.i64.wrap ((sP_r7 x0 x1 x2 x3 x4 x5 x6 x7).tdiv 4))))
def ba_r8 (x0 x1 x2 x3 x4 x5 x6 x7 : Int) : Int := (cond (ba_c0 x0 x1 x2 x3 x4 x5 x6 x7) (cv_r0 x0 x1 x2 x3 x4 x5 x6 x7) (cond (ba_c1 x0 x1 x2 x3 x4 x5 x6 x7) (30) (0)))
theorem ba_gives (x0 x1 x2 x3 x4 x5 x6 x7 : Int) : Gives Tryz.prog envGc 0 42 [(.agg #[I x0, I x1, I x2, I x3, I x4, I x5, I x6, I x7])] heap0 ((.tuple #[(.agg #[(I (ba_r0 x0 x1 x2 x3 x4 x5 x6 x7)), (I (ba_r1 x0 x1 x2 x3 x4 x5 x6 x7)), (I (ba_r2 x0 x1 x2 x3 x4 x5 x6 x7)), (I (ba_r3 x0 x1 x2 x3 x4 x5 x6 x7)), (I (ba_r4 x0 x1 x2 x3 x4 x5 x6 x7)), (I (ba_r5 x0 x1 x2 x3 x4 x5 x6 x7)), (I (ba_r6 x0 x1 x2 x3 x4 x5 x6 x7)), (I (ba_r7 x0 x1 x2 x3 x4 x5 x6 x7))]), (I (ba_r8 x0 x1 x2 x3 x4 x5 x6 x7))]), heap0) := by
  cases g0 : ba_c0 x0 x1 x2 x3 x4 x5 x6 x7
  · skip
    cases g1 : ba_c1 x0 x1 x2 x3 x4 x5 x6 x7
    · skip
      simp only [ba_r0, ba_r1, ba_r2, ba_r3, ba_r4, ba_r5, ba_r6, ba_r7, ba_r8, g0, g1, cond_true, cond_false]; exact ba_p2 x0 x1 x2 x3 x4 x5 x6 x7 g0 g1
    · skip
      simp only [ba_r0, ba_r1, ba_r2, ba_r3, ba_r4, ba_r5, ba_r6, ba_r7, ba_r8, g0, g1, cond_true, cond_false]; exact ba_p1 x0 x1 x2 x3 x4 x5 x6 x7 g0 g1
  · skip
    simp only [ba_r0, ba_r1, ba_r2, ba_r3, ba_r4, ba_r5, ba_r6, ba_r7, ba_r8, g0, cond_true, cond_false]; exact ba_p0 x0 x1 x2 x3 x4 x5 x6 x7 g0
theorem rsN_p0 (x0 x1 x2 x3 x4 x5 x6 x7 : Int) : Gives Tryz.prog envGc 0 96 [(.agg #[I x0, I x1, I x2, I x3, I x4, I x5, I x6, I x7]), (I (-1))] heapN ((.agg #[(I (IntKind.i64.wrap (IntKind.i64.wrap (IntKind.i64.wrap (IntKind.i64.wrap (0 + x0) + x2) + x4) + x6))), (I (IntKind.i64.wrap (IntKind.i64.wrap (IntKind.i64.wrap (IntKind.i64.wrap (0 + x1) + x3) + x5) + x7))), (I (IntKind.i64.wrap (IntKind.i64.wrap (IntKind.i64.wrap (IntKind.i64.wrap (0 + x0) + IntKind.i64.wrap (0 - IntKind.i64.wrap (0 - x3))) + IntKind.i64.wrap (0 - x4)) + IntKind.i64.wrap (0 - x7)))), (I (IntKind.i64.wrap (IntKind.i64.wrap (IntKind.i64.wrap (IntKind.i64.wrap (0 + x1) + IntKind.i64.wrap (0 - x2)) + IntKind.i64.wrap (0 - x5)) + x6))), (I (IntKind.i64.wrap (IntKind.i64.wrap (IntKind.i64.wrap (IntKind.i64.wrap (0 + x0) + IntKind.i64.wrap (0 - x2)) + x4) + IntKind.i64.wrap (0 - x6)))), (I (IntKind.i64.wrap (IntKind.i64.wrap (IntKind.i64.wrap (IntKind.i64.wrap (0 + x1) + IntKind.i64.wrap (0 - x3)) + x5) + IntKind.i64.wrap (0 - x7)))), (I (IntKind.i64.wrap (IntKind.i64.wrap (IntKind.i64.wrap (IntKind.i64.wrap (0 + x0) + IntKind.i64.wrap (0 - x3)) + IntKind.i64.wrap (0 - x4)) + IntKind.i64.wrap (0 - IntKind.i64.wrap (0 - x7))))), (I (IntKind.i64.wrap (IntKind.i64.wrap (IntKind.i64.wrap (IntKind.i64.wrap (0 + x1) + x2) + IntKind.i64.wrap (0 - x5)) + IntKind.i64.wrap (0 - x6))))]), heapN) :=
  Gives.by (n := 1000) (os := []) (os' := []) (by kernel_rfl) (ObsOK.nil)
def rsN_r0 (x0 x1 x2 x3 x4 x5 x6 x7 : Int) : Int := (IntKind.i64.wrap (IntKind.i64.wrap (IntKind.i64.wrap (IntKind.i64.wrap (0 + x0) + x2) + x4) + x6))
def rsN_r1 (x0 x1 x2 x3 x4 x5 x6 x7 : Int) : Int := (IntKind.i64.wrap (IntKind.i64.wrap (IntKind.i64.wrap (IntKind.i64.wrap (0 + x1) + x3) + x5) + x7))
def rsN_r2 (x0 x1 x2 x3 x4 x5 x6 x7 : Int) : Int := (IntKind.i64.wrap (IntKind.i64.wrap (IntKind.i64.wrap (IntKind.i64.wrap (0 + x0) + IntKind.i64.wrap (0 - IntKind.i64.wrap (0 - x3))) + IntKind.i64.wrap (0 - x4)) + IntKind.i64.wrap (0 - x7)))
def rsN_r3 (x0 x1 x2 x3 x4 x5 x6 x7 : Int) : Int := (IntKind.i64.wrap (IntKind.i64.wrap (IntKind.i64.wrap (IntKind.i64.wrap (0 + x1) + IntKind.i64.wrap (0 - x2)) + IntKind.i64.wrap (0 - x5)) + x6))
def rsN_r4 (x0 x1 x2 x3 x4 x5 x6 x7 : Int) : Int := (IntKind.i64.wrap (IntKind.i64.wrap (IntKind.i64.wrap (IntKind.i64.wrap (0 + x0) + IntKind.i64.wrap (0 - x2)) + x4) + IntKind.i64.wrap (0 - x6)))
def rsN_r5 (x0 x1 x2 x3 x4 x5 x6 x7 : Int) : Int := (IntKind.i64.wrap (IntKind.i64.wrap (IntKind.i64.wrap (IntKind.i64.wrap (0 + x1) + IntKind.i64.wrap (0 - x3)) + x5) + IntKind.i64.wrap (0 - x7)))
def rsN_r6 (x0 x1 x2 x3 x4 x5 x6 x7 : Int) : Int := (IntKind.i64.wrap (IntKind.i64.wrap (IntKind.i64.wrap (IntKind.i64.wrap (0 + x0) + IntKind.i64.wrap (0 - x3)) + IntKind.i64.wrap (0 - x4)) + IntKind.i64.wrap (0 - IntKind.i64.wrap (0 - x7))))
def rsN_r7 (x0 x1 x2 x3 x4 x5 x6 x7 : Int) : Int := (IntKind.i64.wrap (IntKind.i64.wrap (IntKind.i64.wrap (IntKind.i64.wrap (0 + x1) + x2) + IntKind.i64.wrap (0 - x5)) + IntKind.i64.wrap (0 - x6)))
theorem rsN_gives (x0 x1 x2 x3 x4 x5 x6 x7 : Int) : Gives Tryz.prog envGc 0 96 [(.agg #[I x0, I x1, I x2, I x3, I x4, I x5, I x6, I x7]), (I (-1))] heapN ((.agg #[(I (rsN_r0 x0 x1 x2 x3 x4 x5 x6 x7)), (I (rsN_r1 x0 x1 x2 x3 x4 x5 x6 x7)), (I (rsN_r2 x0 x1 x2 x3 x4 x5 x6 x7)), (I (rsN_r3 x0 x1 x2 x3 x4 x5 x6 x7)), (I (rsN_r4 x0 x1 x2 x3 x4 x5 x6 x7)), (I (rsN_r5 x0 x1 x2 x3 x4 x5 x6 x7)), (I (rsN_r6 x0 x1 x2 x3 x4 x5 x6 x7)), (I (rsN_r7 x0 x1 x2 x3 x4 x5 x6 x7))]), heapN) := by
  simp only [rsN_r0, rsN_r1, rsN_r2, rsN_r3, rsN_r4, rsN_r5, rsN_r6, rsN_r7, cond_true, cond_false]; exact rsN_p0 x0 x1 x2 x3 x4 x5 x6 x7
theorem rsP_p0 (x0 x1 x2 x3 x4 x5 x6 x7 : Int) : Gives Tryz.prog envGc 0 96 [(.agg #[I x0, I x1, I x2, I x3, I x4, I x5, I x6, I x7]), I 1] heapN ((.agg #[(I (IntKind.i64.wrap (IntKind.i64.wrap (IntKind.i64.wrap (IntKind.i64.wrap (0 + x0) + x2) + x4) + x6))), (I (IntKind.i64.wrap (IntKind.i64.wrap (IntKind.i64.wrap (IntKind.i64.wrap (0 + x1) + x3) + x5) + x7))), (I (IntKind.i64.wrap (IntKind.i64.wrap (IntKind.i64.wrap (IntKind.i64.wrap (0 + x0) + IntKind.i64.wrap (0 - x3)) + IntKind.i64.wrap (0 - x4)) + IntKind.i64.wrap (0 - IntKind.i64.wrap (0 - x7))))), (I (IntKind.i64.wrap (IntKind.i64.wrap (IntKind.i64.wrap (IntKind.i64.wrap (0 + x1) + x2) + IntKind.i64.wrap (0 - x5)) + IntKind.i64.wrap (0 - x6)))), (I (IntKind.i64.wrap (IntKind.i64.wrap (IntKind.i64.wrap (IntKind.i64.wrap (0 + x0) + IntKind.i64.wrap (0 - x2)) + x4) + IntKind.i64.wrap (0 - x6)))), (I (IntKind.i64.wrap (IntKind.i64.wrap (IntKind.i64.wrap (IntKind.i64.wrap (0 + x1) + IntKind.i64.wrap (0 - x3)) + x5) + IntKind.i64.wrap (0 - x7)))), (I (IntKind.i64.wrap (IntKind.i64.wrap (IntKind.i64.wrap (IntKind.i64.wrap (0 + x0) + IntKind.i64.wrap (0 - IntKind.i64.wrap (0 - x3))) + IntKind.i64.wrap (0 - x4)) + IntKind.i64.wrap (0 - x7)))), (I (IntKind.i64.wrap (IntKind.i64.wrap (IntKind.i64.wrap (IntKind.i64.wrap (0 + x1) + IntKind.i64.wrap (0 - x2)) + IntKind.i64.wrap (0 - x5)) + x6)))]), heapN) :=
  Gives.by (n := 1000) (os := []) (os' := []) (by kernel_rfl) (ObsOK.nil)
def rsP_r0 (x0 x1 x2 x3 x4 x5 x6 x7 : Int) : Int := (IntKind.i64.wrap (IntKind.i64.wrap (IntKind.i64.wrap (IntKind.i64.wrap (0 + x0) + x2) + x4) + x6))
def rsP_r1 (x0 x1 x2 x3 x4 x5 x6 x7 : Int) : Int := (IntKind.i64.wrap (IntKind.i64.wrap (IntKind.i64.wrap (IntKind.i64.wrap (0 + x1) + x3) + x5) + x7))
def rsP_r2 (x0 x1 x2 x3 x4 x5 x6 x7 : Int) : Int := (IntKind.i64.wrap (IntKind.i64.wrap (IntKind.i64.wrap (IntKind.i64.wrap (0 + x0) + IntKind.i64.wrap (0 - x3)) + IntKind.i64.wrap (0 - x4)) + IntKind.i64.wrap (0 - IntKind.i64.wrap (0 - x7))))
def rsP_r3 (x0 x1 x2 x3 x4 x5 x6 x7 : Int) : Int := (IntKind.i64.wrap (IntKind.i64.wrap (IntKind.i64.wrap (IntKind.i64.wrap (0 + x1) + x2) + IntKind.i64.wrap (0 - x5)) + IntKind.i64.wrap (0 - x6)))
def rsP_r4 (x0 x1 x2 x3 x4 x5 x6 x7 : Int) : Int := (IntKind.i64.wrap (IntKind.i64.wrap (IntKind.i64.wrap (IntKind.i64.wrap (0 + x0) + IntKind.i64.wrap (0 - x2)) + x4) + IntKind.i64.wrap (0 - x6)))
def rsP_r5 (x0 x1 x2 x3 x4 x5 x6 x7 : Int) : Int := (IntKind.i64.wrap (IntKind.i64.wrap (IntKind.i64.wrap (IntKind.i64.wrap (0 + x1) + IntKind.i64.wrap (0 - x3)) + x5) + IntKind.i64.wrap (0 - x7)))
def rsP_r6 (x0 x1 x2 x3 x4 x5 x6 x7 : Int) : Int := (IntKind.i64.wrap (IntKind.i64.wrap (IntKind.i64.wrap (IntKind.i64.wrap (0 + x0) + IntKind.i64.wrap (0 - IntKind.i64.wrap (0 - x3))) + IntKind.i64.wrap (0 - x4)) + IntKind.i64.wrap (0 - x7)))
def rsP_r7 (x0 x1 x2 x3 x4 x5 x6 x7 : Int) : Int := (IntKind.i64.wrap (IntKind.i64.wrap (IntKind.i64.wrap (IntKind.i64.wrap (0 + x1) + IntKind.i64.wrap (0 - x2)) + IntKind.i64.wrap (0 - x5)) + x6))
theorem rsP_gives (x0 x1 x2 x3 x4 x5 x6 x7 : Int) : Gives Tryz.prog envGc 0 96 [(.agg #[I x0, I x1, I x2, I x3, I x4, I x5, I x6, I x7]), I 1] heapN ((.agg #[(I (rsP_r0 x0 x1 x2 x3 x4 x5 x6 x7)), (I (rsP_r1 x0 x1 x2 x3 x4 x5 x6 x7)), (I (rsP_r2 x0 x1 x2 x3 x4 x5 x6 x7)), (I (rsP_r3 x0 x1 x2 x3 x4 x5 x6 x7)), (I (rsP_r4 x0 x1 x2 x3 x4 x5 x6 x7)), (I (rsP_r5 x0 x1 x2 x3 x4 x5 x6 x7)), (I (rsP_r6 x0 x1 x2 x3 x4 x5 x6 x7)), (I (rsP_r7 x0 x1 x2 x3 x4 x5 x6 x7))]), heapN) := by
  simp only [rsP_r0, rsP_r1, rsP_r2, rsP_r3, rsP_r4, rsP_r5, rsP_r6, rsP_r7, cond_true, cond_false]; exact rsP_p0 x0 x1 x2 x3 x4 x5 x6 x7
def B_envGd_41 (args : List Value) : Option (Heap × Value) :=
    match args with
    | [(.agg ⟨[(.int .i64 (x0)), (.int .i64 (x1)), (.int .i64 (x2)), (.int .i64 (x3)), (.int .i64 (x4)), (.int .i64 (x5)), (.int .i64 (x6)), (.int .i64 (x7))]⟩)] => some (heap0, (.tuple #[(.agg #[(.int .i64 (ha_r0 x0 x1 x2 x3 x4 x5 x6 x7)), (.int .i64 (ha_r1 x0 x1 x2 x3 x4 x5 x6 x7)), (.int .i64 (ha_r2 x0 x1 x2 x3 x4 x5 x6 x7)), (.int .i64 (ha_r3 x0 x1 x2 x3 x4 x5 x6 x7)), (.int .i64 (ha_r4 x0 x1 x2 x3 x4 x5 x6 x7)), (.int .i64 (ha_r5 x0 x1 x2 x3 x4 x5 x6 x7)), (.int .i64 (ha_r6 x0 x1 x2 x3 x4 x5 x6 x7)), (.int .i64 (ha_r7 x0 x1 x2 x3 x4 x5 x6 x7))]), (.int .i64 (ha_r8 x0 x1 x2 x3 x4 x5 x6 x7))]))
    | _ => none
theorem B_envGd_41_ok {args : List Value} {H : Heap} {v : Value} (h : B_envGd_41 args = some (H, v)) : 8 ≤ H.length ∧ H.all tableRow = true ∧ Gives Tryz.prog envGc 0 41 args H (v, H) := by
  unfold B_envGd_41 at h
  split at h
  · cases h; exact heap0_ok (ha_gives _ _ _ _ _ _ _ _)
  · cases h
def B_envGd_42 (args : List Value) : Option (Heap × Value) :=
    match args with
    | [(.agg ⟨[(.int .i64 (x0)), (.int .i64 (x1)), (.int .i64 (x2)), (.int .i64 (x3)), (.int .i64 (x4)), (.int .i64 (x5)), (.int .i64 (x6)), (.int .i64 (x7))]⟩)] => some (heap0, (.tuple #[(.agg #[(.int .i64 (ba_r0 x0 x1 x2 x3 x4 x5 x6 x7)), (.int .i64 (ba_r1 x0 x1 x2 x3 x4 x5 x6 x7)), (.int .i64 (ba_r2 x0 x1 x2 x3 x4 x5 x6 x7)), (.int .i64 (ba_r3 x0 x1 x2 x3 x4 x5 x6 x7)), (.int .i64 (ba_r4 x0 x1 x2 x3 x4 x5 x6 x7)), (.int .i64 (ba_r5 x0 x1 x2 x3 x4 x5 x6 x7)), (.int .i64 (ba_r6 x0 x1 x2 x3 x4 x5 x6 x7)), (.int .i64 (ba_r7 x0 x1 x2 x3 x4 x5 x6 x7))]), (.int .i64 (ba_r8 x0 x1 x2 x3 x4 x5 x6 x7))]))
    | _ => none
theorem B_envGd_42_ok {args : List Value} {H : Heap} {v : Value} (h : B_envGd_42 args = some (H, v)) : 8 ≤ H.length ∧ H.all tableRow = true ∧ Gives Tryz.prog envGc 0 42 args H (v, H) := by
  unfold B_envGd_42 at h
  split at h
  · cases h; exact heap0_ok (ba_gives _ _ _ _ _ _ _ _)
  · cases h
def B_envGd_96 (args : List Value) : Option (Heap × Value) :=
    match args with
    | [(.agg ⟨[(.int .i64 (x0)), (.int .i64 (x1)), (.int .i64 (x2)), (.int .i64 (x3)), (.int .i64 (x4)), (.int .i64 (x5)), (.int .i64 (x6)), (.int .i64 (x7))]⟩), (.int .i64 (-1))] => some (heapN, (.agg #[(.int .i64 (rsN_r0 x0 x1 x2 x3 x4 x5 x6 x7)), (.int .i64 (rsN_r1 x0 x1 x2 x3 x4 x5 x6 x7)), (.int .i64 (rsN_r2 x0 x1 x2 x3 x4 x5 x6 x7)), (.int .i64 (rsN_r3 x0 x1 x2 x3 x4 x5 x6 x7)), (.int .i64 (rsN_r4 x0 x1 x2 x3 x4 x5 x6 x7)), (.int .i64 (rsN_r5 x0 x1 x2 x3 x4 x5 x6 x7)), (.int .i64 (rsN_r6 x0 x1 x2 x3 x4 x5 x6 x7)), (.int .i64 (rsN_r7 x0 x1 x2 x3 x4 x5 x6 x7))]))
    | [(.agg ⟨[(.int .i64 (x0)), (.int .i64 (x1)), (.int .i64 (x2)), (.int .i64 (x3)), (.int .i64 (x4)), (.int .i64 (x5)), (.int .i64 (x6)), (.int .i64 (x7))]⟩), (.int .i64 (1))] => some (heapN, (.agg #[(.int .i64 (rsP_r0 x0 x1 x2 x3 x4 x5 x6 x7)), (.int .i64 (rsP_r1 x0 x1 x2 x3 x4 x5 x6 x7)), (.int .i64 (rsP_r2 x0 x1 x2 x3 x4 x5 x6 x7)), (.int .i64 (rsP_r3 x0 x1 x2 x3 x4 x5 x6 x7)), (.int .i64 (rsP_r4 x0 x1 x2 x3 x4 x5 x6 x7)), (.int .i64 (rsP_r5 x0 x1 x2 x3 x4 x5 x6 x7)), (.int .i64 (rsP_r6 x0 x1 x2 x3 x4 x5 x6 x7)), (.int .i64 (rsP_r7 x0 x1 x2 x3 x4 x5 x6 x7))]))
    | _ => none
theorem B_envGd_96_ok {args : List Value} {H : Heap} {v : Value} (h : B_envGd_96 args = some (H, v)) : 8 ≤ H.length ∧ H.all tableRow = true ∧ Gives Tryz.prog envGc 0 96 args H (v, H) := by
  unfold B_envGd_96 at h
  split at h
  · cases h; exact heapN_ok (rsN_gives _ _ _ _ _ _ _ _)
  · cases h; exact heapN_ok (rsP_gives _ _ _ _ _ _ _ _)
  · cases h
def B_envGd (f : FuncId) (args : List Value) : Option (Heap × Value) :=
  if f == 41 then B_envGd_41 args else
  if f == 42 then B_envGd_42 args else
  if f == 96 then B_envGd_96 args else
  none
noncomputable def envGd : Env := envGc.with (baseKnown B_envGd)
theorem envGd_ok : EnvOK Tryz.prog 8 envGd := env_base prog_ok envGc_ok fun f args H v h => by
  unfold B_envGd at h
  split at h
  · rename_i hf
    have hf : f = 41 := by simpa using hf
    subst hf
    exact B_envGd_41_ok h
  · skip
    split at h
    · rename_i hf
      have hf : f = 42 := by simpa using hf
      subst hf
      exact B_envGd_42_ok h
    · skip
      split at h
      · rename_i hf
        have hf : f = 96 := by simpa using hf
        subst hf
        exact B_envGd_96_ok h
      · skip
        cases h
/-
What functions give.
-/
def rb_c0 (x0 x1 x2 x3 x4 x5 x6 x7 : Int) : Bool := (rsP_r0 x0 x1 x2 x3 x4 x5 x6 x7).tmod 4 != 0
def rb_c1 (x0 x1 x2 x3 x4 x5 x6 x7 : Int) : Bool := (rsP_r1 x0 x1 x2 x3 x4 x5 x6 x7).tmod 4 != 0
def rb_c2 (x0 x1 x2 x3 x4 x5 x6 x7 : Int) : Bool := (rsP_r2 x0 x1 x2 x3 x4 x5 x6 x7).tmod 4 != 0
def rb_c3 (x0 x1 x2 x3 x4 x5 x6 x7 : Int) : Bool := (rsP_r3 x0 x1 x2 x3 x4 x5 x6 x7).tmod 4 != 0
def rb_c4 (x0 x1 x2 x3 x4 x5 x6 x7 : Int) : Bool := (rsP_r4 x0 x1 x2 x3 x4 x5 x6 x7).tmod 4 != 0
def rb_c5 (x0 x1 x2 x3 x4 x5 x6 x7 : Int) : Bool := (rsP_r5 x0 x1 x2 x3 x4 x5 x6 x7).tmod 4 != 0
def rb_c6 (x0 x1 x2 x3 x4 x5 x6 x7 : Int) : Bool := (rsP_r6 x0 x1 x2 x3 x4 x5 x6 x7).tmod 4 != 0
def rb_c7 (x0 x1 x2 x3 x4 x5 x6 x7 : Int) : Bool := (rsP_r7 x0 x1 x2 x3 x4 x5 x6 x7).tmod 4 != 0
theorem rb_p0 (x0 x1 x2 x3 x4 x5 x6 x7 : Int) (h0 : rb_c0 x0 x1 x2 x3 x4 x5 x6 x7 = true) : Gives Tryz.prog envGd 0 45 [(.agg #[I x0, I x1, I x2, I x3, I x4, I x5, I x6, I x7])] heapN ((.tuple #[(.agg #[I 0, I 0, I 0, I 0, I 0, I 0, I 0, I 0]), I 30]), heapN) :=
  Gives.by (n := 1000) (os := [.br 45 38 true, .br 45 38 true, .br 45 38 true, .br 45 38 true, .br 45 38 true, .br 45 38 true, .br 45 53 true]) (os' := []) (by kernel_rfl) (ObsOK.cond h0 (ObsOK.cond h0 (ObsOK.cond h0 (ObsOK.cond h0 (ObsOK.cond h0 (ObsOK.cond h0 (ObsOK.cond h0 (ObsOK.nil))))))))
theorem rb_p1 (x0 x1 x2 x3 x4 x5 x6 x7 : Int) (h0 : rb_c0 x0 x1 x2 x3 x4 x5 x6 x7 = false) (h1 : rb_c1 x0 x1 x2 x3 x4 x5 x6 x7 = true) : Gives Tryz.prog envGd 0 45 [(.agg #[I x0, I x1, I x2, I x3, I x4, I x5, I x6, I x7])] heapN ((.tuple #[(.agg #[I 0, I 0, I 0, I 0, I 0, I 0, I 0, I 0]), I 30]), heapN) :=
  Gives.by (n := 1000) (os := [.br 45 38 false, .br 45 38 false, .br 45 38 false, .br 45 38 false, .br 45 38 false, .br 45 38 false, .br 45 53 false, .br 45 52 true]) (os' := []) (by kernel_rfl) (ObsOK.cond h0 (ObsOK.cond h0 (ObsOK.cond h0 (ObsOK.cond h0 (ObsOK.cond h0 (ObsOK.cond h0 (ObsOK.cond h0 (ObsOK.cond h1 (ObsOK.nil)))))))))
theorem rb_p2 (x0 x1 x2 x3 x4 x5 x6 x7 : Int) (h0 : rb_c0 x0 x1 x2 x3 x4 x5 x6 x7 = false) (h1 : rb_c1 x0 x1 x2 x3 x4 x5 x6 x7 = false) (h2 : rb_c2 x0 x1 x2 x3 x4 x5 x6 x7 = true) : Gives Tryz.prog envGd 0 45 [(.agg #[I x0, I x1, I x2, I x3, I x4, I x5, I x6, I x7])] heapN ((.tuple #[(.agg #[I 0, I 0, I 0, I 0, I 0, I 0, I 0, I 0]), I 30]), heapN) :=
  Gives.by (n := 1000) (os := [.br 45 38 false, .br 45 38 false, .br 45 38 false, .br 45 38 false, .br 45 38 false, .br 45 38 false, .br 45 53 false, .br 45 52 false, .br 45 38 true, .br 45 38 true, .br 45 38 true, .br 45 38 true, .br 45 38 true, .br 45 38 true, .br 45 53 true]) (os' := []) (by kernel_rfl) (ObsOK.cond h0 (ObsOK.cond h0 (ObsOK.cond h0 (ObsOK.cond h0 (ObsOK.cond h0 (ObsOK.cond h0 (ObsOK.cond h0 (ObsOK.cond h1 (ObsOK.cond h2 (ObsOK.cond h2 (ObsOK.cond h2 (ObsOK.cond h2 (ObsOK.cond h2 (ObsOK.cond h2 (ObsOK.cond h2 (ObsOK.nil))))))))))))))))
theorem rb_p3 (x0 x1 x2 x3 x4 x5 x6 x7 : Int) (h0 : rb_c0 x0 x1 x2 x3 x4 x5 x6 x7 = false) (h1 : rb_c1 x0 x1 x2 x3 x4 x5 x6 x7 = false) (h2 : rb_c2 x0 x1 x2 x3 x4 x5 x6 x7 = false) (h3 : rb_c3 x0 x1 x2 x3 x4 x5 x6 x7 = true) : Gives Tryz.prog envGd 0 45 [(.agg #[I x0, I x1, I x2, I x3, I x4, I x5, I x6, I x7])] heapN ((.tuple #[(.agg #[I 0, I 0, I 0, I 0, I 0, I 0, I 0, I 0]), I 30]), heapN) :=
  Gives.by (n := 1000) (os := [.br 45 38 false, .br 45 38 false, .br 45 38 false, .br 45 38 false, .br 45 38 false, .br 45 38 false, .br 45 53 false, .br 45 52 false, .br 45 38 false, .br 45 38 false, .br 45 38 false, .br 45 38 false, .br 45 38 false, .br 45 38 false, .br 45 53 false, .br 45 52 true]) (os' := []) (by kernel_rfl) (ObsOK.cond h0 (ObsOK.cond h0 (ObsOK.cond h0 (ObsOK.cond h0 (ObsOK.cond h0 (ObsOK.cond h0 (ObsOK.cond h0 (ObsOK.cond h1 (ObsOK.cond h2 (ObsOK.cond h2 (ObsOK.cond h2 (ObsOK.cond h2 (ObsOK.cond h2 (ObsOK.cond h2 (ObsOK.cond h2 (ObsOK.cond h3 (ObsOK.nil)))))))))))))))))
theorem rb_p4 (x0 x1 x2 x3 x4 x5 x6 x7 : Int) (h0 : rb_c0 x0 x1 x2 x3 x4 x5 x6 x7 = false) (h1 : rb_c1 x0 x1 x2 x3 x4 x5 x6 x7 = false) (h2 : rb_c2 x0 x1 x2 x3 x4 x5 x6 x7 = false) (h3 : rb_c3 x0 x1 x2 x3 x4 x5 x6 x7 = false) (h4 : rb_c4 x0 x1 x2 x3 x4 x5 x6 x7 = true) : Gives Tryz.prog envGd 0 45 [(.agg #[I x0, I x1, I x2, I x3, I x4, I x5, I x6, I x7])] heapN ((.tuple #[(.agg #[I 0, I 0, I 0, I 0, I 0, I 0, I 0, I 0]), I 30]), heapN) :=
  Gives.by (n := 1000) (os := [.br 45 38 false, .br 45 38 false, .br 45 38 false, .br 45 38 false, .br 45 38 false, .br 45 38 false, .br 45 53 false, .br 45 52 false, .br 45 38 false, .br 45 38 false, .br 45 38 false, .br 45 38 false, .br 45 38 false, .br 45 38 false, .br 45 53 false, .br 45 52 false, .br 45 38 true, .br 45 38 true, .br 45 38 true, .br 45 38 true, .br 45 38 true, .br 45 38 true, .br 45 53 true]) (os' := []) (by kernel_rfl) (ObsOK.cond h0 (ObsOK.cond h0 (ObsOK.cond h0 (ObsOK.cond h0 (ObsOK.cond h0 (ObsOK.cond h0 (ObsOK.cond h0 (ObsOK.cond h1 (ObsOK.cond h2 (ObsOK.cond h2 (ObsOK.cond h2 (ObsOK.cond h2 (ObsOK.cond h2 (ObsOK.cond h2 (ObsOK.cond h2 (ObsOK.cond h3 (ObsOK.cond h4 (ObsOK.cond h4 (ObsOK.cond h4 (ObsOK.cond h4 (ObsOK.cond h4 (ObsOK.cond h4 (ObsOK.cond h4 (ObsOK.nil))))))))))))))))))))))))
theorem rb_p5 (x0 x1 x2 x3 x4 x5 x6 x7 : Int) (h0 : rb_c0 x0 x1 x2 x3 x4 x5 x6 x7 = false) (h1 : rb_c1 x0 x1 x2 x3 x4 x5 x6 x7 = false) (h2 : rb_c2 x0 x1 x2 x3 x4 x5 x6 x7 = false) (h3 : rb_c3 x0 x1 x2 x3 x4 x5 x6 x7 = false) (h4 : rb_c4 x0 x1 x2 x3 x4 x5 x6 x7 = false) (h5 : rb_c5 x0 x1 x2 x3 x4 x5 x6 x7 = true) : Gives Tryz.prog envGd 0 45 [(.agg #[I x0, I x1, I x2, I x3, I x4, I x5, I x6, I x7])] heapN ((.tuple #[(.agg #[I 0, I 0, I 0, I 0, I 0, I 0, I 0, I 0]), I 30]), heapN) :=
  Gives.by (n := 1000) (os := [.br 45 38 false, .br 45 38 false, .br 45 38 false, .br 45 38 false, .br 45 38 false, .br 45 38 false, .br 45 53 false, .br 45 52 false, .br 45 38 false, .br 45 38 false, .br 45 38 false, .br 45 38 false, .br 45 38 false, .br 45 38 false, .br 45 53 false, .br 45 52 false, .br 45 38 false, .br 45 38 false, .br 45 38 false, .br 45 38 false, .br 45 38 false, .br 45 38 false, .br 45 53 false, .br 45 52 true]) (os' := []) (by kernel_rfl) (ObsOK.cond h0 (ObsOK.cond h0 (ObsOK.cond h0 (ObsOK.cond h0 (ObsOK.cond h0 (ObsOK.cond h0 (ObsOK.cond h0 (ObsOK.cond h1 (ObsOK.cond h2 (ObsOK.cond h2 (ObsOK.cond h2 (ObsOK.cond h2 (ObsOK.cond h2 (ObsOK.cond h2 (ObsOK.cond h2 (ObsOK.cond h3 (ObsOK.cond h4 (ObsOK.cond h4 (ObsOK.cond h4 (ObsOK.cond h4 (ObsOK.cond h4 (ObsOK.cond h4 (ObsOK.cond h4 (ObsOK.cond h5 (ObsOK.nil)))))))))))))))))))))))))
theorem rb_p6 (x0 x1 x2 x3 x4 x5 x6 x7 : Int) (h0 : rb_c0 x0 x1 x2 x3 x4 x5 x6 x7 = false) (h1 : rb_c1 x0 x1 x2 x3 x4 x5 x6 x7 = false) (h2 : rb_c2 x0 x1 x2 x3 x4 x5 x6 x7 = false) (h3 : rb_c3 x0 x1 x2 x3 x4 x5 x6 x7 = false) (h4 : rb_c4 x0 x1 x2 x3 x4 x5 x6 x7 = false) (h5 : rb_c5 x0 x1 x2 x3 x4 x5 x6 x7 = false) (h6 : rb_c6 x0 x1 x2 x3 x4 x5 x6 x7 = true) : Gives Tryz.prog envGd 0 45 [(.agg #[I x0, I x1, I x2, I x3, I x4, I x5, I x6, I x7])] heapN ((.tuple #[(.agg #[I 0, I 0, I 0, I 0, I 0, I 0, I 0, I 0]), I 30]), heapN) :=
  Gives.by (n := 1000) (os := [.br 45 38 false, .br 45 38 false, .br 45 38 false, .br 45 38 false, .br 45 38 false, .br 45 38 false, .br 45 53 false, .br 45 52 false, .br 45 38 false, .br 45 38 false, .br 45 38 false, .br 45 38 false, .br 45 38 false, .br 45 38 false, .br 45 53 false, .br 45 52 false, .br 45 38 false, .br 45 38 false, .br 45 38 false, .br 45 38 false, .br 45 38 false, .br 45 38 false, .br 45 53 false, .br 45 52 false, .br 45 38 true, .br 45 38 true, .br 45 38 true, .br 45 38 true, .br 45 38 true, .br 45 38 true, .br 45 53 true]) (os' := []) (by kernel_rfl) (ObsOK.cond h0 (ObsOK.cond h0 (ObsOK.cond h0 (ObsOK.cond h0 (ObsOK.cond h0 (ObsOK.cond h0 (ObsOK.cond h0 (ObsOK.cond h1 (ObsOK.cond h2 (ObsOK.cond h2 (ObsOK.cond h2 (ObsOK.cond h2 (ObsOK.cond h2 (ObsOK.cond h2 (ObsOK.cond h2 (ObsOK.cond h3 (ObsOK.cond h4 (ObsOK.cond h4 (ObsOK.cond h4 (ObsOK.cond h4 (ObsOK.cond h4 (ObsOK.cond h4 (ObsOK.cond h4 (ObsOK.cond h5 (ObsOK.cond h6 (ObsOK.cond h6 (ObsOK.cond h6 (ObsOK.cond h6 (ObsOK.cond h6 (ObsOK.cond h6 (ObsOK.cond h6 (ObsOK.nil))))))))))))))))))))))))))))))))
theorem rb_p7 (x0 x1 x2 x3 x4 x5 x6 x7 : Int) (h0 : rb_c0 x0 x1 x2 x3 x4 x5 x6 x7 = false) (h1 : rb_c1 x0 x1 x2 x3 x4 x5 x6 x7 = false) (h2 : rb_c2 x0 x1 x2 x3 x4 x5 x6 x7 = false) (h3 : rb_c3 x0 x1 x2 x3 x4 x5 x6 x7 = false) (h4 : rb_c4 x0 x1 x2 x3 x4 x5 x6 x7 = false) (h5 : rb_c5 x0 x1 x2 x3 x4 x5 x6 x7 = false) (h6 : rb_c6 x0 x1 x2 x3 x4 x5 x6 x7 = false) (h7 : rb_c7 x0 x1 x2 x3 x4 x5 x6 x7 = true) : Gives Tryz.prog envGd 0 45 [(.agg #[I x0, I x1, I x2, I x3, I x4, I x5, I x6, I x7])] heapN ((.tuple #[(.agg #[I 0, I 0, I 0, I 0, I 0, I 0, I 0, I 0]), I 30]), heapN) :=
  Gives.by (n := 1000) (os := [.br 45 38 false, .br 45 38 false, .br 45 38 false, .br 45 38 false, .br 45 38 false, .br 45 38 false, .br 45 53 false, .br 45 52 false, .br 45 38 false, .br 45 38 false, .br 45 38 false, .br 45 38 false, .br 45 38 false, .br 45 38 false, .br 45 53 false, .br 45 52 false, .br 45 38 false, .br 45 38 false, .br 45 38 false, .br 45 38 false, .br 45 38 false, .br 45 38 false, .br 45 53 false, .br 45 52 false, .br 45 38 false, .br 45 38 false, .br 45 38 false, .br 45 38 false, .br 45 38 false, .br 45 38 false, .br 45 53 false, .br 45 52 true]) (os' := []) (by kernel_rfl) (ObsOK.cond h0 (ObsOK.cond h0 (ObsOK.cond h0 (ObsOK.cond h0 (ObsOK.cond h0 (ObsOK.cond h0 (ObsOK.cond h0 (ObsOK.cond h1 (ObsOK.cond h2 (ObsOK.cond h2 (ObsOK.cond h2 (ObsOK.cond h2 (ObsOK.cond h2 (ObsOK.cond h2 (ObsOK.cond h2 (ObsOK.cond h3 (ObsOK.cond h4 (ObsOK.cond h4 (ObsOK.cond h4 (ObsOK.cond h4 (ObsOK.cond h4 (ObsOK.cond h4 (ObsOK.cond h4 (ObsOK.cond h5 (ObsOK.cond h6 (ObsOK.cond h6 (ObsOK.cond h6 (ObsOK.cond h6 (ObsOK.cond h6 (ObsOK.cond h6 (ObsOK.cond h6 (ObsOK.cond h7 (ObsOK.nil)))))))))))))))))))))))))))))))))
theorem rb_p8 (x0 x1 x2 x3 x4 x5 x6 x7 : Int) (h0 : rb_c0 x0 x1 x2 x3 x4 x5 x6 x7 = false) (h1 : rb_c1 x0 x1 x2 x3 x4 x5 x6 x7 = false) (h2 : rb_c2 x0 x1 x2 x3 x4 x5 x6 x7 = false) (h3 : rb_c3 x0 x1 x2 x3 x4 x5 x6 x7 = false) (h4 : rb_c4 x0 x1 x2 x3 x4 x5 x6 x7 = false) (h5 : rb_c5 x0 x1 x2 x3 x4 x5 x6 x7 = false) (h6 : rb_c6 x0 x1 x2 x3 x4 x5 x6 x7 = false) (h7 : rb_c7 x0 x1 x2 x3 x4 x5 x6 x7 = false) : Gives Tryz.prog envGd 0 45 [(.agg #[I x0, I x1, I x2, I x3, I x4, I x5, I x6, I x7])] heapN ((.tuple #[(.agg #[(I (IntKind.i64.wrap ((rsP_r0 x0 x1 x2 x3 x4 x5 x6 x7).tdiv 4))), (I (IntKind.i64.wrap ((rsP_r1 x0 x1 x2 x3 x4 x5 x6 x7).tdiv 4))), (I (IntKind.i64.wrap ((rsP_r2 x0 x1 x2 x3 x4 x5 x6 x7).tdiv 4))), (I (IntKind.i64.wrap ((rsP_r3 x0 x1 x2 x3 x4 x5 x6 x7).tdiv 4))), (I (IntKind.i64.wrap ((rsP_r4 x0 x1 x2 x3 x4 x5 x6 x7).tdiv 4))), (I (IntKind.i64.wrap ((rsP_r5 x0 x1 x2 x3 x4 x5 x6 x7).tdiv 4))), (I (IntKind.i64.wrap ((rsP_r6 x0 x1 x2 x3 x4 x5 x6 x7).tdiv 4))), (I (IntKind.i64.wrap ((rsP_r7 x0 x1 x2 x3 x4 x5 x6 x7).tdiv 4)))]), I 0]), heapN) :=
  Gives.by (n := 1000) (os := [.br 45 38 false, .br 45 38 false, .br 45 38 false, .br 45 38 false, .br 45 38 false, .br 45 38 false, .br 45 53 false, .br 45 52 false, .br 45 38 false, .br 45 38 false, .br 45 38 false, .br 45 38 false, .br 45 38 false, .br 45 38 false, .br 45 53 false, .br 45 52 false, .br 45 38 false, .br 45 38 false, .br 45 38 false, .br 45 38 false, .br 45 38 false, .br 45 38 false, .br 45 53 false, .br 45 52 false, .br 45 38 false, .br 45 38 false, .br 45 38 false, .br 45 38 false, .br 45 38 false, .br 45 38 false, .br 45 53 false, .br 45 52 false]) (os' := []) (by kernel_rfl) (ObsOK.cond h0 (ObsOK.cond h0 (ObsOK.cond h0 (ObsOK.cond h0 (ObsOK.cond h0 (ObsOK.cond h0 (ObsOK.cond h0 (ObsOK.cond h1 (ObsOK.cond h2 (ObsOK.cond h2 (ObsOK.cond h2 (ObsOK.cond h2 (ObsOK.cond h2 (ObsOK.cond h2 (ObsOK.cond h2 (ObsOK.cond h3 (ObsOK.cond h4 (ObsOK.cond h4 (ObsOK.cond h4 (ObsOK.cond h4 (ObsOK.cond h4 (ObsOK.cond h4 (ObsOK.cond h4 (ObsOK.cond h5 (ObsOK.cond h6 (ObsOK.cond h6 (ObsOK.cond h6 (ObsOK.cond h6 (ObsOK.cond h6 (ObsOK.cond h6 (ObsOK.cond h6 (ObsOK.cond h7 (ObsOK.nil)))))))))))))))))))))))))))))))))
def rb_r0 (x0 x1 x2 x3 x4 x5 x6 x7 : Int) : Int := (cond (rb_c0 x0 x1 x2 x3 x4 x5 x6 x7) (0) (cond (rb_c1 x0 x1 x2 x3 x4 x5 x6 x7) (0) (cond (rb_c2 x0 x1 x2 x3 x4 x5 x6 x7) (0) (cond (rb_c3 x0 x1 x2 x3 x4 x5 x6 x7) (0) (cond (rb_c4 x0 x1 x2 x3 x4 x5 x6 x7) (0) (cond (rb_c5 x0 x1 x2 x3 x4 x5 x6 x7) (0) (cond (rb_c6 x0 x1 x2 x3 x4 x5 x6 x7) (0) (cond (rb_c7 x0 x1 x2 x3 x4 x5 x6 x7) (0) (IntKind.i64.wrap ((rsP_r0 x0 x1 x2 x3 x4 x5 x6 x7).tdiv 4))))))))))
def rb_r1 (x0 x1 x2 x3 x4 x5 x6 x7 : Int) : Int := (cond (rb_c0 x0 x1 x2 x3 x4 x5 x6 x7) (0) (cond (rb_c1 x0 x1 x2 x3 x4 x5 x6 x7) (0) (cond (rb_c2 x0 x1 x2 x3 x4 x5 x6 x7) (0) (cond (rb_c3 x0 x1 x2 x3 x4 x5 x6 x7) (0) (cond (rb_c4 x0 x1 x2 x3 x4 x5 x6 x7) (0) (cond (rb_c5 x0 x1 x2 x3 x4 x5 x6 x7) (0) (cond (rb_c6 x0 x1 x2 x3 x4 x5 x6 x7) (0) (cond (rb_c7 x0 x1 x2 x3 x4 x5 x6 x7) (0) (IntKind.i64.wrap ((rsP_r1 x0 x1 x2 x3 x4 x5 x6 x7).tdiv 4))))))))))
def rb_r2 (x0 x1 x2 x3 x4 x5 x6 x7 : Int) : Int := (cond (rb_c0 x0 x1 x2 x3 x4 x5 x6 x7) (0) (cond (rb_c1 x0 x1 x2 x3 x4 x5 x6 x7) (0) (cond (rb_c2 x0 x1 x2 x3 x4 x5 x6 x7) (0) (cond (rb_c3 x0 x1 x2 x3 x4 x5 x6 x7) (0) (cond (rb_c4 x0 x1 x2 x3 x4 x5 x6 x7) (0) (cond (rb_c5 x0 x1 x2 x3 x4 x5 x6 x7) (0) (cond (rb_c6 x0 x1 x2 x3 x4 x5 x6 x7) (0) (cond (rb_c7 x0 x1 x2 x3 x4 x5 x6 x7) (0) (IntKind.i64.wrap ((rsP_r2 x0 x1 x2 x3 x4 x5 x6 x7).tdiv 4))))))))))
def rb_r3 (x0 x1 x2 x3 x4 x5 x6 x7 : Int) : Int := (cond (rb_c0 x0 x1 x2 x3 x4 x5 x6 x7) (0) (cond (rb_c1 x0 x1 x2 x3 x4 x5 x6 x7) (0) (cond (rb_c2 x0 x1 x2 x3 x4 x5 x6 x7) (0) (cond (rb_c3 x0 x1 x2 x3 x4 x5 x6 x7) (0) (cond (rb_c4 x0 x1 x2 x3 x4 x5 x6 x7) (0) (cond (rb_c5 x0 x1 x2 x3 x4 x5 x6 x7) (0) (cond (rb_c6 x0 x1 x2 x3 x4 x5 x6 x7) (0) (cond (rb_c7 x0 x1 x2 x3 x4 x5 x6 x7) (0) (IntKind.i64.wrap ((rsP_r3 x0 x1 x2 x3 x4 x5 x6 x7).tdiv 4))))))))))
def rb_r4 (x0 x1 x2 x3 x4 x5 x6 x7 : Int) : Int := (cond (rb_c0 x0 x1 x2 x3 x4 x5 x6 x7) (0) (cond (rb_c1 x0 x1 x2 x3 x4 x5 x6 x7) (0) (cond (rb_c2 x0 x1 x2 x3 x4 x5 x6 x7) (0) (cond (rb_c3 x0 x1 x2 x3 x4 x5 x6 x7) (0) (cond (rb_c4 x0 x1 x2 x3 x4 x5 x6 x7) (0) (cond (rb_c5 x0 x1 x2 x3 x4 x5 x6 x7) (0) (cond (rb_c6 x0 x1 x2 x3 x4 x5 x6 x7) (0) (cond (rb_c7 x0 x1 x2 x3 x4 x5 x6 x7) (0) (IntKind.i64.wrap ((rsP_r4 x0 x1 x2 x3 x4 x5 x6 x7).tdiv 4))))))))))
def rb_r5 (x0 x1 x2 x3 x4 x5 x6 x7 : Int) : Int := (cond (rb_c0 x0 x1 x2 x3 x4 x5 x6 x7) (0) (cond (rb_c1 x0 x1 x2 x3 x4 x5 x6 x7) (0) (cond (rb_c2 x0 x1 x2 x3 x4 x5 x6 x7) (0) (cond (rb_c3 x0 x1 x2 x3 x4 x5 x6 x7) (0) (cond (rb_c4 x0 x1 x2 x3 x4 x5 x6 x7) (0) (cond (rb_c5 x0 x1 x2 x3 x4 x5 x6 x7) (0) (cond (rb_c6 x0 x1 x2 x3 x4 x5 x6 x7) (0) (cond (rb_c7 x0 x1 x2 x3 x4 x5 x6 x7) (0) (IntKind.i64.wrap ((rsP_r5 x0 x1 x2 x3 x4 x5 x6 x7).tdiv 4))))))))))
def rb_r6 (x0 x1 x2 x3 x4 x5 x6 x7 : Int) : Int := (cond (rb_c0 x0 x1 x2 x3 x4 x5 x6 x7) (0) (cond (rb_c1 x0 x1 x2 x3 x4 x5 x6 x7) (0) (cond (rb_c2 x0 x1 x2 x3 x4 x5 x6 x7) (0) (cond (rb_c3 x0 x1 x2 x3 x4 x5 x6 x7) (0) (cond (rb_c4 x0 x1 x2 x3 x4 x5 x6 x7) (0) (cond (rb_c5 x0 x1 x2 x3 x4 x5 x6 x7) (0) (cond (rb_c6 x0 x1 x2 x3 x4 x5 x6 x7) (0) (cond (rb_c7 x0 x1 x2 x3 x4 x5 x6 x7) (0) (IntKind.i64.wrap ((rsP_r6 x0 x1 x2 x3 x4 x5 x6 x7).tdiv 4))))))))))
def rb_r7 (x0 x1 x2 x3 x4 x5 x6 x7 : Int) : Int := (cond (rb_c0 x0 x1 x2 x3 x4 x5 x6 x7) (0) (cond (rb_c1 x0 x1 x2 x3 x4 x5 x6 x7) (0) (cond (rb_c2 x0 x1 x2 x3 x4 x5 x6 x7) (0) (cond (rb_c3 x0 x1 x2 x3 x4 x5 x6 x7) (0) (cond (rb_c4 x0 x1 x2 x3 x4 x5 x6 x7) (0) (cond (rb_c5 x0 x1 x2 x3 x4 x5 x6 x7) (0) (cond (rb_c6 x0 x1 x2 x3 x4 x5 x6 x7) (0) (cond (rb_c7 x0 x1 x2 x3 x4 x5 x6 x7) (0) (IntKind.i64.wrap ((rsP_r7 x0 x1 x2 x3 x4 x5 x6 x7).tdiv 4))))))))))
def rb_r8 (x0 x1 x2 x3 x4 x5 x6 x7 : Int) : Int := (cond (rb_c0 x0 x1 x2 x3 x4 x5 x6 x7) (30) (cond (rb_c1 x0 x1 x2 x3 x4 x5 x6 x7) (30) (cond (rb_c2 x0 x1 x2 x3 x4 x5 x6 x7) (30) (cond (rb_c3 x0 x1 x2 x3 x4 x5 x6 x7) (30) (cond (rb_c4 x0 x1 x2 x3 x4 x5 x6 x7) (30) (cond (rb_c5 x0 x1 x2 x3 x4 x5 x6 x7) (30) (cond (rb_c6 x0 x1 x2 x3 x4 x5 x6 x7) (30) (cond (rb_c7 x0 x1 x2 x3 x4 x5 x6 x7) (30) (0)))))))))
theorem rb_gives (x0 x1 x2 x3 x4 x5 x6 x7 : Int) : Gives Tryz.prog envGd 0 45 [(.agg #[I x0, I x1, I x2, I x3, I x4, I x5, I x6, I x7])] heapN ((.tuple #[(.agg #[(I (rb_r0 x0 x1 x2 x3 x4 x5 x6 x7)), (I (rb_r1 x0 x1 x2 x3 x4 x5 x6 x7)), (I (rb_r2 x0 x1 x2 x3 x4 x5 x6 x7)), (I (rb_r3 x0 x1 x2 x3 x4 x5 x6 x7)), (I (rb_r4 x0 x1 x2 x3 x4 x5 x6 x7)), (I (rb_r5 x0 x1 x2 x3 x4 x5 x6 x7)), (I (rb_r6 x0 x1 x2 x3 x4 x5 x6 x7)), (I (rb_r7 x0 x1 x2 x3 x4 x5 x6 x7))]), (I (rb_r8 x0 x1 x2 x3 x4 x5 x6 x7))]), heapN) := by
  cases g0 : rb_c0 x0 x1 x2 x3 x4 x5 x6 x7
  · skip
    cases g1 : rb_c1 x0 x1 x2 x3 x4 x5 x6 x7
    · skip
      cases g2 : rb_c2 x0 x1 x2 x3 x4 x5 x6 x7
      · skip
        cases g3 : rb_c3 x0 x1 x2 x3 x4 x5 x6 x7
        · skip
          cases g4 : rb_c4 x0 x1 x2 x3 x4 x5 x6 x7
          · skip
            cases g5 : rb_c5 x0 x1 x2 x3 x4 x5 x6 x7
            · skip
              cases g6 : rb_c6 x0 x1 x2 x3 x4 x5 x6 x7
              · skip
                cases g7 : rb_c7 x0 x1 x2 x3 x4 x5 x6 x7
                · skip
                  simp only [rb_r0, rb_r1, rb_r2, rb_r3, rb_r4, rb_r5, rb_r6, rb_r7, rb_r8, g0, g1, g2, g3, g4, g5, g6, g7, cond_true, cond_false]; exact rb_p8 x0 x1 x2 x3 x4 x5 x6 x7 g0 g1 g2 g3 g4 g5 g6 g7
                · skip
                  simp only [rb_r0, rb_r1, rb_r2, rb_r3, rb_r4, rb_r5, rb_r6, rb_r7, rb_r8, g0, g1, g2, g3, g4, g5, g6, g7, cond_true, cond_false]; exact rb_p7 x0 x1 x2 x3 x4 x5 x6 x7 g0 g1 g2 g3 g4 g5 g6 g7
              · skip
                simp only [rb_r0, rb_r1, rb_r2, rb_r3, rb_r4, rb_r5, rb_r6, rb_r7, rb_r8, g0, g1, g2, g3, g4, g5, g6, cond_true, cond_false]; exact rb_p6 x0 x1 x2 x3 x4 x5 x6 x7 g0 g1 g2 g3 g4 g5 g6
            · skip
              simp only [rb_r0, rb_r1, rb_r2, rb_r3, rb_r4, rb_r5, rb_r6, rb_r7, rb_r8, g0, g1, g2, g3, g4, g5, cond_true, cond_false]; exact rb_p5 x0 x1 x2 x3 x4 x5 x6 x7 g0 g1 g2 g3 g4 g5
          · skip
            simp only [rb_r0, rb_r1, rb_r2, rb_r3, rb_r4, rb_r5, rb_r6, rb_r7, rb_r8, g0, g1, g2, g3, g4, cond_true, cond_false]; exact rb_p4 x0 x1 x2 x3 x4 x5 x6 x7 g0 g1 g2 g3 g4
        · skip
          simp only [rb_r0, rb_r1, rb_r2, rb_r3, rb_r4, rb_r5, rb_r6, rb_r7, rb_r8, g0, g1, g2, g3, cond_true, cond_false]; exact rb_p3 x0 x1 x2 x3 x4 x5 x6 x7 g0 g1 g2 g3
      · skip
        simp only [rb_r0, rb_r1, rb_r2, rb_r3, rb_r4, rb_r5, rb_r6, rb_r7, rb_r8, g0, g1, g2, cond_true, cond_false]; exact rb_p2 x0 x1 x2 x3 x4 x5 x6 x7 g0 g1 g2
    · skip
      simp only [rb_r0, rb_r1, rb_r2, rb_r3, rb_r4, rb_r5, rb_r6, rb_r7, rb_r8, g0, g1, cond_true, cond_false]; exact rb_p1 x0 x1 x2 x3 x4 x5 x6 x7 g0 g1
  · skip
    simp only [rb_r0, rb_r1, rb_r2, rb_r3, rb_r4, rb_r5, rb_r6, rb_r7, rb_r8, g0, cond_true, cond_false]; exact rb_p0 x0 x1 x2 x3 x4 x5 x6 x7 g0
theorem rt0_p0 (x y : Int) : Gives Tryz.prog envGd 0 78 [(.agg #[I x, I y]), I 0] heapN ((.agg #[I x, I y]), heapN) :=
  Gives.by (n := 1000) (os := []) (os' := []) (by kernel_rfl) (ObsOK.nil)
theorem rt0_gives (x y : Int) : Gives Tryz.prog envGd 0 78 [(.agg #[I x, I y]), I 0] heapN ((.agg #[I x, I y]), heapN) := by
  exact rt0_p0 x y
theorem rtm1_p0 (x y : Int) : Gives Tryz.prog envGd 0 78 [(.agg #[I x, I y]), (I (-1))] heapN ((.agg #[(I (IntKind.i64.wrap (0 - IntKind.i64.wrap (0 - y)))), (I (IntKind.i64.wrap (0 - x)))]), heapN) :=
  Gives.by (n := 1000) (os := []) (os' := []) (by kernel_rfl) (ObsOK.nil)
def rtm1_r0 (x y : Int) : Int := (IntKind.i64.wrap (0 - IntKind.i64.wrap (0 - y)))
def rtm1_r1 (x y : Int) : Int := (IntKind.i64.wrap (0 - x))
theorem rtm1_gives (x y : Int) : Gives Tryz.prog envGd 0 78 [(.agg #[I x, I y]), (I (-1))] heapN ((.agg #[(I (rtm1_r0 x y)), (I (rtm1_r1 x y))]), heapN) := by
  simp only [rtm1_r0, rtm1_r1, cond_true, cond_false]; exact rtm1_p0 x y
theorem rtm2_p0 (x y : Int) : Gives Tryz.prog envGd 0 78 [(.agg #[I x, I y]), (I (-2))] heapN ((.agg #[(I (IntKind.i64.wrap (0 - x))), (I (IntKind.i64.wrap (0 - y)))]), heapN) :=
  Gives.by (n := 1000) (os := []) (os' := []) (by kernel_rfl) (ObsOK.nil)
def rtm2_r0 (x y : Int) : Int := (IntKind.i64.wrap (0 - x))
def rtm2_r1 (x y : Int) : Int := (IntKind.i64.wrap (0 - y))
theorem rtm2_gives (x y : Int) : Gives Tryz.prog envGd 0 78 [(.agg #[I x, I y]), (I (-2))] heapN ((.agg #[(I (rtm2_r0 x y)), (I (rtm2_r1 x y))]), heapN) := by
  simp only [rtm2_r0, rtm2_r1, cond_true, cond_false]; exact rtm2_p0 x y
theorem rtm3_p0 (x y : Int) : Gives Tryz.prog envGd 0 78 [(.agg #[I x, I y]), (I (-3))] heapN ((.agg #[(I (IntKind.i64.wrap (0 - y))), I x]), heapN) :=
  Gives.by (n := 1000) (os := []) (os' := []) (by kernel_rfl) (ObsOK.nil)
def rtm3_r0 (x y : Int) : Int := (IntKind.i64.wrap (0 - y))
theorem rtm3_gives (x y : Int) : Gives Tryz.prog envGd 0 78 [(.agg #[I x, I y]), (I (-3))] heapN ((.agg #[(I (rtm3_r0 x y)), I x]), heapN) := by
  simp only [rtm3_r0, cond_true, cond_false]; exact rtm3_p0 x y
def B_envGe_45 (args : List Value) : Option (Heap × Value) :=
    match args with
    | [(.agg ⟨[(.int .i64 (x0)), (.int .i64 (x1)), (.int .i64 (x2)), (.int .i64 (x3)), (.int .i64 (x4)), (.int .i64 (x5)), (.int .i64 (x6)), (.int .i64 (x7))]⟩)] => some (heapN, (.tuple #[(.agg #[(.int .i64 (rb_r0 x0 x1 x2 x3 x4 x5 x6 x7)), (.int .i64 (rb_r1 x0 x1 x2 x3 x4 x5 x6 x7)), (.int .i64 (rb_r2 x0 x1 x2 x3 x4 x5 x6 x7)), (.int .i64 (rb_r3 x0 x1 x2 x3 x4 x5 x6 x7)), (.int .i64 (rb_r4 x0 x1 x2 x3 x4 x5 x6 x7)), (.int .i64 (rb_r5 x0 x1 x2 x3 x4 x5 x6 x7)), (.int .i64 (rb_r6 x0 x1 x2 x3 x4 x5 x6 x7)), (.int .i64 (rb_r7 x0 x1 x2 x3 x4 x5 x6 x7))]), (.int .i64 (rb_r8 x0 x1 x2 x3 x4 x5 x6 x7))]))
    | _ => none
theorem B_envGe_45_ok {args : List Value} {H : Heap} {v : Value} (h : B_envGe_45 args = some (H, v)) : 8 ≤ H.length ∧ H.all tableRow = true ∧ Gives Tryz.prog envGd 0 45 args H (v, H) := by
  unfold B_envGe_45 at h
  split at h
  · cases h; exact heapN_ok (rb_gives _ _ _ _ _ _ _ _)
  · cases h
def B_envGe_78 (args : List Value) : Option (Heap × Value) :=
    match args with
    | [(.agg ⟨[(.int .i64 (x)), (.int .i64 (y))]⟩), (.int .i64 (0))] => some (heapN, (.agg #[(.int .i64 (x)), (.int .i64 (y))]))
    | [(.agg ⟨[(.int .i64 (x)), (.int .i64 (y))]⟩), (.int .i64 (-1))] => some (heapN, (.agg #[(.int .i64 (rtm1_r0 x y)), (.int .i64 (rtm1_r1 x y))]))
    | [(.agg ⟨[(.int .i64 (x)), (.int .i64 (y))]⟩), (.int .i64 (-2))] => some (heapN, (.agg #[(.int .i64 (rtm2_r0 x y)), (.int .i64 (rtm2_r1 x y))]))
    | [(.agg ⟨[(.int .i64 (x)), (.int .i64 (y))]⟩), (.int .i64 (-3))] => some (heapN, (.agg #[(.int .i64 (rtm3_r0 x y)), (.int .i64 (x))]))
    | _ => none
theorem B_envGe_78_ok {args : List Value} {H : Heap} {v : Value} (h : B_envGe_78 args = some (H, v)) : 8 ≤ H.length ∧ H.all tableRow = true ∧ Gives Tryz.prog envGd 0 78 args H (v, H) := by
  unfold B_envGe_78 at h
  split at h
  · cases h; exact heapN_ok (rt0_gives _ _)
  · cases h; exact heapN_ok (rtm1_gives _ _)
  · cases h; exact heapN_ok (rtm2_gives _ _)
  · cases h; exact heapN_ok (rtm3_gives _ _)
  · cases h
def B_envGe (f : FuncId) (args : List Value) : Option (Heap × Value) :=
  if f == 45 then B_envGe_45 args else
  if f == 78 then B_envGe_78 args else
  none
noncomputable def envGe : Env := envGd.with (baseKnown B_envGe)
theorem envGe_ok : EnvOK Tryz.prog 8 envGe := env_base prog_ok envGd_ok fun f args H v h => by
  unfold B_envGe at h
  split at h
  · rename_i hf
    have hf : f = 45 := by simpa using hf
    subst hf
    exact B_envGe_45_ok h
  · skip
    split at h
    · rename_i hf
      have hf : f = 78 := by simpa using hf
      subst hf
      exact B_envGe_78_ok h
    · skip
      cases h
/-
The document's examples, run: the states between the statements of awake.
-/
noncomputable def rowAwS_0 : Option ARow := (rvar [I 1, I 1, I 1, I 1, I 2, I 0, I 1, (I (-1)), I 1, (I (-1)), I 1, (I (-1)), I 2, I 0, I 1, I 1] 53)
noncomputable def rowAwS_2 : Option ARow := (rrow [I 0, I 0, I 1, I 0, I 1, I 0, I 1, I 0, I 1, I 0, I 1, I 0, I 2, I 0, I 1, I 0] 32)
noncomputable def rowAwS_5 : Option ARow := (rrow [I 0, I 0, I 1, I 0, I 1, I 0, I 2, I 0, I 2, I 0, I 1, I 0] 125)
noncomputable def rowAwS_7 : Option ARow := (rrow [I 0, I 0, I 1, I 0, I 1, I 0, I 2, I 0, I 2, I 0, I 1, I 0] 32)
noncomputable def rowAwS_9 : Option ARow := (rvar [I 6, I 0, I 0, I 2, (I (-2)), I 0, I 0, I 2] 72)
noncomputable def rowAwS_11 : Option ARow := (rrow [I 0, I 0, I 1, I 0, I 1, I 0, I 1, I 0] 32)
noncomputable def rowAwS_12 : Option ARow := (rrow [I 0, I 0, I 1, I 0, I 1, I 0, I 1, I 3] 32)
noncomputable def rowAwS_13 : Option ARow := (rrow [I 0, I 0, I 1, I 0, I 1, I 0, I 1, I 3] 24)
noncomputable def rowAwS_14 : Option ARow := (rrow [I 3, I 4, I 5] 3)
noncomputable def L0 : List Value := List.replicate 322 undef
noncomputable def X0 : Heap := heap0
noncomputable def L6 : List Value := ([(.bool false), (pt 9 0), I 0, I 4, I 0, (pt 12 0), I 0, (sl 14 0 2 2), I 0, (sl 17 0 3 3), I 0, U, U, U, U, U, U, U, U, U, U, U, U, U, U, U, U, U, U, U, U, U, U, U, U, U, U, U, U, U, (.tuple #[(.agg #[I 1, I 1, I 1, I 1, I 2, I 0, I 1, (I (-1)), I 1, (I (-1)), I 1, (I (-1)), I 2, I 0, I 1, I 1]), I 0]), (sl 8 0 2 2), (.tuple #[(.agg #[I 1, I 1, I 1, I 1, I 2, I 0, I 1, (I (-1)), I 1, (I (-1)), I 1, (I (-1)), I 2, I 0, I 1, I 1]), I 0]), (.agg #[I 1, I 1, I 1, I 1, I 2, I 0, I 1, (I (-1)), I 1, (I (-1)), I 1, (I (-1)), I 2, I 0, I 1, I 1]), I 0, (.tuple #[I 4, I 0]), (sl 10 0 2 2), (.tuple #[I 4, I 0]), I 4, I 0, (.tuple #[(g2 8 5), I 0]), (sl 11 0 2 2), (.tuple #[(g2 8 5), I 0]), (g2 8 5), I 0, (.tuple #[(sl 14 0 2 2), I 0]), (sl 13 0 2 2), (.tuple #[(sl 14 0 2 2), I 0]), (sl 14 0 2 2), I 0, (.tuple #[(sl 17 0 3 3), I 0]), (sl 15 0 0 0), (sl 14 0 2 2), (sl 16 0 2 2), (.tuple #[(sl 17 0 3 3), I 0]), (sl 17 0 3 3), I 0] ++ us 255)
noncomputable def X6 : Heap := (H [rowAwS_11, rowAwS_0, rowAwS_11, rowAwS_11, (rvar [I 8, I 5] 63), rowAwS_11, rowAwS_12, (.some (.cells [] 32 .emp)), rowAwS_12, rowAwS_14])
noncomputable def L7 : List Value := ([(.bool false), (pt 9 0), I 0, I 4, I 0, (pt 12 0), I 0, (sl 14 0 2 2), I 0, (sl 17 0 3 3), I 0, (sl 19 0 2 2), I 4, I 0, U, U, U, U, U, U, U, U, U, U, U, U, U, U, U, U, U, U, U, U, U, U, U, U, U, U, (.tuple #[(.agg #[I 1, I 1, I 1, I 1, I 2, I 0, I 1, (I (-1)), I 1, (I (-1)), I 1, (I (-1)), I 2, I 0, I 1, I 1]), I 0]), (sl 8 0 2 2), (.tuple #[(.agg #[I 1, I 1, I 1, I 1, I 2, I 0, I 1, (I (-1)), I 1, (I (-1)), I 1, (I (-1)), I 2, I 0, I 1, I 1]), I 0]), (.agg #[I 1, I 1, I 1, I 1, I 2, I 0, I 1, (I (-1)), I 1, (I (-1)), I 1, (I (-1)), I 2, I 0, I 1, I 1]), I 0, (.tuple #[I 4, I 0]), (sl 10 0 2 2), (.tuple #[I 4, I 0]), I 4, I 0, (.tuple #[(g2 8 5), I 0]), (sl 11 0 2 2), (.tuple #[(g2 8 5), I 0]), (g2 8 5), I 0, (.tuple #[(sl 14 0 2 2), I 0]), (sl 13 0 2 2), (.tuple #[(sl 14 0 2 2), I 0]), (sl 14 0 2 2), I 0, (.tuple #[(sl 17 0 3 3), I 0]), (sl 15 0 0 0), (sl 14 0 2 2), (sl 16 0 2 2), (.tuple #[(sl 17 0 3 3), I 0]), (sl 17 0 3 3), I 0, (.tuple #[(sl 19 0 2 2), I 4, I 0]), (sl 18 0 2 2), (.agg #[I 1, I 0, I 0, I 0, (I (-1)), I 0, I 0, I 0]), (.tuple #[(sl 19 0 2 2), I 4, I 0]), (sl 19 0 2 2), I 4, I 0] ++ us 248)
noncomputable def X7 : Heap := (H [rowAwS_11, rowAwS_0, rowAwS_11, rowAwS_11, (rvar [I 8, I 5] 63), rowAwS_11, rowAwS_12, (.some (.cells [] 32 .emp)), rowAwS_12, rowAwS_14, rowAwS_11, rowAwS_12])
noncomputable def L14 : List Value := ([(.bool false), (pt 9 0), I 0, I 4, I 0, (pt 12 0), I 0, (sl 14 0 2 2), I 0, (sl 17 0 3 3), I 0, (sl 19 0 2 2), I 4, I 0, (pt 20 0), I 0, (sl 28 0 4 4), I 0, (sl 29 0 3 3), I 0, (sl 32 0 3 3), I 0, (sl 35 0 3 3), I 0, (pt 38 0), I 0, U, U, U, U, U, U, U, U, U, U, U, U, U, U, (.tuple #[(.agg #[I 1, I 1, I 1, I 1, I 2, I 0, I 1, (I (-1)), I 1, (I (-1)), I 1, (I (-1)), I 2, I 0, I 1, I 1]), I 0]), (sl 8 0 2 2), (.tuple #[(.agg #[I 1, I 1, I 1, I 1, I 2, I 0, I 1, (I (-1)), I 1, (I (-1)), I 1, (I (-1)), I 2, I 0, I 1, I 1]), I 0]), (.agg #[I 1, I 1, I 1, I 1, I 2, I 0, I 1, (I (-1)), I 1, (I (-1)), I 1, (I (-1)), I 2, I 0, I 1, I 1]), I 0, (.tuple #[I 4, I 0]), (sl 10 0 2 2), (.tuple #[I 4, I 0]), I 4, I 0, (.tuple #[(g2 8 5), I 0]), (sl 11 0 2 2), (.tuple #[(g2 8 5), I 0]), (g2 8 5), I 0, (.tuple #[(sl 14 0 2 2), I 0]), (sl 13 0 2 2), (.tuple #[(sl 14 0 2 2), I 0]), (sl 14 0 2 2), I 0, (.tuple #[(sl 17 0 3 3), I 0]), (sl 15 0 0 0), (sl 14 0 2 2), (sl 16 0 2 2), (.tuple #[(sl 17 0 3 3), I 0]), (sl 17 0 3 3), I 0, (.tuple #[(sl 19 0 2 2), I 4, I 0]), (sl 18 0 2 2), (.agg #[I 1, I 0, I 0, I 0, (I (-1)), I 0, I 0, I 0]), (.tuple #[(sl 19 0 2 2), I 4, I 0]), (sl 19 0 2 2), I 4, I 0, (.tuple #[(.agg #[I 6, I 0, I 0, I 2, (I (-2)), I 0, I 0, I 2]), I 0]), (pt 9 0), (g2 1 1), (pt 9 4), (g2 2 0), (pt 9 8), (g2 1 (-1)), (pt 9 12), (g2 2 0), (.agg #[I 1, I 1, I 2, I 0, I 1, (I (-1)), I 2, I 0]), (.tuple #[(.agg #[I 6, I 0, I 0, I 2, (I (-2)), I 0, I 0, I 2]), I 0]), (.agg #[I 6, I 0, I 0, I 2, (I (-2)), I 0, I 0, I 2]), I 0, I 0, I 0, I 0, I 0, I 0, I 0, I 0, I 0, I 0, I 0, I 0, I 0, I 0, (.bool false), (.bool false), (.agg #[I 1, I 1, I 1, I 1, I 2, I 0, I 1, (I (-1)), I 1, (I (-1)), I 1, (I (-1)), I 2, I 0, I 1, I 1]), (g2 1 1), (g2 1 1), (g2 2 0), (g2 1 (-1)), (g2 1 (-1)), (g2 1 (-1)), (g2 2 0), (g2 1 1), (.agg #[I 1, I 1, I 1, I 1, I 2, I 0, I 1, (I (-1)), I 1, (I (-1)), I 1, (I (-1)), I 2, I 0, I 1, I 1]), (.bool false), (.bool false), (.bool false), I 4, (.bool false), (.bool false), (.bool false), (g2 8 5), (g2 8 5), (.bool false), (.bool false), (.bool false), (sl 14 0 2 2), (sl 21 0 2 2), (.agg #[I 0, I 0, I 1, I 0]), (.agg #[I 1, I 0, I 1, I 3]), (sl 22 0 2 2), (.bool true), (.bool false), (.bool false), (.bool false), (sl 17 0 3 3), (sl 23 0 3 3), (.bool true), (.bool false), (.bool false), (.bool false), (sl 19 0 2 2), (sl 24 0 2 2), (sl 14 0 2 2), (sl 25 0 2 2), (.bool true), (.bool false), (.bool false), (.bool false), I 4, (.bool false), (.bool false), (.bool false), (.agg #[I 6, I 0, I 0, I 2, (I (-2)), I 0, I 0, I 2]), (g2 6 0), (g2 0 2), (g2 (-2) 0), (g2 0 2), (.agg #[I 6, I 0, I 0, I 2, (I (-2)), I 0, I 0, I 2]), (.bool false), (.bool false), (.tuple #[(sl 28 0 4 4), I 0]), (sl 26 0 2 2), (sl 27 0 2 2), (.tuple #[(sl 28 0 4 4), I 0]), (sl 28 0 4 4), I 0, (.tuple #[(sl 29 0 3 3), I 0]), (.tuple #[(sl 29 0 3 3), I 0]), (sl 29 0 3 3), I 0, (.tuple #[(sl 32 0 3 3), I 0]), (sl 30 0 0 0), (sl 28 0 4 4), (sl 31 0 4 4), (.tuple #[(sl 32 0 3 3), I 0]), (sl 32 0 3 3), I 0, (.tuple #[(sl 35 0 3 3), I 0]), (sl 33 0 0 0), (sl 29 0 3 3), (sl 34 0 3 3), (.tuple #[(sl 35 0 3 3), I 0]), (sl 35 0 3 3), I 0, (.tuple #[(g2 0 2), I 0]), (sl 36 0 0 0), (sl 29 0 3 3), (sl 37 0 3 3), (.tuple #[(g2 0 2), I 0]), (g2 0 2), I 0] ++ us 132)
noncomputable def X14 : Heap := (H [rowAwS_11, rowAwS_0, rowAwS_11, rowAwS_11, (rvar [I 8, I 5] 63), rowAwS_11, rowAwS_12, (.some (.cells [] 32 .emp)), rowAwS_12, rowAwS_14, rowAwS_11, rowAwS_12, rowAwS_9, rowAwS_13, rowAwS_13, rowAwS_14, rowAwS_13, rowAwS_13, rowAwS_11, rowAwS_11, rowAwS_2, rowAwS_7, (.some (.cells [] 32 .emp)), rowAwS_2, rowAwS_5, (.some (.cells [] 32 .emp)), rowAwS_7, rowAwS_5, (.some (.cells [] 32 .emp)), rowAwS_7, (rvar [I 0, I 2] 34)])
/-
The document's examples, run: statements 0 to 5 of awake.
-/
theorem c0 : runD Tryz.prog envGa 100000 8 (bodyOf 15) 6 0 L0 X0 = some (L6, X6) := by kernel_rfl
/-
The document's examples, run: statement 6 of awake.
-/
theorem c6 : runD Tryz.prog envGa 100000 8 (bodyOf 15) 1 6 L6 X6 = some (L7, X7) := by kernel_rfl
/-
The document's examples, run: statements 7 to 13 of awake.
-/
theorem c7 : runD Tryz.prog envGa 100000 8 (bodyOf 15) 7 7 L7 X7 = some (L14, X14) := by kernel_rfl
/-
The document's examples, run: statements 14 to 22 of awake.
-/
theorem c14 : endD Tryz.prog envGa 100000 8 Tryz.f15 (bodyOf 15) 8 14 L14 X14 heap0 = some (.bool true, heap0) := by kernel_rfl
/-
The document's examples, run: awake gives true, and is known from here on.
-/
theorem awake_runs (r) (h : Runs Tryz.prog envGa 8 [.code (dropS 14 (bodyOf 15))] L14 X14 r) : Runs Tryz.prog envGa 8 [.code (dropS 0 (bodyOf 15))] L0 X0 r :=
  Runs.runD c0 (Runs.runD c6 (Runs.runD c7 h))
/-- The examples are as the document says. -/
theorem awake_gives : Gives Tryz.prog envGa 0 15 [] heap0 (.bool true, heap0) :=
  Gives.of_groups (c := bodyOf 15) (cnt := 8) (j := 14) (fun _ _ => by kernel_rfl) Tryz.func15 (by kernel_rfl) (by kernel_rfl) (by kernel_rfl) (by kernel_rfl) c14 (fun r h => runs_eq (awake_runs r h) (by kernel_rfl) (by kernel_rfl) (by kernel_rfl) (by kernel_rfl))
theorem awake_says : SaysAt Tryz.prog 8 15 [] heap0 (.bool true) heap0 := SaysAt.of_gives prog_ok envGa_ok awake_gives
/-
Awake is known.
-/
def BA (f : FuncId) (args : List Value) : Option (Heap × Value) :=
  if f == 15 then
    match args with
    | [] => some (heap0, .bool true)
    | _ => none
  else none
noncomputable def envL : Env := envGe.with (baseKnown BA)
theorem envL_ok : EnvOK Tryz.prog 8 envL := env_base' envGe_ok fun f args H v h => by
  unfold BA at h
  split at h
  · rename_i hf
    have hf : f = 15 := by simpa using hf
    subst hf
    split at h
    · cases h; exact ⟨by decide, by decide, awake_says⟩
    · cases h
  · cases h
end Go.Proofs.YtpdiaiccnaoaiaaGreatDoor
/-
Loops over lists: blocks, rounds, elements of rows, maps; the rest of a call whose own rows get other numbers while rows of the caller are written.
-/
namespace Go.Abs
open Go
def findBlk (id : Nat) : Code → Option Code
  | .block i b => if i == id then some (.block i b) else findBlk id b
  | .seq a b => match findBlk id a with
    | some c => some c
    | none => findBlk id b
  | .cond _ a b => match findBlk id a with
    | some c => some c
    | none => findBlk id b
  | .loop b => findBlk id b
  | .scope b => findBlk id b
  | _ => none
def blk (id : Nat) (c : Code) : Code := (findBlk id c).getD .skip
def bodyB : Code → Code
  | .block _ b => b
  | c => c
def bodyL : Code → Code
  | .loop b => b
  | c => c
/-- The round of the loop in a block. -/
def round (id : Nat) (c : Code) : Code := bodyL (bodyB (blk id c))
theorem Runs.loopAgain {P : Program} {E : Env} {lim : Nat} {c : Code} {k : List It} {l l1 : List Value} {A A1 : Heap} {r : List Value × Heap × Option Code} (h : Runs P E lim [.code c] l A (l1, A1, none)) (h2 : Runs P E lim (.inLoop c :: k) l1 A1 r) : Runs P E lim (.inLoop c :: k) l A r :=
  Runs.inLoop (h.app h2)
/-- Numbers, as cells. -/
def ints (l : List Int) : List Value := l.map (.int .i64)
theorem ints_get {l : List Int} {k : Nat} (h : k < l.length) : (ints l)[k]? = some (.int .i64 (l.getD k 0)) := by
  simp [ints, h]
theorem ints_len (l : List Int) : (ints l).length = l.length := by simp [ints]
theorem ints_atoms (l : List Int) : (ints l).all atomB = true := by
  rw [List.all_eq_true]
  intro v hv
  obtain ⟨x, _, rfl⟩ := List.mem_map.1 hv
  rfl
theorem w_id {n : Int} (h1 : -9223372036854775808 ≤ n) (h2 : n ≤ 9223372036854775807) : IntKind.i64.wrap n = n := by
  simp [IntKind.wrap, IntKind.bits, IntKind.signed]
  omega
/-- What is known of a type. -/
theorem info_of {P : Program} {t m b : Nat} {z : Option Value} (h : (P.info? t).map (fun i => (i.size, i.zero, i.bytes)) = some (m, z, b)) : ∃ ti, P.info? t = some ti ∧ ti.size = m ∧ ti.zero = z ∧ ti.bytes = b := by
  obtain ⟨ti, h1, h2⟩ := Option.map_eq_some_iff.1 h
  injection h2 with h2 h3
  injection h3 with h3 h4
  exact ⟨ti, h1, h2, h3, h4⟩
/-- Elements of m cells each. -/
theorem fm_len {α : Type} {f : α → List Value} {m : Nat} (hm : ∀ a, (f a).length = m) : ∀ l : List α, (l.flatMap f).length = l.length * m
  | [] => by simp
  | a :: l => by
    rw [List.flatMap_cons, List.length_append, hm, fm_len hm l, List.length_cons, Nat.succ_mul]; omega
theorem fm_drop {α : Type} {f : α → List Value} {m : Nat} (hm : ∀ a, (f a).length = m) : ∀ (l : List α) (k : Nat), (l.flatMap f).drop (k * m) = (l.drop k).flatMap f
  | l, 0 => by simp
  | [], k + 1 => by simp
  | a :: l, k + 1 => by
    rw [List.flatMap_cons, List.drop_succ_cons, ← fm_drop hm l k, Nat.succ_mul, Nat.add_comm, ← List.drop_drop]
    rw [List.drop_append, hm, Nat.sub_self, List.drop_eq_nil_of_le (show (f a).length ≤ m by rw [hm]; exact Nat.le_refl _), List.nil_append, List.drop_zero]
theorem fm_elem {α : Type} {f : α → List Value} {m : Nat} (hm : ∀ a, (f a).length = m) {l : List α} {k : Nat} {a : α} (h : l[k]? = some a) : ((l.flatMap f).drop (k * m)).take m = f a := by
  rw [fm_drop hm]
  have hk := (List.getElem?_eq_some_iff.1 h)
  obtain ⟨hlt, he⟩ := hk
  rw [List.drop_eq_getElem_cons hlt, List.flatMap_cons, he, List.take_append_of_le_length (by rw [hm]; exact Nat.le_refl _), List.take_of_length_le (by rw [hm]; exact Nat.le_refl _)]
theorem fm_atoms {α : Type} {f : α → List Value} (hf : ∀ a, (f a).all atomB = true) (l : List α) : (l.flatMap f).all atomB = true := by
  rw [List.all_eq_true]
  intro v hv
  obtain ⟨a, _, h⟩ := List.mem_flatMap.1 hv
  exact List.all_eq_true.1 (hf a) v h
section
variable {P : Program} {t e : TypeId} {ti : TypeInfo} {m : Nat}
/-- The address of an element. -/
theorem idx_el (ht : P.underlying t = some (.slice e)) (hi : P.info? e = some ti) (hs : ti.size = m) {r n c : Nat} {i : Int} (h0 : 0 ≤ i) (h1 : i < n) : aIndexAddr P t (.slice (some ⟨r, 0, none⟩) n c) (.int .i64 i) = some (.pointer (some ⟨r, i.toNat * m, none⟩)) := by
  subst hs
  simp [aIndexAddr, ht, hi, h0, h1]
theorem ld_int (ht : P.underlying t = some (.int .i64)) {A : Heap} {r k : Nat} {e : Nat} {u : Use} {l : List Int} (hr : hget A r = some (.cells (ints l) e u)) (hk : k < l.length) : aLoad P t (.pointer (some ⟨r, k, none⟩)) A = some (.int .i64 (l.getD k 0)) := by
  simp only [aLoad, hr, aPart, ht, descAgg, Bool.false_eq_true, if_false]
  exact ints_get hk
/-- An element that is a struct is loaded. -/
theorem ld_agg {α : Type} {f : α → List Value} (hm : ∀ a, (f a).length = m) {d : TypeDesc} (ht : P.underlying t = some d) (hd : descAgg d = true) (hi : P.info? t = some ti) (hs : ti.size = m) {A : Heap} {r k : Nat} {e : Nat} {u : Use} {l : List α} {a : α}
    (hr : hget A r = some (.cells (l.flatMap f) e u)) (hk : l[k]? = some a) : aLoad P t (.pointer (some ⟨r, k * m, none⟩)) A = some (.agg (f a).toArray) := by
  subst hs
  have hlt := (List.getElem?_eq_some_iff.1 hk).1
  have hle : k * ti.size + ti.size ≤ l.length * ti.size := by rw [← Nat.succ_mul]; exact Nat.mul_le_mul_right _ hlt
  simp only [aLoad, hr, aPart, ht, hd, hi, if_true, fm_len hm, hle, fm_elem hm hk]
/-- One element is appended to a row of elements. -/
theorem app_one {lim r q n c c' : Nat} {A : Heap} {cs new : List Value} {e' : Nat} {u : Use} {z : Value} {b : Nat} (ht : P.underlying t = some (.slice e)) (hi : P.info? e = some ti) (hs : ti.size = m) (hz : ti.zero = some z) (hb : ti.bytes = b)
    (hzf : freeB z = true) (hzl : z.cells.toList.length = m) (hr : hget A r = some (.cells cs e .row)) (hq : hget A q = some (.cells new e' u)) (hcs : cs.length = n * m) (hnew : new.length = m) (hone : new.all oneC = true) (hlim : lim ≤ r) (hsz : (n + 1) * b ≤ 70368744177664) (hn : n + 1 ≤ 1099511627776) (hel : P.underlying t = some (.slice e)) :
    aAppend P lim #[t, t] (.slice (some ⟨r, 0, none⟩) n c) (.slice (some ⟨q, 0, none⟩) 1 c') A = some (.slice (some ⟨A.length, 0, none⟩) (n + 1) (n + 1), hset A r none ++ [some (.cells (cs ++ new) e .row)]) := by
  subst hs; subst hb
  have hc : aCellsOf ti.size (.slice (some ⟨q, 0, none⟩) 1 c') A = some (1, new) := by
    simp only [aCellsOf, hq, Nat.one_mul, Nat.zero_add, hnew, Nat.le_refl, if_true, List.drop_zero]
    rw [List.take_of_length_le (by rw [hnew]; exact Nat.le_refl _)]
  simp only [aAppend, List.getElem?_toArray, List.getElem?_cons_zero, List.getElem?_cons_succ, ht, hi, hz, aSource, if_true]
  rw [hc]
  simp only [hone, hr, if_true]
  rw [if_pos (by exact ⟨rfl, hzf, hzl⟩), if_pos (by refine ⟨hlim, trivial, by omega, hsz, hn⟩), ← hcs, List.take_length]
end
section
variable {P : Program} {kt : TypeId} {d : TypeDesc} {α : Type} {kv : α → Value}
end

section
variable {P : Program} {G : Nat} {E : Env} {fn : Func} {A0 A1 A A2 : Heap} {v : Value} {l l1 l2 : List Value} {lim : Nat}
/-- A call that writes rows of its caller. -/
theorem EndsA.saysImp (hP : ProgOK P G) {f : FuncId} {c : Code} {args : List Value} (hf : P.funcs[f]? = some fn) (hb : fn.body = some c) (hnt : ¬ fn.ntmps < args.length) (h : EndsA P G fn A v A1 [.code c] (padTo fn.ntmps args) A) : SaysAt P G f args A v A1 := by
  intro ρ w args' hargs hG hR
  have hne : ¬ fn.name = "runtime.NumGoroutine" := by simpa using hP.name f fn hf
  refine .inr ⟨by simp [callFunc, hf, hne, hb], ?_⟩
  intro cs
  let b : Frame := { (default : Frame) with fn := f, kind := .normal }
  have hal := hargs.1
  have henter : Frame.enter P f args'.toArray .normal = b.at { tmps := args'.toArray ++ Array.replicate (fn.ntmps - args'.toArray.size) undef, defers := [] } [.code c] := by
    simp [Frame.enter, Frame.at, hf, hb, b]
  have hS : StR ρ fn.ntmps (padTo fn.ntmps args) { tmps := args'.toArray ++ Array.replicate (fn.ntmps - args'.toArray.size) undef, defers := [] } := by
    refine ⟨by simp; omega, fun t => ?_⟩
    rw [tget_pad, tget_eq]
    by_cases ht : t < args.length
    · have ht' : t < args'.length := by omega
      have := hargs.2 t args[t] args'[t] (List.getElem?_eq_getElem ht) (List.getElem?_eq_getElem ht')
      simpa [Array.getD_eq_getD_getElem?, Array.getElem?_append_left, ht, ht', List.getElem?_eq_getElem] using this
    · have ht' : ¬ t < args'.length := by omega
      have h1 : args[t]? = none := List.getElem?_eq_none (by omega)
      rw [h1]
      have h2 : ((args'.toArray ++ Array.replicate (fn.ntmps - args'.toArray.size) undef).getD t undef) = undef := by
        rw [Array.getD_eq_getD_getElem?, Array.getElem?_append_right (by simp; omega)]
        rw [Array.getElem?_replicate]
        split <;> rfl
      simp only [Option.getD_none]
      rw [h2]
      exact VR.undef ρ
  obtain ⟨ρ', a', w', td, j, l', rs', hsteps0, hleft, hj, hS', hres, hR1, hM1, hmk, hrs⟩ := h (by simp [okIt, hP.code f fn c hf hb]) ρ ρ w w _ b cs [] (fun r hr => by cases hr) hG hR hS hR (Moves.refl _ _ _) ⟨rfl, List.nodup_nil, fun r hr => by cases hr⟩ (fun r hr => by cases hr)
  have hb0 : b.roundOf = none := rfl
  have hsteps : Steps P _ (lone { b.at a' td with mode := .returning } cs w') := hsteps0.trans (.one (by
    rw [← Frame.atR_of_none hb0]
    cases j with
    | none => simp only [Left] at hleft; subst hleft; exact stepR_end hb0
    | some c' =>
      cases c' with
      | ret => obtain ⟨k', rfl⟩ := hleft; exact stepR_ret hb0
      | _ => simp [retB] at hj))
  rw [Frame.atR_of_none hb0] at hsteps
  obtain ⟨w2, hsteps2, hR', hM⟩ := marks_run rs' { b.at a' td with mode := .returning } cs w' a'.defers hmk (fun r hr => hrs r hr) (by simp) rfl hR1 hM1
  obtain ⟨v', hv', hvr⟩ := results_run hS' hR' hres
  refine ⟨.returned v', w2, { { b.at a' td with mode := .returning } with defers := [] }, ⟨v', ρ', rfl, hvr, hR', hM⟩, ?_, rfl, rfl, rfl, rfl, fn, hf, hv'⟩
  rw [henter]
  exact hsteps.trans hsteps2

/-- What becomes of a row of the caller: it is as it was at the begin, it has been written, it is given up. -/
def BaseBy (g : Nat → Option Nat) (x a b : Option ARow) : Prop := (a = x ∧ b = x) ∨ (∃ r r2, a = some r ∧ b = some r2 ∧ RowBy g r r2) ∨ b = none
theorem EndsA.renumB {todo : List It} {A B R : Heap} {ids : List Nat} {m : List Keep} {fs : List Value} (hB : B.length = A0.length) (hbase : ∀ i, i < A0.length → BaseBy (inNum A0.length ids) (hget A0 i) (hget A i) (hget B i)) (hids : ∀ i ∈ ids, A0.length ≤ i) (hnd : nodupB ids = true) (hm : fn.ntmps ≤ m.length) (hl : slotsTo (inNum A0.length ids) m l = some (l2, fs)) (hfs : ∀ v ∈ fs, freeB v = true) (hrows : RowsBy (inNum A0.length ids) A ids R)
    (h : EndsA P G fn A0 v A1 todo l2 (B ++ R)) : EndsA P G fn A0 v A1 todo l A := by
  intro hok ρ0 ρ w0 w a b cs rs hro hG0 hR0 hS hR hM hmk hrs
  let ρ2 : Loc := fun i => if i < A0.length then ρ i else match ids[i - A0.length]? with | some j => ρ j | none => none
  have a1 : ∀ i, i < A0.length → ρ2 i = ρ i := fun i hi => by simp [ρ2, hi]
  have a2 : ∀ k j, ids[k]? = some j → ρ2 (A0.length + k) = ρ j := fun k j hk => by
    have : ¬ A0.length + k < A0.length := by omega
    simp only [ρ2, if_neg this, Nat.add_sub_cancel_left, hk]
  have hin : ∀ i j, inNum A0.length ids i = some j → ρ2 j = ρ i := by
    intro i j h
    unfold inNum at h
    split at h
    · rename_i hi; cases h; exact a1 _ hi
    · cases hp : place i ids with
      | none => rw [hp] at h; cases h
      | some k => rw [hp] at h; cases h; exact a2 k i (place_get hp)
  have hRl := hrows.length
  have trans : ∀ {x x1 x2 : Value}, VR ρ0 x x1 → VR ρ x x2 → VR ρ2 x x2 := fun h1 h2 => VR.transfer (fun i L hi => a1 i (by
    rcases Nat.lt_or_ge i A0.length with h | h
    · exact h
    · rw [hR0.sup i h] at hi; cases hi)) h1 h2
  have getA : ∀ i r, hget (B ++ R) i = some r → (i < A0.length ∧ hget A0 i = some r ∧ hget A i = some r) ∨ (∃ k j r0, i = A0.length + k ∧ ids[k]? = some j ∧ hget A j = some r0 ∧ RowBy (inNum A0.length ids) r0 r) ∨ (∃ r0, i < A0.length ∧ hget A i = some r0 ∧ RowBy (inNum A0.length ids) r0 r) := by
    intro i r hi
    rw [hget_append] at hi
    split at hi
    · rename_i hlt
      rw [hB] at hlt
      rcases hbase i hlt with ⟨h1, h2⟩ | ⟨r0, r2, h1, h2, h3⟩ | h1
      · rw [h2] at hi; rw [hi] at h1; exact .inl ⟨hlt, hi, h1⟩
      · rw [h2] at hi; cases hi; exact .inr (.inr ⟨r0, hlt, h1, h3⟩)
      · rw [h1] at hi; cases hi
    · rename_i hge
      obtain ⟨j, r0, h1, h2, h3⟩ := hrows.get hi
      rw [hB] at h1 hge
      exact .inr (.inl ⟨i - A0.length, j, r0, by omega, h1, h2, h3⟩)
  have hS2 : StR ρ2 fn.ntmps l2 a := by
    obtain ⟨hlen, hget⟩ := slotsTo_get hl hfs
    refine ⟨hS.size, fun t => ?_⟩
    by_cases ht : t < m.length
    · exact (hget t ht).sound hin (hS.tmps t)
    · have h1 : tget l2 t = undef := by rw [tget_eq, List.getElem?_eq_none (by omega)]; rfl
      have h2 : a.tmps.getD t undef = undef := by
        rw [Array.getD_eq_getD_getElem?, Array.getElem?_eq_none (by rw [hS.size]; omega)]; rfl
      rw [h1, h2]
      exact VR.undef _
  have ge : ∀ {k j : Nat}, ids[k]? = some j → A0.length ≤ j := fun h => hids _ (List.mem_of_getElem? h)
  -- a row's number in A
  have src : ∀ i r L, hget (B ++ R) i = some r → ρ2 i = some L → ∃ j r0, hget A j = some r0 ∧ ρ j = some L ∧ r.isOwn = r0.isOwn ∧ ((i < A0.length ∧ j = i) ∨ ∃ k, i = A0.length + k ∧ ids[k]? = some j) := by
    intro i r L hi hL
    rcases getA i r hi with ⟨hlt, h1, h2⟩ | ⟨k, j, r0, rfl, hj, hg, hby⟩ | ⟨r0, hlt, hg, hby⟩
    · exact ⟨i, r, h2, by rw [← a1 i hlt]; exact hL, rfl, .inl ⟨hlt, rfl⟩⟩
    · exact ⟨j, r0, hg, by rw [← a2 k j hj]; exact hL, hby.own, .inr ⟨k, rfl, hj⟩⟩
    · exact ⟨i, r0, hg, by rw [← a1 i hlt]; exact hL, hby.own, .inl ⟨hlt, rfl⟩⟩
  have hR2 : Rel P ρ2 (B ++ R) w := by
    refine ⟨fun i hi => ?_, fun i r hi => ?_, fun i r L hi hL => ?_, fun i j r q L M hi hj hL hM' hne hr => ?_⟩
    · simp only [List.length_append, hRl, hB] at hi
      have h1 : ¬ i < A0.length := by omega
      have h2 : ids[i - A0.length]? = none := List.getElem?_eq_none (by omega)
      simp only [ρ2, if_neg h1, h2]
    · rcases getA i r hi with ⟨hlt, _, h2⟩ | ⟨k, j, r0, rfl, hj, hg, _⟩ | ⟨r0, hlt, hg, _⟩
      · rw [a1 i hlt]; exact hR.has i r h2
      · rw [a2 k j hj]; exact hR.has j r0 hg
      · rw [a1 i hlt]; exact hR.has i r0 hg
    · rcases getA i r hi with ⟨hlt, h1, h2⟩ | ⟨k, j, r0, rfl, hj, hg, hby⟩ | ⟨r0, hlt, hg, hby⟩
      · rw [a1 i hlt] at hL
        have hr2 := hR.row i r L h2 hL
        obtain ⟨L1, hL1, hr1⟩ := hR0.found h1
        cases r with
        | cells cs e use =>
          obtain ⟨cs', e', fz, b1, b2, b3, b4⟩ := hr2
          obtain ⟨ds', d', dz, c1, c2, c3, c4⟩ := hr1
          exact ⟨cs', e', fz, b1, fun o x hx => let ⟨x2, y1, y2⟩ := b2 o x hx; let ⟨x1, _, z2⟩ := c2 o x hx; ⟨x2, y1, trans z2 y2⟩, b3, b4⟩
        | iter s p => exact hr2
        | loop =>
          obtain ⟨t2, f2, d2, b1, b2, b3⟩ := hr2
          obtain ⟨t1, f1, d1, c1, c2, _⟩ := hr1
          exact ⟨t2, f2, d2, b1, fun k => trans (c2 k) (b2 k), b3⟩
        | map =>
          obtain ⟨es2, b1, b2, b3⟩ := hr2
          obtain ⟨es1, c1, c2, c3⟩ := hr1
          exact ⟨es2, b1, b2, fun k key val born hk => let ⟨e2, y1, y2, y3, y4⟩ := b3 k key val born hk; let ⟨e1, _, _, _, z4⟩ := c3 k key val born hk; ⟨e2, y1, y2, y3, trans z4 y4⟩⟩
        | miter =>
          obtain ⟨o2, M2, b1, b2⟩ := hr2
          obtain ⟨_, M1, c1, _⟩ := hr1
          obtain ⟨L3, hL3, he⟩ := (trans (VR.ptr (o := 0) c1) (VR.ptr (o := 0) b1)).ptr_inv
          have he' : M2.blk = L3.blk := by simp only [Value.pointer.injEq, Option.some.injEq, Addr.mk.injEq] at he; exact he.1
          exact ⟨o2, L3, hL3, by rw [← he']; exact b2⟩
      · rw [a2 k j hj] at hL
        exact hby.ok hin (hR.row j r0 L hg hL)
      · rw [a1 i hlt] at hL
        exact hby.ok hin (hR.row i r0 L hg hL)
    · obtain ⟨i', r0, h1, h2, h3, h4⟩ := src i r L hi hL
      obtain ⟨j', q0, g1, g2, g3, g4⟩ := src j q M hj hM'
      refine hR.sep i' j' r0 q0 L M h1 g1 h2 g2 ?_ (h3 ▸ hr)
      intro e
      apply hne
      rcases h4 with ⟨x1, x2⟩ | ⟨k, x1, x2⟩ <;> rcases g4 with ⟨y1, y2⟩ | ⟨k', y1, y2⟩
      · rw [← x2, ← y2]; exact e
      · have := ge y2; omega
      · have := ge x2; omega
      · subst e
        have := nodup_get hnd k k' i' x2 y2
        omega
  have hM2 : Moves ρ0 A0 w0 ρ2 (B ++ R) w := by
    refine ⟨fun i L hi => ?_, by simp [hB], fun i hi => (a1 i hi).trans (hM.same i hi), hM.size, hM.frame, fun i r L hi hL => ?_, hM.out, hM.loops⟩
    · have hlt : i < A0.length := by
        rcases Nat.lt_or_ge i A0.length with h | h
        · exact h
        · rw [hR0.sup i h] at hi; cases hi
      rw [a1 i hlt]; exact hM.pre i L hi
    · obtain ⟨j, r0, h1, h2, h3, h4⟩ := src i r L hi hL
      rcases hM.rows j r0 L h1 h2 with ⟨hlt, r', g1, g2⟩ | h5 | h5
      · rcases h4 with ⟨x1, rfl⟩ | ⟨k, _, x2⟩
        · exact .inl ⟨x1, r', g1, fun ho => g2 (h3 ▸ ho)⟩
        · have := ge x2; omega
      · exact .inr (.inl h5)
      · exact .inr (.inr h5)
  exact h hok ρ0 ρ2 w0 w a b cs rs hro hG0 hR0 hS2 hR2 hM2 hmk hrs
end
/-- Slots, one by one. -/
inductive SlotsTo (g : Nat → Option Nat) : List Keep → List Value → List Value → List Value → Prop
  | nil : SlotsTo g [] [] [] []
  | no {v : Value} {m : List Keep} {l l2 fs : List Value} (h : boolB v = false) (t : SlotsTo g m l l2 fs) : SlotsTo g (.no :: m) (v :: l) (junk :: l2) fs
  | ren {v x : Value} {m : List Keep} {l l2 fs : List Value} (h : vBy g 6 v = some x) (t : SlotsTo g m l l2 fs) : SlotsTo g (.ren :: m) (v :: l) (x :: l2) fs
  | free {v : Value} {m : List Keep} {l l2 fs : List Value} (h : freeB v = true) (t : SlotsTo g m l l2 fs) : SlotsTo g (.free :: m) (v :: l) (v :: l2) (v :: fs)
theorem SlotsTo.eq {g : Nat → Option Nat} {m : List Keep} {l l2 fs : List Value} (h : SlotsTo g m l l2 fs) : slotsTo g m l = some (l2, fs) ∧ ∀ v ∈ fs, freeB v = true := by
  induction h with
  | nil => exact ⟨rfl, fun v hv => by cases hv⟩
  | no h _ ih => exact ⟨by simp only [slotsTo, List.headD_cons, List.tail_cons, h, ih.1], ih.2⟩
  | ren h _ ih => exact ⟨by simp only [slotsTo, List.headD_cons, List.tail_cons, h, ih.1], ih.2⟩
  | free h _ ih => exact ⟨by simp only [slotsTo, List.headD_cons, List.tail_cons, ih.1], fun v hv => by
      rcases List.mem_cons.1 hv with rfl | hv
      · exact h
      · exact ih.2 v hv⟩
theorem EndsA.renumS {P : Program} {G : Nat} {fn : Func} {A0 A1 A : Heap} {v : Value} {l l2 : List Value} {todo : List It} {B R : Heap} {ids : List Nat} {m : List Keep} {fs : List Value} (hB : B.length = A0.length) (hbase : ∀ i, i < A0.length → BaseBy (inNum A0.length ids) (hget A0 i) (hget A i) (hget B i)) (hids : ∀ i ∈ ids, A0.length ≤ i) (hnd : nodupB ids = true) (hm : fn.ntmps ≤ m.length)
    (hrows : RowsBy (inNum A0.length ids) A ids R) (hl : SlotsTo (inNum A0.length ids) m l l2 fs) (h : EndsA P G fn A0 v A1 todo l2 (B ++ R)) : EndsA P G fn A0 v A1 todo l A :=
  EndsA.renumB hB hbase hids hnd hm hl.eq.1 hl.eq.2 hrows h
/-- No row of the caller has been written. -/
theorem base_same {g : Nat → Option Nat} {A0 X : Heap} : ∀ i, i < A0.length → BaseBy g (hget A0 i) (hget (A0 ++ X) i) (hget A0 i) := fun i hi => .inl ⟨by rw [hget_append, if_pos hi], rfl⟩
section
variable {P : Program} {G : Nat} {E : Env} {fn : Func} {A0 A A2 : Heap} {v : Value} {l l1 l2 : List Value} {lim : Nat}
end
/-- A range over a function, from what the call of the function gives. -/
theorem Runs.rangeFunc {P : Program} {E : Env} {lim f : Nat} {g : Operand} {ps : Array Tmp} {asg bo : Code} {l tm : List Value} {A A' : Heap} {first cap : Array Value} {v : Value} {ps' : Array Tmp} {asg' bo' : Code} {st : LoopState} (hg : ev l g = .func (.func f) first cap)
    (hc : Gives P E lim f (first.toList ++ [.func (.yield A.length) #[] #[]] ++ cap.toList) (A ++ [some (.loop l ps asg bo .ready none)]) (v, A')) (hr : hget A' A.length = some (.loop tm ps' asg' bo' st none)) (hst : st ≠ .busy) :
    Runs P E lim [.code (.rangeFunc g ps asg bo)] l A (l, hset A' A.length (some (.loop tm ps' asg' bo' .exhausted none)), none) := by
  obtain ⟨n, hn⟩ := hc
  refine ⟨n + 2, ?_⟩
  have hn' : aCallBy P E (aRun P E (n + 1)) lim f (first.toList ++ [.func (.yield A.length) #[] #[]] ++ cap.toList) (A ++ [some (.loop l ps asg bo .ready none)]) = some (v, A') := aCall_mono (Nat.le_succ n) _ _ _ _ _ hn
  show aStep P _ _ lim _ _ l A = _
  simp only [aStep, aRangeFunc, hg, hn', hr, hst, ne_eq, not_false_eq_true, if_true]
  rfl
end Go.Abs
/-
Contracts of a whole family of calls: over rows of their arguments, or at exact rows that they write.
-/
namespace Go.Abs
open Go
theorem known_gives {P : Program} {E : Env} {lim : Nat} {f : FuncId} {args : List Value} {A : Heap} {r : Value × Heap} (h : E.known lim f args A = some r) : Gives P E lim f args A r := ⟨0, by simp only [aCall, aCallBy, h]⟩
theorem ints_inj : ∀ {l m : List Int}, ints l = ints m → l = m
  | [], [], _ => rfl
  | [], _ :: _, h => by simp [ints] at h
  | _ :: _, [], h => by simp [ints] at h
  | a :: l, b :: m, h => by
    simp only [ints, List.map_cons, List.cons.injEq, Value.int.injEq, true_and] at h
    rw [h.1, ints_inj (l := l) (m := m) h.2]
/-- A family of calls over rows of their arguments: what belongs to whom. -/
structure Fam where
  ι : Type
  ok : ι → Prop
  args : ι → List Value
  rows : ι → Heap
  val : ι → Value
  new : ι → Heap
  one : ∀ i j, ok i → ok j → args i = args j → rows i = rows j → val i = val j ∧ new i = new j
open Classical in
noncomputable def Fam.B (F : Fam) (T : Heap) : RowsB := fun _ args R => if h : ∃ i, F.ok i ∧ args = F.args i ∧ R = F.rows i then some (T, F.val (Classical.choose h), F.new (Classical.choose h)) else none
theorem Fam.B_of (F : Fam) (T : Heap) {f : FuncId} (i : F.ι) (hi : F.ok i) : F.B T f (F.args i) (F.rows i) = some (T, F.val i, F.new i) := by
  have he : ∃ j, F.ok j ∧ F.args i = F.args j ∧ F.rows i = F.rows j := ⟨i, hi, rfl, rfl⟩
  unfold Fam.B
  rw [dif_pos he]
  obtain ⟨h1, h2, h3⟩ := Classical.choose_spec he
  obtain ⟨g1, g2⟩ := F.one _ _ hi h1 h2 h3
  rw [← g1, ← g2]
theorem Fam.B_inv (F : Fam) {T T' : Heap} {f : FuncId} {args : List Value} {R R1 : Heap} {v : Value} (h : F.B T f args R = some (T', v, R1)) : ∃ i, F.ok i ∧ args = F.args i ∧ R = F.rows i ∧ T' = T ∧ v = F.val i ∧ R1 = F.new i := by
  unfold Fam.B at h
  by_cases he : ∃ i, F.ok i ∧ args = F.args i ∧ R = F.rows i
  · rw [dif_pos he] at h
    obtain ⟨h1, h2, h3⟩ := Classical.choose_spec he
    cases h
    exact ⟨_, h1, h2, h3, rfl, rfl, rfl⟩
  · rw [dif_neg he] at h; cases h
/-- E, with a family of calls of f0. -/
noncomputable def Env.fam (E : Env) (G : Nat) (T : Heap) (f0 : FuncId) (F : Fam) : Env := E.with fun lim f args A => if f == f0 then rowsKnown G (F.B T) lim f args A else none
theorem Env.fam_ok {P : Program} {G : Nat} {E : Env} {T : Heap} {f0 : FuncId} {F : Fam} (hE : EnvOK P G E) (hT : T.length = G) (hT2 : T.all tableRow = true) (hs : ∀ i, F.ok i → SaysAt P G f0 (F.args i) (T ++ F.rows i) (F.val i) (T ++ F.rows i ++ F.new i)) : EnvOK P G (E.fam G T f0 F) := by
  refine env_says hE fun lim f args A v A' h => ?_
  by_cases hf : (f == f0) = true
  · rw [if_pos hf] at h
    obtain rfl : f = f0 := eq_of_beq hf
    unfold rowsKnown at h
    simp only at h
    split at h
    · rename_i args0 R0 h1 h2
      split at h
      · rename_i T' v0 R1 h3
        obtain ⟨i, hi, rfl, rfl, rfl, rfl, rfl⟩ := F.B_inv h3
        split at h
        · rename_i hc
          simp only [Bool.and_eq_true, List.all_eq_true, decide_eq_true_eq] at hc
          obtain ⟨⟨⟨g1, g2⟩, g3⟩, g4⟩ := hc
          cases hv : valBy (outNum G (dedup (args.flatMap (argIds G))) A.length) (F.val i) with
          | none => rw [hv] at h; cases h
          | some v1 =>
            rw [hv] at h
            cases h
            exact ⟨fun ρ w args' hargs hG hR => rows_says hT hT2 g1 g4 g3 h2 h1 (by simpa [List.all_eq_true] using g2) hv (hs i hi) hargs hG hR, by simp, fun i _ hi => by rw [hget_append, if_pos hi]⟩
        · cases h
      · cases h
    · cases h
  · rw [if_neg hf] at h; cases h
theorem Env.fam_skip {E : Env} {G : Nat} {T : Heap} {f0 f lim : Nat} {F : Fam} {args : List Value} {A : Heap} (h : (f == f0) = false) : (E.fam G T f0 F).known lim f args A = E.known lim f args A := by
  simp only [Env.fam, Env.with, h, Bool.false_eq_true, if_false]
theorem Env.fam_here {E : Env} {G : Nat} {T : Heap} {f0 lim : Nat} {F : Fam} {args : List Value} {A : Heap} {ids : List Nat} {v' : Value} (i : F.ι) (hi : F.ok i) (h0 : dedup (args.flatMap (argIds G)) = ids) (h1 : listRen (valBy (inNum G ids)) args = some (F.args i)) (h2 : rowsAt A ids = some (F.rows i)) (hs : startsB T A = true) (h5 : nodupB ids = true) (h6 : (ids.all fun i => decide (G ≤ i)) = true) (h7 : valBy (outNum G ids A.length) (F.val i) = some v') (h8 : (F.new i).all plainRow = true) :
    (E.fam G T f0 F).known lim f0 args A = some (v', A ++ F.new i) := by
  simp only [Env.fam, Env.with, beq_self_eq_true, if_true, rowsKnown, h0, h1, h2, F.B_of T i hi, hs, h5, h6, h7, h8, Bool.and_self, Option.map_some]
/-- A family of calls at exact rows, some of which they write. -/
structure FamX where
  ι : Type
  ok : ι → Prop
  args : ι → List Value
  rows : ι → Heap
  val : ι → Value
  out : ι → Heap
  one : ∀ i j, ok i → ok j → args i = args j → rows i = rows j → val i = val j ∧ out i = out j
open Classical in
noncomputable def FamX.K (F : FamX) (L : Nat) : Nat → List Value → Heap → Option (Value × Heap) := fun lim args A => if h : ∃ i, F.ok i ∧ args = F.args i ∧ A = F.rows i ∧ lim ≤ L then some (F.val (Classical.choose h), F.out (Classical.choose h)) else none
noncomputable def Env.famX (E : Env) (f0 : FuncId) (L : Nat) (F : FamX) : Env := E.with fun lim f args A => if f == f0 then F.K L lim args A else none
theorem Env.famX_ok {P : Program} {G : Nat} {E : Env} {f0 L : Nat} {F : FamX} (hE : EnvOK P G E) (hs : ∀ i, F.ok i → SaysAt P G f0 (F.args i) (F.rows i) (F.val i) (F.out i) ∧ Keeps L (F.rows i) (F.out i)) : EnvOK P G (E.famX f0 L F) := by
  refine env_says hE fun lim f args A v A' h => ?_
  by_cases hf : (f == f0) = true
  · rw [if_pos hf] at h
    obtain rfl : f = f0 := eq_of_beq hf
    unfold FamX.K at h
    by_cases he : ∃ i, F.ok i ∧ args = F.args i ∧ A = F.rows i ∧ lim ≤ L
    · rw [dif_pos he] at h
      obtain ⟨h1, h2, h3, h4⟩ := Classical.choose_spec he
      cases h
      obtain ⟨s1, s2, s3⟩ := hs _ h1
      rw [← h2, ← h3] at s1
      rw [← h3] at s2 s3
      exact ⟨s1, s2, fun i hi hl => s3 i (by omega) hl⟩
    · rw [dif_neg he] at h; cases h
  · rw [if_neg hf] at h; cases h
theorem Env.famX_here {E : Env} {f0 L lim : Nat} {F : FamX} (i : F.ι) (hi : F.ok i) (hl : lim ≤ L) : (E.famX f0 L F).known lim f0 (F.args i) (F.rows i) = some (F.val i, F.out i) := by
  have he : ∃ j, F.ok j ∧ F.args i = F.args j ∧ F.rows i = F.rows j ∧ lim ≤ L := ⟨i, hi, rfl, rfl, hl⟩
  have h : F.K L lim (F.args i) (F.rows i) = some (F.val i, F.out i) := by
    unfold FamX.K
    rw [dif_pos he]
    obtain ⟨h1, h2, h3, _⟩ := Classical.choose_spec he
    obtain ⟨g1, g2⟩ := F.one _ _ hi h1 h2 h3
    rw [← g1, ← g2]
  simp only [Env.famX, Env.with, beq_self_eq_true, if_true, h]
end Go.Abs
/-
The rest of a call, with a slot that holds a round of a range over a function.
-/
namespace Go.Abs
open Go
/-- A slot may hold a round of a range over a function, too. -/
def SlotByY (g : Nat → Option Nat) (x y : Value) : Prop := SlotBy g x y ∨ ∃ i j, g i = some j ∧ x = .func (.yield i) #[] #[] ∧ y = .func (.yield j) #[] #[]
theorem SlotByY.sound {ρ ρ' : Loc} {g : Nat → Option Nat} {x y c : Value} (h : SlotByY g x y) (hg : ∀ i j, g i = some j → ρ' j = ρ i) (hv : VR ρ x c) : VR ρ' y c := by
  rcases h with h | ⟨i, j, h, rfl, rfl⟩
  · exact h.sound hg hv
  · cases hv with
    | atom ha => simp [atomB] at ha
    | func hy => simp [Fn.notYield] at hy
    | yield hL => exact .yield (by rw [hg i j h]; exact hL)
inductive SlotsY (g : Nat → Option Nat) : List Value → List Value → Prop
  | nil : SlotsY g [] []
  | no {v : Value} {l l2 : List Value} (h : boolB v = false) (t : SlotsY g l l2) : SlotsY g (v :: l) (junk :: l2)
  | ren {v x : Value} {l l2 : List Value} (h : vBy g 6 v = some x) (t : SlotsY g l l2) : SlotsY g (v :: l) (x :: l2)
  | free {v : Value} {l l2 : List Value} (h : freeB v = true) (t : SlotsY g l l2) : SlotsY g (v :: l) (v :: l2)
  | yld {i j : Nat} {l l2 : List Value} (h : g i = some j) (t : SlotsY g l l2) : SlotsY g (.func (.yield i) #[] #[] :: l) (.func (.yield j) #[] #[] :: l2)
theorem tget_cons_zero (v : Value) (l : List Value) : tget (v :: l) 0 = v := by rw [tget_eq]; rfl
theorem tget_cons_succ (v : Value) (l : List Value) (t : Nat) : tget (v :: l) (t + 1) = tget l t := by rw [tget_eq, tget_eq, List.getElem?_cons_succ]
theorem SlotsY.get {g : Nat → Option Nat} {l l2 : List Value} (h : SlotsY g l l2) : l2.length = l.length ∧ ∀ t, t < l2.length → SlotByY g (tget l t) (tget l2 t) := by
  induction h with
  | nil => exact ⟨rfl, fun t ht => by simp at ht⟩
  | no h _ ih => exact ⟨by simp [ih.1], fun t ht => by
      cases t with
      | zero => rw [tget_cons_zero, tget_cons_zero]; exact .inl (.inl ⟨rfl, h⟩)
      | succ t => rw [tget_cons_succ, tget_cons_succ]; exact ih.2 t (by simpa using ht)⟩
  | ren h _ ih => exact ⟨by simp [ih.1], fun t ht => by
      cases t with
      | zero => rw [tget_cons_zero, tget_cons_zero]; exact .inl (.inr (.inl h))
      | succ t => rw [tget_cons_succ, tget_cons_succ]; exact ih.2 t (by simpa using ht)⟩
  | free h _ ih => exact ⟨by simp [ih.1], fun t ht => by
      cases t with
      | zero => rw [tget_cons_zero, tget_cons_zero]; exact .inl (.inr (.inr ⟨rfl, h⟩))
      | succ t => rw [tget_cons_succ, tget_cons_succ]; exact ih.2 t (by simpa using ht)⟩
  | yld h _ ih => exact ⟨by simp [ih.1], fun t ht => by
      cases t with
      | zero => rw [tget_cons_zero, tget_cons_zero]; exact .inr ⟨_, _, h, rfl, rfl⟩
      | succ t => rw [tget_cons_succ, tget_cons_succ]; exact ih.2 t (by simpa using ht)⟩
theorem EndsA.renumC {P : Program} {G : Nat} {fn : Func} {A0 A1 : Heap} {v : Value} {l l2 : List Value} {todo : List It} {A B R : Heap} {ids : List Nat} (hB : B.length = A0.length) (hbase : ∀ i, i < A0.length → BaseBy (inNum A0.length ids) (hget A0 i) (hget A i) (hget B i)) (hids : ∀ i ∈ ids, A0.length ≤ i) (hnd : nodupB ids = true) (hl : SlotsY (inNum A0.length ids) l l2) (hrows : RowsBy (inNum A0.length ids) A ids R) (hm : fn.ntmps ≤ l2.length)
    (h : EndsA P G fn A0 v A1 todo l2 (B ++ R)) : EndsA P G fn A0 v A1 todo l A := by
  intro hok ρ0 ρ w0 w a b cs rs hro hG0 hR0 hS hR hM hmk hrs
  let ρ2 : Loc := fun i => if i < A0.length then ρ i else match ids[i - A0.length]? with | some j => ρ j | none => none
  have a1 : ∀ i, i < A0.length → ρ2 i = ρ i := fun i hi => by simp [ρ2, hi]
  have a2 : ∀ k j, ids[k]? = some j → ρ2 (A0.length + k) = ρ j := fun k j hk => by
    have : ¬ A0.length + k < A0.length := by omega
    simp only [ρ2, if_neg this, Nat.add_sub_cancel_left, hk]
  have hin : ∀ i j, inNum A0.length ids i = some j → ρ2 j = ρ i := by
    intro i j h
    unfold inNum at h
    split at h
    · rename_i hi; cases h; exact a1 _ hi
    · cases hp : place i ids with
      | none => rw [hp] at h; cases h
      | some k => rw [hp] at h; cases h; exact a2 k i (place_get hp)
  have hRl := hrows.length
  have trans : ∀ {x x1 x2 : Value}, VR ρ0 x x1 → VR ρ x x2 → VR ρ2 x x2 := fun h1 h2 => VR.transfer (fun i L hi => a1 i (by
    rcases Nat.lt_or_ge i A0.length with h | h
    · exact h
    · rw [hR0.sup i h] at hi; cases hi)) h1 h2
  have getA : ∀ i r, hget (B ++ R) i = some r → (i < A0.length ∧ hget A0 i = some r ∧ hget A i = some r) ∨ (∃ k j r0, i = A0.length + k ∧ ids[k]? = some j ∧ hget A j = some r0 ∧ RowBy (inNum A0.length ids) r0 r) ∨ (∃ r0, i < A0.length ∧ hget A i = some r0 ∧ RowBy (inNum A0.length ids) r0 r) := by
    intro i r hi
    rw [hget_append] at hi
    split at hi
    · rename_i hlt
      rw [hB] at hlt
      rcases hbase i hlt with ⟨h1, h2⟩ | ⟨r0, r2, h1, h2, h3⟩ | h1
      · rw [h2] at hi; rw [hi] at h1; exact .inl ⟨hlt, hi, h1⟩
      · rw [h2] at hi; cases hi; exact .inr (.inr ⟨r0, hlt, h1, h3⟩)
      · rw [h1] at hi; cases hi
    · rename_i hge
      obtain ⟨j, r0, h1, h2, h3⟩ := hrows.get hi
      rw [hB] at h1 hge
      exact .inr (.inl ⟨i - A0.length, j, r0, by omega, h1, h2, h3⟩)
  have hS2 : StR ρ2 fn.ntmps l2 a := by
    obtain ⟨hlen, hget⟩ := hl.get
    refine ⟨hS.size, fun t => ?_⟩
    by_cases ht : t < l2.length
    · exact (hget t ht).sound hin (hS.tmps t)
    · have h1 : tget l2 t = undef := by rw [tget_eq, List.getElem?_eq_none (by omega)]; rfl
      have h2 : a.tmps.getD t undef = undef := by
        rw [Array.getD_eq_getD_getElem?, Array.getElem?_eq_none (by rw [hS.size]; omega)]; rfl
      rw [h1, h2]
      exact VR.undef _
  have ge : ∀ {k j : Nat}, ids[k]? = some j → A0.length ≤ j := fun h => hids _ (List.mem_of_getElem? h)
  -- a row's number in A
  have src : ∀ i r L, hget (B ++ R) i = some r → ρ2 i = some L → ∃ j r0, hget A j = some r0 ∧ ρ j = some L ∧ r.isOwn = r0.isOwn ∧ ((i < A0.length ∧ j = i) ∨ ∃ k, i = A0.length + k ∧ ids[k]? = some j) := by
    intro i r L hi hL
    rcases getA i r hi with ⟨hlt, h1, h2⟩ | ⟨k, j, r0, rfl, hj, hg, hby⟩ | ⟨r0, hlt, hg, hby⟩
    · exact ⟨i, r, h2, by rw [← a1 i hlt]; exact hL, rfl, .inl ⟨hlt, rfl⟩⟩
    · exact ⟨j, r0, hg, by rw [← a2 k j hj]; exact hL, hby.own, .inr ⟨k, rfl, hj⟩⟩
    · exact ⟨i, r0, hg, by rw [← a1 i hlt]; exact hL, hby.own, .inl ⟨hlt, rfl⟩⟩
  have hR2 : Rel P ρ2 (B ++ R) w := by
    refine ⟨fun i hi => ?_, fun i r hi => ?_, fun i r L hi hL => ?_, fun i j r q L M hi hj hL hM' hne hr => ?_⟩
    · simp only [List.length_append, hRl, hB] at hi
      have h1 : ¬ i < A0.length := by omega
      have h2 : ids[i - A0.length]? = none := List.getElem?_eq_none (by omega)
      simp only [ρ2, if_neg h1, h2]
    · rcases getA i r hi with ⟨hlt, _, h2⟩ | ⟨k, j, r0, rfl, hj, hg, _⟩ | ⟨r0, hlt, hg, _⟩
      · rw [a1 i hlt]; exact hR.has i r h2
      · rw [a2 k j hj]; exact hR.has j r0 hg
      · rw [a1 i hlt]; exact hR.has i r0 hg
    · rcases getA i r hi with ⟨hlt, h1, h2⟩ | ⟨k, j, r0, rfl, hj, hg, hby⟩ | ⟨r0, hlt, hg, hby⟩
      · rw [a1 i hlt] at hL
        have hr2 := hR.row i r L h2 hL
        obtain ⟨L1, hL1, hr1⟩ := hR0.found h1
        cases r with
        | cells cs e use =>
          obtain ⟨cs', e', fz, b1, b2, b3, b4⟩ := hr2
          obtain ⟨ds', d', dz, c1, c2, c3, c4⟩ := hr1
          exact ⟨cs', e', fz, b1, fun o x hx => let ⟨x2, y1, y2⟩ := b2 o x hx; let ⟨x1, _, z2⟩ := c2 o x hx; ⟨x2, y1, trans z2 y2⟩, b3, b4⟩
        | iter s p => exact hr2
        | loop =>
          obtain ⟨t2, f2, d2, b1, b2, b3⟩ := hr2
          obtain ⟨t1, f1, d1, c1, c2, _⟩ := hr1
          exact ⟨t2, f2, d2, b1, fun k => trans (c2 k) (b2 k), b3⟩
        | map =>
          obtain ⟨es2, b1, b2, b3⟩ := hr2
          obtain ⟨es1, c1, c2, c3⟩ := hr1
          exact ⟨es2, b1, b2, fun k key val born hk => let ⟨e2, y1, y2, y3, y4⟩ := b3 k key val born hk; let ⟨e1, _, _, _, z4⟩ := c3 k key val born hk; ⟨e2, y1, y2, y3, trans z4 y4⟩⟩
        | miter =>
          obtain ⟨o2, M2, b1, b2⟩ := hr2
          obtain ⟨_, M1, c1, _⟩ := hr1
          obtain ⟨L3, hL3, he⟩ := (trans (VR.ptr (o := 0) c1) (VR.ptr (o := 0) b1)).ptr_inv
          have he' : M2.blk = L3.blk := by simp only [Value.pointer.injEq, Option.some.injEq, Addr.mk.injEq] at he; exact he.1
          exact ⟨o2, L3, hL3, by rw [← he']; exact b2⟩
      · rw [a2 k j hj] at hL
        exact hby.ok hin (hR.row j r0 L hg hL)
      · rw [a1 i hlt] at hL
        exact hby.ok hin (hR.row i r0 L hg hL)
    · obtain ⟨i', r0, h1, h2, h3, h4⟩ := src i r L hi hL
      obtain ⟨j', q0, g1, g2, g3, g4⟩ := src j q M hj hM'
      refine hR.sep i' j' r0 q0 L M h1 g1 h2 g2 ?_ (h3 ▸ hr)
      intro e
      apply hne
      rcases h4 with ⟨x1, x2⟩ | ⟨k, x1, x2⟩ <;> rcases g4 with ⟨y1, y2⟩ | ⟨k', y1, y2⟩
      · rw [← x2, ← y2]; exact e
      · have := ge y2; omega
      · have := ge x2; omega
      · subst e
        have := nodup_get hnd k k' i' x2 y2
        omega
  have hM2 : Moves ρ0 A0 w0 ρ2 (B ++ R) w := by
    refine ⟨fun i L hi => ?_, by simp [hB], fun i hi => (a1 i hi).trans (hM.same i hi), hM.size, hM.frame, fun i r L hi hL => ?_, hM.out, hM.loops⟩
    · have hlt : i < A0.length := by
        rcases Nat.lt_or_ge i A0.length with h | h
        · exact h
        · rw [hR0.sup i h] at hi; cases hi
      rw [a1 i hlt]; exact hM.pre i L hi
    · obtain ⟨j, r0, h1, h2, h3, h4⟩ := src i r L hi hL
      rcases hM.rows j r0 L h1 h2 with ⟨hlt, r', g1, g2⟩ | h5 | h5
      · rcases h4 with ⟨x1, rfl⟩ | ⟨k, _, x2⟩
        · exact .inl ⟨x1, r', g1, fun ho => g2 (h3 ▸ ho)⟩
        · have := ge x2; omega
      · exact .inr (.inl h5)
      · exact .inr (.inr h5)
  exact h hok ρ0 ρ2 w0 w a b cs rs hro hG0 hR0 hS2 hR2 hM2 hmk hrs
theorem Runs.nil {P : Program} {E : Env} {lim : Nat} {l : List Value} {A : Heap} : Runs P E lim [] l A (l, A, none) := ⟨1, rfl⟩
end Go.Abs
/-
Loops whose rounds are known: counted, and searching.
-/
namespace Go.Abs
open Go
section
variable {P : Program} {E : Env} {lim id : Nat} {c : Code} {n : Nat}
/-- A loop of n rounds. -/
theorem loop_seq (S : Nat → List Value → Heap → Prop) (T : List Value → Heap → Prop)
    (hA : ∀ i, i < n → ∀ l A, S i l A → ∃ l' A', S (i + 1) l' A' ∧ Runs P E lim [.code c] l A (l', A', none))
    (hC : ∀ l A, S n l A → ∃ l' A', T l' A' ∧ Runs P E lim [.code c, .inLoop c, .inBlock id] l A (l', A', none)) :
    ∀ d i, i + d = n → ∀ l A, S i l A → ∃ l' A', T l' A' ∧ Runs P E lim [.inLoop c, .inBlock id] l A (l', A', none)
  | 0, i, hi, l, A, h => by
    obtain rfl : i = n := hi
    obtain ⟨l', A', h1, h2⟩ := hC l A h
    exact ⟨l', A', h1, Runs.inLoop h2⟩
  | d + 1, i, hi, l, A, h => by
    obtain ⟨l1, A1, h1, h2⟩ := hA i (by omega) l A h
    obtain ⟨l2, A2, h3, h4⟩ := loop_seq S T hA hC d (i + 1) (by omega) l1 A1 h1
    exact ⟨l2, A2, h3, Runs.loopAgain h2 h4⟩
/-- A loop that is left at the first round with a property, by a return. -/
theorem loop_find (p : Nat → Bool) (S R : Nat → List Value → Heap → Prop) (T : List Value → Heap → Prop)
    (hA : ∀ i, i < n → p i = false → ∀ l A, S i l A → ∃ l' A', S (i + 1) l' A' ∧ Runs P E lim [.code c] l A (l', A', none))
    (hB : ∀ i, i < n → p i = true → ∀ l A, S i l A → ∃ l' A', R i l' A' ∧ Runs P E lim [.code c, .inLoop c, .inBlock id] l A (l', A', some .ret))
    (hC : ∀ l A, S n l A → ∃ l' A', T l' A' ∧ Runs P E lim [.code c, .inLoop c, .inBlock id] l A (l', A', none)) :
    ∀ d i, i + d = n → ∀ l A, S i l A →
      (∃ k l' A', i ≤ k ∧ k < n ∧ (∀ j, i ≤ j → j < k → p j = false) ∧ p k = true ∧ R k l' A' ∧ Runs P E lim [.inLoop c, .inBlock id] l A (l', A', some .ret)) ∨
      ((∀ j, i ≤ j → j < n → p j = false) ∧ ∃ l' A', T l' A' ∧ Runs P E lim [.inLoop c, .inBlock id] l A (l', A', none))
  | 0, i, hi, l, A, h => by
    obtain rfl : i = n := hi
    obtain ⟨l', A', h1, h2⟩ := hC l A h
    exact .inr ⟨fun j h1 h2 => by omega, l', A', h1, Runs.inLoop h2⟩
  | d + 1, i, hi, l, A, h => by
    cases hp : p i with
    | true =>
      obtain ⟨l', A', h1, h2⟩ := hB i (by omega) hp l A h
      exact .inl ⟨i, l', A', Nat.le_refl _, by omega, fun j h3 h4 => by omega, hp, h1, Runs.inLoop h2⟩
    | false =>
      obtain ⟨l1, A1, h1, h2⟩ := hA i (by omega) hp l A h
      rcases loop_find p S R T hA hB hC d (i + 1) (by omega) l1 A1 h1 with ⟨k, l', A', k1, k2, k3, k4, k5, k6⟩ | ⟨k1, l', A', k2, k3⟩
      · exact .inl ⟨k, l', A', by omega, k2, fun j j1 j2 => by
          by_cases hj : j = i
          · subst hj; exact hp
          · exact k3 j (by omega) j2, k4, k5, Runs.loopAgain h2 k6⟩
      · exact .inr ⟨fun j j1 j2 => by
          by_cases hj : j = i
          · subst hj; exact hp
          · exact k1 j (by omega) j2, l', A', k2, Runs.loopAgain h2 k3⟩
end
end Go.Abs
namespace Go.Abs
open Go
/-- The first number from i on, of d, with a property. -/
def firstP (p : Nat → Bool) : Nat → Nat → Option Nat
  | _, 0 => none
  | i, d + 1 => if p i then some i else firstP p (i + 1) d
theorem firstP_congr {p q : Nat → Bool} : ∀ {d i : Nat}, (∀ j, i ≤ j → j < i + d → p j = q j) → firstP p i d = firstP q i d
  | 0, _, _ => rfl
  | d + 1, i, h => by
    simp only [firstP]
    rw [h i (Nat.le_refl _) (by omega), firstP_congr (d := d) (i := i + 1) fun j h1 h2 => h j (by omega) (by omega)]
theorem firstP_some {p : Nat → Bool} : ∀ {d i k : Nat}, firstP p i d = some k → i ≤ k ∧ k < i + d ∧ p k = true ∧ ∀ j, i ≤ j → j < k → p j = false
  | 0, _, _, h => by cases h
  | d + 1, i, k, h => by
    simp only [firstP] at h
    cases hp : p i with
    | true => rw [hp] at h; cases h; exact ⟨Nat.le_refl _, by omega, hp, fun j h1 h2 => by omega⟩
    | false =>
      rw [hp] at h
      obtain ⟨h1, h2, h3, h4⟩ := firstP_some (by simpa using h)
      exact ⟨by omega, by omega, h3, fun j j1 j2 => by
        by_cases hj : j = i
        · subst hj; exact hp
        · exact h4 j (by omega) j2⟩
theorem firstP_none {p : Nat → Bool} : ∀ {d i : Nat}, firstP p i d = none → ∀ j, i ≤ j → j < i + d → p j = false
  | 0, _, _, _, _, _ => by omega
  | d + 1, i, h, j, j1, j2 => by
    simp only [firstP] at h
    cases hp : p i with
    | true => rw [hp] at h; cases h
    | false =>
      rw [hp] at h
      by_cases hj : j = i
      · subst hj; exact hp
      · exact firstP_none (d := d) (i := i + 1) (by simpa using h) j (by omega) (by omega)
section
variable {P : Program} {E : Env} {lim id : Nat} {c : Code} {n : Nat}
end
end Go.Abs
/-
Loops that are left at the first round with a property, however they are left.
-/
namespace Go.Abs
open Go
end Go.Abs
/-
The rest of a call, by what is kept of its result.
-/
namespace Go.Abs
open Go
def isSeqC : Code → Bool
  | .seq _ _ => true
  | _ => false
def codeL : Code → Code
  | .seq a _ => a
  | c => c
def codeR : Code → Code
  | .seq _ b => b
  | c => c
theorem isSeqC_eq {c : Code} (h : isSeqC c = true) : c = .seq (codeL c) (codeR c) := by
  cases c <;> first | rfl | cases h
/-- What is kept of a result. -/
def Kept (A0 : Heap) (v : Value) (A1 : Heap) (v' : Value) (A' : Heap) : Prop := A0.length ≤ A1.length ∧ (∀ i, i < A0.length → hget A1 i = hget A0 i) ∧ aGC A0 v A1 = (v', A')
theorem Kept.mk' {A0 X A' : Heap} {v v' : Value} (h : aGC A0 v (A0 ++ X) = (v', A')) : Kept A0 v (A0 ++ X) v' A' := ⟨by simp, fun i hi => by rw [hget_append, if_pos hi], h⟩
/-- THE REST OF A CALL, by what is kept of its result: v' and the rows A'. -/
def EndsG (P : Program) (G : Nat) (fn : Func) (A0 : Heap) (v' : Value) (A' : Heap) (todo : List It) (l : List Value) (A : Heap) : Prop := ∃ v A1, Kept A0 v A1 v' A' ∧ EndsA P G fn A0 v A1 todo l A
section
variable {P : Program} {G : Nat} {E : Env} {fn : Func} {A0 A A' A2 : Heap} {v' : Value} {l l1 l2 : List Value} {lim : Nat}
theorem EndsG.run (hP : ProgOK P G) (hE : EnvOK P G E) {k kk : List It} (h1 : Runs P E lim k l A (l2, A2, none)) (h2 : EndsG P G fn A0 v' A' kk l2 A2) : EndsG P G fn A0 v' A' (k ++ kk) l A := let ⟨v, A1, g, h⟩ := h2; ⟨v, A1, g, EndsA.run hP hE h1 h⟩
theorem EndsG.ret (hP : ProgOK P G) (hE : EnvOK P G E) {k : List It} {X : Heap} {v : Value} {j : Option Code} (h1 : Runs P E lim k l A (l1, A0 ++ X, j)) (hj : retB j = true) (hres : aResults P fn l1 (A0 ++ X) = some v) (hgc : aGC A0 v (A0 ++ X) = (v', A')) : EndsG P G fn A0 v' A' k l A := ⟨v, A0 ++ X, Kept.mk' hgc, EndsA.ret hP hE h1 hj hres⟩
theorem EndsG.out (hP : ProgOK P G) (hE : EnvOK P G E) {k kk : List It} {X : Heap} {v : Value} (h1 : Runs P E lim k l A (l1, A0 ++ X, some .ret)) (hres : aResults P fn l1 (A0 ++ X) = some v) (hgc : aGC A0 v (A0 ++ X) = (v', A')) : EndsG P G fn A0 v' A' (k ++ kk) l A := ⟨v, A0 ++ X, Kept.mk' hgc, EndsA.out hP hE h1 hres⟩
theorem EndsG.round (hP : ProgOK P G) (hE : EnvOK P G E) {c : Code} {k : List It} (h1 : Runs P E lim [.code c] l A (l2, A2, none)) (h2 : EndsG P G fn A0 v' A' (.code c :: .inLoop c :: k) l2 A2) : EndsG P G fn A0 v' A' (.code c :: .inLoop c :: k) l A := let ⟨v, A1, g, h⟩ := h2; ⟨v, A1, g, EndsA.round hP hE h1 h⟩
theorem EndsG.seqO {c : Code} {k : List It} (h0 : isSeqC c = true) (h : EndsG P G fn A0 v' A' (.code (codeL c) :: .code (codeR c) :: k) l A) : EndsG P G fn A0 v' A' (.code c :: k) l A := by
  obtain ⟨v, A1, g, h⟩ := h
  refine ⟨v, A1, g, ?_⟩
  rw [isSeqC_eq h0]
  exact EndsA.seq h
theorem EndsG.blockLoop {C B : Code} {id : Nat} {k : List It} (hC : C = .block id (.loop B)) (h : EndsG P G fn A0 v' A' (.code B :: .inLoop B :: .inBlock id :: k) l A) : EndsG P G fn A0 v' A' (.code C :: k) l A := let ⟨v, A1, g, h⟩ := h; ⟨v, A1, g, EndsA.blockLoop hC h⟩
theorem EndsG.renumS {todo : List It} {X R : Heap} {ids : List Nat} {m : List Keep} {fs : List Value} (hids : (ids.all fun i => decide (A0.length ≤ i)) = true) (hnd : nodupB ids = true) (hm : decide (fn.ntmps ≤ m.length) = true)
    (hrows : RowsBy (inNum A0.length ids) (A0 ++ X) ids R) (hl : SlotsTo (inNum A0.length ids) m l l2 fs) (h : EndsG P G fn A0 v' A' todo l2 (A0 ++ R)) : EndsG P G fn A0 v' A' todo l (A0 ++ X) := by
  obtain ⟨v, A1, g, h⟩ := h
  refine ⟨v, A1, g, EndsA.renumS (B := A0) rfl base_same (fun i hi => ?_) hnd (of_decide_eq_true hm) hrows hl h⟩
  have := List.all_eq_true.1 hids i hi
  simpa using this
theorem EndsG.says (hP : ProgOK P G) {f : FuncId} {c : Code} {args : List Value} (hf : P.funcs[f]? = some fn) (hb : fn.body = some c) (hnt : decide (fn.ntmps < args.length) = false) (h : EndsG P G fn A v' A' [.code c] (padTo fn.ntmps args) A) : SaysAt P G f args A v' A' := by
  obtain ⟨v, A1, ⟨g1, g2, g3⟩, h⟩ := h
  exact EndsA.says hP hf hb (of_decide_eq_false hnt) h g1 g2 g3
end
theorem firstP_hit {p : Nat → Bool} {i d : Nat} (h : p i = true) : firstP p i (d + 1) = some i := by simp only [firstP, h, if_true]
theorem firstP_miss {p : Nat → Bool} {i d : Nat} (h : p i = false) : firstP p i (d + 1) = firstP p (i + 1) d := by simp only [firstP, h, Bool.false_eq_true, if_false]
theorem gc_of {A A' : Heap} {v v' : Value} {ids : List Nat} {r : Option ARow} {R : Heap} (h1 : valIds A.length v = ids) (h2 : valRen A.length ids v = some v') (h3 : keptRows A' ids = some (r :: R)) (h4 : nodupB ids = true) : aGC A v A' = (v', A ++ (r :: R)) := by
  unfold aGC
  rw [h1, h2, h3]
  simp [h4]
/-- Kept rows, said otherwise. -/
theorem EndsG.rows {P : Program} {G : Nat} {fn : Func} {A0 A' : Heap} {v' : Value} {todo : List It} {l : List Value} {R R' : Heap} (e : R' = R) (h : EndsG P G fn A0 v' A' todo l (A0 ++ R')) : EndsG P G fn A0 v' A' todo l (A0 ++ R) := e ▸ h
/-- The value at the round at which a loop is left, or the one at its end. -/
def ofP (o : Option Nat) (f : Nat → Value) (v : Value) : Value := match o with
  | some k => f k
  | none => v
/-- A slot's kind: it may hold a bool, or it never does. -/
def JB (bs : List Nat) (k : Nat) : Bool := bs.elem k
/-- Slots of which nothing is known but where bools may be. -/
def JF (bs : List Nat) (f : Nat → Value) : Prop := ∀ k, (JB bs k = true → freeB (f k) = true) ∧ (JB bs k = false → boolB (f k) = false)
inductive JL (bs : List Nat) : Nat → List Value → Prop
  | nil {k : Nat} : JL bs k []
  | bo {k : Nat} {v : Value} {l : List Value} (hb : JB bs k = true) (h : freeB v = true) (t : JL bs (k + 1) l) : JL bs k (v :: l)
  | no {k : Nat} {v : Value} {l : List Value} (hb : JB bs k = false) (h : boolB v = false) (t : JL bs (k + 1) l) : JL bs k (v :: l)
theorem JL.get {bs : List Nat} {d : Value} (hd : atomB d = true) (hd' : boolB d = false) {k : Nat} {l : List Value} (h : JL bs k l) : ∀ i, (JB bs (k + i) = true → freeB (l.getD i d) = true) ∧ (JB bs (k + i) = false → boolB (l.getD i d) = false) := by
  induction h with
  | nil =>
    intro i
    simp only [List.getD_nil]
    exact ⟨fun _ => by cases d <;> simp_all [freeB, atomB], fun _ => hd'⟩
  | @bo k v l hb hv _ ih =>
    intro i
    cases i with
    | zero => exact ⟨fun _ => hv, fun h => (by rw [Nat.add_zero, hb] at h; cases h)⟩
    | succ i => have := ih i; rw [show k + 1 + i = k + (i + 1) by omega] at this; exact this
  | @no k v l hb hv _ ih =>
    intro i
    cases i with
    | zero => exact ⟨fun h => (by rw [Nat.add_zero, hb] at h; cases h), fun _ => hv⟩
    | succ i => have := ih i; rw [show k + 1 + i = k + (i + 1) by omega] at this; exact this
theorem JL.fn {bs : List Nat} {l : List Value} (h : JL bs 0 l) : JF bs (fun k => l.getD k (.int .i64 0)) := fun k => by
  have := h.get (d := .int .i64 0) rfl rfl k
  rwa [Nat.zero_add] at this
/-- Runs of slots: closed ones by one check, unknown ones by JF. -/
def JL.b (bs : List Nat) (k : Nat) (v : Value) : Bool := match JB bs k with
  | true => freeB v
  | false => !boolB v
section
variable {bs : List Nat} {k : Nat} {l : List Value} {f : Nat → Value} {g : Nat → Option Nat} {m : List Keep} {l2 fs : List Value}
theorem JL.c1 {v : Value} (h : JL.b bs k v = true) (t : JL bs (k + 1) l) : JL bs k (v :: l) := by
  unfold JL.b at h
  cases hb : JB bs k with
  | true => rw [hb] at h; exact .bo hb h t
  | false => rw [hb] at h; exact .no hb (by simpa using h) t
theorem JL.f1 (hj : JF bs f) (t : JL bs (k + 1) l) : JL bs k (f k :: l) := by
  cases hb : JB bs k with
  | true => exact .bo hb ((hj k).1 hb) t
  | false => exact .no hb ((hj k).2 hb) t
theorem SlotsTo.n1 {v : Value} (h : (!boolB v) = true) (t : SlotsTo g m l l2 fs) : SlotsTo g (.no :: m) (v :: l) (junk :: l2) fs := .no (by simpa using h) t
theorem SlotsTo.j1 (k : Nat) (hj : JF bs f) (hb : (!JB bs k) = true) (t : SlotsTo g m l l2 fs) : SlotsTo g (.no :: m) (f k :: l) (junk :: l2) fs := .no ((hj k).2 (by simpa using hb)) t
theorem JL.c2 {a0 a1 : Value} (h : (JL.b bs k a0 && JL.b bs (k + 1) a1) = true) (t : JL bs (k + 2) l) : JL bs k (a0 :: a1 :: l) := .c1 (Bool.and_eq_true_iff.1 h).1 (.c1 (Bool.and_eq_true_iff.1 h).2 t)
theorem JL.f2 (hj : JF bs f) (t : JL bs (k + 2) l) : JL bs k (f k :: f (k + 1) :: l) := .f1 hj (.f1 hj t)
theorem SlotsTo.n2 {a0 a1 : Value} (h : (!boolB a0 && !boolB a1) = true) (t : SlotsTo g m l l2 fs) : SlotsTo g (.no :: .no :: m) (a0 :: a1 :: l) (junk :: junk :: l2) fs := .n1 (Bool.and_eq_true_iff.1 h).1 (.n1 (Bool.and_eq_true_iff.1 h).2 t)
theorem SlotsTo.j2 (k : Nat) (hj : JF bs f) (hb : (!JB bs k && !JB bs (k + 1)) = true) (t : SlotsTo g m l l2 fs) : SlotsTo g (.no :: .no :: m) (f k :: f (k + 1) :: l) (junk :: junk :: l2) fs := .j1 k hj (Bool.and_eq_true_iff.1 hb).1 (.j1 (k + 1) hj (Bool.and_eq_true_iff.1 hb).2 t)
theorem JL.c4 {a0 a1 a2 a3 : Value} (h : ((JL.b bs k a0 && JL.b bs (k + 1) a1) && (JL.b bs (k + 2) a2 && JL.b bs (k + 3) a3)) = true) (t : JL bs (k + 4) l) : JL bs k (a0 :: a1 :: a2 :: a3 :: l) := .c2 (Bool.and_eq_true_iff.1 h).1 (.c2 (Bool.and_eq_true_iff.1 h).2 t)
theorem JL.f4 (hj : JF bs f) (t : JL bs (k + 4) l) : JL bs k (f k :: f (k + 1) :: f (k + 2) :: f (k + 3) :: l) := .f2 hj (.f2 hj t)
theorem SlotsTo.n4 {a0 a1 a2 a3 : Value} (h : ((!boolB a0 && !boolB a1) && (!boolB a2 && !boolB a3)) = true) (t : SlotsTo g m l l2 fs) : SlotsTo g (.no :: .no :: .no :: .no :: m) (a0 :: a1 :: a2 :: a3 :: l) (junk :: junk :: junk :: junk :: l2) fs := .n2 (Bool.and_eq_true_iff.1 h).1 (.n2 (Bool.and_eq_true_iff.1 h).2 t)
theorem SlotsTo.j4 (k : Nat) (hj : JF bs f) (hb : ((!JB bs k && !JB bs (k + 1)) && (!JB bs (k + 2) && !JB bs (k + 3))) = true) (t : SlotsTo g m l l2 fs) : SlotsTo g (.no :: .no :: .no :: .no :: m) (f k :: f (k + 1) :: f (k + 2) :: f (k + 3) :: l) (junk :: junk :: junk :: junk :: l2) fs := .j2 k hj (Bool.and_eq_true_iff.1 hb).1 (.j2 (k + 2) hj (Bool.and_eq_true_iff.1 hb).2 t)
theorem JL.c8 {a0 a1 a2 a3 a4 a5 a6 a7 : Value} (h : (((JL.b bs k a0 && JL.b bs (k + 1) a1) && (JL.b bs (k + 2) a2 && JL.b bs (k + 3) a3)) && ((JL.b bs (k + 4) a4 && JL.b bs (k + 5) a5) && (JL.b bs (k + 6) a6 && JL.b bs (k + 7) a7))) = true) (t : JL bs (k + 8) l) : JL bs k (a0 :: a1 :: a2 :: a3 :: a4 :: a5 :: a6 :: a7 :: l) := .c4 (Bool.and_eq_true_iff.1 h).1 (.c4 (Bool.and_eq_true_iff.1 h).2 t)
theorem JL.f8 (hj : JF bs f) (t : JL bs (k + 8) l) : JL bs k (f k :: f (k + 1) :: f (k + 2) :: f (k + 3) :: f (k + 4) :: f (k + 5) :: f (k + 6) :: f (k + 7) :: l) := .f4 hj (.f4 hj t)
theorem SlotsTo.n8 {a0 a1 a2 a3 a4 a5 a6 a7 : Value} (h : (((!boolB a0 && !boolB a1) && (!boolB a2 && !boolB a3)) && ((!boolB a4 && !boolB a5) && (!boolB a6 && !boolB a7))) = true) (t : SlotsTo g m l l2 fs) : SlotsTo g (.no :: .no :: .no :: .no :: .no :: .no :: .no :: .no :: m) (a0 :: a1 :: a2 :: a3 :: a4 :: a5 :: a6 :: a7 :: l) (junk :: junk :: junk :: junk :: junk :: junk :: junk :: junk :: l2) fs := .n4 (Bool.and_eq_true_iff.1 h).1 (.n4 (Bool.and_eq_true_iff.1 h).2 t)
theorem SlotsTo.j8 (k : Nat) (hj : JF bs f) (hb : (((!JB bs k && !JB bs (k + 1)) && (!JB bs (k + 2) && !JB bs (k + 3))) && ((!JB bs (k + 4) && !JB bs (k + 5)) && (!JB bs (k + 6) && !JB bs (k + 7)))) = true) (t : SlotsTo g m l l2 fs) : SlotsTo g (.no :: .no :: .no :: .no :: .no :: .no :: .no :: .no :: m) (f k :: f (k + 1) :: f (k + 2) :: f (k + 3) :: f (k + 4) :: f (k + 5) :: f (k + 6) :: f (k + 7) :: l) (junk :: junk :: junk :: junk :: junk :: junk :: junk :: junk :: l2) fs := .j4 k hj (Bool.and_eq_true_iff.1 hb).1 (.j4 (k + 4) hj (Bool.and_eq_true_iff.1 hb).2 t)
theorem JL.c16 {a0 a1 a2 a3 a4 a5 a6 a7 a8 a9 a10 a11 a12 a13 a14 a15 : Value} (h : ((((JL.b bs k a0 && JL.b bs (k + 1) a1) && (JL.b bs (k + 2) a2 && JL.b bs (k + 3) a3)) && ((JL.b bs (k + 4) a4 && JL.b bs (k + 5) a5) && (JL.b bs (k + 6) a6 && JL.b bs (k + 7) a7))) && (((JL.b bs (k + 8) a8 && JL.b bs (k + 9) a9) && (JL.b bs (k + 10) a10 && JL.b bs (k + 11) a11)) && ((JL.b bs (k + 12) a12 && JL.b bs (k + 13) a13) && (JL.b bs (k + 14) a14 && JL.b bs (k + 15) a15)))) = true) (t : JL bs (k + 16) l) : JL bs k (a0 :: a1 :: a2 :: a3 :: a4 :: a5 :: a6 :: a7 :: a8 :: a9 :: a10 :: a11 :: a12 :: a13 :: a14 :: a15 :: l) := .c8 (Bool.and_eq_true_iff.1 h).1 (.c8 (Bool.and_eq_true_iff.1 h).2 t)
theorem JL.f16 (hj : JF bs f) (t : JL bs (k + 16) l) : JL bs k (f k :: f (k + 1) :: f (k + 2) :: f (k + 3) :: f (k + 4) :: f (k + 5) :: f (k + 6) :: f (k + 7) :: f (k + 8) :: f (k + 9) :: f (k + 10) :: f (k + 11) :: f (k + 12) :: f (k + 13) :: f (k + 14) :: f (k + 15) :: l) := .f8 hj (.f8 hj t)
theorem SlotsTo.n16 {a0 a1 a2 a3 a4 a5 a6 a7 a8 a9 a10 a11 a12 a13 a14 a15 : Value} (h : ((((!boolB a0 && !boolB a1) && (!boolB a2 && !boolB a3)) && ((!boolB a4 && !boolB a5) && (!boolB a6 && !boolB a7))) && (((!boolB a8 && !boolB a9) && (!boolB a10 && !boolB a11)) && ((!boolB a12 && !boolB a13) && (!boolB a14 && !boolB a15)))) = true) (t : SlotsTo g m l l2 fs) : SlotsTo g (.no :: .no :: .no :: .no :: .no :: .no :: .no :: .no :: .no :: .no :: .no :: .no :: .no :: .no :: .no :: .no :: m) (a0 :: a1 :: a2 :: a3 :: a4 :: a5 :: a6 :: a7 :: a8 :: a9 :: a10 :: a11 :: a12 :: a13 :: a14 :: a15 :: l) (junk :: junk :: junk :: junk :: junk :: junk :: junk :: junk :: junk :: junk :: junk :: junk :: junk :: junk :: junk :: junk :: l2) fs := .n8 (Bool.and_eq_true_iff.1 h).1 (.n8 (Bool.and_eq_true_iff.1 h).2 t)
end
end Go.Abs
/-
Rows of a caller, one by one; ranges over functions.
-/
namespace Go.Abs
open Go
/-- Rows of the caller, one by one. -/
inductive BasesBy (g : Nat → Option Nat) : Heap → Heap → Heap → Prop
  | nil {A : Heap} : BasesBy g [] A []
  | cons {x y z : Option ARow} {X Y Z : Heap} (h : BaseBy g x y z) (t : BasesBy g X Y Z) : BasesBy g (x :: X) (y :: Y) (z :: Z)
theorem BasesBy.get {g : Nat → Option Nat} {X Y Z : Heap} (h : BasesBy g X Y Z) : ∀ i, i < X.length → BaseBy g (hget X i) (hget Y i) (hget Z i) := by
  induction h with
  | nil => intro i hi; simp at hi
  | cons h _ ih =>
    intro i hi
    cases i with
    | zero => exact h
    | succ i => exact ih i (by simpa using hi)
/-- The rounds of a range over a function. -/
def rfA : Code → Code
  | .rangeFunc _ _ x _ => x
  | c => c
def rfB : Code → Code
  | .rangeFunc _ _ _ x => x
  | c => c
theorem Runs.blockRF {P : Program} {E : Env} {lim id f : Nat} {g : Operand} {ps : Array Tmp} {asg bo C : Code} {l tm : List Value} {A A' : Heap} {first cap : Array Value} {v : Value} {ps' : Array Tmp} {asg' bo' : Code} {st : LoopState} (hC : C = .block id (.rangeFunc g ps asg bo)) (hg : ev l g = .func (.func f) first cap)
    (hc : Gives P E lim f (first.toList ++ [.func (.yield A.length) #[] #[]] ++ cap.toList) (A ++ [some (.loop l ps asg bo .ready none)]) (v, A')) (hr : hget A' A.length = some (.loop tm ps' asg' bo' st none)) (hst : st ≠ .busy) :
    Runs P E lim [.code C] l A (l, hset A' A.length (some (.loop tm ps' asg' bo' .exhausted none)), none) := by
  subst hC
  exact Runs.block ((Runs.rangeFunc hg hc hr hst).app (kk := [.inBlock id]) ⟨2, rfl⟩)
section
variable {P : Program} {G : Nat} {fn : Func} {A0 A1 A : Heap} {v : Value} {l : List Value}
theorem EndsA.seqO {c : Code} {k : List It} (h0 : isSeqC c = true) (h : EndsA P G fn A0 v A1 (.code (codeL c) :: .code (codeR c) :: k) l A) : EndsA P G fn A0 v A1 (.code c :: k) l A := by
  rw [isSeqC_eq h0]
  exact EndsA.seq h
end
end Go.Abs
