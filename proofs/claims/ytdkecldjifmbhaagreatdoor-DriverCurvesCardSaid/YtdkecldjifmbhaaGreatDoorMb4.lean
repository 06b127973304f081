/-
Joined: Seat, Mp.
-/
import Derived.Test.YtdkecldjifmbhaaGreatDoorMb2
import Derived.Test.YtdkecldjifmbhaaGreatDoorMb3
import Derived.Test.YtdkecldjifmbhaaGreatDoorProg
import Derived.KernelRfl
import Derived.WalkKit
import Derived.Laws.IdiomRangeMap
set_option linter.unusedVariables false
set_option linter.unusedSimpArgs false
set_option linter.unusedSectionVars false
/-
The seat's program, its tables and its library, as the abstract machine wants them.
-/
namespace Go.Proofs.YtdkecldjifmbhaaGreatDoor
open Go Go.Abs

theorem prog_ok : ProgOK Tryz.prog 4 := progOK_spec (by kernel_rfl)
def memN (l : List Nat) (n : Nat) : Bool := l.any fun m => m == n
/-- Functions that write rows of their callers. -/
def env0 : Env := { impure := memN [91, 104, 107, 108, 113, 119, 111, 96, 98], known := fun _ _ _ _ => none }
theorem env0_ok : EnvOK Tryz.prog 4 env0 := ⟨fun _ _ _ _ _ _ h => (by cases h), fun _ _ _ _ _ _ h => (by cases h)⟩
def lits (k : IntKind) (l : List Int) : List Value := l.map (.int k)
def H (X : Heap) : Heap :=
  some (.cells (lits .i64 [1,50,0,10,1,20,1,100,1,5000,1,100]) 0 .ro) ::
  some (.cells (lits .u64 [1,10,100,1000,10000,100000,1000000,10000000,100000000,1000000000,10000000000,100000000000,1000000000000,10000000000000,100000000000000,1000000000000000,10000000000000000,100000000000000000,1000000000000000000,10000000000000000000]) 0 .ro) ::
  some (.cells (lits .u8 [0,1,28,2,29,14,24,3,30,22,20,15,25,17,4,8,31,27,13,23,21,19,16,7,26,12,18,6,11,5,10,9]) 0 .ro) ::
  some (.cells (lits .u8 [0,1,56,2,57,49,28,3,61,58,42,50,38,29,17,4,62,47,59,36,45,43,51,22,53,39,33,30,24,18,12,5,63,55,48,27,60,41,37,16,46,35,44,21,52,32,23,11,54,26,40,15,34,20,31,10,25,14,19,9,13,8,7,6]) 0 .ro) ::
  X
/-- The tables, as rows. -/
def heap0 : Heap := H []
noncomputable def bodyOf (f : FuncId) : Code := match Tryz.prog.funcs[f]? with
  | some fn => fn.body.getD .skip
  | none => .skip
/-- A number. -/
abbrev I (n : Int) : Value := .int .i64 n
/-- A pointer; a slice; none; a variable's row; a slice's row; two numbers. -/
abbrev pt (i o : Nat) : Value := .pointer (some ⟨i, o, none⟩)
abbrev sl (i o n c : Nat) : Value := .slice (some ⟨i, o, none⟩) n c
abbrev sn : Value := .slice none 0 0
abbrev rvar (cs : List Value) (e : Nat) : Option ARow := some (.cells cs e .var)
abbrev rrow (cs : List Value) (e : Nat) : Option ARow := some (.cells cs e .row)
abbrev g2 (a b : Int) : Value := .agg #[I a, I b]
/-- Nothing. -/
abbrev U : Value := .tuple #[]
def us (n : Nat) : List Value := List.replicate n U
/-- No table at all. -/
def heapN : Heap := [none, none, none, none]
theorem heapN_ok {E : Env} {f : FuncId} {args : List Value} {v : Value} (h : Gives Tryz.prog E 0 f args heapN (v, heapN)) : 4 ≤ heapN.length ∧ heapN.all tableRow = true ∧ Gives Tryz.prog E 0 f args heapN (v, heapN) := ⟨by decide, by decide, h⟩
theorem heap0_ok {E : Env} {f : FuncId} {args : List Value} {v : Value} (h : Gives Tryz.prog E 0 f args heap0 (v, heap0)) : 4 ≤ heap0.length ∧ heap0.all tableRow = true ∧ Gives Tryz.prog E 0 f args heap0 (v, heap0) := ⟨by decide, by decide, h⟩
theorem known_of {P : Program} {E : Env} {lim : Nat} {f : FuncId} {args : List Value} {A A' : Heap} {v : Value} (h : E.known lim f args A = some (v, A')) : Gives P E lim f args A (v, A') := ⟨0, by simp only [aCall, aCallBy, h]⟩
theorem ite_or {α : Type} {c : Bool} {a b : Option α} {r : α} (h : (if c then a else b) = some r) : (c = true ∧ a = some r) ∨ b = some r := by
  cases c
  · exact .inr h
  · exact .inl ⟨rfl, h⟩
end Go.Proofs.YtdkecldjifmbhaaGreatDoor
/-
A range over a map that only searches: whatever the order of the entries.
-/
namespace Go.Proofs.YtdkecldjifmbhaaGreatDoor
open Go

/-- Whether the map's key has all of s. -/
def hasKey (s : Int) : Value → Bool
  | .int _ k => bits .and .u64 s k == s
  | _ => false
def hasAll (s : Int) (x : MapEntry) : Bool := hasKey s x.key
set_option maxRecDepth 1000000 in
theorem walk64 (bm : Nat) (es : Array MapEntry) (clock : Nat) (s : Int) (w : World) (hb : w.heap[bm]? = some (.map es clock)) (hst : (∀ x ∈ es.toList, x.born < clock) ∧ (es.toList.map (·.born)).Nodup) (hv : ∀ x ∈ es.toList, ∃ v, x.key = .int .u64 v) :
    Calls Tryz.prog 64 #[.int .u64 s, .map (some bm)] w fun e w' => e = .returned (.bool (es.toList.any fun x => hasAll s x)) ∧ ∃ (w1 : World) (seen : Array Nat), w1.Alike w ∧ w' = w1.alloc (.mapIter (some bm) clock seen clock) := by
  have hrg := run_range_map (P := Tryz.prog) w 118 121 4 bm es clock Tryz.underlying118 hb
  go_enter Tryz.func64, Tryz.ntmps64
  go_wp2
  go_loopw [] (fun w' => ∃ (w1 : World) (seen : Array Nat), w1.Alike w ∧ w' = w1.alloc (.mapIter (some bm) clock seen clock) ∧ ∀ x ∈ es.toList, seen.contains x.born = true → hasAll s x = false) (fun w' => (leftOf es (w'.iterSeen w.heap.size)).size)
  case atStart => exact ⟨w, #[], ⟨rfl, rfl, rfl⟩, rfl, fun x _ h => by simp at h⟩
  case round =>
    obtain ⟨w1, seen, hal, rfl, hno⟩ := hrel
    have hsz : w1.heap.size = w.heap.size := by rw [hal.1]
    have hb1 : w1.heap[bm]? = some (.map es clock) := by rw [hal.1]; exact hb
    have law := run_next_map (P := Tryz.prog) w1 0 bm clock clock seen es clock hb1 hst.1 (Nat.le_refl _)
    rw [hsz] at law
    rcases law with ⟨h0, hrun⟩ | ⟨e, he, w2, hal2, hrun⟩
    · have hnx : ∀ ty, (Instr.next (.pointer (some ⟨w.heap.size, 0, none⟩)) false ty).run Tryz.prog (w1.alloc (.mapIter (some bm) clock seen clock)) = _ := fun _ => hrun
      go_wp2
      go_ret
      have hf : (es.toList.any fun x => hasAll s x) = false := by
        rw [List.any_eq_false]
        intro x hx
        have := hno x hx (all_seen es seen h0 x hx)
        simpa using this
      rw [hf]
      exact ⟨rfl, w1, seen, hal, rfl⟩
    · obtain ⟨v, hkey⟩ := hv e (mem_left he).1
      rw [hkey] at hrun
      have hnx : ∀ ty, (Instr.next (.pointer (some ⟨w.heap.size, 0, none⟩)) false ty).run Tryz.prog (w1.alloc (.mapIter (some bm) clock seen clock)) = _ := fun _ => hrun
      have hsz2 : w2.heap.size = w.heap.size := by rw [hal2.1, hal.1]
      have hb2 : w2.heap[bm]? = some (.map es clock) := by rw [hal2.1]; exact hb1
      have hen := run_entry_map (P := Tryz.prog) w2 bm clock seen es clock e hb2 (mem_left he).1 hst.2
      rw [hsz2, hkey] at hen
      have hal3 : w2.Alike w := ⟨hal2.1.trans hal.1, hal2.2.1.trans hal.2.1, hal2.2.2.trans hal.2.2⟩
      go_wp2
      · rename_i heq
        go_ret
        have ht : (es.toList.any fun x => hasAll s x) = true := List.any_eq_true.2 ⟨e, (mem_left he).1, by simp only [hasAll, hasKey, hkey]; exact heq⟩
        rw [ht]
        exact ⟨rfl, w2, _, hal3, rfl⟩
      · rename_i hne
        go_roundw
        case rel =>
          refine ⟨w2, seen.push e.born, hal3, rfl, fun x hx hc => ?_⟩
          rw [contains_push] at hc
          rcases Bool.or_eq_true _ _ ▸ hc with h1 | h1
          · exact hno x hx h1
          · have : x = e := born_inj hst.2 hx (mem_left he).1 (beq_iff_eq.1 h1)
            subst this
            simp only [hasAll, hasKey, hkey]
            exact hne
        case measure =>
          rw [← hsz2, World.iterSeen_alloc, hsz2, ← hsz, World.iterSeen_alloc]
          exact left_shrinks es seen e he
end Go.Proofs.YtdkecldjifmbhaaGreatDoor
namespace Go.Abs
open Go
/-- An iterator more is a new block alone. -/
theorem Rel.wider {P : Program} {ρ : Loc} {A : Heap} {w w' : World} (h : Rel P ρ A w) (hs : w.heap.size ≤ w'.heap.size) (hb : ∀ b, b < w.heap.size → w'.heap[b]? = w.heap[b]?) (ho : w'.os = w.os ∧ w'.output = w.output) : Rel P ρ A w' ∧ Moves ρ A w ρ A w' :=
  ⟨⟨h.sup, h.has, fun i r L hi hL => have h0 := h.row i r L hi hL; h0.move (Ext.refl _) (hb _ h0.lt), h.sep⟩, Ext.refl _, Nat.le_refl _, fun _ _ => rfl, hs, fun b hlt _ => hb b hlt, fun _ r _ hi _ => .inl ⟨hget_lt hi, r, hi, id⟩, ho,
    fun b hl => hl.of_eq (hb b (let ⟨_, hr⟩ := hl; (Array.getElem?_eq_some_iff.1 hr).1))⟩
end Go.Abs
namespace Go.Proofs.YtdkecldjifmbhaaGreatDoor
open Go Go.Abs
def keyInt : Value × Value × Nat → Bool
  | (.int .u64 _, _, _) => true
  | _ => false
def bornsOK (clock : Nat) : List (Value × Value × Nat) → Bool
  | [] => true
  | (_, _, b) :: es => decide (b < clock) && (es.all fun x => !(x.2.2 == b)) && bornsOK clock es
theorem bornsOK_spec {clock : Nat} : ∀ {es : List (Value × Value × Nat)}, bornsOK clock es = true → (∀ x ∈ es, x.2.2 < clock) ∧ (es.map (·.2.2)).Nodup
  | [], _ => ⟨fun x hx => (List.not_mem_nil hx).elim, List.nodup_nil⟩
  | (k, v, b) :: es, h => by
    simp only [bornsOK, Bool.and_eq_true, decide_eq_true_eq, List.all_eq_true, Bool.not_eq_true', beq_eq_false_iff_ne] at h
    obtain ⟨⟨h1, h2⟩, h3⟩ := h
    obtain ⟨g1, g2⟩ := bornsOK_spec h3
    refine ⟨fun x hx => ?_, ?_⟩
    · rcases List.mem_cons.1 hx with rfl | hx
      · exact h1
      · exact g1 x hx
    · simp only [List.map_cons]
      refine List.nodup_cons.2 ⟨fun hm => ?_, g2⟩
      obtain ⟨x, hx, hb⟩ := List.mem_map.1 hm
      exact h2 x hx hb
noncomputable def mapKnown : Nat → FuncId → List Value → Heap → Option (Value × Heap) := fun _ f args A =>
  if f == 64 then
    match args with
    | [.int .u64 s, .map (some i)] =>
      match hget A i with
      | some (.map es clock) => if es.all keyInt && bornsOK clock es then some (.bool (es.any fun x => hasKey s x.1), A) else none
      | _ => none
    | _ => none
  else none
noncomputable def envM : Env := { impure := env0.impure, known := mapKnown }
theorem envM_ok : EnvOK Tryz.prog 4 envM := by
  refine ⟨?_, ?_⟩
  · intro lim f args A v A' h ρ w args' hargs hG hR
    simp only [envM, mapKnown] at h
    split at h
    · rename_i hf
      have hf : f = 64 := by simpa using hf
      subst hf
      split at h
      · rename_i s i
        split at h
        · rename_i es clock hrow
          split at h
          · rename_i hc
            cases h
            simp only [Bool.and_eq_true] at hc
            obtain ⟨hkeys, hborn⟩ := hc
            obtain ⟨L, hL, es', hb, hsz, hent⟩ := hR.found hrow
            obtain ⟨x1, l1, rfl, hx1, hl1⟩ := hargs.uncons
            obtain ⟨x2, l2, rfl, hx2, hl2⟩ := hl1.uncons
            obtain rfl : l2 = [] := List.length_eq_zero_iff.1 (by simpa using hl2.1.symm)
            obtain rfl := hx1.int_inv
            have hx2' : x2 = .map (some L.blk) := by
              cases hx2 with
              | atom ha => simp [atomB] at ha
              | map hL2 => rw [hL] at hL2; cases hL2; rfl
            subst hx2'
            -- the entries
            have ent : ∀ x ∈ es'.toList, ∃ k : Nat, ∃ y ∈ es, y.1 = x.key ∧ y.2.2 = x.born ∧ es[k]? = some y ∧ es'[k]? = some x := by
              intro x hx
              obtain ⟨k, hk⟩ := List.mem_iff_getElem?.1 hx
              have hk' : es'[k]? = some x := by simpa using hk
              have hlt : k < es.length := by rw [← hsz]; exact (Array.getElem?_eq_some_iff.1 hk').1
              obtain ⟨⟨key, val, born⟩, hg⟩ : ∃ y, es[k]? = some y := ⟨_, List.getElem?_eq_getElem hlt⟩
              obtain ⟨e', a, b, c, _⟩ := hent k key val born hg
              rw [hk'] at a; cases a
              exact ⟨k, _, List.mem_of_getElem? hg, b.symm, c.symm, hg, hk'⟩
            have borns : es'.toList.map (·.born) = es.map (·.2.2) := by
              refine List.ext_getElem? fun k => ?_
              simp only [List.getElem?_map]
              cases hy : es[k]? with
              | none =>
                have : es'.toList[k]? = none := by
                  rw [List.getElem?_eq_none_iff] at hy ⊢
                  simpa [hsz] using hy
                rw [this]; rfl
              | some y =>
                obtain ⟨key, val, born⟩ := y
                obtain ⟨e', a, b, c, _⟩ := hent k key val born hy
                have : es'.toList[k]? = some e' := by simpa using a
                rw [this]; simp [c]
            obtain ⟨hb1, hb2⟩ := bornsOK_spec hborn
            have hst : (∀ x ∈ es'.toList, x.born < clock) ∧ (es'.toList.map (·.born)).Nodup := by
              refine ⟨fun x hx => ?_, by rw [borns]; exact hb2⟩
              obtain ⟨k, y, hy, _, e2, _⟩ := ent x hx
              rw [← e2]; exact hb1 y hy
            have hv : ∀ x ∈ es'.toList, ∃ v, x.key = .int .u64 v := by
              intro x hx
              obtain ⟨k, y, hy, e1, _⟩ := ent x hx
              have := List.all_eq_true.1 hkeys y hy
              unfold keyInt at this
              split at this
              · exact ⟨_, e1.symm⟩
              · cases this
            have hany : (es'.toList.any fun x => hasAll s x) = es.any fun x => hasKey s x.1 := by
              rw [Bool.eq_iff_iff, List.any_eq_true, List.any_eq_true]
              constructor
              · rintro ⟨x, hx, h1⟩
                obtain ⟨k, y, hy, e1, _⟩ := ent x hx
                exact ⟨y, hy, by rw [e1]; exact h1⟩
              · rintro ⟨y, hy, h1⟩
                obtain ⟨k, hk⟩ := List.mem_iff_getElem?.1 hy
                obtain ⟨key, val, born⟩ := y
                obtain ⟨e', a, b, c, _⟩ := hent k key val born hk
                refine ⟨e', List.mem_iff_getElem?.2 ⟨k, by simpa using a⟩, ?_⟩
                unfold hasAll
                rw [b]; exact h1
            refine .inr ⟨?_, (walk64 L.blk es' clock s w hb hst hv).mono ?_⟩
            · have hne : ¬ Tryz.f64.name = "runtime.NumGoroutine" := by simpa using prog_ok.name 64 Tryz.f64 Tryz.func64
              obtain ⟨cd, hbd⟩ : ∃ cd, Tryz.f64.body = some cd := ⟨_, rfl⟩
              simp [callFunc, Tryz.func64, hne, hbd]
            · rintro e w' ⟨rfl, w1, seen, hal, rfl⟩
              refine ⟨_, ρ, rfl, ?_, ?_⟩
              · rw [hany]; exact .atom rfl
              · refine hR.wider ?_ ?_ ?_
                · simp [World.alloc, hal.1]
                · intro b hb
                  rw [heap_alloc_old _ _ (by rw [hal.1]; exact hb), hal.1]
                · exact ⟨hal.2.1, hal.2.2⟩
          · cases h
        · cases h
      · cases h
    · cases h
  · intro lim f args A v A' h
    simp only [envM, mapKnown] at h
    split at h
    · split at h
      · split at h
        · split at h
          · cases h; exact Keeps.refl _ _
          · cases h
        · cases h
      · cases h
    · cases h
end Go.Proofs.YtdkecldjifmbhaaGreatDoor
