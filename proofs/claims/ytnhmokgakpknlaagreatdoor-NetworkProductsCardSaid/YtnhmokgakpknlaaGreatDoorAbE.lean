/-
The abstract machine: two functions of the library without bodies.
-/
import Derived.Test.YtnhmokgakpknlaaGreatDoorAb22
import Derived.Laws.Externs
import Derived.Lib.MakeNoZero
import Derived.Lib.Builder
namespace Go.Abs
open Go

/-- internal/abi.NoEscape hands its argument back; internal/bytealg.MakeNoZero makes a row of bytes that are not known. -/
def libKnown (ne mk : FuncId) (e : TypeId) : Nat → FuncId → List Value → Heap → Option (Value × Heap) := fun _ f args A =>
  if f == ne then
    match args with
    | [x] => some (x, A)
    | _ => none
  else if f == mk then
    match args with
    | [.int .i64 n] => if 0 ≤ n ∧ n ≤ 281474976710656 then some (.slice (some ⟨A.length, 0, none⟩) n.toNat n.toNat, A ++ [some (.cells [] e .row)]) else none
    | _ => none
  else none

structure LibOK (P : Program) (ne mk : FuncId) (e : TypeId) : Prop where
  ne_ : ∃ fn, P.funcs[ne]? = some fn ∧ (fn.name == "runtime.NumGoroutine") = false ∧ fn.body.isNone = true ∧ Extern.findNext fn = none ∧ Extern.find fn = some Extern.AbiNoEscape.same
  mk_ : ∃ fn ps t, P.funcs[mk]? = some fn ∧ (fn.name == "runtime.NumGoroutine") = false ∧ fn.body.isNone = true ∧ Extern.findNext fn = none ∧ Extern.find fn = some (Extern.BytealgMakeNoZero.makeNoZero ps #[t]) ∧ P.underlying t = some (.slice e)
  esz : P.cellsOf e = 1

theorem lib_ok {P : Program} {G : Nat} {ne mk : FuncId} {e : TypeId} {imp : FuncId → Bool} (h : LibOK P ne mk e) : EnvOK P G { impure := imp, known := libKnown ne mk e } := by
  refine ⟨?_, ?_⟩
  · intro lim f args A v A' hk ρ w args' hargs hG hR
    simp only [libKnown] at hk
    split at hk
    · rename_i hf
      have hf : f = ne := by simpa using hf
      subst hf
      obtain ⟨fn, f1, f2, f3, f4, f5⟩ := h.ne_
      split at hk
      · rename_i x
        cases hk
        obtain ⟨x', l', rfl, hx, hl⟩ := hargs.uncons
        obtain rfl : l' = [] := List.length_eq_zero_iff.1 (by simpa using hl.1.symm)
        refine .inl ⟨x', w, ρ, ?_, hx, hR, Moves.refl _ _ _⟩
        rw [run_callFunc_extern f1 f2 f3 f4 f5]
        rfl
      · cases hk
    · split at hk
      · rename_i hf
        have hf : f = mk := by simpa using hf
        subst hf
        obtain ⟨fn, ps, t, f1, f2, f3, f4, f5, f6⟩ := h.mk_
        split at hk
        · rename_i n
          split at hk
          · rename_i hn
            cases hk
            obtain ⟨x', l', rfl, hx, hl⟩ := hargs.uncons
            obtain rfl : l' = [] := List.length_eq_zero_iff.1 (by simpa using hl.1.symm)
            obtain rfl := hx.int_inv
            obtain ⟨k, rfl⟩ : ∃ k : Nat, n = k := ⟨n.toNat, by omega⟩
            obtain ⟨cs, hrun, hle, _⟩ := Lib.run_makeNoZero (P := P) w ps t e f6 k (by omega)
            obtain ⟨hR2, hM2⟩ := hR.heap (w' := w.drew.drew) rfl
            obtain ⟨hr, hm⟩ := hR2.alloc (o := .cells cs e) (r := .cells [] e .row) (esz := 1) (fin := cs.size)
              ⟨cs, e, (0, 0), heap_alloc_new _ _, fun o v hv => by simp at hv, fun hc => absurd rfl hc, fun _ => ⟨rfl, rfl, .inl rfl, rfl, fun _ => h.esz.symm⟩⟩
            refine .inl ⟨.slice (some ⟨w.heap.size, 0, none⟩) k cs.size, _, _, ?_, ?_, hr, hM2.trans hm⟩
            · rw [run_callFunc_extern f1 f2 f3 f4 f5, hrun]; rfl
            · simp only [Int.toNat_natCast]
              exact .slice (Loc.put_self _ _ _) hle (.inr rfl) (fun _ => by simp)
          · cases hk
        · cases hk
      · cases hk
  · intro lim f args A v A' hk
    simp only [libKnown] at hk
    repeat' (split at hk)
    all_goals first | (cases hk; exact Keeps.refl _ _) | (cases hk; exact Keeps.push _ _ _) | cases hk
end Go.Abs
