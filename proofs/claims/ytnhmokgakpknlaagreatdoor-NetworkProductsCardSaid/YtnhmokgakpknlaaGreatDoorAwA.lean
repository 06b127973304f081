/-
The examples are known from here on.
-/
import Derived.Test.YtnhmokgakpknlaaGreatDoorAw2
namespace Go.Proofs.YtnhmokgakpknlaaGreatDoor
open Go Go.Abs
def B0 (f : FuncId) (args : List Value) : Option (Heap × Value) :=
  if f == 16 then
    match args with
    | [] => some (heap0, .bool true)
    | _ => none
  else none
def envA : Env := env0.with (baseKnown B0)
theorem envA_ok : EnvOK Tryz.prog 9 envA := env_base prog_ok env0_ok fun f args H v h => by
  unfold B0 at h
  split at h
  · rename_i hf
    have hf : f = 16 := by simpa using hf
    subst hf
    split at h
    · cases h; exact ⟨by decide, by decide, awake_gives⟩
    · cases h
  · cases h
theorem heapN_ok {E : Env} {f : FuncId} {args : List Value} {v : Value} (h : Gives Tryz.prog E 0 f args heapN (v, heapN)) : 9 ≤ heapN.length ∧ heapN.all tableRow = true ∧ Gives Tryz.prog E 0 f args heapN (v, heapN) := ⟨by decide, by decide, h⟩
end Go.Proofs.YtnhmokgakpknlaaGreatDoor
