/-
The abstract machine: a call of it is a call of the model.
-/
import Derived.Test.YtnhmokgakpknlaaGreatDoorAb21
namespace Go.Abs
open Go

/-- A CALL OF THE ABSTRACT MACHINE IS A CALL OF THE MODEL. -/
theorem call_sound {P : Program} {G : Nat} {E : Env} (hP : ProgOK P G) (hE : EnvOK P G E) (n : Nat) : CallOK P G (aCall P E n) :=
  call_ok hP hE (fun _ _ hC => draw_says hP.mixed hC) (fun _ _ hC => draw_keeps hC) n

theorem noEnv_ok (P : Program) (G : Nat) : EnvOK P G noEnv := ⟨fun _ _ _ _ _ _ h => (by cases h), fun _ _ _ _ _ _ h => (by cases h)⟩

/-- What is asked of a program, to be computed. -/
def progOK (P : Program) (G : Nat) : Bool :=
  decide (G = P.globals.size) && P.follows .mixedOrders && P.funcs.toList.all fun fn => !(fn.name == "runtime.NumGoroutine") && match fn.body with
    | some c => okCode G fn.ntmps c
    | none => true
theorem progOK_spec {P : Program} {G : Nat} (h : progOK P G = true) : ProgOK P G := by
  unfold progOK at h
  simp only [Bool.and_eq_true] at h
  obtain ⟨⟨h0, h1⟩, h2⟩ := h
  have key : ∀ (f : FuncId) (fn : Func), P.funcs[f]? = some fn → _ := fun f fn hf => List.all_eq_true.1 h2 fn (List.mem_of_getElem? (by rw [Array.getElem?_toList]; exact hf))
  refine ⟨fun f fn c hf hb => ?_, h1, fun f fn hf => ?_, by simpa using h0⟩
  · have := key f fn hf
    simp only [hb, Bool.and_eq_true] at this
    exact this.2
  · have := key f fn hf
    simp only [Bool.and_eq_true, Bool.not_eq_true'] at this
    exact this.1
end Go.Abs
