/-
The abstract machine: from a call of it to the model's contract of a function that leaves all memory that was there.
-/
import Derived.Test.YtnhmokgakpknlaaGreatDoorAb22
import Derived.Test.YtnhmokgakpknlaaGreatDoorAb24
import Derived.OpenShut
namespace Go.Abs
open Go

def noOwn (A : Heap) : Bool := A.all fun r => match r with
  | some r => !r.isOwn
  | none => true
theorem noOwn_spec {A : Heap} (h : noOwn A = true) {ρ : Loc} {b : Nat} : ¬ OwnIn ρ A b := by
  rintro ⟨i, r, L, hi, _, ho, _⟩
  have := List.all_eq_true.1 h (some r) (List.mem_of_getElem? ((hget_eq A i r).1 hi))
  simp [ho] at this
theorem Moves.still {ρ ρ' : Loc} {A A' : Heap} {w w' : World} (h : Moves ρ A w ρ' A' w') (hn : noOwn A = true) : ∀ b, b < w.heap.size → w'.heap[b]? = w.heap[b]? := fun b hb => h.frame b hb (noOwn_spec hn)

/-- A call of the machine from a heap without own rows, of which the model enters the function. -/
theorem calls_of {P : Program} {G : Nat} {E : Env} {n lim : Nat} {f : FuncId} {fn : Func} {c : Code} {args args' : List Value} {A A' : Heap} {v : Value} {ρ : Loc} {w : World} (hC : CallOK P G (aCall P E n)) (hP : ProgOK P G) (hf : P.funcs[f]? = some fn) (hb : fn.body = some c)
    (h : aCall P E n lim f args A = some (v, A')) (hargs : VRs ρ args args') (hG : Globs ρ G) (hR : Rel P ρ A w) (hn : noOwn A = true) :
    Calls P f args'.toArray w fun e w' => ∃ v' ρ', e = .returned v' ∧ VR ρ' v v' ∧ Rel P ρ' A' w' ∧ Moves ρ A w ρ' A' w' ∧ ∀ b, b < w.heap.size → w'.heap[b]? = w.heap[b]? := by
  rcases hC.says lim f args A v A' h ρ w args' hargs hG hR with ⟨v', w', ρ', h1, _⟩ | ⟨_, h2⟩
  · exfalso
    have hne : ¬ fn.name = "runtime.NumGoroutine" := by simpa using hP.name f fn hf
    have : (callFunc f args'.toArray).run P w = .ok (.enter f args'.toArray) w := by simp [callFunc, hf, hne, hb]
    rw [this] at h1
    cases h1
  · refine h2.mono ?_
    rintro e w' ⟨v', ρ', a1, a2, a3, a4⟩
    exact ⟨v', ρ', a1, a2, a3, a4, a4.still hn⟩

theorem kept_of_same {w w' : World} (ho : w'.os = w.os ∧ w'.output = w.output) (h : ∀ b, b < w.heap.size → w'.heap[b]? = w.heap[b]?) (may : MemPlace → Prop) : w.keptBut w' may := by
  refine ⟨ho.1, ho.2, fun i hi => ?_⟩
  rw [h i hi]
  cases w.heap[i]? with
  | none => rfl
  | some o =>
    cases o with
    | cells c t fr => exact ⟨rfl, rfl, rfl, fun _ _ => rfl⟩
    | map es clock => exact .inr ⟨rfl, rfl⟩
    | _ => rfl
theorem frozen_of_same {w w' : World} (h : ∀ b, b < w.heap.size → w'.heap[b]? = w.heap[b]?) {a : Addr} (ha : a.block < w.heap.size) : w'.frozen? a = w.frozen? a := by
  simp only [World.frozen?, h _ ha]

end Go.Abs
