/-
NetworkProducts: from the rows to the statement.
-/
import Derived.Test.YtnhmokgakpknlaaGreatDoorNpE
import Derived.Test.YtnhmokgakpknlaaGreatDoorAb29
import Derived.Test.YtnhmokgakpknlaaGreatDoorCards
import Derived.Test.YtnhmokgakpknlaaGreatDoorTie
import Derived.WalkKit
import Derived.ProofKit
import Derived.OpenShut
import Derived.Deep.DeepHandedRow
import Derived.Lib.LaidTab
import Derived.MakeChecks
namespace Go.Proofs.YtnhmokgakpknlaaGreatDoor.networkProducts
open Go Go.Abs Go.ChangeShapes Go.WideShapes Go.ChangeAt Go.RowKit

theorem own : ownKnob Tryz.prog.godebug = none := by kernel_rfl
theorem heap0_eq : heap0 = tabRows Tryz.prog Rows.networkProductsRow.laid 9 := by kernel_rfl
theorem still0 : noOwn heap0 = true := by kernel_rfl
theorem cells3 : Tryz.prog.cellsOf 3 = 1 := by kernel_rfl
theorem cells26 : Tryz.prog.cellsOf 26 = 2 := by kernel_rfl
theorem cells37 : Tryz.prog.cellsOf 37 = 8 := by kernel_rfl

theorem two_of {α : Type} : ∀ {l : List α}, l.length = 2 → ∃ a b, l = [a, b]
  | [a, b], _ => ⟨a, b, rfl⟩
theorem four_of {α : Type} : ∀ {l : List α}, l.length = 4 → ∃ a b c d, l = [a, b, c, d]
  | [a, b, c, d], _ => ⟨a, b, c, d, rfl⟩
theorem eight_of {α : Type} : ∀ {l : List α}, l.length = 8 → ∃ a b c d e f g h, l = [a, b, c, d, e, f, g, h]
  | [a, b, c, d, e, f, g, h], _ => ⟨a, b, c, d, e, f, g, h, rfl⟩
section
variable {H : Type} {enc : TypeId × Value → H} {w : World} {base : Nat} {sp : Nat → Bool} {hd : Bool}
theorem gauss_of {fuel : Nat} {cs : List Value} {x : DataW H × List MemPlace} (h : DataW.trod enc Tryz.prog w base sp hd fuel 26 cs = some x) : ∃ a b, cs = [.int .i64 a, .int .i64 b] ∧ x.2 = [] := by
  obtain ⟨xs, m, rfl, rfl, hl, hn, hf⟩ := DataW.trod_struct Tryz.underlying26 h
  rw [cells26] at hl
  obtain ⟨y0, y1, rfl⟩ := two_of hn
  obtain ⟨c0, c1, rfl⟩ := two_of hl
  have h0 := hf 0 _ rfl
  have h1 := hf 1 _ rfl
  simp [cells3] at h0 h1
  obtain ⟨a, e0, rfl, _⟩ := DataW.trod_int Tryz.underlying3 h0
  obtain ⟨b, e1, rfl, _⟩ := DataW.trod_int Tryz.underlying3 h1
  simp at e0 e1
  subst e0; subst e1
  exact ⟨a, b, rfl, rfl⟩
theorem matrix_of {fuel : Nat} {cs : List Value} {x : DataW H × List MemPlace} (h : DataW.trod enc Tryz.prog w base sp hd fuel 37 cs = some x) :
    ∃ a b c d e f g h, cs = [.int .i64 a, .int .i64 b, .int .i64 c, .int .i64 d, .int .i64 e, .int .i64 f, .int .i64 g, .int .i64 h] ∧ x.2 = [] := by
  obtain ⟨xs, m, rfl, rfl, hl, hn, hf⟩ := DataW.trod_array Tryz.underlying37 h
  rw [cells37] at hl
  obtain ⟨y0, y1, y2, y3, rfl⟩ := four_of hn
  obtain ⟨c0, c1, c2, c3, c4, c5, c6, c7, rfl⟩ := eight_of hl
  have h0 := hf 0 (by omega)
  have h1 := hf 1 (by omega)
  have h2 := hf 2 (by omega)
  have h3 := hf 3 (by omega)
  simp [cells26] at h0 h1 h2 h3
  obtain ⟨a, b, e0, p0⟩ := gauss_of h0
  obtain ⟨c, d, e1, p1⟩ := gauss_of h1
  obtain ⟨e, f, e2, p2⟩ := gauss_of h2
  obtain ⟨g, k, e3, p3⟩ := gauss_of h3
  simp at e0 e1 e2 e3
  obtain ⟨rfl, rfl⟩ := e0
  obtain ⟨rfl, rfl⟩ := e1
  obtain ⟨rfl, rfl⟩ := e2
  obtain ⟨rfl, rfl⟩ := e3
  exact ⟨a, b, c, d, e, f, g, k, rfl, by simp [p0, p1, p2, p3]⟩
set_option maxRecDepth 100000 in
theorem arg_of {r : Reach} {b0 : Nat} {v : Value} {d : DataW H} {p : List MemPlace} (hv : Value.okWide Tryz.prog w r b0 37 v) (h : DataW.Trod enc Tryz.prog w base sp hd 37 v d p) :
    p = [] ∧ ∃ a b c d e f g h, v = .agg #[.int .i64 a, .int .i64 b, .int .i64 c, .int .i64 d, .int .i64 e, .int .i64 f, .int .i64 g, .int .i64 h] := by
  obtain ⟨fuel, h⟩ := h
  simp only [Value.okWide, Tryz.underlying37] at hv
  obtain ⟨cs, rfl, _, _⟩ := hv
  obtain ⟨a, b, c, d, e, f, g, h, e1, e2⟩ := matrix_of h
  refine ⟨e2, a, b, c, d, e, f, g, h, ?_⟩
  simp only [Value.cells] at e1
  rw [← Array.toList_inj.1 (show cs.toList = (#[.int .i64 a, .int .i64 b, .int .i64 c, .int .i64 d, .int .i64 e, .int .i64 f, .int .i64 g, .int .i64 h] : Array Value).toList from e1)]
end

theorem calls (a b c d e f g h a' b' c' d' e' f' g' h' : Int) (W : World) (hL : laidMetH Tryz.prog Rows.networkProductsRow.laid W) :
    Calls Tryz.prog 4 #[.agg #[.int .i64 a, .int .i64 b, .int .i64 c, .int .i64 d, .int .i64 e, .int .i64 f, .int .i64 g, .int .i64 h], .agg #[.int .i64 a', .int .i64 b', .int .i64 c', .int .i64 d', .int .i64 e', .int .i64 f', .int .i64 g', .int .i64 h']] W fun e w' =>
      e = .returned (.bool true) ∧ (w'.os = W.os ∧ w'.output = W.output) ∧ ∀ b, b < W.heap.size → w'.heap[b]? = W.heap[b]? := by
  obtain ⟨n, hn⟩ := law_gives a b c d e f g h a' b' c' d' e' f' g' h'
  have hl : laidMet Tryz.prog Rows.networkProductsRow.laid W := by rw [← MakeChecks.laidMetH_plain _ _ _ (by kernel_rfl)]; exact hL
  have hR : Rel Tryz.prog (tabLoc 9) heap0 W := by rw [heap0_eq]; exact tabRows_rel hl
  have hb : ∃ cd, Tryz.f4.body = some cd := ⟨_, rfl⟩
  obtain ⟨cd, hb⟩ := hb
  have hargs : VRs (tabLoc 9) [.agg #[.int .i64 a, .int .i64 b, .int .i64 c, .int .i64 d, .int .i64 e, .int .i64 f, .int .i64 g, .int .i64 h], .agg #[.int .i64 a', .int .i64 b', .int .i64 c', .int .i64 d', .int .i64 e', .int .i64 f', .int .i64 g', .int .i64 h']] [.agg #[.int .i64 a, .int .i64 b, .int .i64 c, .int .i64 d, .int .i64 e, .int .i64 f, .int .i64 g, .int .i64 h], .agg #[.int .i64 a', .int .i64 b', .int .i64 c', .int .i64 d', .int .i64 e', .int .i64 f', .int .i64 g', .int .i64 h']] := VRs.cons (VR.refl _ rfl) (VRs.cons (VR.refl _ rfl) (VRs.nil _))
  refine (calls_of (call_sound prog_ok env4_ok n) prog_ok Tryz.func4 hb hn hargs (tabLoc_globs 9) hR still0).mono ?_
  rintro e w' ⟨v', ρ', rfl, hv, _, hm, hs⟩
  rw [hv.atom_eq rfl]
  exact ⟨rfl, hm.out, hs⟩

theorem reads_ok : Reads Tryz.prog := ⟨by kernel_rfl, by kernel_rfl, by kernel_rfl⟩

set_option maxRecDepth 100000 in
theorem contract (H : Type) (enc : TypeId × Value → H) (W : World) (base : Nat) (args : Array Value) (ds gs : List (DataW H)) (before : List MemPlace)
    (hval : ∀ (j : Nat) t v, Tryz.f4.params[j]? = some t → args[j]? = some v → Value.okWide Tryz.prog W .any base t v)
    (hW : DataW.Whole enc Tryz.prog Tryz.f4.params.toList Rows.networkProductsSpec.vars false W args.toList ds gs before) (hL : laidMetH Tryz.prog Rows.networkProductsRow.laid W) :
    Calls Tryz.prog 4 args W fun e W' => ∃ v, e = .returned v ∧ Rows.networkProductsSpec.post enc Tryz.prog Tryz.f4 false true false false W args v W' := by
  have hW' := hW
  obtain ⟨p, q, hA, hV, rfl, hfz, hnd⟩ := hW
  have hA0 : DataW.TrodAll enc Tryz.prog W 0 (fun _ => true) true Tryz.f4.params.toList args.toList ds p := hA
  rw [Tryz.params4] at hA0 hval
  obtain ⟨v0, vs0, d0, ds0, p0, q0, hargs, rfl, rfl, h0, r0⟩ := trodAll_cons hA0
  obtain ⟨v1, vs1, d1, ds1, p1, q1, hargs1, rfl, rfl, h1, r1⟩ := trodAll_cons r0
  obtain ⟨rfl, rfl, rfl⟩ := trodAll_nil r1
  obtain rfl : args = #[v0, v1] := by cases args; simp_all
  obtain ⟨_, a, b, c, d, e, f, g, h, rfl⟩ := arg_of (hval 0 37 v0 rfl rfl) h0
  obtain ⟨_, a', b', c', d', e', f', g', h', rfl⟩ := arg_of (hval 1 37 v1 rfl rfl) h1
  refine (calls a b c d e f g h a' b' c' d' e' f' g' h' W hL).mono fun e W' hr => ?_
  obtain ⟨rfl, ho, hb⟩ := hr
  refine ⟨_, rfl, law_post (bt := 4) reads_ok rfl (fun ds hl => ?_) (by kernel_rfl) Tryz.underlying4 (by kernel_rfl) hW' ho hb⟩
  rw [show Tryz.f4.params.size = 2 by kernel_rfl] at hl
  obtain ⟨x, y, rfl⟩ := two_of hl
  rfl
end Go.Proofs.YtnhmokgakpknlaaGreatDoor.networkProducts
