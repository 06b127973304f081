/-
DriverBoxes of the package wooferlaw03 returns true for every input, whatever the world: proved for all arguments, under the conditions that the row and its card name (the package-level tables as laid).
-/
import Derived.Test.YtkndhhnjgpialaaGreatDoorMb7
import Derived.Test.YtkndhhnjgpialaaGreatDoorMb6
import Derived.Test.YtkndhhnjgpialaaGreatDoorCards
import Derived.Test.YtkndhhnjgpialaaGreatDoorTie
import Derived.WalkKit
import Derived.ProofKit
import Derived.OpenShut
import Derived.Deep.DeepHandedRow
import Derived.Lib.LaidTab
import Derived.MakeChecks
set_option linter.unusedVariables false
set_option linter.unusedSimpArgs false
/-
DriverBoxes: from the rows to the statement.
-/
namespace Go.Proofs.YtkndhhnjgpialaaGreatDoor.driverBoxes
open Go Go.Abs Go.ChangeShapes Go.WideShapes Go.ChangeAt Go.RowKit

theorem own : ownKnob Tryz.prog.godebug = none := by kernel_rfl
theorem heap0_eq : heap0 = tabRows Tryz.prog Rows.driverBoxesRow.laid 9 := by kernel_rfl
theorem still0 : noOwn heap0 = true := by kernel_rfl
section
variable {H : Type} {enc : TypeId × Value → H} {w : World} {base : Nat} {sp : Nat → Bool} {hd : Bool}
set_option maxRecDepth 100000 in
theorem arg23 {r : Reach} {b0 : Nat} {v : Value} {d : DataW H} {p : List MemPlace} (hv : Value.okWide Tryz.prog w r b0 23 v) (h : DataW.Trod enc Tryz.prog w base sp hd 23 v d p) :
    p = [] ∧ ∃ a0 a1 a2 a3 a4 a5 : Int, v = .agg #[.int .i64 a0, .int .i64 a1, .int .i64 a2, .int .i64 a3, .int .i64 a4, .int .i64 a5] := by
  obtain ⟨fuel, h⟩ := h
  simp only [Value.okWide, Tryz.underlying23] at hv
  obtain ⟨cs, rfl, _, _⟩ := hv
  obtain ⟨hi, hp⟩ := flat_of 9 23 [.i64, .i64, .i64, .i64, .i64, .i64] fuel _ _ (by kernel_rfl) h
  refine ⟨hp, ?_⟩
  simp only [Value.cells] at hi
  obtain ⟨a0, l0, e0, _, hi⟩ := hi.inv
  obtain ⟨a1, l1, e1, _, hi⟩ := hi.inv
  obtain ⟨a2, l2, e2, _, hi⟩ := hi.inv
  obtain ⟨a3, l3, e3, _, hi⟩ := hi.inv
  obtain ⟨a4, l4, e4, _, hi⟩ := hi.inv
  obtain ⟨a5, l5, e5, _, hi⟩ := hi.inv
  have ee := hi.end
  refine ⟨a0, a1, a2, a3, a4, a5, ?_⟩
  rw [← Array.toList_inj.1 (show cs.toList = (#[.int .i64 a0, .int .i64 a1, .int .i64 a2, .int .i64 a3, .int .i64 a4, .int .i64 a5] : Array Value).toList from by rw [e0, e1, e2, e3, e4, e5, ee])]
set_option maxRecDepth 100000 in
theorem arg54 {r : Reach} {b0 : Nat} {v : Value} {d : DataW H} {p : List MemPlace} (hv : Value.okWide Tryz.prog w r b0 54 v) (h : DataW.Trod enc Tryz.prog w base sp hd 54 v d p) :
    p = [] ∧ ∃ a0 a1 a2 a3 : Int, v = .agg #[.int .i64 a0, .int .i64 a1, .int .i64 a2, .int .i64 a3] := by
  obtain ⟨fuel, h⟩ := h
  simp only [Value.okWide, Tryz.underlying54] at hv
  obtain ⟨cs, rfl, _, _⟩ := hv
  obtain ⟨hi, hp⟩ := flat_of 9 54 [.i64, .i64, .i64, .i64] fuel _ _ (by kernel_rfl) h
  refine ⟨hp, ?_⟩
  simp only [Value.cells] at hi
  obtain ⟨a0, l0, e0, _, hi⟩ := hi.inv
  obtain ⟨a1, l1, e1, _, hi⟩ := hi.inv
  obtain ⟨a2, l2, e2, _, hi⟩ := hi.inv
  obtain ⟨a3, l3, e3, _, hi⟩ := hi.inv
  have ee := hi.end
  refine ⟨a0, a1, a2, a3, ?_⟩
  rw [← Array.toList_inj.1 (show cs.toList = (#[.int .i64 a0, .int .i64 a1, .int .i64 a2, .int .i64 a3] : Array Value).toList from by rw [e0, e1, e2, e3, ee])]
end

theorem calls (x0 x1 x2 x3 x4 x5 x6 x7 x8 x9 x10 : Int) (W : World) (hL : laidMetH Tryz.prog Rows.driverBoxesRow.laid W) :
    Calls Tryz.prog 5 #[.agg #[.int .i64 x0, .int .i64 x1, .int .i64 x2, .int .i64 x3, .int .i64 x4, .int .i64 x5], .agg #[.int .i64 x6, .int .i64 x7, .int .i64 x8, .int .i64 x9], .int .i64 x10] W fun e w' =>
      e = .returned (.bool true) ∧ (w'.os = W.os ∧ w'.output = W.output) ∧ ∀ b, b < W.heap.size → w'.heap[b]? = W.heap[b]? := by
  obtain ⟨n, hn⟩ := bn_law x0 x1 x2 x3 x4 x5 x6 x7 x8 x9 x10
  have hl : laidMet Tryz.prog Rows.driverBoxesRow.laid W := by rw [← MakeChecks.laidMetH_plain _ _ _ (by kernel_rfl)]; exact hL
  have hR : Rel Tryz.prog (tabLoc 9) heap0 W := by rw [heap0_eq]; exact tabRows_rel hl
  have hb : ∃ cd, Tryz.f5.body = some cd := ⟨_, rfl⟩
  obtain ⟨cd, hb⟩ := hb
  have hargs : VRs (tabLoc 9) [.agg #[.int .i64 x0, .int .i64 x1, .int .i64 x2, .int .i64 x3, .int .i64 x4, .int .i64 x5], .agg #[.int .i64 x6, .int .i64 x7, .int .i64 x8, .int .i64 x9], .int .i64 x10] [.agg #[.int .i64 x0, .int .i64 x1, .int .i64 x2, .int .i64 x3, .int .i64 x4, .int .i64 x5], .agg #[.int .i64 x6, .int .i64 x7, .int .i64 x8, .int .i64 x9], .int .i64 x10] := VRs.cons (VR.refl _ rfl) (VRs.cons (VR.refl _ rfl) (VRs.cons (VR.refl _ rfl) (VRs.nil _)))
  refine (calls_of (call_sound prog_ok envT_ok n) prog_ok Tryz.func5 hb hn hargs (tabLoc_globs 9) hR still0).mono ?_
  rintro e w' ⟨v', ρ', rfl, hv, _, hm, hs⟩
  rw [hv.atom_eq rfl]
  exact ⟨rfl, hm.out, hs⟩

theorem reads_ok : Reads Tryz.prog := ⟨by kernel_rfl, by kernel_rfl, by kernel_rfl⟩
theorem len_3 {α : Type} {l : List α} (h : l.length = 3) : ∃ y0 y1 y2 : α, l = [y0, y1, y2] := by
  match l, h with
  | [y0, y1, y2], _ => exact ⟨y0, y1, y2, rfl⟩

set_option maxRecDepth 100000 in
theorem contract (H : Type) (enc : TypeId × Value → H) (W : World) (base : Nat) (args : Array Value) (ds gs : List (DataW H)) (before : List MemPlace)
    (hval : ∀ (j : Nat) t v, Tryz.f5.params[j]? = some t → args[j]? = some v → Value.okWide Tryz.prog W .any base t v)
    (hW : DataW.Whole enc Tryz.prog Tryz.f5.params.toList Rows.driverBoxesSpec.vars false W args.toList ds gs before) (hL : laidMetH Tryz.prog Rows.driverBoxesRow.laid W) :
    Calls Tryz.prog 5 args W fun e W' => ∃ v, e = .returned v ∧ Rows.driverBoxesSpec.post enc Tryz.prog Tryz.f5 false true false false W args v W' := by
  have hW' := hW
  obtain ⟨p, q, hA, hV, rfl, hfz, hnd⟩ := hW
  have hA0 : DataW.TrodAll enc Tryz.prog W 0 (fun _ => true) true Tryz.f5.params.toList args.toList ds p := hA
  rw [Tryz.params5] at hA0 hval
  obtain ⟨v0, vs0, d0, ds0, p0, q0, hargs0, rfl, rfl, h0, r0⟩ := trodAll_cons hA0
  obtain ⟨v1, vs1, d1, ds1, p1, q1, hargs1, rfl, rfl, h1, r1⟩ := trodAll_cons r0
  obtain ⟨v2, vs2, d2, ds2, p2, q2, hargs2, rfl, rfl, h2, r2⟩ := trodAll_cons r1
  obtain ⟨rfl, rfl, rfl⟩ := trodAll_nil r2
  obtain rfl : args = #[v0, v1, v2] := by cases args; simp_all
  obtain ⟨_, x0, x1, x2, x3, x4, x5, rfl⟩ := arg23 (hval 0 23 v0 rfl rfl) h0
  obtain ⟨_, x6, x7, x8, x9, rfl⟩ := arg54 (hval 1 54 v1 rfl rfl) h1
  obtain ⟨x10, rfl, _, _, _⟩ := open_int Tryz.underlying3 (hval 2 3 v2 rfl rfl) h2
  refine (calls x0 x1 x2 x3 x4 x5 x6 x7 x8 x9 x10 W hL).mono fun e W' hr => ?_
  obtain ⟨rfl, ho, hb⟩ := hr
  refine ⟨_, rfl, law_post (bt := 4) reads_ok rfl (fun ds hl => ?_) (by kernel_rfl) Tryz.underlying4 (by kernel_rfl) hW' ho hb⟩
  rw [show Tryz.f5.params.size = 3 by kernel_rfl] at hl
  obtain ⟨y0, y1, y2, rfl⟩ := len_3 hl
  rfl
end Go.Proofs.YtkndhhnjgpialaaGreatDoor.driverBoxes
/-
DriverBoxes of the package wooferlaw03 returns true for every input, whatever the world: proved for all arguments, under the conditions that the row and its card name (the package-level tables as laid).
-/
namespace Go.Proofs.YtkndhhnjgpialaaGreatDoor.driverBoxes
open Go Go.Abs Go.ChangeShapes Go.WideShapes Go.ChangeAt Go.RowKit

/-- The settled world, the tables laid. -/
noncomputable def putTab (A : Heap) (w : World) : World :=
  { w with heap := ((List.range 9).foldl (fun h g => match hget A g with
      | some (.cells cs _ _) => h.modify g fun
        | .cells _ t frozen => .cells cs.toArray t frozen
        | o => o
      | _ => h) w.heap) }
noncomputable def laidWorld (os : Os) : World := putTab heap0 (World.holding Tryz.prog os ⟨#[], #[], []⟩)
theorem laid_met (os : Os) : laidMet Tryz.prog Rows.driverBoxesRow.laid ((laidWorld os).forCall (fun _ _ => 0) ⟨#[], #[.agg #[.int .i64 0, .int .i64 0, .int .i64 0, .int .i64 0, .int .i64 0, .int .i64 0], .agg #[.int .i64 0, .int .i64 0, .int .i64 0, .int .i64 0], .int .i64 0], []⟩).memory :=
  laidMet_of_run' 8 (by kernel_rfl) (by kernel_rfl)
theorem reads (os : Os) {H : Type} (enc : TypeId × Value → H) : ∃ places, DataW.whole enc Tryz.prog ((laidWorld os).forCall (fun _ _ => 0) ⟨#[], #[.agg #[.int .i64 0, .int .i64 0, .int .i64 0, .int .i64 0, .int .i64 0, .int .i64 0], .agg #[.int .i64 0, .int .i64 0, .int .i64 0, .int .i64 0], .int .i64 0], []⟩).memory Tryz.f5.params.toList Rows.driverBoxesSpec.vars false (#[.agg #[.int .i64 0, .int .i64 0, .int .i64 0, .int .i64 0, .int .i64 0, .int .i64 0], .agg #[.int .i64 0, .int .i64 0, .int .i64 0, .int .i64 0], .int .i64 0] : Array Value).toList 8 = some ([.agg [.lit (.int .i64 0), .lit (.int .i64 0), .lit (.int .i64 0), .lit (.int .i64 0), .lit (.int .i64 0), .lit (.int .i64 0)], .agg [.lit (.int .i64 0), .lit (.int .i64 0), .lit (.int .i64 0), .lit (.int .i64 0)], .lit (.int .i64 0)], [], places) :=
  ⟨[], by kernel_rfl⟩

set_option maxRecDepth 100000 in
theorem lifted (os : Os) (started : os.Started) (H : Type) (enc : TypeId × Value → H) (F : Stop.Interp) :
    ReturnsInHanded {} Tryz.checked os 5 .any ((OpenSpec.ofChange Rows.driverBoxesSpec).preRow enc Tryz.prog Tryz.f5 Rows.driverBoxesRow.domain false Rows.driverBoxesRow.laid) (((OpenSpec.ofChange Rows.driverBoxesSpec).at F).post enc Tryz.prog Tryz.f5 false true false false) := by
  obtain ⟨places, hx⟩ := reads os enc
  refine returnsInHanded_of_row (C := Tryz.checked) (s := OpenSpec.ofChange Rows.driverBoxesSpec) own started (by kernel_rfl) Tryz.func5
    (witness_row_at (enc := enc) (C := Tryz.checked) false (laidWorld os) #[.agg #[.int .i64 0, .int .i64 0, .int .i64 0, .int .i64 0, .int .i64 0, .int .i64 0], .agg #[.int .i64 0, .int .i64 0, .int .i64 0, .int .i64 0], .int .i64 0] rfl (by kernel_rfl) (by kernel_rfl) (by kernel_rfl)
      (OpenSpec.preRow_of_cond 8 hx (by kernel_rfl) (fun k hk => by cases hk) (by kernel_rfl) (laid_met os))) ?_
  intro W base args ds gs before hval hW _ _ _ hL _ _
  exact contract H enc W base args ds gs before hval hW hL

theorem said : Rows.DriverBoxesSaid :=
  OpenClaim.holds_of_cond 5 Tryz.f5 rfl rfl rfl rfl rfl rfl rfl ⟨rfl, rfl, rfl, rfl, rfl⟩ rfl rfl rfl rfl rfl (by kernel_rfl) Tryz.func5 (by kernel_rfl)
    (of_decide_eq_true (by kernel_rfl)) (by unfold Func.isWrapper; first | (rw [if_pos (by decide +kernel)]; kernel_rfl) | (rw [if_neg (by decide +kernel)]; exact ⟨rfl, rfl⟩))
    (fun os started H enc _ F => by rw [OpenClaim.pre_eq_preRow]; exact lifted os started H enc F)

theorem plain (f : FuncId) (fn : Func) (hf : Tryz.pinned.checked.prog.funcNamed "woofer/wooferlaw03.DriverBoxes" = some f) (hfn : Tryz.pinned.checked.prog.funcs[f]? = some fn) :
    true = Tryz.pinned.checked.prog.looks [] ∧ ∀ (j : Nat) t, fn.params[j]? = some t → Tryz.pinned.checked.prog.wantsStandIn t = false := by
  obtain rfl : f = 5 := Option.some.inj ((show Tryz.prog.funcNamed "woofer/wooferlaw03.DriverBoxes" = some 5 by kernel_rfl).symm.trans hf) |>.symm
  obtain rfl : fn = Tryz.f5 := (Option.some.inj (Tryz.func5.symm.trans hfn)).symm
  refine ⟨by kernel_rfl, fun j t ht => ?_⟩
  rw [Tryz.params5] at ht
  have hm := Array.mem_of_getElem? ht
  simp only [List.mem_toArray, List.mem_cons, List.not_mem_nil, or_false] at hm
  rcases hm with rfl | rfl | rfl
  · exact (show Tryz.prog.wantsStandIn 23 = false by kernel_rfl)
  · exact (show Tryz.prog.wantsStandIn 54 = false by kernel_rfl)
  · exact (show Tryz.prog.wantsStandIn 3 = false by kernel_rfl)

theorem card : Rows.DriverBoxesCardSaid :=
  Claim7.holds_tied_plain_at .later [] _ _ _ _ said (fun _ h => by cases h) (by kernel_rfl) (fun _ h => by cases h) driverBoxes_row_tie rfl ⟨rfl, rfl⟩ (by kernel_rfl) rfl plain (by kernel_rfl)
end Go.Proofs.YtkndhhnjgpialaaGreatDoor.driverBoxes
