/-
NetworkProducts: what the functions give that it calls. First part: numbers in a range.
-/
import Derived.Test.YtnhmokgakpknlaaGreatDoorAwA
namespace Go.Proofs.YtnhmokgakpknlaaGreatDoor
open Go Go.Abs
theorem f114_0 (x : Int) (l : Int) (m : Int) (h0 : (decide (x < l)) = true) : Gives Tryz.prog envA 0 114 [(.int .i64 (x)), (.int .i64 (l)), (.int .i64 (m))] heapN ((.int .i64 (3)), heapN) :=
  Gives.led (n := 1000) (os := [true, true, true, true, true]) (os' := []) (tk := [(decide (x < l), true), (decide (x < l), true), (decide (x < l), true), (decide (x < l), true), (true, true)]) (by kernel_rfl) (tookOK_cons h0 (tookOK_cons h0 (tookOK_cons h0 (tookOK_cons h0 (tookOK_cons rfl (tookOK_nil))))))
theorem f114_1 (x : Int) (l : Int) (m : Int) (h0 : (decide (x < l)) = false) (h1 : (decide (x > m)) = true) : Gives Tryz.prog envA 0 114 [(.int .i64 (x)), (.int .i64 (l)), (.int .i64 (m))] heapN ((.int .i64 (3)), heapN) :=
  Gives.led (n := 1000) (os := [false, false, false, false, true]) (os' := []) (tk := [(decide (x < l), false), (decide (x < l), false), (decide (x < l), false), (decide (x < l), false), (decide (x > m), true)]) (by kernel_rfl) (tookOK_cons h0 (tookOK_cons h0 (tookOK_cons h0 (tookOK_cons h0 (tookOK_cons h1 (tookOK_nil))))))
theorem f114_2 (x : Int) (l : Int) (m : Int) (h0 : (decide (x < l)) = false) (h1 : (decide (x > m)) = false) : Gives Tryz.prog envA 0 114 [(.int .i64 (x)), (.int .i64 (l)), (.int .i64 (m))] heapN ((.int .i64 (0)), heapN) :=
  Gives.led (n := 1000) (os := [false, false, false, false, false]) (os' := []) (tk := [(decide (x < l), false), (decide (x < l), false), (decide (x < l), false), (decide (x < l), false), (decide (x > m), false)]) (by kernel_rfl) (tookOK_cons h0 (tookOK_cons h0 (tookOK_cons h0 (tookOK_cons h0 (tookOK_cons h1 (tookOK_nil))))))
/-- The reference's CheckRange. -/
def cr (x l m : Int) : Int := if x < l then 3 else if x > m then 3 else 0
theorem cr_gives (x l m : Int) : Gives Tryz.prog envA 0 114 [(.int .i64 x), (.int .i64 l), (.int .i64 m)] heapN (.int .i64 (cr x l m), heapN) := by
  unfold cr
  by_cases h0 : x < l
  · rw [if_pos h0]; exact f114_0 x l m (by simpa using h0)
  · rw [if_neg h0]
    by_cases h1 : x > m
    · rw [if_pos h1]; exact f114_1 x l m (by simpa using h0) (by simpa using h1)
    · rw [if_neg h1]; exact f114_2 x l m (by simpa using h0) (by simpa using h1)
def B1 (f : FuncId) (args : List Value) : Option (Heap × Value) :=
  if f == 114 then
    match args with
    | [.int .i64 x, .int .i64 l, .int .i64 m] => some (heapN, .int .i64 (cr x l m))
    | _ => none
  else none
def env1 : Env := envA.with (baseKnown B1)
theorem env1_ok : EnvOK Tryz.prog 9 env1 := env_base prog_ok envA_ok fun f args H v h => by
  unfold B1 at h
  split at h
  · rename_i hf
    have hf : f = 114 := by simpa using hf
    subst hf
    split at h
    · cases h; exact heapN_ok (cr_gives _ _ _)
    · cases h
  · cases h
end Go.Proofs.YtnhmokgakpknlaaGreatDoor
