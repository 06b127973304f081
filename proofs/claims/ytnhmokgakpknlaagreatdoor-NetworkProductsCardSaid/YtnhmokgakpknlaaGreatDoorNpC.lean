/-
NetworkProducts: what the functions give that it calls. Third part: the reference's CheckMatrix.
-/
import Derived.Test.YtnhmokgakpknlaaGreatDoorNpB
namespace Go.Proofs.YtnhmokgakpknlaaGreatDoor
open Go Go.Abs
theorem f30_0 (a : Int) (b : Int) (c : Int) (d : Int) (e : Int) (f : Int) (g : Int) (h : Int) (h0 : (cp a b != 0) = true) : Gives Tryz.prog env2 0 30 [(.agg #[(.int .i64 (a)), (.int .i64 (b)), (.int .i64 (c)), (.int .i64 (d)), (.int .i64 (e)), (.int .i64 (f)), (.int .i64 (g)), (.int .i64 (h))])] heapN ((.int .i64 (cp a b)), heapN) :=
  Gives.led (n := 1000) (os := [true, true]) (os' := []) (tk := [(true, true), (cp a b != 0, true)]) (by kernel_rfl) (tookOK_cons rfl (tookOK_cons h0 (tookOK_nil)))
theorem f30_1 (a : Int) (b : Int) (c : Int) (d : Int) (e : Int) (f : Int) (g : Int) (h : Int) (h0 : (cp a b != 0) = false) (h1 : (cp c d != 0) = true) : Gives Tryz.prog env2 0 30 [(.agg #[(.int .i64 (a)), (.int .i64 (b)), (.int .i64 (c)), (.int .i64 (d)), (.int .i64 (e)), (.int .i64 (f)), (.int .i64 (g)), (.int .i64 (h))])] heapN ((.int .i64 (cp c d)), heapN) :=
  Gives.led (n := 1000) (os := [true, false, true, true]) (os' := []) (tk := [(true, true), (cp a b != 0, false), (true, true), (cp c d != 0, true)]) (by kernel_rfl) (tookOK_cons rfl (tookOK_cons h0 (tookOK_cons rfl (tookOK_cons h1 (tookOK_nil)))))
theorem f30_2 (a : Int) (b : Int) (c : Int) (d : Int) (e : Int) (f : Int) (g : Int) (h : Int) (h0 : (cp a b != 0) = false) (h1 : (cp c d != 0) = false) (h2 : (cp e f != 0) = true) : Gives Tryz.prog env2 0 30 [(.agg #[(.int .i64 (a)), (.int .i64 (b)), (.int .i64 (c)), (.int .i64 (d)), (.int .i64 (e)), (.int .i64 (f)), (.int .i64 (g)), (.int .i64 (h))])] heapN ((.int .i64 (cp e f)), heapN) :=
  Gives.led (n := 1000) (os := [true, false, true, false, true, true]) (os' := []) (tk := [(true, true), (cp a b != 0, false), (true, true), (cp c d != 0, false), (true, true), (cp e f != 0, true)]) (by kernel_rfl) (tookOK_cons rfl (tookOK_cons h0 (tookOK_cons rfl (tookOK_cons h1 (tookOK_cons rfl (tookOK_cons h2 (tookOK_nil)))))))
theorem f30_3 (a : Int) (b : Int) (c : Int) (d : Int) (e : Int) (f : Int) (g : Int) (h : Int) (h0 : (cp a b != 0) = false) (h1 : (cp c d != 0) = false) (h2 : (cp e f != 0) = false) (h3 : (cp g h != 0) = true) : Gives Tryz.prog env2 0 30 [(.agg #[(.int .i64 (a)), (.int .i64 (b)), (.int .i64 (c)), (.int .i64 (d)), (.int .i64 (e)), (.int .i64 (f)), (.int .i64 (g)), (.int .i64 (h))])] heapN ((.int .i64 (cp g h)), heapN) :=
  Gives.led (n := 1000) (os := [true, false, true, false, true, false, true, true]) (os' := []) (tk := [(true, true), (cp a b != 0, false), (true, true), (cp c d != 0, false), (true, true), (cp e f != 0, false), (true, true), (cp g h != 0, true)]) (by kernel_rfl) (tookOK_cons rfl (tookOK_cons h0 (tookOK_cons rfl (tookOK_cons h1 (tookOK_cons rfl (tookOK_cons h2 (tookOK_cons rfl (tookOK_cons h3 (tookOK_nil)))))))))
theorem f30_4 (a : Int) (b : Int) (c : Int) (d : Int) (e : Int) (f : Int) (g : Int) (h : Int) (h0 : (cp a b != 0) = false) (h1 : (cp c d != 0) = false) (h2 : (cp e f != 0) = false) (h3 : (cp g h != 0) = false) : Gives Tryz.prog env2 0 30 [(.agg #[(.int .i64 (a)), (.int .i64 (b)), (.int .i64 (c)), (.int .i64 (d)), (.int .i64 (e)), (.int .i64 (f)), (.int .i64 (g)), (.int .i64 (h))])] heapN ((.int .i64 (0)), heapN) :=
  Gives.led (n := 1000) (os := [true, false, true, false, true, false, true, false, false]) (os' := []) (tk := [(true, true), (cp a b != 0, false), (true, true), (cp c d != 0, false), (true, true), (cp e f != 0, false), (true, true), (cp g h != 0, false), (false, false)]) (by kernel_rfl) (tookOK_cons rfl (tookOK_cons h0 (tookOK_cons rfl (tookOK_cons h1 (tookOK_cons rfl (tookOK_cons h2 (tookOK_cons rfl (tookOK_cons h3 (tookOK_cons rfl (tookOK_nil))))))))))
theorem cp_zero {x y : Int} (h : (okI x && okI y) = true) : (cp x y != 0) = false := by unfold cp; rw [h]; rfl
theorem cp_three {x y : Int} (h : (okI x && okI y) = false) : cp x y = 3 := by unfold cp; rw [h]; rfl
theorem cm30_gives (a b c d e f g h : Int) : Gives Tryz.prog env2 0 30 [.agg #[(.int .i64 a), (.int .i64 b), (.int .i64 c), (.int .i64 d), (.int .i64 e), (.int .i64 f), (.int .i64 g), (.int .i64 h)]] heapN (.int .i64 (cm a b c d e f g h), heapN) := by
  unfold cm wf
  cases h1 : (okI a && okI b)
  · have e1 := cp_three h1
    have := f30_0 a b c d e f g h (by rw [e1]; rfl)
    rw [e1] at this
    simpa using this
  · cases h2 : (okI c && okI d)
    · have e1 := cp_three h2
      have := f30_1 a b c d e f g h (cp_zero h1) (by rw [e1]; rfl)
      rw [e1] at this
      simpa using this
    · cases h3 : (okI e && okI f)
      · have e1 := cp_three h3
        have := f30_2 a b c d e f g h (cp_zero h1) (cp_zero h2) (by rw [e1]; rfl)
        rw [e1] at this
        simpa using this
      · cases h4 : (okI g && okI h)
        · have e1 := cp_three h4
          have := f30_3 a b c d e f g h (cp_zero h1) (cp_zero h2) (cp_zero h3) (by rw [e1]; rfl)
          rw [e1] at this
          simpa using this
        · simpa using f30_4 a b c d e f g h (cp_zero h1) (cp_zero h2) (cp_zero h3) (cp_zero h4)
def B3 (f : FuncId) (args : List Value) : Option (Heap × Value) :=
  if f == 30 then
    match args with
    | [.agg ⟨[.int .i64 a, .int .i64 b, .int .i64 c, .int .i64 d, .int .i64 e, .int .i64 f, .int .i64 g, .int .i64 h]⟩] => some (heapN, .int .i64 (cm a b c d e f g h))
    | _ => none
  else none
def env3 : Env := env2.with (baseKnown B3)
end Go.Proofs.YtnhmokgakpknlaaGreatDoor
