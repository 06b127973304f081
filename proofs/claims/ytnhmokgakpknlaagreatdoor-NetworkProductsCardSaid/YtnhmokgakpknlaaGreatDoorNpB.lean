/-
NetworkProducts: what the functions give that it calls. Second part: parts and matrices in their range.
-/
import Derived.Test.YtnhmokgakpknlaaGreatDoorNpA
namespace Go.Proofs.YtnhmokgakpknlaaGreatDoor
open Go Go.Abs
theorem f102_0 (x : Int) (y : Int) (h0 : (cr x (-30000) 30000 != 0) = true) : Gives Tryz.prog env1 0 102 [(.agg #[(.int .i64 (x)), (.int .i64 (y))])] heapN ((.int .i64 (cr x (-30000) 30000)), heapN) :=
  Gives.led (n := 1000) (os := [true, true]) (os' := []) (tk := [(true, true), (cr x (-30000) 30000 != 0, true)]) (by kernel_rfl) (tookOK_cons rfl (tookOK_cons h0 (tookOK_nil)))
theorem f102_1 (x : Int) (y : Int) (h0 : (cr x (-30000) 30000 != 0) = false) (h1 : (cr y (-30000) 30000 != 0) = true) : Gives Tryz.prog env1 0 102 [(.agg #[(.int .i64 (x)), (.int .i64 (y))])] heapN ((.int .i64 (cr y (-30000) 30000)), heapN) :=
  Gives.led (n := 1000) (os := [true, false, true, true]) (os' := []) (tk := [(true, true), (cr x (-30000) 30000 != 0, false), (true, true), (cr y (-30000) 30000 != 0, true)]) (by kernel_rfl) (tookOK_cons rfl (tookOK_cons h0 (tookOK_cons rfl (tookOK_cons h1 (tookOK_nil)))))
theorem f102_2 (x : Int) (y : Int) (h0 : (cr x (-30000) 30000 != 0) = false) (h1 : (cr y (-30000) 30000 != 0) = false) : Gives Tryz.prog env1 0 102 [(.agg #[(.int .i64 (x)), (.int .i64 (y))])] heapN ((.int .i64 (0)), heapN) :=
  Gives.led (n := 1000) (os := [true, false, true, false, false]) (os' := []) (tk := [(true, true), (cr x (-30000) 30000 != 0, false), (true, true), (cr y (-30000) 30000 != 0, false), (false, false)]) (by kernel_rfl) (tookOK_cons rfl (tookOK_cons h0 (tookOK_cons rfl (tookOK_cons h1 (tookOK_cons rfl (tookOK_nil))))))
theorem f97_0 (a : Int) (b : Int) (c : Int) (d : Int) (e : Int) (f : Int) (g : Int) (h : Int) (h0 : (!((if 30000 < if -30000 > a then -30000 else a then 30000 else if -30000 > a then -30000 else a) == a && ((if 30000 < if -30000 > b then -30000 else b then 30000 else if -30000 > b then -30000 else b) == b && true) && ((if 30000 < if -30000 > c then -30000 else c then 30000 else if -30000 > c then -30000 else c) == c && ((if 30000 < if -30000 > d then -30000 else d then 30000 else if -30000 > d then -30000 else d) == d && true) && ((if 30000 < if -30000 > e then -30000 else e then 30000 else if -30000 > e then -30000 else e) == e && ((if 30000 < if -30000 > f then -30000 else f then 30000 else if -30000 > f then -30000 else f) == f && true) && ((if 30000 < if -30000 > g then -30000 else g then 30000 else if -30000 > g then -30000 else g) == g && ((if 30000 < if -30000 > h then -30000 else h then 30000 else if -30000 > h then -30000 else h) == h && true) && true))))) = true) : Gives Tryz.prog env1 0 97 [(.agg #[(.int .i64 (a)), (.int .i64 (b)), (.int .i64 (c)), (.int .i64 (d)), (.int .i64 (e)), (.int .i64 (f)), (.int .i64 (g)), (.int .i64 (h))])] heapN ((.int .i64 (3)), heapN) :=
  Gives.led (n := 1000) (os := [true, true, true, true, false, true]) (os' := []) (tk := [(true, true), (true, true), (true, true), (true, true), (false, false), (!((if 30000 < if -30000 > a then -30000 else a then 30000 else if -30000 > a then -30000 else a) == a && ((if 30000 < if -30000 > b then -30000 else b then 30000 else if -30000 > b then -30000 else b) == b && true) && ((if 30000 < if -30000 > c then -30000 else c then 30000 else if -30000 > c then -30000 else c) == c && ((if 30000 < if -30000 > d then -30000 else d then 30000 else if -30000 > d then -30000 else d) == d && true) && ((if 30000 < if -30000 > e then -30000 else e then 30000 else if -30000 > e then -30000 else e) == e && ((if 30000 < if -30000 > f then -30000 else f then 30000 else if -30000 > f then -30000 else f) == f && true) && ((if 30000 < if -30000 > g then -30000 else g then 30000 else if -30000 > g then -30000 else g) == g && ((if 30000 < if -30000 > h then -30000 else h then 30000 else if -30000 > h then -30000 else h) == h && true) && true)))), true)]) (by kernel_rfl) (tookOK_cons rfl (tookOK_cons rfl (tookOK_cons rfl (tookOK_cons rfl (tookOK_cons rfl (tookOK_cons h0 (tookOK_nil)))))))
theorem f97_1 (a : Int) (b : Int) (c : Int) (d : Int) (e : Int) (f : Int) (g : Int) (h : Int) (h0 : (!((if 30000 < if -30000 > a then -30000 else a then 30000 else if -30000 > a then -30000 else a) == a && ((if 30000 < if -30000 > b then -30000 else b then 30000 else if -30000 > b then -30000 else b) == b && true) && ((if 30000 < if -30000 > c then -30000 else c then 30000 else if -30000 > c then -30000 else c) == c && ((if 30000 < if -30000 > d then -30000 else d then 30000 else if -30000 > d then -30000 else d) == d && true) && ((if 30000 < if -30000 > e then -30000 else e then 30000 else if -30000 > e then -30000 else e) == e && ((if 30000 < if -30000 > f then -30000 else f then 30000 else if -30000 > f then -30000 else f) == f && true) && ((if 30000 < if -30000 > g then -30000 else g then 30000 else if -30000 > g then -30000 else g) == g && ((if 30000 < if -30000 > h then -30000 else h then 30000 else if -30000 > h then -30000 else h) == h && true) && true))))) = false) : Gives Tryz.prog env1 0 97 [(.agg #[(.int .i64 (a)), (.int .i64 (b)), (.int .i64 (c)), (.int .i64 (d)), (.int .i64 (e)), (.int .i64 (f)), (.int .i64 (g)), (.int .i64 (h))])] heapN ((.int .i64 (0)), heapN) :=
  Gives.led (n := 1000) (os := [true, true, true, true, false, false]) (os' := []) (tk := [(true, true), (true, true), (true, true), (true, true), (false, false), (!((if 30000 < if -30000 > a then -30000 else a then 30000 else if -30000 > a then -30000 else a) == a && ((if 30000 < if -30000 > b then -30000 else b then 30000 else if -30000 > b then -30000 else b) == b && true) && ((if 30000 < if -30000 > c then -30000 else c then 30000 else if -30000 > c then -30000 else c) == c && ((if 30000 < if -30000 > d then -30000 else d then 30000 else if -30000 > d then -30000 else d) == d && true) && ((if 30000 < if -30000 > e then -30000 else e then 30000 else if -30000 > e then -30000 else e) == e && ((if 30000 < if -30000 > f then -30000 else f then 30000 else if -30000 > f then -30000 else f) == f && true) && ((if 30000 < if -30000 > g then -30000 else g then 30000 else if -30000 > g then -30000 else g) == g && ((if 30000 < if -30000 > h then -30000 else h then 30000 else if -30000 > h then -30000 else h) == h && true) && true)))), false)]) (by kernel_rfl) (tookOK_cons rfl (tookOK_cons rfl (tookOK_cons rfl (tookOK_cons rfl (tookOK_cons rfl (tookOK_cons h0 (tookOK_nil)))))))
def okI (x : Int) : Bool := decide (-30000 ≤ x) && decide (x ≤ 30000)
/-- The reference's checkPart. -/
def cp (x y : Int) : Int := if okI x && okI y then 0 else 3
theorem cr_ok (x : Int) : cr x (-30000) 30000 = if okI x then 0 else 3 := by
  unfold cr okI
  by_cases h1 : x < -30000
  · have : ¬ -30000 ≤ x := by omega
    simp [h1, this]
  · have h2 : -30000 ≤ x := by omega
    by_cases h3 : x > 30000
    · have : ¬ x ≤ 30000 := by omega
      simp [h1, h3, this]
    · have : x ≤ 30000 := by omega
      simp [h1, h2, h3, this]
theorem cp_gives (x y : Int) : Gives Tryz.prog env1 0 102 [.agg #[(.int .i64 x), (.int .i64 y)]] heapN (.int .i64 (cp x y), heapN) := by
  have e1 := cr_ok x
  have e2 := cr_ok y
  unfold cp
  cases h1 : okI x
  · rw [h1] at e1
    have h0 : (cr x (-30000) 30000 != 0) = true := by rw [e1]; rfl
    have := f102_0 x y h0
    rw [e1] at this
    simpa using this
  · rw [h1] at e1
    have h0 : (cr x (-30000) 30000 != 0) = false := by rw [e1]; rfl
    cases h2 : okI y
    · rw [h2] at e2
      have h3 : (cr y (-30000) 30000 != 0) = true := by rw [e2]; rfl
      have := f102_1 x y h0 h3
      rw [e2] at this
      simpa using this
    · rw [h2] at e2
      have h3 : (cr y (-30000) 30000 != 0) = false := by rw [e2]; rfl
      simpa using f102_2 x y h0 h3
/-- All parts of a matrix are small. -/
def wf (a b c d e f g h : Int) : Bool := okI a && okI b && (okI c && okI d && (okI e && okI f && (okI g && okI h)))
/-- CheckMatrix, the program's and the reference's. -/
def cm (a b c d e f g h : Int) : Int := if wf a b c d e f g h then 0 else 3
theorem clip_ok (x : Int) : ((if 30000 < if -30000 > x then -30000 else x then 30000 else if -30000 > x then -30000 else x) == x) = okI x := by
  unfold okI
  by_cases h1 : -30000 > x
  · have h2 : ¬ -30000 ≤ x := by omega
    simp [h1, h2]
    omega
  · have h2 : -30000 ≤ x := by omega
    by_cases h3 : 30000 < x
    · have h4 : ¬ x ≤ 30000 := by omega
      simp [h1, h3, h4]
      omega
    · have h4 : x ≤ 30000 := by omega
      simp [h1, h2, h3, h4]
theorem cm97_gives (a b c d e f g h : Int) : Gives Tryz.prog env1 0 97 [.agg #[(.int .i64 a), (.int .i64 b), (.int .i64 c), (.int .i64 d), (.int .i64 e), (.int .i64 f), (.int .i64 g), (.int .i64 h)]] heapN (.int .i64 (cm a b c d e f g h), heapN) := by
  have key := f97_0 a b c d e f g h
  have key2 := f97_1 a b c d e f g h
  simp only [clip_ok, Bool.and_true] at key key2
  unfold cm
  cases hw : wf a b c d e f g h
  · exact key (by unfold wf at hw; rw [hw]; rfl)
  · exact key2 (by unfold wf at hw; rw [hw]; rfl)
def B2 (f : FuncId) (args : List Value) : Option (Heap × Value) :=
  if f == 102 then
    match args with
    | [.agg ⟨[.int .i64 x, .int .i64 y]⟩] => some (heapN, .int .i64 (cp x y))
    | _ => none
  else if f == 97 then
    match args with
    | [.agg ⟨[.int .i64 a, .int .i64 b, .int .i64 c, .int .i64 d, .int .i64 e, .int .i64 f, .int .i64 g, .int .i64 h]⟩] => some (heapN, .int .i64 (cm a b c d e f g h))
    | _ => none
  else none
def env2 : Env := env1.with (baseKnown B2)
theorem env2_ok : EnvOK Tryz.prog 9 env2 := env_base prog_ok env1_ok fun f args H v h => by
  unfold B2 at h
  split at h
  · rename_i hf
    have hf : f = 102 := by simpa using hf
    subst hf
    split at h
    · cases h; exact heapN_ok (cp_gives _ _)
    · cases h
  · split at h
    · rename_i hf
      have hf : f = 97 := by simpa using hf
      subst hf
      split at h
      · cases h; exact heapN_ok (cm97_gives _ _ _ _ _ _ _ _)
      · cases h
    · cases h
end Go.Proofs.YtnhmokgakpknlaaGreatDoor
