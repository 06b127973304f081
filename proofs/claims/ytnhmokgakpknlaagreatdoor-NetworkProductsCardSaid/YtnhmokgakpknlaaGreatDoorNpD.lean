/-
NetworkProducts: what the functions give that it calls. Fourth part: products and determinants.
-/
import Derived.Test.YtnhmokgakpknlaaGreatDoorNpC
namespace Go.Proofs.YtnhmokgakpknlaaGreatDoor
open Go Go.Abs
theorem env3_ok : EnvOK Tryz.prog 9 env3 := env_base prog_ok env2_ok fun f args H v h => by
  unfold B3 at h
  split at h
  · rename_i hf
    have hf : f = 30 := by simpa using hf
    subst hf
    split at h
    · cases h; exact heapN_ok (cm30_gives _ _ _ _ _ _ _ _)
    · cases h
  · cases h
def p0 (a b c d e f g h a' b' c' d' e' f' g' h' : Int) : Int := IntKind.i64.wrap (IntKind.i64.wrap (IntKind.i64.wrap (a * a') - IntKind.i64.wrap (b * b')) + IntKind.i64.wrap (IntKind.i64.wrap (c * e') - IntKind.i64.wrap (d * f')))
def p1 (a b c d e f g h a' b' c' d' e' f' g' h' : Int) : Int := IntKind.i64.wrap (IntKind.i64.wrap (IntKind.i64.wrap (a * b') + IntKind.i64.wrap (b * a')) + IntKind.i64.wrap (IntKind.i64.wrap (c * f') + IntKind.i64.wrap (d * e')))
def p2 (a b c d e f g h a' b' c' d' e' f' g' h' : Int) : Int := IntKind.i64.wrap (IntKind.i64.wrap (IntKind.i64.wrap (a * c') - IntKind.i64.wrap (b * d')) + IntKind.i64.wrap (IntKind.i64.wrap (c * g') - IntKind.i64.wrap (d * h')))
def p3 (a b c d e f g h a' b' c' d' e' f' g' h' : Int) : Int := IntKind.i64.wrap (IntKind.i64.wrap (IntKind.i64.wrap (a * d') + IntKind.i64.wrap (b * c')) + IntKind.i64.wrap (IntKind.i64.wrap (c * h') + IntKind.i64.wrap (d * g')))
def p4 (a b c d e f g h a' b' c' d' e' f' g' h' : Int) : Int := IntKind.i64.wrap (IntKind.i64.wrap (IntKind.i64.wrap (e * a') - IntKind.i64.wrap (f * b')) + IntKind.i64.wrap (IntKind.i64.wrap (g * e') - IntKind.i64.wrap (h * f')))
def p5 (a b c d e f g h a' b' c' d' e' f' g' h' : Int) : Int := IntKind.i64.wrap (IntKind.i64.wrap (IntKind.i64.wrap (e * b') + IntKind.i64.wrap (f * a')) + IntKind.i64.wrap (IntKind.i64.wrap (g * f') + IntKind.i64.wrap (h * e')))
def p6 (a b c d e f g h a' b' c' d' e' f' g' h' : Int) : Int := IntKind.i64.wrap (IntKind.i64.wrap (IntKind.i64.wrap (e * c') - IntKind.i64.wrap (f * d')) + IntKind.i64.wrap (IntKind.i64.wrap (g * g') - IntKind.i64.wrap (h * h')))
def p7 (a b c d e f g h a' b' c' d' e' f' g' h' : Int) : Int := IntKind.i64.wrap (IntKind.i64.wrap (IntKind.i64.wrap (e * d') + IntKind.i64.wrap (f * c')) + IntKind.i64.wrap (IntKind.i64.wrap (g * h') + IntKind.i64.wrap (h * g')))
def d0 (a b c d e f g h : Int) : Int := IntKind.i64.wrap (IntKind.i64.wrap (IntKind.i64.wrap (a * g) - IntKind.i64.wrap (b * h)) - IntKind.i64.wrap (IntKind.i64.wrap (c * e) - IntKind.i64.wrap (d * f)))
def d1 (a b c d e f g h : Int) : Int := IntKind.i64.wrap (IntKind.i64.wrap (IntKind.i64.wrap (a * h) + IntKind.i64.wrap (b * g)) - IntKind.i64.wrap (IntKind.i64.wrap (c * f) + IntKind.i64.wrap (d * e)))
def cc (a b c d e f g h a' b' c' d' e' f' g' h' : Int) : Int := if wf a b c d e f g h && wf a' b' c' d' e' f' g' h' then 0 else 3
def q0 (a b c d e f g h a' b' c' d' e' f' g' h' : Int) : Int := if wf a b c d e f g h && wf a' b' c' d' e' f' g' h' then p0 a b c d e f g h a' b' c' d' e' f' g' h' else 0
def q1 (a b c d e f g h a' b' c' d' e' f' g' h' : Int) : Int := if wf a b c d e f g h && wf a' b' c' d' e' f' g' h' then p1 a b c d e f g h a' b' c' d' e' f' g' h' else 0
def q2 (a b c d e f g h a' b' c' d' e' f' g' h' : Int) : Int := if wf a b c d e f g h && wf a' b' c' d' e' f' g' h' then p2 a b c d e f g h a' b' c' d' e' f' g' h' else 0
def q3 (a b c d e f g h a' b' c' d' e' f' g' h' : Int) : Int := if wf a b c d e f g h && wf a' b' c' d' e' f' g' h' then p3 a b c d e f g h a' b' c' d' e' f' g' h' else 0
def q4 (a b c d e f g h a' b' c' d' e' f' g' h' : Int) : Int := if wf a b c d e f g h && wf a' b' c' d' e' f' g' h' then p4 a b c d e f g h a' b' c' d' e' f' g' h' else 0
def q5 (a b c d e f g h a' b' c' d' e' f' g' h' : Int) : Int := if wf a b c d e f g h && wf a' b' c' d' e' f' g' h' then p5 a b c d e f g h a' b' c' d' e' f' g' h' else 0
def q6 (a b c d e f g h a' b' c' d' e' f' g' h' : Int) : Int := if wf a b c d e f g h && wf a' b' c' d' e' f' g' h' then p6 a b c d e f g h a' b' c' d' e' f' g' h' else 0
def q7 (a b c d e f g h a' b' c' d' e' f' g' h' : Int) : Int := if wf a b c d e f g h && wf a' b' c' d' e' f' g' h' then p7 a b c d e f g h a' b' c' d' e' f' g' h' else 0
def e0 (a b c d e f g h : Int) : Int := if wf a b c d e f g h then d0 a b c d e f g h else 0
def e1 (a b c d e f g h : Int) : Int := if wf a b c d e f g h then d1 a b c d e f g h else 0
theorem f28_0 (a : Int) (b : Int) (c : Int) (d : Int) (e : Int) (f : Int) (g : Int) (h : Int) (a' : Int) (b' : Int) (c' : Int) (d' : Int) (e' : Int) (f' : Int) (g' : Int) (h' : Int) (h0 : (cm a b c d e f g h != 0) = true) : Gives Tryz.prog env3 0 28 [(.agg #[(.int .i64 (a)), (.int .i64 (b)), (.int .i64 (c)), (.int .i64 (d)), (.int .i64 (e)), (.int .i64 (f)), (.int .i64 (g)), (.int .i64 (h))]), (.agg #[(.int .i64 (a')), (.int .i64 (b')), (.int .i64 (c')), (.int .i64 (d')), (.int .i64 (e')), (.int .i64 (f')), (.int .i64 (g')), (.int .i64 (h'))])] heapN ((.tuple #[(.agg #[(.int .i64 (0)), (.int .i64 (0)), (.int .i64 (0)), (.int .i64 (0)), (.int .i64 (0)), (.int .i64 (0)), (.int .i64 (0)), (.int .i64 (0))]), (.int .i64 (cm a b c d e f g h))]), heapN) :=
  Gives.led (n := 1000) (os := [true, true, true]) (os' := []) (tk := [(true, true), (cm a b c d e f g h != 0, true), (cm a b c d e f g h != 0, true)]) (by kernel_rfl) (tookOK_cons rfl (tookOK_cons h0 (tookOK_cons h0 (tookOK_nil))))
theorem f28_1 (a : Int) (b : Int) (c : Int) (d : Int) (e : Int) (f : Int) (g : Int) (h : Int) (a' : Int) (b' : Int) (c' : Int) (d' : Int) (e' : Int) (f' : Int) (g' : Int) (h' : Int) (h0 : (cm a b c d e f g h != 0) = false) (h1 : (cm a' b' c' d' e' f' g' h' != 0) = true) : Gives Tryz.prog env3 0 28 [(.agg #[(.int .i64 (a)), (.int .i64 (b)), (.int .i64 (c)), (.int .i64 (d)), (.int .i64 (e)), (.int .i64 (f)), (.int .i64 (g)), (.int .i64 (h))]), (.agg #[(.int .i64 (a')), (.int .i64 (b')), (.int .i64 (c')), (.int .i64 (d')), (.int .i64 (e')), (.int .i64 (f')), (.int .i64 (g')), (.int .i64 (h'))])] heapN ((.tuple #[(.agg #[(.int .i64 (0)), (.int .i64 (0)), (.int .i64 (0)), (.int .i64 (0)), (.int .i64 (0)), (.int .i64 (0)), (.int .i64 (0)), (.int .i64 (0))]), (.int .i64 (cm a' b' c' d' e' f' g' h'))]), heapN) :=
  Gives.led (n := 1000) (os := [true, false, true, true, true]) (os' := []) (tk := [(true, true), (cm a b c d e f g h != 0, false), (true, true), (cm a' b' c' d' e' f' g' h' != 0, true), (cm a' b' c' d' e' f' g' h' != 0, true)]) (by kernel_rfl) (tookOK_cons rfl (tookOK_cons h0 (tookOK_cons rfl (tookOK_cons h1 (tookOK_cons h1 (tookOK_nil))))))
theorem f28_2 (a : Int) (b : Int) (c : Int) (d : Int) (e : Int) (f : Int) (g : Int) (h : Int) (a' : Int) (b' : Int) (c' : Int) (d' : Int) (e' : Int) (f' : Int) (g' : Int) (h' : Int) (h0 : (cm a b c d e f g h != 0) = false) (h1 : (cm a' b' c' d' e' f' g' h' != 0) = false) : Gives Tryz.prog env3 0 28 [(.agg #[(.int .i64 (a)), (.int .i64 (b)), (.int .i64 (c)), (.int .i64 (d)), (.int .i64 (e)), (.int .i64 (f)), (.int .i64 (g)), (.int .i64 (h))]), (.agg #[(.int .i64 (a')), (.int .i64 (b')), (.int .i64 (c')), (.int .i64 (d')), (.int .i64 (e')), (.int .i64 (f')), (.int .i64 (g')), (.int .i64 (h'))])] heapN ((.tuple #[(.agg #[(.int .i64 (IntKind.i64.wrap (IntKind.i64.wrap (IntKind.i64.wrap (a * a') - IntKind.i64.wrap (b * b')) + IntKind.i64.wrap (IntKind.i64.wrap (c * e') - IntKind.i64.wrap (d * f'))))), (.int .i64 (IntKind.i64.wrap (IntKind.i64.wrap (IntKind.i64.wrap (a * b') + IntKind.i64.wrap (b * a')) + IntKind.i64.wrap (IntKind.i64.wrap (c * f') + IntKind.i64.wrap (d * e'))))), (.int .i64 (IntKind.i64.wrap (IntKind.i64.wrap (IntKind.i64.wrap (a * c') - IntKind.i64.wrap (b * d')) + IntKind.i64.wrap (IntKind.i64.wrap (c * g') - IntKind.i64.wrap (d * h'))))), (.int .i64 (IntKind.i64.wrap (IntKind.i64.wrap (IntKind.i64.wrap (a * d') + IntKind.i64.wrap (b * c')) + IntKind.i64.wrap (IntKind.i64.wrap (c * h') + IntKind.i64.wrap (d * g'))))), (.int .i64 (IntKind.i64.wrap (IntKind.i64.wrap (IntKind.i64.wrap (e * a') - IntKind.i64.wrap (f * b')) + IntKind.i64.wrap (IntKind.i64.wrap (g * e') - IntKind.i64.wrap (h * f'))))), (.int .i64 (IntKind.i64.wrap (IntKind.i64.wrap (IntKind.i64.wrap (e * b') + IntKind.i64.wrap (f * a')) + IntKind.i64.wrap (IntKind.i64.wrap (g * f') + IntKind.i64.wrap (h * e'))))), (.int .i64 (IntKind.i64.wrap (IntKind.i64.wrap (IntKind.i64.wrap (e * c') - IntKind.i64.wrap (f * d')) + IntKind.i64.wrap (IntKind.i64.wrap (g * g') - IntKind.i64.wrap (h * h'))))), (.int .i64 (IntKind.i64.wrap (IntKind.i64.wrap (IntKind.i64.wrap (e * d') + IntKind.i64.wrap (f * c')) + IntKind.i64.wrap (IntKind.i64.wrap (g * h') + IntKind.i64.wrap (h * g')))))]), (.int .i64 (0))]), heapN) :=
  Gives.led (n := 1000) (os := [true, false, true, false, false, false]) (os' := []) (tk := [(true, true), (cm a b c d e f g h != 0, false), (true, true), (cm a' b' c' d' e' f' g' h' != 0, false), (false, false), (false, false)]) (by kernel_rfl) (tookOK_cons rfl (tookOK_cons h0 (tookOK_cons rfl (tookOK_cons h1 (tookOK_cons rfl (tookOK_cons rfl (tookOK_nil)))))))
theorem f32_0 (a : Int) (b : Int) (c : Int) (d : Int) (e : Int) (f : Int) (g : Int) (h : Int) (a' : Int) (b' : Int) (c' : Int) (d' : Int) (e' : Int) (f' : Int) (g' : Int) (h' : Int) : Gives Tryz.prog env3 0 32 [(.agg #[(.int .i64 (a)), (.int .i64 (b)), (.int .i64 (c)), (.int .i64 (d)), (.int .i64 (e)), (.int .i64 (f)), (.int .i64 (g)), (.int .i64 (h))]), (.agg #[(.int .i64 (a')), (.int .i64 (b')), (.int .i64 (c')), (.int .i64 (d')), (.int .i64 (e')), (.int .i64 (f')), (.int .i64 (g')), (.int .i64 (h'))])] heapN ((.agg #[(.int .i64 (IntKind.i64.wrap (IntKind.i64.wrap (IntKind.i64.wrap (a * a') - IntKind.i64.wrap (b * b')) + IntKind.i64.wrap (IntKind.i64.wrap (c * e') - IntKind.i64.wrap (d * f'))))), (.int .i64 (IntKind.i64.wrap (IntKind.i64.wrap (IntKind.i64.wrap (a * b') + IntKind.i64.wrap (b * a')) + IntKind.i64.wrap (IntKind.i64.wrap (c * f') + IntKind.i64.wrap (d * e'))))), (.int .i64 (IntKind.i64.wrap (IntKind.i64.wrap (IntKind.i64.wrap (a * c') - IntKind.i64.wrap (b * d')) + IntKind.i64.wrap (IntKind.i64.wrap (c * g') - IntKind.i64.wrap (d * h'))))), (.int .i64 (IntKind.i64.wrap (IntKind.i64.wrap (IntKind.i64.wrap (a * d') + IntKind.i64.wrap (b * c')) + IntKind.i64.wrap (IntKind.i64.wrap (c * h') + IntKind.i64.wrap (d * g'))))), (.int .i64 (IntKind.i64.wrap (IntKind.i64.wrap (IntKind.i64.wrap (e * a') - IntKind.i64.wrap (f * b')) + IntKind.i64.wrap (IntKind.i64.wrap (g * e') - IntKind.i64.wrap (h * f'))))), (.int .i64 (IntKind.i64.wrap (IntKind.i64.wrap (IntKind.i64.wrap (e * b') + IntKind.i64.wrap (f * a')) + IntKind.i64.wrap (IntKind.i64.wrap (g * f') + IntKind.i64.wrap (h * e'))))), (.int .i64 (IntKind.i64.wrap (IntKind.i64.wrap (IntKind.i64.wrap (e * c') - IntKind.i64.wrap (f * d')) + IntKind.i64.wrap (IntKind.i64.wrap (g * g') - IntKind.i64.wrap (h * h'))))), (.int .i64 (IntKind.i64.wrap (IntKind.i64.wrap (IntKind.i64.wrap (e * d') + IntKind.i64.wrap (f * c')) + IntKind.i64.wrap (IntKind.i64.wrap (g * h') + IntKind.i64.wrap (h * g')))))]), heapN) :=
  Gives.led (n := 1000) (os := [true, true, true, false, true, true, true, false, false]) (os' := []) (tk := [(true, true), (true, true), (true, true), (false, false), (true, true), (true, true), (true, true), (false, false), (false, false)]) (by kernel_rfl) (tookOK_cons rfl (tookOK_cons rfl (tookOK_cons rfl (tookOK_cons rfl (tookOK_cons rfl (tookOK_cons rfl (tookOK_cons rfl (tookOK_cons rfl (tookOK_cons rfl (tookOK_nil))))))))))
theorem f29_0 (a : Int) (b : Int) (c : Int) (d : Int) (e : Int) (f : Int) (g : Int) (h : Int) (h0 : (cm a b c d e f g h != 0) = true) : Gives Tryz.prog env3 0 29 [(.agg #[(.int .i64 (a)), (.int .i64 (b)), (.int .i64 (c)), (.int .i64 (d)), (.int .i64 (e)), (.int .i64 (f)), (.int .i64 (g)), (.int .i64 (h))])] heapN ((.tuple #[(.agg #[(.int .i64 (0)), (.int .i64 (0))]), (.int .i64 (cm a b c d e f g h))]), heapN) :=
  Gives.led (n := 1000) (os := [true]) (os' := []) (tk := [(cm a b c d e f g h != 0, true)]) (by kernel_rfl) (tookOK_cons h0 (tookOK_nil))
theorem f29_1 (a : Int) (b : Int) (c : Int) (d : Int) (e : Int) (f : Int) (g : Int) (h : Int) (h0 : (cm a b c d e f g h != 0) = false) : Gives Tryz.prog env3 0 29 [(.agg #[(.int .i64 (a)), (.int .i64 (b)), (.int .i64 (c)), (.int .i64 (d)), (.int .i64 (e)), (.int .i64 (f)), (.int .i64 (g)), (.int .i64 (h))])] heapN ((.tuple #[(.agg #[(.int .i64 (IntKind.i64.wrap (IntKind.i64.wrap (IntKind.i64.wrap (a * g) - IntKind.i64.wrap (b * h)) - IntKind.i64.wrap (IntKind.i64.wrap (c * e) - IntKind.i64.wrap (d * f))))), (.int .i64 (IntKind.i64.wrap (IntKind.i64.wrap (IntKind.i64.wrap (a * h) + IntKind.i64.wrap (b * g)) - IntKind.i64.wrap (IntKind.i64.wrap (c * f) + IntKind.i64.wrap (d * e)))))]), (.int .i64 (0))]), heapN) :=
  Gives.led (n := 1000) (os := [false]) (os' := []) (tk := [(cm a b c d e f g h != 0, false)]) (by kernel_rfl) (tookOK_cons h0 (tookOK_nil))
theorem f33_0 (a : Int) (b : Int) (c : Int) (d : Int) (e : Int) (f : Int) (g : Int) (h : Int) : Gives Tryz.prog env3 0 33 [(.agg #[(.int .i64 (a)), (.int .i64 (b)), (.int .i64 (c)), (.int .i64 (d)), (.int .i64 (e)), (.int .i64 (f)), (.int .i64 (g)), (.int .i64 (h))])] heapN ((.agg #[(.int .i64 (IntKind.i64.wrap (IntKind.i64.wrap (IntKind.i64.wrap (a * g) - IntKind.i64.wrap (b * h)) - IntKind.i64.wrap (IntKind.i64.wrap (c * e) - IntKind.i64.wrap (d * f))))), (.int .i64 (IntKind.i64.wrap (IntKind.i64.wrap (IntKind.i64.wrap (a * h) + IntKind.i64.wrap (b * g)) - IntKind.i64.wrap (IntKind.i64.wrap (c * f) + IntKind.i64.wrap (d * e)))))]), heapN) :=
  Gives.led (n := 1000) (os := []) (os' := []) (tk := []) (by kernel_rfl) (tookOK_nil)
theorem cm_zero {a b c d e f g h : Int} (hw : wf a b c d e f g h = true) : cm a b c d e f g h = 0 := by unfold cm; rw [hw]; rfl
theorem cm_three {a b c d e f g h : Int} (hw : wf a b c d e f g h = false) : cm a b c d e f g h = 3 := by unfold cm; rw [hw]; rfl
theorem f28_gives (a b c d e f g h a' b' c' d' e' f' g' h' : Int) : Gives Tryz.prog env3 0 28 [.agg #[(.int .i64 a), (.int .i64 b), (.int .i64 c), (.int .i64 d), (.int .i64 e), (.int .i64 f), (.int .i64 g), (.int .i64 h)], .agg #[(.int .i64 a'), (.int .i64 b'), (.int .i64 c'), (.int .i64 d'), (.int .i64 e'), (.int .i64 f'), (.int .i64 g'), (.int .i64 h')]] heapN (.tuple #[.agg #[.int .i64 (q0 a b c d e f g h a' b' c' d' e' f' g' h'), .int .i64 (q1 a b c d e f g h a' b' c' d' e' f' g' h'), .int .i64 (q2 a b c d e f g h a' b' c' d' e' f' g' h'), .int .i64 (q3 a b c d e f g h a' b' c' d' e' f' g' h'), .int .i64 (q4 a b c d e f g h a' b' c' d' e' f' g' h'), .int .i64 (q5 a b c d e f g h a' b' c' d' e' f' g' h'), .int .i64 (q6 a b c d e f g h a' b' c' d' e' f' g' h'), .int .i64 (q7 a b c d e f g h a' b' c' d' e' f' g' h')], .int .i64 (cc a b c d e f g h a' b' c' d' e' f' g' h')], heapN) := by
  cases h1 : wf a b c d e f g h
  · have := f28_0 a b c d e f g h a' b' c' d' e' f' g' h' (by rw [cm_three h1]; rfl)
    rw [cm_three h1] at this
    simpa [q0, q1, q2, q3, q4, q5, q6, q7, cc, h1] using this
  · cases h2 : wf a' b' c' d' e' f' g' h'
    · have := f28_1 a b c d e f g h a' b' c' d' e' f' g' h' (by rw [cm_zero h1]; rfl) (by rw [cm_three h2]; rfl)
      rw [cm_three h2] at this
      simpa [q0, q1, q2, q3, q4, q5, q6, q7, cc, h1, h2] using this
    · have := f28_2 a b c d e f g h a' b' c' d' e' f' g' h' (by rw [cm_zero h1]; rfl) (by rw [cm_zero h2]; rfl)
      simpa only [q0, q1, q2, q3, q4, q5, q6, q7, p0, p1, p2, p3, p4, p5, p6, p7, cc, h1, h2, Bool.and_self, if_true] using this
theorem f29_gives (a b c d e f g h : Int) : Gives Tryz.prog env3 0 29 [.agg #[(.int .i64 a), (.int .i64 b), (.int .i64 c), (.int .i64 d), (.int .i64 e), (.int .i64 f), (.int .i64 g), (.int .i64 h)]] heapN (.tuple #[.agg #[.int .i64 (e0 a b c d e f g h), .int .i64 (e1 a b c d e f g h)], .int .i64 (cm a b c d e f g h)], heapN) := by
  cases h1 : wf a b c d e f g h
  · have := f29_0 a b c d e f g h (by rw [cm_three h1]; rfl)
    simpa [e0, e1, h1] using this
  · have := f29_1 a b c d e f g h (by rw [cm_zero h1]; rfl)
    simpa only [e0, e1, d0, d1, cm, h1, if_true] using this
def B4 (f : FuncId) (args : List Value) : Option (Heap × Value) :=
  if f == 28 then
    match args with
    | [.agg ⟨[.int .i64 a, .int .i64 b, .int .i64 c, .int .i64 d, .int .i64 e, .int .i64 f, .int .i64 g, .int .i64 h]⟩, .agg ⟨[.int .i64 a', .int .i64 b', .int .i64 c', .int .i64 d', .int .i64 e', .int .i64 f', .int .i64 g', .int .i64 h']⟩] => some (heapN, .tuple #[.agg #[.int .i64 (q0 a b c d e f g h a' b' c' d' e' f' g' h'), .int .i64 (q1 a b c d e f g h a' b' c' d' e' f' g' h'), .int .i64 (q2 a b c d e f g h a' b' c' d' e' f' g' h'), .int .i64 (q3 a b c d e f g h a' b' c' d' e' f' g' h'), .int .i64 (q4 a b c d e f g h a' b' c' d' e' f' g' h'), .int .i64 (q5 a b c d e f g h a' b' c' d' e' f' g' h'), .int .i64 (q6 a b c d e f g h a' b' c' d' e' f' g' h'), .int .i64 (q7 a b c d e f g h a' b' c' d' e' f' g' h')], .int .i64 (cc a b c d e f g h a' b' c' d' e' f' g' h')])
    | _ => none
  else if f == 32 then
    match args with
    | [.agg ⟨[.int .i64 a, .int .i64 b, .int .i64 c, .int .i64 d, .int .i64 e, .int .i64 f, .int .i64 g, .int .i64 h]⟩, .agg ⟨[.int .i64 a', .int .i64 b', .int .i64 c', .int .i64 d', .int .i64 e', .int .i64 f', .int .i64 g', .int .i64 h']⟩] => some (heapN, .agg #[.int .i64 (p0 a b c d e f g h a' b' c' d' e' f' g' h'), .int .i64 (p1 a b c d e f g h a' b' c' d' e' f' g' h'), .int .i64 (p2 a b c d e f g h a' b' c' d' e' f' g' h'), .int .i64 (p3 a b c d e f g h a' b' c' d' e' f' g' h'), .int .i64 (p4 a b c d e f g h a' b' c' d' e' f' g' h'), .int .i64 (p5 a b c d e f g h a' b' c' d' e' f' g' h'), .int .i64 (p6 a b c d e f g h a' b' c' d' e' f' g' h'), .int .i64 (p7 a b c d e f g h a' b' c' d' e' f' g' h')])
    | _ => none
  else if f == 29 then
    match args with
    | [.agg ⟨[.int .i64 a, .int .i64 b, .int .i64 c, .int .i64 d, .int .i64 e, .int .i64 f, .int .i64 g, .int .i64 h]⟩] => some (heapN, .tuple #[.agg #[.int .i64 (e0 a b c d e f g h), .int .i64 (e1 a b c d e f g h)], .int .i64 (cm a b c d e f g h)])
    | _ => none
  else if f == 33 then
    match args with
    | [.agg ⟨[.int .i64 a, .int .i64 b, .int .i64 c, .int .i64 d, .int .i64 e, .int .i64 f, .int .i64 g, .int .i64 h]⟩] => some (heapN, .agg #[.int .i64 (d0 a b c d e f g h), .int .i64 (d1 a b c d e f g h)])
    | _ => none
  else none
def env4 : Env := env3.with (baseKnown B4)
theorem env4_ok : EnvOK Tryz.prog 9 env4 := env_base prog_ok env3_ok fun f args H v h => by
  unfold B4 at h
  split at h
  · rename_i hf
    have hf : f = 28 := by simpa using hf
    subst hf
    split at h
    · cases h; exact heapN_ok (f28_gives _ _ _ _ _ _ _ _ _ _ _ _ _ _ _ _)
    · cases h
  · split at h
    · rename_i hf
      have hf : f = 32 := by simpa using hf
      subst hf
      split at h
      · cases h; exact heapN_ok (f32_0 _ _ _ _ _ _ _ _ _ _ _ _ _ _ _ _)
      · cases h
    · split at h
      · rename_i hf
        have hf : f = 29 := by simpa using hf
        subst hf
        split at h
        · cases h; exact heapN_ok (f29_gives _ _ _ _ _ _ _ _)
        · cases h
      · split at h
        · rename_i hf
          have hf : f = 33 := by simpa using hf
          subst hf
          split at h
          · cases h; exact heapN_ok (f33_0 _ _ _ _ _ _ _ _)
          · cases h
        · cases h
end Go.Proofs.YtnhmokgakpknlaaGreatDoor
