/-
ArrayRepeats of the package wooferlaw06 returns true for every input, whatever the world: proved for all arguments, under the conditions that the row and its card name (the package-level tables as laid).
-/
import Derived.Test.YtpdiaiccnaoaiaaGreatDoorMrp2
import Derived.Test.YtpdiaiccnaoaiaaGreatDoorMb5
import Derived.Test.YtpdiaiccnaoaiaaGreatDoorCards
import Derived.Test.YtpdiaiccnaoaiaaGreatDoorTie
import Derived.WalkKit
import Derived.ProofKit
import Derived.OpenShut
import Derived.Deep.DeepHandedRow
import Derived.Lib.LaidTab
import Derived.MakeChecks
set_option linter.unusedVariables false
set_option linter.unusedSimpArgs false
set_option linter.unusedSectionVars false
/-
ArrayRepeats: lists repeated are the same.
-/
namespace Go.Proofs.YtpdiaiccnaoaiaaGreatDoor
open Go Go.Abs
theorem p55E {vA vB : Value} {ra rb : Option ARow} {k1 k2 : Int} (h1 : SaysAt Tryz.prog 8 29 [vA] (n8 [ra, rb]) (I k1) (n8 [ra, rb] ++ [])) (h2 : SaysAt Tryz.prog 8 29 [vB] (n8 [ra, rb]) (I k2) (n8 [ra, rb] ++ [])) (hu : [vA] = [vB] → k1 = k2) (ho : (fstI [k1, k2] != 0) = true) :
    SaysAt Tryz.prog 8 55 [vA, vB] (n8 [ra, rb]) (.tuple #[.slice none 0 0, I (fstI [k1, k2])]) (n8 [ra, rb]) := by
  let L1 : List CallC := [⟨29, [vA], n8 [ra, rb], I k1, []⟩, ⟨84, [sl 10 0 2 2], n8 [ra, rb, rI [k1, k2] 27 .row], I (fstI [k1, k2]), []⟩]
  let X : List CallC := [⟨29, [vB], n8 [ra, rb], I k2, []⟩]
  have one := calls_two (L1 := L1) (X := X) rfl (fc ⟨List.forall_mem_append.2 ⟨fc ⟨fun _ h => ⟨congrArg I (hu h), rfl⟩, fc ⟨fun h => ne_f rfl h, fN⟩⟩, fc ⟨fun _ _ => ⟨rfl, rfl⟩, fN⟩⟩, fN⟩)
  have s84 : SaysAt Tryz.prog 8 84 [sl 10 0 2 2] (n8 [ra, rb, rI [k1, k2] 27 .row]) (I (fstI [k1, k2])) (n8 [ra, rb, rI [k1, k2] 27 .row] ++ []) :=
    SaysAt.rows (T := heapN) (R0 := [rI [k1, k2] 27 .row]) (R1 := []) [10] (fi_says' [k1, k2] 2 27 .row (show (2 : Nat) ≤ 1000 by decide)) rfl rfl rfl rfl rfl (rowsI rfl) rfl rfl rfl
  have ok : EnvOK Tryz.prog 8 (envM.calls [29, 84] (L1 ++ X)) := Env.calls_ok envM_ok (List.forall_mem_append.2 ⟨fc ⟨h1, fc ⟨s84, fN⟩⟩, fc ⟨h2, fN⟩⟩)
  refine SaysAt.of_gives prog_ok ok (p55e_p0 _ vA vB ra rb k1 k2 (fstI [k1, k2]) (fun lim A hA => ?_) (fun lim A hA => ?_) (fun lim A hA => ?_) ho)
  · subst hA; exact calls_here2 (E := envM) (fs := [29, 84]) (lim := lim) one _ (List.mem_of_getElem? (i := 0) rfl) rfl
  · subst hA; exact calls_here2 (E := envM) (fs := [29, 84]) (lim := lim) one _ (List.mem_of_getElem? (i := 2) rfl) rfl
  · subst hA; exact calls_here2 (E := envM) (fs := [29, 84]) (lim := lim) one _ (List.mem_of_getElem? (i := 1) rfl) rfl
theorem p55E1 {vA vB : Value} {ra : Option ARow} {k1 k2 : Int} (h1 : SaysAt Tryz.prog 8 29 [vA] (n8 [ra]) (I k1) (n8 [ra] ++ [])) (h2 : SaysAt Tryz.prog 8 29 [vB] (n8 [ra]) (I k2) (n8 [ra] ++ [])) (hu : [vA] = [vB] → k1 = k2) (ho : (fstI [k1, k2] != 0) = true) :
    SaysAt Tryz.prog 8 55 [vA, vB] (n8 [ra]) (.tuple #[.slice none 0 0, I (fstI [k1, k2])]) (n8 [ra]) := by
  let L1 : List CallC := [⟨29, [vA], n8 [ra], I k1, []⟩, ⟨84, [sl 9 0 2 2], n8 [ra, rI [k1, k2] 27 .row], I (fstI [k1, k2]), []⟩]
  let X : List CallC := [⟨29, [vB], n8 [ra], I k2, []⟩]
  have one := calls_two (L1 := L1) (X := X) rfl (fc ⟨List.forall_mem_append.2 ⟨fc ⟨fun _ h => ⟨congrArg I (hu h), rfl⟩, fc ⟨fun h => ne_f rfl h, fN⟩⟩, fc ⟨fun _ _ => ⟨rfl, rfl⟩, fN⟩⟩, fN⟩)
  have s84 : SaysAt Tryz.prog 8 84 [sl 9 0 2 2] (n8 [ra, rI [k1, k2] 27 .row]) (I (fstI [k1, k2])) (n8 [ra, rI [k1, k2] 27 .row] ++ []) :=
    SaysAt.rows (T := heapN) (R0 := [rI [k1, k2] 27 .row]) (R1 := []) [9] (fi_says' [k1, k2] 2 27 .row (show (2 : Nat) ≤ 1000 by decide)) rfl rfl rfl rfl rfl (rowsI rfl) rfl rfl rfl
  have ok : EnvOK Tryz.prog 8 (envM.calls [29, 84] (L1 ++ X)) := Env.calls_ok envM_ok (List.forall_mem_append.2 ⟨fc ⟨h1, fc ⟨s84, fN⟩⟩, fc ⟨h2, fN⟩⟩)
  refine SaysAt.of_gives prog_ok ok (p55e1_p0 _ vA vB ra k1 k2 (fstI [k1, k2]) (fun lim A hA => ?_) (fun lim A hA => ?_) (fun lim A hA => ?_) ho)
  · subst hA; exact calls_here2 (E := envM) (fs := [29, 84]) (lim := lim) one _ (List.mem_of_getElem? (i := 0) rfl) rfl
  · subst hA; exact calls_here2 (E := envM) (fs := [29, 84]) (lim := lim) one _ (List.mem_of_getElem? (i := 2) rfl) rfl
  · subst hA; exact calls_here2 (E := envM) (fs := [29, 84]) (lim := lim) one _ (List.mem_of_getElem? (i := 1) rfl) rfl
theorem p55N1 {vB : Value} {ra : Option ARow} {k2 : Int} (h2 : SaysAt Tryz.prog 8 29 [vB] (n8 [ra]) (I k2) (n8 [ra] ++ [])) (hu : [vB] = [.slice none 0 0] → k2 = 0) (ho : (fstI [0, k2] != 0) = false) :
    SaysAt Tryz.prog 8 55 [.slice none 0 0, vB] (n8 [ra]) (.tuple #[.slice none 0 0, I 0]) (n8 [ra]) := by
  let L1 : List CallC := [⟨29, [vB], n8 [ra], I k2, []⟩, ⟨84, [sl 9 0 2 2], n8 [ra, rI [0, k2] 27 .row], I (fstI [0, k2]), []⟩, ⟨29, [.slice none 0 0], n8 [ra, rI [0, k2] 27 .row], I 0, []⟩]
  let X : List CallC := [⟨29, [.slice none 0 0], n8 [ra], I 0, []⟩]
  have one := calls_two (L1 := L1) (X := X) rfl (fc ⟨List.forall_mem_append.2 ⟨fc ⟨fun _ h => ⟨congrArg I (hu h), rfl⟩, fc ⟨fun h => ne_f rfl h, fc ⟨fun _ _ => ⟨rfl, rfl⟩, fN⟩⟩⟩, fc ⟨fun _ _ => ⟨rfl, rfl⟩, fN⟩⟩, fN⟩)
  have s84 : SaysAt Tryz.prog 8 84 [sl 9 0 2 2] (n8 [ra, rI [0, k2] 27 .row]) (I (fstI [0, k2])) (n8 [ra, rI [0, k2] 27 .row] ++ []) :=
    SaysAt.rows (T := heapN) (R0 := [rI [0, k2] 27 .row]) (R1 := []) [9] (fi_says' [0, k2] 2 27 .row (show (2 : Nat) ≤ 1000 by decide)) rfl rfl rfl rfl rfl (rowsI rfl) rfl rfl rfl
  have ok : EnvOK Tryz.prog 8 (envM.calls [29, 84] (L1 ++ X)) := Env.calls_ok envM_ok (List.forall_mem_append.2 ⟨fc ⟨h2, fc ⟨s84, fc ⟨n29 _ rfl, fN⟩⟩⟩, fc ⟨n29 _ rfl, fN⟩⟩)
  refine SaysAt.of_gives prog_ok ok (p55n1_p0 _ vB ra k2 (fstI [0, k2]) (fun lim A hA => ?_) (fun lim A hA => ?_) (fun lim A hA => ?_) (fun lim A hA => ?_) ho)
  · subst hA; exact calls_here2 (E := envM) (fs := [29, 84]) (lim := lim) one _ (List.mem_of_getElem? (i := 0) rfl) rfl
  · subst hA; exact calls_here2 (E := envM) (fs := [29, 84]) (lim := lim) one _ (List.mem_of_getElem? (i := 1) rfl) rfl
  · subst hA; exact calls_here2 (E := envM) (fs := [29, 84]) (lim := lim) one _ (List.mem_of_getElem? (i := 3) rfl) rfl
  · subst hA; exact calls_here2 (E := envM) (fs := [29, 84]) (lim := lim) one _ (List.mem_of_getElem? (i := 2) rfl) rfl
/-- A list repeated: an error of the lists. -/
theorem s55e (xs ys : List Sr) (hx : xs.length ≤ 1000) (hy : ys.length ≤ 1000) (ho : (fstI [chkR xs, chkR ys] != 0) = true) (A : Heap) (h0 : startsB heap0 A = true) (h1 : hget A 11 = rwA 32 xs.length (srs xs)) (h2 : hget A 12 = rwA 32 ys.length (srs ys)) :
    SaysAt Tryz.prog 8 55 [svA 11 xs.length, svA 12 ys.length] A (.tuple #[.slice none 0 0, I (fstI [chkR xs, chkR ys])]) (A ++ [none]) := by
  cases xs with
  | nil => cases ys with
    | nil => cases ho
    | cons y m => exact liftE (T := heapN) (R0 := [rS (y :: m) 32 .row]) [12] (p55E1 (ra := rS (y :: m) 32 .row) (n29 _ rfl) (s29_8 (y :: m) hy _ rfl rfl) (fun h => by simp at h) ho) rfl rfl (sN h0) rfl rfl (rowsS h2) rfl
  | cons x l => cases ys with
    | nil => exact liftE (T := heapN) (R0 := [rS (x :: l) 32 .row]) [11] (p55E1 (ra := rS (x :: l) 32 .row) (s29_8 (x :: l) hx _ rfl rfl) (n29 _ rfl) (fun h => by simp at h) ho) rfl rfl (sN h0) rfl rfl (rowsS h1) rfl
    | cons y m => exact liftE (T := heapN) (R0 := [rS (x :: l) 32 .row, rS (y :: m) 32 .row]) [11, 12] (p55E (ra := rS (x :: l) 32 .row) (rb := rS (y :: m) 32 .row) (s29_8 (x :: l) hx _ rfl rfl) (s29_9 (y :: m) hy _ rfl rfl) (fun h => by simp at h) ho) rfl rfl (sN h0) rfl rfl (rows2 h1 h2) rfl
theorem s29_11 (zs : List Sr) (hb : zs.length ≤ 1000) (ra rb bx : Option ARow) : SaysAt Tryz.prog 8 29 [svA 11 zs.length] (n8 [ra, rb, bx, rwA 32 zs.length (srs zs)]) (I (chkR zs)) (n8 [ra, rb, bx, rwA 32 zs.length (srs zs)] ++ []) := by
  cases zs with
  | nil => exact n29 _ rfl
  | cons z l => exact chk_eq (z :: l) ▸ SaysAt.rows (T := heapN) (R0 := [rS (z :: l) 32 .row]) (R1 := []) [11] (ca_says (z :: l) (l.length + 1) 32 .row hb) rfl rfl rfl rfl rfl (rowsS rfl) rfl rfl rfl
theorem s25_10 (zs : List Sr) (ra rb : Option ARow) : SaysAt Tryz.prog 8 25 [svA 10 zs.length] (n8 [ra, rb, rwA 24 zs.length (srs zs)]) (I (chkR zs)) (n8 [ra, rb, rwA 24 zs.length (srs zs)] ++ []) := by
  cases zs with
  | nil => exact n25a _ rfl
  | cons z l => exact SaysAt.rows (T := heapN) (R0 := [rS (z :: l) 24 .row]) (R1 := []) [10] (rc_all (z :: l) (l.length + 1) 24 .row) rfl rfl rfl rfl rfl (rowsS rfl) rfl rfl rfl
theorem valM {ids : List Nat} {L r p : Nat} (h : ∀ M, valBy (outNum 8 ids L) (.tuple #[.slice (some ⟨r, 0, none⟩) (M + 1) (M + 1), I 0]) = some (.tuple #[.slice (some ⟨p, 0, none⟩) (M + 1) (M + 1), I 0])) : ∀ M, valBy (outNum 8 ids L) (.tuple #[svA r M, I 0]) = some (.tuple #[svA p M, I 0]) := by
  intro M
  cases M with
  | zero => rfl
  | succ M => exact h M
theorem p55Z : SaysAt Tryz.prog 8 55 [.slice none 0 0, .slice none 0 0] heapN (.tuple #[.slice none 0 0, I 0]) heapN := by
  let L : List CallC := [⟨29, [.slice none 0 0], heapN, I 0, []⟩, ⟨84, [sl 8 0 2 2], n8 [rI [0, 0] 27 .row], I 0, []⟩, ⟨29, [.slice none 0 0], n8 [rI [0, 0] 27 .row], I 0, []⟩]
  have one := calls_two (L1 := L) (X := []) rfl fN
  have s84 : SaysAt Tryz.prog 8 84 [sl 8 0 2 2] (n8 [rI [0, 0] 27 .row]) (I 0) (n8 [rI [0, 0] 27 .row] ++ []) :=
    SaysAt.rows (T := heapN) (R0 := [rI [0, 0] 27 .row]) (R1 := []) [8] (fi_says' [0, 0] 2 27 .row (show (2 : Nat) ≤ 1000 by decide)) rfl rfl rfl rfl rfl (rowsI rfl) rfl rfl rfl
  have ok : EnvOK Tryz.prog 8 (envM.calls [29, 84] (L ++ [])) := Env.calls_ok envM_ok (List.forall_mem_append.2 ⟨fc ⟨n29 _ rfl, fc ⟨s84, fc ⟨n29 _ rfl, fN⟩⟩⟩, fN⟩)
  refine SaysAt.of_gives prog_ok ok (p55z_p0 _ (fun lim A hA => ?_) (fun lim A hA => ?_) (fun lim A hA => ?_))
  · subst hA; exact calls_here2 (E := envM) (fs := [29, 84]) (lim := lim) one _ (List.mem_of_getElem? (i := 0) rfl) rfl
  · subst hA; exact calls_here2 (E := envM) (fs := [29, 84]) (lim := lim) one _ (List.mem_of_getElem? (i := 1) rfl) rfl
  · subst hA; exact calls_here2 (E := envM) (fs := [29, 84]) (lim := lim) one _ (List.mem_of_getElem? (i := 2) rfl) rfl
/-- A list repeated. -/
theorem s55o (xs ys : List Sr) (hx : xs.length ≤ 16) (hy : ys.length ≤ 16) (ho : (fstI [chkR xs, chkR ys] != 0) = false) (A : Heap) (h0 : startsB heap0 A = true) (h1 : hget A 11 = rwA 32 xs.length (srs xs)) (h2 : hget A 12 = rwA 32 ys.length (srs ys)) (hl : A.length = 13) :
    SaysAt Tryz.prog 8 55 [svA 11 xs.length, svA 12 ys.length] A (.tuple #[reV 13 (reL reP xs ys xs.length), I (chkR (reL reP xs ys xs.length))]) (A ++ [reW 32 (reL reP xs ys xs.length)]) := by
  cases xs with
  | nil =>
    show SaysAt Tryz.prog 8 55 [.slice none 0 0, svA 12 ys.length] A (.tuple #[.slice none 0 0, I 0]) (A ++ [none])
    cases ys with
    | nil => exact liftE (T := heapN) (R0 := []) [] p55Z rfl rfl (sN h0) rfl rfl rfl rfl
    | cons y m => exact liftE (T := heapN) (R0 := [rS (y :: m) 32 .row]) [12] (p55N1 (ra := rS (y :: m) 32 .row) (s29_8 (y :: m) (by omega) _ rfl rfl) (fun h => by simp at h) ho) rfl rfl (sN h0) rfl rfl (rowsS h2) rfl
  | cons x l => cases ys with
    | nil =>
      rw [reL_nil]
      exact liftE (T := heapN) (R0 := [rS (x :: l) 32 .row]) [11] (pn_says (x :: l) (l.length + 1) 32 .row (by omega) ho) rfl rfl (sN h0) rfl rfl (rowsS h1) rfl
    | cons y m =>
      have hZ : (reL reP (x :: l) (y :: m) (x :: l).length).length ≤ 1000 := reL_len16 hx hy (Nat.le_refl _)
      have ho' : (fstI [chkP (x :: l), chkP (y :: m)] != 0) = false := by rw [chk_eq, chk_eq]; exact ho
      cases hk : (chkR (reL reP (x :: l) (y :: m) (x :: l).length) != 0) with
      | true =>
        simp only [reV, reW, hk, if_true]
        exact liftE (T := heapN) (R0 := [rS (x :: l) 32 .row, rS (y :: m) 32 .row]) [11, 12] (pp_says_e (x :: l) (y :: m) (l.length + 1) 32 (m.length + 1) 32 .row .row hx hy ho' _ (fun bx => s29_11 _ hZ _ _ bx) hk (fun bx => rfl)) rfl rfl (sN h0) rfl rfl (rows2 h1 h2) rfl
      | false =>
        have hz : chkR (reL reP (x :: l) (y :: m) (x :: l).length) = 0 := by simpa using hk
        simp only [reV, reW, hk, Bool.false_eq_true, if_false]
        rw [hz]
        exact liftR (T := heapN) (R0 := [rS (x :: l) 32 .row, rS (y :: m) 32 .row]) (r := 10) [11, 12] (pp_says_o (x :: l) (y :: m) (l.length + 1) 32 (m.length + 1) 32 .row .row hx hy ho' _ (fun bx => s29_11 _ hZ _ _ bx) hk (fun bx => gcR (fun _ => rfl) (fun _ => rfl) (fun z q h => by rw [h]; exact keptS rfl) rfl)) rfl rfl (sN h0) rfl rfl (rows2 h1 h2) rfl (by rw [hl]; exact valM fun _ => rfl)
theorem s57_ll (xs ys : List Sr) (c e c2 e2 : Nat) (u u2 : Use) (hx : xs.length ≤ 16) (hy : ys.length ≤ 16) (A : Heap) (h0 : startsB heap0 A = true) (h1 : hget A 8 = rS xs e u) (h2 : hget A 9 = rS ys e2 u2) (hl : A.length = 16) :
    SaysAt Tryz.prog 8 57 [sl 8 0 xs.length c, sl 9 0 ys.length c2] A (.tuple #[reV 16 (reL reR xs ys xs.length), I (chkR (reL reR xs ys xs.length))]) (A ++ [reW 24 (reL reR xs ys xs.length)]) := by
  cases hk : (chkR (reL reR xs ys xs.length) != 0) with
  | true =>
    simp only [reV, reW, hk, if_true]
    exact liftE (T := heapN) (R0 := [rS xs e u, rS ys e2 u2]) [8, 9] (rr_says_e xs ys c e c2 e2 u u2 hx hy _ (s25_10 _ _ _) hk rfl) rfl rfl (sN h0) rfl rfl (rows2 h1 h2) rfl
  | false =>
    have hz : chkR (reL reR xs ys xs.length) = 0 := by simpa using hk
    simp only [reV, reW, hk, Bool.false_eq_true, if_false]
    rw [hz]
    exact liftR (T := heapN) (R0 := [rS xs e u, rS ys e2 u2]) (r := 10) [8, 9] (rr_says_o xs ys c e c2 e2 u u2 hx hy _ (s25_10 _ _ _) hk (gcR (fun _ => rfl) (fun _ => rfl) (fun z q h => by rw [h]; exact keptS rfl) rfl)) rfl rfl (sN h0) rfl rfl (rows2 h1 h2) rfl (by rw [hl]; exact valM fun _ => rfl)
theorem s57_ln (xs : List Sr) (c e : Nat) (u : Use) (hx : xs.length ≤ 16) (A : Heap) (h0 : startsB heap0 A = true) (h1 : hget A 8 = rS xs e u) :
    SaysAt Tryz.prog 8 57 [sl 8 0 xs.length c, .slice none 0 0] A (.tuple #[reV 16 (reL reR xs [] xs.length), I (chkR (reL reR xs [] xs.length))]) (A ++ [reW 24 (reL reR xs [] xs.length)]) := by
  rw [reL_nil]
  exact liftE (T := heapN) (R0 := [rS xs e u]) [8] (rn_says xs c e u (by omega) (n25a _ rfl)) rfl rfl (sN h0) rfl rfl (rowsS h1) rfl
theorem s57_nl (ys : List Sr) (c e : Nat) (u : Use) (A : Heap) (h0 : startsB heap0 A = true) (h1 : hget A 8 = rS ys e u) :
    SaysAt Tryz.prog 8 57 [.slice none 0 0, sl 8 0 ys.length c] A (.tuple #[reV 16 (reL reR [] ys 0), I (chkR (reL reR [] ys 0))]) (A ++ [reW 24 (reL reR [] ys 0)]) :=
  liftE (T := heapN) (R0 := [rS ys e u]) [8] (SaysAt.of_gives prog_ok envB_ok (r57n_p0 _ _)) rfl rfl (sN h0) rfl rfl (rowsS h1) rfl
theorem s57_nn (A : Heap) (h0 : startsB heap0 A = true) :
    SaysAt Tryz.prog 8 57 [.slice none 0 0, .slice none 0 0] A (.tuple #[reV 16 (reL reR [] [] 0), I (chkR (reL reR [] [] 0))]) (A ++ [reW 24 (reL reR [] [] 0)]) :=
  liftE (T := heapN) (R0 := []) [] (SaysAt.of_gives prog_ok envB_ok r57z_p0) rfl rfl (sN h0) rfl rfl rfl rfl
/-- Lists repeated are the same. -/
theorem rept_of {vL vB : Value} {r8 r9 : Option ARow} (xs ys : List Sr) (hx : xs.length ≤ 1000) (hy : ys.length ≤ 1000)
    (s57 : xs.length ≤ 16 → ys.length ≤ 16 → ∀ A, startsB heap0 A = true → hget A 8 = r8 → hget A 9 = r9 → A.length = 16 → SaysAt Tryz.prog 8 57 [vL, vB] A (.tuple #[reV 16 (reL reR xs ys xs.length), I (chkR (reL reR xs ys xs.length))]) (A ++ [reW 24 (reL reR xs ys xs.length)])) :
    Rept vL vB (svA 11 xs.length) (svA 12 ys.length) r8 r9 (rwA 32 xs.length (srs xs)) (rwA 32 ys.length (srs ys)) (fstI [chkR xs, chkR ys]) := by
  cases ho : (fstI [chkR xs, chkR ys] == 0) with
  | false =>
    have ho' : (fstI [chkR xs, chkR ys] != 0) = true := by rw [bne, ho]; rfl
    exact ⟨.slice none 0 0, _, none, fun A h0 h1 h2 _ => s55e xs ys hx hy ho' A h0 h1 h2, fun _ A h0 _ => err54 ho A h0, fun h => by rw [ho] at h; cases h⟩
  | true =>
    have ho' : (fstI [chkR xs, chkR ys] != 0) = false := by rw [bne, ho]; rfl
    obtain ⟨kx, ky⟩ := fst2z ho
    have hZ := reL_eq (okS_mem kx) (okS_mem ky) xs.length (Nat.le_refl _)
    refine ⟨_, _, _, fun A h0 h1 h2 hl => s55o xs ys (chk16 kx) (chk16 ky) ho' A h0 h1 h2 hl, (fun h => by rw [ho] at h; cases h), fun _ => ⟨_, _, _, s57 (chk16 kx) (chk16 ky), fun A h0 h1 h2 => ?_⟩⟩
    rw [hZ] at h1 ⊢
    exact s54re _ (reL_len16 (chk16 kx) (chk16 ky) (Nat.le_refl _)) A h0 h1 h2
/-
Binomial rows: 56.
-/
abbrev bE (E : Nat) (k g x y : Int) : Option ARow := some (.cells [I (W (k * x)), I (W (k * y)), I g, I 0] E .row)
abbrev bX (x y : Int) : Option ARow := some (.cells [I x, I y] 3 .row)
abbrev bP (p : Int) : Option ARow := some (.cells [I 0, I p] 27 .row)
abbrev bQ (x y : Int) : Option ARow := some (.cells [I 0, I (cpl50_r0 x), I (cpl50_r0 y)] 3 .row)
abbrev bF (r : Nat) (R : Option ARow) (f : FuncId) (args : List Value) (v : Int) : Prop := ∀ (lim : Nat) (A : Heap), hget A r = R → Gives Tryz.prog envM lim f args A (I v, A)
abbrev bL2 (E : Nat) (x y : Int) : Option ARow := some (.cells [I (W (0 * x)), I (W (0 * y)), I 1, I 0, I (W (1 * x)), I (W (1 * y)), I 1, I 0] E .row)
abbrev bL3 (E : Nat) (x y : Int) : Option ARow := some (.cells [I (W (0 * x)), I (W (0 * y)), I 1, I 0, I (W (1 * x)), I (W (1 * y)), I 2, I 0, I (W (2 * x)), I (W (2 * y)), I 1, I 0] E .row)
abbrev bL4 (E : Nat) (x y : Int) : Option ARow := some (.cells [I (W (0 * x)), I (W (0 * y)), I 1, I 0, I (W (1 * x)), I (W (1 * y)), I 3, I 0, I (W (2 * x)), I (W (2 * y)), I 3, I 0, I (W (3 * x)), I (W (3 * y)), I 1, I 0] E .row)
abbrev bL5 (E : Nat) (x y : Int) : Option ARow := some (.cells [I (W (0 * x)), I (W (0 * y)), I 1, I 0, I (W (1 * x)), I (W (1 * y)), I 4, I 0, I (W (2 * x)), I (W (2 * y)), I 6, I 0, I (W (3 * x)), I (W (3 * y)), I 4, I 0, I (W (4 * x)), I (W (4 * y)), I 1, I 0] E .row)
abbrev bL6 (E : Nat) (x y : Int) : Option ARow := some (.cells [I (W (0 * x)), I (W (0 * y)), I 1, I 0, I (W (1 * x)), I (W (1 * y)), I 5, I 0, I (W (2 * x)), I (W (2 * y)), I 10, I 0, I (W (3 * x)), I (W (3 * y)), I 10, I 0, I (W (4 * x)), I (W (4 * y)), I 5, I 0, I (W (5 * x)), I (W (5 * y)), I 1, I 0] E .row)
abbrev bL7 (E : Nat) (x y : Int) : Option ARow := some (.cells [I (W (0 * x)), I (W (0 * y)), I 1, I 0, I (W (1 * x)), I (W (1 * y)), I 6, I 0, I (W (2 * x)), I (W (2 * y)), I 15, I 0, I (W (3 * x)), I (W (3 * y)), I 20, I 0, I (W (4 * x)), I (W (4 * y)), I 15, I 0, I (W (5 * x)), I (W (5 * y)), I 6, I 0, I (W (6 * x)), I (W (6 * y)), I 1, I 0] E .row)
abbrev bL8 (E : Nat) (x y : Int) : Option ARow := some (.cells [I (W (0 * x)), I (W (0 * y)), I 1, I 0, I (W (1 * x)), I (W (1 * y)), I 7, I 0, I (W (2 * x)), I (W (2 * y)), I 21, I 0, I (W (3 * x)), I (W (3 * y)), I 35, I 0, I (W (4 * x)), I (W (4 * y)), I 35, I 0, I (W (5 * x)), I (W (5 * y)), I 21, I 0, I (W (6 * x)), I (W (6 * y)), I 7, I 0, I (W (7 * x)), I (W (7 * y)), I 1, I 0] E .row)
abbrev bL9 (E : Nat) (x y : Int) : Option ARow := some (.cells [I (W (0 * x)), I (W (0 * y)), I 1, I 0, I (W (1 * x)), I (W (1 * y)), I 8, I 0, I (W (2 * x)), I (W (2 * y)), I 28, I 0, I (W (3 * x)), I (W (3 * y)), I 56, I 0, I (W (4 * x)), I (W (4 * y)), I 70, I 0, I (W (5 * x)), I (W (5 * y)), I 56, I 0, I (W (6 * x)), I (W (6 * y)), I 28, I 0, I (W (7 * x)), I (W (7 * y)), I 8, I 0, I (W (8 * x)), I (W (8 * y)), I 1, I 0] E .row)
theorem b56_1o_p0 (x y p o k : Int) (h99 : bF 8 (bX x y) 99 [sl 8 0 2 2] p) (h84 : bF 9 (bP p) 84 [sl 9 0 2 2] o) (h29 : bF 11 (bE 32 0 1 x y) 29 [sl 11 0 1 1] k) (f1 : (o != 0) = false) (f2 : (k != 0) = false) : Gives Tryz.prog envM 0 56 [I 1, I x, I y] heapN ((.tuple #[(sl 8 0 1 1), (I 0)]), (n8 [bE 32 0 1 x y])) :=
  Gives.by (n := 1000) (os := [.opw 56 18 (I p) (n8 [bX x y]), .opw 56 20 (I o) (n8 [bX x y, bP p]), .br 56 44 false, .opw 100 7 (I k) (n8 [bX x y, bP p, bE 32 0 1 x y, bE 32 0 1 x y]), .br 100 18 false]) (os' := []) (by kernel_rfl) (ObsOK.call (h99 8 (n8 [bX x y]) (by kernel_rfl)) (ObsOK.call (h84 8 (n8 [bX x y, bP p]) (by kernel_rfl)) (ObsOK.cond f1 (ObsOK.call (h29 12 (n8 [bX x y, bP p, bE 32 0 1 x y, bE 32 0 1 x y]) (by kernel_rfl)) (ObsOK.cond f2 (ObsOK.nil))))))
theorem b56_1e_p0 (x y p o k : Int) (h99 : bF 8 (bX x y) 99 [sl 8 0 2 2] p) (h84 : bF 9 (bP p) 84 [sl 9 0 2 2] o) (h29 : bF 11 (bE 32 0 1 x y) 29 [sl 11 0 1 1] k) (f1 : (o != 0) = false) (f2 : (k != 0) = true) : Gives Tryz.prog envM 0 56 [I 1, I x, I y] heapN ((.tuple #[(.slice .none 0 0), I k]), heapN) :=
  Gives.by (n := 1000) (os := [.opw 56 18 (I p) (n8 [bX x y]), .opw 56 20 (I o) (n8 [bX x y, bP p]), .br 56 44 false, .opw 100 7 (I k) (n8 [bX x y, bP p, bE 32 0 1 x y, bE 32 0 1 x y]), .br 100 18 true]) (os' := []) (by kernel_rfl) (ObsOK.call (h99 8 (n8 [bX x y]) (by kernel_rfl)) (ObsOK.call (h84 8 (n8 [bX x y, bP p]) (by kernel_rfl)) (ObsOK.cond f1 (ObsOK.call (h29 12 (n8 [bX x y, bP p, bE 32 0 1 x y, bE 32 0 1 x y]) (by kernel_rfl)) (ObsOK.cond f2 (ObsOK.nil))))))
theorem b56_2o_p0 (x y p o k : Int) (h99 : bF 8 (bX x y) 99 [sl 8 0 2 2] p) (h84 : bF 9 (bP p) 84 [sl 9 0 2 2] o) (h29 : bF 13 (bL2 32 x y) 29 [sl 13 0 2 2] k) (f1 : (o != 0) = false) (f2 : (k != 0) = false) : Gives Tryz.prog envM 0 56 [I 2, I x, I y] heapN ((.tuple #[(sl 8 0 2 2), (I 0)]), (n8 [bL2 32 x y])) :=
  Gives.by (n := 1000) (os := [.opw 56 18 (I p) (n8 [bX x y]), .opw 56 20 (I o) (n8 [bX x y, bP p]), .br 56 44 false, .opw 100 7 (I k) (n8 [bX x y, bP p, bE 32 0 1 x y, .none, bE 32 1 1 x y, bL2 32 x y]), .br 100 18 false]) (os' := []) (by kernel_rfl) (ObsOK.call (h99 8 (n8 [bX x y]) (by kernel_rfl)) (ObsOK.call (h84 8 (n8 [bX x y, bP p]) (by kernel_rfl)) (ObsOK.cond f1 (ObsOK.call (h29 14 (n8 [bX x y, bP p, bE 32 0 1 x y, .none, bE 32 1 1 x y, bL2 32 x y]) (by kernel_rfl)) (ObsOK.cond f2 (ObsOK.nil))))))
theorem b56_2e_p0 (x y p o k : Int) (h99 : bF 8 (bX x y) 99 [sl 8 0 2 2] p) (h84 : bF 9 (bP p) 84 [sl 9 0 2 2] o) (h29 : bF 13 (bL2 32 x y) 29 [sl 13 0 2 2] k) (f1 : (o != 0) = false) (f2 : (k != 0) = true) : Gives Tryz.prog envM 0 56 [I 2, I x, I y] heapN ((.tuple #[(.slice .none 0 0), I k]), heapN) :=
  Gives.by (n := 1000) (os := [.opw 56 18 (I p) (n8 [bX x y]), .opw 56 20 (I o) (n8 [bX x y, bP p]), .br 56 44 false, .opw 100 7 (I k) (n8 [bX x y, bP p, bE 32 0 1 x y, .none, bE 32 1 1 x y, bL2 32 x y]), .br 100 18 true]) (os' := []) (by kernel_rfl) (ObsOK.call (h99 8 (n8 [bX x y]) (by kernel_rfl)) (ObsOK.call (h84 8 (n8 [bX x y, bP p]) (by kernel_rfl)) (ObsOK.cond f1 (ObsOK.call (h29 14 (n8 [bX x y, bP p, bE 32 0 1 x y, .none, bE 32 1 1 x y, bL2 32 x y]) (by kernel_rfl)) (ObsOK.cond f2 (ObsOK.nil))))))
theorem b56_3o_p0 (x y p o k : Int) (h99 : bF 8 (bX x y) 99 [sl 8 0 2 2] p) (h84 : bF 9 (bP p) 84 [sl 9 0 2 2] o) (h29 : bF 15 (bL3 32 x y) 29 [sl 15 0 3 3] k) (f1 : (o != 0) = false) (f2 : (k != 0) = false) : Gives Tryz.prog envM 0 56 [I 3, I x, I y] heapN ((.tuple #[(sl 8 0 3 3), (I 0)]), (n8 [bL3 32 x y])) :=
  Gives.by (n := 1000) (os := [.opw 56 18 (I p) (n8 [bX x y]), .opw 56 20 (I o) (n8 [bX x y, bP p]), .br 56 44 false, .opw 100 7 (I k) (n8 [bX x y, bP p, bE 32 0 1 x y, .none, bE 32 1 2 x y, .none, bE 32 2 1 x y, bL3 32 x y]), .br 100 18 false]) (os' := []) (by kernel_rfl) (ObsOK.call (h99 8 (n8 [bX x y]) (by kernel_rfl)) (ObsOK.call (h84 8 (n8 [bX x y, bP p]) (by kernel_rfl)) (ObsOK.cond f1 (ObsOK.call (h29 16 (n8 [bX x y, bP p, bE 32 0 1 x y, .none, bE 32 1 2 x y, .none, bE 32 2 1 x y, bL3 32 x y]) (by kernel_rfl)) (ObsOK.cond f2 (ObsOK.nil))))))
theorem b56_3e_p0 (x y p o k : Int) (h99 : bF 8 (bX x y) 99 [sl 8 0 2 2] p) (h84 : bF 9 (bP p) 84 [sl 9 0 2 2] o) (h29 : bF 15 (bL3 32 x y) 29 [sl 15 0 3 3] k) (f1 : (o != 0) = false) (f2 : (k != 0) = true) : Gives Tryz.prog envM 0 56 [I 3, I x, I y] heapN ((.tuple #[(.slice .none 0 0), I k]), heapN) :=
  Gives.by (n := 1000) (os := [.opw 56 18 (I p) (n8 [bX x y]), .opw 56 20 (I o) (n8 [bX x y, bP p]), .br 56 44 false, .opw 100 7 (I k) (n8 [bX x y, bP p, bE 32 0 1 x y, .none, bE 32 1 2 x y, .none, bE 32 2 1 x y, bL3 32 x y]), .br 100 18 true]) (os' := []) (by kernel_rfl) (ObsOK.call (h99 8 (n8 [bX x y]) (by kernel_rfl)) (ObsOK.call (h84 8 (n8 [bX x y, bP p]) (by kernel_rfl)) (ObsOK.cond f1 (ObsOK.call (h29 16 (n8 [bX x y, bP p, bE 32 0 1 x y, .none, bE 32 1 2 x y, .none, bE 32 2 1 x y, bL3 32 x y]) (by kernel_rfl)) (ObsOK.cond f2 (ObsOK.nil))))))
theorem b56_4o_p0 (x y p o k : Int) (h99 : bF 8 (bX x y) 99 [sl 8 0 2 2] p) (h84 : bF 9 (bP p) 84 [sl 9 0 2 2] o) (h29 : bF 17 (bL4 32 x y) 29 [sl 17 0 4 4] k) (f1 : (o != 0) = false) (f2 : (k != 0) = false) : Gives Tryz.prog envM 0 56 [I 4, I x, I y] heapN ((.tuple #[(sl 8 0 4 4), (I 0)]), (n8 [bL4 32 x y])) :=
  Gives.by (n := 1000) (os := [.opw 56 18 (I p) (n8 [bX x y]), .opw 56 20 (I o) (n8 [bX x y, bP p]), .br 56 44 false, .opw 100 7 (I k) (n8 [bX x y, bP p, bE 32 0 1 x y, .none, bE 32 1 3 x y, .none, bE 32 2 3 x y, .none, bE 32 3 1 x y, bL4 32 x y]), .br 100 18 false]) (os' := []) (by kernel_rfl) (ObsOK.call (h99 8 (n8 [bX x y]) (by kernel_rfl)) (ObsOK.call (h84 8 (n8 [bX x y, bP p]) (by kernel_rfl)) (ObsOK.cond f1 (ObsOK.call (h29 18 (n8 [bX x y, bP p, bE 32 0 1 x y, .none, bE 32 1 3 x y, .none, bE 32 2 3 x y, .none, bE 32 3 1 x y, bL4 32 x y]) (by kernel_rfl)) (ObsOK.cond f2 (ObsOK.nil))))))
theorem b56_4e_p0 (x y p o k : Int) (h99 : bF 8 (bX x y) 99 [sl 8 0 2 2] p) (h84 : bF 9 (bP p) 84 [sl 9 0 2 2] o) (h29 : bF 17 (bL4 32 x y) 29 [sl 17 0 4 4] k) (f1 : (o != 0) = false) (f2 : (k != 0) = true) : Gives Tryz.prog envM 0 56 [I 4, I x, I y] heapN ((.tuple #[(.slice .none 0 0), I k]), heapN) :=
  Gives.by (n := 1000) (os := [.opw 56 18 (I p) (n8 [bX x y]), .opw 56 20 (I o) (n8 [bX x y, bP p]), .br 56 44 false, .opw 100 7 (I k) (n8 [bX x y, bP p, bE 32 0 1 x y, .none, bE 32 1 3 x y, .none, bE 32 2 3 x y, .none, bE 32 3 1 x y, bL4 32 x y]), .br 100 18 true]) (os' := []) (by kernel_rfl) (ObsOK.call (h99 8 (n8 [bX x y]) (by kernel_rfl)) (ObsOK.call (h84 8 (n8 [bX x y, bP p]) (by kernel_rfl)) (ObsOK.cond f1 (ObsOK.call (h29 18 (n8 [bX x y, bP p, bE 32 0 1 x y, .none, bE 32 1 3 x y, .none, bE 32 2 3 x y, .none, bE 32 3 1 x y, bL4 32 x y]) (by kernel_rfl)) (ObsOK.cond f2 (ObsOK.nil))))))
theorem b56_5o_p0 (x y p o k : Int) (h99 : bF 8 (bX x y) 99 [sl 8 0 2 2] p) (h84 : bF 9 (bP p) 84 [sl 9 0 2 2] o) (h29 : bF 19 (bL5 32 x y) 29 [sl 19 0 5 5] k) (f1 : (o != 0) = false) (f2 : (k != 0) = false) : Gives Tryz.prog envM 0 56 [I 5, I x, I y] heapN ((.tuple #[(sl 8 0 5 5), (I 0)]), (n8 [bL5 32 x y])) :=
  Gives.by (n := 1000) (os := [.opw 56 18 (I p) (n8 [bX x y]), .opw 56 20 (I o) (n8 [bX x y, bP p]), .br 56 44 false, .opw 100 7 (I k) (n8 [bX x y, bP p, bE 32 0 1 x y, .none, bE 32 1 4 x y, .none, bE 32 2 6 x y, .none, bE 32 3 4 x y, .none, bE 32 4 1 x y, bL5 32 x y]), .br 100 18 false]) (os' := []) (by kernel_rfl) (ObsOK.call (h99 8 (n8 [bX x y]) (by kernel_rfl)) (ObsOK.call (h84 8 (n8 [bX x y, bP p]) (by kernel_rfl)) (ObsOK.cond f1 (ObsOK.call (h29 20 (n8 [bX x y, bP p, bE 32 0 1 x y, .none, bE 32 1 4 x y, .none, bE 32 2 6 x y, .none, bE 32 3 4 x y, .none, bE 32 4 1 x y, bL5 32 x y]) (by kernel_rfl)) (ObsOK.cond f2 (ObsOK.nil))))))
theorem b56_5e_p0 (x y p o k : Int) (h99 : bF 8 (bX x y) 99 [sl 8 0 2 2] p) (h84 : bF 9 (bP p) 84 [sl 9 0 2 2] o) (h29 : bF 19 (bL5 32 x y) 29 [sl 19 0 5 5] k) (f1 : (o != 0) = false) (f2 : (k != 0) = true) : Gives Tryz.prog envM 0 56 [I 5, I x, I y] heapN ((.tuple #[(.slice .none 0 0), I k]), heapN) :=
  Gives.by (n := 1000) (os := [.opw 56 18 (I p) (n8 [bX x y]), .opw 56 20 (I o) (n8 [bX x y, bP p]), .br 56 44 false, .opw 100 7 (I k) (n8 [bX x y, bP p, bE 32 0 1 x y, .none, bE 32 1 4 x y, .none, bE 32 2 6 x y, .none, bE 32 3 4 x y, .none, bE 32 4 1 x y, bL5 32 x y]), .br 100 18 true]) (os' := []) (by kernel_rfl) (ObsOK.call (h99 8 (n8 [bX x y]) (by kernel_rfl)) (ObsOK.call (h84 8 (n8 [bX x y, bP p]) (by kernel_rfl)) (ObsOK.cond f1 (ObsOK.call (h29 20 (n8 [bX x y, bP p, bE 32 0 1 x y, .none, bE 32 1 4 x y, .none, bE 32 2 6 x y, .none, bE 32 3 4 x y, .none, bE 32 4 1 x y, bL5 32 x y]) (by kernel_rfl)) (ObsOK.cond f2 (ObsOK.nil))))))
theorem b56_6o_p0 (x y p o k : Int) (h99 : bF 8 (bX x y) 99 [sl 8 0 2 2] p) (h84 : bF 9 (bP p) 84 [sl 9 0 2 2] o) (h29 : bF 21 (bL6 32 x y) 29 [sl 21 0 6 6] k) (f1 : (o != 0) = false) (f2 : (k != 0) = false) : Gives Tryz.prog envM 0 56 [I 6, I x, I y] heapN ((.tuple #[(sl 8 0 6 6), (I 0)]), (n8 [bL6 32 x y])) :=
  Gives.by (n := 1000) (os := [.opw 56 18 (I p) (n8 [bX x y]), .opw 56 20 (I o) (n8 [bX x y, bP p]), .br 56 44 false, .opw 100 7 (I k) (n8 [bX x y, bP p, bE 32 0 1 x y, .none, bE 32 1 5 x y, .none, bE 32 2 10 x y, .none, bE 32 3 10 x y, .none, bE 32 4 5 x y, .none, bE 32 5 1 x y, bL6 32 x y]), .br 100 18 false]) (os' := []) (by kernel_rfl) (ObsOK.call (h99 8 (n8 [bX x y]) (by kernel_rfl)) (ObsOK.call (h84 8 (n8 [bX x y, bP p]) (by kernel_rfl)) (ObsOK.cond f1 (ObsOK.call (h29 22 (n8 [bX x y, bP p, bE 32 0 1 x y, .none, bE 32 1 5 x y, .none, bE 32 2 10 x y, .none, bE 32 3 10 x y, .none, bE 32 4 5 x y, .none, bE 32 5 1 x y, bL6 32 x y]) (by kernel_rfl)) (ObsOK.cond f2 (ObsOK.nil))))))
theorem b56_6e_p0 (x y p o k : Int) (h99 : bF 8 (bX x y) 99 [sl 8 0 2 2] p) (h84 : bF 9 (bP p) 84 [sl 9 0 2 2] o) (h29 : bF 21 (bL6 32 x y) 29 [sl 21 0 6 6] k) (f1 : (o != 0) = false) (f2 : (k != 0) = true) : Gives Tryz.prog envM 0 56 [I 6, I x, I y] heapN ((.tuple #[(.slice .none 0 0), I k]), heapN) :=
  Gives.by (n := 1000) (os := [.opw 56 18 (I p) (n8 [bX x y]), .opw 56 20 (I o) (n8 [bX x y, bP p]), .br 56 44 false, .opw 100 7 (I k) (n8 [bX x y, bP p, bE 32 0 1 x y, .none, bE 32 1 5 x y, .none, bE 32 2 10 x y, .none, bE 32 3 10 x y, .none, bE 32 4 5 x y, .none, bE 32 5 1 x y, bL6 32 x y]), .br 100 18 true]) (os' := []) (by kernel_rfl) (ObsOK.call (h99 8 (n8 [bX x y]) (by kernel_rfl)) (ObsOK.call (h84 8 (n8 [bX x y, bP p]) (by kernel_rfl)) (ObsOK.cond f1 (ObsOK.call (h29 22 (n8 [bX x y, bP p, bE 32 0 1 x y, .none, bE 32 1 5 x y, .none, bE 32 2 10 x y, .none, bE 32 3 10 x y, .none, bE 32 4 5 x y, .none, bE 32 5 1 x y, bL6 32 x y]) (by kernel_rfl)) (ObsOK.cond f2 (ObsOK.nil))))))
theorem b56_7o_p0 (x y p o k : Int) (h99 : bF 8 (bX x y) 99 [sl 8 0 2 2] p) (h84 : bF 9 (bP p) 84 [sl 9 0 2 2] o) (h29 : bF 23 (bL7 32 x y) 29 [sl 23 0 7 7] k) (f1 : (o != 0) = false) (f2 : (k != 0) = false) : Gives Tryz.prog envM 0 56 [I 7, I x, I y] heapN ((.tuple #[(sl 8 0 7 7), (I 0)]), (n8 [bL7 32 x y])) :=
  Gives.by (n := 1000) (os := [.opw 56 18 (I p) (n8 [bX x y]), .opw 56 20 (I o) (n8 [bX x y, bP p]), .br 56 44 false, .opw 100 7 (I k) (n8 [bX x y, bP p, bE 32 0 1 x y, .none, bE 32 1 6 x y, .none, bE 32 2 15 x y, .none, bE 32 3 20 x y, .none, bE 32 4 15 x y, .none, bE 32 5 6 x y, .none, bE 32 6 1 x y, bL7 32 x y]), .br 100 18 false]) (os' := []) (by kernel_rfl) (ObsOK.call (h99 8 (n8 [bX x y]) (by kernel_rfl)) (ObsOK.call (h84 8 (n8 [bX x y, bP p]) (by kernel_rfl)) (ObsOK.cond f1 (ObsOK.call (h29 24 (n8 [bX x y, bP p, bE 32 0 1 x y, .none, bE 32 1 6 x y, .none, bE 32 2 15 x y, .none, bE 32 3 20 x y, .none, bE 32 4 15 x y, .none, bE 32 5 6 x y, .none, bE 32 6 1 x y, bL7 32 x y]) (by kernel_rfl)) (ObsOK.cond f2 (ObsOK.nil))))))
theorem b56_7e_p0 (x y p o k : Int) (h99 : bF 8 (bX x y) 99 [sl 8 0 2 2] p) (h84 : bF 9 (bP p) 84 [sl 9 0 2 2] o) (h29 : bF 23 (bL7 32 x y) 29 [sl 23 0 7 7] k) (f1 : (o != 0) = false) (f2 : (k != 0) = true) : Gives Tryz.prog envM 0 56 [I 7, I x, I y] heapN ((.tuple #[(.slice .none 0 0), I k]), heapN) :=
  Gives.by (n := 1000) (os := [.opw 56 18 (I p) (n8 [bX x y]), .opw 56 20 (I o) (n8 [bX x y, bP p]), .br 56 44 false, .opw 100 7 (I k) (n8 [bX x y, bP p, bE 32 0 1 x y, .none, bE 32 1 6 x y, .none, bE 32 2 15 x y, .none, bE 32 3 20 x y, .none, bE 32 4 15 x y, .none, bE 32 5 6 x y, .none, bE 32 6 1 x y, bL7 32 x y]), .br 100 18 true]) (os' := []) (by kernel_rfl) (ObsOK.call (h99 8 (n8 [bX x y]) (by kernel_rfl)) (ObsOK.call (h84 8 (n8 [bX x y, bP p]) (by kernel_rfl)) (ObsOK.cond f1 (ObsOK.call (h29 24 (n8 [bX x y, bP p, bE 32 0 1 x y, .none, bE 32 1 6 x y, .none, bE 32 2 15 x y, .none, bE 32 3 20 x y, .none, bE 32 4 15 x y, .none, bE 32 5 6 x y, .none, bE 32 6 1 x y, bL7 32 x y]) (by kernel_rfl)) (ObsOK.cond f2 (ObsOK.nil))))))
theorem b56_8o_p0 (x y p o k : Int) (h99 : bF 8 (bX x y) 99 [sl 8 0 2 2] p) (h84 : bF 9 (bP p) 84 [sl 9 0 2 2] o) (h29 : bF 25 (bL8 32 x y) 29 [sl 25 0 8 8] k) (f1 : (o != 0) = false) (f2 : (k != 0) = false) : Gives Tryz.prog envM 0 56 [I 8, I x, I y] heapN ((.tuple #[(sl 8 0 8 8), (I 0)]), (n8 [bL8 32 x y])) :=
  Gives.by (n := 1000) (os := [.opw 56 18 (I p) (n8 [bX x y]), .opw 56 20 (I o) (n8 [bX x y, bP p]), .br 56 44 false, .opw 100 7 (I k) (n8 [bX x y, bP p, bE 32 0 1 x y, .none, bE 32 1 7 x y, .none, bE 32 2 21 x y, .none, bE 32 3 35 x y, .none, bE 32 4 35 x y, .none, bE 32 5 21 x y, .none, bE 32 6 7 x y, .none, bE 32 7 1 x y, bL8 32 x y]), .br 100 18 false]) (os' := []) (by kernel_rfl) (ObsOK.call (h99 8 (n8 [bX x y]) (by kernel_rfl)) (ObsOK.call (h84 8 (n8 [bX x y, bP p]) (by kernel_rfl)) (ObsOK.cond f1 (ObsOK.call (h29 26 (n8 [bX x y, bP p, bE 32 0 1 x y, .none, bE 32 1 7 x y, .none, bE 32 2 21 x y, .none, bE 32 3 35 x y, .none, bE 32 4 35 x y, .none, bE 32 5 21 x y, .none, bE 32 6 7 x y, .none, bE 32 7 1 x y, bL8 32 x y]) (by kernel_rfl)) (ObsOK.cond f2 (ObsOK.nil))))))
theorem b56_8e_p0 (x y p o k : Int) (h99 : bF 8 (bX x y) 99 [sl 8 0 2 2] p) (h84 : bF 9 (bP p) 84 [sl 9 0 2 2] o) (h29 : bF 25 (bL8 32 x y) 29 [sl 25 0 8 8] k) (f1 : (o != 0) = false) (f2 : (k != 0) = true) : Gives Tryz.prog envM 0 56 [I 8, I x, I y] heapN ((.tuple #[(.slice .none 0 0), I k]), heapN) :=
  Gives.by (n := 1000) (os := [.opw 56 18 (I p) (n8 [bX x y]), .opw 56 20 (I o) (n8 [bX x y, bP p]), .br 56 44 false, .opw 100 7 (I k) (n8 [bX x y, bP p, bE 32 0 1 x y, .none, bE 32 1 7 x y, .none, bE 32 2 21 x y, .none, bE 32 3 35 x y, .none, bE 32 4 35 x y, .none, bE 32 5 21 x y, .none, bE 32 6 7 x y, .none, bE 32 7 1 x y, bL8 32 x y]), .br 100 18 true]) (os' := []) (by kernel_rfl) (ObsOK.call (h99 8 (n8 [bX x y]) (by kernel_rfl)) (ObsOK.call (h84 8 (n8 [bX x y, bP p]) (by kernel_rfl)) (ObsOK.cond f1 (ObsOK.call (h29 26 (n8 [bX x y, bP p, bE 32 0 1 x y, .none, bE 32 1 7 x y, .none, bE 32 2 21 x y, .none, bE 32 3 35 x y, .none, bE 32 4 35 x y, .none, bE 32 5 21 x y, .none, bE 32 6 7 x y, .none, bE 32 7 1 x y, bL8 32 x y]) (by kernel_rfl)) (ObsOK.cond f2 (ObsOK.nil))))))
theorem b56_9o_p0 (x y p o k : Int) (h99 : bF 8 (bX x y) 99 [sl 8 0 2 2] p) (h84 : bF 9 (bP p) 84 [sl 9 0 2 2] o) (h29 : bF 27 (bL9 32 x y) 29 [sl 27 0 9 9] k) (f1 : (o != 0) = false) (f2 : (k != 0) = false) : Gives Tryz.prog envM 0 56 [I 9, I x, I y] heapN ((.tuple #[(sl 8 0 9 9), (I 0)]), (n8 [bL9 32 x y])) :=
  Gives.by (n := 1000) (os := [.opw 56 18 (I p) (n8 [bX x y]), .opw 56 20 (I o) (n8 [bX x y, bP p]), .br 56 44 false, .opw 100 7 (I k) (n8 [bX x y, bP p, bE 32 0 1 x y, .none, bE 32 1 8 x y, .none, bE 32 2 28 x y, .none, bE 32 3 56 x y, .none, bE 32 4 70 x y, .none, bE 32 5 56 x y, .none, bE 32 6 28 x y, .none, bE 32 7 8 x y, .none, bE 32 8 1 x y, bL9 32 x y]), .br 100 18 false]) (os' := []) (by kernel_rfl) (ObsOK.call (h99 8 (n8 [bX x y]) (by kernel_rfl)) (ObsOK.call (h84 8 (n8 [bX x y, bP p]) (by kernel_rfl)) (ObsOK.cond f1 (ObsOK.call (h29 28 (n8 [bX x y, bP p, bE 32 0 1 x y, .none, bE 32 1 8 x y, .none, bE 32 2 28 x y, .none, bE 32 3 56 x y, .none, bE 32 4 70 x y, .none, bE 32 5 56 x y, .none, bE 32 6 28 x y, .none, bE 32 7 8 x y, .none, bE 32 8 1 x y, bL9 32 x y]) (by kernel_rfl)) (ObsOK.cond f2 (ObsOK.nil))))))
theorem b56_9e_p0 (x y p o k : Int) (h99 : bF 8 (bX x y) 99 [sl 8 0 2 2] p) (h84 : bF 9 (bP p) 84 [sl 9 0 2 2] o) (h29 : bF 27 (bL9 32 x y) 29 [sl 27 0 9 9] k) (f1 : (o != 0) = false) (f2 : (k != 0) = true) : Gives Tryz.prog envM 0 56 [I 9, I x, I y] heapN ((.tuple #[(.slice .none 0 0), I k]), heapN) :=
  Gives.by (n := 1000) (os := [.opw 56 18 (I p) (n8 [bX x y]), .opw 56 20 (I o) (n8 [bX x y, bP p]), .br 56 44 false, .opw 100 7 (I k) (n8 [bX x y, bP p, bE 32 0 1 x y, .none, bE 32 1 8 x y, .none, bE 32 2 28 x y, .none, bE 32 3 56 x y, .none, bE 32 4 70 x y, .none, bE 32 5 56 x y, .none, bE 32 6 28 x y, .none, bE 32 7 8 x y, .none, bE 32 8 1 x y, bL9 32 x y]), .br 100 18 true]) (os' := []) (by kernel_rfl) (ObsOK.call (h99 8 (n8 [bX x y]) (by kernel_rfl)) (ObsOK.call (h84 8 (n8 [bX x y, bP p]) (by kernel_rfl)) (ObsOK.cond f1 (ObsOK.call (h29 28 (n8 [bX x y, bP p, bE 32 0 1 x y, .none, bE 32 1 8 x y, .none, bE 32 2 28 x y, .none, bE 32 3 56 x y, .none, bE 32 4 70 x y, .none, bE 32 5 56 x y, .none, bE 32 6 28 x y, .none, bE 32 7 8 x y, .none, bE 32 8 1 x y, bL9 32 x y]) (by kernel_rfl)) (ObsOK.cond f2 (ObsOK.nil))))))
/-
Binomial rows: 58.
-/
theorem b58_1o_p0 (x y p o k : Int) (h23 : bF 8 (bQ x y) 23 [sl 8 0 3 3] o) (h25 : bF 10 (bE 24 0 1 x y) 25 [sl 10 0 1 1] k) (f1 : (o != 0) = false) (f2 : (k != 0) = false) : Gives Tryz.prog envM 0 58 [I 1, I x, I y] heapN ((.tuple #[(sl 8 0 1 1), (I 0)]), (n8 [bE 24 0 1 x y])) :=
  Gives.by (n := 1000) (os := [.opw 58 21 (I o) (n8 [bQ x y]), .br 58 46 false, .opw 58 51 (I k) (n8 [bQ x y, bE 24 0 1 x y, bE 24 0 1 x y]), .br 58 106 false]) (os' := []) (by kernel_rfl) (ObsOK.call (h23 8 (n8 [bQ x y]) (by kernel_rfl)) (ObsOK.cond f1 (ObsOK.call (h25 8 (n8 [bQ x y, bE 24 0 1 x y, bE 24 0 1 x y]) (by kernel_rfl)) (ObsOK.cond f2 (ObsOK.nil)))))
theorem b58_1e_p0 (x y p o k : Int) (h23 : bF 8 (bQ x y) 23 [sl 8 0 3 3] o) (h25 : bF 10 (bE 24 0 1 x y) 25 [sl 10 0 1 1] k) (f1 : (o != 0) = false) (f2 : (k != 0) = true) : Gives Tryz.prog envM 0 58 [I 1, I x, I y] heapN ((.tuple #[(.slice .none 0 0), I k]), heapN) :=
  Gives.by (n := 1000) (os := [.opw 58 21 (I o) (n8 [bQ x y]), .br 58 46 false, .opw 58 51 (I k) (n8 [bQ x y, bE 24 0 1 x y, bE 24 0 1 x y]), .br 58 106 true]) (os' := []) (by kernel_rfl) (ObsOK.call (h23 8 (n8 [bQ x y]) (by kernel_rfl)) (ObsOK.cond f1 (ObsOK.call (h25 8 (n8 [bQ x y, bE 24 0 1 x y, bE 24 0 1 x y]) (by kernel_rfl)) (ObsOK.cond f2 (ObsOK.nil)))))
theorem b58_2o_p0 (x y p o k : Int) (h23 : bF 8 (bQ x y) 23 [sl 8 0 3 3] o) (h25 : bF 12 (bL2 24 x y) 25 [sl 12 0 2 2] k) (f1 : (o != 0) = false) (f2 : (k != 0) = false) : Gives Tryz.prog envM 0 58 [I 2, I x, I y] heapN ((.tuple #[(sl 8 0 2 2), (I 0)]), (n8 [bL2 24 x y])) :=
  Gives.by (n := 1000) (os := [.opw 58 21 (I o) (n8 [bQ x y]), .br 58 46 false, .opw 58 51 (I k) (n8 [bQ x y, bE 24 0 1 x y, .none, bE 24 1 1 x y, bL2 24 x y]), .br 58 106 false]) (os' := []) (by kernel_rfl) (ObsOK.call (h23 8 (n8 [bQ x y]) (by kernel_rfl)) (ObsOK.cond f1 (ObsOK.call (h25 8 (n8 [bQ x y, bE 24 0 1 x y, .none, bE 24 1 1 x y, bL2 24 x y]) (by kernel_rfl)) (ObsOK.cond f2 (ObsOK.nil)))))
theorem b58_2e_p0 (x y p o k : Int) (h23 : bF 8 (bQ x y) 23 [sl 8 0 3 3] o) (h25 : bF 12 (bL2 24 x y) 25 [sl 12 0 2 2] k) (f1 : (o != 0) = false) (f2 : (k != 0) = true) : Gives Tryz.prog envM 0 58 [I 2, I x, I y] heapN ((.tuple #[(.slice .none 0 0), I k]), heapN) :=
  Gives.by (n := 1000) (os := [.opw 58 21 (I o) (n8 [bQ x y]), .br 58 46 false, .opw 58 51 (I k) (n8 [bQ x y, bE 24 0 1 x y, .none, bE 24 1 1 x y, bL2 24 x y]), .br 58 106 true]) (os' := []) (by kernel_rfl) (ObsOK.call (h23 8 (n8 [bQ x y]) (by kernel_rfl)) (ObsOK.cond f1 (ObsOK.call (h25 8 (n8 [bQ x y, bE 24 0 1 x y, .none, bE 24 1 1 x y, bL2 24 x y]) (by kernel_rfl)) (ObsOK.cond f2 (ObsOK.nil)))))
theorem b58_3o_p0 (x y p o k : Int) (h23 : bF 8 (bQ x y) 23 [sl 8 0 3 3] o) (h25 : bF 14 (bL3 24 x y) 25 [sl 14 0 3 3] k) (f1 : (o != 0) = false) (f2 : (k != 0) = false) : Gives Tryz.prog envM 0 58 [I 3, I x, I y] heapN ((.tuple #[(sl 8 0 3 3), (I 0)]), (n8 [bL3 24 x y])) :=
  Gives.by (n := 1000) (os := [.opw 58 21 (I o) (n8 [bQ x y]), .br 58 46 false, .opw 58 51 (I k) (n8 [bQ x y, bE 24 0 1 x y, .none, bE 24 1 2 x y, .none, bE 24 2 1 x y, bL3 24 x y]), .br 58 106 false]) (os' := []) (by kernel_rfl) (ObsOK.call (h23 8 (n8 [bQ x y]) (by kernel_rfl)) (ObsOK.cond f1 (ObsOK.call (h25 8 (n8 [bQ x y, bE 24 0 1 x y, .none, bE 24 1 2 x y, .none, bE 24 2 1 x y, bL3 24 x y]) (by kernel_rfl)) (ObsOK.cond f2 (ObsOK.nil)))))
theorem b58_3e_p0 (x y p o k : Int) (h23 : bF 8 (bQ x y) 23 [sl 8 0 3 3] o) (h25 : bF 14 (bL3 24 x y) 25 [sl 14 0 3 3] k) (f1 : (o != 0) = false) (f2 : (k != 0) = true) : Gives Tryz.prog envM 0 58 [I 3, I x, I y] heapN ((.tuple #[(.slice .none 0 0), I k]), heapN) :=
  Gives.by (n := 1000) (os := [.opw 58 21 (I o) (n8 [bQ x y]), .br 58 46 false, .opw 58 51 (I k) (n8 [bQ x y, bE 24 0 1 x y, .none, bE 24 1 2 x y, .none, bE 24 2 1 x y, bL3 24 x y]), .br 58 106 true]) (os' := []) (by kernel_rfl) (ObsOK.call (h23 8 (n8 [bQ x y]) (by kernel_rfl)) (ObsOK.cond f1 (ObsOK.call (h25 8 (n8 [bQ x y, bE 24 0 1 x y, .none, bE 24 1 2 x y, .none, bE 24 2 1 x y, bL3 24 x y]) (by kernel_rfl)) (ObsOK.cond f2 (ObsOK.nil)))))
theorem b58_4o_p0 (x y p o k : Int) (h23 : bF 8 (bQ x y) 23 [sl 8 0 3 3] o) (h25 : bF 16 (bL4 24 x y) 25 [sl 16 0 4 4] k) (f1 : (o != 0) = false) (f2 : (k != 0) = false) : Gives Tryz.prog envM 0 58 [I 4, I x, I y] heapN ((.tuple #[(sl 8 0 4 4), (I 0)]), (n8 [bL4 24 x y])) :=
  Gives.by (n := 1000) (os := [.opw 58 21 (I o) (n8 [bQ x y]), .br 58 46 false, .opw 58 51 (I k) (n8 [bQ x y, bE 24 0 1 x y, .none, bE 24 1 3 x y, .none, bE 24 2 3 x y, .none, bE 24 3 1 x y, bL4 24 x y]), .br 58 106 false]) (os' := []) (by kernel_rfl) (ObsOK.call (h23 8 (n8 [bQ x y]) (by kernel_rfl)) (ObsOK.cond f1 (ObsOK.call (h25 8 (n8 [bQ x y, bE 24 0 1 x y, .none, bE 24 1 3 x y, .none, bE 24 2 3 x y, .none, bE 24 3 1 x y, bL4 24 x y]) (by kernel_rfl)) (ObsOK.cond f2 (ObsOK.nil)))))
theorem b58_4e_p0 (x y p o k : Int) (h23 : bF 8 (bQ x y) 23 [sl 8 0 3 3] o) (h25 : bF 16 (bL4 24 x y) 25 [sl 16 0 4 4] k) (f1 : (o != 0) = false) (f2 : (k != 0) = true) : Gives Tryz.prog envM 0 58 [I 4, I x, I y] heapN ((.tuple #[(.slice .none 0 0), I k]), heapN) :=
  Gives.by (n := 1000) (os := [.opw 58 21 (I o) (n8 [bQ x y]), .br 58 46 false, .opw 58 51 (I k) (n8 [bQ x y, bE 24 0 1 x y, .none, bE 24 1 3 x y, .none, bE 24 2 3 x y, .none, bE 24 3 1 x y, bL4 24 x y]), .br 58 106 true]) (os' := []) (by kernel_rfl) (ObsOK.call (h23 8 (n8 [bQ x y]) (by kernel_rfl)) (ObsOK.cond f1 (ObsOK.call (h25 8 (n8 [bQ x y, bE 24 0 1 x y, .none, bE 24 1 3 x y, .none, bE 24 2 3 x y, .none, bE 24 3 1 x y, bL4 24 x y]) (by kernel_rfl)) (ObsOK.cond f2 (ObsOK.nil)))))
theorem b58_5o_p0 (x y p o k : Int) (h23 : bF 8 (bQ x y) 23 [sl 8 0 3 3] o) (h25 : bF 18 (bL5 24 x y) 25 [sl 18 0 5 5] k) (f1 : (o != 0) = false) (f2 : (k != 0) = false) : Gives Tryz.prog envM 0 58 [I 5, I x, I y] heapN ((.tuple #[(sl 8 0 5 5), (I 0)]), (n8 [bL5 24 x y])) :=
  Gives.by (n := 1000) (os := [.opw 58 21 (I o) (n8 [bQ x y]), .br 58 46 false, .opw 58 51 (I k) (n8 [bQ x y, bE 24 0 1 x y, .none, bE 24 1 4 x y, .none, bE 24 2 6 x y, .none, bE 24 3 4 x y, .none, bE 24 4 1 x y, bL5 24 x y]), .br 58 106 false]) (os' := []) (by kernel_rfl) (ObsOK.call (h23 8 (n8 [bQ x y]) (by kernel_rfl)) (ObsOK.cond f1 (ObsOK.call (h25 8 (n8 [bQ x y, bE 24 0 1 x y, .none, bE 24 1 4 x y, .none, bE 24 2 6 x y, .none, bE 24 3 4 x y, .none, bE 24 4 1 x y, bL5 24 x y]) (by kernel_rfl)) (ObsOK.cond f2 (ObsOK.nil)))))
theorem b58_5e_p0 (x y p o k : Int) (h23 : bF 8 (bQ x y) 23 [sl 8 0 3 3] o) (h25 : bF 18 (bL5 24 x y) 25 [sl 18 0 5 5] k) (f1 : (o != 0) = false) (f2 : (k != 0) = true) : Gives Tryz.prog envM 0 58 [I 5, I x, I y] heapN ((.tuple #[(.slice .none 0 0), I k]), heapN) :=
  Gives.by (n := 1000) (os := [.opw 58 21 (I o) (n8 [bQ x y]), .br 58 46 false, .opw 58 51 (I k) (n8 [bQ x y, bE 24 0 1 x y, .none, bE 24 1 4 x y, .none, bE 24 2 6 x y, .none, bE 24 3 4 x y, .none, bE 24 4 1 x y, bL5 24 x y]), .br 58 106 true]) (os' := []) (by kernel_rfl) (ObsOK.call (h23 8 (n8 [bQ x y]) (by kernel_rfl)) (ObsOK.cond f1 (ObsOK.call (h25 8 (n8 [bQ x y, bE 24 0 1 x y, .none, bE 24 1 4 x y, .none, bE 24 2 6 x y, .none, bE 24 3 4 x y, .none, bE 24 4 1 x y, bL5 24 x y]) (by kernel_rfl)) (ObsOK.cond f2 (ObsOK.nil)))))
theorem b58_6o_p0 (x y p o k : Int) (h23 : bF 8 (bQ x y) 23 [sl 8 0 3 3] o) (h25 : bF 20 (bL6 24 x y) 25 [sl 20 0 6 6] k) (f1 : (o != 0) = false) (f2 : (k != 0) = false) : Gives Tryz.prog envM 0 58 [I 6, I x, I y] heapN ((.tuple #[(sl 8 0 6 6), (I 0)]), (n8 [bL6 24 x y])) :=
  Gives.by (n := 1000) (os := [.opw 58 21 (I o) (n8 [bQ x y]), .br 58 46 false, .opw 58 51 (I k) (n8 [bQ x y, bE 24 0 1 x y, .none, bE 24 1 5 x y, .none, bE 24 2 10 x y, .none, bE 24 3 10 x y, .none, bE 24 4 5 x y, .none, bE 24 5 1 x y, bL6 24 x y]), .br 58 106 false]) (os' := []) (by kernel_rfl) (ObsOK.call (h23 8 (n8 [bQ x y]) (by kernel_rfl)) (ObsOK.cond f1 (ObsOK.call (h25 8 (n8 [bQ x y, bE 24 0 1 x y, .none, bE 24 1 5 x y, .none, bE 24 2 10 x y, .none, bE 24 3 10 x y, .none, bE 24 4 5 x y, .none, bE 24 5 1 x y, bL6 24 x y]) (by kernel_rfl)) (ObsOK.cond f2 (ObsOK.nil)))))
theorem b58_6e_p0 (x y p o k : Int) (h23 : bF 8 (bQ x y) 23 [sl 8 0 3 3] o) (h25 : bF 20 (bL6 24 x y) 25 [sl 20 0 6 6] k) (f1 : (o != 0) = false) (f2 : (k != 0) = true) : Gives Tryz.prog envM 0 58 [I 6, I x, I y] heapN ((.tuple #[(.slice .none 0 0), I k]), heapN) :=
  Gives.by (n := 1000) (os := [.opw 58 21 (I o) (n8 [bQ x y]), .br 58 46 false, .opw 58 51 (I k) (n8 [bQ x y, bE 24 0 1 x y, .none, bE 24 1 5 x y, .none, bE 24 2 10 x y, .none, bE 24 3 10 x y, .none, bE 24 4 5 x y, .none, bE 24 5 1 x y, bL6 24 x y]), .br 58 106 true]) (os' := []) (by kernel_rfl) (ObsOK.call (h23 8 (n8 [bQ x y]) (by kernel_rfl)) (ObsOK.cond f1 (ObsOK.call (h25 8 (n8 [bQ x y, bE 24 0 1 x y, .none, bE 24 1 5 x y, .none, bE 24 2 10 x y, .none, bE 24 3 10 x y, .none, bE 24 4 5 x y, .none, bE 24 5 1 x y, bL6 24 x y]) (by kernel_rfl)) (ObsOK.cond f2 (ObsOK.nil)))))
theorem b58_7o_p0 (x y p o k : Int) (h23 : bF 8 (bQ x y) 23 [sl 8 0 3 3] o) (h25 : bF 22 (bL7 24 x y) 25 [sl 22 0 7 7] k) (f1 : (o != 0) = false) (f2 : (k != 0) = false) : Gives Tryz.prog envM 0 58 [I 7, I x, I y] heapN ((.tuple #[(sl 8 0 7 7), (I 0)]), (n8 [bL7 24 x y])) :=
  Gives.by (n := 1000) (os := [.opw 58 21 (I o) (n8 [bQ x y]), .br 58 46 false, .opw 58 51 (I k) (n8 [bQ x y, bE 24 0 1 x y, .none, bE 24 1 6 x y, .none, bE 24 2 15 x y, .none, bE 24 3 20 x y, .none, bE 24 4 15 x y, .none, bE 24 5 6 x y, .none, bE 24 6 1 x y, bL7 24 x y]), .br 58 106 false]) (os' := []) (by kernel_rfl) (ObsOK.call (h23 8 (n8 [bQ x y]) (by kernel_rfl)) (ObsOK.cond f1 (ObsOK.call (h25 8 (n8 [bQ x y, bE 24 0 1 x y, .none, bE 24 1 6 x y, .none, bE 24 2 15 x y, .none, bE 24 3 20 x y, .none, bE 24 4 15 x y, .none, bE 24 5 6 x y, .none, bE 24 6 1 x y, bL7 24 x y]) (by kernel_rfl)) (ObsOK.cond f2 (ObsOK.nil)))))
theorem b58_7e_p0 (x y p o k : Int) (h23 : bF 8 (bQ x y) 23 [sl 8 0 3 3] o) (h25 : bF 22 (bL7 24 x y) 25 [sl 22 0 7 7] k) (f1 : (o != 0) = false) (f2 : (k != 0) = true) : Gives Tryz.prog envM 0 58 [I 7, I x, I y] heapN ((.tuple #[(.slice .none 0 0), I k]), heapN) :=
  Gives.by (n := 1000) (os := [.opw 58 21 (I o) (n8 [bQ x y]), .br 58 46 false, .opw 58 51 (I k) (n8 [bQ x y, bE 24 0 1 x y, .none, bE 24 1 6 x y, .none, bE 24 2 15 x y, .none, bE 24 3 20 x y, .none, bE 24 4 15 x y, .none, bE 24 5 6 x y, .none, bE 24 6 1 x y, bL7 24 x y]), .br 58 106 true]) (os' := []) (by kernel_rfl) (ObsOK.call (h23 8 (n8 [bQ x y]) (by kernel_rfl)) (ObsOK.cond f1 (ObsOK.call (h25 8 (n8 [bQ x y, bE 24 0 1 x y, .none, bE 24 1 6 x y, .none, bE 24 2 15 x y, .none, bE 24 3 20 x y, .none, bE 24 4 15 x y, .none, bE 24 5 6 x y, .none, bE 24 6 1 x y, bL7 24 x y]) (by kernel_rfl)) (ObsOK.cond f2 (ObsOK.nil)))))
theorem b58_8o_p0 (x y p o k : Int) (h23 : bF 8 (bQ x y) 23 [sl 8 0 3 3] o) (h25 : bF 24 (bL8 24 x y) 25 [sl 24 0 8 8] k) (f1 : (o != 0) = false) (f2 : (k != 0) = false) : Gives Tryz.prog envM 0 58 [I 8, I x, I y] heapN ((.tuple #[(sl 8 0 8 8), (I 0)]), (n8 [bL8 24 x y])) :=
  Gives.by (n := 1000) (os := [.opw 58 21 (I o) (n8 [bQ x y]), .br 58 46 false, .opw 58 51 (I k) (n8 [bQ x y, bE 24 0 1 x y, .none, bE 24 1 7 x y, .none, bE 24 2 21 x y, .none, bE 24 3 35 x y, .none, bE 24 4 35 x y, .none, bE 24 5 21 x y, .none, bE 24 6 7 x y, .none, bE 24 7 1 x y, bL8 24 x y]), .br 58 106 false]) (os' := []) (by kernel_rfl) (ObsOK.call (h23 8 (n8 [bQ x y]) (by kernel_rfl)) (ObsOK.cond f1 (ObsOK.call (h25 8 (n8 [bQ x y, bE 24 0 1 x y, .none, bE 24 1 7 x y, .none, bE 24 2 21 x y, .none, bE 24 3 35 x y, .none, bE 24 4 35 x y, .none, bE 24 5 21 x y, .none, bE 24 6 7 x y, .none, bE 24 7 1 x y, bL8 24 x y]) (by kernel_rfl)) (ObsOK.cond f2 (ObsOK.nil)))))
theorem b58_8e_p0 (x y p o k : Int) (h23 : bF 8 (bQ x y) 23 [sl 8 0 3 3] o) (h25 : bF 24 (bL8 24 x y) 25 [sl 24 0 8 8] k) (f1 : (o != 0) = false) (f2 : (k != 0) = true) : Gives Tryz.prog envM 0 58 [I 8, I x, I y] heapN ((.tuple #[(.slice .none 0 0), I k]), heapN) :=
  Gives.by (n := 1000) (os := [.opw 58 21 (I o) (n8 [bQ x y]), .br 58 46 false, .opw 58 51 (I k) (n8 [bQ x y, bE 24 0 1 x y, .none, bE 24 1 7 x y, .none, bE 24 2 21 x y, .none, bE 24 3 35 x y, .none, bE 24 4 35 x y, .none, bE 24 5 21 x y, .none, bE 24 6 7 x y, .none, bE 24 7 1 x y, bL8 24 x y]), .br 58 106 true]) (os' := []) (by kernel_rfl) (ObsOK.call (h23 8 (n8 [bQ x y]) (by kernel_rfl)) (ObsOK.cond f1 (ObsOK.call (h25 8 (n8 [bQ x y, bE 24 0 1 x y, .none, bE 24 1 7 x y, .none, bE 24 2 21 x y, .none, bE 24 3 35 x y, .none, bE 24 4 35 x y, .none, bE 24 5 21 x y, .none, bE 24 6 7 x y, .none, bE 24 7 1 x y, bL8 24 x y]) (by kernel_rfl)) (ObsOK.cond f2 (ObsOK.nil)))))
theorem b58_9o_p0 (x y p o k : Int) (h23 : bF 8 (bQ x y) 23 [sl 8 0 3 3] o) (h25 : bF 26 (bL9 24 x y) 25 [sl 26 0 9 9] k) (f1 : (o != 0) = false) (f2 : (k != 0) = false) : Gives Tryz.prog envM 0 58 [I 9, I x, I y] heapN ((.tuple #[(sl 8 0 9 9), (I 0)]), (n8 [bL9 24 x y])) :=
  Gives.by (n := 1000) (os := [.opw 58 21 (I o) (n8 [bQ x y]), .br 58 46 false, .opw 58 51 (I k) (n8 [bQ x y, bE 24 0 1 x y, .none, bE 24 1 8 x y, .none, bE 24 2 28 x y, .none, bE 24 3 56 x y, .none, bE 24 4 70 x y, .none, bE 24 5 56 x y, .none, bE 24 6 28 x y, .none, bE 24 7 8 x y, .none, bE 24 8 1 x y, bL9 24 x y]), .br 58 106 false]) (os' := []) (by kernel_rfl) (ObsOK.call (h23 8 (n8 [bQ x y]) (by kernel_rfl)) (ObsOK.cond f1 (ObsOK.call (h25 8 (n8 [bQ x y, bE 24 0 1 x y, .none, bE 24 1 8 x y, .none, bE 24 2 28 x y, .none, bE 24 3 56 x y, .none, bE 24 4 70 x y, .none, bE 24 5 56 x y, .none, bE 24 6 28 x y, .none, bE 24 7 8 x y, .none, bE 24 8 1 x y, bL9 24 x y]) (by kernel_rfl)) (ObsOK.cond f2 (ObsOK.nil)))))
theorem b58_9e_p0 (x y p o k : Int) (h23 : bF 8 (bQ x y) 23 [sl 8 0 3 3] o) (h25 : bF 26 (bL9 24 x y) 25 [sl 26 0 9 9] k) (f1 : (o != 0) = false) (f2 : (k != 0) = true) : Gives Tryz.prog envM 0 58 [I 9, I x, I y] heapN ((.tuple #[(.slice .none 0 0), I k]), heapN) :=
  Gives.by (n := 1000) (os := [.opw 58 21 (I o) (n8 [bQ x y]), .br 58 46 false, .opw 58 51 (I k) (n8 [bQ x y, bE 24 0 1 x y, .none, bE 24 1 8 x y, .none, bE 24 2 28 x y, .none, bE 24 3 56 x y, .none, bE 24 4 70 x y, .none, bE 24 5 56 x y, .none, bE 24 6 28 x y, .none, bE 24 7 8 x y, .none, bE 24 8 1 x y, bL9 24 x y]), .br 58 106 true]) (os' := []) (by kernel_rfl) (ObsOK.call (h23 8 (n8 [bQ x y]) (by kernel_rfl)) (ObsOK.cond f1 (ObsOK.call (h25 8 (n8 [bQ x y, bE 24 0 1 x y, .none, bE 24 1 8 x y, .none, bE 24 2 28 x y, .none, bE 24 3 56 x y, .none, bE 24 4 70 x y, .none, bE 24 5 56 x y, .none, bE 24 6 28 x y, .none, bE 24 7 8 x y, .none, bE 24 8 1 x y, bL9 24 x y]) (by kernel_rfl)) (ObsOK.cond f2 (ObsOK.nil)))))
/-
Calls at further rows are known.
-/
theorem kenvM_29_11 (i : fam29I) (hi : fam29.ok i) (lim : Nat) (A : Heap) (hA : [hget A 11] = fam29.rows i) : Gives Tryz.prog envM lim 29 [sl 11 0 i.xs.length i.c] A (I (chkP i.xs), A) := by
  have hA : hget A 11 = _ := (List.cons.inj hA).1
  have hlen := hget_lt hA
  have h := Env.fam_here (E := (((((((((envB.fam 8 heapN 20 fam20).fam 8 heapN 90 fam90).fam 8 heapN 84 fam84).fam 8 heapN 25 fam25).fam 8 heapN 16 fam16).fam 8 heapN 23 fam23).fam 8 heapN 28 fam28).fam 8 heap0 87 fam87).with (baseKnown B_envC1))) (G := 8) (T := heapN) (f0 := 29) (lim := lim) (F := fam29) (args := [sl 11 0 i.xs.length i.c]) (A := A) (ids := [11]) (v' := I (chkP i.xs)) i hi rfl rfl (rowsS hA) (starts8 (by omega)) rfl rfl rfl rfl
  rw [show A ++ fam29.new i = A from List.append_nil A] at h
  exact known_gives ((Env.fam_skip rfl).trans ((Env.fam_skip rfl).trans ((kn_skip rfl).trans h)))
theorem kenvM_25_10 (i : fam25I) (hi : fam25.ok i) (lim : Nat) (A : Heap) (hA : [hget A 10] = fam25.rows i) : Gives Tryz.prog envM lim 25 [sl 10 0 i.xs.length i.c] A (I (chkR i.xs), A) := by
  have hA : hget A 10 = _ := (List.cons.inj hA).1
  have hlen := hget_lt hA
  have h := Env.fam_here (E := (((envB.fam 8 heapN 20 fam20).fam 8 heapN 90 fam90).fam 8 heapN 84 fam84)) (G := 8) (T := heapN) (f0 := 25) (lim := lim) (F := fam25) (args := [sl 10 0 i.xs.length i.c]) (A := A) (ids := [10]) (v' := I (chkR i.xs)) i hi rfl rfl (rowsS hA) (starts8 (by omega)) rfl rfl rfl rfl
  rw [show A ++ fam25.new i = A from List.append_nil A] at h
  exact known_gives ((Env.fam_skip rfl).trans ((Env.fam_skip rfl).trans ((kn_skip rfl).trans ((Env.fam_skip rfl).trans ((kn_skip rfl).trans ((Env.fam_skip rfl).trans ((Env.fam_skip rfl).trans ((Env.fam_skip rfl).trans ((Env.fam_skip rfl).trans h)))))))))
theorem kenvM_29_13 (i : fam29I) (hi : fam29.ok i) (lim : Nat) (A : Heap) (hA : [hget A 13] = fam29.rows i) : Gives Tryz.prog envM lim 29 [sl 13 0 i.xs.length i.c] A (I (chkP i.xs), A) := by
  have hA : hget A 13 = _ := (List.cons.inj hA).1
  have hlen := hget_lt hA
  have h := Env.fam_here (E := (((((((((envB.fam 8 heapN 20 fam20).fam 8 heapN 90 fam90).fam 8 heapN 84 fam84).fam 8 heapN 25 fam25).fam 8 heapN 16 fam16).fam 8 heapN 23 fam23).fam 8 heapN 28 fam28).fam 8 heap0 87 fam87).with (baseKnown B_envC1))) (G := 8) (T := heapN) (f0 := 29) (lim := lim) (F := fam29) (args := [sl 13 0 i.xs.length i.c]) (A := A) (ids := [13]) (v' := I (chkP i.xs)) i hi rfl rfl (rowsS hA) (starts8 (by omega)) rfl rfl rfl rfl
  rw [show A ++ fam29.new i = A from List.append_nil A] at h
  exact known_gives ((Env.fam_skip rfl).trans ((Env.fam_skip rfl).trans ((kn_skip rfl).trans h)))
theorem kenvM_25_12 (i : fam25I) (hi : fam25.ok i) (lim : Nat) (A : Heap) (hA : [hget A 12] = fam25.rows i) : Gives Tryz.prog envM lim 25 [sl 12 0 i.xs.length i.c] A (I (chkR i.xs), A) := by
  have hA : hget A 12 = _ := (List.cons.inj hA).1
  have hlen := hget_lt hA
  have h := Env.fam_here (E := (((envB.fam 8 heapN 20 fam20).fam 8 heapN 90 fam90).fam 8 heapN 84 fam84)) (G := 8) (T := heapN) (f0 := 25) (lim := lim) (F := fam25) (args := [sl 12 0 i.xs.length i.c]) (A := A) (ids := [12]) (v' := I (chkR i.xs)) i hi rfl rfl (rowsS hA) (starts8 (by omega)) rfl rfl rfl rfl
  rw [show A ++ fam25.new i = A from List.append_nil A] at h
  exact known_gives ((Env.fam_skip rfl).trans ((Env.fam_skip rfl).trans ((kn_skip rfl).trans ((Env.fam_skip rfl).trans ((kn_skip rfl).trans ((Env.fam_skip rfl).trans ((Env.fam_skip rfl).trans ((Env.fam_skip rfl).trans ((Env.fam_skip rfl).trans h)))))))))
theorem kenvM_29_15 (i : fam29I) (hi : fam29.ok i) (lim : Nat) (A : Heap) (hA : [hget A 15] = fam29.rows i) : Gives Tryz.prog envM lim 29 [sl 15 0 i.xs.length i.c] A (I (chkP i.xs), A) := by
  have hA : hget A 15 = _ := (List.cons.inj hA).1
  have hlen := hget_lt hA
  have h := Env.fam_here (E := (((((((((envB.fam 8 heapN 20 fam20).fam 8 heapN 90 fam90).fam 8 heapN 84 fam84).fam 8 heapN 25 fam25).fam 8 heapN 16 fam16).fam 8 heapN 23 fam23).fam 8 heapN 28 fam28).fam 8 heap0 87 fam87).with (baseKnown B_envC1))) (G := 8) (T := heapN) (f0 := 29) (lim := lim) (F := fam29) (args := [sl 15 0 i.xs.length i.c]) (A := A) (ids := [15]) (v' := I (chkP i.xs)) i hi rfl rfl (rowsS hA) (starts8 (by omega)) rfl rfl rfl rfl
  rw [show A ++ fam29.new i = A from List.append_nil A] at h
  exact known_gives ((Env.fam_skip rfl).trans ((Env.fam_skip rfl).trans ((kn_skip rfl).trans h)))
theorem kenvM_25_14 (i : fam25I) (hi : fam25.ok i) (lim : Nat) (A : Heap) (hA : [hget A 14] = fam25.rows i) : Gives Tryz.prog envM lim 25 [sl 14 0 i.xs.length i.c] A (I (chkR i.xs), A) := by
  have hA : hget A 14 = _ := (List.cons.inj hA).1
  have hlen := hget_lt hA
  have h := Env.fam_here (E := (((envB.fam 8 heapN 20 fam20).fam 8 heapN 90 fam90).fam 8 heapN 84 fam84)) (G := 8) (T := heapN) (f0 := 25) (lim := lim) (F := fam25) (args := [sl 14 0 i.xs.length i.c]) (A := A) (ids := [14]) (v' := I (chkR i.xs)) i hi rfl rfl (rowsS hA) (starts8 (by omega)) rfl rfl rfl rfl
  rw [show A ++ fam25.new i = A from List.append_nil A] at h
  exact known_gives ((Env.fam_skip rfl).trans ((Env.fam_skip rfl).trans ((kn_skip rfl).trans ((Env.fam_skip rfl).trans ((kn_skip rfl).trans ((Env.fam_skip rfl).trans ((Env.fam_skip rfl).trans ((Env.fam_skip rfl).trans ((Env.fam_skip rfl).trans h)))))))))
theorem kenvM_29_17 (i : fam29I) (hi : fam29.ok i) (lim : Nat) (A : Heap) (hA : [hget A 17] = fam29.rows i) : Gives Tryz.prog envM lim 29 [sl 17 0 i.xs.length i.c] A (I (chkP i.xs), A) := by
  have hA : hget A 17 = _ := (List.cons.inj hA).1
  have hlen := hget_lt hA
  have h := Env.fam_here (E := (((((((((envB.fam 8 heapN 20 fam20).fam 8 heapN 90 fam90).fam 8 heapN 84 fam84).fam 8 heapN 25 fam25).fam 8 heapN 16 fam16).fam 8 heapN 23 fam23).fam 8 heapN 28 fam28).fam 8 heap0 87 fam87).with (baseKnown B_envC1))) (G := 8) (T := heapN) (f0 := 29) (lim := lim) (F := fam29) (args := [sl 17 0 i.xs.length i.c]) (A := A) (ids := [17]) (v' := I (chkP i.xs)) i hi rfl rfl (rowsS hA) (starts8 (by omega)) rfl rfl rfl rfl
  rw [show A ++ fam29.new i = A from List.append_nil A] at h
  exact known_gives ((Env.fam_skip rfl).trans ((Env.fam_skip rfl).trans ((kn_skip rfl).trans h)))
theorem kenvM_25_16 (i : fam25I) (hi : fam25.ok i) (lim : Nat) (A : Heap) (hA : [hget A 16] = fam25.rows i) : Gives Tryz.prog envM lim 25 [sl 16 0 i.xs.length i.c] A (I (chkR i.xs), A) := by
  have hA : hget A 16 = _ := (List.cons.inj hA).1
  have hlen := hget_lt hA
  have h := Env.fam_here (E := (((envB.fam 8 heapN 20 fam20).fam 8 heapN 90 fam90).fam 8 heapN 84 fam84)) (G := 8) (T := heapN) (f0 := 25) (lim := lim) (F := fam25) (args := [sl 16 0 i.xs.length i.c]) (A := A) (ids := [16]) (v' := I (chkR i.xs)) i hi rfl rfl (rowsS hA) (starts8 (by omega)) rfl rfl rfl rfl
  rw [show A ++ fam25.new i = A from List.append_nil A] at h
  exact known_gives ((Env.fam_skip rfl).trans ((Env.fam_skip rfl).trans ((kn_skip rfl).trans ((Env.fam_skip rfl).trans ((kn_skip rfl).trans ((Env.fam_skip rfl).trans ((Env.fam_skip rfl).trans ((Env.fam_skip rfl).trans ((Env.fam_skip rfl).trans h)))))))))
theorem kenvM_29_19 (i : fam29I) (hi : fam29.ok i) (lim : Nat) (A : Heap) (hA : [hget A 19] = fam29.rows i) : Gives Tryz.prog envM lim 29 [sl 19 0 i.xs.length i.c] A (I (chkP i.xs), A) := by
  have hA : hget A 19 = _ := (List.cons.inj hA).1
  have hlen := hget_lt hA
  have h := Env.fam_here (E := (((((((((envB.fam 8 heapN 20 fam20).fam 8 heapN 90 fam90).fam 8 heapN 84 fam84).fam 8 heapN 25 fam25).fam 8 heapN 16 fam16).fam 8 heapN 23 fam23).fam 8 heapN 28 fam28).fam 8 heap0 87 fam87).with (baseKnown B_envC1))) (G := 8) (T := heapN) (f0 := 29) (lim := lim) (F := fam29) (args := [sl 19 0 i.xs.length i.c]) (A := A) (ids := [19]) (v' := I (chkP i.xs)) i hi rfl rfl (rowsS hA) (starts8 (by omega)) rfl rfl rfl rfl
  rw [show A ++ fam29.new i = A from List.append_nil A] at h
  exact known_gives ((Env.fam_skip rfl).trans ((Env.fam_skip rfl).trans ((kn_skip rfl).trans h)))
theorem kenvM_25_18 (i : fam25I) (hi : fam25.ok i) (lim : Nat) (A : Heap) (hA : [hget A 18] = fam25.rows i) : Gives Tryz.prog envM lim 25 [sl 18 0 i.xs.length i.c] A (I (chkR i.xs), A) := by
  have hA : hget A 18 = _ := (List.cons.inj hA).1
  have hlen := hget_lt hA
  have h := Env.fam_here (E := (((envB.fam 8 heapN 20 fam20).fam 8 heapN 90 fam90).fam 8 heapN 84 fam84)) (G := 8) (T := heapN) (f0 := 25) (lim := lim) (F := fam25) (args := [sl 18 0 i.xs.length i.c]) (A := A) (ids := [18]) (v' := I (chkR i.xs)) i hi rfl rfl (rowsS hA) (starts8 (by omega)) rfl rfl rfl rfl
  rw [show A ++ fam25.new i = A from List.append_nil A] at h
  exact known_gives ((Env.fam_skip rfl).trans ((Env.fam_skip rfl).trans ((kn_skip rfl).trans ((Env.fam_skip rfl).trans ((kn_skip rfl).trans ((Env.fam_skip rfl).trans ((Env.fam_skip rfl).trans ((Env.fam_skip rfl).trans ((Env.fam_skip rfl).trans h)))))))))
theorem kenvM_29_21 (i : fam29I) (hi : fam29.ok i) (lim : Nat) (A : Heap) (hA : [hget A 21] = fam29.rows i) : Gives Tryz.prog envM lim 29 [sl 21 0 i.xs.length i.c] A (I (chkP i.xs), A) := by
  have hA : hget A 21 = _ := (List.cons.inj hA).1
  have hlen := hget_lt hA
  have h := Env.fam_here (E := (((((((((envB.fam 8 heapN 20 fam20).fam 8 heapN 90 fam90).fam 8 heapN 84 fam84).fam 8 heapN 25 fam25).fam 8 heapN 16 fam16).fam 8 heapN 23 fam23).fam 8 heapN 28 fam28).fam 8 heap0 87 fam87).with (baseKnown B_envC1))) (G := 8) (T := heapN) (f0 := 29) (lim := lim) (F := fam29) (args := [sl 21 0 i.xs.length i.c]) (A := A) (ids := [21]) (v' := I (chkP i.xs)) i hi rfl rfl (rowsS hA) (starts8 (by omega)) rfl rfl rfl rfl
  rw [show A ++ fam29.new i = A from List.append_nil A] at h
  exact known_gives ((Env.fam_skip rfl).trans ((Env.fam_skip rfl).trans ((kn_skip rfl).trans h)))
theorem kenvM_25_20 (i : fam25I) (hi : fam25.ok i) (lim : Nat) (A : Heap) (hA : [hget A 20] = fam25.rows i) : Gives Tryz.prog envM lim 25 [sl 20 0 i.xs.length i.c] A (I (chkR i.xs), A) := by
  have hA : hget A 20 = _ := (List.cons.inj hA).1
  have hlen := hget_lt hA
  have h := Env.fam_here (E := (((envB.fam 8 heapN 20 fam20).fam 8 heapN 90 fam90).fam 8 heapN 84 fam84)) (G := 8) (T := heapN) (f0 := 25) (lim := lim) (F := fam25) (args := [sl 20 0 i.xs.length i.c]) (A := A) (ids := [20]) (v' := I (chkR i.xs)) i hi rfl rfl (rowsS hA) (starts8 (by omega)) rfl rfl rfl rfl
  rw [show A ++ fam25.new i = A from List.append_nil A] at h
  exact known_gives ((Env.fam_skip rfl).trans ((Env.fam_skip rfl).trans ((kn_skip rfl).trans ((Env.fam_skip rfl).trans ((kn_skip rfl).trans ((Env.fam_skip rfl).trans ((Env.fam_skip rfl).trans ((Env.fam_skip rfl).trans ((Env.fam_skip rfl).trans h)))))))))
theorem kenvM_29_23 (i : fam29I) (hi : fam29.ok i) (lim : Nat) (A : Heap) (hA : [hget A 23] = fam29.rows i) : Gives Tryz.prog envM lim 29 [sl 23 0 i.xs.length i.c] A (I (chkP i.xs), A) := by
  have hA : hget A 23 = _ := (List.cons.inj hA).1
  have hlen := hget_lt hA
  have h := Env.fam_here (E := (((((((((envB.fam 8 heapN 20 fam20).fam 8 heapN 90 fam90).fam 8 heapN 84 fam84).fam 8 heapN 25 fam25).fam 8 heapN 16 fam16).fam 8 heapN 23 fam23).fam 8 heapN 28 fam28).fam 8 heap0 87 fam87).with (baseKnown B_envC1))) (G := 8) (T := heapN) (f0 := 29) (lim := lim) (F := fam29) (args := [sl 23 0 i.xs.length i.c]) (A := A) (ids := [23]) (v' := I (chkP i.xs)) i hi rfl rfl (rowsS hA) (starts8 (by omega)) rfl rfl rfl rfl
  rw [show A ++ fam29.new i = A from List.append_nil A] at h
  exact known_gives ((Env.fam_skip rfl).trans ((Env.fam_skip rfl).trans ((kn_skip rfl).trans h)))
theorem kenvM_25_22 (i : fam25I) (hi : fam25.ok i) (lim : Nat) (A : Heap) (hA : [hget A 22] = fam25.rows i) : Gives Tryz.prog envM lim 25 [sl 22 0 i.xs.length i.c] A (I (chkR i.xs), A) := by
  have hA : hget A 22 = _ := (List.cons.inj hA).1
  have hlen := hget_lt hA
  have h := Env.fam_here (E := (((envB.fam 8 heapN 20 fam20).fam 8 heapN 90 fam90).fam 8 heapN 84 fam84)) (G := 8) (T := heapN) (f0 := 25) (lim := lim) (F := fam25) (args := [sl 22 0 i.xs.length i.c]) (A := A) (ids := [22]) (v' := I (chkR i.xs)) i hi rfl rfl (rowsS hA) (starts8 (by omega)) rfl rfl rfl rfl
  rw [show A ++ fam25.new i = A from List.append_nil A] at h
  exact known_gives ((Env.fam_skip rfl).trans ((Env.fam_skip rfl).trans ((kn_skip rfl).trans ((Env.fam_skip rfl).trans ((kn_skip rfl).trans ((Env.fam_skip rfl).trans ((Env.fam_skip rfl).trans ((Env.fam_skip rfl).trans ((Env.fam_skip rfl).trans h)))))))))
theorem kenvM_29_25 (i : fam29I) (hi : fam29.ok i) (lim : Nat) (A : Heap) (hA : [hget A 25] = fam29.rows i) : Gives Tryz.prog envM lim 29 [sl 25 0 i.xs.length i.c] A (I (chkP i.xs), A) := by
  have hA : hget A 25 = _ := (List.cons.inj hA).1
  have hlen := hget_lt hA
  have h := Env.fam_here (E := (((((((((envB.fam 8 heapN 20 fam20).fam 8 heapN 90 fam90).fam 8 heapN 84 fam84).fam 8 heapN 25 fam25).fam 8 heapN 16 fam16).fam 8 heapN 23 fam23).fam 8 heapN 28 fam28).fam 8 heap0 87 fam87).with (baseKnown B_envC1))) (G := 8) (T := heapN) (f0 := 29) (lim := lim) (F := fam29) (args := [sl 25 0 i.xs.length i.c]) (A := A) (ids := [25]) (v' := I (chkP i.xs)) i hi rfl rfl (rowsS hA) (starts8 (by omega)) rfl rfl rfl rfl
  rw [show A ++ fam29.new i = A from List.append_nil A] at h
  exact known_gives ((Env.fam_skip rfl).trans ((Env.fam_skip rfl).trans ((kn_skip rfl).trans h)))
theorem kenvM_25_24 (i : fam25I) (hi : fam25.ok i) (lim : Nat) (A : Heap) (hA : [hget A 24] = fam25.rows i) : Gives Tryz.prog envM lim 25 [sl 24 0 i.xs.length i.c] A (I (chkR i.xs), A) := by
  have hA : hget A 24 = _ := (List.cons.inj hA).1
  have hlen := hget_lt hA
  have h := Env.fam_here (E := (((envB.fam 8 heapN 20 fam20).fam 8 heapN 90 fam90).fam 8 heapN 84 fam84)) (G := 8) (T := heapN) (f0 := 25) (lim := lim) (F := fam25) (args := [sl 24 0 i.xs.length i.c]) (A := A) (ids := [24]) (v' := I (chkR i.xs)) i hi rfl rfl (rowsS hA) (starts8 (by omega)) rfl rfl rfl rfl
  rw [show A ++ fam25.new i = A from List.append_nil A] at h
  exact known_gives ((Env.fam_skip rfl).trans ((Env.fam_skip rfl).trans ((kn_skip rfl).trans ((Env.fam_skip rfl).trans ((kn_skip rfl).trans ((Env.fam_skip rfl).trans ((Env.fam_skip rfl).trans ((Env.fam_skip rfl).trans ((Env.fam_skip rfl).trans h)))))))))
theorem kenvM_29_27 (i : fam29I) (hi : fam29.ok i) (lim : Nat) (A : Heap) (hA : [hget A 27] = fam29.rows i) : Gives Tryz.prog envM lim 29 [sl 27 0 i.xs.length i.c] A (I (chkP i.xs), A) := by
  have hA : hget A 27 = _ := (List.cons.inj hA).1
  have hlen := hget_lt hA
  have h := Env.fam_here (E := (((((((((envB.fam 8 heapN 20 fam20).fam 8 heapN 90 fam90).fam 8 heapN 84 fam84).fam 8 heapN 25 fam25).fam 8 heapN 16 fam16).fam 8 heapN 23 fam23).fam 8 heapN 28 fam28).fam 8 heap0 87 fam87).with (baseKnown B_envC1))) (G := 8) (T := heapN) (f0 := 29) (lim := lim) (F := fam29) (args := [sl 27 0 i.xs.length i.c]) (A := A) (ids := [27]) (v' := I (chkP i.xs)) i hi rfl rfl (rowsS hA) (starts8 (by omega)) rfl rfl rfl rfl
  rw [show A ++ fam29.new i = A from List.append_nil A] at h
  exact known_gives ((Env.fam_skip rfl).trans ((Env.fam_skip rfl).trans ((kn_skip rfl).trans h)))
theorem kenvM_25_26 (i : fam25I) (hi : fam25.ok i) (lim : Nat) (A : Heap) (hA : [hget A 26] = fam25.rows i) : Gives Tryz.prog envM lim 25 [sl 26 0 i.xs.length i.c] A (I (chkR i.xs), A) := by
  have hA : hget A 26 = _ := (List.cons.inj hA).1
  have hlen := hget_lt hA
  have h := Env.fam_here (E := (((envB.fam 8 heapN 20 fam20).fam 8 heapN 90 fam90).fam 8 heapN 84 fam84)) (G := 8) (T := heapN) (f0 := 25) (lim := lim) (F := fam25) (args := [sl 26 0 i.xs.length i.c]) (A := A) (ids := [26]) (v' := I (chkR i.xs)) i hi rfl rfl (rowsS hA) (starts8 (by omega)) rfl rfl rfl rfl
  rw [show A ++ fam25.new i = A from List.append_nil A] at h
  exact known_gives ((Env.fam_skip rfl).trans ((Env.fam_skip rfl).trans ((kn_skip rfl).trans ((Env.fam_skip rfl).trans ((kn_skip rfl).trans ((Env.fam_skip rfl).trans ((Env.fam_skip rfl).trans ((Env.fam_skip rfl).trans ((Env.fam_skip rfl).trans h)))))))))
theorem kenvM_23_8 (i : fam23I) (hi : fam23.ok i) (lim : Nat) (A : Heap) (hA : [hget A 8] = fam23.rows i) : Gives Tryz.prog envM lim 23 [sl 8 0 i.xs.length i.c] A (I (fstI i.xs), A) := by
  have hA : hget A 8 = _ := (List.cons.inj hA).1
  have hlen := hget_lt hA
  have h := Env.fam_here (E := (((((envB.fam 8 heapN 20 fam20).fam 8 heapN 90 fam90).fam 8 heapN 84 fam84).fam 8 heapN 25 fam25).fam 8 heapN 16 fam16)) (G := 8) (T := heapN) (f0 := 23) (lim := lim) (F := fam23) (args := [sl 8 0 i.xs.length i.c]) (A := A) (ids := [8]) (v' := I (fstI i.xs)) i hi rfl rfl (rowsI hA) (starts8 (by omega)) rfl rfl rfl rfl
  rw [show A ++ fam23.new i = A from List.append_nil A] at h
  exact known_gives ((Env.fam_skip rfl).trans ((Env.fam_skip rfl).trans ((kn_skip rfl).trans ((Env.fam_skip rfl).trans ((kn_skip rfl).trans ((Env.fam_skip rfl).trans ((Env.fam_skip rfl).trans h)))))))
theorem kenvM_99_8 (i : fam99I) (hi : fam99.ok i) (lim : Nat) (A : Heap) (hA : [hget A 8] = fam99.rows i) : Gives Tryz.prog envM lim 99 [sl 8 0 i.xs.length i.xs.length] A (I (cplE i.xs), A) := by
  have hA : hget A 8 = _ := (List.cons.inj hA).1
  have hlen := hget_lt hA
  have h := Env.fam_here (E := (((((((((((envB.fam 8 heapN 20 fam20).fam 8 heapN 90 fam90).fam 8 heapN 84 fam84).fam 8 heapN 25 fam25).fam 8 heapN 16 fam16).fam 8 heapN 23 fam23).fam 8 heapN 28 fam28).fam 8 heap0 87 fam87).with (baseKnown B_envC1)).fam 8 heapN 29 fam29).with (baseKnown B_envM1))) (G := 8) (T := heapN) (f0 := 99) (lim := lim) (F := fam99) (args := [sl 8 0 i.xs.length i.xs.length]) (A := A) (ids := [8]) (v' := I (cplE i.xs)) i hi rfl rfl (rowsI hA) (starts8 (by omega)) rfl rfl rfl rfl
  rw [show A ++ fam99.new i = A from List.append_nil A] at h
  exact known_gives ((Env.fam_skip rfl).trans h)
/-
ArrayRepeats: rows of binomial numbers.
-/
theorem bino_of {n x y : Int} (zs : List Sr) (hz : 1 ≤ zs.length) (hb : zs.length ≤ 1000)
    (p1 : (chkR zs != 0) = false → SaysAt Tryz.prog 8 56 [I n, I x, I y] heapN (.tuple #[sl 8 0 zs.length zs.length, I 0]) (heapN ++ [rS zs 32 .row])) (p2 : (chkR zs != 0) = true → SaysAt Tryz.prog 8 56 [I n, I x, I y] heapN (.tuple #[.slice none 0 0, I (chkR zs)]) heapN)
    (q1 : (chkR zs != 0) = false → SaysAt Tryz.prog 8 58 [I n, I x, I y] heapN (.tuple #[sl 8 0 zs.length zs.length, I 0]) (heapN ++ [rS zs 24 .row])) (q2 : (chkR zs != 0) = true → SaysAt Tryz.prog 8 58 [I n, I x, I y] heapN (.tuple #[.slice none 0 0, I (chkR zs)]) heapN) : Bino n x y := by
  cases h : (chkR zs != 0) with
  | true =>
    refine ⟨.slice none 0 0, chkR zs, none, fun A h0 hl => ?_, fun p hp => ⟨.slice none 0 0, none, fun A h0 hl => ?_, fun A h0 _ _ => err54 (by simpa using h) A h0⟩⟩
    · have h2 := SaysAt.rows (T := heapN) (R0 := []) (R1 := []) (A := A) (args := [I n, I x, I y]) (v := .tuple #[.slice none 0 0, I (chkR zs)]) [] (p2 h) rfl rfl (sN h0) rfl rfl rfl rfl rfl rfl
      rw [List.append_nil] at h2; exact h2.addNone
    · have h2 := SaysAt.rows (T := heapN) (R0 := []) (R1 := []) (A := A) (args := [I n, I x, I y]) (v := .tuple #[.slice none 0 0, I (chkR zs)]) [] (q2 h) rfl rfl (sN h0) rfl rfl rfl rfl rfl rfl
      rw [List.append_nil] at h2; exact h2.addNone
  | false =>
    refine ⟨sl 14 0 zs.length zs.length, 0, rS zs 32 .row, fun A h0 hl => ?_, fun p hp => ⟨sl p 0 zs.length zs.length, rS zs 24 .row, fun A h0 hl => ?_, fun A h0 h1 h2 => ?_⟩⟩
    · exact SaysAt.rows (T := heapN) (R0 := []) (R1 := [rS zs 32 .row]) [] (p1 h) rfl rfl (sN h0) rfl rfl rfl rfl (plainS _ _ _) (by rw [hl]; rfl)
    · exact SaysAt.rows (T := heapN) (R0 := []) (R1 := [rS zs 24 .row]) [] (q1 h) rfl rfl (sN h0) rfl rfl rfl rfl (plainS _ _ _) (by rw [hl]; rfl)
    · rcases hp with rfl | rfl
      · exact SaysAt.rows (T := heap0) (R0 := [rS zs 32 .row, rS zs 24 .row]) (R1 := []) [14, 16] (same54 zs zs.length zs.length 32 24 .row .row hb hz) rfl rfl h0 rfl rfl (rows2 h1 h2) rfl rfl rfl
      · exact SaysAt.rows (T := heap0) (R0 := [rS zs 32 .row, rS zs 24 .row]) (R1 := []) [14, 17] (same54 zs zs.length zs.length 32 24 .row .row hb hz) rfl rfl h0 rfl rfl (rows2 h1 h2) rfl rfl rfl
theorem cpl0 {x y : Int} (hx : cpl50_r0 x = 0) (hy : cpl50_r0 y = 0) : fstI [0, cplE [x, y]] = 0 ∧ fstI [0, cpl50_r0 x, cpl50_r0 y] = 0 := by
  rw [cpl2_eq, hx, hy]; exact ⟨rfl, rfl⟩
theorem bino1 (x y : Int) (hx : cpl50_r0 x = 0) (hy : cpl50_r0 y = 0) : Bino 1 x y := by
  let zs : List Sr := [⟨W (0 * x), W (0 * y), 1, 0⟩]
  exact bino_of zs (Nat.le_of_ble_eq_true rfl) (Nat.le_of_ble_eq_true rfl) (fun h => SaysAt.of_gives prog_ok envM_ok (b56_1o_p0 x y (cplE [x, y]) (fstI [0, cplE [x, y]]) (chkR zs) (fun lim A hA => kenvM_99_8 ⟨[x, y]⟩ (.inr rfl) lim A (by rw [hA]; rfl)) (fun lim A hA => kenvM_84_9 ⟨[0, cplE [x, y]], 2, 27, .row⟩ (show (2 : Nat) ≤ 1000 by decide) lim A (by rw [hA]; rfl)) (fun lim A hA => chk_eq zs ▸ kenvM_29_11 ⟨zs, 1, 32, .row⟩ (show (1 : Nat) ≤ 1000 by decide) lim A (by rw [hA]; rfl)) (by rw [(cpl0 hx hy).1]; rfl) h)) (fun h => SaysAt.of_gives prog_ok envM_ok (b56_1e_p0 x y (cplE [x, y]) (fstI [0, cplE [x, y]]) (chkR zs) (fun lim A hA => kenvM_99_8 ⟨[x, y]⟩ (.inr rfl) lim A (by rw [hA]; rfl)) (fun lim A hA => kenvM_84_9 ⟨[0, cplE [x, y]], 2, 27, .row⟩ (show (2 : Nat) ≤ 1000 by decide) lim A (by rw [hA]; rfl)) (fun lim A hA => chk_eq zs ▸ kenvM_29_11 ⟨zs, 1, 32, .row⟩ (show (1 : Nat) ≤ 1000 by decide) lim A (by rw [hA]; rfl)) (by rw [(cpl0 hx hy).1]; rfl) h)) (fun h => SaysAt.of_gives prog_ok envM_ok (b58_1o_p0 x y 0 (fstI [0, cpl50_r0 x, cpl50_r0 y]) (chkR zs) (fun lim A hA => kenvM_23_8 ⟨[0, cpl50_r0 x, cpl50_r0 y], 3, 3, .row⟩ (show (3 : Nat) ≤ 1000 by decide) lim A (by rw [hA]; rfl)) (fun lim A hA => kenvM_25_10 ⟨zs, 1, 24, .row⟩ trivial lim A (by rw [hA]; rfl)) (by rw [(cpl0 hx hy).2]; rfl) h)) (fun h => SaysAt.of_gives prog_ok envM_ok (b58_1e_p0 x y 0 (fstI [0, cpl50_r0 x, cpl50_r0 y]) (chkR zs) (fun lim A hA => kenvM_23_8 ⟨[0, cpl50_r0 x, cpl50_r0 y], 3, 3, .row⟩ (show (3 : Nat) ≤ 1000 by decide) lim A (by rw [hA]; rfl)) (fun lim A hA => kenvM_25_10 ⟨zs, 1, 24, .row⟩ trivial lim A (by rw [hA]; rfl)) (by rw [(cpl0 hx hy).2]; rfl) h))
theorem bino2 (x y : Int) (hx : cpl50_r0 x = 0) (hy : cpl50_r0 y = 0) : Bino 2 x y := by
  let zs : List Sr := [⟨W (0 * x), W (0 * y), 1, 0⟩, ⟨W (1 * x), W (1 * y), 1, 0⟩]
  exact bino_of zs (Nat.le_of_ble_eq_true rfl) (Nat.le_of_ble_eq_true rfl) (fun h => SaysAt.of_gives prog_ok envM_ok (b56_2o_p0 x y (cplE [x, y]) (fstI [0, cplE [x, y]]) (chkR zs) (fun lim A hA => kenvM_99_8 ⟨[x, y]⟩ (.inr rfl) lim A (by rw [hA]; rfl)) (fun lim A hA => kenvM_84_9 ⟨[0, cplE [x, y]], 2, 27, .row⟩ (show (2 : Nat) ≤ 1000 by decide) lim A (by rw [hA]; rfl)) (fun lim A hA => chk_eq zs ▸ kenvM_29_13 ⟨zs, 2, 32, .row⟩ (show (2 : Nat) ≤ 1000 by decide) lim A (by rw [hA]; rfl)) (by rw [(cpl0 hx hy).1]; rfl) h)) (fun h => SaysAt.of_gives prog_ok envM_ok (b56_2e_p0 x y (cplE [x, y]) (fstI [0, cplE [x, y]]) (chkR zs) (fun lim A hA => kenvM_99_8 ⟨[x, y]⟩ (.inr rfl) lim A (by rw [hA]; rfl)) (fun lim A hA => kenvM_84_9 ⟨[0, cplE [x, y]], 2, 27, .row⟩ (show (2 : Nat) ≤ 1000 by decide) lim A (by rw [hA]; rfl)) (fun lim A hA => chk_eq zs ▸ kenvM_29_13 ⟨zs, 2, 32, .row⟩ (show (2 : Nat) ≤ 1000 by decide) lim A (by rw [hA]; rfl)) (by rw [(cpl0 hx hy).1]; rfl) h)) (fun h => SaysAt.of_gives prog_ok envM_ok (b58_2o_p0 x y 0 (fstI [0, cpl50_r0 x, cpl50_r0 y]) (chkR zs) (fun lim A hA => kenvM_23_8 ⟨[0, cpl50_r0 x, cpl50_r0 y], 3, 3, .row⟩ (show (3 : Nat) ≤ 1000 by decide) lim A (by rw [hA]; rfl)) (fun lim A hA => kenvM_25_12 ⟨zs, 2, 24, .row⟩ trivial lim A (by rw [hA]; rfl)) (by rw [(cpl0 hx hy).2]; rfl) h)) (fun h => SaysAt.of_gives prog_ok envM_ok (b58_2e_p0 x y 0 (fstI [0, cpl50_r0 x, cpl50_r0 y]) (chkR zs) (fun lim A hA => kenvM_23_8 ⟨[0, cpl50_r0 x, cpl50_r0 y], 3, 3, .row⟩ (show (3 : Nat) ≤ 1000 by decide) lim A (by rw [hA]; rfl)) (fun lim A hA => kenvM_25_12 ⟨zs, 2, 24, .row⟩ trivial lim A (by rw [hA]; rfl)) (by rw [(cpl0 hx hy).2]; rfl) h))
theorem bino3 (x y : Int) (hx : cpl50_r0 x = 0) (hy : cpl50_r0 y = 0) : Bino 3 x y := by
  let zs : List Sr := [⟨W (0 * x), W (0 * y), 1, 0⟩, ⟨W (1 * x), W (1 * y), 2, 0⟩, ⟨W (2 * x), W (2 * y), 1, 0⟩]
  exact bino_of zs (Nat.le_of_ble_eq_true rfl) (Nat.le_of_ble_eq_true rfl) (fun h => SaysAt.of_gives prog_ok envM_ok (b56_3o_p0 x y (cplE [x, y]) (fstI [0, cplE [x, y]]) (chkR zs) (fun lim A hA => kenvM_99_8 ⟨[x, y]⟩ (.inr rfl) lim A (by rw [hA]; rfl)) (fun lim A hA => kenvM_84_9 ⟨[0, cplE [x, y]], 2, 27, .row⟩ (show (2 : Nat) ≤ 1000 by decide) lim A (by rw [hA]; rfl)) (fun lim A hA => chk_eq zs ▸ kenvM_29_15 ⟨zs, 3, 32, .row⟩ (show (3 : Nat) ≤ 1000 by decide) lim A (by rw [hA]; rfl)) (by rw [(cpl0 hx hy).1]; rfl) h)) (fun h => SaysAt.of_gives prog_ok envM_ok (b56_3e_p0 x y (cplE [x, y]) (fstI [0, cplE [x, y]]) (chkR zs) (fun lim A hA => kenvM_99_8 ⟨[x, y]⟩ (.inr rfl) lim A (by rw [hA]; rfl)) (fun lim A hA => kenvM_84_9 ⟨[0, cplE [x, y]], 2, 27, .row⟩ (show (2 : Nat) ≤ 1000 by decide) lim A (by rw [hA]; rfl)) (fun lim A hA => chk_eq zs ▸ kenvM_29_15 ⟨zs, 3, 32, .row⟩ (show (3 : Nat) ≤ 1000 by decide) lim A (by rw [hA]; rfl)) (by rw [(cpl0 hx hy).1]; rfl) h)) (fun h => SaysAt.of_gives prog_ok envM_ok (b58_3o_p0 x y 0 (fstI [0, cpl50_r0 x, cpl50_r0 y]) (chkR zs) (fun lim A hA => kenvM_23_8 ⟨[0, cpl50_r0 x, cpl50_r0 y], 3, 3, .row⟩ (show (3 : Nat) ≤ 1000 by decide) lim A (by rw [hA]; rfl)) (fun lim A hA => kenvM_25_14 ⟨zs, 3, 24, .row⟩ trivial lim A (by rw [hA]; rfl)) (by rw [(cpl0 hx hy).2]; rfl) h)) (fun h => SaysAt.of_gives prog_ok envM_ok (b58_3e_p0 x y 0 (fstI [0, cpl50_r0 x, cpl50_r0 y]) (chkR zs) (fun lim A hA => kenvM_23_8 ⟨[0, cpl50_r0 x, cpl50_r0 y], 3, 3, .row⟩ (show (3 : Nat) ≤ 1000 by decide) lim A (by rw [hA]; rfl)) (fun lim A hA => kenvM_25_14 ⟨zs, 3, 24, .row⟩ trivial lim A (by rw [hA]; rfl)) (by rw [(cpl0 hx hy).2]; rfl) h))
theorem bino4 (x y : Int) (hx : cpl50_r0 x = 0) (hy : cpl50_r0 y = 0) : Bino 4 x y := by
  let zs : List Sr := [⟨W (0 * x), W (0 * y), 1, 0⟩, ⟨W (1 * x), W (1 * y), 3, 0⟩, ⟨W (2 * x), W (2 * y), 3, 0⟩, ⟨W (3 * x), W (3 * y), 1, 0⟩]
  exact bino_of zs (Nat.le_of_ble_eq_true rfl) (Nat.le_of_ble_eq_true rfl) (fun h => SaysAt.of_gives prog_ok envM_ok (b56_4o_p0 x y (cplE [x, y]) (fstI [0, cplE [x, y]]) (chkR zs) (fun lim A hA => kenvM_99_8 ⟨[x, y]⟩ (.inr rfl) lim A (by rw [hA]; rfl)) (fun lim A hA => kenvM_84_9 ⟨[0, cplE [x, y]], 2, 27, .row⟩ (show (2 : Nat) ≤ 1000 by decide) lim A (by rw [hA]; rfl)) (fun lim A hA => chk_eq zs ▸ kenvM_29_17 ⟨zs, 4, 32, .row⟩ (show (4 : Nat) ≤ 1000 by decide) lim A (by rw [hA]; rfl)) (by rw [(cpl0 hx hy).1]; rfl) h)) (fun h => SaysAt.of_gives prog_ok envM_ok (b56_4e_p0 x y (cplE [x, y]) (fstI [0, cplE [x, y]]) (chkR zs) (fun lim A hA => kenvM_99_8 ⟨[x, y]⟩ (.inr rfl) lim A (by rw [hA]; rfl)) (fun lim A hA => kenvM_84_9 ⟨[0, cplE [x, y]], 2, 27, .row⟩ (show (2 : Nat) ≤ 1000 by decide) lim A (by rw [hA]; rfl)) (fun lim A hA => chk_eq zs ▸ kenvM_29_17 ⟨zs, 4, 32, .row⟩ (show (4 : Nat) ≤ 1000 by decide) lim A (by rw [hA]; rfl)) (by rw [(cpl0 hx hy).1]; rfl) h)) (fun h => SaysAt.of_gives prog_ok envM_ok (b58_4o_p0 x y 0 (fstI [0, cpl50_r0 x, cpl50_r0 y]) (chkR zs) (fun lim A hA => kenvM_23_8 ⟨[0, cpl50_r0 x, cpl50_r0 y], 3, 3, .row⟩ (show (3 : Nat) ≤ 1000 by decide) lim A (by rw [hA]; rfl)) (fun lim A hA => kenvM_25_16 ⟨zs, 4, 24, .row⟩ trivial lim A (by rw [hA]; rfl)) (by rw [(cpl0 hx hy).2]; rfl) h)) (fun h => SaysAt.of_gives prog_ok envM_ok (b58_4e_p0 x y 0 (fstI [0, cpl50_r0 x, cpl50_r0 y]) (chkR zs) (fun lim A hA => kenvM_23_8 ⟨[0, cpl50_r0 x, cpl50_r0 y], 3, 3, .row⟩ (show (3 : Nat) ≤ 1000 by decide) lim A (by rw [hA]; rfl)) (fun lim A hA => kenvM_25_16 ⟨zs, 4, 24, .row⟩ trivial lim A (by rw [hA]; rfl)) (by rw [(cpl0 hx hy).2]; rfl) h))
theorem bino5 (x y : Int) (hx : cpl50_r0 x = 0) (hy : cpl50_r0 y = 0) : Bino 5 x y := by
  let zs : List Sr := [⟨W (0 * x), W (0 * y), 1, 0⟩, ⟨W (1 * x), W (1 * y), 4, 0⟩, ⟨W (2 * x), W (2 * y), 6, 0⟩, ⟨W (3 * x), W (3 * y), 4, 0⟩, ⟨W (4 * x), W (4 * y), 1, 0⟩]
  exact bino_of zs (Nat.le_of_ble_eq_true rfl) (Nat.le_of_ble_eq_true rfl) (fun h => SaysAt.of_gives prog_ok envM_ok (b56_5o_p0 x y (cplE [x, y]) (fstI [0, cplE [x, y]]) (chkR zs) (fun lim A hA => kenvM_99_8 ⟨[x, y]⟩ (.inr rfl) lim A (by rw [hA]; rfl)) (fun lim A hA => kenvM_84_9 ⟨[0, cplE [x, y]], 2, 27, .row⟩ (show (2 : Nat) ≤ 1000 by decide) lim A (by rw [hA]; rfl)) (fun lim A hA => chk_eq zs ▸ kenvM_29_19 ⟨zs, 5, 32, .row⟩ (show (5 : Nat) ≤ 1000 by decide) lim A (by rw [hA]; rfl)) (by rw [(cpl0 hx hy).1]; rfl) h)) (fun h => SaysAt.of_gives prog_ok envM_ok (b56_5e_p0 x y (cplE [x, y]) (fstI [0, cplE [x, y]]) (chkR zs) (fun lim A hA => kenvM_99_8 ⟨[x, y]⟩ (.inr rfl) lim A (by rw [hA]; rfl)) (fun lim A hA => kenvM_84_9 ⟨[0, cplE [x, y]], 2, 27, .row⟩ (show (2 : Nat) ≤ 1000 by decide) lim A (by rw [hA]; rfl)) (fun lim A hA => chk_eq zs ▸ kenvM_29_19 ⟨zs, 5, 32, .row⟩ (show (5 : Nat) ≤ 1000 by decide) lim A (by rw [hA]; rfl)) (by rw [(cpl0 hx hy).1]; rfl) h)) (fun h => SaysAt.of_gives prog_ok envM_ok (b58_5o_p0 x y 0 (fstI [0, cpl50_r0 x, cpl50_r0 y]) (chkR zs) (fun lim A hA => kenvM_23_8 ⟨[0, cpl50_r0 x, cpl50_r0 y], 3, 3, .row⟩ (show (3 : Nat) ≤ 1000 by decide) lim A (by rw [hA]; rfl)) (fun lim A hA => kenvM_25_18 ⟨zs, 5, 24, .row⟩ trivial lim A (by rw [hA]; rfl)) (by rw [(cpl0 hx hy).2]; rfl) h)) (fun h => SaysAt.of_gives prog_ok envM_ok (b58_5e_p0 x y 0 (fstI [0, cpl50_r0 x, cpl50_r0 y]) (chkR zs) (fun lim A hA => kenvM_23_8 ⟨[0, cpl50_r0 x, cpl50_r0 y], 3, 3, .row⟩ (show (3 : Nat) ≤ 1000 by decide) lim A (by rw [hA]; rfl)) (fun lim A hA => kenvM_25_18 ⟨zs, 5, 24, .row⟩ trivial lim A (by rw [hA]; rfl)) (by rw [(cpl0 hx hy).2]; rfl) h))
theorem bino6 (x y : Int) (hx : cpl50_r0 x = 0) (hy : cpl50_r0 y = 0) : Bino 6 x y := by
  let zs : List Sr := [⟨W (0 * x), W (0 * y), 1, 0⟩, ⟨W (1 * x), W (1 * y), 5, 0⟩, ⟨W (2 * x), W (2 * y), 10, 0⟩, ⟨W (3 * x), W (3 * y), 10, 0⟩, ⟨W (4 * x), W (4 * y), 5, 0⟩, ⟨W (5 * x), W (5 * y), 1, 0⟩]
  exact bino_of zs (Nat.le_of_ble_eq_true rfl) (Nat.le_of_ble_eq_true rfl) (fun h => SaysAt.of_gives prog_ok envM_ok (b56_6o_p0 x y (cplE [x, y]) (fstI [0, cplE [x, y]]) (chkR zs) (fun lim A hA => kenvM_99_8 ⟨[x, y]⟩ (.inr rfl) lim A (by rw [hA]; rfl)) (fun lim A hA => kenvM_84_9 ⟨[0, cplE [x, y]], 2, 27, .row⟩ (show (2 : Nat) ≤ 1000 by decide) lim A (by rw [hA]; rfl)) (fun lim A hA => chk_eq zs ▸ kenvM_29_21 ⟨zs, 6, 32, .row⟩ (show (6 : Nat) ≤ 1000 by decide) lim A (by rw [hA]; rfl)) (by rw [(cpl0 hx hy).1]; rfl) h)) (fun h => SaysAt.of_gives prog_ok envM_ok (b56_6e_p0 x y (cplE [x, y]) (fstI [0, cplE [x, y]]) (chkR zs) (fun lim A hA => kenvM_99_8 ⟨[x, y]⟩ (.inr rfl) lim A (by rw [hA]; rfl)) (fun lim A hA => kenvM_84_9 ⟨[0, cplE [x, y]], 2, 27, .row⟩ (show (2 : Nat) ≤ 1000 by decide) lim A (by rw [hA]; rfl)) (fun lim A hA => chk_eq zs ▸ kenvM_29_21 ⟨zs, 6, 32, .row⟩ (show (6 : Nat) ≤ 1000 by decide) lim A (by rw [hA]; rfl)) (by rw [(cpl0 hx hy).1]; rfl) h)) (fun h => SaysAt.of_gives prog_ok envM_ok (b58_6o_p0 x y 0 (fstI [0, cpl50_r0 x, cpl50_r0 y]) (chkR zs) (fun lim A hA => kenvM_23_8 ⟨[0, cpl50_r0 x, cpl50_r0 y], 3, 3, .row⟩ (show (3 : Nat) ≤ 1000 by decide) lim A (by rw [hA]; rfl)) (fun lim A hA => kenvM_25_20 ⟨zs, 6, 24, .row⟩ trivial lim A (by rw [hA]; rfl)) (by rw [(cpl0 hx hy).2]; rfl) h)) (fun h => SaysAt.of_gives prog_ok envM_ok (b58_6e_p0 x y 0 (fstI [0, cpl50_r0 x, cpl50_r0 y]) (chkR zs) (fun lim A hA => kenvM_23_8 ⟨[0, cpl50_r0 x, cpl50_r0 y], 3, 3, .row⟩ (show (3 : Nat) ≤ 1000 by decide) lim A (by rw [hA]; rfl)) (fun lim A hA => kenvM_25_20 ⟨zs, 6, 24, .row⟩ trivial lim A (by rw [hA]; rfl)) (by rw [(cpl0 hx hy).2]; rfl) h))
theorem bino7 (x y : Int) (hx : cpl50_r0 x = 0) (hy : cpl50_r0 y = 0) : Bino 7 x y := by
  let zs : List Sr := [⟨W (0 * x), W (0 * y), 1, 0⟩, ⟨W (1 * x), W (1 * y), 6, 0⟩, ⟨W (2 * x), W (2 * y), 15, 0⟩, ⟨W (3 * x), W (3 * y), 20, 0⟩, ⟨W (4 * x), W (4 * y), 15, 0⟩, ⟨W (5 * x), W (5 * y), 6, 0⟩, ⟨W (6 * x), W (6 * y), 1, 0⟩]
  exact bino_of zs (Nat.le_of_ble_eq_true rfl) (Nat.le_of_ble_eq_true rfl) (fun h => SaysAt.of_gives prog_ok envM_ok (b56_7o_p0 x y (cplE [x, y]) (fstI [0, cplE [x, y]]) (chkR zs) (fun lim A hA => kenvM_99_8 ⟨[x, y]⟩ (.inr rfl) lim A (by rw [hA]; rfl)) (fun lim A hA => kenvM_84_9 ⟨[0, cplE [x, y]], 2, 27, .row⟩ (show (2 : Nat) ≤ 1000 by decide) lim A (by rw [hA]; rfl)) (fun lim A hA => chk_eq zs ▸ kenvM_29_23 ⟨zs, 7, 32, .row⟩ (show (7 : Nat) ≤ 1000 by decide) lim A (by rw [hA]; rfl)) (by rw [(cpl0 hx hy).1]; rfl) h)) (fun h => SaysAt.of_gives prog_ok envM_ok (b56_7e_p0 x y (cplE [x, y]) (fstI [0, cplE [x, y]]) (chkR zs) (fun lim A hA => kenvM_99_8 ⟨[x, y]⟩ (.inr rfl) lim A (by rw [hA]; rfl)) (fun lim A hA => kenvM_84_9 ⟨[0, cplE [x, y]], 2, 27, .row⟩ (show (2 : Nat) ≤ 1000 by decide) lim A (by rw [hA]; rfl)) (fun lim A hA => chk_eq zs ▸ kenvM_29_23 ⟨zs, 7, 32, .row⟩ (show (7 : Nat) ≤ 1000 by decide) lim A (by rw [hA]; rfl)) (by rw [(cpl0 hx hy).1]; rfl) h)) (fun h => SaysAt.of_gives prog_ok envM_ok (b58_7o_p0 x y 0 (fstI [0, cpl50_r0 x, cpl50_r0 y]) (chkR zs) (fun lim A hA => kenvM_23_8 ⟨[0, cpl50_r0 x, cpl50_r0 y], 3, 3, .row⟩ (show (3 : Nat) ≤ 1000 by decide) lim A (by rw [hA]; rfl)) (fun lim A hA => kenvM_25_22 ⟨zs, 7, 24, .row⟩ trivial lim A (by rw [hA]; rfl)) (by rw [(cpl0 hx hy).2]; rfl) h)) (fun h => SaysAt.of_gives prog_ok envM_ok (b58_7e_p0 x y 0 (fstI [0, cpl50_r0 x, cpl50_r0 y]) (chkR zs) (fun lim A hA => kenvM_23_8 ⟨[0, cpl50_r0 x, cpl50_r0 y], 3, 3, .row⟩ (show (3 : Nat) ≤ 1000 by decide) lim A (by rw [hA]; rfl)) (fun lim A hA => kenvM_25_22 ⟨zs, 7, 24, .row⟩ trivial lim A (by rw [hA]; rfl)) (by rw [(cpl0 hx hy).2]; rfl) h))
theorem bino8 (x y : Int) (hx : cpl50_r0 x = 0) (hy : cpl50_r0 y = 0) : Bino 8 x y := by
  let zs : List Sr := [⟨W (0 * x), W (0 * y), 1, 0⟩, ⟨W (1 * x), W (1 * y), 7, 0⟩, ⟨W (2 * x), W (2 * y), 21, 0⟩, ⟨W (3 * x), W (3 * y), 35, 0⟩, ⟨W (4 * x), W (4 * y), 35, 0⟩, ⟨W (5 * x), W (5 * y), 21, 0⟩, ⟨W (6 * x), W (6 * y), 7, 0⟩, ⟨W (7 * x), W (7 * y), 1, 0⟩]
  exact bino_of zs (Nat.le_of_ble_eq_true rfl) (Nat.le_of_ble_eq_true rfl) (fun h => SaysAt.of_gives prog_ok envM_ok (b56_8o_p0 x y (cplE [x, y]) (fstI [0, cplE [x, y]]) (chkR zs) (fun lim A hA => kenvM_99_8 ⟨[x, y]⟩ (.inr rfl) lim A (by rw [hA]; rfl)) (fun lim A hA => kenvM_84_9 ⟨[0, cplE [x, y]], 2, 27, .row⟩ (show (2 : Nat) ≤ 1000 by decide) lim A (by rw [hA]; rfl)) (fun lim A hA => chk_eq zs ▸ kenvM_29_25 ⟨zs, 8, 32, .row⟩ (show (8 : Nat) ≤ 1000 by decide) lim A (by rw [hA]; rfl)) (by rw [(cpl0 hx hy).1]; rfl) h)) (fun h => SaysAt.of_gives prog_ok envM_ok (b56_8e_p0 x y (cplE [x, y]) (fstI [0, cplE [x, y]]) (chkR zs) (fun lim A hA => kenvM_99_8 ⟨[x, y]⟩ (.inr rfl) lim A (by rw [hA]; rfl)) (fun lim A hA => kenvM_84_9 ⟨[0, cplE [x, y]], 2, 27, .row⟩ (show (2 : Nat) ≤ 1000 by decide) lim A (by rw [hA]; rfl)) (fun lim A hA => chk_eq zs ▸ kenvM_29_25 ⟨zs, 8, 32, .row⟩ (show (8 : Nat) ≤ 1000 by decide) lim A (by rw [hA]; rfl)) (by rw [(cpl0 hx hy).1]; rfl) h)) (fun h => SaysAt.of_gives prog_ok envM_ok (b58_8o_p0 x y 0 (fstI [0, cpl50_r0 x, cpl50_r0 y]) (chkR zs) (fun lim A hA => kenvM_23_8 ⟨[0, cpl50_r0 x, cpl50_r0 y], 3, 3, .row⟩ (show (3 : Nat) ≤ 1000 by decide) lim A (by rw [hA]; rfl)) (fun lim A hA => kenvM_25_24 ⟨zs, 8, 24, .row⟩ trivial lim A (by rw [hA]; rfl)) (by rw [(cpl0 hx hy).2]; rfl) h)) (fun h => SaysAt.of_gives prog_ok envM_ok (b58_8e_p0 x y 0 (fstI [0, cpl50_r0 x, cpl50_r0 y]) (chkR zs) (fun lim A hA => kenvM_23_8 ⟨[0, cpl50_r0 x, cpl50_r0 y], 3, 3, .row⟩ (show (3 : Nat) ≤ 1000 by decide) lim A (by rw [hA]; rfl)) (fun lim A hA => kenvM_25_24 ⟨zs, 8, 24, .row⟩ trivial lim A (by rw [hA]; rfl)) (by rw [(cpl0 hx hy).2]; rfl) h))
theorem bino9 (x y : Int) (hx : cpl50_r0 x = 0) (hy : cpl50_r0 y = 0) : Bino 9 x y := by
  let zs : List Sr := [⟨W (0 * x), W (0 * y), 1, 0⟩, ⟨W (1 * x), W (1 * y), 8, 0⟩, ⟨W (2 * x), W (2 * y), 28, 0⟩, ⟨W (3 * x), W (3 * y), 56, 0⟩, ⟨W (4 * x), W (4 * y), 70, 0⟩, ⟨W (5 * x), W (5 * y), 56, 0⟩, ⟨W (6 * x), W (6 * y), 28, 0⟩, ⟨W (7 * x), W (7 * y), 8, 0⟩, ⟨W (8 * x), W (8 * y), 1, 0⟩]
  exact bino_of zs (Nat.le_of_ble_eq_true rfl) (Nat.le_of_ble_eq_true rfl) (fun h => SaysAt.of_gives prog_ok envM_ok (b56_9o_p0 x y (cplE [x, y]) (fstI [0, cplE [x, y]]) (chkR zs) (fun lim A hA => kenvM_99_8 ⟨[x, y]⟩ (.inr rfl) lim A (by rw [hA]; rfl)) (fun lim A hA => kenvM_84_9 ⟨[0, cplE [x, y]], 2, 27, .row⟩ (show (2 : Nat) ≤ 1000 by decide) lim A (by rw [hA]; rfl)) (fun lim A hA => chk_eq zs ▸ kenvM_29_27 ⟨zs, 9, 32, .row⟩ (show (9 : Nat) ≤ 1000 by decide) lim A (by rw [hA]; rfl)) (by rw [(cpl0 hx hy).1]; rfl) h)) (fun h => SaysAt.of_gives prog_ok envM_ok (b56_9e_p0 x y (cplE [x, y]) (fstI [0, cplE [x, y]]) (chkR zs) (fun lim A hA => kenvM_99_8 ⟨[x, y]⟩ (.inr rfl) lim A (by rw [hA]; rfl)) (fun lim A hA => kenvM_84_9 ⟨[0, cplE [x, y]], 2, 27, .row⟩ (show (2 : Nat) ≤ 1000 by decide) lim A (by rw [hA]; rfl)) (fun lim A hA => chk_eq zs ▸ kenvM_29_27 ⟨zs, 9, 32, .row⟩ (show (9 : Nat) ≤ 1000 by decide) lim A (by rw [hA]; rfl)) (by rw [(cpl0 hx hy).1]; rfl) h)) (fun h => SaysAt.of_gives prog_ok envM_ok (b58_9o_p0 x y 0 (fstI [0, cpl50_r0 x, cpl50_r0 y]) (chkR zs) (fun lim A hA => kenvM_23_8 ⟨[0, cpl50_r0 x, cpl50_r0 y], 3, 3, .row⟩ (show (3 : Nat) ≤ 1000 by decide) lim A (by rw [hA]; rfl)) (fun lim A hA => kenvM_25_26 ⟨zs, 9, 24, .row⟩ trivial lim A (by rw [hA]; rfl)) (by rw [(cpl0 hx hy).2]; rfl) h)) (fun h => SaysAt.of_gives prog_ok envM_ok (b58_9e_p0 x y 0 (fstI [0, cpl50_r0 x, cpl50_r0 y]) (chkR zs) (fun lim A hA => kenvM_23_8 ⟨[0, cpl50_r0 x, cpl50_r0 y], 3, 3, .row⟩ (show (3 : Nat) ≤ 1000 by decide) lim A (by rw [hA]; rfl)) (fun lim A hA => kenvM_25_26 ⟨zs, 9, 24, .row⟩ trivial lim A (by rw [hA]; rfl)) (by rw [(cpl0 hx hy).2]; rfl) h))
/-
Binomial rows: errors.
-/
theorem b56x_p0 (n x y t p o : Int) (h97 : ∀ (lim : Nat) (A : Heap), startsB heapN A = true → Gives Tryz.prog envM lim 97 [I n, I 1, I 9] A (I t, A)) (h99 : ∀ (lim : Nat) (A : Heap), hget A 8 = some (.cells [I x, I y] 3 .row) → Gives Tryz.prog envM lim 99 [sl 8 0 2 2] A (I p, A)) (h84 : ∀ (lim : Nat) (A : Heap), hget A 9 = some (.cells [I t, I p] 27 .row) → Gives Tryz.prog envM lim 84 [sl 9 0 2 2] A (I o, A)) (f1 : (o != 0) = true) : Gives Tryz.prog envM 0 56 [I n, I x, I y] heapN ((.tuple #[(.slice .none 0 0), I o]), heapN) :=
  Gives.by (n := 1000) (os := [.opw 56 14 (I t) [.none, .none, .none, .none, .none, .none, .none, .none], .opw 56 18 (I p) (n8 [(.some (.cells [I x, I y] 3 .row))]), .opw 56 20 (I o) (n8 [(.some (.cells [I x, I y] 3 .row)), (.some (.cells [I t, I p] 27 .row))]), .br 56 44 true]) (os' := []) (by kernel_rfl) (ObsOK.call (h97 8 [.none, .none, .none, .none, .none, .none, .none, .none] (by kernel_rfl)) (ObsOK.call (h99 8 (n8 [(.some (.cells [I x, I y] 3 .row))]) (by kernel_rfl)) (ObsOK.call (h84 8 (n8 [(.some (.cells [I x, I y] 3 .row)), (.some (.cells [I t, I p] 27 .row))]) (by kernel_rfl)) (ObsOK.cond f1 (ObsOK.nil)))))
theorem b58x_p0 (n x y o : Int) (h23 : ∀ (lim : Nat) (A : Heap), hget A 8 = some (.cells [I (cr_r0 n 1 9), I (cpl50_r0 x), I (cpl50_r0 y)] 3 .row) → Gives Tryz.prog envM lim 23 [sl 8 0 3 3] A (I o, A)) (f1 : (o != 0) = true) : Gives Tryz.prog envM 0 58 [I n, I x, I y] heapN ((.tuple #[(.slice .none 0 0), I o]), heapN) :=
  Gives.by (n := 1000) (os := [.opw 58 21 (I o) (n8 [(.some (.cells [(I (cr_r0 n 1 9)), (I (cpl50_r0 x)), (I (cpl50_r0 y))] 3 .row))]), .br 58 46 true]) (os' := []) (by kernel_rfl) (ObsOK.call (h23 8 (n8 [(.some (.cells [(I (cr_r0 n 1 9)), (I (cpl50_r0 x)), (I (cpl50_r0 y))] 3 .row))]) (by kernel_rfl)) (ObsOK.cond f1 (ObsOK.nil)))
/-
ArrayRepeats: the law at all rows.
-/
theorem k97W {q : Int} {lim : Nat} {A : Heap} (hs : startsB heapN A = true) : envB.known lim 97 [I q, I 1, I 9] A = some (I (c97_r0 q 1 9), A) := by
  have hB : B_envY 97 [I q, I 1, I 9] = some (heapN, I (c97_r0 q 1 9)) := rfl
  have hk : envY.known lim 97 [I q, I 1, I 9] A = some (I (c97_r0 q 1 9), A) := by
    simp only [envY, Env.with, baseKnown, hB, show ([I q, I 1, I 9] : List Value).all freeB = true from rfl, show freeB (I (c97_r0 q 1 9)) = true from rfl, hs, Bool.and_self, if_true]
  exact (kn_skip rfl).trans ((kn_skip rfl).trans hk)
theorem k97N (q : Int) : ∀ (lim : Nat) (A : Heap), startsB heapN A = true → Gives Tryz.prog envM lim 97 [I q, I 1, I 9] A (I (c97_r0 q 1 9), A) := fun lim A hs => known_gives ((Env.fam_skip rfl).trans ((Env.fam_skip rfl).trans ((kn_skip rfl).trans ((Env.fam_skip rfl).trans ((kn_skip rfl).trans ((Env.fam_skip rfl).trans ((Env.fam_skip rfl).trans ((Env.fam_skip rfl).trans ((Env.fam_skip rfl).trans ((Env.fam_skip rfl).trans ((Env.fam_skip rfl).trans ((Env.fam_skip rfl).trans ((Env.fam_skip rfl).trans (k97W hs))))))))))))))
theorem cr_19 (n : Int) : cr_r0 n 1 9 = if 1 ≤ n ∧ n ≤ 9 then 0 else 3 := cr_eq _ _ _
theorem c97_19 (n : Int) : c97_r0 n 1 9 = cr_r0 n 1 9 := by
  rw [cr_19]
  unfold c97_r0 c97_c0 c97_c1
  by_cases h1 : (1 : Int) ≤ n <;> by_cases h2 : n ≤ (9 : Int) <;> simp [h1, h2]
theorem bino_all (n x y : Int) : Bino n x y := by
  have e : fstI [c97_r0 n 1 9, cplE [x, y]] = fstI [cr_r0 n 1 9, cpl50_r0 x, cpl50_r0 y] := by rw [c97_19]; exact cpl2_eq _ _ _
  cases ho : (fstI [cr_r0 n 1 9, cpl50_r0 x, cpl50_r0 y] != 0) with
  | true =>
    have p : SaysAt Tryz.prog 8 56 [I n, I x, I y] heapN (.tuple #[.slice none 0 0, I (fstI [cr_r0 n 1 9, cpl50_r0 x, cpl50_r0 y])]) heapN :=
      SaysAt.of_gives prog_ok envM_ok (b56x_p0 n x y (c97_r0 n 1 9) (cplE [x, y]) _ (k97N n) (fun lim A hA => kenvM_99_8 ⟨[x, y]⟩ (.inr rfl) lim A (by rw [hA]; rfl)) (fun lim A hA => e ▸ kenvM_84_9 ⟨[c97_r0 n 1 9, cplE [x, y]], 2, 27, .row⟩ (show (2 : Nat) ≤ 1000 by decide) lim A (by rw [hA]; rfl)) ho)
    have q : SaysAt Tryz.prog 8 58 [I n, I x, I y] heapN (.tuple #[.slice none 0 0, I (fstI [cr_r0 n 1 9, cpl50_r0 x, cpl50_r0 y])]) heapN :=
      SaysAt.of_gives prog_ok envM_ok (b58x_p0 n x y _ (fun lim A hA => kenvM_23_8 ⟨[cr_r0 n 1 9, cpl50_r0 x, cpl50_r0 y], 3, 3, .row⟩ (show (3 : Nat) ≤ 1000 by decide) lim A (by rw [hA]; rfl)) ho)
    exact ⟨.slice none 0 0, _, none, fun A h0 _ => liftE (T := heapN) (R0 := []) [] p rfl rfl (sN h0) rfl rfl rfl rfl, fun _ _ => ⟨.slice none 0 0, none, fun A h0 _ => liftE (T := heapN) (R0 := []) [] q rfl rfl (sN h0) rfl rfl rfl rfl, fun A h0 _ _ => err54 (by simpa using ho) A h0⟩⟩
  | false =>
    have ho' : fstI [cr_r0 n 1 9, cpl50_r0 x, cpl50_r0 y] = 0 := by simpa using ho
    rw [fst3] at ho'
    have hn : cr_r0 n 1 9 = 0 := by
      cases h : (cr_r0 n 1 9 != 0) with
      | true => rw [h, if_pos rfl] at ho'; exact ho'
      | false => simpa using h
    rw [hn] at ho'
    have hx : cpl50_r0 x = 0 := by
      cases h : (cpl50_r0 x != 0) with
      | true => rw [h, if_neg (by decide), if_pos rfl] at ho'; exact ho'
      | false => simpa using h
    rw [hx] at ho'
    have hy : cpl50_r0 y = 0 := ho'
    rw [cr_19] at hn
    have h19 : 1 ≤ n ∧ n ≤ 9 := by
      by_cases h : 1 ≤ n ∧ n ≤ 9
      · exact h
      · rw [if_neg h] at hn; cases hn
    rcases (show n = 1 ∨ n = 2 ∨ n = 3 ∨ n = 4 ∨ n = 5 ∨ n = 6 ∨ n = 7 ∨ n = 8 ∨ n = 9 by omega) with h | h | h | h | h | h | h | h | h
    · rw [h]; exact bino1 x y hx hy
    · rw [h]; exact bino2 x y hx hy
    · rw [h]; exact bino3 x y hx hy
    · rw [h]; exact bino4 x y hx hy
    · rw [h]; exact bino5 x y hx hy
    · rw [h]; exact bino6 x y hx hy
    · rw [h]; exact bino7 x y hx hy
    · rw [h]; exact bino8 x y hx hy
    · rw [h]; exact bino9 x y hx hy
theorem law7 {vL vB : Value} {r8 r9 : Option ARow} {xs ys : List Sr} (n x y : Int) (hL : ArgF vL xs r8 r9) (hB : ArgF vB ys r8 r9) (hu : [vL] = [vB] → xs = ys)
    (s57 : xs.length ≤ 16 → ys.length ≤ 16 → ∀ A, startsB heap0 A = true → hget A 8 = r8 → hget A 9 = r9 → A.length = 16 → SaysAt Tryz.prog 8 57 [vL, vB] A (.tuple #[reV 16 (reL reR xs ys xs.length), I (chkR (reL reR xs ys xs.length))]) (A ++ [reW 24 (reL reR xs ys xs.length)])) :
    LawS 7 [vL, vB, .agg #[I n, I x, I y]] (H [r8, r9]) := by
  have le : ∀ {k : Nat}, shortB k 5 = true → k ≤ 1000 := fun h => by
    unfold shortB at h
    simp only [Bool.or_eq_true, decide_eq_true_eq, beq_iff_eq] at h
    omega
  cases hs : shortB xs.length 5 with
  | false =>
    have h := hL.short (H [r8, r9, wR3 n x y]) (startsH _) rfl rfl
    rw [hs] at h
    let c : CallC := ⟨16, [vL, I 5], H [r8, r9, wR3 n x y], .bool false, []⟩
    have ok : EnvOK Tryz.prog 8 (eR [c]) := Env.calls_ok envM_ok (fc ⟨h, fN⟩)
    have one : ∀ a ∈ [c], ∀ b ∈ [c], a.f = b.f → a.args = b.args → a.A = b.A → a.v = b.v ∧ a.R = b.R := fun a ha b hb _ _ _ => by rw [List.mem_singleton.1 ha, List.mem_singleton.1 hb]; exact ⟨rfl, rfl⟩
    exact ⟨_, ok, reX_p0 _ n x y 0 0 0 0 0 0 0 vL vB vL vL vL vL vL vL r8 r9 none none none none none none (rN one 0 rfl)⟩
  | true =>
    cases ht : shortB ys.length 5 with
    | false =>
      have h := hL.short (H [r8, r9, wR3 n x y]) (startsH _) rfl rfl
      rw [hs] at h
      have h2 := hB.short (H [r8, r9, wR3 n x y]) (startsH _) rfl rfl
      rw [ht] at h2
      let c : CallC := ⟨16, [vL, I 5], H [r8, r9, wR3 n x y], .bool true, []⟩
      let d : CallC := ⟨16, [vB, I 5], H [r8, r9, wR3 n x y], .bool false, []⟩
      have ok : EnvOK Tryz.prog 8 (eR [c, d]) := Env.calls_ok envM_ok (fc ⟨h, fc ⟨h2, fN⟩⟩)
      have no : c.args = d.args → False := fun e => by
        have e2 : [vL] = [vB] := by
          have := congrArg List.head? e
          simp only [c, d, List.head?_cons, Option.some.injEq] at this
          rw [this]
        rw [hu e2, ht] at hs
        cases hs
      have one : ∀ a ∈ [c, d], ∀ b ∈ [c, d], a.f = b.f → a.args = b.args → a.A = b.A → a.v = b.v ∧ a.R = b.R :=
        fc ⟨fc ⟨fun _ _ _ => ⟨rfl, rfl⟩, fc ⟨fun _ e _ => (no e).elim, fN⟩⟩, fc ⟨fc ⟨fun _ e _ => (no e.symm).elim, fc ⟨fun _ _ _ => ⟨rfl, rfl⟩, fN⟩⟩, fN⟩⟩
      exact ⟨_, ok, reY_p0 _ n x y 0 0 0 0 0 0 0 vL vB vL vL vL vL vL vL r8 r9 none none none none none none (rN one 0 rfl) (rN one 1 rfl)⟩
    | true =>
      refine rep_of (tL := rwA 32 xs.length (srs xs)) (tB := rwA 32 ys.length (srs ys)) (oL := svA 11 xs.length) (oB := svA 12 ys.length) (k1 := chkR xs) (k2 := chkR ys) (fun e => by rw [hu e]) (fun A h0 h1 h2 => hs ▸ hL.short A h0 h1 h2) (fun A h0 h1 h2 => ht ▸ hB.short A h0 h1 h2) (fun A h0 h1 h2 hl => hL.own (le hs) A 11 (.inl rfl) h0 h1 h2 hl) (fun A h0 h1 h2 hl => hB.own (le ht) A 12 (.inr rfl) h0 h1 h2 hl) hL.chk hB.chk (bino_all n x y) (rept_of xs ys (le hs) (le ht) s57)
theorem LawS.drop {args : List Value} {A : Heap} (h : LawS 7 args (A ++ [none])) : LawM 7 args A := by
  obtain ⟨E, hE, hg⟩ := h
  have h2 : SaysAt Tryz.prog 8 7 args A (.bool true) (A ++ [none]) := (SaysAt.of_gives prog_ok hE hg).dropNone
  exact ⟨_, _, Env.calls_ok envM_ok (fs := [7]) (L := [⟨7, args, A, .bool true, [none]⟩]) (fc ⟨h2, fN⟩), call1 (c := ⟨7, args, A, .bool true, [none]⟩) rfl⟩
theorem LawS.drop2 {args : List Value} {A : Heap} (h : LawS 7 args (A ++ [none] ++ [none])) : LawM 7 args A := by
  obtain ⟨E, hE, hg⟩ := h
  have h2 : SaysAt Tryz.prog 8 7 args A (.bool true) (A ++ [none] ++ [none]) := (SaysAt.of_gives prog_ok hE hg).dropNone.dropNone
  have h3 : SaysAt Tryz.prog 8 7 args A (.bool true) (A ++ [none, none]) := by rw [List.append_assoc] at h2; exact h2
  exact ⟨_, _, Env.calls_ok envM_ok (fs := [7]) (L := [⟨7, args, A, .bool true, [none, none]⟩]) (fc ⟨h3, fN⟩), call1 (c := ⟨7, args, A, .bool true, [none, none]⟩) rfl⟩
theorem runsArrayRepeats00 (n x y : Int) : LawM 7 [.slice none 0 0, .slice none 0 0, .agg #[I n, I x, I y]] heap0 :=
  LawS.drop2 (law7 n x y (argNil none none) (argNil none none) (fun _ => rfl) fun _ _ A h0 _ _ _ => s57_nn A h0)
theorem runsArrayRepeats01 (n x y : Int) (ys : List Sr) (e : Nat) (u : Use) : LawM 7 [.slice none 0 0, sl 8 0 ys.length ys.length, .agg #[I n, I x, I y]] (heap0 ++ [rS ys e u]) :=
  LawS.drop (law7 n x y (argNil (rS ys e u) none) (arg8 ys ys.length e u none) (fun h => by simp at h) fun _ _ A h0 h1 _ _ => s57_nl ys _ e u A h0 h1)
theorem runsArrayRepeats10 (n x y : Int) (xs : List Sr) (e : Nat) (u : Use) : LawM 7 [sl 8 0 xs.length xs.length, .slice none 0 0, .agg #[I n, I x, I y]] (heap0 ++ [rS xs e u]) :=
  LawS.drop (law7 n x y (arg8 xs xs.length e u none) (argNil (rS xs e u) none) (fun h => by simp at h) fun hx _ A h0 h1 _ _ => s57_ln xs _ e u hx A h0 h1)
theorem runsArrayRepeats11 (n x y : Int) (xs : List Sr) (e : Nat) (u : Use) (ys : List Sr) (e2 : Nat) (u2 : Use) : LawM 7 [sl 8 0 xs.length xs.length, sl 9 0 ys.length ys.length, .agg #[I n, I x, I y]] (heap0 ++ [rS xs e u] ++ [rS ys e2 u2]) :=
  (law7 n x y (arg8 xs xs.length e u (rS ys e2 u2)) (arg9 ys ys.length e2 u2 (rS xs e u)) (fun h => by simp at h) fun hx hy A h0 h1 h2 hl => s57_ll xs ys _ e _ e2 u u2 hx hy A h0 h1 h2 hl).m
/-
ArrayPressures: the law is true, if there are sources.
-/
theorem sq_rsq (a b : Int) : sq_r0 a b = rsq_r0 a b := rfl
/-
ArrayPressures: its ways without sources.
-/
/-
ArrayPressures: the law is true.
-/
theorem ListOf_srs : ∀ {n : Nat} {rows : List Value}, ListOf [.int .i64, .int .i64, .int .i64, .int .i64] n rows → ∃ xs : List Sr, xs.length = n ∧ rows = srs xs
  | 0, rows, h => ⟨[], rfl, by have := h.1; simp at this; rw [this]; rfl⟩
  | n + 1, rows, h => by
    obtain ⟨h1, h2⟩ := h
    simp only [List.length_cons, List.length_nil] at h1 h2
    have a := h2 0 (by omega)
    simp only [Nat.zero_mul, List.drop_zero] at a
    obtain ⟨x, c1, e1, _, a⟩ := a.int_inv
    obtain ⟨y, c2, e2, _, a⟩ := a.int_inv
    obtain ⟨g, c3, e3, _, a⟩ := a.int_inv
    obtain ⟨p, c4, e4, _, a⟩ := a.int_inv
    have e5 := a.end
    obtain ⟨xs, g1, g2⟩ := ListOf_srs (n := n) (rows := rows.drop 4) ⟨by simp; omega, fun i hi => by
      have := h2 (i + 1) (by omega)
      simp only [List.length_cons, List.length_nil]
      rw [List.drop_drop]
      have e : 4 + i * (0 + 1 + 1 + 1 + 1) = (i + 1) * (0 + 1 + 1 + 1 + 1) := by omega
      rw [e]; exact this⟩
    refine ⟨⟨x, y, g, p⟩ :: xs, by simp [g1], ?_⟩
    rw [← List.take_append_drop 4 rows, g2, show rows.take 4 = [I x, I y, I g, I p] from by rw [show (4 : Nat) = 0 + 1 + 1 + 1 + 1 from rfl, e1, e2, e3, e4, e5]]
    rfl
end Go.Proofs.YtpdiaiccnaoaiaaGreatDoor
/-
ArrayRepeats: from the rows to the statement.
-/
namespace Go.Proofs.YtpdiaiccnaoaiaaGreatDoor.arrayRepeats
open Go Go.Abs Go.ChangeShapes Go.WideShapes Go.ChangeAt Go.RowKit

theorem own : ownKnob Tryz.prog.godebug = none := by kernel_rfl
theorem heap0_eq : heap0 = tabRows Tryz.prog Rows.arrayRepeatsRow.laid 8 := by kernel_rfl
theorem still0 : noOwn heap0 = true := by kernel_rfl
section
variable {H : Type} {enc : TypeId × Value → H} {w : World} {base : Nat} {sp : Nat → Bool} {hd : Bool}
set_option maxRecDepth 100000 in
theorem arg22 {r : Reach} {b0 : Nat} {v : Value} {d : DataW H} {p : List MemPlace} (hv : Value.okWide Tryz.prog w r b0 22 v) (h : DataW.Trod enc Tryz.prog w base (fun _ => true) hd 22 v d p) : CellsAs w [.list 24 [.int .i64, .int .i64, .int .i64, .int .i64]] [v] := by
  obtain ⟨fuel, h⟩ := h
  have hi := args_of 9 22 [.list 24 [.int .i64, .int .i64, .int .i64, .int .i64]] fuel _ _ (by kernel_rfl) h
  have hc : v.cells.toList = [v] := by
    cases v <;> first | rfl | (exfalso; simp [Value.okWide, Cell.okWide, Cell.ok, Tryz.underlying22] at hv)
  rw [hc] at hi
  exact hi
set_option maxRecDepth 100000 in
theorem arg92 {r : Reach} {b0 : Nat} {v : Value} {d : DataW H} {p : List MemPlace} (hv : Value.okWide Tryz.prog w r b0 92 v) (h : DataW.Trod enc Tryz.prog w base (fun _ => true) hd 92 v d p) : ∃ (a0 a1 a2 : Int), v = .agg #[I a0, I a1, I a2] := by
  obtain ⟨fuel, h⟩ := h
  simp only [Value.okWide, Tryz.underlying92] at hv
  obtain ⟨cs, rfl, _, _⟩ := hv
  have hi := args_of 9 92 [.atom (.int .i64), .atom (.int .i64), .atom (.int .i64)] fuel _ _ (by kernel_rfl) h
  simp only [Value.cells] at hi
  obtain ⟨a0, l0, e0, _, hi⟩ := hi.int_inv
  obtain ⟨a1, l1, e1, _, hi⟩ := hi.int_inv
  obtain ⟨a2, l2, e2, _, hi⟩ := hi.int_inv
  have ee := hi.end
  refine ⟨a0, a1, a2, ?_⟩
  rw [← Array.toList_inj.1 (show cs.toList = (#[I a0, I a1, I a2] : Array Value).toList from by rw [e0, e1, e2, ee])]
end
theorem some_row : ∃ i cs e u, hget heap0 i = some (.cells cs e u) := ⟨0, _, _, _, rfl⟩
theorem more_row {A : Heap} {r : Option ARow} (h : ∃ i cs e u, hget A i = some (.cells cs e u)) : ∃ i cs e u, hget (A ++ [r]) i = some (.cells cs e u) := by
  obtain ⟨i, cs, e, u, h⟩ := h
  exact ⟨i, cs, e, u, by rw [hget_append, if_pos (hget_lt h)]; exact h⟩
theorem done {ρ : Go.Abs.Loc} {A : Heap} {args args' : List Value} {W : World} {cd : Code} (hb : Tryz.f7.body = some cd) (h : LawM 7 args A) (ha : VRs ρ args args') (hG : Globs ρ 8) (hR : Rel Tryz.prog ρ A W) (hn : noOwn A = true) :
    Calls Tryz.prog 7 args'.toArray W fun e w' => e = .returned (.bool true) ∧ (w'.os = W.os ∧ w'.output = W.output) ∧ ∀ b, b < W.heap.size → w'.heap[b]? = W.heap[b]? := by
  obtain ⟨E, A1, hE, n, hk⟩ := h
  refine (calls_of (call_sound prog_ok hE n) prog_ok Tryz.func7 hb hk ha hG hR hn).mono ?_
  rintro e w' ⟨v', ρ', rfl, hv, _, hm, hs⟩
  rw [hv.atom_eq rfl]
  exact ⟨rfl, hm.out, hs⟩
theorem calls (x0 x1 x2 : Int) (v0 v1 : Value) (W : World) (hL : laidMetH Tryz.prog Rows.arrayRepeatsRow.laid W) (hk0 : CellsAs W [.list 24 [.int .i64, .int .i64, .int .i64, .int .i64]] [v0]) (hk1 : CellsAs W [.list 24 [.int .i64, .int .i64, .int .i64, .int .i64]] [v1]) :
    Calls Tryz.prog 7 #[v0, v1, .agg #[I x0, I x1, I x2]] W fun e w' =>
      e = .returned (.bool true) ∧ (w'.os = W.os ∧ w'.output = W.output) ∧ ∀ b, b < W.heap.size → w'.heap[b]? = W.heap[b]? := by
  have hl : laidMet Tryz.prog Rows.arrayRepeatsRow.laid W := by rw [← MakeChecks.laidMetH_plain _ _ _ (by kernel_rfl)]; exact hL
  have hR : Rel Tryz.prog (tabLoc 8) heap0 W := by rw [heap0_eq]; exact tabRows_rel hl
  have hb : ∃ cd, Tryz.f7.body = some cd := ⟨_, rfl⟩
  obtain ⟨cd, hb⟩ := hb
  have hG := tabLoc_globs 8
  obtain ⟨w0, cs0, b0, n0, rows0, ρ0, e0, hk0', hl0, hb0, hv0, hx0, hR0, hn0⟩ := hk0.list_inv hR still0 some_row
  obtain ⟨xs0, hxn0, rfl⟩ := ListOf_srs hl0
  subst hxn0
  obtain rfl := hk0'.end
  simp only [List.cons.injEq, and_true] at e0
  subst e0
  cases b0 with
  | false =>
    have hn_0 : v0 = .slice none 0 0 := hv0.atom_eq rfl
    subst hn_0
    obtain ⟨w1, cs1, b1, n1, rows1, ρ1, e1, hk1', hl1, hb1, hv1, hx1, hR1, hn1⟩ := hk1.list_inv hR still0 some_row
    obtain ⟨xs1, hxn1, rfl⟩ := ListOf_srs hl1
    subst hxn1
    obtain rfl := hk1'.end
    simp only [List.cons.injEq, and_true] at e1
    subst e1
    cases b1 with
    | false =>
      have hn_1 : v1 = .slice none 0 0 := hv1.atom_eq rfl
      subst hn_1
      exact done hb (runsArrayRepeats00 x0 x1 x2 ) (VRs.cons (.atom rfl) (VRs.cons (.atom rfl) (VRs.cons (VR.refl _ rfl) (VRs.nil _)))) hG hR still0
    | true =>
      exact done hb (runsArrayRepeats01 x0 x1 x2 xs1 24 .ro) (VRs.cons (.atom rfl) (VRs.cons hv1 (VRs.cons (VR.refl _ rfl) (VRs.nil _)))) (hG.mono hx1) hR1 hn1
  | true =>
    obtain ⟨w1, cs1, b1, n1, rows1, ρ1, e1, hk1', hl1, hb1, hv1, hx1, hR1, hn1⟩ := hk1.list_inv hR0 hn0 (more_row some_row)
    obtain ⟨xs1, hxn1, rfl⟩ := ListOf_srs hl1
    subst hxn1
    obtain rfl := hk1'.end
    simp only [List.cons.injEq, and_true] at e1
    subst e1
    cases b1 with
    | false =>
      have hn_1 : v1 = .slice none 0 0 := hv1.atom_eq rfl
      subst hn_1
      exact done hb (runsArrayRepeats10 x0 x1 x2 xs0 24 .ro) (VRs.cons hv0 (VRs.cons (.atom rfl) (VRs.cons (VR.refl _ rfl) (VRs.nil _)))) (hG.mono hx0) hR0 hn0
    | true =>
      exact done hb (runsArrayRepeats11 x0 x1 x2 xs0 24 .ro xs1 24 .ro) (VRs.cons (hv0.mono hx1) (VRs.cons hv1 (VRs.cons (VR.refl _ rfl) (VRs.nil _)))) ((hG.mono hx0).mono hx1) hR1 hn1

theorem reads_ok : Reads Tryz.prog := ⟨by kernel_rfl, by kernel_rfl, by kernel_rfl⟩
theorem len_3 {α : Type} {l : List α} (h : l.length = 3) : ∃ y0 y1 y2 : α, l = [y0, y1, y2] := by
  match l, h with
  | [y0, y1, y2], _ => exact ⟨y0, y1, y2, rfl⟩

set_option maxRecDepth 100000 in
theorem contract (H : Type) (enc : TypeId × Value → H) (W : World) (base : Nat) (args : Array Value) (ds gs : List (DataW H)) (before : List MemPlace)
    (hval : ∀ (j : Nat) t v, Tryz.f7.params[j]? = some t → args[j]? = some v → Value.okWide Tryz.prog W .any base t v)
    (hW : DataW.Whole enc Tryz.prog Tryz.f7.params.toList Rows.arrayRepeatsSpec.vars false W args.toList ds gs before) (hL : laidMetH Tryz.prog Rows.arrayRepeatsRow.laid W) :
    Calls Tryz.prog 7 args W fun e W' => ∃ v, e = .returned v ∧ Rows.arrayRepeatsSpec.post enc Tryz.prog Tryz.f7 false true false false W args v W' := by
  have hW' := hW
  obtain ⟨p, q, hA, hV, rfl, hfz, hnd⟩ := hW
  have hA0 : DataW.TrodAll enc Tryz.prog W 0 (fun _ => true) true Tryz.f7.params.toList args.toList ds p := hA
  rw [Tryz.params7] at hA0 hval
  obtain ⟨v0, vs0, d0, ds0, p0, q0, hargs0, rfl, rfl, h0, r0⟩ := trodAll_cons hA0
  obtain ⟨v1, vs1, d1, ds1, p1, q1, hargs1, rfl, rfl, h1, r1⟩ := trodAll_cons r0
  obtain ⟨v2, vs2, d2, ds2, p2, q2, hargs2, rfl, rfl, h2, r2⟩ := trodAll_cons r1
  obtain ⟨rfl, rfl, rfl⟩ := trodAll_nil r2
  obtain rfl : args = #[v0, v1, v2] := by cases args; simp_all
  have hk0 := arg22 (hval 0 22 v0 rfl rfl) h0
  have hk1 := arg22 (hval 1 22 v1 rfl rfl) h1
  obtain ⟨x0, x1, x2, rfl⟩ := arg92 (hval 2 92 v2 rfl rfl) h2
  refine (calls x0 x1 x2 v0 v1 W hL hk0 hk1).mono fun e W' hr => ?_
  obtain ⟨rfl, ho, hb⟩ := hr
  refine ⟨_, rfl, law_post (bt := 4) reads_ok rfl (fun ds hl => ?_) (by kernel_rfl) Tryz.underlying4 (by kernel_rfl) hW' ho hb⟩
  rw [show Tryz.f7.params.size = 3 by kernel_rfl] at hl
  obtain ⟨y0, y1, y2, rfl⟩ := len_3 hl
  rfl
end Go.Proofs.YtpdiaiccnaoaiaaGreatDoor.arrayRepeats
/-
ArrayRepeats of the package wooferlaw06 returns true for every input, whatever the world: proved for all arguments, under the conditions that the row and its card name (the package-level tables as laid).
-/
namespace Go.Proofs.YtpdiaiccnaoaiaaGreatDoor.arrayRepeats
open Go Go.Abs Go.ChangeShapes Go.WideShapes Go.ChangeAt Go.RowKit

/-- The settled world, the tables laid. -/
noncomputable def putTab (A : Heap) (w : World) : World :=
  { w with heap := ((List.range 8).foldl (fun h g => match hget A g with
      | some (.cells cs _ _) => h.modify g fun
        | .cells _ t frozen => .cells cs.toArray t frozen
        | o => o
      | _ => h) w.heap) }
noncomputable def laidWorld (os : Os) : World := putTab heap0 (World.holding Tryz.prog os ⟨#[], #[], []⟩)
theorem laid_met (os : Os) : laidMet Tryz.prog Rows.arrayRepeatsRow.laid ((laidWorld os).forCall (fun _ _ => 0) ⟨#[], #[.slice none 0 0, .slice none 0 0, .agg #[.int .i64 0, .int .i64 0, .int .i64 0]], []⟩).memory :=
  laidMet_of_run' 8 (by kernel_rfl) (by kernel_rfl)
theorem reads (os : Os) {H : Type} (enc : TypeId × Value → H) : ∃ places, DataW.whole enc Tryz.prog ((laidWorld os).forCall (fun _ _ => 0) ⟨#[], #[.slice none 0 0, .slice none 0 0, .agg #[.int .i64 0, .int .i64 0, .int .i64 0]], []⟩).memory Tryz.f7.params.toList Rows.arrayRepeatsSpec.vars false (#[.slice none 0 0, .slice none 0 0, .agg #[.int .i64 0, .int .i64 0, .int .i64 0]] : Array Value).toList 8 = some ([.nil, .nil, .agg [.lit (.int .i64 0), .lit (.int .i64 0), .lit (.int .i64 0)]], [], places) :=
  ⟨[], by kernel_rfl⟩

set_option maxRecDepth 100000 in
theorem lifted (os : Os) (started : os.Started) (H : Type) (enc : TypeId × Value → H) (F : Stop.Interp) :
    ReturnsInHanded {} Tryz.checked os 7 .any ((OpenSpec.ofChange Rows.arrayRepeatsSpec).preRow enc Tryz.prog Tryz.f7 Rows.arrayRepeatsRow.domain false Rows.arrayRepeatsRow.laid) (((OpenSpec.ofChange Rows.arrayRepeatsSpec).at F).post enc Tryz.prog Tryz.f7 false true false false) := by
  obtain ⟨places, hx⟩ := reads os enc
  refine returnsInHanded_of_row (C := Tryz.checked) (s := OpenSpec.ofChange Rows.arrayRepeatsSpec) own started (by kernel_rfl) Tryz.func7
    (witness_row_at (enc := enc) (C := Tryz.checked) false (laidWorld os) #[.slice none 0 0, .slice none 0 0, .agg #[.int .i64 0, .int .i64 0, .int .i64 0]] rfl (by kernel_rfl) (by kernel_rfl) (by kernel_rfl)
      (OpenSpec.preRow_of_cond 8 hx (by kernel_rfl) (fun k hk => by cases hk) (by kernel_rfl) (laid_met os))) ?_
  intro W base args ds gs before hval hW _ _ _ hL _ _
  exact contract H enc W base args ds gs before hval hW hL

theorem said : Rows.ArrayRepeatsSaid :=
  OpenClaim.holds_of_cond 7 Tryz.f7 rfl rfl rfl rfl rfl rfl rfl ⟨rfl, rfl, rfl, rfl, rfl⟩ rfl rfl rfl rfl rfl (by kernel_rfl) Tryz.func7 (by kernel_rfl)
    (of_decide_eq_true (by kernel_rfl)) (by unfold Func.isWrapper; first | (rw [if_pos (by decide +kernel)]; kernel_rfl) | (rw [if_neg (by decide +kernel)]; exact ⟨rfl, rfl⟩))
    (fun os started H enc _ F => by rw [OpenClaim.pre_eq_preRow]; exact lifted os started H enc F)

theorem plain (f : FuncId) (fn : Func) (hf : Tryz.pinned.checked.prog.funcNamed "woofer/wooferlaw06.ArrayRepeats" = some f) (hfn : Tryz.pinned.checked.prog.funcs[f]? = some fn) :
    false = Tryz.pinned.checked.prog.looks [] ∧ ∀ (j : Nat) t, fn.params[j]? = some t → Tryz.pinned.checked.prog.wantsStandIn t = false := by
  obtain rfl : f = 7 := Option.some.inj ((show Tryz.prog.funcNamed "woofer/wooferlaw06.ArrayRepeats" = some 7 by kernel_rfl).symm.trans hf) |>.symm
  obtain rfl : fn = Tryz.f7 := (Option.some.inj (Tryz.func7.symm.trans hfn)).symm
  refine ⟨by kernel_rfl, fun j t ht => ?_⟩
  rw [Tryz.params7] at ht
  have hm := Array.mem_of_getElem? ht
  simp only [List.mem_toArray, List.mem_cons, List.not_mem_nil, or_false] at hm
  rcases hm with rfl | rfl | rfl
  · exact (show Tryz.prog.wantsStandIn 22 = false by kernel_rfl)
  · exact (show Tryz.prog.wantsStandIn 22 = false by kernel_rfl)
  · exact (show Tryz.prog.wantsStandIn 92 = false by kernel_rfl)

theorem card : Rows.ArrayRepeatsCardSaid :=
  Claim7.holds_tied_plain_at .later [] _ _ _ _ said (fun _ h => by cases h) (by kernel_rfl) (fun _ h => by cases h) arrayRepeats_row_tie rfl ⟨rfl, rfl⟩ (by kernel_rfl) rfl plain (by kernel_rfl)
end Go.Proofs.YtpdiaiccnaoaiaaGreatDoor.arrayRepeats
