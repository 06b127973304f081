/-
ArrayMoves of the package wooferlaw06 returns true for every input, whatever the world: proved for all arguments, under the conditions that the row and its card name (the package-level tables as laid).
-/
import Derived.Test.YtpdiaiccnaoaiaaGreatDoorMmo2
import Derived.Test.YtpdiaiccnaoaiaaGreatDoorMmo1
import Derived.Test.YtpdiaiccnaoaiaaGreatDoorMb5
import Derived.Test.YtpdiaiccnaoaiaaGreatDoorCards
import Derived.Test.YtpdiaiccnaoaiaaGreatDoorTie
import Derived.WalkKit
import Derived.ProofKit
import Derived.OpenShut
import Derived.Deep.DeepHandedRow
import Derived.Lib.LaidTab
import Derived.MakeChecks
set_option linter.unusedVariables false
set_option linter.unusedSimpArgs false
set_option linter.unusedSectionVars false
/-
The reference's turns.
-/
namespace Go.Proofs.YtpdiaiccnaoaiaaGreatDoor
open Go Go.Abs
def rt2_b (xs : List Sr) (q : Int) (c e : Nat) (u : Use) (jj : Nat) (f : Nat → Value) : List Value := [(sl 8 0 xs.length c), I q, f 2, f 3, f 4, sl 9 0 (jj) (jj), I (jj : Int), f 7, f 8, f 9, f 10, f 11, f 12, f 13, f 14, f 15, f 16, f 17, f 18, f 19, f 20, f 21, f 22, f 23, f 24, f 25, f 26, f 27, f 28, f 29, f 30, f 31, f 32, f 33, f 34, f 35, f 36, f 37, f 38]
def rt2_S (xs : List Sr) (q : Int) (c e : Nat) (u : Use) (jj : Nat) (ls : List Value) : Prop := ∃ f : Nat → Value, ls = rt2_b xs q c e u jj f ∧ JF [12, 24] f
theorem rt2_S.mk {xs : List Sr} {q : Int} {c e : Nat} {u : Use} {jj : Nat} {ls : List Value} (h : ls = rt2_b xs q c e u jj (fun k => ls.getD k (I 0))) (hj : JL [12, 24] 0 ls) : rt2_S xs q c e u jj ls := ⟨_, h, hj.fn⟩
def rt2_bE (xs : List Sr) (q : Int) (c e : Nat) (u : Use) (jj : Nat) (f : Nat → Value) : List Value := [(sl 8 0 xs.length c), I q, f 2, f 3, f 4, sl 9 0 (jj) (jj), f 6, f 7, f 8, f 9, f 10, f 11, f 12, f 13, f 14, f 15, f 16, f 17, f 18, f 19, f 20, f 21, f 22, f 23, f 24, f 25, f 26, f 27, f 28, f 29, f 30, f 31, f 32, f 33, f 34, f 35, f 36, f 37, f 38]
def rt2_SE (xs : List Sr) (q : Int) (c e : Nat) (u : Use) (jj : Nat) (ls : List Value) : Prop := ∃ f : Nat → Value, ls = rt2_bE xs q c e u jj f ∧ JF [12, 24] f
theorem rt2_SE.mk {xs : List Sr} {q : Int} {c e : Nat} {u : Use} {jj : Nat} {ls : List Value} (h : ls = rt2_bE xs q c e u jj (fun k => ls.getD k (I 0))) (hj : JL [12, 24] 0 ls) : rt2_SE xs q c e u jj ls := ⟨_, h, hj.fn⟩
def rt2_bN (xs : List Sr) (q : Int) (c e : Nat) (u : Use) (jj : Nat) (f : Nat → Value) : List Value := [(sl 8 0 xs.length c), I q, f 2, f 3, f 4, .slice none 0 0, I (jj : Int), f 7, f 8, f 9, f 10, f 11, f 12, f 13, f 14, f 15, f 16, f 17, f 18, f 19, f 20, f 21, f 22, f 23, f 24, f 25, f 26, f 27, f 28, f 29, f 30, f 31, f 32, f 33, f 34, f 35, f 36, f 37, f 38]
def rt2_SN (xs : List Sr) (q : Int) (c e : Nat) (u : Use) (jj : Nat) (ls : List Value) : Prop := ∃ f : Nat → Value, ls = rt2_bN xs q c e u jj f ∧ JF [12, 24] f
theorem rt2_SN.mk {xs : List Sr} {q : Int} {c e : Nat} {u : Use} {jj : Nat} {ls : List Value} (h : ls = rt2_bN xs q c e u jj (fun k => ls.getD k (I 0))) (hj : JL [12, 24] 0 ls) : rt2_SN xs q c e u jj ls := ⟨_, h, hj.fn⟩
def rt2_K : List Keep := [.ren, .free, .no, .no, .no, .ren, .free, .no, .no, .no, .no, .no, .free, .no, .no, .no, .no, .no, .no, .no, .no, .no, .no, .no, .free, .no, .no, .no, .no, .no, .no, .no, .no, .no, .no, .no, .no, .no, .no]
theorem rt2_go (xs : List Sr) (q : Int) (c e : Nat) (u : Use) {KK : List It} {v' : Value} {A' : Heap} (hb : xs.length ≤ 1000) (hq : q % 4 = 2) (hend : ∀ ls, rt2_SE xs q c e u xs.length ls → EndsG Tryz.prog 8 Tryz.f51 (n8 [(rS xs e u)]) v' A' (KK) ls ((n8 [(rS xs e u)]) ++ [some (.cells (srs ((xs.take xs.length).map (ruE 2))) 24 .row)])) : ∀ dd jj, jj + dd = xs.length → 1 ≤ jj → ∀ ls, rt2_S xs q c e u jj ls → EndsG Tryz.prog 8 Tryz.f51 (n8 [(rS xs e u)]) v' A' (.code (round 0 (bodyOf 51)) :: .inLoop (round 0 (bodyOf 51)) :: .inBlock 0 :: KK) ls ((n8 [(rS xs e u)]) ++ [some (.cells (srs ((xs.take jj).map (ruE 2))) 24 .row)]) := by
  intro dd
  induction dd with
  | zero =>
    rintro jj hjj h1j ls ⟨f, rfl, hj⟩
    have hjn : jj = xs.length := by omega
    subst hjn
    have hr := rt2C_p0 (f 2) (f 3) (f 4) (f 7) (f 8) (f 9) (f 10) (f 11) (f 12) (f 13) (f 14) (f 15) (f 16) (f 17) (f 18) (f 19) (f 20) (f 21) (f 22) (f 23) (f 24) (f 25) (f 26) (f 27) (f 28) (f 29) (f 30) (f 31) (f 32) (f 33) (f 34) (f 35) (f 36) (f 37) (f 38) ((xs.length)) ((srs ((xs.take xs.length).map (ruE 2)))) ((srs ((xs.take (xs.length + 1)).map (ruE 2)))) (xs.length) (c) ((rS xs e u)) (q) ((xs.length : Int)) (decide_eq_false (by first | omega | (simp; omega)))
    refine EndsG.run (k := [.code (round 0 (bodyOf 51)), .inLoop (round 0 (bodyOf 51)), .inBlock 0]) (kk := KK) prog_ok envC2_ok hr ?_
    exact hend _ (rt2_SE.mk (jj := xs.length) (by kernel_rfl) (.c2 rfl (.f2 hj (.f1 hj (.c2 rfl (.f2 hj (.c4 rfl (.f16 hj (.f8 hj (.f2 hj .nil))))))))))
  | succ dd ih =>
    rintro jj hjj h1j ls ⟨f, rfl, hj⟩
    have hlt : jj < xs.length := by omega
    have hs := srs_tmap (f := ruE 2) (l := xs) (i := jj) (by omega)
    obtain ⟨ti, t1, t2, t3, t4⟩ := info_of i24'
    have hr := rt2A0_p0 (f 2) (f 3) (f 4) (f 7) (f 8) (f 9) (f 10) (f 11) (f 12) (f 13) (f 14) (f 15) (f 16) (f 17) (f 18) (f 19) (f 20) (f 21) (f 22) (f 23) (f 24) (f 25) (f 26) (f 27) (f 28) (f 29) (f 30) (f 31) (f 32) (f 33) (f 34) (f 35) (f 36) (f 37) (f 38) ((jj)) ((srs ((xs.take jj).map (ruE 2)))) ((srs ((xs.take (jj + 1)).map (ruE 2)))) (xs.length) (c) ((rS xs e u)) (q) ((jj : Int)) ((jj * 4)) (((xs.getD jj s0).x)) (((xs.getD jj s0).y)) (((xs.getD jj s0).g)) (((xs.getD jj s0).p)) (ix22 (by omega)) (ld24 rfl (by omega)) ((by rw [hs]; exact app_one (P := Tryz.prog) (lim := 9) (r := 9) (q := 11) (n := (jj)) (c := (jj)) (c' := 1) (A := (n8 [(rS xs e u), (.some (.cells (srs ((xs.take jj).map (ruE 2))) 24 .row)), (.some (.cells [(I (IntKind.i64.wrap (0 - ((xs.getD jj s0).x)))), (I (IntKind.i64.wrap (0 - ((xs.getD jj s0).y)))), (I ((xs.getD jj s0).g)), (I ((xs.getD jj s0).p))] 24 .var)), (.some (.cells [(I (IntKind.i64.wrap (0 - ((xs.getD jj s0).x)))), (I (IntKind.i64.wrap (0 - ((xs.getD jj s0).y)))), (I ((xs.getD jj s0).g)), (I ((xs.getD jj s0).p))] 24 .row))])) u22 t1 t2 t3 t4 rfl rfl rfl rfl (by rw [srs_len]; simp; omega) rfl rfl (by decide) (by omega) (by omega) u22)) (decide_eq_true (by first | omega | (simp; omega))) (by rw [tm4, hq]; rfl) (by rw [tm4, hq]; rfl) (by rw [tm4, hq]; rfl)
    try rw [wrap_succ' (by omega)] at hr
    refine EndsG.round prog_ok envC2_ok hr ?_
    refine EndsG.renumS (X := [_, _, _, _]) (R := [(.some (.cells (srs ((xs.take (jj + 1)).map (ruE 2))) 24 .row))]) (ids := [12]) (m := rt2_K) rfl rfl (by kernel_rfl) (.cons rfl (.plain (by first | rfl | exact srs_atoms _)) .nil) (.ren rfl (.free rfl (.j2 2 hj rfl (.j1 4 hj rfl (.ren rfl (.free rfl (.n4 rfl (.no rfl (.free rfl (.n8 rfl (.n2 rfl (.no rfl (.free rfl (.n8 rfl (.n4 rfl (.no rfl (.j1 38 hj rfl .nil))))))))))))))))) ?_
    exact ih (jj + 1) (by omega) (by omega) _ (rt2_S.mk (jj := (jj + 1)) (by kernel_rfl) (.c16 rfl (.c16 rfl (.c4 rfl (.c2 rfl (.c1 rfl .nil))))))
theorem rt2_first (xs : List Sr) (q : Int) (c e : Nat) (u : Use) {KK : List It} {v' : Value} {A' : Heap} (hb : xs.length ≤ 1000) (hq : q % 4 = 2) (hn : 1 ≤ xs.length) (hend : ∀ ls, rt2_SE xs q c e u xs.length ls → EndsG Tryz.prog 8 Tryz.f51 (n8 [(rS xs e u)]) v' A' (KK) ls ((n8 [(rS xs e u)]) ++ [some (.cells (srs ((xs.take xs.length).map (ruE 2))) 24 .row)])) : ∀ ls, rt2_SN xs q c e u 0 ls → EndsG Tryz.prog 8 Tryz.f51 (n8 [(rS xs e u)]) v' A' (.code (round 0 (bodyOf 51)) :: .inLoop (round 0 (bodyOf 51)) :: .inBlock 0 :: KK) ls ((n8 [(rS xs e u)]) ++ []) := by
  rintro ls ⟨f, rfl, hj⟩
  have hr := rt2nA0_p0 (f 2) (f 3) (f 4) (f 7) (f 8) (f 9) (f 10) (f 11) (f 12) (f 13) (f 14) (f 15) (f 16) (f 17) (f 18) (f 19) (f 20) (f 21) (f 22) (f 23) (f 24) (f 25) (f 26) (f 27) (f 28) (f 29) (f 30) (f 31) (f 32) (f 33) (f 34) (f 35) (f 36) (f 37) (f 38) (xs.length) (c) ((rS xs e u)) (q) (((0 : Nat) : Int)) ((0 * 4)) (((xs.getD 0 s0).x)) (((xs.getD 0 s0).y)) (((xs.getD 0 s0).g)) (((xs.getD 0 s0).p)) (ix22 (by omega)) (ld24 rfl (by omega)) (decide_eq_true (by first | omega | (simp; omega))) (by rw [tm4, hq]; rfl) (by rw [tm4, hq]; rfl) (by rw [tm4, hq]; rfl)
  try rw [wrap_succ' (by omega)] at hr
  refine EndsG.round prog_ok envC2_ok hr ?_
  refine EndsG.renumS (X := [_, _, _]) (R := [(.some (.cells [(I (IntKind.i64.wrap (0 - ((xs.getD 0 s0).x)))), (I (IntKind.i64.wrap (0 - ((xs.getD 0 s0).y)))), (I ((xs.getD 0 s0).g)), (I ((xs.getD 0 s0).p))] 24 .row))]) (ids := [11]) (m := rt2_K) rfl rfl (by kernel_rfl) (.cons rfl (.plain (by first | rfl | exact srs_atoms _)) .nil) (.ren rfl (.free rfl (.j2 2 hj rfl (.j1 4 hj rfl (.ren rfl (.free rfl (.n4 rfl (.no rfl (.free rfl (.n8 rfl (.n2 rfl (.no rfl (.free rfl (.n8 rfl (.n4 rfl (.no rfl (.j1 38 hj rfl .nil))))))))))))))))) ?_
  refine EndsG.rows (R' := [some (.cells (srs ((xs.take 1).map (ruE 2))) 24 .row)]) (by rw [show (1 : Nat) = 0 + 1 from rfl, srs_tmap (f := ruE 2) (l := xs) (i := 0) (by omega)]; rfl) ?_
  exact rt2_go xs q c e u (KK := KK) (v' := v') (A' := A') hb hq hend (xs.length - 1) 1 (by omega) (by omega) _ (rt2_S.mk (jj := 1) (by kernel_rfl) (.c16 rfl (.c16 rfl (.c4 rfl (.c2 rfl (.c1 rfl .nil))))))
theorem rt2_end (xs : List Sr) (q : Int) (c e : Nat) (u : Use) (hb : xs.length ≤ 1000) (hq : q % 4 = 2) : ∀ ls, rt2_SE xs q c e u xs.length ls → EndsG Tryz.prog 8 Tryz.f51 (n8 [(rS xs e u)]) (sl 9 0 xs.length xs.length) ((n8 [(rS xs e u)]) ++ [rS (xs.map (ruE 2)) 24 .row]) ([.code (codeR (codeR (codeR (bodyOf 51))))]) ls ((n8 [(rS xs e u)]) ++ [some (.cells (srs ((xs.take xs.length).map (ruE 2))) 24 .row)]) := by
  rintro ls ⟨f, rfl, hj⟩
  have hr := rt2Z_p0 (f 2) (f 3) (f 4) (f 6) (f 7) (f 8) (f 9) (f 10) (f 11) (f 12) (f 13) (f 14) (f 15) (f 16) (f 17) (f 18) (f 19) (f 20) (f 21) (f 22) (f 23) (f 24) (f 25) (f 26) (f 27) (f 28) (f 29) (f 30) (f 31) (f 32) (f 33) (f 34) (f 35) (f 36) (f 37) (f 38) (xs.length) (c) ((rS xs e u)) (q) ((xs.length)) ((srs ((xs.take xs.length).map (ruE 2))))
  exact EndsG.ret (X := [_]) (v := (sl 9 0 (xs.length) (xs.length))) prog_ok envC2_ok hr rfl (by kernel_rfl) (by rw [List.take_length]; exact gc_of (ids := [9]) rfl rfl (keptS rfl) rfl)
theorem rt2_says (xs : List Sr) (q : Int) (c e : Nat) (u : Use) (hb : xs.length ≤ 1000) (hq : q % 4 = 2) (hn : 1 ≤ xs.length) : SaysAt Tryz.prog 8 51 [sl 8 0 xs.length c, I q] (n8 [(rS xs e u)]) (sl 9 0 xs.length xs.length) ((n8 [(rS xs e u)]) ++ [rS (xs.map (ruE 2)) 24 .row]) := by
  refine EndsG.says prog_ok Tryz.func51 (c := bodyOf 51) (by kernel_rfl) (by kernel_rfl) ?_
  refine EndsG.seqO (by kernel_rfl) ?_
  refine EndsG.run (k := [.code (codeL (bodyOf 51))]) prog_ok envC2_ok (rt2q0_p0 (xs.length) (c) ((rS xs e u)) (q)) ?_
  refine EndsG.seqO (by kernel_rfl) ?_
  refine EndsG.run (k := [.code (codeL (codeR (bodyOf 51)))]) prog_ok envC2_ok (rt2q1_p0 (xs.length) (c) ((rS xs e u)) (q)) ?_
  refine EndsG.seqO (by kernel_rfl) ?_
  refine EndsG.seqO (by kernel_rfl) ?_
  refine EndsG.run (k := [.code (codeL (codeL (codeR (codeR (bodyOf 51)))))]) prog_ok envC2_ok (rt2q2_p0 (xs.length) (c) ((rS xs e u)) (q)) ?_
  refine EndsG.blockLoop (B := (round 0 (bodyOf 51))) (id := 0) (by kernel_rfl) ?_
  exact rt2_first xs q c e u hb hq hn (rt2_end xs q c e u hb hq ) _ (rt2_SN.mk (jj := 0) (by kernel_rfl) (.c16 rfl (.c16 rfl (.c4 rfl (.c2 rfl (.c1 rfl .nil))))))
/-
The reference's turns: pieces.
-/
theorem rt3q0_p0  (n c : Nat) (r8 : Option ARow) (q : Int) : Runs Tryz.prog envC2 9 [.code (codeL (bodyOf 51))] [sl 8 0 n c, I q, U, U, U, U, U, U, U, U, U, U, U, U, U, U, U, U, U, U, U, U, U, U, U, U, U, U, U, U, U, U, U, U, U, U, U, U, U] (n8 [r8]) ([(sl 8 0 n c), I q, U, U, (.slice .none 0 0), U, U, U, U, U, U, U, U, U, U, U, U, U, U, U, U, U, U, U, U, U, U, U, U, U, U, U, U, U, U, U, U, U, U], (n8 [r8]), none) :=
  Runs.by (n := 1000) (fid := 51) (os := []) (os' := []) (by kernel_rfl) (ObsOK.nil)
theorem rt3q1_p0  (n c : Nat) (r8 : Option ARow) (q : Int) : Runs Tryz.prog envC2 9 [.code (codeL (codeR (bodyOf 51)))] [(sl 8 0 n c), I q, U, U, (.slice .none 0 0), U, U, U, U, U, U, U, U, U, U, U, U, U, U, U, U, U, U, U, U, U, U, U, U, U, U, U, U, U, U, U, U, U, U] (n8 [r8]) ([(sl 8 0 n c), I q, U, U, (.slice .none 0 0), (.slice .none 0 0), U, U, U, U, U, U, U, U, U, U, U, U, U, U, U, U, U, U, U, U, U, U, U, U, U, U, U, U, U, U, U, U, U], (n8 [r8]), none) :=
  Runs.by (n := 1000) (fid := 51) (os := []) (os' := []) (by kernel_rfl) (ObsOK.nil)
theorem rt3q2_p0  (n c : Nat) (r8 : Option ARow) (q : Int) : Runs Tryz.prog envC2 9 [.code (codeL (codeL (codeR (codeR (bodyOf 51)))))] [(sl 8 0 n c), I q, U, U, (.slice .none 0 0), (.slice .none 0 0), U, U, U, U, U, U, U, U, U, U, U, U, U, U, U, U, U, U, U, U, U, U, U, U, U, U, U, U, U, U, U, U, U] (n8 [r8]) ([(sl 8 0 n c), I q, U, U, (.slice .none 0 0), (.slice .none 0 0), (I 0), U, U, U, U, U, U, U, U, U, U, U, U, U, U, U, U, U, U, U, U, U, U, U, U, U, U, U, U, U, U, U, U], (n8 [r8]), none) :=
  Runs.by (n := 1000) (fid := 51) (os := []) (os' := []) (by kernel_rfl) (ObsOK.nil)
theorem rt3A0_p0 (v2 v3 v4 v7 v8 v9 v10 v11 v12 v13 v14 v15 v16 v17 v18 v19 v20 v21 v22 v23 v24 v25 v26 v27 v28 v29 v30 v31 v32 v33 v34 v35 v36 v37 v38 : Value) (mm : Nat) (cs cs2 : List Value) (n c : Nat) (r8 : Option ARow) (q i : Int) (k8 : Nat) (z8x z8y z8g z8p : Int) (hx8 : aIndexAddr Tryz.prog 22 (sl 8 0 n c) (I i) = some (pt 8 k8)) (hl8 : aLoad Tryz.prog 24 (pt 8 k8) (n8 [r8, some (.cells cs 24 .row)]) = some (.agg #[I z8x, I z8y, I z8g, I z8p])) (ha : aAppend Tryz.prog 9 #[22, 22] (sl 9 0 mm mm) (sl 11 0 1 1) (n8 [r8, (.some (.cells cs 24 .row)), (.some (.cells [(I (IntKind.i64.wrap (0 - IntKind.i64.wrap (0 - z8y)))), (I (IntKind.i64.wrap (0 - z8x))), I z8g, I z8p] 24 .var)), (.some (.cells [(I (IntKind.i64.wrap (0 - IntKind.i64.wrap (0 - z8y)))), (I (IntKind.i64.wrap (0 - z8x))), I z8g, I z8p] 24 .row))]) = some (sl 12 0 (mm + 1) (mm + 1), (n8 [r8, none, (.some (.cells [(I (IntKind.i64.wrap (0 - IntKind.i64.wrap (0 - z8y)))), (I (IntKind.i64.wrap (0 - z8x))), I z8g, I z8p] 24 .var)), (.some (.cells [(I (IntKind.i64.wrap (0 - IntKind.i64.wrap (0 - z8y)))), (I (IntKind.i64.wrap (0 - z8x))), I z8g, I z8p] 24 .row)), some (.cells cs2 24 .row)]))) (f1 : decide (i < (n : Int)) = true) (a0 : decide (0 < ((IntKind.i64.wrap (q.tmod 4 + 4)).tmod 4)) = true) (a1 : decide (1 < ((IntKind.i64.wrap (q.tmod 4 + 4)).tmod 4)) = true) (a2 : decide (2 < ((IntKind.i64.wrap (q.tmod 4 + 4)).tmod 4)) = true) (a3 : decide (3 < ((IntKind.i64.wrap (q.tmod 4 + 4)).tmod 4)) = false) : Runs Tryz.prog envC2 9 [.code (round 0 (bodyOf 51))] [(sl 8 0 n c), I q, v2, v3, v4, sl 9 0 mm mm, I i, v7, v8, v9, v10, v11, v12, v13, v14, v15, v16, v17, v18, v19, v20, v21, v22, v23, v24, v25, v26, v27, v28, v29, v30, v31, v32, v33, v34, v35, v36, v37, v38] (n8 [r8, some (.cells cs 24 .row)]) ([(sl 8 0 n c), I q, v2, v3, v4, (sl 12 0 (mm + 1) (mm + 1)), (I (IntKind.i64.wrap (i + 1))), (pt 10 0), (I 3), I i, (sl 8 0 n c), (I ((n : Int))), (.bool (decide (i < (n : Int)))), I i, (I (IntKind.i64.wrap (i + 1))), (sl 8 0 n c), I i, (pt 8 k8), (.agg #[I z8x, I z8y, I z8g, I z8p]), (I 3), I q, (I (q.tmod 4)), (I (IntKind.i64.wrap (q.tmod 4 + 4))), (I ((IntKind.i64.wrap (q.tmod 4 + 4)).tmod 4)), (.bool (decide (3 < (IntKind.i64.wrap (q.tmod 4 + 4)).tmod 4))), (I 2), (I 3), (pt 10 1), (I (IntKind.i64.wrap (0 - z8y))), (I (IntKind.i64.wrap (0 - IntKind.i64.wrap (0 - z8y)))), (pt 10 0), (I (IntKind.i64.wrap (0 - z8x))), (pt 10 0), (pt 10 1), (sl 9 0 mm mm), (.agg #[(I (IntKind.i64.wrap (0 - IntKind.i64.wrap (0 - z8y)))), (I (IntKind.i64.wrap (0 - z8x))), I z8g, I z8p]), (sl 11 0 1 1), (sl 12 0 (mm + 1) (mm + 1)), v38], (n8 [r8, .none, (.some (.cells [(I (IntKind.i64.wrap (0 - IntKind.i64.wrap (0 - z8y)))), (I (IntKind.i64.wrap (0 - z8x))), I z8g, I z8p] 24 .var)), (.some (.cells [(I (IntKind.i64.wrap (0 - IntKind.i64.wrap (0 - z8y)))), (I (IntKind.i64.wrap (0 - z8x))), I z8g, I z8p] 24 .row)), (.some (.cells cs2 24 .row))]), none) :=
  Runs.by (n := 1000) (fid := 51) (os := [.br 51 26 true, .op 51 18 (pt 8 k8), .op 51 19 (.agg #[I z8x, I z8y, I z8g, I z8p]), .br 51 50 true, .br 51 50 true, .br 51 50 true, .br 51 50 false, .opw 51 38 (sl 12 0 (mm + 1) (mm + 1)) (n8 [r8, .none, (.some (.cells [(I (IntKind.i64.wrap (0 - IntKind.i64.wrap (0 - z8y)))), (I (IntKind.i64.wrap (0 - z8x))), I z8g, I z8p] 24 .var)), (.some (.cells [(I (IntKind.i64.wrap (0 - IntKind.i64.wrap (0 - z8y)))), (I (IntKind.i64.wrap (0 - z8x))), I z8g, I z8p] 24 .row)), (.some (.cells cs2 24 .row))])]) (os' := []) (by kernel_rfl) (ObsOK.cond f1 (ObsOK.val hx8 (ObsOK.val hl8 (ObsOK.cond a0 (ObsOK.cond a1 (ObsOK.cond a2 (ObsOK.cond a3 (ObsOK.both ha (ObsOK.nil)))))))))
theorem rt3C_p0 (v2 v3 v4 v7 v8 v9 v10 v11 v12 v13 v14 v15 v16 v17 v18 v19 v20 v21 v22 v23 v24 v25 v26 v27 v28 v29 v30 v31 v32 v33 v34 v35 v36 v37 v38 : Value) (mm : Nat) (cs cs2 : List Value) (n c : Nat) (r8 : Option ARow) (q i : Int) (f1 : decide (i < (n : Int)) = false) : Runs Tryz.prog envC2 9 [.code (round 0 (bodyOf 51)), .inLoop (round 0 (bodyOf 51)), .inBlock 0] [(sl 8 0 n c), I q, v2, v3, v4, sl 9 0 mm mm, I i, v7, v8, v9, v10, v11, v12, v13, v14, v15, v16, v17, v18, v19, v20, v21, v22, v23, v24, v25, v26, v27, v28, v29, v30, v31, v32, v33, v34, v35, v36, v37, v38] (n8 [r8, some (.cells cs 24 .row)]) ([(sl 8 0 n c), I q, v2, v3, v4, (sl 9 0 mm mm), I i, v7, v8, I i, (sl 8 0 n c), (I ((n : Int))), (.bool (decide (i < (n : Int)))), v13, v14, v15, v16, v17, v18, v19, v20, v21, v22, v23, v24, v25, v26, v27, v28, v29, v30, v31, v32, v33, v34, v35, v36, v37, v38], (n8 [r8, (.some (.cells cs 24 .row))]), none) :=
  Runs.by (n := 1000) (fid := 51) (os := [.br 51 26 false]) (os' := []) (by kernel_rfl) (ObsOK.cond f1 (ObsOK.nil))
theorem rt3nA0_p0 (v2 v3 v4 v7 v8 v9 v10 v11 v12 v13 v14 v15 v16 v17 v18 v19 v20 v21 v22 v23 v24 v25 v26 v27 v28 v29 v30 v31 v32 v33 v34 v35 v36 v37 v38 : Value) (n c : Nat) (r8 : Option ARow) (q i : Int) (k8 : Nat) (z8x z8y z8g z8p : Int) (hx8 : aIndexAddr Tryz.prog 22 (sl 8 0 n c) (I i) = some (pt 8 k8)) (hl8 : aLoad Tryz.prog 24 (pt 8 k8) (n8 [r8]) = some (.agg #[I z8x, I z8y, I z8g, I z8p])) (f1 : decide (i < (n : Int)) = true) (a0 : decide (0 < ((IntKind.i64.wrap (q.tmod 4 + 4)).tmod 4)) = true) (a1 : decide (1 < ((IntKind.i64.wrap (q.tmod 4 + 4)).tmod 4)) = true) (a2 : decide (2 < ((IntKind.i64.wrap (q.tmod 4 + 4)).tmod 4)) = true) (a3 : decide (3 < ((IntKind.i64.wrap (q.tmod 4 + 4)).tmod 4)) = false) : Runs Tryz.prog envC2 9 [.code (round 0 (bodyOf 51))] [(sl 8 0 n c), I q, v2, v3, v4, .slice none 0 0, I i, v7, v8, v9, v10, v11, v12, v13, v14, v15, v16, v17, v18, v19, v20, v21, v22, v23, v24, v25, v26, v27, v28, v29, v30, v31, v32, v33, v34, v35, v36, v37, v38] (n8 [r8]) ([(sl 8 0 n c), I q, v2, v3, v4, (sl 11 0 1 1), (I (IntKind.i64.wrap (i + 1))), (pt 9 0), (I 3), I i, (sl 8 0 n c), (I ((n : Int))), (.bool (decide (i < (n : Int)))), I i, (I (IntKind.i64.wrap (i + 1))), (sl 8 0 n c), I i, (pt 8 k8), (.agg #[I z8x, I z8y, I z8g, I z8p]), (I 3), I q, (I (q.tmod 4)), (I (IntKind.i64.wrap (q.tmod 4 + 4))), (I ((IntKind.i64.wrap (q.tmod 4 + 4)).tmod 4)), (.bool (decide (3 < (IntKind.i64.wrap (q.tmod 4 + 4)).tmod 4))), (I 2), (I 3), (pt 9 1), (I (IntKind.i64.wrap (0 - z8y))), (I (IntKind.i64.wrap (0 - IntKind.i64.wrap (0 - z8y)))), (pt 9 0), (I (IntKind.i64.wrap (0 - z8x))), (pt 9 0), (pt 9 1), (.slice .none 0 0), (.agg #[(I (IntKind.i64.wrap (0 - IntKind.i64.wrap (0 - z8y)))), (I (IntKind.i64.wrap (0 - z8x))), I z8g, I z8p]), (sl 10 0 1 1), (sl 11 0 1 1), v38], (n8 [r8, (.some (.cells [(I (IntKind.i64.wrap (0 - IntKind.i64.wrap (0 - z8y)))), (I (IntKind.i64.wrap (0 - z8x))), I z8g, I z8p] 24 .var)), (.some (.cells [(I (IntKind.i64.wrap (0 - IntKind.i64.wrap (0 - z8y)))), (I (IntKind.i64.wrap (0 - z8x))), I z8g, I z8p] 24 .row)), (.some (.cells [(I (IntKind.i64.wrap (0 - IntKind.i64.wrap (0 - z8y)))), (I (IntKind.i64.wrap (0 - z8x))), I z8g, I z8p] 24 .row))]), none) :=
  Runs.by (n := 1000) (fid := 51) (os := [.br 51 26 true, .op 51 18 (pt 8 k8), .op 51 19 (.agg #[I z8x, I z8y, I z8g, I z8p]), .br 51 50 true, .br 51 50 true, .br 51 50 true, .br 51 50 false]) (os' := []) (by kernel_rfl) (ObsOK.cond f1 (ObsOK.val hx8 (ObsOK.val hl8 (ObsOK.cond a0 (ObsOK.cond a1 (ObsOK.cond a2 (ObsOK.cond a3 (ObsOK.nil))))))))
theorem rt3Z_p0 (v2 v3 v4 v6 v7 v8 v9 v10 v11 v12 v13 v14 v15 v16 v17 v18 v19 v20 v21 v22 v23 v24 v25 v26 v27 v28 v29 v30 v31 v32 v33 v34 v35 v36 v37 v38 : Value) (n c : Nat) (r8 : Option ARow) (q : Int) (mm : Nat) (cs : List Value) : Runs Tryz.prog envC2 9 [.code (codeR (codeR (codeR (bodyOf 51))))] [(sl 8 0 n c), I q, v2, v3, v4, sl 9 0 mm mm, v6, v7, v8, v9, v10, v11, v12, v13, v14, v15, v16, v17, v18, v19, v20, v21, v22, v23, v24, v25, v26, v27, v28, v29, v30, v31, v32, v33, v34, v35, v36, v37, v38] (n8 [r8, some (.cells cs 24 .row)]) ([(sl 8 0 n c), I q, v2, v3, (sl 9 0 mm mm), (sl 9 0 mm mm), v6, v7, v8, v9, v10, v11, v12, v13, v14, v15, v16, v17, v18, v19, v20, v21, v22, v23, v24, v25, v26, v27, v28, v29, v30, v31, v32, v33, v34, v35, v36, v37, (sl 9 0 mm mm)], (n8 [r8, (.some (.cells cs 24 .row))]), some .ret) :=
  Runs.by (n := 1000) (fid := 51) (os := []) (os' := []) (by kernel_rfl) (ObsOK.nil)
/-
The reference's turns.
-/
def rt3_b (xs : List Sr) (q : Int) (c e : Nat) (u : Use) (jj : Nat) (f : Nat → Value) : List Value := [(sl 8 0 xs.length c), I q, f 2, f 3, f 4, sl 9 0 (jj) (jj), I (jj : Int), f 7, f 8, f 9, f 10, f 11, f 12, f 13, f 14, f 15, f 16, f 17, f 18, f 19, f 20, f 21, f 22, f 23, f 24, f 25, f 26, f 27, f 28, f 29, f 30, f 31, f 32, f 33, f 34, f 35, f 36, f 37, f 38]
def rt3_S (xs : List Sr) (q : Int) (c e : Nat) (u : Use) (jj : Nat) (ls : List Value) : Prop := ∃ f : Nat → Value, ls = rt3_b xs q c e u jj f ∧ JF [12, 24] f
theorem rt3_S.mk {xs : List Sr} {q : Int} {c e : Nat} {u : Use} {jj : Nat} {ls : List Value} (h : ls = rt3_b xs q c e u jj (fun k => ls.getD k (I 0))) (hj : JL [12, 24] 0 ls) : rt3_S xs q c e u jj ls := ⟨_, h, hj.fn⟩
def rt3_bE (xs : List Sr) (q : Int) (c e : Nat) (u : Use) (jj : Nat) (f : Nat → Value) : List Value := [(sl 8 0 xs.length c), I q, f 2, f 3, f 4, sl 9 0 (jj) (jj), f 6, f 7, f 8, f 9, f 10, f 11, f 12, f 13, f 14, f 15, f 16, f 17, f 18, f 19, f 20, f 21, f 22, f 23, f 24, f 25, f 26, f 27, f 28, f 29, f 30, f 31, f 32, f 33, f 34, f 35, f 36, f 37, f 38]
def rt3_SE (xs : List Sr) (q : Int) (c e : Nat) (u : Use) (jj : Nat) (ls : List Value) : Prop := ∃ f : Nat → Value, ls = rt3_bE xs q c e u jj f ∧ JF [12, 24] f
theorem rt3_SE.mk {xs : List Sr} {q : Int} {c e : Nat} {u : Use} {jj : Nat} {ls : List Value} (h : ls = rt3_bE xs q c e u jj (fun k => ls.getD k (I 0))) (hj : JL [12, 24] 0 ls) : rt3_SE xs q c e u jj ls := ⟨_, h, hj.fn⟩
def rt3_bN (xs : List Sr) (q : Int) (c e : Nat) (u : Use) (jj : Nat) (f : Nat → Value) : List Value := [(sl 8 0 xs.length c), I q, f 2, f 3, f 4, .slice none 0 0, I (jj : Int), f 7, f 8, f 9, f 10, f 11, f 12, f 13, f 14, f 15, f 16, f 17, f 18, f 19, f 20, f 21, f 22, f 23, f 24, f 25, f 26, f 27, f 28, f 29, f 30, f 31, f 32, f 33, f 34, f 35, f 36, f 37, f 38]
def rt3_SN (xs : List Sr) (q : Int) (c e : Nat) (u : Use) (jj : Nat) (ls : List Value) : Prop := ∃ f : Nat → Value, ls = rt3_bN xs q c e u jj f ∧ JF [12, 24] f
theorem rt3_SN.mk {xs : List Sr} {q : Int} {c e : Nat} {u : Use} {jj : Nat} {ls : List Value} (h : ls = rt3_bN xs q c e u jj (fun k => ls.getD k (I 0))) (hj : JL [12, 24] 0 ls) : rt3_SN xs q c e u jj ls := ⟨_, h, hj.fn⟩
def rt3_K : List Keep := [.ren, .free, .no, .no, .no, .ren, .free, .no, .no, .no, .no, .no, .free, .no, .no, .no, .no, .no, .no, .no, .no, .no, .no, .no, .free, .no, .no, .no, .no, .no, .no, .no, .no, .no, .no, .no, .no, .no, .no]
theorem rt3_go (xs : List Sr) (q : Int) (c e : Nat) (u : Use) {KK : List It} {v' : Value} {A' : Heap} (hb : xs.length ≤ 1000) (hq : q % 4 = 3) (hend : ∀ ls, rt3_SE xs q c e u xs.length ls → EndsG Tryz.prog 8 Tryz.f51 (n8 [(rS xs e u)]) v' A' (KK) ls ((n8 [(rS xs e u)]) ++ [some (.cells (srs ((xs.take xs.length).map (ruE 3))) 24 .row)])) : ∀ dd jj, jj + dd = xs.length → 1 ≤ jj → ∀ ls, rt3_S xs q c e u jj ls → EndsG Tryz.prog 8 Tryz.f51 (n8 [(rS xs e u)]) v' A' (.code (round 0 (bodyOf 51)) :: .inLoop (round 0 (bodyOf 51)) :: .inBlock 0 :: KK) ls ((n8 [(rS xs e u)]) ++ [some (.cells (srs ((xs.take jj).map (ruE 3))) 24 .row)]) := by
  intro dd
  induction dd with
  | zero =>
    rintro jj hjj h1j ls ⟨f, rfl, hj⟩
    have hjn : jj = xs.length := by omega
    subst hjn
    have hr := rt3C_p0 (f 2) (f 3) (f 4) (f 7) (f 8) (f 9) (f 10) (f 11) (f 12) (f 13) (f 14) (f 15) (f 16) (f 17) (f 18) (f 19) (f 20) (f 21) (f 22) (f 23) (f 24) (f 25) (f 26) (f 27) (f 28) (f 29) (f 30) (f 31) (f 32) (f 33) (f 34) (f 35) (f 36) (f 37) (f 38) ((xs.length)) ((srs ((xs.take xs.length).map (ruE 3)))) ((srs ((xs.take (xs.length + 1)).map (ruE 3)))) (xs.length) (c) ((rS xs e u)) (q) ((xs.length : Int)) (decide_eq_false (by first | omega | (simp; omega)))
    refine EndsG.run (k := [.code (round 0 (bodyOf 51)), .inLoop (round 0 (bodyOf 51)), .inBlock 0]) (kk := KK) prog_ok envC2_ok hr ?_
    exact hend _ (rt3_SE.mk (jj := xs.length) (by kernel_rfl) (.c2 rfl (.f2 hj (.f1 hj (.c2 rfl (.f2 hj (.c4 rfl (.f16 hj (.f8 hj (.f2 hj .nil))))))))))
  | succ dd ih =>
    rintro jj hjj h1j ls ⟨f, rfl, hj⟩
    have hlt : jj < xs.length := by omega
    have hs := srs_tmap (f := ruE 3) (l := xs) (i := jj) (by omega)
    obtain ⟨ti, t1, t2, t3, t4⟩ := info_of i24'
    have hr := rt3A0_p0 (f 2) (f 3) (f 4) (f 7) (f 8) (f 9) (f 10) (f 11) (f 12) (f 13) (f 14) (f 15) (f 16) (f 17) (f 18) (f 19) (f 20) (f 21) (f 22) (f 23) (f 24) (f 25) (f 26) (f 27) (f 28) (f 29) (f 30) (f 31) (f 32) (f 33) (f 34) (f 35) (f 36) (f 37) (f 38) ((jj)) ((srs ((xs.take jj).map (ruE 3)))) ((srs ((xs.take (jj + 1)).map (ruE 3)))) (xs.length) (c) ((rS xs e u)) (q) ((jj : Int)) ((jj * 4)) (((xs.getD jj s0).x)) (((xs.getD jj s0).y)) (((xs.getD jj s0).g)) (((xs.getD jj s0).p)) (ix22 (by omega)) (ld24 rfl (by omega)) ((by rw [hs]; exact app_one (P := Tryz.prog) (lim := 9) (r := 9) (q := 11) (n := (jj)) (c := (jj)) (c' := 1) (A := (n8 [(rS xs e u), (.some (.cells (srs ((xs.take jj).map (ruE 3))) 24 .row)), (.some (.cells [(I (IntKind.i64.wrap (0 - IntKind.i64.wrap (0 - ((xs.getD jj s0).y))))), (I (IntKind.i64.wrap (0 - ((xs.getD jj s0).x)))), (I ((xs.getD jj s0).g)), (I ((xs.getD jj s0).p))] 24 .var)), (.some (.cells [(I (IntKind.i64.wrap (0 - IntKind.i64.wrap (0 - ((xs.getD jj s0).y))))), (I (IntKind.i64.wrap (0 - ((xs.getD jj s0).x)))), (I ((xs.getD jj s0).g)), (I ((xs.getD jj s0).p))] 24 .row))])) u22 t1 t2 t3 t4 rfl rfl rfl rfl (by rw [srs_len]; simp; omega) rfl rfl (by decide) (by omega) (by omega) u22)) (decide_eq_true (by first | omega | (simp; omega))) (by rw [tm4, hq]; rfl) (by rw [tm4, hq]; rfl) (by rw [tm4, hq]; rfl) (by rw [tm4, hq]; rfl)
    try rw [wrap_succ' (by omega)] at hr
    refine EndsG.round prog_ok envC2_ok hr ?_
    refine EndsG.renumS (X := [_, _, _, _]) (R := [(.some (.cells (srs ((xs.take (jj + 1)).map (ruE 3))) 24 .row))]) (ids := [12]) (m := rt3_K) rfl rfl (by kernel_rfl) (.cons rfl (.plain (by first | rfl | exact srs_atoms _)) .nil) (.ren rfl (.free rfl (.j2 2 hj rfl (.j1 4 hj rfl (.ren rfl (.free rfl (.n4 rfl (.no rfl (.free rfl (.n8 rfl (.n2 rfl (.no rfl (.free rfl (.n8 rfl (.n4 rfl (.no rfl (.j1 38 hj rfl .nil))))))))))))))))) ?_
    exact ih (jj + 1) (by omega) (by omega) _ (rt3_S.mk (jj := (jj + 1)) (by kernel_rfl) (.c16 rfl (.c16 rfl (.c4 rfl (.c2 rfl (.c1 rfl .nil))))))
theorem rt3_first (xs : List Sr) (q : Int) (c e : Nat) (u : Use) {KK : List It} {v' : Value} {A' : Heap} (hb : xs.length ≤ 1000) (hq : q % 4 = 3) (hn : 1 ≤ xs.length) (hend : ∀ ls, rt3_SE xs q c e u xs.length ls → EndsG Tryz.prog 8 Tryz.f51 (n8 [(rS xs e u)]) v' A' (KK) ls ((n8 [(rS xs e u)]) ++ [some (.cells (srs ((xs.take xs.length).map (ruE 3))) 24 .row)])) : ∀ ls, rt3_SN xs q c e u 0 ls → EndsG Tryz.prog 8 Tryz.f51 (n8 [(rS xs e u)]) v' A' (.code (round 0 (bodyOf 51)) :: .inLoop (round 0 (bodyOf 51)) :: .inBlock 0 :: KK) ls ((n8 [(rS xs e u)]) ++ []) := by
  rintro ls ⟨f, rfl, hj⟩
  have hr := rt3nA0_p0 (f 2) (f 3) (f 4) (f 7) (f 8) (f 9) (f 10) (f 11) (f 12) (f 13) (f 14) (f 15) (f 16) (f 17) (f 18) (f 19) (f 20) (f 21) (f 22) (f 23) (f 24) (f 25) (f 26) (f 27) (f 28) (f 29) (f 30) (f 31) (f 32) (f 33) (f 34) (f 35) (f 36) (f 37) (f 38) (xs.length) (c) ((rS xs e u)) (q) (((0 : Nat) : Int)) ((0 * 4)) (((xs.getD 0 s0).x)) (((xs.getD 0 s0).y)) (((xs.getD 0 s0).g)) (((xs.getD 0 s0).p)) (ix22 (by omega)) (ld24 rfl (by omega)) (decide_eq_true (by first | omega | (simp; omega))) (by rw [tm4, hq]; rfl) (by rw [tm4, hq]; rfl) (by rw [tm4, hq]; rfl) (by rw [tm4, hq]; rfl)
  try rw [wrap_succ' (by omega)] at hr
  refine EndsG.round prog_ok envC2_ok hr ?_
  refine EndsG.renumS (X := [_, _, _]) (R := [(.some (.cells [(I (IntKind.i64.wrap (0 - IntKind.i64.wrap (0 - ((xs.getD 0 s0).y))))), (I (IntKind.i64.wrap (0 - ((xs.getD 0 s0).x)))), (I ((xs.getD 0 s0).g)), (I ((xs.getD 0 s0).p))] 24 .row))]) (ids := [11]) (m := rt3_K) rfl rfl (by kernel_rfl) (.cons rfl (.plain (by first | rfl | exact srs_atoms _)) .nil) (.ren rfl (.free rfl (.j2 2 hj rfl (.j1 4 hj rfl (.ren rfl (.free rfl (.n4 rfl (.no rfl (.free rfl (.n8 rfl (.n2 rfl (.no rfl (.free rfl (.n8 rfl (.n4 rfl (.no rfl (.j1 38 hj rfl .nil))))))))))))))))) ?_
  refine EndsG.rows (R' := [some (.cells (srs ((xs.take 1).map (ruE 3))) 24 .row)]) (by rw [show (1 : Nat) = 0 + 1 from rfl, srs_tmap (f := ruE 3) (l := xs) (i := 0) (by omega)]; rfl) ?_
  exact rt3_go xs q c e u (KK := KK) (v' := v') (A' := A') hb hq hend (xs.length - 1) 1 (by omega) (by omega) _ (rt3_S.mk (jj := 1) (by kernel_rfl) (.c16 rfl (.c16 rfl (.c4 rfl (.c2 rfl (.c1 rfl .nil))))))
theorem rt3_end (xs : List Sr) (q : Int) (c e : Nat) (u : Use) (hb : xs.length ≤ 1000) (hq : q % 4 = 3) : ∀ ls, rt3_SE xs q c e u xs.length ls → EndsG Tryz.prog 8 Tryz.f51 (n8 [(rS xs e u)]) (sl 9 0 xs.length xs.length) ((n8 [(rS xs e u)]) ++ [rS (xs.map (ruE 3)) 24 .row]) ([.code (codeR (codeR (codeR (bodyOf 51))))]) ls ((n8 [(rS xs e u)]) ++ [some (.cells (srs ((xs.take xs.length).map (ruE 3))) 24 .row)]) := by
  rintro ls ⟨f, rfl, hj⟩
  have hr := rt3Z_p0 (f 2) (f 3) (f 4) (f 6) (f 7) (f 8) (f 9) (f 10) (f 11) (f 12) (f 13) (f 14) (f 15) (f 16) (f 17) (f 18) (f 19) (f 20) (f 21) (f 22) (f 23) (f 24) (f 25) (f 26) (f 27) (f 28) (f 29) (f 30) (f 31) (f 32) (f 33) (f 34) (f 35) (f 36) (f 37) (f 38) (xs.length) (c) ((rS xs e u)) (q) ((xs.length)) ((srs ((xs.take xs.length).map (ruE 3))))
  exact EndsG.ret (X := [_]) (v := (sl 9 0 (xs.length) (xs.length))) prog_ok envC2_ok hr rfl (by kernel_rfl) (by rw [List.take_length]; exact gc_of (ids := [9]) rfl rfl (keptS rfl) rfl)
theorem rt3_says (xs : List Sr) (q : Int) (c e : Nat) (u : Use) (hb : xs.length ≤ 1000) (hq : q % 4 = 3) (hn : 1 ≤ xs.length) : SaysAt Tryz.prog 8 51 [sl 8 0 xs.length c, I q] (n8 [(rS xs e u)]) (sl 9 0 xs.length xs.length) ((n8 [(rS xs e u)]) ++ [rS (xs.map (ruE 3)) 24 .row]) := by
  refine EndsG.says prog_ok Tryz.func51 (c := bodyOf 51) (by kernel_rfl) (by kernel_rfl) ?_
  refine EndsG.seqO (by kernel_rfl) ?_
  refine EndsG.run (k := [.code (codeL (bodyOf 51))]) prog_ok envC2_ok (rt3q0_p0 (xs.length) (c) ((rS xs e u)) (q)) ?_
  refine EndsG.seqO (by kernel_rfl) ?_
  refine EndsG.run (k := [.code (codeL (codeR (bodyOf 51)))]) prog_ok envC2_ok (rt3q1_p0 (xs.length) (c) ((rS xs e u)) (q)) ?_
  refine EndsG.seqO (by kernel_rfl) ?_
  refine EndsG.seqO (by kernel_rfl) ?_
  refine EndsG.run (k := [.code (codeL (codeL (codeR (codeR (bodyOf 51)))))]) prog_ok envC2_ok (rt3q2_p0 (xs.length) (c) ((rS xs e u)) (q)) ?_
  refine EndsG.blockLoop (B := (round 0 (bodyOf 51))) (id := 0) (by kernel_rfl) ?_
  exact rt3_first xs q c e u hb hq hn (rt3_end xs q c e u hb hq ) _ (rt3_SN.mk (jj := 0) (by kernel_rfl) (.c16 rfl (.c16 rfl (.c4 rfl (.c2 rfl (.c1 rfl .nil))))))
/-
The reference's shift: pieces.
-/
theorem rsq0_p0  (n c : Nat) (r8 : Option ARow) (a b : Int) : Runs Tryz.prog envC2 9 [.code (codeL (bodyOf 52))] [sl 8 0 n c, I a, I b, U, U, U, U, U, U, U, U, U, U, U, U, U, U, U, U, U, U, U, U, U, U, U, U, U, U, U, U, U, U, U, U, U, U, U, U, U, U, U] (n8 [r8]) ([(sl 8 0 n c), I a, I b, U, U, U, (.slice .none 0 0), (I 0), U, U, U, U, U, U, U, U, U, U, U, U, U, U, U, U, U, U, U, U, U, U, U, U, U, U, U, U, U, U, U, U, U, U], (n8 [r8]), none) :=
  Runs.by (n := 1000) (fid := 52) (os := []) (os' := []) (by kernel_rfl) (ObsOK.nil)
theorem rsq1_p0  (n c : Nat) (r8 : Option ARow) (a b : Int) : Runs Tryz.prog envC2 9 [.code (codeL (codeR (bodyOf 52)))] [(sl 8 0 n c), I a, I b, U, U, U, (.slice .none 0 0), (I 0), U, U, U, U, U, U, U, U, U, U, U, U, U, U, U, U, U, U, U, U, U, U, U, U, U, U, U, U, U, U, U, U, U, U] (n8 [r8]) ([(sl 8 0 n c), I a, I b, U, U, U, (.slice .none 0 0), (I 0), (.slice .none 0 0), U, U, U, U, U, U, U, U, U, U, U, U, U, U, U, U, U, U, U, U, U, U, U, U, U, U, U, U, U, U, U, U, U], (n8 [r8]), none) :=
  Runs.by (n := 1000) (fid := 52) (os := []) (os' := []) (by kernel_rfl) (ObsOK.nil)
theorem rsq2_p0  (n c : Nat) (r8 : Option ARow) (a b : Int) : Runs Tryz.prog envC2 9 [.code (codeL (codeL (codeR (codeR (bodyOf 52)))))] [(sl 8 0 n c), I a, I b, U, U, U, (.slice .none 0 0), (I 0), (.slice .none 0 0), U, U, U, U, U, U, U, U, U, U, U, U, U, U, U, U, U, U, U, U, U, U, U, U, U, U, U, U, U, U, U, U, U] (n8 [r8]) ([(sl 8 0 n c), I a, I b, U, U, U, (.slice .none 0 0), (I 0), (.slice .none 0 0), (I 0), U, U, U, U, U, U, U, U, U, U, U, U, U, U, U, U, U, U, U, U, U, U, U, U, U, U, U, U, U, U, U, U], (n8 [r8]), none) :=
  Runs.by (n := 1000) (fid := 52) (os := []) (os' := []) (by kernel_rfl) (ObsOK.nil)
theorem rsA0_p0 (v3 v4 v5 v6 v7 v10 v11 v12 v13 v14 v15 v16 v17 v18 v19 v20 v21 v22 v23 v24 v25 v26 v27 v28 v29 v30 v31 v32 v33 v34 v35 v36 v37 v38 v39 v40 v41 : Value) (mm : Nat) (cs cs2 : List Value) (n c : Nat) (r8 : Option ARow) (a b i : Int) (k8 : Nat) (z8x z8y z8g z8p : Int) (hx8 : aIndexAddr Tryz.prog 22 (sl 8 0 n c) (I i) = some (pt 8 k8)) (hl8 : aLoad Tryz.prog 24 (pt 8 k8) (n8 [r8, some (.cells cs 24 .row)]) = some (.agg #[I z8x, I z8y, I z8g, I z8p])) (ha : aAppend Tryz.prog 9 #[22, 22] (sl 9 0 mm mm) (sl 11 0 1 1) (n8 [r8, (.some (.cells cs 24 .row)), (.some (.cells [(I (IntKind.i64.wrap (z8x + a))), (I (IntKind.i64.wrap (z8y + b))), I z8g, I z8p] 24 .var)), (.some (.cells [(I (IntKind.i64.wrap (z8x + a))), (I (IntKind.i64.wrap (z8y + b))), I z8g, I z8p] 24 .row))]) = some (sl 12 0 (mm + 1) (mm + 1), (n8 [r8, none, (.some (.cells [(I (IntKind.i64.wrap (z8x + a))), (I (IntKind.i64.wrap (z8y + b))), I z8g, I z8p] 24 .var)), (.some (.cells [(I (IntKind.i64.wrap (z8x + a))), (I (IntKind.i64.wrap (z8y + b))), I z8g, I z8p] 24 .row)), some (.cells cs2 24 .row)]))) (f1 : decide (i < (n : Int)) = true) : Runs Tryz.prog envC2 9 [.code (round 0 (bodyOf 52))] [(sl 8 0 n c), I a, I b, v3, v4, v5, v6, v7, sl 9 0 mm mm, I i, v10, v11, v12, v13, v14, v15, v16, v17, v18, v19, v20, v21, v22, v23, v24, v25, v26, v27, v28, v29, v30, v31, v32, v33, v34, v35, v36, v37, v38, v39, v40, v41] (n8 [r8, some (.cells cs 24 .row)]) ([(sl 8 0 n c), I a, I b, v3, v4, v5, v6, v7, (sl 12 0 (mm + 1) (mm + 1)), (I (IntKind.i64.wrap (i + 1))), (pt 10 0), v11, I i, (sl 8 0 n c), (I ((n : Int))), (.bool (decide (i < (n : Int)))), I i, (I (IntKind.i64.wrap (i + 1))), (sl 8 0 n c), I i, (pt 8 k8), (.agg #[I z8x, I z8y, I z8g, I z8p]), (pt 10 0), I z8x, I a, (I (IntKind.i64.wrap (z8x + a))), (pt 10 1), I z8y, I b, (I (IntKind.i64.wrap (z8y + b))), (pt 10 0), (pt 10 1), (sl 9 0 mm mm), (.agg #[(I (IntKind.i64.wrap (z8x + a))), (I (IntKind.i64.wrap (z8y + b))), I z8g, I z8p]), (sl 11 0 1 1), (sl 12 0 (mm + 1) (mm + 1)), v36, v37, v38, v39, v40, v41], (n8 [r8, .none, (.some (.cells [(I (IntKind.i64.wrap (z8x + a))), (I (IntKind.i64.wrap (z8y + b))), I z8g, I z8p] 24 .var)), (.some (.cells [(I (IntKind.i64.wrap (z8x + a))), (I (IntKind.i64.wrap (z8y + b))), I z8g, I z8p] 24 .row)), (.some (.cells cs2 24 .row))]), none) :=
  Runs.by (n := 1000) (fid := 52) (os := [.br 52 32 true, .op 52 21 (pt 8 k8), .op 52 22 (.agg #[I z8x, I z8y, I z8g, I z8p]), .opw 52 36 (sl 12 0 (mm + 1) (mm + 1)) (n8 [r8, .none, (.some (.cells [(I (IntKind.i64.wrap (z8x + a))), (I (IntKind.i64.wrap (z8y + b))), I z8g, I z8p] 24 .var)), (.some (.cells [(I (IntKind.i64.wrap (z8x + a))), (I (IntKind.i64.wrap (z8y + b))), I z8g, I z8p] 24 .row)), (.some (.cells cs2 24 .row))])]) (os' := []) (by kernel_rfl) (ObsOK.cond f1 (ObsOK.val hx8 (ObsOK.val hl8 (ObsOK.both ha (ObsOK.nil)))))
theorem rsC_p0 (v3 v4 v5 v6 v7 v10 v11 v12 v13 v14 v15 v16 v17 v18 v19 v20 v21 v22 v23 v24 v25 v26 v27 v28 v29 v30 v31 v32 v33 v34 v35 v36 v37 v38 v39 v40 v41 : Value) (mm : Nat) (cs cs2 : List Value) (n c : Nat) (r8 : Option ARow) (a b i : Int) (f1 : decide (i < (n : Int)) = false) : Runs Tryz.prog envC2 9 [.code (round 0 (bodyOf 52)), .inLoop (round 0 (bodyOf 52)), .inBlock 0] [(sl 8 0 n c), I a, I b, v3, v4, v5, v6, v7, sl 9 0 mm mm, I i, v10, v11, v12, v13, v14, v15, v16, v17, v18, v19, v20, v21, v22, v23, v24, v25, v26, v27, v28, v29, v30, v31, v32, v33, v34, v35, v36, v37, v38, v39, v40, v41] (n8 [r8, some (.cells cs 24 .row)]) ([(sl 8 0 n c), I a, I b, v3, v4, v5, v6, v7, (sl 9 0 mm mm), I i, v10, v11, I i, (sl 8 0 n c), (I ((n : Int))), (.bool (decide (i < (n : Int)))), v16, v17, v18, v19, v20, v21, v22, v23, v24, v25, v26, v27, v28, v29, v30, v31, v32, v33, v34, v35, v36, v37, v38, v39, v40, v41], (n8 [r8, (.some (.cells cs 24 .row))]), none) :=
  Runs.by (n := 1000) (fid := 52) (os := [.br 52 32 false]) (os' := []) (by kernel_rfl) (ObsOK.cond f1 (ObsOK.nil))
theorem rsnA0_p0 (v3 v4 v5 v6 v7 v10 v11 v12 v13 v14 v15 v16 v17 v18 v19 v20 v21 v22 v23 v24 v25 v26 v27 v28 v29 v30 v31 v32 v33 v34 v35 v36 v37 v38 v39 v40 v41 : Value) (n c : Nat) (r8 : Option ARow) (a b i : Int) (k8 : Nat) (z8x z8y z8g z8p : Int) (hx8 : aIndexAddr Tryz.prog 22 (sl 8 0 n c) (I i) = some (pt 8 k8)) (hl8 : aLoad Tryz.prog 24 (pt 8 k8) (n8 [r8]) = some (.agg #[I z8x, I z8y, I z8g, I z8p])) (f1 : decide (i < (n : Int)) = true) : Runs Tryz.prog envC2 9 [.code (round 0 (bodyOf 52))] [(sl 8 0 n c), I a, I b, v3, v4, v5, v6, v7, .slice none 0 0, I i, v10, v11, v12, v13, v14, v15, v16, v17, v18, v19, v20, v21, v22, v23, v24, v25, v26, v27, v28, v29, v30, v31, v32, v33, v34, v35, v36, v37, v38, v39, v40, v41] (n8 [r8]) ([(sl 8 0 n c), I a, I b, v3, v4, v5, v6, v7, (sl 11 0 1 1), (I (IntKind.i64.wrap (i + 1))), (pt 9 0), v11, I i, (sl 8 0 n c), (I ((n : Int))), (.bool (decide (i < (n : Int)))), I i, (I (IntKind.i64.wrap (i + 1))), (sl 8 0 n c), I i, (pt 8 k8), (.agg #[I z8x, I z8y, I z8g, I z8p]), (pt 9 0), I z8x, I a, (I (IntKind.i64.wrap (z8x + a))), (pt 9 1), I z8y, I b, (I (IntKind.i64.wrap (z8y + b))), (pt 9 0), (pt 9 1), (.slice .none 0 0), (.agg #[(I (IntKind.i64.wrap (z8x + a))), (I (IntKind.i64.wrap (z8y + b))), I z8g, I z8p]), (sl 10 0 1 1), (sl 11 0 1 1), v36, v37, v38, v39, v40, v41], (n8 [r8, (.some (.cells [(I (IntKind.i64.wrap (z8x + a))), (I (IntKind.i64.wrap (z8y + b))), I z8g, I z8p] 24 .var)), (.some (.cells [(I (IntKind.i64.wrap (z8x + a))), (I (IntKind.i64.wrap (z8y + b))), I z8g, I z8p] 24 .row)), (.some (.cells [(I (IntKind.i64.wrap (z8x + a))), (I (IntKind.i64.wrap (z8y + b))), I z8g, I z8p] 24 .row))]), none) :=
  Runs.by (n := 1000) (fid := 52) (os := [.br 52 32 true, .op 52 21 (pt 8 k8), .op 52 22 (.agg #[I z8x, I z8y, I z8g, I z8p])]) (os' := []) (by kernel_rfl) (ObsOK.cond f1 (ObsOK.val hx8 (ObsOK.val hl8 (ObsOK.nil))))
theorem rsZe_p0 (v3 v4 v5 v6 v7 v9 v10 v11 v12 v13 v14 v15 v16 v17 v18 v19 v20 v21 v22 v23 v24 v25 v26 v27 v28 v29 v30 v31 v32 v33 v34 v35 v36 v37 v38 v39 v40 v41 : Value) (n c : Nat) (r8 : Option ARow) (a b : Int) (mm : Nat) (cs : List Value) (k : Int) (h25 : ∀ (lim : Nat) (A : Heap), hget A 9 = some (.cells cs 24 .row) → Gives Tryz.prog envC2 lim 25 [sl 9 0 mm mm] A (I k, A)) (fz : (k != 0) = true) : Runs Tryz.prog envC2 9 [.code (codeR (codeR (codeR (bodyOf 52))))] [(sl 8 0 n c), I a, I b, v3, v4, v5, v6, v7, sl 9 0 mm mm, v9, v10, v11, v12, v13, v14, v15, v16, v17, v18, v19, v20, v21, v22, v23, v24, v25, v26, v27, v28, v29, v30, v31, v32, v33, v34, v35, v36, v37, v38, v39, v40, v41] (n8 [r8, some (.cells cs 24 .row)]) ([(sl 8 0 n c), I a, I b, v3, v4, v5, (.slice .none 0 0), I k, (sl 9 0 mm mm), v9, v10, I k, v12, v13, v14, v15, v16, v17, v18, v19, v20, v21, v22, v23, v24, v25, v26, v27, v28, v29, v30, v31, v32, v33, v34, v35, (sl 9 0 mm mm), I k, I k, (.bool (k != 0)), I k, v41], (n8 [r8, (.some (.cells cs 24 .row))]), some .ret) :=
  Runs.by (n := 1000) (fid := 52) (os := [.opw 52 38 (I k) (n8 [r8, (.some (.cells cs 24 .row))]), .br 52 80 true]) (os' := []) (by kernel_rfl) (ObsOK.call (h25 9 (n8 [r8, (.some (.cells cs 24 .row))]) (by kernel_rfl)) (ObsOK.cond fz (ObsOK.nil)))
theorem rsZo_p0 (v3 v4 v5 v6 v7 v9 v10 v11 v12 v13 v14 v15 v16 v17 v18 v19 v20 v21 v22 v23 v24 v25 v26 v27 v28 v29 v30 v31 v32 v33 v34 v35 v36 v37 v38 v39 v40 v41 : Value) (n c : Nat) (r8 : Option ARow) (a b : Int) (mm : Nat) (cs : List Value) (k : Int) (h25 : ∀ (lim : Nat) (A : Heap), hget A 9 = some (.cells cs 24 .row) → Gives Tryz.prog envC2 lim 25 [sl 9 0 mm mm] A (I k, A)) (fz : (k != 0) = false) : Runs Tryz.prog envC2 9 [.code (codeR (codeR (codeR (bodyOf 52))))] [(sl 8 0 n c), I a, I b, v3, v4, v5, v6, v7, sl 9 0 mm mm, v9, v10, v11, v12, v13, v14, v15, v16, v17, v18, v19, v20, v21, v22, v23, v24, v25, v26, v27, v28, v29, v30, v31, v32, v33, v34, v35, v36, v37, v38, v39, v40, v41] (n8 [r8, some (.cells cs 24 .row)]) ([(sl 8 0 n c), I a, I b, v3, v4, v5, (sl 9 0 mm mm), (I 0), (sl 9 0 mm mm), v9, v10, I k, v12, v13, v14, v15, v16, v17, v18, v19, v20, v21, v22, v23, v24, v25, v26, v27, v28, v29, v30, v31, v32, v33, v34, v35, (sl 9 0 mm mm), I k, I k, (.bool (k != 0)), v40, (sl 9 0 mm mm)], (n8 [r8, (.some (.cells cs 24 .row))]), some .ret) :=
  Runs.by (n := 1000) (fid := 52) (os := [.opw 52 38 (I k) (n8 [r8, (.some (.cells cs 24 .row))]), .br 52 80 false]) (os' := []) (by kernel_rfl) (ObsOK.call (h25 9 (n8 [r8, (.some (.cells cs 24 .row))]) (by kernel_rfl)) (ObsOK.cond fz (ObsOK.nil)))
/-
The reference's shift.
-/
def rs_b (xs : List Sr) (a b : Int) (c e : Nat) (u : Use) (jj : Nat) (f : Nat → Value) : List Value := [(sl 8 0 xs.length c), I a, I b, f 3, f 4, f 5, f 6, f 7, sl 9 0 (jj) (jj), I (jj : Int), f 10, f 11, f 12, f 13, f 14, f 15, f 16, f 17, f 18, f 19, f 20, f 21, f 22, f 23, f 24, f 25, f 26, f 27, f 28, f 29, f 30, f 31, f 32, f 33, f 34, f 35, f 36, f 37, f 38, f 39, f 40, f 41]
def rs_S (xs : List Sr) (a b : Int) (c e : Nat) (u : Use) (jj : Nat) (ls : List Value) : Prop := ∃ f : Nat → Value, ls = rs_b xs a b c e u jj f ∧ JF [15] f
theorem rs_S.mk {xs : List Sr} {a b : Int} {c e : Nat} {u : Use} {jj : Nat} {ls : List Value} (h : ls = rs_b xs a b c e u jj (fun k => ls.getD k (I 0))) (hj : JL [15] 0 ls) : rs_S xs a b c e u jj ls := ⟨_, h, hj.fn⟩
def rs_bE (xs : List Sr) (a b : Int) (c e : Nat) (u : Use) (jj : Nat) (f : Nat → Value) : List Value := [(sl 8 0 xs.length c), I a, I b, f 3, f 4, f 5, f 6, f 7, sl 9 0 (jj) (jj), f 9, f 10, f 11, f 12, f 13, f 14, f 15, f 16, f 17, f 18, f 19, f 20, f 21, f 22, f 23, f 24, f 25, f 26, f 27, f 28, f 29, f 30, f 31, f 32, f 33, f 34, f 35, f 36, f 37, f 38, f 39, f 40, f 41]
def rs_SE (xs : List Sr) (a b : Int) (c e : Nat) (u : Use) (jj : Nat) (ls : List Value) : Prop := ∃ f : Nat → Value, ls = rs_bE xs a b c e u jj f ∧ JF [15] f
theorem rs_SE.mk {xs : List Sr} {a b : Int} {c e : Nat} {u : Use} {jj : Nat} {ls : List Value} (h : ls = rs_bE xs a b c e u jj (fun k => ls.getD k (I 0))) (hj : JL [15] 0 ls) : rs_SE xs a b c e u jj ls := ⟨_, h, hj.fn⟩
def rs_bN (xs : List Sr) (a b : Int) (c e : Nat) (u : Use) (jj : Nat) (f : Nat → Value) : List Value := [(sl 8 0 xs.length c), I a, I b, f 3, f 4, f 5, f 6, f 7, .slice none 0 0, I (jj : Int), f 10, f 11, f 12, f 13, f 14, f 15, f 16, f 17, f 18, f 19, f 20, f 21, f 22, f 23, f 24, f 25, f 26, f 27, f 28, f 29, f 30, f 31, f 32, f 33, f 34, f 35, f 36, f 37, f 38, f 39, f 40, f 41]
def rs_SN (xs : List Sr) (a b : Int) (c e : Nat) (u : Use) (jj : Nat) (ls : List Value) : Prop := ∃ f : Nat → Value, ls = rs_bN xs a b c e u jj f ∧ JF [15] f
theorem rs_SN.mk {xs : List Sr} {a b : Int} {c e : Nat} {u : Use} {jj : Nat} {ls : List Value} (h : ls = rs_bN xs a b c e u jj (fun k => ls.getD k (I 0))) (hj : JL [15] 0 ls) : rs_SN xs a b c e u jj ls := ⟨_, h, hj.fn⟩
def rs_K : List Keep := [.ren, .free, .free, .no, .no, .no, .no, .no, .ren, .free, .no, .no, .no, .no, .no, .free, .no, .no, .no, .no, .no, .no, .no, .no, .no, .no, .no, .no, .no, .no, .no, .no, .no, .no, .no, .no, .no, .no, .no, .no, .no, .no]
theorem rs_go (xs : List Sr) (a b : Int) (c e : Nat) (u : Use) {KK : List It} {v' : Value} {A' : Heap} (hb : xs.length ≤ 1000) (hend : ∀ ls, rs_SE xs a b c e u xs.length ls → EndsG Tryz.prog 8 Tryz.f52 (n8 [(rS xs e u)]) v' A' (KK) ls ((n8 [(rS xs e u)]) ++ [some (.cells (srs ((xs.take xs.length).map (shE a b))) 24 .row)])) : ∀ dd jj, jj + dd = xs.length → 1 ≤ jj → ∀ ls, rs_S xs a b c e u jj ls → EndsG Tryz.prog 8 Tryz.f52 (n8 [(rS xs e u)]) v' A' (.code (round 0 (bodyOf 52)) :: .inLoop (round 0 (bodyOf 52)) :: .inBlock 0 :: KK) ls ((n8 [(rS xs e u)]) ++ [some (.cells (srs ((xs.take jj).map (shE a b))) 24 .row)]) := by
  intro dd
  induction dd with
  | zero =>
    rintro jj hjj h1j ls ⟨f, rfl, hj⟩
    have hjn : jj = xs.length := by omega
    subst hjn
    have hr := rsC_p0 (f 3) (f 4) (f 5) (f 6) (f 7) (f 10) (f 11) (f 12) (f 13) (f 14) (f 15) (f 16) (f 17) (f 18) (f 19) (f 20) (f 21) (f 22) (f 23) (f 24) (f 25) (f 26) (f 27) (f 28) (f 29) (f 30) (f 31) (f 32) (f 33) (f 34) (f 35) (f 36) (f 37) (f 38) (f 39) (f 40) (f 41) ((xs.length)) ((srs ((xs.take xs.length).map (shE a b)))) ((srs ((xs.take (xs.length + 1)).map (shE a b)))) (xs.length) (c) ((rS xs e u)) (a) (b) ((xs.length : Int)) (decide_eq_false (by first | omega | (simp; omega)))
    refine EndsG.run (k := [.code (round 0 (bodyOf 52)), .inLoop (round 0 (bodyOf 52)), .inBlock 0]) (kk := KK) prog_ok envC2_ok hr ?_
    exact hend _ (rs_SE.mk (jj := xs.length) (by kernel_rfl) (.c2 rfl (.c1 rfl (.f4 hj (.f1 hj (.c2 rfl (.f2 hj (.c4 rfl (.f16 hj (.f8 hj (.f2 hj .nil)))))))))))
  | succ dd ih =>
    rintro jj hjj h1j ls ⟨f, rfl, hj⟩
    have hlt : jj < xs.length := by omega
    have hs := srs_tmap (f := shE a b) (l := xs) (i := jj) (by omega)
    obtain ⟨ti, t1, t2, t3, t4⟩ := info_of i24'
    have hr := rsA0_p0 (f 3) (f 4) (f 5) (f 6) (f 7) (f 10) (f 11) (f 12) (f 13) (f 14) (f 15) (f 16) (f 17) (f 18) (f 19) (f 20) (f 21) (f 22) (f 23) (f 24) (f 25) (f 26) (f 27) (f 28) (f 29) (f 30) (f 31) (f 32) (f 33) (f 34) (f 35) (f 36) (f 37) (f 38) (f 39) (f 40) (f 41) ((jj)) ((srs ((xs.take jj).map (shE a b)))) ((srs ((xs.take (jj + 1)).map (shE a b)))) (xs.length) (c) ((rS xs e u)) (a) (b) ((jj : Int)) ((jj * 4)) (((xs.getD jj s0).x)) (((xs.getD jj s0).y)) (((xs.getD jj s0).g)) (((xs.getD jj s0).p)) (ix22 (by omega)) (ld24 rfl (by omega)) ((by rw [hs]; exact app_one (P := Tryz.prog) (lim := 9) (r := 9) (q := 11) (n := (jj)) (c := (jj)) (c' := 1) (A := (n8 [(rS xs e u), (.some (.cells (srs ((xs.take jj).map (shE a b))) 24 .row)), (.some (.cells [(I (IntKind.i64.wrap (((xs.getD jj s0).x) + a))), (I (IntKind.i64.wrap (((xs.getD jj s0).y) + b))), (I ((xs.getD jj s0).g)), (I ((xs.getD jj s0).p))] 24 .var)), (.some (.cells [(I (IntKind.i64.wrap (((xs.getD jj s0).x) + a))), (I (IntKind.i64.wrap (((xs.getD jj s0).y) + b))), (I ((xs.getD jj s0).g)), (I ((xs.getD jj s0).p))] 24 .row))])) u22 t1 t2 t3 t4 rfl rfl rfl rfl (by rw [srs_len]; simp; omega) rfl rfl (by decide) (by omega) (by omega) u22)) (decide_eq_true (by first | omega | (simp; omega)))
    try rw [wrap_succ' (by omega)] at hr
    refine EndsG.round prog_ok envC2_ok hr ?_
    refine EndsG.renumS (X := [_, _, _, _]) (R := [(.some (.cells (srs ((xs.take (jj + 1)).map (shE a b))) 24 .row))]) (ids := [12]) (m := rs_K) rfl rfl (by kernel_rfl) (.cons rfl (.plain (by first | rfl | exact srs_atoms _)) .nil) (.ren rfl (.free rfl (.free rfl (.j4 3 hj rfl (.j1 7 hj rfl (.ren rfl (.free rfl (.no rfl (.j1 11 hj rfl (.n2 rfl (.no rfl (.free rfl (.n16 rfl (.n4 rfl (.j4 36 hj rfl (.j2 40 hj rfl .nil)))))))))))))))) ?_
    exact ih (jj + 1) (by omega) (by omega) _ (rs_S.mk (jj := (jj + 1)) (by kernel_rfl) (.c16 rfl (.c16 rfl (.c8 rfl (.c2 rfl .nil)))))
theorem rs_first (xs : List Sr) (a b : Int) (c e : Nat) (u : Use) {KK : List It} {v' : Value} {A' : Heap} (hb : xs.length ≤ 1000) (hn : 1 ≤ xs.length) (hend : ∀ ls, rs_SE xs a b c e u xs.length ls → EndsG Tryz.prog 8 Tryz.f52 (n8 [(rS xs e u)]) v' A' (KK) ls ((n8 [(rS xs e u)]) ++ [some (.cells (srs ((xs.take xs.length).map (shE a b))) 24 .row)])) : ∀ ls, rs_SN xs a b c e u 0 ls → EndsG Tryz.prog 8 Tryz.f52 (n8 [(rS xs e u)]) v' A' (.code (round 0 (bodyOf 52)) :: .inLoop (round 0 (bodyOf 52)) :: .inBlock 0 :: KK) ls ((n8 [(rS xs e u)]) ++ []) := by
  rintro ls ⟨f, rfl, hj⟩
  have hr := rsnA0_p0 (f 3) (f 4) (f 5) (f 6) (f 7) (f 10) (f 11) (f 12) (f 13) (f 14) (f 15) (f 16) (f 17) (f 18) (f 19) (f 20) (f 21) (f 22) (f 23) (f 24) (f 25) (f 26) (f 27) (f 28) (f 29) (f 30) (f 31) (f 32) (f 33) (f 34) (f 35) (f 36) (f 37) (f 38) (f 39) (f 40) (f 41) (xs.length) (c) ((rS xs e u)) (a) (b) (((0 : Nat) : Int)) ((0 * 4)) (((xs.getD 0 s0).x)) (((xs.getD 0 s0).y)) (((xs.getD 0 s0).g)) (((xs.getD 0 s0).p)) (ix22 (by omega)) (ld24 rfl (by omega)) (decide_eq_true (by first | omega | (simp; omega)))
  try rw [wrap_succ' (by omega)] at hr
  refine EndsG.round prog_ok envC2_ok hr ?_
  refine EndsG.renumS (X := [_, _, _]) (R := [(.some (.cells [(I (IntKind.i64.wrap (((xs.getD 0 s0).x) + a))), (I (IntKind.i64.wrap (((xs.getD 0 s0).y) + b))), (I ((xs.getD 0 s0).g)), (I ((xs.getD 0 s0).p))] 24 .row))]) (ids := [11]) (m := rs_K) rfl rfl (by kernel_rfl) (.cons rfl (.plain (by first | rfl | exact srs_atoms _)) .nil) (.ren rfl (.free rfl (.free rfl (.j4 3 hj rfl (.j1 7 hj rfl (.ren rfl (.free rfl (.no rfl (.j1 11 hj rfl (.n2 rfl (.no rfl (.free rfl (.n16 rfl (.n4 rfl (.j4 36 hj rfl (.j2 40 hj rfl .nil)))))))))))))))) ?_
  refine EndsG.rows (R' := [some (.cells (srs ((xs.take 1).map (shE a b))) 24 .row)]) (by rw [show (1 : Nat) = 0 + 1 from rfl, srs_tmap (f := shE a b) (l := xs) (i := 0) (by omega)]; rfl) ?_
  exact rs_go xs a b c e u (KK := KK) (v' := v') (A' := A') hb hend (xs.length - 1) 1 (by omega) (by omega) _ (rs_S.mk (jj := 1) (by kernel_rfl) (.c16 rfl (.c16 rfl (.c8 rfl (.c2 rfl .nil)))))
theorem rs_end_e (xs : List Sr) (a b : Int) (c e : Nat) (u : Use) (hb : xs.length ≤ 1000) (hk : (chkR (xs.map (shE a b)) != 0) = true) : ∀ ls, rs_SE xs a b c e u xs.length ls → EndsG Tryz.prog 8 Tryz.f52 (n8 [(rS xs e u)]) (.tuple #[.slice none 0 0, I (chkR (xs.map (shE a b)))]) (n8 [(rS xs e u)]) ([.code (codeR (codeR (codeR (bodyOf 52))))]) ls ((n8 [(rS xs e u)]) ++ [some (.cells (srs ((xs.take xs.length).map (shE a b))) 24 .row)]) := by
  rintro ls ⟨f, rfl, hj⟩
  have hr := rsZe_p0 (f 3) (f 4) (f 5) (f 6) (f 7) (f 9) (f 10) (f 11) (f 12) (f 13) (f 14) (f 15) (f 16) (f 17) (f 18) (f 19) (f 20) (f 21) (f 22) (f 23) (f 24) (f 25) (f 26) (f 27) (f 28) (f 29) (f 30) (f 31) (f 32) (f 33) (f 34) (f 35) (f 36) (f 37) (f 38) (f 39) (f 40) (f 41) (xs.length) (c) ((rS xs e u)) (a) (b) ((xs.length)) ((srs ((xs.take xs.length).map (shE a b)))) ((chkR ((xs.take xs.length).map (shE a b)))) (fun lim A hA => by have := kenvC2_25_9 ⟨(xs.take xs.length).map (shE a b), xs.length, 24, .row⟩ trivial lim A (by rw [hA]; rfl); rw [show ((xs.take xs.length).map (shE a b)).length = xs.length by simp] at this; exact this) (by rw [List.take_length]; exact hk)
  exact EndsG.ret (X := [_]) (v := .tuple #[(.slice .none 0 0), (I (chkR ((xs.take xs.length).map (shE a b))))]) prog_ok envC2_ok hr rfl (by kernel_rfl) (by rw [List.take_length]; kernel_rfl)
theorem rs_says_e (xs : List Sr) (a b : Int) (c e : Nat) (u : Use) (hb : xs.length ≤ 1000) (hk : (chkR (xs.map (shE a b)) != 0) = true) (hn : 1 ≤ xs.length) : SaysAt Tryz.prog 8 52 [sl 8 0 xs.length c, I a, I b] (n8 [(rS xs e u)]) (.tuple #[.slice none 0 0, I (chkR (xs.map (shE a b)))]) (n8 [(rS xs e u)]) := by
  refine EndsG.says prog_ok Tryz.func52 (c := bodyOf 52) (by kernel_rfl) (by kernel_rfl) ?_
  refine EndsG.seqO (by kernel_rfl) ?_
  refine EndsG.run (k := [.code (codeL (bodyOf 52))]) prog_ok envC2_ok (rsq0_p0 (xs.length) (c) ((rS xs e u)) (a) (b)) ?_
  refine EndsG.seqO (by kernel_rfl) ?_
  refine EndsG.run (k := [.code (codeL (codeR (bodyOf 52)))]) prog_ok envC2_ok (rsq1_p0 (xs.length) (c) ((rS xs e u)) (a) (b)) ?_
  refine EndsG.seqO (by kernel_rfl) ?_
  refine EndsG.seqO (by kernel_rfl) ?_
  refine EndsG.run (k := [.code (codeL (codeL (codeR (codeR (bodyOf 52)))))]) prog_ok envC2_ok (rsq2_p0 (xs.length) (c) ((rS xs e u)) (a) (b)) ?_
  refine EndsG.blockLoop (B := (round 0 (bodyOf 52))) (id := 0) (by kernel_rfl) ?_
  exact rs_first xs a b c e u hb hn (rs_end_e xs a b c e u hb hk) _ (rs_SN.mk (jj := 0) (by kernel_rfl) (.c16 rfl (.c16 rfl (.c8 rfl (.c2 rfl .nil)))))
theorem rs_end_o (xs : List Sr) (a b : Int) (c e : Nat) (u : Use) (hb : xs.length ≤ 1000) (hk : (chkR (xs.map (shE a b)) != 0) = false) : ∀ ls, rs_SE xs a b c e u xs.length ls → EndsG Tryz.prog 8 Tryz.f52 (n8 [(rS xs e u)]) (.tuple #[sl 9 0 xs.length xs.length, I 0]) ((n8 [(rS xs e u)]) ++ [rS (xs.map (shE a b)) 24 .row]) ([.code (codeR (codeR (codeR (bodyOf 52))))]) ls ((n8 [(rS xs e u)]) ++ [some (.cells (srs ((xs.take xs.length).map (shE a b))) 24 .row)]) := by
  rintro ls ⟨f, rfl, hj⟩
  have hr := rsZo_p0 (f 3) (f 4) (f 5) (f 6) (f 7) (f 9) (f 10) (f 11) (f 12) (f 13) (f 14) (f 15) (f 16) (f 17) (f 18) (f 19) (f 20) (f 21) (f 22) (f 23) (f 24) (f 25) (f 26) (f 27) (f 28) (f 29) (f 30) (f 31) (f 32) (f 33) (f 34) (f 35) (f 36) (f 37) (f 38) (f 39) (f 40) (f 41) (xs.length) (c) ((rS xs e u)) (a) (b) ((xs.length)) ((srs ((xs.take xs.length).map (shE a b)))) ((chkR ((xs.take xs.length).map (shE a b)))) (fun lim A hA => by have := kenvC2_25_9 ⟨(xs.take xs.length).map (shE a b), xs.length, 24, .row⟩ trivial lim A (by rw [hA]; rfl); rw [show ((xs.take xs.length).map (shE a b)).length = xs.length by simp] at this; exact this) (by rw [List.take_length]; exact hk)
  exact EndsG.ret (X := [_]) (v := .tuple #[(sl 9 0 (xs.length) (xs.length)), (I 0)]) prog_ok envC2_ok hr rfl (by kernel_rfl) (by rw [List.take_length]; exact gc_of (ids := [9]) rfl rfl (keptS rfl) rfl)
theorem rs_says_o (xs : List Sr) (a b : Int) (c e : Nat) (u : Use) (hb : xs.length ≤ 1000) (hk : (chkR (xs.map (shE a b)) != 0) = false) (hn : 1 ≤ xs.length) : SaysAt Tryz.prog 8 52 [sl 8 0 xs.length c, I a, I b] (n8 [(rS xs e u)]) (.tuple #[sl 9 0 xs.length xs.length, I 0]) ((n8 [(rS xs e u)]) ++ [rS (xs.map (shE a b)) 24 .row]) := by
  refine EndsG.says prog_ok Tryz.func52 (c := bodyOf 52) (by kernel_rfl) (by kernel_rfl) ?_
  refine EndsG.seqO (by kernel_rfl) ?_
  refine EndsG.run (k := [.code (codeL (bodyOf 52))]) prog_ok envC2_ok (rsq0_p0 (xs.length) (c) ((rS xs e u)) (a) (b)) ?_
  refine EndsG.seqO (by kernel_rfl) ?_
  refine EndsG.run (k := [.code (codeL (codeR (bodyOf 52)))]) prog_ok envC2_ok (rsq1_p0 (xs.length) (c) ((rS xs e u)) (a) (b)) ?_
  refine EndsG.seqO (by kernel_rfl) ?_
  refine EndsG.seqO (by kernel_rfl) ?_
  refine EndsG.run (k := [.code (codeL (codeL (codeR (codeR (bodyOf 52)))))]) prog_ok envC2_ok (rsq2_p0 (xs.length) (c) ((rS xs e u)) (a) (b)) ?_
  refine EndsG.blockLoop (B := (round 0 (bodyOf 52))) (id := 0) (by kernel_rfl) ?_
  exact rs_first xs a b c e u hb hn (rs_end_o xs a b c e u hb hk) _ (rs_SN.mk (jj := 0) (by kernel_rfl) (.c16 rfl (.c16 rfl (.c8 rfl (.c2 rfl .nil)))))
/-
The reference's mirror: pieces.
-/
theorem raq0_p0  (n c : Nat) (r8 : Option ARow) (a : Int) (r10 : Option ARow) (ha0 : aAppend Tryz.prog 9 #[22, 22] (sl 9 0 0 0) (sl 8 0 n c) (n8 [r8, some (.cells [] 24 .emp)]) = some (sl 10 0 n n, (n8 [r8, some (.cells [] 24 .emp), r10]))) : Runs Tryz.prog envC2 9 [.code (codeL (bodyOf 53))] [sl 8 0 n c, I a, .bool true, U, U, U, U, U, U, U, U, U, U, U, U, U, U, U, U, U, U, U, U, U, U, U, U, U, U, U, U, U, U, U, U, U, U, U, U, U, U, U, U, U, U, U] (n8 [r8]) ([(sl 8 0 n c), I a, (.bool true), U, U, U, (.slice .none 0 0), (I 0), U, U, U, U, U, U, U, U, U, U, U, U, U, U, U, U, U, U, U, U, U, U, U, U, U, U, U, U, U, U, U, U, U, U, U, U, U, U], (n8 [r8]), none) :=
  Runs.by (n := 1000) (fid := 53) (os := []) (os' := []) (by kernel_rfl) (ObsOK.nil)
theorem raq1_p0  (n c : Nat) (r8 : Option ARow) (a : Int) (r10 : Option ARow) (ha0 : aAppend Tryz.prog 9 #[22, 22] (sl 9 0 0 0) (sl 8 0 n c) (n8 [r8, some (.cells [] 24 .emp)]) = some (sl 10 0 n n, (n8 [r8, some (.cells [] 24 .emp), r10]))) : Runs Tryz.prog envC2 9 [.code (codeL (codeR (bodyOf 53)))] [(sl 8 0 n c), I a, (.bool true), U, U, U, (.slice .none 0 0), (I 0), U, U, U, U, U, U, U, U, U, U, U, U, U, U, U, U, U, U, U, U, U, U, U, U, U, U, U, U, U, U, U, U, U, U, U, U, U, U] (n8 [r8]) ([(sl 8 0 n c), I a, (.bool true), U, U, U, (.slice .none 0 0), (I 0), (sl 10 0 n n), U, U, U, (sl 9 0 0 0), (sl 8 0 n c), (sl 10 0 n n), U, U, U, U, U, U, U, U, U, U, U, U, U, U, U, U, U, U, U, U, U, U, U, U, U, U, U, U, U, U, U], (n8 [r8, (.some (.cells [] 24 .emp)), r10]), none) :=
  Runs.by (n := 1000) (fid := 53) (os := [.opw 53 15 (sl 10 0 n n) (n8 [r8, (.some (.cells [] 24 .emp)), r10])]) (os' := []) (by kernel_rfl) (ObsOK.both ha0 (ObsOK.nil))
theorem raq2_p0  (n c : Nat) (r8 : Option ARow) (a : Int) (r10 : Option ARow) (ha0 : aAppend Tryz.prog 9 #[22, 22] (sl 9 0 0 0) (sl 8 0 n c) (n8 [r8, some (.cells [] 24 .emp)]) = some (sl 10 0 n n, (n8 [r8, some (.cells [] 24 .emp), r10]))) : Runs Tryz.prog envC2 9 [.code (codeL (codeL (codeR (codeR (bodyOf 53)))))] [(sl 8 0 n c), I a, (.bool true), U, U, U, (.slice .none 0 0), (I 0), (sl 10 0 n n), U, U, U, (sl 9 0 0 0), (sl 8 0 n c), (sl 10 0 n n), U, U, U, U, U, U, U, U, U, U, U, U, U, U, U, U, U, U, U, U, U, U, U, U, U, U, U, U, U, U, U] (n8 [r8, (.some (.cells [] 24 .emp)), r10]) ([(sl 8 0 n c), I a, (.bool true), U, U, U, (.slice .none 0 0), (I 0), (sl 10 0 n n), (I 0), U, U, (sl 9 0 0 0), (sl 8 0 n c), (sl 10 0 n n), U, U, U, U, U, U, U, U, U, U, U, U, U, U, U, U, U, U, U, U, U, U, U, U, U, U, U, U, U, U, U], (n8 [r8, (.some (.cells [] 24 .emp)), r10]), none) :=
  Runs.by (n := 1000) (fid := 53) (os := []) (os' := []) (by kernel_rfl) (ObsOK.nil)
theorem raA0_p0 (v3 v4 v5 v6 v7 v10 v11 v12 v13 v14 v15 v16 v17 v18 v19 v20 v21 v22 v23 v24 v25 v26 v27 v28 v29 v30 v31 v32 v33 v34 v35 v36 v37 v38 v39 v40 v41 v42 v43 v44 v45 : Value) (mm : Nat) (cs cs2 : List Value) (n c : Nat) (r8 : Option ARow) (a : Int) (r10 : Option ARow) (i : Int) (k8 : Nat) (z8x z8y z8g z8p : Int) (hx8 : aIndexAddr Tryz.prog 22 (sl 8 0 n c) (I i) = some (pt 8 k8)) (hl8 : aLoad Tryz.prog 24 (pt 8 k8) (n8 [r8, some (.cells cs 24 .row)]) = some (.agg #[I z8x, I z8y, I z8g, I z8p])) (ha : aAppend Tryz.prog 9 #[22, 22] (sl 9 0 mm mm) (sl 11 0 1 1) (n8 [r8, (.some (.cells cs 24 .row)), (.some (.cells [(I (IntKind.i64.wrap (IntKind.i64.wrap (2 * a) - z8x))), I z8y, (I (IntKind.i64.wrap (0 - z8g))), I z8p] 24 .var)), (.some (.cells [(I (IntKind.i64.wrap (IntKind.i64.wrap (2 * a) - z8x))), I z8y, (I (IntKind.i64.wrap (0 - z8g))), I z8p] 24 .row))]) = some (sl 12 0 (mm + 1) (mm + 1), (n8 [r8, none, (.some (.cells [(I (IntKind.i64.wrap (IntKind.i64.wrap (2 * a) - z8x))), I z8y, (I (IntKind.i64.wrap (0 - z8g))), I z8p] 24 .var)), (.some (.cells [(I (IntKind.i64.wrap (IntKind.i64.wrap (2 * a) - z8x))), I z8y, (I (IntKind.i64.wrap (0 - z8g))), I z8p] 24 .row)), some (.cells cs2 24 .row)]))) (f1 : decide (i < (n : Int)) = true) : Runs Tryz.prog envC2 9 [.code (round 0 (bodyOf 53))] [(sl 8 0 n c), I a, (.bool true), v3, v4, v5, v6, v7, sl 9 0 mm mm, I i, v10, v11, v12, v13, v14, v15, v16, v17, v18, v19, v20, v21, v22, v23, v24, v25, v26, v27, v28, v29, v30, v31, v32, v33, v34, v35, v36, v37, v38, v39, v40, v41, v42, v43, v44, v45] (n8 [r8, some (.cells cs 24 .row)]) ([(sl 8 0 n c), I a, (.bool true), v3, v4, v5, v6, v7, (sl 12 0 (mm + 1) (mm + 1)), (I (IntKind.i64.wrap (i + 1))), (pt 10 0), v11, v12, v13, v14, I i, (sl 8 0 n c), (I ((n : Int))), (.bool (decide (i < (n : Int)))), I i, (I (IntKind.i64.wrap (i + 1))), (sl 8 0 n c), I i, (pt 8 k8), (.agg #[I z8x, I z8y, I z8g, I z8p]), I a, (I (IntKind.i64.wrap (2 * a))), (pt 10 0), I z8x, (I (IntKind.i64.wrap (IntKind.i64.wrap (2 * a) - z8x))), (pt 10 0), (.bool true), (pt 10 2), I z8g, (I (IntKind.i64.wrap (0 - z8g))), (pt 10 2), (sl 9 0 mm mm), (.agg #[(I (IntKind.i64.wrap (IntKind.i64.wrap (2 * a) - z8x))), I z8y, (I (IntKind.i64.wrap (0 - z8g))), I z8p]), (sl 11 0 1 1), (sl 12 0 (mm + 1) (mm + 1)), v40, v41, v42, v43, v44, v45], (n8 [r8, .none, (.some (.cells [(I (IntKind.i64.wrap (IntKind.i64.wrap (2 * a) - z8x))), I z8y, (I (IntKind.i64.wrap (0 - z8g))), I z8p] 24 .var)), (.some (.cells [(I (IntKind.i64.wrap (IntKind.i64.wrap (2 * a) - z8x))), I z8y, (I (IntKind.i64.wrap (0 - z8g))), I z8p] 24 .row)), (.some (.cells cs2 24 .row))]), none) :=
  Runs.by (n := 1000) (fid := 53) (os := [.br 53 38 true, .op 53 24 (pt 8 k8), .op 53 25 (.agg #[I z8x, I z8y, I z8g, I z8p]), .opw 53 40 (sl 12 0 (mm + 1) (mm + 1)) (n8 [r8, .none, (.some (.cells [(I (IntKind.i64.wrap (IntKind.i64.wrap (2 * a) - z8x))), I z8y, (I (IntKind.i64.wrap (0 - z8g))), I z8p] 24 .var)), (.some (.cells [(I (IntKind.i64.wrap (IntKind.i64.wrap (2 * a) - z8x))), I z8y, (I (IntKind.i64.wrap (0 - z8g))), I z8p] 24 .row)), (.some (.cells cs2 24 .row))])]) (os' := []) (by kernel_rfl) (ObsOK.cond f1 (ObsOK.val hx8 (ObsOK.val hl8 (ObsOK.both ha (ObsOK.nil)))))
theorem raC_p0 (v3 v4 v5 v6 v7 v10 v11 v12 v13 v14 v15 v16 v17 v18 v19 v20 v21 v22 v23 v24 v25 v26 v27 v28 v29 v30 v31 v32 v33 v34 v35 v36 v37 v38 v39 v40 v41 v42 v43 v44 v45 : Value) (mm : Nat) (cs cs2 : List Value) (n c : Nat) (r8 : Option ARow) (a : Int) (r10 : Option ARow) (i : Int) (f1 : decide (i < (n : Int)) = false) : Runs Tryz.prog envC2 9 [.code (round 0 (bodyOf 53)), .inLoop (round 0 (bodyOf 53)), .inBlock 0] [(sl 8 0 n c), I a, (.bool true), v3, v4, v5, v6, v7, sl 9 0 mm mm, I i, v10, v11, v12, v13, v14, v15, v16, v17, v18, v19, v20, v21, v22, v23, v24, v25, v26, v27, v28, v29, v30, v31, v32, v33, v34, v35, v36, v37, v38, v39, v40, v41, v42, v43, v44, v45] (n8 [r8, some (.cells cs 24 .row)]) ([(sl 8 0 n c), I a, (.bool true), v3, v4, v5, v6, v7, (sl 9 0 mm mm), I i, v10, v11, v12, v13, v14, I i, (sl 8 0 n c), (I ((n : Int))), (.bool (decide (i < (n : Int)))), v19, v20, v21, v22, v23, v24, v25, v26, v27, v28, v29, v30, v31, v32, v33, v34, v35, v36, v37, v38, v39, v40, v41, v42, v43, v44, v45], (n8 [r8, (.some (.cells cs 24 .row))]), none) :=
  Runs.by (n := 1000) (fid := 53) (os := [.br 53 38 false]) (os' := []) (by kernel_rfl) (ObsOK.cond f1 (ObsOK.nil))
theorem raZe_p0 (v3 v4 v5 v6 v7 v9 v10 v11 v12 v13 v14 v15 v16 v17 v18 v19 v20 v21 v22 v23 v24 v25 v26 v27 v28 v29 v30 v31 v32 v33 v34 v35 v36 v37 v38 v39 v40 v41 v42 v43 v44 v45 : Value) (n c : Nat) (r8 : Option ARow) (a : Int) (r10 : Option ARow) (mm : Nat) (cs : List Value) (k : Int) (h25 : ∀ (lim : Nat) (A : Heap), hget A 9 = some (.cells cs 24 .row) → Gives Tryz.prog envC2 lim 25 [sl 9 0 mm mm] A (I k, A)) (fz : (k != 0) = true) : Runs Tryz.prog envC2 9 [.code (codeR (codeR (codeR (bodyOf 53))))] [(sl 8 0 n c), I a, (.bool true), v3, v4, v5, v6, v7, sl 9 0 mm mm, v9, v10, v11, v12, v13, v14, v15, v16, v17, v18, v19, v20, v21, v22, v23, v24, v25, v26, v27, v28, v29, v30, v31, v32, v33, v34, v35, v36, v37, v38, v39, v40, v41, v42, v43, v44, v45] (n8 [r8, some (.cells cs 24 .row)]) ([(sl 8 0 n c), I a, (.bool true), v3, v4, v5, (.slice .none 0 0), I k, (sl 9 0 mm mm), v9, v10, I k, v12, v13, v14, v15, v16, v17, v18, v19, v20, v21, v22, v23, v24, v25, v26, v27, v28, v29, v30, v31, v32, v33, v34, v35, v36, v37, v38, v39, (sl 9 0 mm mm), I k, I k, (.bool (k != 0)), I k, v45], (n8 [r8, (.some (.cells cs 24 .row))]), some .ret) :=
  Runs.by (n := 1000) (fid := 53) (os := [.opw 53 42 (I k) (n8 [r8, (.some (.cells cs 24 .row))]), .br 53 88 true]) (os' := []) (by kernel_rfl) (ObsOK.call (h25 9 (n8 [r8, (.some (.cells cs 24 .row))]) (by kernel_rfl)) (ObsOK.cond fz (ObsOK.nil)))
theorem raZo_p0 (v3 v4 v5 v6 v7 v9 v10 v11 v12 v13 v14 v15 v16 v17 v18 v19 v20 v21 v22 v23 v24 v25 v26 v27 v28 v29 v30 v31 v32 v33 v34 v35 v36 v37 v38 v39 v40 v41 v42 v43 v44 v45 : Value) (n c : Nat) (r8 : Option ARow) (a : Int) (r10 : Option ARow) (mm : Nat) (cs : List Value) (k : Int) (h25 : ∀ (lim : Nat) (A : Heap), hget A 9 = some (.cells cs 24 .row) → Gives Tryz.prog envC2 lim 25 [sl 9 0 mm mm] A (I k, A)) (fz : (k != 0) = false) : Runs Tryz.prog envC2 9 [.code (codeR (codeR (codeR (bodyOf 53))))] [(sl 8 0 n c), I a, (.bool true), v3, v4, v5, v6, v7, sl 9 0 mm mm, v9, v10, v11, v12, v13, v14, v15, v16, v17, v18, v19, v20, v21, v22, v23, v24, v25, v26, v27, v28, v29, v30, v31, v32, v33, v34, v35, v36, v37, v38, v39, v40, v41, v42, v43, v44, v45] (n8 [r8, some (.cells cs 24 .row)]) ([(sl 8 0 n c), I a, (.bool true), v3, v4, v5, (sl 9 0 mm mm), (I 0), (sl 9 0 mm mm), v9, v10, I k, v12, v13, v14, v15, v16, v17, v18, v19, v20, v21, v22, v23, v24, v25, v26, v27, v28, v29, v30, v31, v32, v33, v34, v35, v36, v37, v38, v39, (sl 9 0 mm mm), I k, I k, (.bool (k != 0)), v44, (sl 9 0 mm mm)], (n8 [r8, (.some (.cells cs 24 .row))]), some .ret) :=
  Runs.by (n := 1000) (fid := 53) (os := [.opw 53 42 (I k) (n8 [r8, (.some (.cells cs 24 .row))]), .br 53 88 false]) (os' := []) (by kernel_rfl) (ObsOK.call (h25 9 (n8 [r8, (.some (.cells cs 24 .row))]) (by kernel_rfl)) (ObsOK.cond fz (ObsOK.nil)))
/-
The reference's mirror.
-/
def ra_b (xs : List Sr) (a : Int) (c e : Nat) (u : Use) (jj : Nat) (f : Nat → Value) : List Value := [(sl 8 0 xs.length c), I a, (.bool true), f 3, f 4, f 5, f 6, f 7, sl 9 0 (xs.length + jj) (xs.length + jj), I (jj : Int), f 10, f 11, f 12, f 13, f 14, f 15, f 16, f 17, f 18, f 19, f 20, f 21, f 22, f 23, f 24, f 25, f 26, f 27, f 28, f 29, f 30, f 31, f 32, f 33, f 34, f 35, f 36, f 37, f 38, f 39, f 40, f 41, f 42, f 43, f 44, f 45]
def ra_S (xs : List Sr) (a : Int) (c e : Nat) (u : Use) (jj : Nat) (ls : List Value) : Prop := ∃ f : Nat → Value, ls = ra_b xs a c e u jj f ∧ JF [2, 18, 31] f
theorem ra_S.mk {xs : List Sr} {a : Int} {c e : Nat} {u : Use} {jj : Nat} {ls : List Value} (h : ls = ra_b xs a c e u jj (fun k => ls.getD k (I 0))) (hj : JL [2, 18, 31] 0 ls) : ra_S xs a c e u jj ls := ⟨_, h, hj.fn⟩
def ra_bE (xs : List Sr) (a : Int) (c e : Nat) (u : Use) (jj : Nat) (f : Nat → Value) : List Value := [(sl 8 0 xs.length c), I a, (.bool true), f 3, f 4, f 5, f 6, f 7, sl 9 0 (xs.length + jj) (xs.length + jj), f 9, f 10, f 11, f 12, f 13, f 14, f 15, f 16, f 17, f 18, f 19, f 20, f 21, f 22, f 23, f 24, f 25, f 26, f 27, f 28, f 29, f 30, f 31, f 32, f 33, f 34, f 35, f 36, f 37, f 38, f 39, f 40, f 41, f 42, f 43, f 44, f 45]
def ra_SE (xs : List Sr) (a : Int) (c e : Nat) (u : Use) (jj : Nat) (ls : List Value) : Prop := ∃ f : Nat → Value, ls = ra_bE xs a c e u jj f ∧ JF [2, 18, 31] f
theorem ra_SE.mk {xs : List Sr} {a : Int} {c e : Nat} {u : Use} {jj : Nat} {ls : List Value} (h : ls = ra_bE xs a c e u jj (fun k => ls.getD k (I 0))) (hj : JL [2, 18, 31] 0 ls) : ra_SE xs a c e u jj ls := ⟨_, h, hj.fn⟩
def ra_K : List Keep := [.ren, .free, .free, .no, .no, .no, .no, .no, .ren, .free, .no, .no, .no, .no, .no, .no, .no, .no, .free, .no, .no, .no, .no, .no, .no, .no, .no, .no, .no, .no, .no, .free, .no, .no, .no, .no, .no, .no, .no, .no, .no, .no, .no, .no, .no, .no]
theorem ra_go (xs : List Sr) (a : Int) (c e : Nat) (u : Use) {KK : List It} {v' : Value} {A' : Heap} (hb : xs.length ≤ 500) (hn : 1 ≤ xs.length) (hend : ∀ ls, ra_SE xs a c e u xs.length ls → EndsG Tryz.prog 8 Tryz.f53 (n8 [(rS xs e u)]) v' A' (KK) ls ((n8 [(rS xs e u)]) ++ [some (.cells (srs (xs ++ (xs.take xs.length).map (miE a true))) 24 .row)])) : ∀ dd jj, jj + dd = xs.length → ∀ ls, ra_S xs a c e u jj ls → EndsG Tryz.prog 8 Tryz.f53 (n8 [(rS xs e u)]) v' A' (.code (round 0 (bodyOf 53)) :: .inLoop (round 0 (bodyOf 53)) :: .inBlock 0 :: KK) ls ((n8 [(rS xs e u)]) ++ [some (.cells (srs (xs ++ (xs.take jj).map (miE a true))) 24 .row)]) := by
  intro dd
  induction dd with
  | zero =>
    rintro jj hjj ls ⟨f, rfl, hj⟩
    have hjn : jj = xs.length := by omega
    subst hjn
    have hr := raC_p0 (f 3) (f 4) (f 5) (f 6) (f 7) (f 10) (f 11) (f 12) (f 13) (f 14) (f 15) (f 16) (f 17) (f 18) (f 19) (f 20) (f 21) (f 22) (f 23) (f 24) (f 25) (f 26) (f 27) (f 28) (f 29) (f 30) (f 31) (f 32) (f 33) (f 34) (f 35) (f 36) (f 37) (f 38) (f 39) (f 40) (f 41) (f 42) (f 43) (f 44) (f 45) ((xs.length + xs.length)) ((srs (xs ++ (xs.take xs.length).map (miE a true)))) ((srs (xs ++ (xs.take (xs.length + 1)).map (miE a true)))) (xs.length) (c) ((rS xs e u)) (a) ((rS xs 24 .row)) ((xs.length : Int)) (decide_eq_false (by first | omega | (simp; omega)))
    refine EndsG.run (k := [.code (round 0 (bodyOf 53)), .inLoop (round 0 (bodyOf 53)), .inBlock 0]) (kk := KK) prog_ok envC2_ok hr ?_
    exact hend _ (ra_SE.mk (jj := xs.length) (by kernel_rfl) (.c2 rfl (.c1 rfl (.f4 hj (.f1 hj (.c2 rfl (.f4 hj (.f1 hj (.c4 rfl (.f16 hj (.f8 hj (.f2 hj (.f1 hj .nil)))))))))))))
  | succ dd ih =>
    rintro jj hjj ls ⟨f, rfl, hj⟩
    have hlt : jj < xs.length := by omega
    have hs := srs_tmap2 (f := miE a true) (k := xs) (l := xs) (i := jj) (by omega)
    obtain ⟨ti, t1, t2, t3, t4⟩ := info_of i24'
    have hr := raA0_p0 (f 3) (f 4) (f 5) (f 6) (f 7) (f 10) (f 11) (f 12) (f 13) (f 14) (f 15) (f 16) (f 17) (f 18) (f 19) (f 20) (f 21) (f 22) (f 23) (f 24) (f 25) (f 26) (f 27) (f 28) (f 29) (f 30) (f 31) (f 32) (f 33) (f 34) (f 35) (f 36) (f 37) (f 38) (f 39) (f 40) (f 41) (f 42) (f 43) (f 44) (f 45) ((xs.length + jj)) ((srs (xs ++ (xs.take jj).map (miE a true)))) ((srs (xs ++ (xs.take (jj + 1)).map (miE a true)))) (xs.length) (c) ((rS xs e u)) (a) ((rS xs 24 .row)) ((jj : Int)) ((jj * 4)) (((xs.getD jj s0).x)) (((xs.getD jj s0).y)) (((xs.getD jj s0).g)) (((xs.getD jj s0).p)) (ix22 (by omega)) (ld24 rfl (by omega)) ((by rw [hs]; exact app_one (P := Tryz.prog) (lim := 9) (r := 9) (q := 11) (n := (xs.length + jj)) (c := (xs.length + jj)) (c' := 1) (A := (n8 [(rS xs e u), (.some (.cells (srs (xs ++ (xs.take jj).map (miE a true))) 24 .row)), (.some (.cells [(I (IntKind.i64.wrap (IntKind.i64.wrap (2 * a) - ((xs.getD jj s0).x)))), (I ((xs.getD jj s0).y)), (I (IntKind.i64.wrap (0 - ((xs.getD jj s0).g)))), (I ((xs.getD jj s0).p))] 24 .var)), (.some (.cells [(I (IntKind.i64.wrap (IntKind.i64.wrap (2 * a) - ((xs.getD jj s0).x)))), (I ((xs.getD jj s0).y)), (I (IntKind.i64.wrap (0 - ((xs.getD jj s0).g)))), (I ((xs.getD jj s0).p))] 24 .row))])) u22 t1 t2 t3 t4 rfl rfl rfl rfl (by rw [srs_len]; simp; omega) rfl rfl (by decide) (by omega) (by omega) u22)) (decide_eq_true (by first | omega | (simp; omega)))
    try rw [wrap_succ' (by omega)] at hr
    refine EndsG.round prog_ok envC2_ok hr ?_
    refine EndsG.renumS (X := [_, _, _, _]) (R := [(.some (.cells (srs (xs ++ (xs.take (jj + 1)).map (miE a true))) 24 .row))]) (ids := [12]) (m := ra_K) rfl rfl (by kernel_rfl) (.cons rfl (.plain (by first | rfl | exact srs_atoms _)) .nil) (.ren rfl (.free rfl (.free rfl (.j4 3 hj rfl (.j1 7 hj rfl (.ren rfl (.free rfl (.no rfl (.j4 11 hj rfl (.n2 rfl (.no rfl (.free rfl (.n8 rfl (.n4 rfl (.free rfl (.n8 rfl (.j4 40 hj rfl (.j2 44 hj rfl .nil)))))))))))))))))) ?_
    exact ih (jj + 1) (by omega) _ (ra_S.mk (jj := (jj + 1)) (by kernel_rfl) (.c16 rfl (.c16 rfl (.c8 rfl (.c4 rfl (.c2 rfl .nil))))))
theorem ra_end_e (xs : List Sr) (a : Int) (c e : Nat) (u : Use) (hb : xs.length ≤ 500) (hn : 1 ≤ xs.length) (hk : (chkR (xs ++ xs.map (miE a true)) != 0) = true) : ∀ ls, ra_SE xs a c e u xs.length ls → EndsG Tryz.prog 8 Tryz.f53 (n8 [(rS xs e u)]) (.tuple #[.slice none 0 0, I (chkR (xs ++ xs.map (miE a true)))]) (n8 [(rS xs e u)]) ([.code (codeR (codeR (codeR (bodyOf 53))))]) ls ((n8 [(rS xs e u)]) ++ [some (.cells (srs (xs ++ (xs.take xs.length).map (miE a true))) 24 .row)]) := by
  rintro ls ⟨f, rfl, hj⟩
  have hr := raZe_p0 (f 3) (f 4) (f 5) (f 6) (f 7) (f 9) (f 10) (f 11) (f 12) (f 13) (f 14) (f 15) (f 16) (f 17) (f 18) (f 19) (f 20) (f 21) (f 22) (f 23) (f 24) (f 25) (f 26) (f 27) (f 28) (f 29) (f 30) (f 31) (f 32) (f 33) (f 34) (f 35) (f 36) (f 37) (f 38) (f 39) (f 40) (f 41) (f 42) (f 43) (f 44) (f 45) (xs.length) (c) ((rS xs e u)) (a) ((rS xs 24 .row)) ((xs.length + xs.length)) ((srs (xs ++ (xs.take xs.length).map (miE a true)))) ((chkR (xs ++ (xs.take xs.length).map (miE a true)))) (fun lim A hA => by have := kenvC2_25_9 ⟨xs ++ (xs.take xs.length).map (miE a true), (xs.length + xs.length), 24, .row⟩ trivial lim A (by rw [hA]; rfl); rw [show (xs ++ (xs.take xs.length).map (miE a true)).length = (xs.length + xs.length) by simp] at this; exact this) (by rw [List.take_length]; exact hk)
  exact EndsG.ret (X := [_]) (v := .tuple #[(.slice .none 0 0), (I (chkR (xs ++ (xs.take xs.length).map (miE a true))))]) prog_ok envC2_ok hr rfl (by kernel_rfl) (by rw [List.take_length]; kernel_rfl)
theorem ra_says_e (xs : List Sr) (a : Int) (c e : Nat) (u : Use) (hb : xs.length ≤ 500) (hn : 1 ≤ xs.length) (hk : (chkR (xs ++ xs.map (miE a true)) != 0) = true) : SaysAt Tryz.prog 8 53 [sl 8 0 xs.length c, I a, .bool true] (n8 [(rS xs e u)]) (.tuple #[.slice none 0 0, I (chkR (xs ++ xs.map (miE a true)))]) (n8 [(rS xs e u)]) := by
  refine EndsG.says prog_ok Tryz.func53 (c := bodyOf 53) (by kernel_rfl) (by kernel_rfl) ?_
  refine EndsG.seqO (by kernel_rfl) ?_
  refine EndsG.run (k := [.code (codeL (bodyOf 53))]) prog_ok envC2_ok (raq0_p0 (xs.length) (c) ((rS xs e u)) (a) ((rS xs 24 .row)) (app_emp22 rfl rfl hn (by omega))) ?_
  refine EndsG.seqO (by kernel_rfl) ?_
  refine EndsG.run (k := [.code (codeL (codeR (bodyOf 53)))]) prog_ok envC2_ok (raq1_p0 (xs.length) (c) ((rS xs e u)) (a) ((rS xs 24 .row)) (app_emp22 rfl rfl hn (by omega))) ?_
  refine EndsG.seqO (by kernel_rfl) ?_
  refine EndsG.seqO (by kernel_rfl) ?_
  refine EndsG.run (k := [.code (codeL (codeL (codeR (codeR (bodyOf 53)))))]) prog_ok envC2_ok (raq2_p0 (xs.length) (c) ((rS xs e u)) (a) ((rS xs 24 .row)) (app_emp22 rfl rfl hn (by omega))) ?_
  refine EndsG.blockLoop (B := (round 0 (bodyOf 53))) (id := 0) (by kernel_rfl) ?_
  refine EndsG.renumS (X := [_, _]) (R := [(rS xs 24 .row)]) (ids := [10]) (m := ra_K) rfl rfl (by kernel_rfl) (.cons rfl (.plain (by first | rfl | exact srs_atoms _)) .nil) (.ren rfl (.free rfl (.free rfl (.n4 rfl (.no rfl (.ren rfl (.free rfl (.n8 rfl (.free rfl (.n8 rfl (.n4 rfl (.free rfl (.n8 rfl (.n4 rfl (.n2 rfl .nil))))))))))))))) ?_
  refine EndsG.rows (R' := [some (.cells (srs (xs ++ (xs.take 0).map (miE a true))) 24 .row)]) (by simp) ?_
  exact ra_go xs a c e u hb hn (ra_end_e xs a c e u hb hn hk) xs.length 0 (Nat.zero_add _) _ (ra_S.mk (jj := 0) (by kernel_rfl) (.c16 rfl (.c16 rfl (.c8 rfl (.c4 rfl (.c2 rfl .nil))))))
theorem ra_end_o (xs : List Sr) (a : Int) (c e : Nat) (u : Use) (hb : xs.length ≤ 500) (hn : 1 ≤ xs.length) (hk : (chkR (xs ++ xs.map (miE a true)) != 0) = false) : ∀ ls, ra_SE xs a c e u xs.length ls → EndsG Tryz.prog 8 Tryz.f53 (n8 [(rS xs e u)]) (.tuple #[sl 9 0 (xs.length + xs.length) (xs.length + xs.length), I 0]) ((n8 [(rS xs e u)]) ++ [rS (xs ++ xs.map (miE a true)) 24 .row]) ([.code (codeR (codeR (codeR (bodyOf 53))))]) ls ((n8 [(rS xs e u)]) ++ [some (.cells (srs (xs ++ (xs.take xs.length).map (miE a true))) 24 .row)]) := by
  rintro ls ⟨f, rfl, hj⟩
  have hr := raZo_p0 (f 3) (f 4) (f 5) (f 6) (f 7) (f 9) (f 10) (f 11) (f 12) (f 13) (f 14) (f 15) (f 16) (f 17) (f 18) (f 19) (f 20) (f 21) (f 22) (f 23) (f 24) (f 25) (f 26) (f 27) (f 28) (f 29) (f 30) (f 31) (f 32) (f 33) (f 34) (f 35) (f 36) (f 37) (f 38) (f 39) (f 40) (f 41) (f 42) (f 43) (f 44) (f 45) (xs.length) (c) ((rS xs e u)) (a) ((rS xs 24 .row)) ((xs.length + xs.length)) ((srs (xs ++ (xs.take xs.length).map (miE a true)))) ((chkR (xs ++ (xs.take xs.length).map (miE a true)))) (fun lim A hA => by have := kenvC2_25_9 ⟨xs ++ (xs.take xs.length).map (miE a true), (xs.length + xs.length), 24, .row⟩ trivial lim A (by rw [hA]; rfl); rw [show (xs ++ (xs.take xs.length).map (miE a true)).length = (xs.length + xs.length) by simp] at this; exact this) (by rw [List.take_length]; exact hk)
  exact EndsG.ret (X := [_]) (v := .tuple #[(sl 9 0 (xs.length + xs.length) (xs.length + xs.length)), (I 0)]) prog_ok envC2_ok hr rfl (by kernel_rfl) (by rw [List.take_length]; exact gc_of (ids := [9]) rfl rfl (keptS rfl) rfl)
theorem ra_says_o (xs : List Sr) (a : Int) (c e : Nat) (u : Use) (hb : xs.length ≤ 500) (hn : 1 ≤ xs.length) (hk : (chkR (xs ++ xs.map (miE a true)) != 0) = false) : SaysAt Tryz.prog 8 53 [sl 8 0 xs.length c, I a, .bool true] (n8 [(rS xs e u)]) (.tuple #[sl 9 0 (xs.length + xs.length) (xs.length + xs.length), I 0]) ((n8 [(rS xs e u)]) ++ [rS (xs ++ xs.map (miE a true)) 24 .row]) := by
  refine EndsG.says prog_ok Tryz.func53 (c := bodyOf 53) (by kernel_rfl) (by kernel_rfl) ?_
  refine EndsG.seqO (by kernel_rfl) ?_
  refine EndsG.run (k := [.code (codeL (bodyOf 53))]) prog_ok envC2_ok (raq0_p0 (xs.length) (c) ((rS xs e u)) (a) ((rS xs 24 .row)) (app_emp22 rfl rfl hn (by omega))) ?_
  refine EndsG.seqO (by kernel_rfl) ?_
  refine EndsG.run (k := [.code (codeL (codeR (bodyOf 53)))]) prog_ok envC2_ok (raq1_p0 (xs.length) (c) ((rS xs e u)) (a) ((rS xs 24 .row)) (app_emp22 rfl rfl hn (by omega))) ?_
  refine EndsG.seqO (by kernel_rfl) ?_
  refine EndsG.seqO (by kernel_rfl) ?_
  refine EndsG.run (k := [.code (codeL (codeL (codeR (codeR (bodyOf 53)))))]) prog_ok envC2_ok (raq2_p0 (xs.length) (c) ((rS xs e u)) (a) ((rS xs 24 .row)) (app_emp22 rfl rfl hn (by omega))) ?_
  refine EndsG.blockLoop (B := (round 0 (bodyOf 53))) (id := 0) (by kernel_rfl) ?_
  refine EndsG.renumS (X := [_, _]) (R := [(rS xs 24 .row)]) (ids := [10]) (m := ra_K) rfl rfl (by kernel_rfl) (.cons rfl (.plain (by first | rfl | exact srs_atoms _)) .nil) (.ren rfl (.free rfl (.free rfl (.n4 rfl (.no rfl (.ren rfl (.free rfl (.n8 rfl (.free rfl (.n8 rfl (.n4 rfl (.free rfl (.n8 rfl (.n4 rfl (.n2 rfl .nil))))))))))))))) ?_
  refine EndsG.rows (R' := [some (.cells (srs (xs ++ (xs.take 0).map (miE a true))) 24 .row)]) (by simp) ?_
  exact ra_go xs a c e u hb hn (ra_end_o xs a c e u hb hn hk) xs.length 0 (Nat.zero_add _) _ (ra_S.mk (jj := 0) (by kernel_rfl) (.c16 rfl (.c16 rfl (.c8 rfl (.c4 rfl (.c2 rfl .nil))))))
/-
The reference's mirror: pieces.
-/
theorem rbq0_p0  (n c : Nat) (r8 : Option ARow) (a : Int) (r10 : Option ARow) (ha0 : aAppend Tryz.prog 9 #[22, 22] (sl 9 0 0 0) (sl 8 0 n c) (n8 [r8, some (.cells [] 24 .emp)]) = some (sl 10 0 n n, (n8 [r8, some (.cells [] 24 .emp), r10]))) : Runs Tryz.prog envC2 9 [.code (codeL (bodyOf 53))] [sl 8 0 n c, I a, .bool false, U, U, U, U, U, U, U, U, U, U, U, U, U, U, U, U, U, U, U, U, U, U, U, U, U, U, U, U, U, U, U, U, U, U, U, U, U, U, U, U, U, U, U] (n8 [r8]) ([(sl 8 0 n c), I a, (.bool false), U, U, U, (.slice .none 0 0), (I 0), U, U, U, U, U, U, U, U, U, U, U, U, U, U, U, U, U, U, U, U, U, U, U, U, U, U, U, U, U, U, U, U, U, U, U, U, U, U], (n8 [r8]), none) :=
  Runs.by (n := 1000) (fid := 53) (os := []) (os' := []) (by kernel_rfl) (ObsOK.nil)
theorem rbq1_p0  (n c : Nat) (r8 : Option ARow) (a : Int) (r10 : Option ARow) (ha0 : aAppend Tryz.prog 9 #[22, 22] (sl 9 0 0 0) (sl 8 0 n c) (n8 [r8, some (.cells [] 24 .emp)]) = some (sl 10 0 n n, (n8 [r8, some (.cells [] 24 .emp), r10]))) : Runs Tryz.prog envC2 9 [.code (codeL (codeR (bodyOf 53)))] [(sl 8 0 n c), I a, (.bool false), U, U, U, (.slice .none 0 0), (I 0), U, U, U, U, U, U, U, U, U, U, U, U, U, U, U, U, U, U, U, U, U, U, U, U, U, U, U, U, U, U, U, U, U, U, U, U, U, U] (n8 [r8]) ([(sl 8 0 n c), I a, (.bool false), U, U, U, (.slice .none 0 0), (I 0), (sl 10 0 n n), U, U, U, (sl 9 0 0 0), (sl 8 0 n c), (sl 10 0 n n), U, U, U, U, U, U, U, U, U, U, U, U, U, U, U, U, U, U, U, U, U, U, U, U, U, U, U, U, U, U, U], (n8 [r8, (.some (.cells [] 24 .emp)), r10]), none) :=
  Runs.by (n := 1000) (fid := 53) (os := [.opw 53 15 (sl 10 0 n n) (n8 [r8, (.some (.cells [] 24 .emp)), r10])]) (os' := []) (by kernel_rfl) (ObsOK.both ha0 (ObsOK.nil))
theorem rbq2_p0  (n c : Nat) (r8 : Option ARow) (a : Int) (r10 : Option ARow) (ha0 : aAppend Tryz.prog 9 #[22, 22] (sl 9 0 0 0) (sl 8 0 n c) (n8 [r8, some (.cells [] 24 .emp)]) = some (sl 10 0 n n, (n8 [r8, some (.cells [] 24 .emp), r10]))) : Runs Tryz.prog envC2 9 [.code (codeL (codeL (codeR (codeR (bodyOf 53)))))] [(sl 8 0 n c), I a, (.bool false), U, U, U, (.slice .none 0 0), (I 0), (sl 10 0 n n), U, U, U, (sl 9 0 0 0), (sl 8 0 n c), (sl 10 0 n n), U, U, U, U, U, U, U, U, U, U, U, U, U, U, U, U, U, U, U, U, U, U, U, U, U, U, U, U, U, U, U] (n8 [r8, (.some (.cells [] 24 .emp)), r10]) ([(sl 8 0 n c), I a, (.bool false), U, U, U, (.slice .none 0 0), (I 0), (sl 10 0 n n), (I 0), U, U, (sl 9 0 0 0), (sl 8 0 n c), (sl 10 0 n n), U, U, U, U, U, U, U, U, U, U, U, U, U, U, U, U, U, U, U, U, U, U, U, U, U, U, U, U, U, U, U], (n8 [r8, (.some (.cells [] 24 .emp)), r10]), none) :=
  Runs.by (n := 1000) (fid := 53) (os := []) (os' := []) (by kernel_rfl) (ObsOK.nil)
theorem rbA0_p0 (v3 v4 v5 v6 v7 v10 v11 v12 v13 v14 v15 v16 v17 v18 v19 v20 v21 v22 v23 v24 v25 v26 v27 v28 v29 v30 v31 v32 v33 v34 v35 v36 v37 v38 v39 v40 v41 v42 v43 v44 v45 : Value) (mm : Nat) (cs cs2 : List Value) (n c : Nat) (r8 : Option ARow) (a : Int) (r10 : Option ARow) (i : Int) (k8 : Nat) (z8x z8y z8g z8p : Int) (hx8 : aIndexAddr Tryz.prog 22 (sl 8 0 n c) (I i) = some (pt 8 k8)) (hl8 : aLoad Tryz.prog 24 (pt 8 k8) (n8 [r8, some (.cells cs 24 .row)]) = some (.agg #[I z8x, I z8y, I z8g, I z8p])) (ha : aAppend Tryz.prog 9 #[22, 22] (sl 9 0 mm mm) (sl 11 0 1 1) (n8 [r8, (.some (.cells cs 24 .row)), (.some (.cells [(I (IntKind.i64.wrap (IntKind.i64.wrap (2 * a) - z8x))), I z8y, I z8g, I z8p] 24 .var)), (.some (.cells [(I (IntKind.i64.wrap (IntKind.i64.wrap (2 * a) - z8x))), I z8y, I z8g, I z8p] 24 .row))]) = some (sl 12 0 (mm + 1) (mm + 1), (n8 [r8, none, (.some (.cells [(I (IntKind.i64.wrap (IntKind.i64.wrap (2 * a) - z8x))), I z8y, I z8g, I z8p] 24 .var)), (.some (.cells [(I (IntKind.i64.wrap (IntKind.i64.wrap (2 * a) - z8x))), I z8y, I z8g, I z8p] 24 .row)), some (.cells cs2 24 .row)]))) (f1 : decide (i < (n : Int)) = true) : Runs Tryz.prog envC2 9 [.code (round 0 (bodyOf 53))] [(sl 8 0 n c), I a, (.bool false), v3, v4, v5, v6, v7, sl 9 0 mm mm, I i, v10, v11, v12, v13, v14, v15, v16, v17, v18, v19, v20, v21, v22, v23, v24, v25, v26, v27, v28, v29, v30, v31, v32, v33, v34, v35, v36, v37, v38, v39, v40, v41, v42, v43, v44, v45] (n8 [r8, some (.cells cs 24 .row)]) ([(sl 8 0 n c), I a, (.bool false), v3, v4, v5, v6, v7, (sl 12 0 (mm + 1) (mm + 1)), (I (IntKind.i64.wrap (i + 1))), (pt 10 0), v11, v12, v13, v14, I i, (sl 8 0 n c), (I ((n : Int))), (.bool (decide (i < (n : Int)))), I i, (I (IntKind.i64.wrap (i + 1))), (sl 8 0 n c), I i, (pt 8 k8), (.agg #[I z8x, I z8y, I z8g, I z8p]), I a, (I (IntKind.i64.wrap (2 * a))), (pt 10 0), I z8x, (I (IntKind.i64.wrap (IntKind.i64.wrap (2 * a) - z8x))), (pt 10 0), (.bool false), v32, v33, v34, v35, (sl 9 0 mm mm), (.agg #[(I (IntKind.i64.wrap (IntKind.i64.wrap (2 * a) - z8x))), I z8y, I z8g, I z8p]), (sl 11 0 1 1), (sl 12 0 (mm + 1) (mm + 1)), v40, v41, v42, v43, v44, v45], (n8 [r8, .none, (.some (.cells [(I (IntKind.i64.wrap (IntKind.i64.wrap (2 * a) - z8x))), I z8y, I z8g, I z8p] 24 .var)), (.some (.cells [(I (IntKind.i64.wrap (IntKind.i64.wrap (2 * a) - z8x))), I z8y, I z8g, I z8p] 24 .row)), (.some (.cells cs2 24 .row))]), none) :=
  Runs.by (n := 1000) (fid := 53) (os := [.br 53 38 true, .op 53 24 (pt 8 k8), .op 53 25 (.agg #[I z8x, I z8y, I z8g, I z8p]), .opw 53 40 (sl 12 0 (mm + 1) (mm + 1)) (n8 [r8, .none, (.some (.cells [(I (IntKind.i64.wrap (IntKind.i64.wrap (2 * a) - z8x))), I z8y, I z8g, I z8p] 24 .var)), (.some (.cells [(I (IntKind.i64.wrap (IntKind.i64.wrap (2 * a) - z8x))), I z8y, I z8g, I z8p] 24 .row)), (.some (.cells cs2 24 .row))])]) (os' := []) (by kernel_rfl) (ObsOK.cond f1 (ObsOK.val hx8 (ObsOK.val hl8 (ObsOK.both ha (ObsOK.nil)))))
theorem rbC_p0 (v3 v4 v5 v6 v7 v10 v11 v12 v13 v14 v15 v16 v17 v18 v19 v20 v21 v22 v23 v24 v25 v26 v27 v28 v29 v30 v31 v32 v33 v34 v35 v36 v37 v38 v39 v40 v41 v42 v43 v44 v45 : Value) (mm : Nat) (cs cs2 : List Value) (n c : Nat) (r8 : Option ARow) (a : Int) (r10 : Option ARow) (i : Int) (f1 : decide (i < (n : Int)) = false) : Runs Tryz.prog envC2 9 [.code (round 0 (bodyOf 53)), .inLoop (round 0 (bodyOf 53)), .inBlock 0] [(sl 8 0 n c), I a, (.bool false), v3, v4, v5, v6, v7, sl 9 0 mm mm, I i, v10, v11, v12, v13, v14, v15, v16, v17, v18, v19, v20, v21, v22, v23, v24, v25, v26, v27, v28, v29, v30, v31, v32, v33, v34, v35, v36, v37, v38, v39, v40, v41, v42, v43, v44, v45] (n8 [r8, some (.cells cs 24 .row)]) ([(sl 8 0 n c), I a, (.bool false), v3, v4, v5, v6, v7, (sl 9 0 mm mm), I i, v10, v11, v12, v13, v14, I i, (sl 8 0 n c), (I ((n : Int))), (.bool (decide (i < (n : Int)))), v19, v20, v21, v22, v23, v24, v25, v26, v27, v28, v29, v30, v31, v32, v33, v34, v35, v36, v37, v38, v39, v40, v41, v42, v43, v44, v45], (n8 [r8, (.some (.cells cs 24 .row))]), none) :=
  Runs.by (n := 1000) (fid := 53) (os := [.br 53 38 false]) (os' := []) (by kernel_rfl) (ObsOK.cond f1 (ObsOK.nil))
theorem rbZe_p0 (v3 v4 v5 v6 v7 v9 v10 v11 v12 v13 v14 v15 v16 v17 v18 v19 v20 v21 v22 v23 v24 v25 v26 v27 v28 v29 v30 v31 v32 v33 v34 v35 v36 v37 v38 v39 v40 v41 v42 v43 v44 v45 : Value) (n c : Nat) (r8 : Option ARow) (a : Int) (r10 : Option ARow) (mm : Nat) (cs : List Value) (k : Int) (h25 : ∀ (lim : Nat) (A : Heap), hget A 9 = some (.cells cs 24 .row) → Gives Tryz.prog envC2 lim 25 [sl 9 0 mm mm] A (I k, A)) (fz : (k != 0) = true) : Runs Tryz.prog envC2 9 [.code (codeR (codeR (codeR (bodyOf 53))))] [(sl 8 0 n c), I a, (.bool false), v3, v4, v5, v6, v7, sl 9 0 mm mm, v9, v10, v11, v12, v13, v14, v15, v16, v17, v18, v19, v20, v21, v22, v23, v24, v25, v26, v27, v28, v29, v30, v31, v32, v33, v34, v35, v36, v37, v38, v39, v40, v41, v42, v43, v44, v45] (n8 [r8, some (.cells cs 24 .row)]) ([(sl 8 0 n c), I a, (.bool false), v3, v4, v5, (.slice .none 0 0), I k, (sl 9 0 mm mm), v9, v10, I k, v12, v13, v14, v15, v16, v17, v18, v19, v20, v21, v22, v23, v24, v25, v26, v27, v28, v29, v30, v31, v32, v33, v34, v35, v36, v37, v38, v39, (sl 9 0 mm mm), I k, I k, (.bool (k != 0)), I k, v45], (n8 [r8, (.some (.cells cs 24 .row))]), some .ret) :=
  Runs.by (n := 1000) (fid := 53) (os := [.opw 53 42 (I k) (n8 [r8, (.some (.cells cs 24 .row))]), .br 53 88 true]) (os' := []) (by kernel_rfl) (ObsOK.call (h25 9 (n8 [r8, (.some (.cells cs 24 .row))]) (by kernel_rfl)) (ObsOK.cond fz (ObsOK.nil)))
theorem rbZo_p0 (v3 v4 v5 v6 v7 v9 v10 v11 v12 v13 v14 v15 v16 v17 v18 v19 v20 v21 v22 v23 v24 v25 v26 v27 v28 v29 v30 v31 v32 v33 v34 v35 v36 v37 v38 v39 v40 v41 v42 v43 v44 v45 : Value) (n c : Nat) (r8 : Option ARow) (a : Int) (r10 : Option ARow) (mm : Nat) (cs : List Value) (k : Int) (h25 : ∀ (lim : Nat) (A : Heap), hget A 9 = some (.cells cs 24 .row) → Gives Tryz.prog envC2 lim 25 [sl 9 0 mm mm] A (I k, A)) (fz : (k != 0) = false) : Runs Tryz.prog envC2 9 [.code (codeR (codeR (codeR (bodyOf 53))))] [(sl 8 0 n c), I a, (.bool false), v3, v4, v5, v6, v7, sl 9 0 mm mm, v9, v10, v11, v12, v13, v14, v15, v16, v17, v18, v19, v20, v21, v22, v23, v24, v25, v26, v27, v28, v29, v30, v31, v32, v33, v34, v35, v36, v37, v38, v39, v40, v41, v42, v43, v44, v45] (n8 [r8, some (.cells cs 24 .row)]) ([(sl 8 0 n c), I a, (.bool false), v3, v4, v5, (sl 9 0 mm mm), (I 0), (sl 9 0 mm mm), v9, v10, I k, v12, v13, v14, v15, v16, v17, v18, v19, v20, v21, v22, v23, v24, v25, v26, v27, v28, v29, v30, v31, v32, v33, v34, v35, v36, v37, v38, v39, (sl 9 0 mm mm), I k, I k, (.bool (k != 0)), v44, (sl 9 0 mm mm)], (n8 [r8, (.some (.cells cs 24 .row))]), some .ret) :=
  Runs.by (n := 1000) (fid := 53) (os := [.opw 53 42 (I k) (n8 [r8, (.some (.cells cs 24 .row))]), .br 53 88 false]) (os' := []) (by kernel_rfl) (ObsOK.call (h25 9 (n8 [r8, (.some (.cells cs 24 .row))]) (by kernel_rfl)) (ObsOK.cond fz (ObsOK.nil)))
/-
The reference's mirror.
-/
def rb_b (xs : List Sr) (a : Int) (c e : Nat) (u : Use) (jj : Nat) (f : Nat → Value) : List Value := [(sl 8 0 xs.length c), I a, (.bool false), f 3, f 4, f 5, f 6, f 7, sl 9 0 (xs.length + jj) (xs.length + jj), I (jj : Int), f 10, f 11, f 12, f 13, f 14, f 15, f 16, f 17, f 18, f 19, f 20, f 21, f 22, f 23, f 24, f 25, f 26, f 27, f 28, f 29, f 30, f 31, f 32, f 33, f 34, f 35, f 36, f 37, f 38, f 39, f 40, f 41, f 42, f 43, f 44, f 45]
def rb_S (xs : List Sr) (a : Int) (c e : Nat) (u : Use) (jj : Nat) (ls : List Value) : Prop := ∃ f : Nat → Value, ls = rb_b xs a c e u jj f ∧ JF [2, 18, 31] f
theorem rb_S.mk {xs : List Sr} {a : Int} {c e : Nat} {u : Use} {jj : Nat} {ls : List Value} (h : ls = rb_b xs a c e u jj (fun k => ls.getD k (I 0))) (hj : JL [2, 18, 31] 0 ls) : rb_S xs a c e u jj ls := ⟨_, h, hj.fn⟩
def rb_bE (xs : List Sr) (a : Int) (c e : Nat) (u : Use) (jj : Nat) (f : Nat → Value) : List Value := [(sl 8 0 xs.length c), I a, (.bool false), f 3, f 4, f 5, f 6, f 7, sl 9 0 (xs.length + jj) (xs.length + jj), f 9, f 10, f 11, f 12, f 13, f 14, f 15, f 16, f 17, f 18, f 19, f 20, f 21, f 22, f 23, f 24, f 25, f 26, f 27, f 28, f 29, f 30, f 31, f 32, f 33, f 34, f 35, f 36, f 37, f 38, f 39, f 40, f 41, f 42, f 43, f 44, f 45]
def rb_SE (xs : List Sr) (a : Int) (c e : Nat) (u : Use) (jj : Nat) (ls : List Value) : Prop := ∃ f : Nat → Value, ls = rb_bE xs a c e u jj f ∧ JF [2, 18, 31] f
theorem rb_SE.mk {xs : List Sr} {a : Int} {c e : Nat} {u : Use} {jj : Nat} {ls : List Value} (h : ls = rb_bE xs a c e u jj (fun k => ls.getD k (I 0))) (hj : JL [2, 18, 31] 0 ls) : rb_SE xs a c e u jj ls := ⟨_, h, hj.fn⟩
def rb_K : List Keep := [.ren, .free, .free, .no, .no, .no, .no, .no, .ren, .free, .no, .no, .no, .no, .no, .no, .no, .no, .free, .no, .no, .no, .no, .no, .no, .no, .no, .no, .no, .no, .no, .free, .no, .no, .no, .no, .no, .no, .no, .no, .no, .no, .no, .no, .no, .no]
theorem rb_go (xs : List Sr) (a : Int) (c e : Nat) (u : Use) {KK : List It} {v' : Value} {A' : Heap} (hb : xs.length ≤ 500) (hn : 1 ≤ xs.length) (hend : ∀ ls, rb_SE xs a c e u xs.length ls → EndsG Tryz.prog 8 Tryz.f53 (n8 [(rS xs e u)]) v' A' (KK) ls ((n8 [(rS xs e u)]) ++ [some (.cells (srs (xs ++ (xs.take xs.length).map (miE a false))) 24 .row)])) : ∀ dd jj, jj + dd = xs.length → ∀ ls, rb_S xs a c e u jj ls → EndsG Tryz.prog 8 Tryz.f53 (n8 [(rS xs e u)]) v' A' (.code (round 0 (bodyOf 53)) :: .inLoop (round 0 (bodyOf 53)) :: .inBlock 0 :: KK) ls ((n8 [(rS xs e u)]) ++ [some (.cells (srs (xs ++ (xs.take jj).map (miE a false))) 24 .row)]) := by
  intro dd
  induction dd with
  | zero =>
    rintro jj hjj ls ⟨f, rfl, hj⟩
    have hjn : jj = xs.length := by omega
    subst hjn
    have hr := rbC_p0 (f 3) (f 4) (f 5) (f 6) (f 7) (f 10) (f 11) (f 12) (f 13) (f 14) (f 15) (f 16) (f 17) (f 18) (f 19) (f 20) (f 21) (f 22) (f 23) (f 24) (f 25) (f 26) (f 27) (f 28) (f 29) (f 30) (f 31) (f 32) (f 33) (f 34) (f 35) (f 36) (f 37) (f 38) (f 39) (f 40) (f 41) (f 42) (f 43) (f 44) (f 45) ((xs.length + xs.length)) ((srs (xs ++ (xs.take xs.length).map (miE a false)))) ((srs (xs ++ (xs.take (xs.length + 1)).map (miE a false)))) (xs.length) (c) ((rS xs e u)) (a) ((rS xs 24 .row)) ((xs.length : Int)) (decide_eq_false (by first | omega | (simp; omega)))
    refine EndsG.run (k := [.code (round 0 (bodyOf 53)), .inLoop (round 0 (bodyOf 53)), .inBlock 0]) (kk := KK) prog_ok envC2_ok hr ?_
    exact hend _ (rb_SE.mk (jj := xs.length) (by kernel_rfl) (.c2 rfl (.c1 rfl (.f4 hj (.f1 hj (.c2 rfl (.f4 hj (.f1 hj (.c4 rfl (.f16 hj (.f8 hj (.f2 hj (.f1 hj .nil)))))))))))))
  | succ dd ih =>
    rintro jj hjj ls ⟨f, rfl, hj⟩
    have hlt : jj < xs.length := by omega
    have hs := srs_tmap2 (f := miE a false) (k := xs) (l := xs) (i := jj) (by omega)
    obtain ⟨ti, t1, t2, t3, t4⟩ := info_of i24'
    have hr := rbA0_p0 (f 3) (f 4) (f 5) (f 6) (f 7) (f 10) (f 11) (f 12) (f 13) (f 14) (f 15) (f 16) (f 17) (f 18) (f 19) (f 20) (f 21) (f 22) (f 23) (f 24) (f 25) (f 26) (f 27) (f 28) (f 29) (f 30) (f 31) (f 32) (f 33) (f 34) (f 35) (f 36) (f 37) (f 38) (f 39) (f 40) (f 41) (f 42) (f 43) (f 44) (f 45) ((xs.length + jj)) ((srs (xs ++ (xs.take jj).map (miE a false)))) ((srs (xs ++ (xs.take (jj + 1)).map (miE a false)))) (xs.length) (c) ((rS xs e u)) (a) ((rS xs 24 .row)) ((jj : Int)) ((jj * 4)) (((xs.getD jj s0).x)) (((xs.getD jj s0).y)) (((xs.getD jj s0).g)) (((xs.getD jj s0).p)) (ix22 (by omega)) (ld24 rfl (by omega)) ((by rw [hs]; exact app_one (P := Tryz.prog) (lim := 9) (r := 9) (q := 11) (n := (xs.length + jj)) (c := (xs.length + jj)) (c' := 1) (A := (n8 [(rS xs e u), (.some (.cells (srs (xs ++ (xs.take jj).map (miE a false))) 24 .row)), (.some (.cells [(I (IntKind.i64.wrap (IntKind.i64.wrap (2 * a) - ((xs.getD jj s0).x)))), (I ((xs.getD jj s0).y)), (I ((xs.getD jj s0).g)), (I ((xs.getD jj s0).p))] 24 .var)), (.some (.cells [(I (IntKind.i64.wrap (IntKind.i64.wrap (2 * a) - ((xs.getD jj s0).x)))), (I ((xs.getD jj s0).y)), (I ((xs.getD jj s0).g)), (I ((xs.getD jj s0).p))] 24 .row))])) u22 t1 t2 t3 t4 rfl rfl rfl rfl (by rw [srs_len]; simp; omega) rfl rfl (by decide) (by omega) (by omega) u22)) (decide_eq_true (by first | omega | (simp; omega)))
    try rw [wrap_succ' (by omega)] at hr
    refine EndsG.round prog_ok envC2_ok hr ?_
    refine EndsG.renumS (X := [_, _, _, _]) (R := [(.some (.cells (srs (xs ++ (xs.take (jj + 1)).map (miE a false))) 24 .row))]) (ids := [12]) (m := rb_K) rfl rfl (by kernel_rfl) (.cons rfl (.plain (by first | rfl | exact srs_atoms _)) .nil) (.ren rfl (.free rfl (.free rfl (.j4 3 hj rfl (.j1 7 hj rfl (.ren rfl (.free rfl (.no rfl (.j4 11 hj rfl (.n2 rfl (.no rfl (.free rfl (.n8 rfl (.n4 rfl (.free rfl (.j4 32 hj rfl (.n4 rfl (.j4 40 hj rfl (.j2 44 hj rfl .nil))))))))))))))))))) ?_
    exact ih (jj + 1) (by omega) _ (rb_S.mk (jj := (jj + 1)) (by kernel_rfl) (.c16 rfl (.c16 rfl (.c8 rfl (.c4 rfl (.c2 rfl .nil))))))
theorem rb_end_e (xs : List Sr) (a : Int) (c e : Nat) (u : Use) (hb : xs.length ≤ 500) (hn : 1 ≤ xs.length) (hk : (chkR (xs ++ xs.map (miE a false)) != 0) = true) : ∀ ls, rb_SE xs a c e u xs.length ls → EndsG Tryz.prog 8 Tryz.f53 (n8 [(rS xs e u)]) (.tuple #[.slice none 0 0, I (chkR (xs ++ xs.map (miE a false)))]) (n8 [(rS xs e u)]) ([.code (codeR (codeR (codeR (bodyOf 53))))]) ls ((n8 [(rS xs e u)]) ++ [some (.cells (srs (xs ++ (xs.take xs.length).map (miE a false))) 24 .row)]) := by
  rintro ls ⟨f, rfl, hj⟩
  have hr := rbZe_p0 (f 3) (f 4) (f 5) (f 6) (f 7) (f 9) (f 10) (f 11) (f 12) (f 13) (f 14) (f 15) (f 16) (f 17) (f 18) (f 19) (f 20) (f 21) (f 22) (f 23) (f 24) (f 25) (f 26) (f 27) (f 28) (f 29) (f 30) (f 31) (f 32) (f 33) (f 34) (f 35) (f 36) (f 37) (f 38) (f 39) (f 40) (f 41) (f 42) (f 43) (f 44) (f 45) (xs.length) (c) ((rS xs e u)) (a) ((rS xs 24 .row)) ((xs.length + xs.length)) ((srs (xs ++ (xs.take xs.length).map (miE a false)))) ((chkR (xs ++ (xs.take xs.length).map (miE a false)))) (fun lim A hA => by have := kenvC2_25_9 ⟨xs ++ (xs.take xs.length).map (miE a false), (xs.length + xs.length), 24, .row⟩ trivial lim A (by rw [hA]; rfl); rw [show (xs ++ (xs.take xs.length).map (miE a false)).length = (xs.length + xs.length) by simp] at this; exact this) (by rw [List.take_length]; exact hk)
  exact EndsG.ret (X := [_]) (v := .tuple #[(.slice .none 0 0), (I (chkR (xs ++ (xs.take xs.length).map (miE a false))))]) prog_ok envC2_ok hr rfl (by kernel_rfl) (by rw [List.take_length]; kernel_rfl)
theorem rb_says_e (xs : List Sr) (a : Int) (c e : Nat) (u : Use) (hb : xs.length ≤ 500) (hn : 1 ≤ xs.length) (hk : (chkR (xs ++ xs.map (miE a false)) != 0) = true) : SaysAt Tryz.prog 8 53 [sl 8 0 xs.length c, I a, .bool false] (n8 [(rS xs e u)]) (.tuple #[.slice none 0 0, I (chkR (xs ++ xs.map (miE a false)))]) (n8 [(rS xs e u)]) := by
  refine EndsG.says prog_ok Tryz.func53 (c := bodyOf 53) (by kernel_rfl) (by kernel_rfl) ?_
  refine EndsG.seqO (by kernel_rfl) ?_
  refine EndsG.run (k := [.code (codeL (bodyOf 53))]) prog_ok envC2_ok (rbq0_p0 (xs.length) (c) ((rS xs e u)) (a) ((rS xs 24 .row)) (app_emp22 rfl rfl hn (by omega))) ?_
  refine EndsG.seqO (by kernel_rfl) ?_
  refine EndsG.run (k := [.code (codeL (codeR (bodyOf 53)))]) prog_ok envC2_ok (rbq1_p0 (xs.length) (c) ((rS xs e u)) (a) ((rS xs 24 .row)) (app_emp22 rfl rfl hn (by omega))) ?_
  refine EndsG.seqO (by kernel_rfl) ?_
  refine EndsG.seqO (by kernel_rfl) ?_
  refine EndsG.run (k := [.code (codeL (codeL (codeR (codeR (bodyOf 53)))))]) prog_ok envC2_ok (rbq2_p0 (xs.length) (c) ((rS xs e u)) (a) ((rS xs 24 .row)) (app_emp22 rfl rfl hn (by omega))) ?_
  refine EndsG.blockLoop (B := (round 0 (bodyOf 53))) (id := 0) (by kernel_rfl) ?_
  refine EndsG.renumS (X := [_, _]) (R := [(rS xs 24 .row)]) (ids := [10]) (m := rb_K) rfl rfl (by kernel_rfl) (.cons rfl (.plain (by first | rfl | exact srs_atoms _)) .nil) (.ren rfl (.free rfl (.free rfl (.n4 rfl (.no rfl (.ren rfl (.free rfl (.n8 rfl (.free rfl (.n8 rfl (.n4 rfl (.free rfl (.n8 rfl (.n4 rfl (.n2 rfl .nil))))))))))))))) ?_
  refine EndsG.rows (R' := [some (.cells (srs (xs ++ (xs.take 0).map (miE a false))) 24 .row)]) (by simp) ?_
  exact rb_go xs a c e u hb hn (rb_end_e xs a c e u hb hn hk) xs.length 0 (Nat.zero_add _) _ (rb_S.mk (jj := 0) (by kernel_rfl) (.c16 rfl (.c16 rfl (.c8 rfl (.c4 rfl (.c2 rfl .nil))))))
theorem rb_end_o (xs : List Sr) (a : Int) (c e : Nat) (u : Use) (hb : xs.length ≤ 500) (hn : 1 ≤ xs.length) (hk : (chkR (xs ++ xs.map (miE a false)) != 0) = false) : ∀ ls, rb_SE xs a c e u xs.length ls → EndsG Tryz.prog 8 Tryz.f53 (n8 [(rS xs e u)]) (.tuple #[sl 9 0 (xs.length + xs.length) (xs.length + xs.length), I 0]) ((n8 [(rS xs e u)]) ++ [rS (xs ++ xs.map (miE a false)) 24 .row]) ([.code (codeR (codeR (codeR (bodyOf 53))))]) ls ((n8 [(rS xs e u)]) ++ [some (.cells (srs (xs ++ (xs.take xs.length).map (miE a false))) 24 .row)]) := by
  rintro ls ⟨f, rfl, hj⟩
  have hr := rbZo_p0 (f 3) (f 4) (f 5) (f 6) (f 7) (f 9) (f 10) (f 11) (f 12) (f 13) (f 14) (f 15) (f 16) (f 17) (f 18) (f 19) (f 20) (f 21) (f 22) (f 23) (f 24) (f 25) (f 26) (f 27) (f 28) (f 29) (f 30) (f 31) (f 32) (f 33) (f 34) (f 35) (f 36) (f 37) (f 38) (f 39) (f 40) (f 41) (f 42) (f 43) (f 44) (f 45) (xs.length) (c) ((rS xs e u)) (a) ((rS xs 24 .row)) ((xs.length + xs.length)) ((srs (xs ++ (xs.take xs.length).map (miE a false)))) ((chkR (xs ++ (xs.take xs.length).map (miE a false)))) (fun lim A hA => by have := kenvC2_25_9 ⟨xs ++ (xs.take xs.length).map (miE a false), (xs.length + xs.length), 24, .row⟩ trivial lim A (by rw [hA]; rfl); rw [show (xs ++ (xs.take xs.length).map (miE a false)).length = (xs.length + xs.length) by simp] at this; exact this) (by rw [List.take_length]; exact hk)
  exact EndsG.ret (X := [_]) (v := .tuple #[(sl 9 0 (xs.length + xs.length) (xs.length + xs.length)), (I 0)]) prog_ok envC2_ok hr rfl (by kernel_rfl) (by rw [List.take_length]; exact gc_of (ids := [9]) rfl rfl (keptS rfl) rfl)
theorem rb_says_o (xs : List Sr) (a : Int) (c e : Nat) (u : Use) (hb : xs.length ≤ 500) (hn : 1 ≤ xs.length) (hk : (chkR (xs ++ xs.map (miE a false)) != 0) = false) : SaysAt Tryz.prog 8 53 [sl 8 0 xs.length c, I a, .bool false] (n8 [(rS xs e u)]) (.tuple #[sl 9 0 (xs.length + xs.length) (xs.length + xs.length), I 0]) ((n8 [(rS xs e u)]) ++ [rS (xs ++ xs.map (miE a false)) 24 .row]) := by
  refine EndsG.says prog_ok Tryz.func53 (c := bodyOf 53) (by kernel_rfl) (by kernel_rfl) ?_
  refine EndsG.seqO (by kernel_rfl) ?_
  refine EndsG.run (k := [.code (codeL (bodyOf 53))]) prog_ok envC2_ok (rbq0_p0 (xs.length) (c) ((rS xs e u)) (a) ((rS xs 24 .row)) (app_emp22 rfl rfl hn (by omega))) ?_
  refine EndsG.seqO (by kernel_rfl) ?_
  refine EndsG.run (k := [.code (codeL (codeR (bodyOf 53)))]) prog_ok envC2_ok (rbq1_p0 (xs.length) (c) ((rS xs e u)) (a) ((rS xs 24 .row)) (app_emp22 rfl rfl hn (by omega))) ?_
  refine EndsG.seqO (by kernel_rfl) ?_
  refine EndsG.seqO (by kernel_rfl) ?_
  refine EndsG.run (k := [.code (codeL (codeL (codeR (codeR (bodyOf 53)))))]) prog_ok envC2_ok (rbq2_p0 (xs.length) (c) ((rS xs e u)) (a) ((rS xs 24 .row)) (app_emp22 rfl rfl hn (by omega))) ?_
  refine EndsG.blockLoop (B := (round 0 (bodyOf 53))) (id := 0) (by kernel_rfl) ?_
  refine EndsG.renumS (X := [_, _]) (R := [(rS xs 24 .row)]) (ids := [10]) (m := rb_K) rfl rfl (by kernel_rfl) (.cons rfl (.plain (by first | rfl | exact srs_atoms _)) .nil) (.ren rfl (.free rfl (.free rfl (.n4 rfl (.no rfl (.ren rfl (.free rfl (.n8 rfl (.free rfl (.n8 rfl (.n4 rfl (.free rfl (.n8 rfl (.n4 rfl (.n2 rfl .nil))))))))))))))) ?_
  refine EndsG.rows (R' := [some (.cells (srs (xs ++ (xs.take 0).map (miE a false))) 24 .row)]) (by simp) ?_
  exact rb_go xs a c e u hb hn (rb_end_o xs a c e u hb hn hk) xs.length 0 (Nat.zero_add _) _ (rb_S.mk (jj := 0) (by kernel_rfl) (.c16 rfl (.c16 rfl (.c8 rfl (.c4 rfl (.c2 rfl .nil))))))
/-
Lists compared: pieces.
-/
theorem smq0_p0  (n c : Nat) (r8 : Option ARow) (c2 : Nat) (r9 : Option ARow) (f0 : ((n : Int) != (n : Int)) = false) : Runs Tryz.prog envB 10 [.code (codeL (bodyOf 76))] [sl 8 0 n c, sl 9 0 n c2, U, U, U, U, U, U, U, U, U, U, U, U, U, U, U, U, U, U, U, U, U, U, U, U] (n8 [r8, r9]) ([(sl 8 0 n c), (sl 9 0 n c2), U, U, (.bool false), U, U, U, U, U, U, U, U, U, U, U, U, U, U, U, U, U, U, U, U, U], (n8 [r8, r9]), none) :=
  Runs.by (n := 1000) (fid := 76) (os := []) (os' := []) (by kernel_rfl) (ObsOK.nil)
theorem smq1_p0  (n c : Nat) (r8 : Option ARow) (c2 : Nat) (r9 : Option ARow) (f0 : ((n : Int) != (n : Int)) = false) : Runs Tryz.prog envB 10 [.code (codeL (codeR (bodyOf 76)))] [(sl 8 0 n c), (sl 9 0 n c2), U, U, (.bool false), U, U, U, U, U, U, U, U, U, U, U, U, U, U, U, U, U, U, U, U, U] (n8 [r8, r9]) ([(sl 8 0 n c), (sl 9 0 n c2), U, U, (.bool false), U, (sl 8 0 n c), (I ((n : Int))), (sl 9 0 n c2), (I ((n : Int))), (.bool ((n : Int) != (n : Int))), U, U, U, U, U, U, U, U, U, U, U, U, U, U, U], (n8 [r8, r9]), none) :=
  Runs.by (n := 1000) (fid := 76) (os := [.br 76 22 false]) (os' := []) (by kernel_rfl) (ObsOK.cond f0 (ObsOK.nil))
theorem smq2_p0  (n c : Nat) (r8 : Option ARow) (c2 : Nat) (r9 : Option ARow) (f0 : ((n : Int) != (n : Int)) = false) : Runs Tryz.prog envB 10 [.code (codeL (codeL (codeR (codeR (bodyOf 76)))))] [(sl 8 0 n c), (sl 9 0 n c2), U, U, (.bool false), U, (sl 8 0 n c), (I ((n : Int))), (sl 9 0 n c2), (I ((n : Int))), (.bool ((n : Int) != (n : Int))), U, U, U, U, U, U, U, U, U, U, U, U, U, U, U] (n8 [r8, r9]) ([(sl 8 0 n c), (sl 9 0 n c2), U, U, (.bool false), (I 0), (sl 8 0 n c), (I ((n : Int))), (sl 9 0 n c2), (I ((n : Int))), (.bool ((n : Int) != (n : Int))), U, U, U, U, U, U, U, U, U, U, U, U, U, U, U], (n8 [r8, r9]), none) :=
  Runs.by (n := 1000) (fid := 76) (os := []) (os' := []) (by kernel_rfl) (ObsOK.nil)
theorem smB0_p0 (v2 v3 v4 v6 v7 v8 v9 v10 v11 v12 v13 v14 v15 v16 v17 v18 v19 v20 v21 v22 v23 v24 v25 : Value) (n c : Nat) (r8 : Option ARow) (c2 : Nat) (r9 : Option ARow) (i : Int) (k8 : Nat) (z8x z8y z8g z8p : Int) (hx8 : aIndexAddr Tryz.prog 22 (sl 8 0 n c) (I i) = some (pt 8 k8)) (hl8 : aLoad Tryz.prog 24 (pt 8 k8) (n8 [r8, r9]) = some (.agg #[I z8x, I z8y, I z8g, I z8p])) (k9 : Nat) (z9x z9y z9g z9p : Int) (hx9 : aIndexAddr Tryz.prog 22 (sl 9 0 n c2) (I i) = some (pt 9 k9)) (hl9 : aLoad Tryz.prog 24 (pt 9 k9) (n8 [r8, r9]) = some (.agg #[I z9x, I z9y, I z9g, I z9p])) (f1 : decide (i < (n : Int)) = true) (g0 : (!(z8x == z9x && (z8y == z9y && (z8g == z9g && (z8p == z9p && true))))) = true) : Runs Tryz.prog envB 10 [.code (round 0 (bodyOf 76))] [(sl 8 0 n c), (sl 9 0 n c2), v2, v3, v4, I i, v6, v7, v8, v9, v10, v11, v12, v13, v14, v15, v16, v17, v18, v19, v20, v21, v22, v23, v24, v25] (n8 [r8, r9]) ([(sl 8 0 n c), (sl 9 0 n c2), v2, v3, (.bool false), I i, v6, v7, v8, v9, v10, I i, (sl 8 0 n c), (I ((n : Int))), (.bool (decide (i < (n : Int)))), v15, v16, (sl 8 0 n c), I i, (pt 8 k8), (.agg #[I z8x, I z8y, I z8g, I z8p]), (sl 9 0 n c2), I i, (pt 9 k9), (.agg #[I z9x, I z9y, I z9g, I z9p]), (.bool (!(z8x == z9x && (z8y == z9y && (z8g == z9g && (z8p == z9p && true))))))], (n8 [r8, r9]), some .ret) :=
  Runs.by (n := 1000) (fid := 76) (os := [.br 76 30 true, .op 76 20 (pt 8 k8), .op 76 21 (.agg #[I z8x, I z8y, I z8g, I z8p]), .op 76 24 (pt 9 k9), .op 76 25 (.agg #[I z9x, I z9y, I z9g, I z9p]), .br 76 52 true]) (os' := []) (by kernel_rfl) (ObsOK.cond f1 (ObsOK.val hx8 (ObsOK.val hl8 (ObsOK.val hx9 (ObsOK.val hl9 (ObsOK.cond g0 (ObsOK.nil)))))))
theorem smA0_p0 (v2 v3 v4 v6 v7 v8 v9 v10 v11 v12 v13 v14 v15 v16 v17 v18 v19 v20 v21 v22 v23 v24 v25 : Value) (n c : Nat) (r8 : Option ARow) (c2 : Nat) (r9 : Option ARow) (i : Int) (k8 : Nat) (z8x z8y z8g z8p : Int) (hx8 : aIndexAddr Tryz.prog 22 (sl 8 0 n c) (I i) = some (pt 8 k8)) (hl8 : aLoad Tryz.prog 24 (pt 8 k8) (n8 [r8, r9]) = some (.agg #[I z8x, I z8y, I z8g, I z8p])) (k9 : Nat) (z9x z9y z9g z9p : Int) (hx9 : aIndexAddr Tryz.prog 22 (sl 9 0 n c2) (I i) = some (pt 9 k9)) (hl9 : aLoad Tryz.prog 24 (pt 9 k9) (n8 [r8, r9]) = some (.agg #[I z9x, I z9y, I z9g, I z9p])) (f1 : decide (i < (n : Int)) = true) (g0 : (!(z8x == z9x && (z8y == z9y && (z8g == z9g && (z8p == z9p && true))))) = false) : Runs Tryz.prog envB 10 [.code (round 0 (bodyOf 76))] [(sl 8 0 n c), (sl 9 0 n c2), v2, v3, v4, I i, v6, v7, v8, v9, v10, v11, v12, v13, v14, v15, v16, v17, v18, v19, v20, v21, v22, v23, v24, v25] (n8 [r8, r9]) ([(sl 8 0 n c), (sl 9 0 n c2), v2, v3, v4, (I (IntKind.i64.wrap (i + 1))), v6, v7, v8, v9, v10, I i, (sl 8 0 n c), (I ((n : Int))), (.bool (decide (i < (n : Int)))), I i, (I (IntKind.i64.wrap (i + 1))), (sl 8 0 n c), I i, (pt 8 k8), (.agg #[I z8x, I z8y, I z8g, I z8p]), (sl 9 0 n c2), I i, (pt 9 k9), (.agg #[I z9x, I z9y, I z9g, I z9p]), (.bool (!(z8x == z9x && (z8y == z9y && (z8g == z9g && (z8p == z9p && true))))))], (n8 [r8, r9]), none) :=
  Runs.by (n := 1000) (fid := 76) (os := [.br 76 30 true, .op 76 20 (pt 8 k8), .op 76 21 (.agg #[I z8x, I z8y, I z8g, I z8p]), .op 76 24 (pt 9 k9), .op 76 25 (.agg #[I z9x, I z9y, I z9g, I z9p]), .br 76 52 false]) (os' := []) (by kernel_rfl) (ObsOK.cond f1 (ObsOK.val hx8 (ObsOK.val hl8 (ObsOK.val hx9 (ObsOK.val hl9 (ObsOK.cond g0 (ObsOK.nil)))))))
theorem smC_p0 (v2 v3 v4 v6 v7 v8 v9 v10 v11 v12 v13 v14 v15 v16 v17 v18 v19 v20 v21 v22 v23 v24 v25 : Value) (n c : Nat) (r8 : Option ARow) (c2 : Nat) (r9 : Option ARow) (i : Int) (f1 : decide (i < (n : Int)) = false) : Runs Tryz.prog envB 10 [.code (round 0 (bodyOf 76)), .inLoop (round 0 (bodyOf 76)), .inBlock 0] [(sl 8 0 n c), (sl 9 0 n c2), v2, v3, v4, I i, v6, v7, v8, v9, v10, v11, v12, v13, v14, v15, v16, v17, v18, v19, v20, v21, v22, v23, v24, v25] (n8 [r8, r9]) ([(sl 8 0 n c), (sl 9 0 n c2), v2, v3, v4, I i, v6, v7, v8, v9, v10, I i, (sl 8 0 n c), (I ((n : Int))), (.bool (decide (i < (n : Int)))), v15, v16, v17, v18, v19, v20, v21, v22, v23, v24, v25], (n8 [r8, r9]), none) :=
  Runs.by (n := 1000) (fid := 76) (os := [.br 76 30 false]) (os' := []) (by kernel_rfl) (ObsOK.cond f1 (ObsOK.nil))
theorem smZ_p0 (v2 v3 v4 v5 v6 v7 v8 v9 v10 v11 v12 v13 v14 v15 v16 v17 v18 v19 v20 v21 v22 v23 v24 v25 : Value) (n c : Nat) (r8 : Option ARow) (c2 : Nat) (r9 : Option ARow) : Runs Tryz.prog envB 10 [.code (codeR (codeR (codeR (bodyOf 76))))] [(sl 8 0 n c), (sl 9 0 n c2), v2, v3, v4, v5, v6, v7, v8, v9, v10, v11, v12, v13, v14, v15, v16, v17, v18, v19, v20, v21, v22, v23, v24, v25] (n8 [r8, r9]) ([(sl 8 0 n c), (sl 9 0 n c2), v2, v3, (.bool true), v5, v6, v7, v8, v9, v10, v11, v12, v13, v14, v15, v16, v17, v18, v19, v20, v21, v22, v23, v24, v25], (n8 [r8, r9]), some .ret) :=
  Runs.by (n := 1000) (fid := 76) (os := []) (os' := []) (by kernel_rfl) (ObsOK.nil)
/-
Lists compared.
-/
noncomputable def sm_p (xs ys : List Sr) (c c2 e e2 : Nat) (u u2 : Use) (jj : Nat) : Bool := (cond (!(((xs.getD jj s0).x) == ((ys.getD jj s0).x) && (((xs.getD jj s0).y) == ((ys.getD jj s0).y) && (((xs.getD jj s0).g) == ((ys.getD jj s0).g) && (((xs.getD jj s0).p) == ((ys.getD jj s0).p) && true))))) true false)
noncomputable def sm_v (xs ys : List Sr) (c c2 e e2 : Nat) (u u2 : Use) (jj : Nat) : Value := ((.bool false))
def sm_b (xs ys : List Sr) (c c2 e e2 : Nat) (u u2 : Use) (jj : Nat) (f : Nat → Value) : List Value := [(sl 8 0 xs.length c), (sl 9 0 xs.length c2), f 2, f 3, f 4, I (jj : Int), f 6, f 7, f 8, f 9, f 10, f 11, f 12, f 13, f 14, f 15, f 16, f 17, f 18, f 19, f 20, f 21, f 22, f 23, f 24, f 25]
def sm_S (xs ys : List Sr) (c c2 e e2 : Nat) (u u2 : Use) (jj : Nat) (ls : List Value) : Prop := ∃ f : Nat → Value, ls = sm_b xs ys c c2 e e2 u u2 jj f ∧ JF [4, 10, 14, 25] f
theorem sm_S.mk {xs ys : List Sr} {c c2 e e2 : Nat} {u u2 : Use} {jj : Nat} {ls : List Value} (h : ls = sm_b xs ys c c2 e e2 u u2 jj (fun k => ls.getD k (I 0))) (hj : JL [4, 10, 14, 25] 0 ls) : sm_S xs ys c c2 e e2 u u2 jj ls := ⟨_, h, hj.fn⟩
def sm_bE (xs ys : List Sr) (c c2 e e2 : Nat) (u u2 : Use) (jj : Nat) (f : Nat → Value) : List Value := [(sl 8 0 xs.length c), (sl 9 0 xs.length c2), f 2, f 3, f 4, f 5, f 6, f 7, f 8, f 9, f 10, f 11, f 12, f 13, f 14, f 15, f 16, f 17, f 18, f 19, f 20, f 21, f 22, f 23, f 24, f 25]
def sm_SE (xs ys : List Sr) (c c2 e e2 : Nat) (u u2 : Use) (jj : Nat) (ls : List Value) : Prop := ∃ f : Nat → Value, ls = sm_bE xs ys c c2 e e2 u u2 jj f ∧ JF [4, 10, 14, 25] f
theorem sm_SE.mk {xs ys : List Sr} {c c2 e e2 : Nat} {u u2 : Use} {jj : Nat} {ls : List Value} (h : ls = sm_bE xs ys c c2 e e2 u u2 jj (fun k => ls.getD k (I 0))) (hj : JL [4, 10, 14, 25] 0 ls) : sm_SE xs ys c c2 e e2 u u2 jj ls := ⟨_, h, hj.fn⟩
def sm_K : List Keep := [.ren, .ren, .no, .no, .free, .free, .no, .no, .no, .no, .free, .no, .no, .no, .free, .no, .no, .no, .no, .no, .no, .no, .no, .no, .no, .free]
theorem sm_go (xs ys : List Sr) (c c2 e e2 : Nat) (u u2 : Use) {KK : List It} {v' : Value} (hb : xs.length ≤ 1000) (hl : ys.length = xs.length) (hend : ∀ ls, sm_SE xs ys c c2 e e2 u u2 xs.length ls → EndsG Tryz.prog 8 Tryz.f76 (n8 [(rS xs e u), (rS ys e2 u2)]) v' (n8 [(rS xs e u), (rS ys e2 u2)]) (KK) ls ((n8 [(rS xs e u), (rS ys e2 u2)]) ++ [])) : ∀ dd jj, jj + dd = xs.length → ∀ ls, sm_S xs ys c c2 e e2 u u2 jj ls → EndsG Tryz.prog 8 Tryz.f76 (n8 [(rS xs e u), (rS ys e2 u2)]) (ofP (firstP (sm_p xs ys c c2 e e2 u u2) jj dd) (sm_v xs ys c c2 e e2 u u2) v') (n8 [(rS xs e u), (rS ys e2 u2)]) (.code (round 0 (bodyOf 76)) :: .inLoop (round 0 (bodyOf 76)) :: .inBlock 0 :: KK) ls ((n8 [(rS xs e u), (rS ys e2 u2)]) ++ []) := by
  intro dd
  induction dd with
  | zero =>
    rintro jj hjj ls ⟨f, rfl, hj⟩
    have hjn : jj = xs.length := by omega
    subst hjn
    have hr := smC_p0 (f 2) (f 3) (f 4) (f 6) (f 7) (f 8) (f 9) (f 10) (f 11) (f 12) (f 13) (f 14) (f 15) (f 16) (f 17) (f 18) (f 19) (f 20) (f 21) (f 22) (f 23) (f 24) (f 25) (xs.length) (c) ((rS xs e u)) (c2) ((rS ys e2 u2)) ((xs.length : Int)) (decide_eq_false (by first | omega | (simp; omega)))
    refine EndsG.run (k := [.code (round 0 (bodyOf 76)), .inLoop (round 0 (bodyOf 76)), .inBlock 0]) (kk := KK) prog_ok envB_ok hr ?_
    exact hend _ (sm_SE.mk (jj := xs.length) (by kernel_rfl) (.c2 rfl (.f2 hj (.f1 hj (.c1 rfl (.f4 hj (.f1 hj (.c4 rfl (.f8 hj (.f2 hj (.f1 hj .nil)))))))))))
  | succ dd ih =>
    rintro jj hjj ls ⟨f, rfl, hj⟩
    have hlt : jj < xs.length := by omega
    cases g0 : (!(((xs.getD jj s0).x) == ((ys.getD jj s0).x) && (((xs.getD jj s0).y) == ((ys.getD jj s0).y) && (((xs.getD jj s0).g) == ((ys.getD jj s0).g) && (((xs.getD jj s0).p) == ((ys.getD jj s0).p) && true))))) with
    | false =>
      rw [show firstP (sm_p xs ys c c2 e e2 u u2) jj (dd + 1) = firstP (sm_p xs ys c c2 e e2 u u2) (jj + 1) dd from firstP_miss (by simp only [sm_p, g0, cond_true, cond_false])]
      have hr := smA0_p0 (f 2) (f 3) (f 4) (f 6) (f 7) (f 8) (f 9) (f 10) (f 11) (f 12) (f 13) (f 14) (f 15) (f 16) (f 17) (f 18) (f 19) (f 20) (f 21) (f 22) (f 23) (f 24) (f 25) (xs.length) (c) ((rS xs e u)) (c2) ((rS ys e2 u2)) ((jj : Int)) ((jj * 4)) (((xs.getD jj s0).x)) (((xs.getD jj s0).y)) (((xs.getD jj s0).g)) (((xs.getD jj s0).p)) (ix22 (by omega)) (ld24 rfl (by omega)) ((jj * 4)) (((ys.getD jj s0).x)) (((ys.getD jj s0).y)) (((ys.getD jj s0).g)) (((ys.getD jj s0).p)) (ix22 (by omega)) (ld24 rfl (by omega)) (decide_eq_true (by first | omega | (simp; omega))) (g0)
      try rw [wrap_succ' (by omega)] at hr
      refine EndsG.round prog_ok envB_ok hr ?_
      refine EndsG.renumS (X := []) (R := []) (ids := []) (m := sm_K) rfl rfl (by kernel_rfl) .nil (.ren rfl (.ren rfl (.j2 2 hj rfl (.free ((hj 4).1 rfl) (.free rfl (.j4 6 hj rfl (.free ((hj 10).1 rfl) (.n2 rfl (.no rfl (.free rfl (.n8 rfl (.n2 rfl (.free rfl .nil))))))))))))) ?_
      exact ih (jj + 1) (by omega) _ (sm_S.mk (jj := (jj + 1)) (by kernel_rfl) (.c4 rfl (.f1 hj (.c4 rfl (.c1 rfl (.f1 hj (.c8 rfl (.c4 rfl (.c2 rfl (.c1 rfl .nil))))))))))
    | true =>
      have hr := smB0_p0 (f 2) (f 3) (f 4) (f 6) (f 7) (f 8) (f 9) (f 10) (f 11) (f 12) (f 13) (f 14) (f 15) (f 16) (f 17) (f 18) (f 19) (f 20) (f 21) (f 22) (f 23) (f 24) (f 25) (xs.length) (c) ((rS xs e u)) (c2) ((rS ys e2 u2)) ((jj : Int)) ((jj * 4)) (((xs.getD jj s0).x)) (((xs.getD jj s0).y)) (((xs.getD jj s0).g)) (((xs.getD jj s0).p)) (ix22 (by omega)) (ld24 rfl (by omega)) ((jj * 4)) (((ys.getD jj s0).x)) (((ys.getD jj s0).y)) (((ys.getD jj s0).g)) (((ys.getD jj s0).p)) (ix22 (by omega)) (ld24 rfl (by omega)) (decide_eq_true (by first | omega | (simp; omega))) (g0)
      rw [show firstP (sm_p xs ys c c2 e e2 u u2) jj (dd + 1) = some jj from firstP_hit (by simp only [sm_p, g0, cond_true, cond_false])]
      show EndsG _ _ _ _ (sm_v xs ys c c2 e e2 u u2 jj) _ _ _ _
      have ev : sm_v xs ys c c2 e e2 u u2 jj = ((.bool false)) := by simp only [sm_v, g0, cond_true, cond_false]
      rw [ev]
      exact EndsG.out (k := [.code (round 0 (bodyOf 76))]) (kk := .inLoop (round 0 (bodyOf 76)) :: .inBlock 0 :: KK) (X := []) (v := (.bool false)) prog_ok envB_ok hr (by kernel_rfl) (by kernel_rfl)
theorem sm_end (xs ys : List Sr) (c c2 e e2 : Nat) (u u2 : Use) (hb : xs.length ≤ 1000) (hl : ys.length = xs.length) : ∀ ls, sm_SE xs ys c c2 e e2 u u2 xs.length ls → EndsG Tryz.prog 8 Tryz.f76 (n8 [(rS xs e u), (rS ys e2 u2)]) (.bool true) (n8 [(rS xs e u), (rS ys e2 u2)]) ([.code (codeR (codeR (codeR (bodyOf 76))))]) ls ((n8 [(rS xs e u), (rS ys e2 u2)]) ++ []) := by
  rintro ls ⟨f, rfl, hj⟩
  have hr := smZ_p0 (f 2) (f 3) (f 4) (f 5) (f 6) (f 7) (f 8) (f 9) (f 10) (f 11) (f 12) (f 13) (f 14) (f 15) (f 16) (f 17) (f 18) (f 19) (f 20) (f 21) (f 22) (f 23) (f 24) (f 25) (xs.length) (c) ((rS xs e u)) (c2) ((rS ys e2 u2))
  exact EndsG.ret (X := []) (v := (.bool true)) prog_ok envB_ok hr rfl (by kernel_rfl) (by kernel_rfl)
theorem sm_says (xs ys : List Sr) (c c2 e e2 : Nat) (u u2 : Use) (hb : xs.length ≤ 1000) (hl : ys.length = xs.length) : SaysAt Tryz.prog 8 76 [sl 8 0 xs.length c, sl 9 0 xs.length c2] (n8 [(rS xs e u), (rS ys e2 u2)]) (ofP (firstP (sm_p xs ys c c2 e e2 u u2) 0 xs.length) (sm_v xs ys c c2 e e2 u u2) (.bool true)) (n8 [(rS xs e u), (rS ys e2 u2)]) := by
  refine EndsG.says prog_ok Tryz.func76 (c := bodyOf 76) (by kernel_rfl) (by kernel_rfl) ?_
  refine EndsG.seqO (by kernel_rfl) ?_
  refine EndsG.run (k := [.code (codeL (bodyOf 76))]) prog_ok envB_ok (smq0_p0 (xs.length) (c) ((rS xs e u)) (c2) ((rS ys e2 u2)) (by simp)) ?_
  refine EndsG.seqO (by kernel_rfl) ?_
  refine EndsG.run (k := [.code (codeL (codeR (bodyOf 76)))]) prog_ok envB_ok (smq1_p0 (xs.length) (c) ((rS xs e u)) (c2) ((rS ys e2 u2)) (by simp)) ?_
  refine EndsG.seqO (by kernel_rfl) ?_
  refine EndsG.seqO (by kernel_rfl) ?_
  refine EndsG.run (k := [.code (codeL (codeL (codeR (codeR (bodyOf 76)))))]) prog_ok envB_ok (smq2_p0 (xs.length) (c) ((rS xs e u)) (c2) ((rS ys e2 u2)) (by simp)) ?_
  refine EndsG.blockLoop (B := (round 0 (bodyOf 76))) (id := 0) (by kernel_rfl) ?_
  exact sm_go xs ys c c2 e e2 u u2 hb hl (sm_end xs ys c c2 e e2 u u2 hb hl) xs.length 0 (Nat.zero_add _) _ (sm_S.mk (jj := 0) (by kernel_rfl) (.c16 rfl (.c8 rfl (.c2 rfl .nil))))
/-
ArrayMoves: calls without sources.
-/
theorem n46e_p0 (q t : Int) (h97 : ∀ (lim : Nat) (A : Heap), startsB heapN A = true → Gives Tryz.prog envB lim 97 [I q, I (-999999999), I 999999999] A (I t, A)) (f1 : (t != 0) = true) (f1n : (t == 0) = false) : Gives Tryz.prog envB 0 46 [.slice none 0 0, I q] heap0 ((.tuple #[(.slice .none 0 0), I t]), heap0) :=
  Gives.by (n := 1000) (os := [.opw 46 11 (I t) (H []), .br 84 26 false, .br 84 26 true, .br 46 30 true]) (os' := []) (by kernel_rfl) (ObsOK.call (h97 8 (H []) (by kernel_rfl)) (ObsOK.cond (rfl : (false : Bool) = false) (ObsOK.cond f1 (ObsOK.cond f1 (ObsOK.nil)))))
theorem n46o_p0 (q t : Int) (h97 : ∀ (lim : Nat) (A : Heap), startsB heapN A = true → Gives Tryz.prog envB lim 97 [I q, I (-999999999), I 999999999] A (I t, A)) (f1 : (t != 0) = false) (f1n : (t == 0) = true) : Gives Tryz.prog envB 0 46 [.slice none 0 0, I q] heap0 ((.tuple #[(sl 8 0 0 0), (I 0)]), (H [(.some (.cells [] 32 .row))])) :=
  Gives.by (n := 1000) (os := [.opw 46 11 (I t) (H []), .br 84 26 false, .br 84 26 false]) (os' := []) (by kernel_rfl) (ObsOK.call (h97 8 (H []) (by kernel_rfl)) (ObsOK.cond (rfl : (false : Bool) = false) (ObsOK.cond f1 (ObsOK.nil))))
theorem n47a_p0 (a b : Int) (f1 : (a != lim_r0 a 100) = true) : Gives Tryz.prog envB 0 47 [.slice none 0 0, I a, I b] heap0 ((.tuple #[(.slice .none 0 0), (I 3)]), heap0) :=
  Gives.by (n := 1000) (os := [.br 168 34 true]) (os' := []) (by kernel_rfl) (ObsOK.cond f1 (ObsOK.nil))
theorem n47b_p0 (a b : Int) (f1 : (a != lim_r0 a 100) = false) (f2 : (b != lim_r0 b 100) = true) : Gives Tryz.prog envB 0 47 [.slice none 0 0, I a, I b] heap0 ((.tuple #[(.slice .none 0 0), (I 3)]), heap0) :=
  Gives.by (n := 1000) (os := [.br 168 34 false, .br 168 34 true]) (os' := []) (by kernel_rfl) (ObsOK.cond f1 (ObsOK.cond f2 (ObsOK.nil)))
theorem n47o_p0 (a b : Int) (f1 : (a != lim_r0 a 100) = false) (f2 : (b != lim_r0 b 100) = false) : Gives Tryz.prog envB 0 47 [.slice none 0 0, I a, I b] heap0 ((.tuple #[(sl 8 0 0 0), (I 0)]), (H [(.some (.cells [] 32 .row))])) :=
  Gives.by (n := 1000) (os := [.br 168 34 false, .br 168 34 false]) (os' := []) (by kernel_rfl) (ObsOK.cond f1 (ObsOK.cond f2 (ObsOK.nil)))
theorem n48a_p0 (a : Int) (z : Bool) (f1 : (a != lim_r0 a 100) = true) : Gives Tryz.prog envB 0 48 [.slice none 0 0, I a, .bool z] heap0 ((.tuple #[(.slice .none 0 0), (I 3)]), heap0) :=
  Gives.by (n := 1000) (os := [.br 168 34 true]) (os' := []) (by kernel_rfl) (ObsOK.cond f1 (ObsOK.nil))
theorem n48o_p0 (a : Int) (z : Bool) (f1 : (a != lim_r0 a 100) = false) : Gives Tryz.prog envB 0 48 [.slice none 0 0, I a, .bool z] heap0 ((.tuple #[(.slice .none 0 0), (I 0)]), heap0) :=
  Gives.by (n := 1000) (os := [.br 168 34 false]) (os' := []) (by kernel_rfl) (ObsOK.cond f1 (ObsOK.nil))
theorem n51_p0 (q : Int) : Gives Tryz.prog envB 0 51 [.slice none 0 0, I q] heap0 ((.slice .none 0 0), heap0) :=
  Gives.by (n := 1000) (os := []) (os' := []) (by kernel_rfl) (ObsOK.nil)
theorem e51_p0 (q : Int) (c : Nat) (r8 : Option ARow) : Gives Tryz.prog envB 0 51 [sl 8 0 0 c, I q] (H [r8]) ((.slice .none 0 0), (H [r8])) :=
  Gives.by (n := 1000) (os := []) (os' := []) (by kernel_rfl) (ObsOK.nil)
theorem n52_p0 (a b : Int) : Gives Tryz.prog envB 0 52 [.slice none 0 0, I a, I b] heap0 ((.tuple #[(.slice .none 0 0), (I 0)]), heap0) :=
  Gives.by (n := 1000) (os := []) (os' := []) (by kernel_rfl) (ObsOK.nil)
theorem e52_p0 (a b : Int) (c : Nat) (r8 : Option ARow) : Gives Tryz.prog envB 0 52 [sl 8 0 0 c, I a, I b] (H [r8]) ((.tuple #[(.slice .none 0 0), (I 0)]), (H [r8])) :=
  Gives.by (n := 1000) (os := []) (os' := []) (by kernel_rfl) (ObsOK.nil)
theorem n53_p0 (a : Int) (z : Bool) : Gives Tryz.prog envB 0 53 [.slice none 0 0, I a, .bool z] heap0 ((.tuple #[(sl 8 0 0 0), (I 0)]), (H [(.some (.cells [] 24 .emp))])) :=
  Gives.by (n := 1000) (os := []) (os' := []) (by kernel_rfl) (ObsOK.nil)
theorem e53_p0 (a : Int) (z : Bool) (c r : Nat) (u : Use) : Gives Tryz.prog envB 0 53 [sl 8 0 0 c, I a, .bool z] (H [some (.cells [] r u)]) ((.tuple #[(sl 9 0 0 0), (I 0)]), (H [(.some (.cells [] r u)), (.some (.cells [] 24 .emp))])) :=
  Gives.by (n := 1000) (os := []) (os' := []) (by kernel_rfl) (ObsOK.nil)
theorem n20_p0  : Gives Tryz.prog envB 0 20 [.slice none 0 0] heap0 ((.slice .none 0 0), heap0) :=
  Gives.by (n := 1000) (os := []) (os' := []) (by kernel_rfl) (ObsOK.nil)
theorem e20_p0 (c : Nat) (r8 : Option ARow) : Gives Tryz.prog envB 0 20 [sl 8 0 0 c] (H [r8]) ((.slice .none 0 0), (H [r8])) :=
  Gives.by (n := 1000) (os := []) (os' := []) (by kernel_rfl) (ObsOK.nil)
theorem n16_p0  : Gives Tryz.prog envB 0 16 [.slice none 0 0, I 9] heap0 ((.bool true), heap0) :=
  Gives.by (n := 1000) (os := []) (os' := []) (by kernel_rfl) (ObsOK.nil)
theorem n25_p0  : Gives Tryz.prog envB 0 25 [.slice none 0 0] heap0 ((I 0), heap0) :=
  Gives.by (n := 1000) (os := []) (os' := []) (by kernel_rfl) (ObsOK.nil)
theorem s54e_p0 (e : Int) (f1 : (e == e) = true) (f2 : (e != 0) = true) : Gives Tryz.prog envB 0 54 [.slice none 0 0, I e, I e, .slice none 0 0] heap0 ((.bool true), heap0) :=
  Gives.by (n := 1000) (os := [.br 54 26 true, .br 54 26 true, .br 54 26 true, .br 54 32 true, .br 54 32 true, .br 54 32 true, .br 54 26 true, .br 54 41 true, .br 54 26 true, .br 54 26 true, .br 54 63 true]) (os' := []) (by kernel_rfl) (ObsOK.cond f1 (ObsOK.cond f1 (ObsOK.cond f1 (ObsOK.cond f2 (ObsOK.cond f2 (ObsOK.cond f2 (ObsOK.cond f1 (ObsOK.cond f2 (ObsOK.cond f1 (ObsOK.cond f1 (ObsOK.cond f1 (ObsOK.nil))))))))))))
theorem s54v_p0 (c : Nat) (r8 : Option ARow) : Gives Tryz.prog envB 0 54 [sl 8 0 0 c, I 0, I 0, .slice none 0 0] (H [r8]) ((.bool true), (H [r8])) :=
  Gives.by (n := 1000) (os := []) (os' := []) (by kernel_rfl) (ObsOK.nil)
theorem s54w_p0 (c : Nat) (r8 : Option ARow) : Gives Tryz.prog envB 0 54 [.slice none 0 0, I 0, I 0, sl 8 0 0 c] (H [r8]) ((.bool true), (H [r8])) :=
  Gives.by (n := 1000) (os := []) (os' := []) (by kernel_rfl) (ObsOK.nil)
/-
Lists told are the same: the call.
-/
theorem s54o_p0 (L : List CallC) (n c d : Nat) (r8 r9 rt : Option ARow) (h77 : ∀ (lim : Nat) (A : Heap), A = (H [r8, r9]) → Gives Tryz.prog (envM.calls [76, 77] L) lim 77 [sl 8 0 n c] A (sl 10 0 n n, A ++ [rt])) (h76 : ∀ (lim : Nat) (A : Heap), A = (H [r8, r9, rt]) → Gives Tryz.prog (envM.calls [76, 77] L) lim 76 [sl 10 0 n n, sl 9 0 n d] A (.bool true, A)) : Gives Tryz.prog (envM.calls [76, 77] L) 0 54 [sl 8 0 n c, I 0, I 0, sl 9 0 n d] (H [r8, r9]) ((.bool true), (H [r8, r9])) :=
  Gives.by (n := 1000) (os := [.opw 54 26 (sl 10 0 n n) (H [r8, r9, rt]), .opw 54 28 (.bool true) (H [r8, r9, rt])]) (os' := []) (by kernel_rfl) (ObsOK.call (h77 10 (H [r8, r9]) (by kernel_rfl)) (ObsOK.call (h76 10 (H [r8, r9, rt]) (by kernel_rfl)) (ObsOK.nil)))
/-
ArrayMoves: what the program and the reference make of a list is the same.
-/
theorem qt_eq (q : Int) : qtE q = ct49_r0 q := by
  unfold qtE c97_r0 ct49_r0
  rw [cr_eq]
  unfold c97_c0 c97_c1
  by_cases h1 : (-999999999 : Int) ≤ q <;> by_cases h2 : q ≤ (999999999 : Int) <;> simp [h1, h2]
theorem fst3 (a b c : Int) : fstI [a, b, c] = if a != 0 then a else if b != 0 then b else c := by
  unfold fstI
  simp only [firstP, List.length_cons, List.length_nil]
  cases h : (a != 0) with
  | true => simp [h]
  | false =>
    cases h2 : (b != 0) with
    | true => simp [h, h2]
    | false =>
      cases h3 : (c != 0) with
      | true => simp [h, h2, h3]
      | false => have := eq_of_beq (by simpa using h3 : (c == 0) = true); simp [h, h2, h3, this]
theorem fst2' (a b : Int) : fstI [a, b] = if a != 0 then a else b := fst2_eq a b
theorem cpl_eq (a : Int) : cpl50_r0 a = if -100 ≤ a ∧ a ≤ 100 then 0 else 3 := by unfold cpl50_r0; exact cr_eq _ _ _
theorem lim_ne (a : Int) : (a != lim_r0 a 100) = !decide (-100 ≤ a ∧ a ≤ 100) := by
  rw [← lim_eq]
  show (!(a == lim_r0 a 100)) = !(lim_r0 a 100 == a)
  rw [Bool.beq_comm]
theorem cpl1_eq (a : Int) : cplE [a] = cpl50_r0 a := by
  show cp1_r0 a = _
  unfold cp1_r0 cp1_c0
  rw [cpl_eq, lim_ne]
  by_cases h : -100 ≤ a ∧ a ≤ 100
  · rw [if_pos h, decide_eq_true h]; rfl
  · rw [if_neg h, decide_eq_false h]; rfl
theorem cpl2_eq (k a b : Int) : fstI [k, cplE [a, b]] = fstI [k, cpl50_r0 a, cpl50_r0 b] := by
  rw [fst2', fst3]
  have e : cplE [a, b] = if cpl50_r0 a != 0 then cpl50_r0 a else cpl50_r0 b := by
    show cp2_r0 a b = _
    unfold cp2_r0 cp2_c0 cp2_c1
    rw [cpl_eq, cpl_eq, lim_ne, lim_ne]
    by_cases h : -100 ≤ a ∧ a ≤ 100 <;> by_cases h2 : -100 ≤ b ∧ b ≤ 100
    · rw [if_pos h, if_pos h2, decide_eq_true h, decide_eq_true h2]; rfl
    · rw [if_pos h, if_neg h2, decide_eq_true h, decide_eq_false h2]; rfl
    · rw [if_neg h, if_pos h2, decide_eq_false h, decide_eq_true h2]; rfl
    · rw [if_neg h, if_neg h2, decide_eq_false h, decide_eq_false h2]; rfl
  rw [e]
theorem k0_of2 {k b : Int} (h : fstI [k, b] = 0) : k = 0 := by
  rw [fst2'] at h
  cases hk : (k != 0) with
  | true => rw [hk, if_pos rfl] at h; exact h
  | false => exact eq_of_beq (by simpa using hk)
theorem okS_mem {xs : List Sr} (h : chkR xs = 0) : ∀ s ∈ xs, okS s := by
  intro s hs
  obtain ⟨k, hk, rfl⟩ := List.getElem_of_mem hs
  have := okS_of h k hk
  rw [show xs.getD k s0 = xs[k] from by simp [List.getD, hk]] at this
  exact this
theorem tu_ruE {q : Int} {s : Sr} (h : okS s) : tuE q s = ruE (q % 4) s := by
  obtain ⟨x1, x2, y1, y2, _⟩ := h
  have w : ∀ {x : Int}, -1000 ≤ x → x ≤ 1000 → W x = x := fun h1 h2 => wS (by omega) (by omega)
  have a1 : W s.x = s.x := w (by omega) (by omega)
  have a2 : W s.y = s.y := w (by omega) (by omega)
  have a3 : W 0 = 0 := w (by omega) (by omega)
  have a4 : W (-s.x) = -s.x := w (by omega) (by omega)
  have a5 : W (-s.y) = -s.y := w (by omega) (by omega)
  have e1 : s.x * -1 = -s.x := by omega
  have e2 : s.y * -1 = -s.y := by omega
  unfold tuE ruE tuX tuY ruX ruY
  rcases (show q % 4 = 0 ∨ q % 4 = 1 ∨ q % 4 = 2 ∨ q % 4 = 3 by omega) with h | h | h | h <;> rw [h]
  · simp only [if_true, Int.mul_one, Int.mul_zero, a1, a2, a3, Int.sub_zero, Int.zero_add]
  · simp only [if_true, Int.mul_one, Int.mul_zero, show ((1 : Int) = 0) = False by simp, if_false, a1, a2, a3, a4, a5, Int.zero_sub, Int.add_zero]
  · simp only [if_true, Int.mul_zero, show ((2 : Int) = 0) = False by simp, show ((2 : Int) = 1) = False by simp, if_false, e1, e2, a3, a4, a5, Int.zero_sub, Int.sub_zero, Int.zero_add]
  · simp only [Int.mul_zero, show ((3 : Int) = 0) = False by simp, show ((3 : Int) = 1) = False by simp, show ((3 : Int) = 2) = False by simp, if_false, e1, e2, a3, a4, a5, Int.zero_sub, Int.neg_neg, a2, Int.add_zero]
theorem tu_ru_map {xs : List Sr} (q : Int) (h : chkR xs = 0) : xs.map (tuE q) = xs.map (ruE (q % 4)) := List.map_congr_left fun s hs => tu_ruE (okS_mem h s hs)
theorem sN {A : Heap} (h0 : startsB heap0 A = true) : startsB heapN A = true := starts8 (startsB_get h0).1
theorem rows2 {A : Heap} {r r' e e2 : Nat} {u u2 : Use} {xs ys : List Sr} (h : hget A r = some (.cells (srs xs) e u)) (h' : hget A r' = some (.cells (srs ys) e2 u2)) : rowsAt A [r, r'] = some [rS xs e u, rS ys e2 u2] := by
  simp only [rowsAt, h, h', srs_atoms, if_true]
theorem plainS (xs : List Sr) (e : Nat) (u : Use) : [rS xs e u].all plainRow = true := by simp [plainRow, srs_atoms]
theorem rt_all (xs : List Sr) (q : Int) (c e : Nat) (u : Use) (hb : xs.length ≤ 1000) (hn : 1 ≤ xs.length) : SaysAt Tryz.prog 8 51 [sl 8 0 xs.length c, I q] (heapN ++ [rS xs e u]) (sl 9 0 xs.length xs.length) (heapN ++ [rS xs e u] ++ [rS (xs.map (ruE (q % 4))) 24 .row]) := by
  rcases (show q % 4 = 0 ∨ q % 4 = 1 ∨ q % 4 = 2 ∨ q % 4 = 3 by omega) with h | h | h | h
  · rw [h]; exact rt0_says xs q c e u hb h hn
  · rw [h]; exact rt1_says xs q c e u hb h hn
  · rw [h]; exact rt2_says xs q c e u hb h hn
  · rw [h]; exact rt3_says xs q c e u hb h hn
theorem sm_same (ys : List Sr) (c d e e2 : Nat) (u u2 : Use) : ofP (firstP (sm_p ys ys c d e e2 u u2) 0 ys.length) (sm_v ys ys c d e e2 u u2) (.bool true) = .bool true := by
  have h : ∀ n j, firstP (sm_p ys ys c d e e2 u u2) j n = none := by
    intro n
    induction n with
    | zero => intro j; rfl
    | succ n ih =>
      intro j
      have hp : sm_p ys ys c d e e2 u u2 j = false := by simp [sm_p]
      simp only [firstP, hp]
      exact ih _
  rw [h]
  rfl
/-- Equal lists are the same. -/
theorem same54 (ys : List Sr) (c d e e2 : Nat) (u u2 : Use) (hb : ys.length ≤ 1000) (hn : 1 ≤ ys.length) : SaysAt Tryz.prog 8 54 [sl 8 0 ys.length c, I 0, I 0, sl 9 0 ys.length d] (heap0 ++ [rS ys e u, rS ys e2 u2]) (.bool true) (heap0 ++ [rS ys e u, rS ys e2 u2] ++ []) := by
  let L : List CallC := [⟨77, [sl 8 0 ys.length c], H [rS ys e u, rS ys e2 u2], sl 10 0 ys.length ys.length, [rS ys 24 .row]⟩, ⟨76, [sl 10 0 ys.length ys.length, sl 9 0 ys.length d], H [rS ys e u, rS ys e2 u2, rS ys 24 .row], .bool true, []⟩]
  have hE : EnvOK Tryz.prog 8 (envM.calls [76, 77] L) := by
    refine Env.calls_ok envM_ok (List.forall_mem_cons.2 ⟨?_, List.forall_mem_cons.2 ⟨?_, fun _ h => nomatch h⟩⟩)
    · exact SaysAt.rows (T := heapN) (R0 := [rS ys e u]) (R1 := [rS ys 24 .row]) [8] (to_says ys c e u hb hn) rfl rfl rfl rfl rfl (rowsS rfl) rfl (plainS _ _ _) rfl
    · have h := sm_says ys ys ys.length d 24 e2 .row u2 hb rfl
      rw [sm_same] at h
      exact SaysAt.rows (T := heapN) (R0 := [rS ys 24 .row, rS ys e2 u2]) (R1 := []) [10, 9] h rfl rfl rfl rfl rfl (rows2 rfl rfl) rfl rfl rfl
  refine SaysAt.of_gives prog_ok hE (s54o_p0 L ys.length c d (rS ys e u) (rS ys e2 u2) (rS ys 24 .row) (fun lim A hA => ?_) (fun lim A hA => ?_))
  · subst hA; have h := Env.calls_here (P := Tryz.prog) (E := envM) (fs := [76, 77]) (L := L) (lim := lim) (keysC_vR rfl) ⟨77, [sl 8 0 ys.length c], H [rS ys e u, rS ys e2 u2], sl 10 0 ys.length ys.length, [rS ys 24 .row]⟩ (List.Mem.head _) rfl; exact h
  · subst hA; have h := Env.calls_here (P := Tryz.prog) (E := envM) (fs := [76, 77]) (L := L) (lim := lim) (keysC_vR rfl) ⟨76, [sl 10 0 ys.length ys.length, sl 9 0 ys.length d], H [rS ys e u, rS ys e2 u2, rS ys 24 .row], .bool true, []⟩ (List.Mem.tail _ (List.Mem.head _)) rfl; exact h
/-- An error told is the same. -/
theorem err54 {o : Int} (h : (o == 0) = false) (A : Heap) (h0 : startsB heap0 A = true) : SaysAt Tryz.prog 8 54 [.slice none 0 0, I o, I o, .slice none 0 0] A (.bool true) (A ++ []) :=
  SaysAt.rows (T := heap0) (R0 := []) (R1 := []) [] (SaysAt.of_gives prog_ok envB_ok (s54e_p0 o (by simp) (by simp at h; simp [h]))) rfl rfl h0 rfl rfl rfl rfl rfl rfl
/-
ArrayMoves: the three moves of a list.
-/
theorem ne_of {o : Int} (h : (o == 0) = false) : (o != 0) = true := by simp at h; simp [h]
theorem no_of {o : Int} (h : (o == 0) = true) : (o != 0) = false := by simp at h; simp [h]
theorem mv2_of {f g : FuncId} {ag : List Value} {r m : Nat} {vS vT : Value} {r8 t : Option ARow} {o K : Int} {ys : List Sr}
    (hE : (o == 0) = false → ∀ A, startsB heap0 A = true → hget A r = t → A.length = r + 1 → SaysAt Tryz.prog 8 f (vT :: ag) A (.tuple #[.slice none 0 0, I o]) (A ++ []))
    (hF : (o == 0) = true → (K != 0) = true → ∀ A, startsB heap0 A = true → hget A r = t → A.length = r + 1 → SaysAt Tryz.prog 8 f (vT :: ag) A (.tuple #[.slice none 0 0, I K]) (A ++ []))
    (hO : (o == 0) = true → (K != 0) = false → ∀ A, startsB heap0 A = true → hget A r = t → A.length = r + 1 → SaysAt Tryz.prog 8 f (vT :: ag) A (.tuple #[.slice (some ⟨r + 1, 0, none⟩) m m, I 0]) (A ++ [rS ys 32 .row]))
    (gF : (K != 0) = true → ∀ A, startsB heap0 A = true → hget A 8 = r8 → SaysAt Tryz.prog 8 g (vS :: ag) A (.tuple #[.slice none 0 0, I K]) (A ++ []))
    (gO : (K != 0) = false → ∀ A p, startsB heap0 A = true → hget A 8 = r8 → A.length = p → SaysAt Tryz.prog 8 g (vS :: ag) A (.tuple #[.slice (some ⟨p, 0, none⟩) m m, I 0]) (A ++ [rS ys 24 .row]))
    (hS : ∀ A p, p = 19 ∨ p = 20 ∨ p = 21 → startsB heap0 A = true → hget A (r + 1) = rS ys 32 .row → hget A p = rS ys 24 .row → SaysAt Tryz.prog 8 54 [.slice (some ⟨r + 1, 0, none⟩) m m, I 0, I 0, .slice (some ⟨p, 0, none⟩) m m] A (.bool true) (A ++ [])) :
    Mv2 f g ag r vS r8 vT t o := by
  cases h : (o == 0) with
  | false =>
    refine ⟨.slice none 0 0, o, none, fun A h0 hA hl => ?_, fun _ A h0 _ => err54 h A h0, fun hc => by rw [h] at hc; cases hc⟩
    have := hE h A h0 hA hl
    rw [List.append_nil] at this
    exact this.addNone
  | true =>
    cases hK : (K != 0) with
    | true =>
      refine ⟨.slice none 0 0, K, none, fun A h0 hA hl => ?_, (fun hc => by rw [h] at hc; cases hc), fun _ p hp => ⟨.slice none 0 0, none, fun A h0 hA _ => ?_, fun A h0 _ _ => err54 (by simp at hK; simp [hK]) A h0⟩⟩
      · have := hF h hK A h0 hA hl
        rw [List.append_nil] at this
        exact this.addNone
      · have := gF hK A h0 hA
        rw [List.append_nil] at this
        exact this.addNone
    | false =>
      exact ⟨.slice (some ⟨r + 1, 0, none⟩) m m, 0, rS ys 32 .row, fun A h0 hA hl => hO h hK A h0 hA hl, (fun hc => by rw [h] at hc; cases hc), fun _ p hp => ⟨.slice (some ⟨p, 0, none⟩) m m, rS ys 24 .row, fun A h0 hA hl => gO hK A p h0 hA hl, fun A h0 hA hB => hS A p hp h0 hA hB⟩⟩
section
variable (xs : List Sr) (c e : Nat) (u : Use) (hb : xs.length ≤ 500) (hn : 1 ≤ xs.length)
include hb hn
theorem m1_n (q : Int) : Mv1 (sl 8 0 xs.length c) (rS xs e u) (sl 10 0 xs.length xs.length) (rS xs 32 .row) q (fstI [chkR xs, ct49_r0 q]) := by
  have ho : fstI [chkP xs, qtE q] = fstI [chkR xs, ct49_r0 q] := by rw [chk_eq, qt_eq]
  cases h : (fstI [chkR xs, ct49_r0 q] == 0) with
  | false =>
    refine ⟨.slice none 0 0, fstI [chkR xs, ct49_r0 q], none, fun A h0 hA hl => ?_, fun _ A h0 _ => err54 h A h0, fun hc => by rw [h] at hc; cases hc⟩
    have h1 := p46e xs xs.length 32 .row (by omega) q (by rw [ho]; exact ne_of h)
    rw [ho] at h1
    have h2 := SaysAt.rows (T := heap0) (R0 := [rS xs 32 .row]) (R1 := []) (A := A) (args := [sl 10 0 xs.length xs.length, I q]) (v := .tuple #[.slice none 0 0, I (fstI [chkR xs, ct49_r0 q])]) [10] h1 rfl rfl h0 rfl rfl (rowsS hA) rfl rfl rfl
    rw [List.append_nil] at h2
    exact h2.addNone
  | true =>
    have hz : fstI [chkR xs, ct49_r0 q] = 0 := by simpa using h
    have hk : chkR xs = 0 := k0_of2 hz
    refine ⟨sl 11 0 xs.length xs.length, 0, rS (xs.map (tuE q)) 32 .row, fun A h0 hA hl => ?_, (fun hc => by rw [h] at hc; cases hc), fun _ p hp => ⟨.slice (some ⟨p, 0, none⟩) xs.length xs.length, rS (xs.map (ruE (q % 4))) 24 .row, fun A h0 hA hl => ?_, fun A h0 hA hB => ?_⟩⟩
    · have h1 := p46o xs xs.length 32 .row (by omega) q (by rw [ho]; exact no_of h)
      exact SaysAt.rows (T := heap0) (R0 := [rS xs 32 .row]) [10] h1 rfl rfl h0 rfl rfl (rowsS hA) rfl (plainS _ _ _) (by rw [hl]; rfl)
    · exact SaysAt.rows (T := heapN) (R0 := [rS xs e u]) [8] (rt_all xs q c e u (by omega) hn) rfl rfl (sN h0) rfl rfl (rowsS hA) rfl (plainS _ _ _) (by rw [hl]; rfl)
    · rw [tu_ru_map q hk] at hA
      rw [hz]
      have h1 := same54 (xs.map (ruE (q % 4))) xs.length xs.length 32 24 .row .row (by simp; omega) (by simp; omega)
      rw [List.length_map] at h1
      rcases hp with rfl | rfl | rfl
      · exact SaysAt.rows (T := heap0) (R1 := []) [11, 19] h1 rfl rfl h0 rfl rfl (rows2 hA hB) rfl rfl rfl
      · exact SaysAt.rows (T := heap0) (R1 := []) [11, 20] h1 rfl rfl h0 rfl rfl (rows2 hA hB) rfl rfl rfl
      · exact SaysAt.rows (T := heap0) (R1 := []) [11, 21] h1 rfl rfl h0 rfl rfl (rows2 hA hB) rfl rfl rfl
theorem m2_n (a b : Int) : Mv2 47 52 [I a, I b] 12 (sl 8 0 xs.length c) (rS xs e u) (sl 12 0 xs.length xs.length) (rS xs 32 .row) (fstI [chkR xs, cpl50_r0 a, cpl50_r0 b]) := by
  have ho : fstI [chkP xs, cplE [a, b]] = fstI [chkR xs, cpl50_r0 a, cpl50_r0 b] := by rw [chk_eq, cpl2_eq]
  refine mv2_of (m := xs.length) (K := chkR (xs.map (shE a b))) (ys := xs.map (shE a b)) (fun h A h0 hA hl => ?_) (fun h hK A h0 hA hl => ?_) (fun h hK A h0 hA hl => ?_) (fun hK A h0 hA => ?_) (fun hK A p h0 hA hl => ?_) (fun A p hp h0 hA hB => ?_)
  · have h1 := p47e xs xs.length 32 .row (by omega) a b (by rw [ho]; exact ne_of h)
    rw [ho] at h1
    exact SaysAt.rows (T := heap0) (R0 := [rS xs 32 .row]) (R1 := []) [12] h1 rfl rfl h0 rfl rfl (rowsS hA) rfl rfl rfl
  · have h1 := p47f xs xs.length 32 .row (by omega) a b (by rw [ho]; exact no_of h) (by rw [chk_eq]; exact hK)
    rw [chk_eq (xs.map (shE a b))] at h1
    exact SaysAt.rows (T := heap0) (R0 := [rS xs 32 .row]) (R1 := []) [12] h1 rfl rfl h0 rfl rfl (rowsS hA) rfl rfl rfl
  · have h1 := p47o xs xs.length 32 .row (by omega) a b (by rw [ho]; exact no_of h) (by rw [chk_eq]; exact hK)
    exact SaysAt.rows (T := heap0) (R0 := [rS xs 32 .row]) [12] h1 rfl rfl h0 rfl rfl (rowsS hA) rfl (plainS _ _ _) (by rw [hl]; rfl)
  · exact SaysAt.rows (T := heapN) (R0 := [rS xs e u]) (R1 := []) [8] (rs_says_e xs a b c e u (by omega) hK hn) rfl rfl (sN h0) rfl rfl (rowsS hA) rfl rfl rfl
  · exact SaysAt.rows (T := heapN) (R0 := [rS xs e u]) [8] (rs_says_o xs a b c e u (by omega) hK hn) rfl rfl (sN h0) rfl rfl (rowsS hA) rfl (plainS _ _ _) (by rw [hl]; rfl)
  · have h1 := same54 (xs.map (shE a b)) xs.length xs.length 32 24 .row .row (by simp; omega) (by simp; omega)
    rw [List.length_map] at h1
    rcases hp with rfl | rfl | rfl
    · exact SaysAt.rows (T := heap0) (R1 := []) [13, 19] h1 rfl rfl h0 rfl rfl (rows2 hA hB) rfl rfl rfl
    · exact SaysAt.rows (T := heap0) (R1 := []) [13, 20] h1 rfl rfl h0 rfl rfl (rows2 hA hB) rfl rfl rfl
    · exact SaysAt.rows (T := heap0) (R1 := []) [13, 21] h1 rfl rfl h0 rfl rfl (rows2 hA hB) rfl rfl rfl
theorem ri_e (a : Int) (z : Bool) (hk : (chkR (xs ++ xs.map (miE a z)) != 0) = true) : SaysAt Tryz.prog 8 53 [sl 8 0 xs.length c, I a, .bool z] (heapN ++ [rS xs e u]) (.tuple #[.slice none 0 0, I (chkR (xs ++ xs.map (miE a z)))]) (heapN ++ [rS xs e u] ++ []) := by
  cases z
  · exact rb_says_e xs a c e u hb hn hk
  · exact ra_says_e xs a c e u hb hn hk
theorem ri_o (a : Int) (z : Bool) (hk : (chkR (xs ++ xs.map (miE a z)) != 0) = false) : SaysAt Tryz.prog 8 53 [sl 8 0 xs.length c, I a, .bool z] (heapN ++ [rS xs e u]) (.tuple #[sl 9 0 (xs.length + xs.length) (xs.length + xs.length), I 0]) (heapN ++ [rS xs e u] ++ [rS (xs ++ xs.map (miE a z)) 24 .row]) := by
  cases z
  · exact rb_says_o xs a c e u hb hn hk
  · exact ra_says_o xs a c e u hb hn hk
theorem m3_n (a : Int) (z : Bool) : Mv2 48 53 [I a, .bool z] 14 (sl 8 0 xs.length c) (rS xs e u) (sl 14 0 xs.length xs.length) (rS xs 32 .row) (fstI [chkR xs, cpl50_r0 a]) := by
  have ho : fstI [chkP xs, cplE [a]] = fstI [chkR xs, cpl50_r0 a] := by rw [chk_eq, cpl1_eq]
  refine mv2_of (m := xs.length + xs.length) (K := chkR (xs ++ xs.map (miE a z))) (ys := xs ++ xs.map (miE a z)) (fun h A h0 hA hl => ?_) (fun h hK A h0 hA hl => ?_) (fun h hK A h0 hA hl => ?_) (fun hK A h0 hA => ?_) (fun hK A p h0 hA hl => ?_) (fun A p hp h0 hA hB => ?_)
  · have h1 := p48e xs xs.length 32 .row hb hn a z (by rw [ho]; exact ne_of h)
    rw [ho] at h1
    exact SaysAt.rows (T := heap0) (R0 := [rS xs 32 .row]) (R1 := []) [14] h1 rfl rfl h0 rfl rfl (rowsS hA) rfl rfl rfl
  · have h1 := p48f xs xs.length 32 .row hb hn a z (by rw [ho]; exact no_of h) (by rw [chk_eq]; exact hK)
    rw [chk_eq (xs ++ xs.map (miE a z))] at h1
    exact SaysAt.rows (T := heap0) (R0 := [rS xs 32 .row]) (R1 := []) [14] h1 rfl rfl h0 rfl rfl (rowsS hA) rfl rfl rfl
  · have h1 := p48o xs xs.length 32 .row hb hn a z (by rw [ho]; exact no_of h) (by rw [chk_eq]; exact hK)
    exact SaysAt.rows (T := heap0) (R0 := [rS xs 32 .row]) [14] h1 rfl rfl h0 rfl rfl (rowsS hA) rfl (plainS _ _ _) (by rw [hl]; rfl)
  · exact SaysAt.rows (T := heapN) (R0 := [rS xs e u]) (R1 := []) [8] (ri_e xs c e u hb hn a z hK) rfl rfl (sN h0) rfl rfl (rowsS hA) rfl rfl rfl
  · exact SaysAt.rows (T := heapN) (R0 := [rS xs e u]) [8] (ri_o xs c e u hb hn a z hK) rfl rfl (sN h0) rfl rfl (rowsS hA) rfl (plainS _ _ _) (by rw [hl]; rfl)
  · have h1 := same54 (xs ++ xs.map (miE a z)) (xs.length + xs.length) (xs.length + xs.length) 32 24 .row .row (by simp; omega) (by simp; omega)
    rw [show (xs ++ xs.map (miE a z)).length = xs.length + xs.length by simp] at h1
    rcases hp with rfl | rfl | rfl
    · exact SaysAt.rows (T := heap0) (R1 := []) [15, 19] h1 rfl rfl h0 rfl rfl (rows2 hA hB) rfl rfl rfl
    · exact SaysAt.rows (T := heap0) (R1 := []) [15, 20] h1 rfl rfl h0 rfl rfl (rows2 hA hB) rfl rfl rfl
    · exact SaysAt.rows (T := heap0) (R1 := []) [15, 21] h1 rfl rfl h0 rfl rfl (rows2 hA hB) rfl rfl rfl
theorem law_n (q x y a : Int) (z : Bool) (hs : shortB xs.length 9 = true) : LawS 6 [sl 8 0 xs.length c, .agg #[I q, I x, I y, I a, .bool z]] (H [rS xs e u]) := by
  refine law_of (t := rS xs 32 .row) (vT := fun p => .slice (some ⟨p, 0, none⟩) xs.length xs.length) (k := chkR xs) (fun A h0 hA => ?_) (fun A p h0 hA hl hp => ?_) (fun A h0 hA => ?_) (m1_n xs c e u hb hn q) (m2_n xs c e u hb hn x y) (m3_n xs c e u hb hn a z)
  · have h1 := sh_all xs 9 c e u
    rw [hs] at h1
    exact SaysAt.rows (T := heapN) (R0 := [rS xs e u]) (R1 := []) [8] h1 rfl rfl (sN h0) rfl rfl (rowsS hA) rfl rfl rfl
  · exact SaysAt.rows (T := heapN) (R0 := [rS xs e u]) [8] (ow_says xs c e u (by omega) hn) rfl rfl (sN h0) rfl rfl (rowsS hA) rfl (plainS _ _ _) (by rw [hl]; rfl)
  · exact SaysAt.rows (T := heapN) (R0 := [rS xs e u]) (R1 := []) [8] (rc_all xs c e u) rfl rfl (sN h0) rfl rfl (rowsS hA) rfl rfl rfl
end
/-
ArrayMoves: too many sources.
-/
theorem amno_p0 (L : List CallC) (q x y a : Int) (z : Bool) (vS : Value) (r8 : Option ARow) (h16 : ∀ (lim : Nat) (A : Heap), A = (H [r8, some (.cells [I q, I x, I y, I a, .bool z] 81 .var)]) → Gives Tryz.prog (envM.calls [16] L) lim 16 [vS, I 9] A (.bool false, A)) : Gives Tryz.prog (envM.calls [16] L) 0 6 [vS, .agg #[I q, I x, I y, I a, .bool z]] (H [r8]) ((.bool true), (H [r8])) :=
  Gives.by (n := 1000) (os := [.opw 6 23 (.bool false) (H [r8, (.some (.cells [I q, I x, I y, I a, (.bool z)] 81 .var))])]) (os' := []) (by kernel_rfl) (ObsOK.call (h16 9 (H [r8, (.some (.cells [I q, I x, I y, I a, (.bool z)] 81 .var))]) (by kernel_rfl)) (ObsOK.nil))
/-
ArrayMoves: without sources; the law at all rows.
-/
theorem fst0 (t : Int) : fstI [0, t] = t := by rw [fst2']; rfl
theorem rows0 {A : Heap} {r e : Nat} {u : Use} (h : hget A r = some (.cells [] e u)) : rowsAt A [r] = some [some (.cells [] e u)] := by
  simp only [rowsAt, h, List.all_nil, if_true]
theorem m1_0 {vS : Value} {r8 : Option ARow} (q : Int) (g51 : ∀ A, startsB heap0 A = true → hget A 8 = r8 → SaysAt Tryz.prog 8 51 [vS, I q] A (.slice none 0 0) (A ++ [])) : Mv1 vS r8 (.slice none 0 0) none q (fstI [0, ct49_r0 q]) := by
  rw [fst0, ← qt_eq]
  cases h : (qtE q == 0) with
  | false =>
    refine ⟨.slice none 0 0, qtE q, none, fun A h0 hA hl => ?_, fun _ A h0 _ => err54 h A h0, fun hc => by rw [h] at hc; cases hc⟩
    have h1 := SaysAt.of_gives prog_ok envB_ok (n46e_p0 q (qtE q) (k97B q) (ne_of h) h)
    have h2 := SaysAt.rows (T := heap0) (R0 := []) (R1 := []) (A := A) (args := [.slice none 0 0, I q]) (v := .tuple #[.slice none 0 0, I (qtE q)]) [] h1 rfl rfl h0 rfl rfl rfl rfl rfl rfl
    rw [List.append_nil] at h2
    exact h2.addNone
  | true =>
    refine ⟨sl 11 0 0 0, 0, some (.cells [] 32 .row), fun A h0 hA hl => ?_, (fun hc => by rw [h] at hc; cases hc), fun _ p hp => ⟨.slice none 0 0, none, fun A h0 hA hl => ?_, fun A h0 hA hB => ?_⟩⟩
    · have h1 := SaysAt.of_gives prog_ok envB_ok (n46o_p0 q (qtE q) (k97B q) (no_of h) h)
      exact SaysAt.rows (T := heap0) (R0 := []) (R1 := [some (.cells [] 32 .row)]) [] h1 rfl rfl h0 rfl rfl rfl rfl rfl (by rw [hl]; rfl)
    · have := g51 A h0 hA
      rw [List.append_nil] at this
      exact this.addNone
    · rw [show qtE q = 0 by simpa using h]
      exact SaysAt.rows (T := heap0) (R1 := []) [11] (SaysAt.of_gives prog_ok envB_ok (s54v_p0 0 (some (.cells [] 32 .row)))) rfl rfl h0 rfl rfl (rows0 hA) rfl rfl rfl
theorem lim_of {a : Int} (h : cpl50_r0 a = 0) : (a != lim_r0 a 100) = false := by
  rw [lim_ne]
  rw [cpl_eq] at h
  by_cases h1 : -100 ≤ a ∧ a ≤ 100
  · rw [decide_eq_true h1]; rfl
  · rw [if_neg h1] at h; cases h
theorem lim_no {a : Int} (h : cpl50_r0 a ≠ 0) : (a != lim_r0 a 100) = true ∧ cpl50_r0 a = 3 := by
  rw [lim_ne]
  rw [cpl_eq] at h ⊢
  by_cases h1 : -100 ≤ a ∧ a ≤ 100
  · rw [if_pos h1] at h; exact (h rfl).elim
  · rw [decide_eq_false h1, if_neg h1]; exact ⟨rfl, rfl⟩
theorem m2_0 {vS : Value} {r8 : Option ARow} (a b : Int) (g52 : ∀ A, startsB heap0 A = true → hget A 8 = r8 → SaysAt Tryz.prog 8 52 [vS, I a, I b] A (.tuple #[.slice none 0 0, I 0]) (A ++ [])) : Mv2 47 52 [I a, I b] 12 vS r8 (.slice none 0 0) none (fstI [0, cpl50_r0 a, cpl50_r0 b]) := by
  have e : fstI [0, cpl50_r0 a, cpl50_r0 b] = if cpl50_r0 a != 0 then cpl50_r0 a else cpl50_r0 b := by rw [fst3]; rfl
  rw [e]
  by_cases ha : cpl50_r0 a = 0
  · rw [show (cpl50_r0 a != 0) = false by simp [ha], if_neg (by decide)]
    by_cases hb : cpl50_r0 b = 0
    · rw [hb]
      refine ⟨sl 13 0 0 0, 0, some (.cells [] 32 .row), fun A h0 hA hl => ?_, (fun hc => by cases hc), fun _ p hp => ⟨.slice none 0 0, none, fun A h0 hA hl => ?_, fun A h0 hA hB => ?_⟩⟩
      · have h1 := SaysAt.of_gives prog_ok envB_ok (n47o_p0 a b (lim_of ha) (lim_of hb))
        exact SaysAt.rows (T := heap0) (R0 := []) (R1 := [some (.cells [] 32 .row)]) [] h1 rfl rfl h0 rfl rfl rfl rfl rfl (by rw [hl]; rfl)
      · have := g52 A h0 hA
        rw [List.append_nil] at this
        exact this.addNone
      · exact SaysAt.rows (T := heap0) (R1 := []) [13] (SaysAt.of_gives prog_ok envB_ok (s54v_p0 0 (some (.cells [] 32 .row)))) rfl rfl h0 rfl rfl (rows0 hA) rfl rfl rfl
    · obtain ⟨hb1, hb2⟩ := lim_no hb
      rw [hb2]
      refine ⟨.slice none 0 0, 3, none, fun A h0 hA hl => ?_, fun _ A h0 _ => err54 rfl A h0, fun hc => by cases hc⟩
      have h1 := SaysAt.of_gives prog_ok envB_ok (n47b_p0 a b (lim_of ha) hb1)
      have h2 := SaysAt.rows (T := heap0) (R0 := []) (R1 := []) (A := A) (args := [.slice none 0 0, I a, I b]) (v := .tuple #[.slice none 0 0, I 3]) [] h1 rfl rfl h0 rfl rfl rfl rfl rfl rfl
      rw [List.append_nil] at h2
      exact h2.addNone
  · obtain ⟨ha1, ha2⟩ := lim_no ha
    rw [ha2, if_pos (by decide)]
    refine ⟨.slice none 0 0, 3, none, fun A h0 hA hl => ?_, fun _ A h0 _ => err54 rfl A h0, fun hc => by cases hc⟩
    have h1 := SaysAt.of_gives prog_ok envB_ok (n47a_p0 a b ha1)
    have h2 := SaysAt.rows (T := heap0) (R0 := []) (R1 := []) (A := A) (args := [.slice none 0 0, I a, I b]) (v := .tuple #[.slice none 0 0, I 3]) [] h1 rfl rfl h0 rfl rfl rfl rfl rfl rfl
    rw [List.append_nil] at h2
    exact h2.addNone
theorem m3_0 {vS : Value} {r8 : Option ARow} (a : Int) (z : Bool) (g53 : ∀ A p, startsB heap0 A = true → hget A 8 = r8 → A.length = p → SaysAt Tryz.prog 8 53 [vS, I a, .bool z] A (.tuple #[.slice (some ⟨p, 0, none⟩) 0 0, I 0]) (A ++ [some (.cells [] 24 .emp)])) : Mv2 48 53 [I a, .bool z] 14 vS r8 (.slice none 0 0) none (fstI [0, cpl50_r0 a]) := by
  rw [fst0]
  by_cases ha : cpl50_r0 a = 0
  · rw [ha]
    refine ⟨.slice none 0 0, 0, none, fun A h0 hA hl => ?_, (fun hc => by cases hc), fun _ p hp => ⟨.slice (some ⟨p, 0, none⟩) 0 0, some (.cells [] 24 .emp), fun A h0 hA hl => g53 A p h0 hA hl, fun A h0 hA hB => ?_⟩⟩
    · have h1 := SaysAt.of_gives prog_ok envB_ok (n48o_p0 a z (lim_of ha))
      have h2 := SaysAt.rows (T := heap0) (R0 := []) (R1 := []) (A := A) (args := [.slice none 0 0, I a, .bool z]) (v := .tuple #[.slice none 0 0, I 0]) [] h1 rfl rfl h0 rfl rfl rfl rfl rfl rfl
      rw [List.append_nil] at h2
      exact h2.addNone
    · rcases hp with rfl | rfl | rfl
      · exact SaysAt.rows (T := heap0) (R1 := []) [19] (SaysAt.of_gives prog_ok envB_ok (s54w_p0 0 (some (.cells [] 24 .emp)))) rfl rfl h0 rfl rfl (rows0 hB) rfl rfl rfl
      · exact SaysAt.rows (T := heap0) (R1 := []) [20] (SaysAt.of_gives prog_ok envB_ok (s54w_p0 0 (some (.cells [] 24 .emp)))) rfl rfl h0 rfl rfl (rows0 hB) rfl rfl rfl
      · exact SaysAt.rows (T := heap0) (R1 := []) [21] (SaysAt.of_gives prog_ok envB_ok (s54w_p0 0 (some (.cells [] 24 .emp)))) rfl rfl h0 rfl rfl (rows0 hB) rfl rfl rfl
  · obtain ⟨ha1, ha2⟩ := lim_no ha
    rw [ha2]
    refine ⟨.slice none 0 0, 3, none, fun A h0 hA hl => ?_, fun _ A h0 _ => err54 rfl A h0, fun hc => by cases hc⟩
    have h1 := SaysAt.of_gives prog_ok envB_ok (n48a_p0 a z ha1)
    have h2 := SaysAt.rows (T := heap0) (R0 := []) (R1 := []) (A := A) (args := [.slice none 0 0, I a, .bool z]) (v := .tuple #[.slice none 0 0, I 3]) [] h1 rfl rfl h0 rfl rfl rfl rfl rfl rfl
    rw [List.append_nil] at h2
    exact h2.addNone
theorem law_nil (q x y a : Int) (z : Bool) : LawS 6 [.slice none 0 0, .agg #[I q, I x, I y, I a, .bool z]] (H [none]) := by
  refine law_of (t := none) (vT := fun _ => .slice none 0 0) (k := 0) (fun A h0 hA => ?_) (fun A p h0 hA hl hp => ?_) (fun A h0 hA => ?_) (m1_0 q fun A h0 hA => ?_) (m2_0 x y fun A h0 hA => ?_) (m3_0 a z fun A p h0 hA hl => ?_)
  · exact SaysAt.rows (T := heap0) (R0 := []) (R1 := []) [] (SaysAt.of_gives prog_ok envB_ok n16_p0) rfl rfl h0 rfl rfl rfl rfl rfl rfl
  · have h2 := SaysAt.rows (T := heap0) (R0 := []) (R1 := []) (A := A) (args := [.slice none 0 0]) (v := .slice none 0 0) [] (SaysAt.of_gives prog_ok envB_ok n20_p0) rfl rfl h0 rfl rfl rfl rfl rfl rfl
    rw [List.append_nil] at h2
    exact h2.addNone
  · exact SaysAt.rows (T := heap0) (R0 := []) (R1 := []) [] (SaysAt.of_gives prog_ok envB_ok n25_p0) rfl rfl h0 rfl rfl rfl rfl rfl rfl
  · exact SaysAt.rows (T := heap0) (R0 := []) (R1 := []) [] (SaysAt.of_gives prog_ok envB_ok (n51_p0 q)) rfl rfl h0 rfl rfl rfl rfl rfl rfl
  · exact SaysAt.rows (T := heap0) (R0 := []) (R1 := []) [] (SaysAt.of_gives prog_ok envB_ok (n52_p0 x y)) rfl rfl h0 rfl rfl rfl rfl rfl rfl
  · exact SaysAt.rows (T := heap0) (R0 := []) (R1 := [some (.cells [] 24 .emp)]) [] (SaysAt.of_gives prog_ok envB_ok (n53_p0 a z)) rfl rfl h0 rfl rfl rfl rfl rfl (by rw [hl]; rfl)
theorem law_emp (q x y a : Int) (z : Bool) (c r : Nat) (u : Use) : LawS 6 [sl 8 0 0 c, .agg #[I q, I x, I y, I a, .bool z]] (H [some (.cells [] r u)]) := by
  refine law_of (t := none) (vT := fun _ => .slice none 0 0) (k := 0) (fun A h0 hA => ?_) (fun A p h0 hA hl hp => ?_) (fun A h0 hA => ?_) (m1_0 q fun A h0 hA => ?_) (m2_0 x y fun A h0 hA => ?_) (m3_0 a z fun A p h0 hA hl => ?_)
  · exact SaysAt.rows (T := heapN) (R0 := [some (.cells [] r u)]) (R1 := []) [8] (sh_all [] 9 c r u) rfl rfl (sN h0) rfl rfl (rows0 hA) rfl rfl rfl
  · have h2 := SaysAt.rows (T := heap0) (R0 := [some (.cells [] r u)]) (R1 := []) (A := A) (args := [sl 8 0 0 c]) (v := .slice none 0 0) [8] (SaysAt.of_gives prog_ok envB_ok (e20_p0 c (some (.cells [] r u)))) rfl rfl h0 rfl rfl (rows0 hA) rfl rfl rfl
    rw [List.append_nil] at h2
    exact h2.addNone
  · exact SaysAt.rows (T := heapN) (R0 := [some (.cells [] r u)]) (R1 := []) [8] (rc_all [] c r u) rfl rfl (sN h0) rfl rfl (rows0 hA) rfl rfl rfl
  · exact SaysAt.rows (T := heap0) (R0 := [some (.cells [] r u)]) (R1 := []) [8] (SaysAt.of_gives prog_ok envB_ok (e51_p0 q c (some (.cells [] r u)))) rfl rfl h0 rfl rfl (rows0 hA) rfl rfl rfl
  · exact SaysAt.rows (T := heap0) (R0 := [some (.cells [] r u)]) (R1 := []) [8] (SaysAt.of_gives prog_ok envB_ok (e52_p0 x y c (some (.cells [] r u)))) rfl rfl h0 rfl rfl (rows0 hA) rfl rfl rfl
  · exact SaysAt.rows (T := heap0) (R0 := [some (.cells [] r u)]) (R1 := [some (.cells [] 24 .emp)]) [8] (SaysAt.of_gives prog_ok envB_ok (e53_p0 a z c r u)) rfl rfl h0 rfl rfl (rows0 hA) rfl rfl (by rw [hl]; rfl)
/-- The law is true at these rows. -/
def LawM (f : FuncId) (args : List Value) (A : Heap) : Prop := ∃ E A', EnvOK Tryz.prog 8 E ∧ Gives Tryz.prog E 0 f args A (.bool true, A')
theorem LawS.m {f : FuncId} {args : List Value} {A : Heap} (h : LawS f args A) : LawM f args A := let ⟨E, h1, h2⟩ := h; ⟨E, A, h1, h2⟩
theorem runsArrayMoves0 (q x y a : Int) (z : Bool) : LawM 6 [.slice none 0 0, .agg #[I q, I x, I y, I a, .bool z]] heap0 := by
  obtain ⟨E, hE, hg⟩ := law_nil q x y a z
  have h1 : SaysAt Tryz.prog 8 6 [.slice none 0 0, .agg #[I q, I x, I y, I a, .bool z]] (heap0 ++ [none]) (.bool true) (H [none]) := SaysAt.of_gives prog_ok hE hg
  have h2 : SaysAt Tryz.prog 8 6 [.slice none 0 0, .agg #[I q, I x, I y, I a, .bool z]] heap0 (.bool true) (heap0 ++ [none]) := h1.dropNone
  have hE2 : EnvOK Tryz.prog 8 (envM.calls [6] [⟨6, [.slice none 0 0, .agg #[I q, I x, I y, I a, .bool z]], heap0, .bool true, [none]⟩]) := Env.calls_ok envM_ok (List.forall_mem_cons.2 ⟨h2, fun _ h => nomatch h⟩)
  exact ⟨_, _, hE2, Env.calls_here (one1 _) ⟨6, [.slice none 0 0, .agg #[I q, I x, I y, I a, .bool z]], heap0, .bool true, [none]⟩ (List.Mem.head _) rfl⟩
theorem law_long (xs : List Sr) (c e : Nat) (u : Use) (q x y a : Int) (z : Bool) (hs : shortB xs.length 9 = false) : LawS 6 [sl 8 0 xs.length c, .agg #[I q, I x, I y, I a, .bool z]] (H [rS xs e u]) := by
  let C : CallC := ⟨16, [sl 8 0 xs.length c, I 9], H [rS xs e u, some (.cells [I q, I x, I y, I a, .bool z] 81 .var)], .bool false, []⟩
  have h1 := sh_all xs 9 c e u
  rw [hs] at h1
  have hE : EnvOK Tryz.prog 8 (envM.calls [16] [C]) := Env.calls_ok envM_ok (List.forall_mem_cons.2 ⟨SaysAt.rows (T := heapN) (R0 := [rS xs e u]) (R1 := []) [8] h1 rfl rfl rfl rfl rfl (rowsS rfl) rfl rfl rfl, fun _ h => nomatch h⟩)
  exact ⟨_, hE, amno_p0 _ q x y a z _ _ (fun lim A hA => by subst hA; have h := Env.calls_here (P := Tryz.prog) (E := envM) (fs := [16]) (L := [C]) (lim := lim) (one1 _) C (List.Mem.head _) rfl; exact h)⟩
theorem runsArrayMoves1 (q x y a : Int) (z : Bool) (xs : List Sr) (e : Nat) (u : Use) : LawM 6 [sl 8 0 xs.length xs.length, .agg #[I q, I x, I y, I a, .bool z]] (heap0 ++ [rS xs e u]) := by
  cases hs : shortB xs.length 9 with
  | false => exact (law_long xs xs.length e u q x y a z hs).m
  | true =>
    have hb : xs.length ≤ 500 := by
      unfold shortB at hs
      simp only [Bool.or_eq_true, decide_eq_true_eq, beq_iff_eq] at hs
      omega
    by_cases hn : 1 ≤ xs.length
    · exact (law_n xs xs.length e u hb hn q x y a z hs).m
    · obtain rfl : xs = [] := by cases xs with
        | nil => rfl
        | cons a l => simp at hn
      exact (law_emp q x y a z 0 e u).m
/-
ArrayPressures: the law is true, if there are sources.
-/
theorem sq_rsq (a b : Int) : sq_r0 a b = rsq_r0 a b := rfl
/-
ArrayPressures: its ways without sources.
-/
/-
ArrayPressures: the law is true.
-/
theorem ListOf_srs : ∀ {n : Nat} {rows : List Value}, ListOf [.int .i64, .int .i64, .int .i64, .int .i64] n rows → ∃ xs : List Sr, xs.length = n ∧ rows = srs xs
  | 0, rows, h => ⟨[], rfl, by have := h.1; simp at this; rw [this]; rfl⟩
  | n + 1, rows, h => by
    obtain ⟨h1, h2⟩ := h
    simp only [List.length_cons, List.length_nil] at h1 h2
    have a := h2 0 (by omega)
    simp only [Nat.zero_mul, List.drop_zero] at a
    obtain ⟨x, c1, e1, _, a⟩ := a.int_inv
    obtain ⟨y, c2, e2, _, a⟩ := a.int_inv
    obtain ⟨g, c3, e3, _, a⟩ := a.int_inv
    obtain ⟨p, c4, e4, _, a⟩ := a.int_inv
    have e5 := a.end
    obtain ⟨xs, g1, g2⟩ := ListOf_srs (n := n) (rows := rows.drop 4) ⟨by simp; omega, fun i hi => by
      have := h2 (i + 1) (by omega)
      simp only [List.length_cons, List.length_nil]
      rw [List.drop_drop]
      have e : 4 + i * (0 + 1 + 1 + 1 + 1) = (i + 1) * (0 + 1 + 1 + 1 + 1) := by omega
      rw [e]; exact this⟩
    refine ⟨⟨x, y, g, p⟩ :: xs, by simp [g1], ?_⟩
    rw [← List.take_append_drop 4 rows, g2, show rows.take 4 = [I x, I y, I g, I p] from by rw [show (4 : Nat) = 0 + 1 + 1 + 1 + 1 from rfl, e1, e2, e3, e4, e5]]
    rfl
end Go.Proofs.YtpdiaiccnaoaiaaGreatDoor
/-
ArrayMoves: from the rows to the statement.
-/
namespace Go.Proofs.YtpdiaiccnaoaiaaGreatDoor.arrayMoves
open Go Go.Abs Go.ChangeShapes Go.WideShapes Go.ChangeAt Go.RowKit

theorem own : ownKnob Tryz.prog.godebug = none := by kernel_rfl
theorem heap0_eq : heap0 = tabRows Tryz.prog Rows.arrayMovesRow.laid 8 := by kernel_rfl
theorem still0 : noOwn heap0 = true := by kernel_rfl
section
variable {H : Type} {enc : TypeId × Value → H} {w : World} {base : Nat} {sp : Nat → Bool} {hd : Bool}
set_option maxRecDepth 100000 in
theorem arg22 {r : Reach} {b0 : Nat} {v : Value} {d : DataW H} {p : List MemPlace} (hv : Value.okWide Tryz.prog w r b0 22 v) (h : DataW.Trod enc Tryz.prog w base (fun _ => true) hd 22 v d p) : CellsAs w [.list 24 [.int .i64, .int .i64, .int .i64, .int .i64]] [v] := by
  obtain ⟨fuel, h⟩ := h
  have hi := args_of 9 22 [.list 24 [.int .i64, .int .i64, .int .i64, .int .i64]] fuel _ _ (by kernel_rfl) h
  have hc : v.cells.toList = [v] := by
    cases v <;> first | rfl | (exfalso; simp [Value.okWide, Cell.okWide, Cell.ok, Tryz.underlying22] at hv)
  rw [hc] at hi
  exact hi
set_option maxRecDepth 100000 in
theorem arg81 {r : Reach} {b0 : Nat} {v : Value} {d : DataW H} {p : List MemPlace} (hv : Value.okWide Tryz.prog w r b0 81 v) (h : DataW.Trod enc Tryz.prog w base (fun _ => true) hd 81 v d p) : ∃ (a0 a1 a2 a3 : Int) (a4 : Bool), v = .agg #[I a0, I a1, I a2, I a3, .bool a4] := by
  obtain ⟨fuel, h⟩ := h
  simp only [Value.okWide, Tryz.underlying81] at hv
  obtain ⟨cs, rfl, _, _⟩ := hv
  have hi := args_of 9 81 [.atom (.int .i64), .atom (.int .i64), .atom (.int .i64), .atom (.int .i64), .atom (.bool)] fuel _ _ (by kernel_rfl) h
  simp only [Value.cells] at hi
  obtain ⟨a0, l0, e0, _, hi⟩ := hi.int_inv
  obtain ⟨a1, l1, e1, _, hi⟩ := hi.int_inv
  obtain ⟨a2, l2, e2, _, hi⟩ := hi.int_inv
  obtain ⟨a3, l3, e3, _, hi⟩ := hi.int_inv
  obtain ⟨a4, l4, e4, hi⟩ := hi.bool_inv
  have ee := hi.end
  refine ⟨a0, a1, a2, a3, a4, ?_⟩
  rw [← Array.toList_inj.1 (show cs.toList = (#[I a0, I a1, I a2, I a3, .bool a4] : Array Value).toList from by rw [e0, e1, e2, e3, e4, ee])]
end
theorem some_row : ∃ i cs e u, hget heap0 i = some (.cells cs e u) := ⟨0, _, _, _, rfl⟩
theorem done {ρ : Go.Abs.Loc} {A : Heap} {args args' : List Value} {W : World} {cd : Code} (hb : Tryz.f6.body = some cd) (h : LawM 6 args A) (ha : VRs ρ args args') (hG : Globs ρ 8) (hR : Rel Tryz.prog ρ A W) (hn : noOwn A = true) :
    Calls Tryz.prog 6 args'.toArray W fun e w' => e = .returned (.bool true) ∧ (w'.os = W.os ∧ w'.output = W.output) ∧ ∀ b, b < W.heap.size → w'.heap[b]? = W.heap[b]? := by
  obtain ⟨E, A1, hE, n, hk⟩ := h
  refine (calls_of (call_sound prog_ok hE n) prog_ok Tryz.func6 hb hk ha hG hR hn).mono ?_
  rintro e w' ⟨v', ρ', rfl, hv, _, hm, hs⟩
  rw [hv.atom_eq rfl]
  exact ⟨rfl, hm.out, hs⟩
theorem calls (x0 x1 x2 x3 : Int) (x4 : Bool) (v0 : Value) (W : World) (hL : laidMetH Tryz.prog Rows.arrayMovesRow.laid W) (hk0 : CellsAs W [.list 24 [.int .i64, .int .i64, .int .i64, .int .i64]] [v0]) :
    Calls Tryz.prog 6 #[v0, .agg #[I x0, I x1, I x2, I x3, .bool x4]] W fun e w' =>
      e = .returned (.bool true) ∧ (w'.os = W.os ∧ w'.output = W.output) ∧ ∀ b, b < W.heap.size → w'.heap[b]? = W.heap[b]? := by
  have hl : laidMet Tryz.prog Rows.arrayMovesRow.laid W := by rw [← MakeChecks.laidMetH_plain _ _ _ (by kernel_rfl)]; exact hL
  have hR : Rel Tryz.prog (tabLoc 8) heap0 W := by rw [heap0_eq]; exact tabRows_rel hl
  have hb : ∃ cd, Tryz.f6.body = some cd := ⟨_, rfl⟩
  obtain ⟨cd, hb⟩ := hb
  have hG := tabLoc_globs 8
  obtain ⟨w0, cs0, b0, n0, rows0, ρ0, e0, hk0', hl0, hb0, hv0, hx0, hR0, hn0⟩ := hk0.list_inv hR still0 some_row
  obtain ⟨xs0, hxn0, rfl⟩ := ListOf_srs hl0
  subst hxn0
  obtain rfl := hk0'.end
  simp only [List.cons.injEq, and_true] at e0
  subst e0
  cases b0 with
  | false =>
    have hn_0 : v0 = .slice none 0 0 := hv0.atom_eq rfl
    subst hn_0
    exact done hb (runsArrayMoves0 x0 x1 x2 x3 x4 ) (VRs.cons (.atom rfl) (VRs.cons (VR.refl _ rfl) (VRs.nil _))) hG hR still0
  | true =>
    exact done hb (runsArrayMoves1 x0 x1 x2 x3 x4 xs0 24 .ro) (VRs.cons hv0 (VRs.cons (VR.refl _ rfl) (VRs.nil _))) (hG.mono hx0) hR0 hn0

theorem reads_ok : Reads Tryz.prog := ⟨by kernel_rfl, by kernel_rfl, by kernel_rfl⟩
theorem len_2 {α : Type} {l : List α} (h : l.length = 2) : ∃ y0 y1 : α, l = [y0, y1] := by
  match l, h with
  | [y0, y1], _ => exact ⟨y0, y1, rfl⟩

set_option maxRecDepth 100000 in
theorem contract (H : Type) (enc : TypeId × Value → H) (W : World) (base : Nat) (args : Array Value) (ds gs : List (DataW H)) (before : List MemPlace)
    (hval : ∀ (j : Nat) t v, Tryz.f6.params[j]? = some t → args[j]? = some v → Value.okWide Tryz.prog W .any base t v)
    (hW : DataW.Whole enc Tryz.prog Tryz.f6.params.toList Rows.arrayMovesSpec.vars false W args.toList ds gs before) (hL : laidMetH Tryz.prog Rows.arrayMovesRow.laid W) :
    Calls Tryz.prog 6 args W fun e W' => ∃ v, e = .returned v ∧ Rows.arrayMovesSpec.post enc Tryz.prog Tryz.f6 false true false false W args v W' := by
  have hW' := hW
  obtain ⟨p, q, hA, hV, rfl, hfz, hnd⟩ := hW
  have hA0 : DataW.TrodAll enc Tryz.prog W 0 (fun _ => true) true Tryz.f6.params.toList args.toList ds p := hA
  rw [Tryz.params6] at hA0 hval
  obtain ⟨v0, vs0, d0, ds0, p0, q0, hargs0, rfl, rfl, h0, r0⟩ := trodAll_cons hA0
  obtain ⟨v1, vs1, d1, ds1, p1, q1, hargs1, rfl, rfl, h1, r1⟩ := trodAll_cons r0
  obtain ⟨rfl, rfl, rfl⟩ := trodAll_nil r1
  obtain rfl : args = #[v0, v1] := by cases args; simp_all
  have hk0 := arg22 (hval 0 22 v0 rfl rfl) h0
  obtain ⟨x0, x1, x2, x3, x4, rfl⟩ := arg81 (hval 1 81 v1 rfl rfl) h1
  refine (calls x0 x1 x2 x3 x4 v0 W hL hk0).mono fun e W' hr => ?_
  obtain ⟨rfl, ho, hb⟩ := hr
  refine ⟨_, rfl, law_post (bt := 4) reads_ok rfl (fun ds hl => ?_) (by kernel_rfl) Tryz.underlying4 (by kernel_rfl) hW' ho hb⟩
  rw [show Tryz.f6.params.size = 2 by kernel_rfl] at hl
  obtain ⟨y0, y1, rfl⟩ := len_2 hl
  rfl
end Go.Proofs.YtpdiaiccnaoaiaaGreatDoor.arrayMoves
/-
ArrayMoves of the package wooferlaw06 returns true for every input, whatever the world: proved for all arguments, under the conditions that the row and its card name (the package-level tables as laid).
-/
namespace Go.Proofs.YtpdiaiccnaoaiaaGreatDoor.arrayMoves
open Go Go.Abs Go.ChangeShapes Go.WideShapes Go.ChangeAt Go.RowKit

/-- The settled world, the tables laid. -/
noncomputable def putTab (A : Heap) (w : World) : World :=
  { w with heap := ((List.range 8).foldl (fun h g => match hget A g with
      | some (.cells cs _ _) => h.modify g fun
        | .cells _ t frozen => .cells cs.toArray t frozen
        | o => o
      | _ => h) w.heap) }
noncomputable def laidWorld (os : Os) : World := putTab heap0 (World.holding Tryz.prog os ⟨#[], #[], []⟩)
theorem laid_met (os : Os) : laidMet Tryz.prog Rows.arrayMovesRow.laid ((laidWorld os).forCall (fun _ _ => 0) ⟨#[], #[.slice none 0 0, .agg #[.int .i64 0, .int .i64 0, .int .i64 0, .int .i64 0, .bool false]], []⟩).memory :=
  laidMet_of_run' 8 (by kernel_rfl) (by kernel_rfl)
theorem reads (os : Os) {H : Type} (enc : TypeId × Value → H) : ∃ places, DataW.whole enc Tryz.prog ((laidWorld os).forCall (fun _ _ => 0) ⟨#[], #[.slice none 0 0, .agg #[.int .i64 0, .int .i64 0, .int .i64 0, .int .i64 0, .bool false]], []⟩).memory Tryz.f6.params.toList Rows.arrayMovesSpec.vars false (#[.slice none 0 0, .agg #[.int .i64 0, .int .i64 0, .int .i64 0, .int .i64 0, .bool false]] : Array Value).toList 8 = some ([.nil, .agg [.lit (.int .i64 0), .lit (.int .i64 0), .lit (.int .i64 0), .lit (.int .i64 0), .lit (.bool false)]], [], places) :=
  ⟨[], by kernel_rfl⟩

set_option maxRecDepth 100000 in
theorem lifted (os : Os) (started : os.Started) (H : Type) (enc : TypeId × Value → H) (F : Stop.Interp) :
    ReturnsInHanded {} Tryz.checked os 6 .any ((OpenSpec.ofChange Rows.arrayMovesSpec).preRow enc Tryz.prog Tryz.f6 Rows.arrayMovesRow.domain false Rows.arrayMovesRow.laid) (((OpenSpec.ofChange Rows.arrayMovesSpec).at F).post enc Tryz.prog Tryz.f6 false true false false) := by
  obtain ⟨places, hx⟩ := reads os enc
  refine returnsInHanded_of_row (C := Tryz.checked) (s := OpenSpec.ofChange Rows.arrayMovesSpec) own started (by kernel_rfl) Tryz.func6
    (witness_row_at (enc := enc) (C := Tryz.checked) false (laidWorld os) #[.slice none 0 0, .agg #[.int .i64 0, .int .i64 0, .int .i64 0, .int .i64 0, .bool false]] rfl (by kernel_rfl) (by kernel_rfl) (by kernel_rfl)
      (OpenSpec.preRow_of_cond 8 hx (by kernel_rfl) (fun k hk => by cases hk) (by kernel_rfl) (laid_met os))) ?_
  intro W base args ds gs before hval hW _ _ _ hL _ _
  exact contract H enc W base args ds gs before hval hW hL

theorem said : Rows.ArrayMovesSaid :=
  OpenClaim.holds_of_cond 6 Tryz.f6 rfl rfl rfl rfl rfl rfl rfl ⟨rfl, rfl, rfl, rfl, rfl⟩ rfl rfl rfl rfl rfl (by kernel_rfl) Tryz.func6 (by kernel_rfl)
    (of_decide_eq_true (by kernel_rfl)) (by unfold Func.isWrapper; first | (rw [if_pos (by decide +kernel)]; kernel_rfl) | (rw [if_neg (by decide +kernel)]; exact ⟨rfl, rfl⟩))
    (fun os started H enc _ F => by rw [OpenClaim.pre_eq_preRow]; exact lifted os started H enc F)

theorem plain (f : FuncId) (fn : Func) (hf : Tryz.pinned.checked.prog.funcNamed "woofer/wooferlaw06.ArrayMoves" = some f) (hfn : Tryz.pinned.checked.prog.funcs[f]? = some fn) :
    false = Tryz.pinned.checked.prog.looks [] ∧ ∀ (j : Nat) t, fn.params[j]? = some t → Tryz.pinned.checked.prog.wantsStandIn t = false := by
  obtain rfl : f = 6 := Option.some.inj ((show Tryz.prog.funcNamed "woofer/wooferlaw06.ArrayMoves" = some 6 by kernel_rfl).symm.trans hf) |>.symm
  obtain rfl : fn = Tryz.f6 := (Option.some.inj (Tryz.func6.symm.trans hfn)).symm
  refine ⟨by kernel_rfl, fun j t ht => ?_⟩
  rw [Tryz.params6] at ht
  have hm := Array.mem_of_getElem? ht
  simp only [List.mem_toArray, List.mem_cons, List.not_mem_nil, or_false] at hm
  rcases hm with rfl | rfl
  · exact (show Tryz.prog.wantsStandIn 22 = false by kernel_rfl)
  · exact (show Tryz.prog.wantsStandIn 81 = false by kernel_rfl)

theorem card : Rows.ArrayMovesCardSaid :=
  Claim7.holds_tied_plain_at .later [] _ _ _ _ said (fun _ h => by cases h) (by kernel_rfl) (fun _ h => by cases h) arrayMoves_row_tie rfl ⟨rfl, rfl⟩ (by kernel_rfl) rfl plain (by kernel_rfl)
end Go.Proofs.YtpdiaiccnaoaiaaGreatDoor.arrayMoves
