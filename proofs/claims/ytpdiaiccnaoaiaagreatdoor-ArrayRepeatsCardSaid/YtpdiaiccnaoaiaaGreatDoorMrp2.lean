/-
Joined: Kb, Kc, Kd, Ke, Kf, Kg, Kh, Kl, Fa, Fb, Km, Kp, Et, Eu, Ca, Cb, Cc, Cd, Ce, Cf, Dj, Dk, Fc, Dp, Ev, Dl, Dm, Dn, Do, Fd, Ea, Eb, Ec, Ed, Ee, Ef, Eg, Eh, Ei, Ej, Ek, El, Em, En, Dc, Dd, Ew, Ex, Fe, Ky, Ki, Kj, Kk, Ff, Fh, Fg, Kr, Kv, Kw.
-/
import Derived.Test.YtpdiaiccnaoaiaaGreatDoorMrp1
import Derived.Test.YtpdiaiccnaoaiaaGreatDoorMb5
set_option linter.unusedVariables false
set_option linter.unusedSimpArgs false
set_option linter.unusedSectionVars false
/-
The reference's repetition: pieces.
-/
namespace Go.Proofs.YtpdiaiccnaoaiaaGreatDoor
open Go Go.Abs
theorem rrq0_p0  (n c n2 c2 : Nat) (r8 r9 : Option ARow) : Runs Tryz.prog envC2 10 [.code (codeL (bodyOf 57))] [sl 8 0 n c, sl 9 0 n2 c2, U, U, U, U, U, U, U, U, U, U, U, U, U, U, U, U, U, U, U, U, U, U, U, U, U, U, U, U, U, U, U, U, U, U, U, U, U, U, U, U, U, U, U, U, U, U, U, U, U, U, U, U, U, U, U, U, U, U, U, U, U, U, U, U, U, U, U, U, U, U, U, U, U, U, U] (n8 [r8, r9]) ([(sl 8 0 n c), (sl 9 0 n2 c2), U, U, (.slice .none 0 0), (I 0), U, U, U, U, U, U, U, U, U, U, U, U, U, U, U, U, U, U, U, U, U, U, U, U, U, U, U, U, U, U, U, U, U, U, U, U, U, U, U, U, U, U, U, U, U, U, U, U, U, U, U, U, U, U, U, U, U, U, U, U, U, U, U, U, U, U, U, U, U, U, U], (n8 [r8, r9]), none) :=
  Runs.by (n := 1000) (fid := 57) (os := []) (os' := []) (by kernel_rfl) (ObsOK.nil)
theorem rrq1_p0  (n c n2 c2 : Nat) (r8 r9 : Option ARow) : Runs Tryz.prog envC2 10 [.code (codeL (codeR (bodyOf 57)))] [(sl 8 0 n c), (sl 9 0 n2 c2), U, U, (.slice .none 0 0), (I 0), U, U, U, U, U, U, U, U, U, U, U, U, U, U, U, U, U, U, U, U, U, U, U, U, U, U, U, U, U, U, U, U, U, U, U, U, U, U, U, U, U, U, U, U, U, U, U, U, U, U, U, U, U, U, U, U, U, U, U, U, U, U, U, U, U, U, U, U, U, U, U] (n8 [r8, r9]) ([(sl 8 0 n c), (sl 9 0 n2 c2), U, U, (.slice .none 0 0), (I 0), (.slice .none 0 0), U, U, U, U, U, U, U, U, U, U, U, U, U, U, U, U, U, U, U, U, U, U, U, U, U, U, U, U, U, U, U, U, U, U, U, U, U, U, U, U, U, U, U, U, U, U, U, U, U, U, U, U, U, U, U, U, U, U, U, U, U, U, U, U, U, U, U, U, U, U], (n8 [r8, r9]), none) :=
  Runs.by (n := 1000) (fid := 57) (os := []) (os' := []) (by kernel_rfl) (ObsOK.nil)
theorem rrq2_p0  (n c n2 c2 : Nat) (r8 r9 : Option ARow) : Runs Tryz.prog envC2 10 [.code (codeL (codeL (codeR (codeR (bodyOf 57)))))] [(sl 8 0 n c), (sl 9 0 n2 c2), U, U, (.slice .none 0 0), (I 0), (.slice .none 0 0), U, U, U, U, U, U, U, U, U, U, U, U, U, U, U, U, U, U, U, U, U, U, U, U, U, U, U, U, U, U, U, U, U, U, U, U, U, U, U, U, U, U, U, U, U, U, U, U, U, U, U, U, U, U, U, U, U, U, U, U, U, U, U, U, U, U, U, U, U, U] (n8 [r8, r9]) ([(sl 8 0 n c), (sl 9 0 n2 c2), U, U, (.slice .none 0 0), (I 0), (.slice .none 0 0), (I 0), U, U, U, U, U, U, U, U, U, U, U, U, U, U, U, U, U, U, U, U, U, U, U, U, U, U, U, U, U, U, U, U, U, U, U, U, U, U, U, U, U, U, U, U, U, U, U, U, U, U, U, U, U, U, U, U, U, U, U, U, U, U, U, U, U, U, U, U, U], (n8 [r8, r9]), none) :=
  Runs.by (n := 1000) (fid := 57) (os := []) (os' := []) (by kernel_rfl) (ObsOK.nil)
theorem rrh0_p0 (v2 v3 v4 v5 v8 v9 v10 v11 v12 v13 v14 v15 v16 v17 v18 v19 v20 v21 v22 v23 v24 v25 v26 v27 v28 v29 v30 v31 v32 v33 v34 v35 v36 v37 v38 v39 v40 v41 v42 v43 v44 v45 v46 v47 v48 v49 v50 v51 v52 v53 v54 v55 v56 v57 v58 v59 v60 v61 v62 v63 v64 v65 v66 v67 v68 v69 v70 v71 v72 v73 v74 v75 v76 : Value) (n c n2 c2 : Nat) (r8 r9 : Option ARow) (i0 : Int) (va : Value) (ra : Option ARow) (k8 : Nat) (sx sy sg sp : Int) (f1 : decide (i0 < (n : Int)) = true) : Runs Tryz.prog envC2 10 [.code (codeL (round 0 (bodyOf 57)))] [(sl 8 0 n c), (sl 9 0 n2 c2), v2, v3, v4, v5, va, I i0, v8, v9, v10, v11, v12, v13, v14, v15, v16, v17, v18, v19, v20, v21, v22, v23, v24, v25, v26, v27, v28, v29, v30, v31, v32, v33, v34, v35, v36, v37, v38, v39, v40, v41, v42, v43, v44, v45, v46, v47, v48, v49, v50, v51, v52, v53, v54, v55, v56, v57, v58, v59, v60, v61, v62, v63, v64, v65, v66, v67, v68, v69, v70, v71, v72, v73, v74, v75, v76] (n8 [r8, r9, ra]) ([(sl 8 0 n c), (sl 9 0 n2 c2), v2, v3, v4, v5, va, I i0, v8, v9, I i0, (sl 8 0 n c), (I ((n : Int))), (.bool (decide (i0 < (n : Int)))), v14, v15, v16, v17, v18, v19, v20, v21, v22, v23, v24, v25, v26, v27, v28, v29, v30, v31, v32, v33, v34, v35, v36, v37, v38, v39, v40, v41, v42, v43, v44, v45, v46, v47, v48, v49, v50, v51, v52, v53, v54, v55, v56, v57, v58, v59, v60, v61, v62, v63, v64, v65, v66, v67, v68, v69, v70, v71, v72, v73, v74, v75, v76], (n8 [r8, r9, ra]), none) :=
  Runs.by (n := 1000) (fid := 57) (os := [.br 57 28 true]) (os' := []) (by kernel_rfl) (ObsOK.cond f1 (ObsOK.nil))
theorem rrh1_p0 (v2 v3 v4 v5 v8 v9 v10 v11 v12 v13 v14 v15 v16 v17 v18 v19 v20 v21 v22 v23 v24 v25 v26 v27 v28 v29 v30 v31 v32 v33 v34 v35 v36 v37 v38 v39 v40 v41 v42 v43 v44 v45 v46 v47 v48 v49 v50 v51 v52 v53 v54 v55 v56 v57 v58 v59 v60 v61 v62 v63 v64 v65 v66 v67 v68 v69 v70 v71 v72 v73 v74 v75 v76 : Value) (n c n2 c2 : Nat) (r8 r9 : Option ARow) (i0 : Int) (va : Value) (ra : Option ARow) (k8 : Nat) (sx sy sg sp : Int) (f1 : decide (i0 < (n : Int)) = true) : Runs Tryz.prog envC2 10 [.code (codeL (codeB (codeL (codeR (round 0 (bodyOf 57))))))] [(sl 8 0 n c), (sl 9 0 n2 c2), v2, v3, v4, v5, va, I i0, v8, v9, I i0, (sl 8 0 n c), (I ((n : Int))), (.bool (decide (i0 < (n : Int)))), v14, v15, v16, v17, v18, v19, v20, v21, v22, v23, v24, v25, v26, v27, v28, v29, v30, v31, v32, v33, v34, v35, v36, v37, v38, v39, v40, v41, v42, v43, v44, v45, v46, v47, v48, v49, v50, v51, v52, v53, v54, v55, v56, v57, v58, v59, v60, v61, v62, v63, v64, v65, v66, v67, v68, v69, v70, v71, v72, v73, v74, v75, v76] (n8 [r8, r9, ra]) ([(sl 8 0 n c), (sl 9 0 n2 c2), v2, v3, v4, v5, va, I i0, (I 0), v9, I i0, (sl 8 0 n c), (I ((n : Int))), (.bool (decide (i0 < (n : Int)))), v14, v15, v16, v17, v18, v19, v20, v21, v22, v23, v24, v25, v26, v27, v28, v29, v30, v31, v32, v33, v34, v35, v36, v37, v38, v39, v40, v41, v42, v43, v44, v45, v46, v47, v48, v49, v50, v51, v52, v53, v54, v55, v56, v57, v58, v59, v60, v61, v62, v63, v64, v65, v66, v67, v68, v69, v70, v71, v72, v73, v74, v75, v76], (n8 [r8, r9, ra]), none) :=
  Runs.by (n := 1000) (fid := 57) (os := []) (os' := []) (by kernel_rfl) (ObsOK.nil)
theorem rrt0_p0 (v2 v3 v4 v5 v8 v9 v10 v11 v12 v13 v14 v15 v16 v17 v18 v19 v20 v21 v22 v23 v24 v25 v26 v27 v28 v29 v30 v31 v32 v33 v34 v35 v36 v37 v38 v39 v40 v41 v42 v43 v44 v45 v46 v47 v48 v49 v50 v51 v52 v53 v54 v55 v56 v57 v58 v59 v60 v61 v62 v63 v64 v65 v66 v67 v68 v69 v70 v71 v72 v73 v74 v75 v76 : Value) (n c n2 c2 : Nat) (r8 r9 : Option ARow) (i0 : Int) (k8 : Nat) (sx sy sg sp : Int) (va : Value) (ra : Option ARow) : Runs Tryz.prog envC2 10 [.code (codeR (codeR (round 0 (bodyOf 57))))] [(sl 8 0 n c), (sl 9 0 n2 c2), v2, v3, v4, v5, va, I i0, v8, v9, v10, v11, v12, v13, v14, v15, v16, v17, v18, v19, v20, v21, v22, v23, v24, v25, v26, v27, v28, v29, v30, v31, v32, v33, v34, v35, v36, v37, v38, v39, v40, v41, v42, v43, v44, v45, v46, v47, v48, v49, v50, v51, v52, v53, v54, v55, v56, v57, v58, v59, v60, v61, v62, v63, v64, v65, v66, v67, v68, v69, v70, v71, v72, v73, v74, v75, v76] (n8 [r8, r9, ra]) ([(sl 8 0 n c), (sl 9 0 n2 c2), v2, v3, v4, v5, va, (I (IntKind.i64.wrap (i0 + 1))), v8, v9, v10, v11, v12, v13, I i0, (I (IntKind.i64.wrap (i0 + 1))), v16, v17, v18, v19, v20, v21, v22, v23, v24, v25, v26, v27, v28, v29, v30, v31, v32, v33, v34, v35, v36, v37, v38, v39, v40, v41, v42, v43, v44, v45, v46, v47, v48, v49, v50, v51, v52, v53, v54, v55, v56, v57, v58, v59, v60, v61, v62, v63, v64, v65, v66, v67, v68, v69, v70, v71, v72, v73, v74, v75, v76], (n8 [r8, r9, ra]), none) :=
  Runs.by (n := 1000) (fid := 57) (os := []) (os' := []) (by kernel_rfl) (ObsOK.nil)
theorem rrx_p0 (v2 v3 v4 v5 v8 v9 v10 v11 v12 v13 v14 v15 v16 v17 v18 v19 v20 v21 v22 v23 v24 v25 v26 v27 v28 v29 v30 v31 v32 v33 v34 v35 v36 v37 v38 v39 v40 v41 v42 v43 v44 v45 v46 v47 v48 v49 v50 v51 v52 v53 v54 v55 v56 v57 v58 v59 v60 v61 v62 v63 v64 v65 v66 v67 v68 v69 v70 v71 v72 v73 v74 v75 v76 : Value) (n c n2 c2 : Nat) (r8 r9 : Option ARow) (i0 : Int) (va : Value) (ra : Option ARow) (k8 : Nat) (sx sy sg sp : Int) (f1 : decide (i0 < (n : Int)) = false) : Runs Tryz.prog envC2 10 [.code (round 0 (bodyOf 57)), .inLoop (round 0 (bodyOf 57)), .inBlock 0] [(sl 8 0 n c), (sl 9 0 n2 c2), v2, v3, v4, v5, va, I i0, v8, v9, v10, v11, v12, v13, v14, v15, v16, v17, v18, v19, v20, v21, v22, v23, v24, v25, v26, v27, v28, v29, v30, v31, v32, v33, v34, v35, v36, v37, v38, v39, v40, v41, v42, v43, v44, v45, v46, v47, v48, v49, v50, v51, v52, v53, v54, v55, v56, v57, v58, v59, v60, v61, v62, v63, v64, v65, v66, v67, v68, v69, v70, v71, v72, v73, v74, v75, v76] (n8 [r8, r9, ra]) ([(sl 8 0 n c), (sl 9 0 n2 c2), v2, v3, v4, v5, va, I i0, v8, v9, I i0, (sl 8 0 n c), (I ((n : Int))), (.bool (decide (i0 < (n : Int)))), v14, v15, v16, v17, v18, v19, v20, v21, v22, v23, v24, v25, v26, v27, v28, v29, v30, v31, v32, v33, v34, v35, v36, v37, v38, v39, v40, v41, v42, v43, v44, v45, v46, v47, v48, v49, v50, v51, v52, v53, v54, v55, v56, v57, v58, v59, v60, v61, v62, v63, v64, v65, v66, v67, v68, v69, v70, v71, v72, v73, v74, v75, v76], (n8 [r8, r9, ra]), none) :=
  Runs.by (n := 1000) (fid := 57) (os := [.br 57 28 false]) (os' := []) (by kernel_rfl) (ObsOK.cond f1 (ObsOK.nil))
theorem rriA0_p0 (v2 v3 v4 v5 v9 v10 v11 v12 v13 v14 v15 v16 v17 v18 v19 v20 v21 v22 v23 v24 v25 v26 v27 v28 v29 v30 v31 v32 v33 v34 v35 v36 v37 v38 v39 v40 v41 v42 v43 v44 v45 v46 v47 v48 v49 v50 v51 v52 v53 v54 v55 v56 v57 v58 v59 v60 v61 v62 v63 v64 v65 v66 v67 v68 v69 v70 v71 v72 v73 v74 v75 v76 va : Value) (ra : Option ARow) (mm : Nat) (cs2 : List Value) (n c n2 c2 : Nat) (r8 r9 : Option ARow) (i0 : Int) (k8 : Nat) (sx sy sg sp i : Int) (k9 : Nat) (z9x z9y z9g z9p : Int) (hx9 : aIndexAddr Tryz.prog 22 (sl 9 0 n2 c2) (I i) = some (pt 9 k9)) (hl9 : aLoad Tryz.prog 24 (pt 9 k9) (n8 [r8, r9, ra]) = some (.agg #[I z9x, I z9y, I z9g, I z9p])) (hf9_0 : aLoad Tryz.prog 3 (pt 9 k9) (n8 [r8, r9, ra]) = some (I z9x)) (hf9_1 : aLoad Tryz.prog 3 (.pointer (some ⟨9, k9 + 1, none⟩)) (n8 [r8, r9, ra]) = some (I z9y)) (hf9_2 : aLoad Tryz.prog 3 (.pointer (some ⟨9, k9 + 2, none⟩)) (n8 [r8, r9, ra]) = some (I z9g)) (hf9_3 : aLoad Tryz.prog 3 (.pointer (some ⟨9, k9 + 3, none⟩)) (n8 [r8, r9, ra]) = some (I z9p)) (ha : aAppend Tryz.prog 10 #[22, 22] va (sl 11 0 1 1) (n8 [r8, r9, ra, (.some (.cells [(I (IntKind.i64.wrap (sx + z9x))), (I (IntKind.i64.wrap (sy + z9y))), (I (IntKind.i64.wrap (sg * z9g))), (I ((IntKind.i64.wrap (sp + z9p)).tmod 4))] 24 .row))]) = some (sl 12 0 (mm + 1) (mm + 1), (n8 [r8, r9, none, (.some (.cells [(I (IntKind.i64.wrap (sx + z9x))), (I (IntKind.i64.wrap (sy + z9y))), (I (IntKind.i64.wrap (sg * z9g))), (I ((IntKind.i64.wrap (sp + z9p)).tmod 4))] 24 .row)), some (.cells cs2 24 .row)]))) (f1 : decide (i < (n2 : Int)) = true) (hx8 : aIndexAddr Tryz.prog 22 (sl 8 0 n c) (I i0) = some (pt 8 k8)) (hsx : aLoad Tryz.prog 3 (pt 8 k8) (n8 [r8, r9, ra]) = some (I sx)) (hsy : aLoad Tryz.prog 3 (.pointer (some ⟨8, k8 + 1, none⟩)) (n8 [r8, r9, ra]) = some (I sy)) (hsg : aLoad Tryz.prog 3 (.pointer (some ⟨8, k8 + 2, none⟩)) (n8 [r8, r9, ra]) = some (I sg)) (hsp : aLoad Tryz.prog 3 (.pointer (some ⟨8, k8 + 3, none⟩)) (n8 [r8, r9, ra]) = some (I sp)) : Runs Tryz.prog envC2 10 [.code (round 2 (bodyOf 57))] [(sl 8 0 n c), (sl 9 0 n2 c2), v2, v3, v4, v5, va, I i0, I i, v9, v10, v11, v12, v13, v14, v15, v16, v17, v18, v19, v20, v21, v22, v23, v24, v25, v26, v27, v28, v29, v30, v31, v32, v33, v34, v35, v36, v37, v38, v39, v40, v41, v42, v43, v44, v45, v46, v47, v48, v49, v50, v51, v52, v53, v54, v55, v56, v57, v58, v59, v60, v61, v62, v63, v64, v65, v66, v67, v68, v69, v70, v71, v72, v73, v74, v75, v76] (n8 [r8, r9, ra]) ([(sl 8 0 n c), (sl 9 0 n2 c2), v2, v3, v4, v5, (sl 12 0 (mm + 1) (mm + 1)), I i0, (I (IntKind.i64.wrap (i + 1))), v9, v10, v11, v12, v13, v14, v15, I i, (sl 9 0 n2 c2), (I ((n2 : Int))), (.bool (decide (i < (n2 : Int)))), I i, (I (IntKind.i64.wrap (i + 1))), va, (sl 8 0 n c), I i0, (pt 8 k8), (.pointer (.some (Go.Addr.mk 8 (k8 + 0) .none))), I sx, (sl 9 0 n2 c2), I i, (pt 9 k9), (.pointer (.some (Go.Addr.mk 9 (k9 + 0) .none))), I z9x, (I (IntKind.i64.wrap (sx + z9x))), (sl 8 0 n c), I i0, (pt 8 k8), (.pointer (.some (Go.Addr.mk 8 (k8 + 1) .none))), I sy, (sl 9 0 n2 c2), I i, (pt 9 k9), (.pointer (.some (Go.Addr.mk 9 (k9 + 1) .none))), I z9y, (I (IntKind.i64.wrap (sy + z9y))), (sl 8 0 n c), I i0, (pt 8 k8), (.pointer (.some (Go.Addr.mk 8 (k8 + 2) .none))), I sg, (sl 9 0 n2 c2), I i, (pt 9 k9), (.pointer (.some (Go.Addr.mk 9 (k9 + 2) .none))), I z9g, (I (IntKind.i64.wrap (sg * z9g))), (sl 8 0 n c), I i0, (pt 8 k8), (.pointer (.some (Go.Addr.mk 8 (k8 + 3) .none))), I sp, (sl 9 0 n2 c2), I i, (pt 9 k9), (.pointer (.some (Go.Addr.mk 9 (k9 + 3) .none))), I z9p, (I (IntKind.i64.wrap (sp + z9p))), (I ((IntKind.i64.wrap (sp + z9p)).tmod 4)), (.agg #[(I (IntKind.i64.wrap (sx + z9x))), (I (IntKind.i64.wrap (sy + z9y))), (I (IntKind.i64.wrap (sg * z9g))), (I ((IntKind.i64.wrap (sp + z9p)).tmod 4))]), (sl 11 0 1 1), (sl 12 0 (mm + 1) (mm + 1)), v71, v72, v73, v74, v75, v76], (n8 [r8, r9, .none, (.some (.cells [(I (IntKind.i64.wrap (sx + z9x))), (I (IntKind.i64.wrap (sy + z9y))), (I (IntKind.i64.wrap (sg * z9g))), (I ((IntKind.i64.wrap (sp + z9p)).tmod 4))] 24 .row)), (.some (.cells cs2 24 .row))]), none) :=
  Runs.by (n := 1000) (fid := 57) (os := [.br 57 40 true, .op 57 26 (pt 8 k8), .op 57 28 (I sx), .op 57 31 (pt 9 k9), .op 57 33 (I z9x), .op 57 37 (pt 8 k8), .op 57 39 (I sy), .op 57 42 (pt 9 k9), .op 57 44 (I z9y), .op 57 48 (pt 8 k8), .op 57 50 (I sg), .op 57 53 (pt 9 k9), .op 57 55 (I z9g), .op 57 59 (pt 8 k8), .op 57 61 (I sp), .op 57 64 (pt 9 k9), .op 57 66 (I z9p), .opw 57 71 (sl 12 0 (mm + 1) (mm + 1)) (n8 [r8, r9, .none, (.some (.cells [(I (IntKind.i64.wrap (sx + z9x))), (I (IntKind.i64.wrap (sy + z9y))), (I (IntKind.i64.wrap (sg * z9g))), (I ((IntKind.i64.wrap (sp + z9p)).tmod 4))] 24 .row)), (.some (.cells cs2 24 .row))])]) (os' := []) (by kernel_rfl) (ObsOK.cond f1 (ObsOK.val hx8 (ObsOK.val hsx (ObsOK.val hx9 (ObsOK.val hf9_0 (ObsOK.val hx8 (ObsOK.val hsy (ObsOK.val hx9 (ObsOK.val hf9_1 (ObsOK.val hx8 (ObsOK.val hsg (ObsOK.val hx9 (ObsOK.val hf9_2 (ObsOK.val hx8 (ObsOK.val hsp (ObsOK.val hx9 (ObsOK.val hf9_3 (ObsOK.both ha (ObsOK.nil)))))))))))))))))))
theorem rriC_p0 (v2 v3 v4 v5 v9 v10 v11 v12 v13 v14 v15 v16 v17 v18 v19 v20 v21 v22 v23 v24 v25 v26 v27 v28 v29 v30 v31 v32 v33 v34 v35 v36 v37 v38 v39 v40 v41 v42 v43 v44 v45 v46 v47 v48 v49 v50 v51 v52 v53 v54 v55 v56 v57 v58 v59 v60 v61 v62 v63 v64 v65 v66 v67 v68 v69 v70 v71 v72 v73 v74 v75 v76 va : Value) (ra : Option ARow) (mm : Nat) (cs2 : List Value) (n c n2 c2 : Nat) (r8 r9 : Option ARow) (i0 : Int) (k8 : Nat) (sx sy sg sp i : Int) (f1 : decide (i < (n2 : Int)) = false) : Runs Tryz.prog envC2 10 [.code (round 2 (bodyOf 57)), .inLoop (round 2 (bodyOf 57)), .inBlock 2] [(sl 8 0 n c), (sl 9 0 n2 c2), v2, v3, v4, v5, va, I i0, I i, v9, v10, v11, v12, v13, v14, v15, v16, v17, v18, v19, v20, v21, v22, v23, v24, v25, v26, v27, v28, v29, v30, v31, v32, v33, v34, v35, v36, v37, v38, v39, v40, v41, v42, v43, v44, v45, v46, v47, v48, v49, v50, v51, v52, v53, v54, v55, v56, v57, v58, v59, v60, v61, v62, v63, v64, v65, v66, v67, v68, v69, v70, v71, v72, v73, v74, v75, v76] (n8 [r8, r9, ra]) ([(sl 8 0 n c), (sl 9 0 n2 c2), v2, v3, v4, v5, va, I i0, I i, v9, v10, v11, v12, v13, v14, v15, I i, (sl 9 0 n2 c2), (I ((n2 : Int))), (.bool (decide (i < (n2 : Int)))), v20, v21, v22, v23, v24, v25, v26, v27, v28, v29, v30, v31, v32, v33, v34, v35, v36, v37, v38, v39, v40, v41, v42, v43, v44, v45, v46, v47, v48, v49, v50, v51, v52, v53, v54, v55, v56, v57, v58, v59, v60, v61, v62, v63, v64, v65, v66, v67, v68, v69, v70, v71, v72, v73, v74, v75, v76], (n8 [r8, r9, ra]), none) :=
  Runs.by (n := 1000) (fid := 57) (os := [.br 57 40 false]) (os' := []) (by kernel_rfl) (ObsOK.cond f1 (ObsOK.nil))
theorem rrZe_p0 (v2 v3 v4 v5 v7 v8 v9 v10 v11 v12 v13 v14 v15 v16 v17 v18 v19 v20 v21 v22 v23 v24 v25 v26 v27 v28 v29 v30 v31 v32 v33 v34 v35 v36 v37 v38 v39 v40 v41 v42 v43 v44 v45 v46 v47 v48 v49 v50 v51 v52 v53 v54 v55 v56 v57 v58 v59 v60 v61 v62 v63 v64 v65 v66 v67 v68 v69 v70 v71 v72 v73 v74 v75 v76 : Value) (n c n2 c2 : Nat) (r8 r9 : Option ARow) (va : Value) (ra : Option ARow) (L : List CallC) (k : Int) (h25 : ∀ (lim : Nat) (A : Heap), A = (n8 [r8, r9, ra]) → Gives Tryz.prog (envC2.calls [25] L) lim 25 [va] A (I k, A)) (fz : (k != 0) = true) : Runs Tryz.prog (envC2.calls [25] L) 10 [.code (codeR (codeR (codeR (bodyOf 57))))] [(sl 8 0 n c), (sl 9 0 n2 c2), v2, v3, v4, v5, va, v7, v8, v9, v10, v11, v12, v13, v14, v15, v16, v17, v18, v19, v20, v21, v22, v23, v24, v25, v26, v27, v28, v29, v30, v31, v32, v33, v34, v35, v36, v37, v38, v39, v40, v41, v42, v43, v44, v45, v46, v47, v48, v49, v50, v51, v52, v53, v54, v55, v56, v57, v58, v59, v60, v61, v62, v63, v64, v65, v66, v67, v68, v69, v70, v71, v72, v73, v74, v75, v76] (n8 [r8, r9, ra]) ([(sl 8 0 n c), (sl 9 0 n2 c2), v2, v3, (.slice .none 0 0), I k, va, v7, v8, I k, v10, v11, v12, v13, v14, v15, v16, v17, v18, v19, v20, v21, v22, v23, v24, v25, v26, v27, v28, v29, v30, v31, v32, v33, v34, v35, v36, v37, v38, v39, v40, v41, v42, v43, v44, v45, v46, v47, v48, v49, v50, v51, v52, v53, v54, v55, v56, v57, v58, v59, v60, v61, v62, v63, v64, v65, v66, v67, v68, v69, v70, va, I k, I k, (.bool (k != 0)), I k, v76], (n8 [r8, r9, ra]), some .ret) :=
  Runs.by (n := 1000) (fid := 57) (os := [.opw 57 73 (I k) (n8 [r8, r9, ra]), .br 57 150 true]) (os' := []) (by kernel_rfl) (ObsOK.call (h25 10 (n8 [r8, r9, ra]) (by kernel_rfl)) (ObsOK.cond fz (ObsOK.nil)))
theorem rrZo_p0 (v2 v3 v4 v5 v7 v8 v9 v10 v11 v12 v13 v14 v15 v16 v17 v18 v19 v20 v21 v22 v23 v24 v25 v26 v27 v28 v29 v30 v31 v32 v33 v34 v35 v36 v37 v38 v39 v40 v41 v42 v43 v44 v45 v46 v47 v48 v49 v50 v51 v52 v53 v54 v55 v56 v57 v58 v59 v60 v61 v62 v63 v64 v65 v66 v67 v68 v69 v70 v71 v72 v73 v74 v75 v76 : Value) (n c n2 c2 : Nat) (r8 r9 : Option ARow) (va : Value) (ra : Option ARow) (L : List CallC) (k : Int) (h25 : ∀ (lim : Nat) (A : Heap), A = (n8 [r8, r9, ra]) → Gives Tryz.prog (envC2.calls [25] L) lim 25 [va] A (I k, A)) (fz : (k != 0) = false) : Runs Tryz.prog (envC2.calls [25] L) 10 [.code (codeR (codeR (codeR (bodyOf 57))))] [(sl 8 0 n c), (sl 9 0 n2 c2), v2, v3, v4, v5, va, v7, v8, v9, v10, v11, v12, v13, v14, v15, v16, v17, v18, v19, v20, v21, v22, v23, v24, v25, v26, v27, v28, v29, v30, v31, v32, v33, v34, v35, v36, v37, v38, v39, v40, v41, v42, v43, v44, v45, v46, v47, v48, v49, v50, v51, v52, v53, v54, v55, v56, v57, v58, v59, v60, v61, v62, v63, v64, v65, v66, v67, v68, v69, v70, v71, v72, v73, v74, v75, v76] (n8 [r8, r9, ra]) ([(sl 8 0 n c), (sl 9 0 n2 c2), v2, v3, va, (I 0), va, v7, v8, I k, v10, v11, v12, v13, v14, v15, v16, v17, v18, v19, v20, v21, v22, v23, v24, v25, v26, v27, v28, v29, v30, v31, v32, v33, v34, v35, v36, v37, v38, v39, v40, v41, v42, v43, v44, v45, v46, v47, v48, v49, v50, v51, v52, v53, v54, v55, v56, v57, v58, v59, v60, v61, v62, v63, v64, v65, v66, v67, v68, v69, v70, va, I k, I k, (.bool (k != 0)), v75, va], (n8 [r8, r9, ra]), some .ret) :=
  Runs.by (n := 1000) (fid := 57) (os := [.opw 57 73 (I k) (n8 [r8, r9, ra]), .br 57 150 false]) (os' := []) (by kernel_rfl) (ObsOK.call (h25 10 (n8 [r8, r9, ra]) (by kernel_rfl)) (ObsOK.cond fz (ObsOK.nil)))
/-
The reference's repetition.
-/
def rri_b (xs ys : List Sr) (c e c2 e2 : Nat) (u u2 : Use) (ii M0 : Nat) (cs0 : List Value) (jj : Nat) (f : Nat → Value) : List Value := [(sl 8 0 xs.length c), (sl 9 0 ys.length c2), f 2, f 3, f 4, f 5, (svA 10 (M0 + jj)), (I (ii : Int)), I (jj : Int), f 9, f 10, f 11, f 12, f 13, f 14, f 15, f 16, f 17, f 18, f 19, f 20, f 21, f 22, f 23, f 24, f 25, f 26, f 27, f 28, f 29, f 30, f 31, f 32, f 33, f 34, f 35, f 36, f 37, f 38, f 39, f 40, f 41, f 42, f 43, f 44, f 45, f 46, f 47, f 48, f 49, f 50, f 51, f 52, f 53, f 54, f 55, f 56, f 57, f 58, f 59, f 60, f 61, f 62, f 63, f 64, f 65, f 66, f 67, f 68, f 69, f 70, f 71, f 72, f 73, f 74, f 75, f 76]
def rri_S (xs ys : List Sr) (c e c2 e2 : Nat) (u u2 : Use) (ii M0 : Nat) (cs0 : List Value) (jj : Nat) (ls : List Value) : Prop := ∃ f : Nat → Value, ls = rri_b xs ys c e c2 e2 u u2 ii M0 cs0 jj f ∧ JF [13, 19] f
theorem rri_S.mk {xs ys : List Sr} {c e c2 e2 : Nat} {u u2 : Use} {ii M0 : Nat} {cs0 : List Value} {jj : Nat} {ls : List Value} (h : ls = rri_b xs ys c e c2 e2 u u2 ii M0 cs0 jj (fun k => ls.getD k (I 0))) (hj : JL [13, 19] 0 ls) : rri_S xs ys c e c2 e2 u u2 ii M0 cs0 jj ls := ⟨_, h, hj.fn⟩
def rri_bE (xs ys : List Sr) (c e c2 e2 : Nat) (u u2 : Use) (ii M0 : Nat) (cs0 : List Value) (jj : Nat) (f : Nat → Value) : List Value := [(sl 8 0 xs.length c), (sl 9 0 ys.length c2), f 2, f 3, f 4, f 5, (svA 10 (M0 + jj)), (I (ii : Int)), f 8, f 9, f 10, f 11, f 12, f 13, f 14, f 15, f 16, f 17, f 18, f 19, f 20, f 21, f 22, f 23, f 24, f 25, f 26, f 27, f 28, f 29, f 30, f 31, f 32, f 33, f 34, f 35, f 36, f 37, f 38, f 39, f 40, f 41, f 42, f 43, f 44, f 45, f 46, f 47, f 48, f 49, f 50, f 51, f 52, f 53, f 54, f 55, f 56, f 57, f 58, f 59, f 60, f 61, f 62, f 63, f 64, f 65, f 66, f 67, f 68, f 69, f 70, f 71, f 72, f 73, f 74, f 75, f 76]
def rri_SE (xs ys : List Sr) (c e c2 e2 : Nat) (u u2 : Use) (ii M0 : Nat) (cs0 : List Value) (jj : Nat) (ls : List Value) : Prop := ∃ f : Nat → Value, ls = rri_bE xs ys c e c2 e2 u u2 ii M0 cs0 jj f ∧ JF [13, 19] f
theorem rri_SE.mk {xs ys : List Sr} {c e c2 e2 : Nat} {u u2 : Use} {ii M0 : Nat} {cs0 : List Value} {jj : Nat} {ls : List Value} (h : ls = rri_bE xs ys c e c2 e2 u u2 ii M0 cs0 jj (fun k => ls.getD k (I 0))) (hj : JL [13, 19] 0 ls) : rri_SE xs ys c e c2 e2 u u2 ii M0 cs0 jj ls := ⟨_, h, hj.fn⟩
def rri_K : List Keep := Keep.ren :: Keep.ren :: Keep.no :: Keep.no :: Keep.no :: Keep.no :: Keep.ren :: Keep.free :: Keep.free :: Keep.no :: Keep.no :: Keep.no :: Keep.no :: Keep.free :: Keep.no :: Keep.no :: Keep.no :: Keep.no :: Keep.no :: Keep.free :: Keep.no :: Keep.no :: Keep.no :: Keep.no :: Keep.no :: Keep.no :: Keep.no :: Keep.no :: Keep.no :: Keep.no :: Keep.no :: Keep.no :: Keep.no :: Keep.no :: Keep.no :: Keep.no :: Keep.no :: Keep.no :: Keep.no :: Keep.no :: Keep.no :: Keep.no :: Keep.no :: Keep.no :: Keep.no :: Keep.no :: Keep.no :: Keep.no :: Keep.no :: Keep.no :: Keep.no :: Keep.no :: Keep.no :: Keep.no :: Keep.no :: Keep.no :: Keep.no :: Keep.no :: Keep.no :: Keep.no :: Keep.no :: Keep.no :: Keep.no :: Keep.no :: Keep.no :: Keep.no :: Keep.no :: Keep.no :: Keep.no :: Keep.no :: Keep.no :: Keep.no :: Keep.no :: Keep.no :: Keep.no :: Keep.no :: Keep.no :: []
theorem rri_go (xs ys : List Sr) (c e c2 e2 : Nat) (u u2 : Use) (ii M0 : Nat) (cs0 : List Value) {KK : List It} {v' : Value} {A' : Heap} (hx : xs.length ≤ 16) (hy : ys.length ≤ 16) (hcs : cs0.length = M0 * 4) (hca : cs0.all atomB = true) (hM : M0 ≤ 1000) (hii : ii < xs.length) (hend : ∀ ls, rri_SE xs ys c e c2 e2 u u2 ii M0 cs0 ys.length ls → EndsG Tryz.prog 8 Tryz.f57 (n8 [(rS xs e u), (rS ys e2 u2)]) v' A' (KK) ls ((n8 [(rS xs e u), (rS ys e2 u2)]) ++ [(rwA 24 (M0 + ys.length) (cs0 ++ srs ((ys.take ys.length).map (reR (xs.getD ii s0)))))])) : ∀ dd jj, jj + dd = ys.length → ∀ ls, rri_S xs ys c e c2 e2 u u2 ii M0 cs0 jj ls → EndsG Tryz.prog 8 Tryz.f57 (n8 [(rS xs e u), (rS ys e2 u2)]) v' A' (.code (round 2 (bodyOf 57)) :: .inLoop (round 2 (bodyOf 57)) :: .inBlock 2 :: KK) ls ((n8 [(rS xs e u), (rS ys e2 u2)]) ++ [(rwA 24 (M0 + jj) (cs0 ++ srs ((ys.take jj).map (reR (xs.getD ii s0)))))]) := by
  intro dd
  induction dd with
  | zero =>
    rintro jj hjj ls ⟨f, rfl, hj⟩
    have hjn : jj = ys.length := by omega
    subst hjn
    have hr := rriC_p0 (f 2) (f 3) (f 4) (f 5) (f 9) (f 10) (f 11) (f 12) (f 13) (f 14) (f 15) (f 16) (f 17) (f 18) (f 19) (f 20) (f 21) (f 22) (f 23) (f 24) (f 25) (f 26) (f 27) (f 28) (f 29) (f 30) (f 31) (f 32) (f 33) (f 34) (f 35) (f 36) (f 37) (f 38) (f 39) (f 40) (f 41) (f 42) (f 43) (f 44) (f 45) (f 46) (f 47) (f 48) (f 49) (f 50) (f 51) (f 52) (f 53) (f 54) (f 55) (f 56) (f 57) (f 58) (f 59) (f 60) (f 61) (f 62) (f 63) (f 64) (f 65) (f 66) (f 67) (f 68) (f 69) (f 70) (f 71) (f 72) (f 73) (f 74) (f 75) (f 76) ((svA 10 (M0 + ys.length))) ((rwA 24 (M0 + ys.length) (cs0 ++ srs ((ys.take ys.length).map (reR (xs.getD ii s0)))))) ((M0 + ys.length)) ((cs0 ++ srs ((ys.take (ys.length + 1)).map (reR (xs.getD ii s0))))) (xs.length) (c) (ys.length) (c2) ((rS xs e u)) ((rS ys e2 u2)) ((ii : Int)) ((ii * 4)) ((xs.getD ii s0).x) ((xs.getD ii s0).y) ((xs.getD ii s0).g) ((xs.getD ii s0).p) ((ys.length : Int)) (decide_eq_false (by first | omega | (simp; omega)))
    refine EndsG.run (k := [.code (round 2 (bodyOf 57)), .inLoop (round 2 (bodyOf 57)), .inBlock 2]) (kk := KK) prog_ok envC2_ok hr ?_
    exact hend _ (rri_SE.mk (jj := ys.length) (by kernel_rfl) (.c2 rfl (.f4 hj (.no rfl (svA_nb _ _) (.c2 rfl (.f4 hj (.f2 hj (.f1 hj (.c4 rfl (.f16 hj (.f16 hj (.f16 hj (.f8 hj (.f1 hj .nil))))))))))))))
  | succ dd ih =>
    rintro jj hjj ls ⟨f, rfl, hj⟩
    have hlt : jj < ys.length := by omega
    have hs := (by rw [srs_tmap (f := reR (xs.getD ii s0)) (l := ys) (i := jj) (by omega), List.append_assoc] : cs0 ++ srs ((ys.take (jj + 1)).map (reR (xs.getD ii s0))) = (cs0 ++ srs ((ys.take jj).map (reR (xs.getD ii s0)))) ++ (reR (xs.getD ii s0) (ys.getD jj s0)).c)
    obtain ⟨ti, t1, t2, t3, t4⟩ := info_of i24'
    have hr := rriA0_p0 (f 2) (f 3) (f 4) (f 5) (f 9) (f 10) (f 11) (f 12) (f 13) (f 14) (f 15) (f 16) (f 17) (f 18) (f 19) (f 20) (f 21) (f 22) (f 23) (f 24) (f 25) (f 26) (f 27) (f 28) (f 29) (f 30) (f 31) (f 32) (f 33) (f 34) (f 35) (f 36) (f 37) (f 38) (f 39) (f 40) (f 41) (f 42) (f 43) (f 44) (f 45) (f 46) (f 47) (f 48) (f 49) (f 50) (f 51) (f 52) (f 53) (f 54) (f 55) (f 56) (f 57) (f 58) (f 59) (f 60) (f 61) (f 62) (f 63) (f 64) (f 65) (f 66) (f 67) (f 68) (f 69) (f 70) (f 71) (f 72) (f 73) (f 74) (f 75) (f 76) ((svA 10 (M0 + jj))) ((rwA 24 (M0 + jj) (cs0 ++ srs ((ys.take jj).map (reR (xs.getD ii s0)))))) ((M0 + jj)) ((cs0 ++ srs ((ys.take (jj + 1)).map (reR (xs.getD ii s0))))) (xs.length) (c) (ys.length) (c2) ((rS xs e u)) ((rS ys e2 u2)) ((ii : Int)) ((ii * 4)) ((xs.getD ii s0).x) ((xs.getD ii s0).y) ((xs.getD ii s0).g) ((xs.getD ii s0).p) ((jj : Int)) ((jj * 4)) (((ys.getD jj s0).x)) (((ys.getD jj s0).y)) (((ys.getD jj s0).g)) (((ys.getD jj s0).p)) (ix22 (by omega)) (ld24 rfl (by omega)) (ldx rfl (by omega)) (ldy rfl (by omega)) (ldg rfl (by omega)) (ldp rfl (by omega)) ((by rw [hs]; exact app_gen (P := Tryz.prog) (lim := 10) (r := 10) (q := 11) (M := (M0 + jj)) (c' := 1) (A := (n8 [(rS xs e u), (rS ys e2 u2), (rwA 24 (M0 + jj) (cs0 ++ srs ((ys.take jj).map (reR (xs.getD ii s0))))), (.some (.cells [(I (IntKind.i64.wrap ((xs.getD ii s0).x + ((ys.getD jj s0).x)))), (I (IntKind.i64.wrap ((xs.getD ii s0).y + ((ys.getD jj s0).y)))), (I (IntKind.i64.wrap ((xs.getD ii s0).g * ((ys.getD jj s0).g)))), (I ((IntKind.i64.wrap ((xs.getD ii s0).p + ((ys.getD jj s0).p))).tmod 4))] 24 .row))])) u22 t1 t2 t3 t4 rfl rfl rfl (fun h => by rw [h]; rfl) rfl (by rw [List.length_append, hcs, srs_len, List.length_map, List.length_take]; omega) rfl rfl (by decide) (by omega) (by omega))) (decide_eq_true (by first | omega | (simp; omega))) (ix22 hii) (ldx rfl hii) (ldy rfl hii) (ldg rfl hii) (ldp rfl hii)
    try rw [wrap_succ' (by omega)] at hr
    refine EndsG.round prog_ok envC2_ok hr ?_
    refine EndsG.renumS (X := [_, _, _]) (R := [(.some (.cells (cs0 ++ srs ((ys.take (jj + 1)).map (reR (xs.getD ii s0)))) 24 .row))]) (ids := [12]) (m := rri_K) rfl rfl (by kernel_rfl) (.cons rfl (.plain (by rw [List.all_append, hca]; exact srs_atoms _)) .nil) (.ren rfl (.ren rfl (.j4 2 hj rfl (.ren rfl (.free rfl (.free rfl (.j4 9 hj rfl (.free ((hj 13).1 rfl) (.j2 14 hj rfl (.n2 rfl (.no rfl (.free rfl (.n2 rfl (.no (svA_nb _ _) (.n16 rfl (.n16 rfl (.n16 rfl (.j4 71 hj rfl (.j2 75 hj rfl .nil))))))))))))))))))) ?_
    refine EndsG.rows (R' := [(rwA 24 (M0 + (jj + 1)) (cs0 ++ srs ((ys.take (jj + 1)).map (reR (xs.getD ii s0)))))]) rfl ?_
    exact ih (jj + 1) (by omega) _ (rri_S.mk (jj := (jj + 1)) (by kernel_rfl) (.c8 rfl (.c4 rfl (.c1 rfl (.f1 hj (.c16 rfl (.c16 rfl (.c16 rfl (.c8 rfl (.c4 rfl (.c2 rfl (.c1 rfl .nil))))))))))))
def rr_b (xs ys : List Sr) (c e c2 e2 : Nat) (u u2 : Use) (ii : Nat) (f : Nat → Value) : List Value := [(sl 8 0 xs.length c), (sl 9 0 ys.length c2), f 2, f 3, f 4, f 5, (svA 10 (reL reR xs ys ii).length), I (ii : Int), f 8, f 9, f 10, f 11, f 12, f 13, f 14, f 15, f 16, f 17, f 18, f 19, f 20, f 21, f 22, f 23, f 24, f 25, f 26, f 27, f 28, f 29, f 30, f 31, f 32, f 33, f 34, f 35, f 36, f 37, f 38, f 39, f 40, f 41, f 42, f 43, f 44, f 45, f 46, f 47, f 48, f 49, f 50, f 51, f 52, f 53, f 54, f 55, f 56, f 57, f 58, f 59, f 60, f 61, f 62, f 63, f 64, f 65, f 66, f 67, f 68, f 69, f 70, f 71, f 72, f 73, f 74, f 75, f 76]
def rr_S (xs ys : List Sr) (c e c2 e2 : Nat) (u u2 : Use) (ii : Nat) (ls : List Value) : Prop := ∃ f : Nat → Value, ls = rr_b xs ys c e c2 e2 u u2 ii f ∧ JF [13, 19] f
theorem rr_S.mk {xs ys : List Sr} {c e c2 e2 : Nat} {u u2 : Use} {ii : Nat} {ls : List Value} (h : ls = rr_b xs ys c e c2 e2 u u2 ii (fun k => ls.getD k (I 0))) (hj : JL [13, 19] 0 ls) : rr_S xs ys c e c2 e2 u u2 ii ls := ⟨_, h, hj.fn⟩
def rr_bE (xs ys : List Sr) (c e c2 e2 : Nat) (u u2 : Use) (ii : Nat) (f : Nat → Value) : List Value := [(sl 8 0 xs.length c), (sl 9 0 ys.length c2), f 2, f 3, f 4, f 5, (svA 10 (reL reR xs ys ii).length), f 7, f 8, f 9, f 10, f 11, f 12, f 13, f 14, f 15, f 16, f 17, f 18, f 19, f 20, f 21, f 22, f 23, f 24, f 25, f 26, f 27, f 28, f 29, f 30, f 31, f 32, f 33, f 34, f 35, f 36, f 37, f 38, f 39, f 40, f 41, f 42, f 43, f 44, f 45, f 46, f 47, f 48, f 49, f 50, f 51, f 52, f 53, f 54, f 55, f 56, f 57, f 58, f 59, f 60, f 61, f 62, f 63, f 64, f 65, f 66, f 67, f 68, f 69, f 70, f 71, f 72, f 73, f 74, f 75, f 76]
def rr_SE (xs ys : List Sr) (c e c2 e2 : Nat) (u u2 : Use) (ii : Nat) (ls : List Value) : Prop := ∃ f : Nat → Value, ls = rr_bE xs ys c e c2 e2 u u2 ii f ∧ JF [13, 19] f
theorem rr_SE.mk {xs ys : List Sr} {c e c2 e2 : Nat} {u u2 : Use} {ii : Nat} {ls : List Value} (h : ls = rr_bE xs ys c e c2 e2 u u2 ii (fun k => ls.getD k (I 0))) (hj : JL [13, 19] 0 ls) : rr_SE xs ys c e c2 e2 u u2 ii ls := ⟨_, h, hj.fn⟩
theorem rr_ent (xs ys : List Sr) (c e c2 e2 : Nat) (u u2 : Use) (ii M0 : Nat) (cs0 : List Value) {KK : List It} {v' : Value} {A' : Heap} (hca : cs0.all atomB = true)  (f : Nat → Value) (hj : JF [13, 19] f) (h : ∀ ls, rri_S xs ys c e c2 e2 u u2 ii M0 cs0 0 ls → EndsG Tryz.prog 8 Tryz.f57 (n8 [(rS xs e u), (rS ys e2 u2)]) v' A' (KK) ls ((n8 [(rS xs e u), (rS ys e2 u2)]) ++ [rwA 24 (M0 + 0) (cs0 ++ srs ((ys.take 0).map (reR (xs.getD ii s0))))])) : EndsG Tryz.prog 8 Tryz.f57 (n8 [(rS xs e u), (rS ys e2 u2)]) v' A' (KK) [(sl 8 0 xs.length c), (sl 9 0 ys.length c2), f 2, f 3, f 4, f 5, (svA 10 M0), (I (ii : Int)), (I 0), f 9, (I (ii : Int)), (sl 8 0 xs.length c), (I ((xs.length : Int))), (.bool (decide ((ii : Int) < (xs.length : Int)))), f 14, f 15, f 16, f 17, f 18, f 19, f 20, f 21, f 22, f 23, f 24, f 25, f 26, f 27, f 28, f 29, f 30, f 31, f 32, f 33, f 34, f 35, f 36, f 37, f 38, f 39, f 40, f 41, f 42, f 43, f 44, f 45, f 46, f 47, f 48, f 49, f 50, f 51, f 52, f 53, f 54, f 55, f 56, f 57, f 58, f 59, f 60, f 61, f 62, f 63, f 64, f 65, f 66, f 67, f 68, f 69, f 70, f 71, f 72, f 73, f 74, f 75, f 76] ((n8 [(rS xs e u), (rS ys e2 u2)]) ++ [(rwA 24 M0 cs0)]) := by
  rw [show cs0 ++ srs ((ys.take 0).map (reR (xs.getD ii s0))) = cs0 by simp [srs]] at h
  exact EndsG.heap rfl (h _ (rri_S.mk (jj := 0) (by kernel_rfl) (.c2 rfl (.f4 hj (.no rfl (svA_nb _ _) (.c2 rfl (.f1 hj (.c4 rfl (.f16 hj (.f16 hj (.f16 hj (.f8 hj (.f4 hj (.f2 hj (.f1 hj .nil)))))))))))))))
theorem rr_out (xs ys : List Sr) (c e c2 e2 : Nat) (u u2 : Use) {KK : List It} {v' : Value} {A' : Heap} (hx : xs.length ≤ 16) (hy : ys.length ≤ 16) (hend : ∀ ls, rr_SE xs ys c e c2 e2 u u2 xs.length ls → EndsG Tryz.prog 8 Tryz.f57 (n8 [(rS xs e u), (rS ys e2 u2)]) v' A' (KK) ls ((n8 [(rS xs e u), (rS ys e2 u2)]) ++ [(rwA 24 (reL reR xs ys xs.length).length (srs (reL reR xs ys xs.length)))])) : ∀ dd ii, ii + dd = xs.length → ∀ ls, rr_S xs ys c e c2 e2 u u2 ii ls → EndsG Tryz.prog 8 Tryz.f57 (n8 [(rS xs e u), (rS ys e2 u2)]) v' A' (.code (round 0 (bodyOf 57)) :: .inLoop (round 0 (bodyOf 57)) :: .inBlock 0 :: KK) ls ((n8 [(rS xs e u), (rS ys e2 u2)]) ++ [(rwA 24 (reL reR xs ys ii).length (srs (reL reR xs ys ii)))]) := by
  intro dd
  induction dd with
  | zero =>
    rintro ii hjj ls ⟨f, rfl, hj⟩
    have hjn : ii = xs.length := by omega
    subst hjn
    have hr := rrx_p0 (f 2) (f 3) (f 4) (f 5) (f 8) (f 9) (f 10) (f 11) (f 12) (f 13) (f 14) (f 15) (f 16) (f 17) (f 18) (f 19) (f 20) (f 21) (f 22) (f 23) (f 24) (f 25) (f 26) (f 27) (f 28) (f 29) (f 30) (f 31) (f 32) (f 33) (f 34) (f 35) (f 36) (f 37) (f 38) (f 39) (f 40) (f 41) (f 42) (f 43) (f 44) (f 45) (f 46) (f 47) (f 48) (f 49) (f 50) (f 51) (f 52) (f 53) (f 54) (f 55) (f 56) (f 57) (f 58) (f 59) (f 60) (f 61) (f 62) (f 63) (f 64) (f 65) (f 66) (f 67) (f 68) (f 69) (f 70) (f 71) (f 72) (f 73) (f 74) (f 75) (f 76) (xs.length) c (ys.length) c2 ((rS xs e u)) ((rS ys e2 u2)) ((xs.length : Int)) ((svA 10 (reL reR xs ys xs.length).length)) ((rwA 24 (reL reR xs ys xs.length).length (srs (reL reR xs ys xs.length)))) ((xs.length * 4)) ((xs.getD xs.length s0).x) ((xs.getD xs.length s0).y) ((xs.getD xs.length s0).g) ((xs.getD xs.length s0).p) (decide_eq_false (by first | omega | (simp; omega)))
    refine EndsG.run (k := [.code (round 0 (bodyOf 57)), .inLoop (round 0 (bodyOf 57)), .inBlock 0]) (kk := KK) prog_ok envC2_ok hr ?_
    exact hend _ (rr_SE.mk (ii := xs.length) (by kernel_rfl) (.c2 rfl (.f4 hj (.no rfl (svA_nb _ _) (.c1 rfl (.f2 hj (.c4 rfl (.f16 hj (.f16 hj (.f16 hj (.f8 hj (.f4 hj (.f2 hj (.f1 hj .nil))))))))))))))
  | succ dd ih =>
    rintro ii hjj ls ⟨f, rfl, hj⟩
    have hii : ii < xs.length := by omega
    refine EndsG.seqO (by kernel_rfl) ?_
    refine EndsG.run (k := [.code (codeL (round 0 (bodyOf 57)))]) prog_ok envC2_ok (rrh0_p0 (f 2) (f 3) (f 4) (f 5) (f 8) (f 9) (f 10) (f 11) (f 12) (f 13) (f 14) (f 15) (f 16) (f 17) (f 18) (f 19) (f 20) (f 21) (f 22) (f 23) (f 24) (f 25) (f 26) (f 27) (f 28) (f 29) (f 30) (f 31) (f 32) (f 33) (f 34) (f 35) (f 36) (f 37) (f 38) (f 39) (f 40) (f 41) (f 42) (f 43) (f 44) (f 45) (f 46) (f 47) (f 48) (f 49) (f 50) (f 51) (f 52) (f 53) (f 54) (f 55) (f 56) (f 57) (f 58) (f 59) (f 60) (f 61) (f 62) (f 63) (f 64) (f 65) (f 66) (f 67) (f 68) (f 69) (f 70) (f 71) (f 72) (f 73) (f 74) (f 75) (f 76) (xs.length) c (ys.length) c2 ((rS xs e u)) ((rS ys e2 u2)) ((ii : Int)) ((svA 10 (reL reR xs ys ii).length)) ((rwA 24 (reL reR xs ys ii).length (srs (reL reR xs ys ii)))) ((ii * 4)) ((xs.getD ii s0).x) ((xs.getD ii s0).y) ((xs.getD ii s0).g) ((xs.getD ii s0).p) (decide_eq_true (by first | omega | (simp; omega)))) ?_
    refine EndsG.seqO (by kernel_rfl) ?_
    refine EndsG.block (B := (codeB (codeL (codeR (round 0 (bodyOf 57)))))) (id := 1) (by kernel_rfl) ?_
    refine EndsG.seqO (by kernel_rfl) ?_
    refine EndsG.run (k := [.code (codeL (codeB (codeL (codeR (round 0 (bodyOf 57))))))]) prog_ok envC2_ok (rrh1_p0 (f 2) (f 3) (f 4) (f 5) (f 8) (f 9) (f 10) (f 11) (f 12) (f 13) (f 14) (f 15) (f 16) (f 17) (f 18) (f 19) (f 20) (f 21) (f 22) (f 23) (f 24) (f 25) (f 26) (f 27) (f 28) (f 29) (f 30) (f 31) (f 32) (f 33) (f 34) (f 35) (f 36) (f 37) (f 38) (f 39) (f 40) (f 41) (f 42) (f 43) (f 44) (f 45) (f 46) (f 47) (f 48) (f 49) (f 50) (f 51) (f 52) (f 53) (f 54) (f 55) (f 56) (f 57) (f 58) (f 59) (f 60) (f 61) (f 62) (f 63) (f 64) (f 65) (f 66) (f 67) (f 68) (f 69) (f 70) (f 71) (f 72) (f 73) (f 74) (f 75) (f 76) (xs.length) c (ys.length) c2 ((rS xs e u)) ((rS ys e2 u2)) ((ii : Int)) ((svA 10 (reL reR xs ys ii).length)) ((rwA 24 (reL reR xs ys ii).length (srs (reL reR xs ys ii)))) ((ii * 4)) ((xs.getD ii s0).x) ((xs.getD ii s0).y) ((xs.getD ii s0).g) ((xs.getD ii s0).p) (decide_eq_true (by first | omega | (simp; omega)))) ?_
    refine EndsG.blockLoop (B := (round 2 (bodyOf 57))) (id := 2) (by kernel_rfl) ?_
    refine rr_ent xs ys c e c2 e2 u u2 ii (reL reR xs ys ii).length (srs (reL reR xs ys ii)) (srs_atoms _) f hj (fun ls hls => ?_)
    refine rri_go xs ys c e c2 e2 u u2 ii (reL reR xs ys ii).length (srs (reL reR xs ys ii)) hx hy (srs_len _) (srs_atoms _) (reL_len16 hx hy (by omega)) hii ?_ ys.length 0 (Nat.zero_add _) ls hls
    rintro ls ⟨f, rfl, hj⟩
    refine EndsG.inBlock ?_
    have ht0 := rrt0_p0 (f 2) (f 3) (f 4) (f 5) (f 8) (f 9) (f 10) (f 11) (f 12) (f 13) (f 14) (f 15) (f 16) (f 17) (f 18) (f 19) (f 20) (f 21) (f 22) (f 23) (f 24) (f 25) (f 26) (f 27) (f 28) (f 29) (f 30) (f 31) (f 32) (f 33) (f 34) (f 35) (f 36) (f 37) (f 38) (f 39) (f 40) (f 41) (f 42) (f 43) (f 44) (f 45) (f 46) (f 47) (f 48) (f 49) (f 50) (f 51) (f 52) (f 53) (f 54) (f 55) (f 56) (f 57) (f 58) (f 59) (f 60) (f 61) (f 62) (f 63) (f 64) (f 65) (f 66) (f 67) (f 68) (f 69) (f 70) (f 71) (f 72) (f 73) (f 74) (f 75) (f 76) (xs.length) c (ys.length) c2 ((rS xs e u)) ((rS ys e2 u2)) ((ii : Int)) ((ii * 4)) ((xs.getD ii s0).x) ((xs.getD ii s0).y) ((xs.getD ii s0).g) ((xs.getD ii s0).p) ((svA 10 ((reL reR xs ys ii).length + ys.length))) ((rwA 24 ((reL reR xs ys ii).length + ys.length) (srs (reL reR xs ys ii) ++ srs ((ys.take ys.length).map (reR (xs.getD ii s0))))))
    try rw [wrap_succ' (by omega)] at ht0
    refine EndsG.run (k := [.code (codeR (codeR (round 0 (bodyOf 57))))]) prog_ok envC2_ok ht0 ?_
    refine EndsG.again ?_
    have e1 : (reL reR xs ys (ii + 1)).length = (reL reR xs ys ii).length + ys.length := reL_len_s reR xs ys ii
    have e2 : srs (reL reR xs ys (ii + 1)) = srs (reL reR xs ys ii) ++ srs ((ys.take ys.length).map (reR (xs.getD ii s0))) := reL_srs_s reR xs ys ii
    refine EndsG.rows (R' := [(rwA 24 (reL reR xs ys (ii + 1)).length (srs (reL reR xs ys (ii + 1))))]) (by rw [e1, e2]) ?_
    exact ih (ii + 1) (by omega) _ (rr_S.mk (ii := (ii + 1)) (by unfold rr_b; rw [e1]; kernel_rfl) (.c2 rfl (.f4 hj (.no rfl (svA_nb _ _) (.c1 rfl (.f4 hj (.f2 hj (.c2 rfl (.f16 hj (.f16 hj (.f16 hj (.f8 hj (.f4 hj (.f1 hj .nil))))))))))))))
theorem rr_says_e (xs ys : List Sr) (c e c2 e2 : Nat) (u u2 : Use) {v' : Value} {A' : Heap} (hx : xs.length ≤ 16) (hy : ys.length ≤ 16)(k : Int) (hs : SaysAt Tryz.prog 8 25 [svA 10 (reL reR xs ys xs.length).length] (n8 [(rS xs e u), (rS ys e2 u2), (rwA 24 (reL reR xs ys xs.length).length (srs (reL reR xs ys xs.length)))]) (I k) ((n8 [(rS xs e u), (rS ys e2 u2), (rwA 24 (reL reR xs ys xs.length).length (srs (reL reR xs ys xs.length)))]) ++ [])) (hk : (k != 0) = true)  (hgc : aGC (n8 [(rS xs e u), (rS ys e2 u2)]) (.tuple #[(.slice .none 0 0), I k]) ((n8 [(rS xs e u), (rS ys e2 u2)]) ++ [(rwA 24 (reL reR xs ys xs.length).length (srs (reL reR xs ys xs.length)))]) = (v', A')) : SaysAt Tryz.prog 8 57 [sl 8 0 xs.length c, sl 9 0 ys.length c2] (n8 [(rS xs e u), (rS ys e2 u2)]) v' A' := by
  refine EndsG.says prog_ok Tryz.func57 (c := bodyOf 57) (by kernel_rfl) (by kernel_rfl) ?_
  refine EndsG.seqO (by kernel_rfl) ?_
  refine EndsG.run (k := [.code (codeL (bodyOf 57))]) prog_ok envC2_ok (rrq0_p0 (xs.length) c (ys.length) c2 ((rS xs e u)) ((rS ys e2 u2))) ?_
  refine EndsG.seqO (by kernel_rfl) ?_
  refine EndsG.run (k := [.code (codeL (codeR (bodyOf 57)))]) prog_ok envC2_ok (rrq1_p0 (xs.length) c (ys.length) c2 ((rS xs e u)) ((rS ys e2 u2))) ?_
  refine EndsG.seqO (by kernel_rfl) ?_
  refine EndsG.seqO (by kernel_rfl) ?_
  refine EndsG.run (k := [.code (codeL (codeL (codeR (codeR (bodyOf 57)))))]) prog_ok envC2_ok (rrq2_p0 (xs.length) c (ys.length) c2 ((rS xs e u)) ((rS ys e2 u2))) ?_
  refine EndsG.blockLoop (B := (round 0 (bodyOf 57))) (id := 0) (by kernel_rfl) ?_
  refine EndsG.addNone (EndsG.heap (B := (n8 [(rS xs e u), (rS ys e2 u2)]) ++ [(rwA 24 (reL reR xs ys 0).length (srs (reL reR xs ys 0)))]) rfl ?_)
  refine rr_out xs ys c e c2 e2 u u2 hx hy ?_ xs.length 0 (Nat.zero_add _) _ (rr_S.mk (ii := 0) (by kernel_rfl) (.c16 rfl (.c16 rfl (.c16 rfl (.c16 rfl (.c8 rfl (.c4 rfl (.c1 rfl .nil))))))))
  rintro ls ⟨f, rfl, hj⟩
  have hr := rrZe_p0 (f 2) (f 3) (f 4) (f 5) (f 7) (f 8) (f 9) (f 10) (f 11) (f 12) (f 13) (f 14) (f 15) (f 16) (f 17) (f 18) (f 19) (f 20) (f 21) (f 22) (f 23) (f 24) (f 25) (f 26) (f 27) (f 28) (f 29) (f 30) (f 31) (f 32) (f 33) (f 34) (f 35) (f 36) (f 37) (f 38) (f 39) (f 40) (f 41) (f 42) (f 43) (f 44) (f 45) (f 46) (f 47) (f 48) (f 49) (f 50) (f 51) (f 52) (f 53) (f 54) (f 55) (f 56) (f 57) (f 58) (f 59) (f 60) (f 61) (f 62) (f 63) (f 64) (f 65) (f 66) (f 67) (f 68) (f 69) (f 70) (f 71) (f 72) (f 73) (f 74) (f 75) (f 76) (xs.length) c (ys.length) c2 ((rS xs e u)) ((rS ys e2 u2)) ((svA 10 (reL reR xs ys xs.length).length)) ((rwA 24 (reL reR xs ys xs.length).length (srs (reL reR xs ys xs.length)))) ([⟨25, [svA 10 (reL reR xs ys xs.length).length], (n8 [(rS xs e u), (rS ys e2 u2), (rwA 24 (reL reR xs ys xs.length).length (srs (reL reR xs ys xs.length)))]), I k, []⟩]) (k) (fun lim A hA => by subst hA; exact call1 (c := ⟨25, _, _, _, []⟩) rfl) (hk)
  exact EndsG.ret (X := [_]) (v := .tuple #[(.slice .none 0 0), I k]) prog_ok (Env.calls_ok envC2_ok (fun c hc => by obtain rfl := List.mem_singleton.1 hc; exact hs)) hr rfl (by kernel_rfl) (hgc)
theorem rr_says_o (xs ys : List Sr) (c e c2 e2 : Nat) (u u2 : Use) {v' : Value} {A' : Heap} (hx : xs.length ≤ 16) (hy : ys.length ≤ 16)(k : Int) (hs : SaysAt Tryz.prog 8 25 [svA 10 (reL reR xs ys xs.length).length] (n8 [(rS xs e u), (rS ys e2 u2), (rwA 24 (reL reR xs ys xs.length).length (srs (reL reR xs ys xs.length)))]) (I k) ((n8 [(rS xs e u), (rS ys e2 u2), (rwA 24 (reL reR xs ys xs.length).length (srs (reL reR xs ys xs.length)))]) ++ [])) (hk : (k != 0) = false)  (hgc : aGC (n8 [(rS xs e u), (rS ys e2 u2)]) (.tuple #[(svA 10 (reL reR xs ys xs.length).length), (I 0)]) ((n8 [(rS xs e u), (rS ys e2 u2)]) ++ [(rwA 24 (reL reR xs ys xs.length).length (srs (reL reR xs ys xs.length)))]) = (v', A')) : SaysAt Tryz.prog 8 57 [sl 8 0 xs.length c, sl 9 0 ys.length c2] (n8 [(rS xs e u), (rS ys e2 u2)]) v' A' := by
  refine EndsG.says prog_ok Tryz.func57 (c := bodyOf 57) (by kernel_rfl) (by kernel_rfl) ?_
  refine EndsG.seqO (by kernel_rfl) ?_
  refine EndsG.run (k := [.code (codeL (bodyOf 57))]) prog_ok envC2_ok (rrq0_p0 (xs.length) c (ys.length) c2 ((rS xs e u)) ((rS ys e2 u2))) ?_
  refine EndsG.seqO (by kernel_rfl) ?_
  refine EndsG.run (k := [.code (codeL (codeR (bodyOf 57)))]) prog_ok envC2_ok (rrq1_p0 (xs.length) c (ys.length) c2 ((rS xs e u)) ((rS ys e2 u2))) ?_
  refine EndsG.seqO (by kernel_rfl) ?_
  refine EndsG.seqO (by kernel_rfl) ?_
  refine EndsG.run (k := [.code (codeL (codeL (codeR (codeR (bodyOf 57)))))]) prog_ok envC2_ok (rrq2_p0 (xs.length) c (ys.length) c2 ((rS xs e u)) ((rS ys e2 u2))) ?_
  refine EndsG.blockLoop (B := (round 0 (bodyOf 57))) (id := 0) (by kernel_rfl) ?_
  refine EndsG.addNone (EndsG.heap (B := (n8 [(rS xs e u), (rS ys e2 u2)]) ++ [(rwA 24 (reL reR xs ys 0).length (srs (reL reR xs ys 0)))]) rfl ?_)
  refine rr_out xs ys c e c2 e2 u u2 hx hy ?_ xs.length 0 (Nat.zero_add _) _ (rr_S.mk (ii := 0) (by kernel_rfl) (.c16 rfl (.c16 rfl (.c16 rfl (.c16 rfl (.c8 rfl (.c4 rfl (.c1 rfl .nil))))))))
  rintro ls ⟨f, rfl, hj⟩
  have hr := rrZo_p0 (f 2) (f 3) (f 4) (f 5) (f 7) (f 8) (f 9) (f 10) (f 11) (f 12) (f 13) (f 14) (f 15) (f 16) (f 17) (f 18) (f 19) (f 20) (f 21) (f 22) (f 23) (f 24) (f 25) (f 26) (f 27) (f 28) (f 29) (f 30) (f 31) (f 32) (f 33) (f 34) (f 35) (f 36) (f 37) (f 38) (f 39) (f 40) (f 41) (f 42) (f 43) (f 44) (f 45) (f 46) (f 47) (f 48) (f 49) (f 50) (f 51) (f 52) (f 53) (f 54) (f 55) (f 56) (f 57) (f 58) (f 59) (f 60) (f 61) (f 62) (f 63) (f 64) (f 65) (f 66) (f 67) (f 68) (f 69) (f 70) (f 71) (f 72) (f 73) (f 74) (f 75) (f 76) (xs.length) c (ys.length) c2 ((rS xs e u)) ((rS ys e2 u2)) ((svA 10 (reL reR xs ys xs.length).length)) ((rwA 24 (reL reR xs ys xs.length).length (srs (reL reR xs ys xs.length)))) ([⟨25, [svA 10 (reL reR xs ys xs.length).length], (n8 [(rS xs e u), (rS ys e2 u2), (rwA 24 (reL reR xs ys xs.length).length (srs (reL reR xs ys xs.length)))]), I k, []⟩]) (k) (fun lim A hA => by subst hA; exact call1 (c := ⟨25, _, _, _, []⟩) rfl) (hk)
  exact EndsG.ret (X := [_]) (v := .tuple #[(svA 10 (reL reR xs ys xs.length).length), (I 0)]) prog_ok (Env.calls_ok envC2_ok (fun c hc => by obtain rfl := List.mem_singleton.1 hc; exact hs)) hr rfl (by kernel_rfl) (hgc)
/-
More calls are known.
-/
theorem kenvM_29_9 (i : fam29I) (hi : fam29.ok i) (lim : Nat) (A : Heap) (hA : [hget A 9] = fam29.rows i) : Gives Tryz.prog envM lim 29 [sl 9 0 i.xs.length i.c] A (I (chkP i.xs), A) := by
  have hA : hget A 9 = _ := (List.cons.inj hA).1
  have hlen := hget_lt hA
  have h := Env.fam_here (E := (((((((((envB.fam 8 heapN 20 fam20).fam 8 heapN 90 fam90).fam 8 heapN 84 fam84).fam 8 heapN 25 fam25).fam 8 heapN 16 fam16).fam 8 heapN 23 fam23).fam 8 heapN 28 fam28).fam 8 heap0 87 fam87).with (baseKnown B_envC1))) (G := 8) (T := heapN) (f0 := 29) (lim := lim) (F := fam29) (args := [sl 9 0 i.xs.length i.c]) (A := A) (ids := [9]) (v' := I (chkP i.xs)) i hi rfl rfl (rowsS hA) (starts8 (by omega)) rfl rfl rfl rfl
  rw [show A ++ fam29.new i = A from List.append_nil A] at h
  exact known_gives ((Env.fam_skip rfl).trans ((Env.fam_skip rfl).trans ((kn_skip rfl).trans h)))
theorem kenvM_84_10 (i : fam84I) (hi : fam84.ok i) (lim : Nat) (A : Heap) (hA : [hget A 10] = fam84.rows i) : Gives Tryz.prog envM lim 84 [sl 10 0 i.xs.length i.c] A (I (fstI i.xs), A) := by
  have hA : hget A 10 = _ := (List.cons.inj hA).1
  have hlen := hget_lt hA
  have h := Env.fam_here (E := ((envB.fam 8 heapN 20 fam20).fam 8 heapN 90 fam90)) (G := 8) (T := heapN) (f0 := 84) (lim := lim) (F := fam84) (args := [sl 10 0 i.xs.length i.c]) (A := A) (ids := [10]) (v' := I (fstI i.xs)) i hi rfl rfl (rowsI hA) (starts8 (by omega)) rfl rfl rfl rfl
  rw [show A ++ fam84.new i = A from List.append_nil A] at h
  exact known_gives ((Env.fam_skip rfl).trans ((Env.fam_skip rfl).trans ((kn_skip rfl).trans ((Env.fam_skip rfl).trans ((kn_skip rfl).trans ((Env.fam_skip rfl).trans ((Env.fam_skip rfl).trans ((Env.fam_skip rfl).trans ((Env.fam_skip rfl).trans ((Env.fam_skip rfl).trans h))))))))))
theorem gcVA11 (M : Nat) (r8 r9 bx ra : Option ARow) : aGC (n8 [r8, r9, bx, ra]) (.tuple #[svA 11 M, I 0]) (n8 [r8, r9, bx, ra]) = (.tuple #[svA 11 M, I 0], (n8 [r8, r9, bx, ra])) := by cases M <;> rfl
/-
The program's repetition: pieces.
-/
theorem ppq0_p0  (n c n2 c2 : Nat) (r8 r9 : Option ARow) (k1 k2 o : Int) (h29a : ∀ (lim : Nat) (A : Heap), hget A 8 = r8 → Gives Tryz.prog envM lim 29 [sl 8 0 n c] A (I k1, A)) (h29b : ∀ (lim : Nat) (A : Heap), hget A 9 = r9 → Gives Tryz.prog envM lim 29 [sl 9 0 n2 c2] A (I k2, A)) (h84 : ∀ (lim : Nat) (A : Heap), hget A 10 = some (.cells [I k1, I k2] 27 .row) → Gives Tryz.prog envM lim 84 [sl 10 0 2 2] A (I o, A)) (fz : (o != 0) = false) : Runs Tryz.prog envM 10 [.code (codeL (bodyOf 55))] [sl 8 0 n c, sl 9 0 n2 c2, U, U, U, U, U, U, U, U, U, U, U, U, U, U, U, U, U, U, U, U, U, U, U, U, U, U, U, U, U, U, U, U, U, U, U, U, U, U, U, U, U, U, U, U, U, U, U, U, U, U, U, U, U, U, U, U, U, U, U, U, U, U] (n8 [r8, r9]) ([(sl 8 0 n c), (sl 9 0 n2 c2), U, U, (.slice .none 0 0), (I 0), U, U, U, U, U, U, U, U, U, U, U, U, U, U, U, U, U, U, U, U, U, U, U, U, U, U, U, U, U, U, U, U, U, U, U, U, U, U, U, U, U, U, U, U, U, U, U, U, U, U, U, U, U, U, U, U, U, U], (n8 [r8, r9]), none) :=
  Runs.by (n := 1000) (fid := 55) (os := []) (os' := []) (by kernel_rfl) (ObsOK.nil)
theorem ppq1_p0  (n c n2 c2 : Nat) (r8 r9 : Option ARow) (k1 k2 o : Int) (h29a : ∀ (lim : Nat) (A : Heap), hget A 8 = r8 → Gives Tryz.prog envM lim 29 [sl 8 0 n c] A (I k1, A)) (h29b : ∀ (lim : Nat) (A : Heap), hget A 9 = r9 → Gives Tryz.prog envM lim 29 [sl 9 0 n2 c2] A (I k2, A)) (h84 : ∀ (lim : Nat) (A : Heap), hget A 10 = some (.cells [I k1, I k2] 27 .row) → Gives Tryz.prog envM lim 84 [sl 10 0 2 2] A (I o, A)) (fz : (o != 0) = false) : Runs Tryz.prog envM 10 [.code (codeL (codeR (bodyOf 55)))] [(sl 8 0 n c), (sl 9 0 n2 c2), U, U, (.slice .none 0 0), (I 0), U, U, U, U, U, U, U, U, U, U, U, U, U, U, U, U, U, U, U, U, U, U, U, U, U, U, U, U, U, U, U, U, U, U, U, U, U, U, U, U, U, U, U, U, U, U, U, U, U, U, U, U, U, U, U, U, U, U] (n8 [r8, r9]) ([(sl 8 0 n c), (sl 9 0 n2 c2), U, U, (.slice .none 0 0), (I 0), I o, U, U, U, U, U, (sl 8 0 n c), I k1, (sl 9 0 n2 c2), I k2, (sl 10 0 2 2), I o, I o, (.bool (o != 0)), U, U, U, U, U, U, U, U, U, U, U, U, U, U, U, U, U, U, U, U, U, U, U, U, U, U, U, U, U, U, U, U, U, U, U, U, U, U, U, U, U, U, U, U], (n8 [r8, r9, (.some (.cells [I k1, I k2] 27 .row))]), none) :=
  Runs.by (n := 1000) (fid := 55) (os := [.opw 55 14 (I k1) (n8 [r8, r9]), .opw 55 16 (I k2) (n8 [r8, r9]), .opw 55 18 (I o) (n8 [r8, r9, (.some (.cells [I k1, I k2] 27 .row))]), .br 55 40 false]) (os' := []) (by kernel_rfl) (ObsOK.call (h29a 10 (n8 [r8, r9]) (by kernel_rfl)) (ObsOK.call (h29b 10 (n8 [r8, r9]) (by kernel_rfl)) (ObsOK.call (h84 10 (n8 [r8, r9, (.some (.cells [I k1, I k2] 27 .row))]) (by kernel_rfl)) (ObsOK.cond fz (ObsOK.nil)))))
theorem ppq2_p0  (n c n2 c2 : Nat) (r8 r9 : Option ARow) (k1 k2 o : Int) (h29a : ∀ (lim : Nat) (A : Heap), hget A 8 = r8 → Gives Tryz.prog envM lim 29 [sl 8 0 n c] A (I k1, A)) (h29b : ∀ (lim : Nat) (A : Heap), hget A 9 = r9 → Gives Tryz.prog envM lim 29 [sl 9 0 n2 c2] A (I k2, A)) (h84 : ∀ (lim : Nat) (A : Heap), hget A 10 = some (.cells [I k1, I k2] 27 .row) → Gives Tryz.prog envM lim 84 [sl 10 0 2 2] A (I o, A)) (fz : (o != 0) = false) : Runs Tryz.prog envM 10 [.code (codeL (codeR (codeR (bodyOf 55))))] [(sl 8 0 n c), (sl 9 0 n2 c2), U, U, (.slice .none 0 0), (I 0), I o, U, U, U, U, U, (sl 8 0 n c), I k1, (sl 9 0 n2 c2), I k2, (sl 10 0 2 2), I o, I o, (.bool (o != 0)), U, U, U, U, U, U, U, U, U, U, U, U, U, U, U, U, U, U, U, U, U, U, U, U, U, U, U, U, U, U, U, U, U, U, U, U, U, U, U, U, U, U, U, U] (n8 [r8, r9, (.some (.cells [I k1, I k2] 27 .row))]) ([(sl 8 0 n c), (sl 9 0 n2 c2), U, U, (.slice .none 0 0), (I 0), I o, (.slice .none 0 0), U, U, U, U, (sl 8 0 n c), I k1, (sl 9 0 n2 c2), I k2, (sl 10 0 2 2), I o, I o, (.bool (o != 0)), U, U, U, U, U, U, U, U, U, U, U, U, U, U, U, U, U, U, U, U, U, U, U, U, U, U, U, U, U, U, U, U, U, U, U, U, U, U, U, U, U, U, U, U], (n8 [r8, r9, (.some (.cells [I k1, I k2] 27 .row))]), none) :=
  Runs.by (n := 1000) (fid := 55) (os := []) (os' := []) (by kernel_rfl) (ObsOK.nil)
theorem ppq3_p0  (n c n2 c2 : Nat) (r8 r9 : Option ARow) (k1 k2 o : Int) (h29a : ∀ (lim : Nat) (A : Heap), hget A 8 = r8 → Gives Tryz.prog envM lim 29 [sl 8 0 n c] A (I k1, A)) (h29b : ∀ (lim : Nat) (A : Heap), hget A 9 = r9 → Gives Tryz.prog envM lim 29 [sl 9 0 n2 c2] A (I k2, A)) (h84 : ∀ (lim : Nat) (A : Heap), hget A 10 = some (.cells [I k1, I k2] 27 .row) → Gives Tryz.prog envM lim 84 [sl 10 0 2 2] A (I o, A)) (fz : (o != 0) = false) : Runs Tryz.prog envM 10 [.code (codeL (codeL (codeR (codeR (codeR (bodyOf 55))))))] [(sl 8 0 n c), (sl 9 0 n2 c2), U, U, (.slice .none 0 0), (I 0), I o, (.slice .none 0 0), U, U, U, U, (sl 8 0 n c), I k1, (sl 9 0 n2 c2), I k2, (sl 10 0 2 2), I o, I o, (.bool (o != 0)), U, U, U, U, U, U, U, U, U, U, U, U, U, U, U, U, U, U, U, U, U, U, U, U, U, U, U, U, U, U, U, U, U, U, U, U, U, U, U, U, U, U, U, U] (n8 [r8, r9, (.some (.cells [I k1, I k2] 27 .row))]) ([(sl 8 0 n c), (sl 9 0 n2 c2), U, U, (.slice .none 0 0), (I 0), I o, (.slice .none 0 0), U, U, U, U, (sl 8 0 n c), I k1, (sl 9 0 n2 c2), I k2, (sl 10 0 2 2), I o, I o, (.bool (o != 0)), U, (sl 8 0 n c), (I ((n : Int))), (I 0), U, U, U, U, U, U, U, U, U, U, U, U, U, U, U, U, U, U, U, U, U, U, U, U, U, U, U, U, U, U, U, U, U, U, U, U, U, U, U, U], (n8 [r8, r9, (.some (.cells [I k1, I k2] 27 .row))]), none) :=
  Runs.by (n := 1000) (fid := 55) (os := []) (os' := []) (by kernel_rfl) (ObsOK.nil)
theorem pph0_p0 (v0 v2 v3 v4 v5 v6 v8 v9 v10 v11 v12 v13 v14 v15 v16 v17 v18 v19 v20 v24 v25 v26 v27 v28 v29 v30 v31 v32 v33 v34 v35 v36 v37 v38 v39 v40 v41 v42 v43 v44 v45 v46 v47 v48 v49 v50 v51 v52 v53 v54 v55 v56 v57 v58 v59 v60 v61 v62 v63 : Value) (n c n2 c2 : Nat) (r8 r9 : Option ARow) (k1 k2 o i0 : Int) (va : Value) (ra bx : Option ARow) (k8 : Nat) (sx sy sg sp : Int) (hx8 : aIndexAddr Tryz.prog 37 (sl 8 0 n c) (I i0) = some (pt 8 k8)) (hl8 : aLoad Tryz.prog 32 (pt 8 k8) (n8 [r8, r9, bx, ra]) = some (.agg #[I sx, I sy, I sg, I sp])) (f1 : decide (i0 < (n : Int)) = true) : Runs Tryz.prog envM 10 [.code (codeL (round 0 (bodyOf 55)))] [v0, (sl 9 0 n2 c2), v2, v3, v4, v5, v6, va, v8, v9, v10, v11, v12, v13, v14, v15, v16, v17, v18, v19, v20, (sl 8 0 n c), (I ((n : Int))), I i0, v24, v25, v26, v27, v28, v29, v30, v31, v32, v33, v34, v35, v36, v37, v38, v39, v40, v41, v42, v43, v44, v45, v46, v47, v48, v49, v50, v51, v52, v53, v54, v55, v56, v57, v58, v59, v60, v61, v62, v63] (n8 [r8, r9, bx, ra]) ([v0, (sl 9 0 n2 c2), v2, v3, v4, v5, v6, va, v8, v9, v10, v11, v12, v13, v14, v15, v16, v17, v18, v19, v20, (sl 8 0 n c), (I ((n : Int))), I i0, (.bool (decide (i0 < (n : Int)))), v25, v26, v27, v28, v29, v30, v31, v32, v33, v34, v35, v36, v37, v38, v39, v40, v41, v42, v43, v44, v45, v46, v47, v48, v49, v50, v51, v52, v53, v54, v55, v56, v57, v58, v59, v60, v61, v62, v63], (n8 [r8, r9, bx, ra]), none) :=
  Runs.by (n := 1000) (fid := 55) (os := []) (os' := []) (by kernel_rfl) (ObsOK.nil)
theorem pph1_p0 (v0 v2 v3 v4 v5 v6 v8 v9 v10 v11 v12 v13 v14 v15 v16 v17 v18 v19 v20 v24 v25 v26 v27 v28 v29 v30 v31 v32 v33 v34 v35 v36 v37 v38 v39 v40 v41 v42 v43 v44 v45 v46 v47 v48 v49 v50 v51 v52 v53 v54 v55 v56 v57 v58 v59 v60 v61 v62 v63 : Value) (n c n2 c2 : Nat) (r8 r9 : Option ARow) (k1 k2 o i0 : Int) (va : Value) (ra bx : Option ARow) (k8 : Nat) (sx sy sg sp : Int) (hx8 : aIndexAddr Tryz.prog 37 (sl 8 0 n c) (I i0) = some (pt 8 k8)) (hl8 : aLoad Tryz.prog 32 (pt 8 k8) (n8 [r8, r9, bx, ra]) = some (.agg #[I sx, I sy, I sg, I sp])) (f1 : decide (i0 < (n : Int)) = true) : Runs Tryz.prog envM 10 [.code (codeL (codeR (round 0 (bodyOf 55))))] [v0, (sl 9 0 n2 c2), v2, v3, v4, v5, v6, va, v8, v9, v10, v11, v12, v13, v14, v15, v16, v17, v18, v19, v20, (sl 8 0 n c), (I ((n : Int))), I i0, (.bool (decide (i0 < (n : Int)))), v25, v26, v27, v28, v29, v30, v31, v32, v33, v34, v35, v36, v37, v38, v39, v40, v41, v42, v43, v44, v45, v46, v47, v48, v49, v50, v51, v52, v53, v54, v55, v56, v57, v58, v59, v60, v61, v62, v63] (n8 [r8, r9, bx, ra]) ([v0, (sl 9 0 n2 c2), v2, v3, v4, v5, v6, va, v8, v9, v10, v11, v12, v13, v14, v15, v16, v17, v18, v19, v20, (sl 8 0 n c), (I ((n : Int))), I i0, (.bool (decide (i0 < (n : Int)))), v25, v26, v27, v28, v29, v30, v31, v32, v33, v34, v35, v36, v37, v38, v39, v40, v41, v42, v43, v44, v45, v46, v47, v48, v49, v50, v51, v52, v53, v54, v55, v56, v57, v58, v59, v60, v61, v62, v63], (n8 [r8, r9, bx, ra]), none) :=
  Runs.by (n := 1000) (fid := 55) (os := [.br 55 50 true]) (os' := []) (by kernel_rfl) (ObsOK.cond f1 (ObsOK.nil))
theorem pph2_p0 (v0 v2 v3 v4 v5 v6 v8 v9 v10 v11 v12 v13 v14 v15 v16 v17 v18 v19 v20 v24 v25 v26 v27 v28 v29 v30 v31 v32 v33 v34 v35 v36 v37 v38 v39 v40 v41 v42 v43 v44 v45 v46 v47 v48 v49 v50 v51 v52 v53 v54 v55 v56 v57 v58 v59 v60 v61 v62 v63 : Value) (n c n2 c2 : Nat) (r8 r9 : Option ARow) (k1 k2 o i0 : Int) (va : Value) (ra bx : Option ARow) (k8 : Nat) (sx sy sg sp : Int) (hx8 : aIndexAddr Tryz.prog 37 (sl 8 0 n c) (I i0) = some (pt 8 k8)) (hl8 : aLoad Tryz.prog 32 (pt 8 k8) (n8 [r8, r9, bx, ra]) = some (.agg #[I sx, I sy, I sg, I sp])) (f1 : decide (i0 < (n : Int)) = true) : Runs Tryz.prog envM 10 [.code (codeL (codeB (codeL (codeR (codeR (round 0 (bodyOf 55)))))))] [v0, (sl 9 0 n2 c2), v2, v3, v4, v5, v6, va, v8, v9, v10, v11, v12, v13, v14, v15, v16, v17, v18, v19, v20, (sl 8 0 n c), (I ((n : Int))), I i0, (.bool (decide (i0 < (n : Int)))), v25, v26, v27, v28, v29, v30, v31, v32, v33, v34, v35, v36, v37, v38, v39, v40, v41, v42, v43, v44, v45, v46, v47, v48, v49, v50, v51, v52, v53, v54, v55, v56, v57, v58, v59, v60, v61, v62, v63] (n8 [r8, r9, bx, ra]) ([v0, (sl 9 0 n2 c2), v2, v3, v4, v5, v6, va, v8, (pt 12 0), v10, v11, v12, v13, v14, v15, v16, v17, v18, v19, v20, (sl 8 0 n c), (I ((n : Int))), I i0, (.bool (decide (i0 < (n : Int)))), (pt 8 k8), (.agg #[I sx, I sy, I sg, I sp]), v27, v28, v29, v30, v31, v32, v33, v34, v35, v36, v37, v38, v39, v40, v41, v42, v43, v44, v45, v46, v47, v48, v49, v50, v51, v52, v53, v54, v55, v56, v57, v58, v59, v60, v61, v62, v63], (n8 [r8, r9, bx, ra, (.some (.cells [I sx, I sy, I sg, I sp] 32 .var))]), none) :=
  Runs.by (n := 1000) (fid := 55) (os := [.op 55 26 (pt 8 k8), .op 55 27 (.agg #[I sx, I sy, I sg, I sp])]) (os' := []) (by kernel_rfl) (ObsOK.val hx8 (ObsOK.val hl8 (ObsOK.nil)))
theorem pph3_p0 (v0 v2 v3 v4 v5 v6 v8 v9 v10 v11 v12 v13 v14 v15 v16 v17 v18 v19 v20 v24 v25 v26 v27 v28 v29 v30 v31 v32 v33 v34 v35 v36 v37 v38 v39 v40 v41 v42 v43 v44 v45 v46 v47 v48 v49 v50 v51 v52 v53 v54 v55 v56 v57 v58 v59 v60 v61 v62 v63 : Value) (n c n2 c2 : Nat) (r8 r9 : Option ARow) (k1 k2 o i0 : Int) (va : Value) (ra bx : Option ARow) (k8 : Nat) (sx sy sg sp : Int) (hx8 : aIndexAddr Tryz.prog 37 (sl 8 0 n c) (I i0) = some (pt 8 k8)) (hl8 : aLoad Tryz.prog 32 (pt 8 k8) (n8 [r8, r9, bx, ra]) = some (.agg #[I sx, I sy, I sg, I sp])) (f1 : decide (i0 < (n : Int)) = true) : Runs Tryz.prog envM 10 [.code (codeL (codeR (codeB (codeL (codeR (codeR (round 0 (bodyOf 55))))))))] [v0, (sl 9 0 n2 c2), v2, v3, v4, v5, v6, va, v8, (pt 12 0), v10, v11, v12, v13, v14, v15, v16, v17, v18, v19, v20, (sl 8 0 n c), (I ((n : Int))), I i0, (.bool (decide (i0 < (n : Int)))), (pt 8 k8), (.agg #[I sx, I sy, I sg, I sp]), v27, v28, v29, v30, v31, v32, v33, v34, v35, v36, v37, v38, v39, v40, v41, v42, v43, v44, v45, v46, v47, v48, v49, v50, v51, v52, v53, v54, v55, v56, v57, v58, v59, v60, v61, v62, v63] (n8 [r8, r9, bx, ra, (.some (.cells [I sx, I sy, I sg, I sp] 32 .var))]) ([v0, (sl 9 0 n2 c2), v2, v3, v4, v5, v6, va, v8, (pt 12 0), v10, v11, v12, v13, v14, v15, v16, v17, v18, v19, v20, (sl 8 0 n c), (I ((n : Int))), I i0, (.bool (decide (i0 < (n : Int)))), (pt 8 k8), (.agg #[I sx, I sy, I sg, I sp]), (sl 9 0 n2 c2), (I ((n2 : Int))), (I 0), v30, v31, v32, v33, v34, v35, v36, v37, v38, v39, v40, v41, v42, v43, v44, v45, v46, v47, v48, v49, v50, v51, v52, v53, v54, v55, v56, v57, v58, v59, v60, v61, v62, v63], (n8 [r8, r9, bx, ra, (.some (.cells [I sx, I sy, I sg, I sp] 32 .var))]), none) :=
  Runs.by (n := 1000) (fid := 55) (os := []) (os' := []) (by kernel_rfl) (ObsOK.nil)
theorem ppt0_p0 (v0 v2 v3 v4 v5 v6 v8 v10 v11 v12 v13 v14 v15 v16 v17 v18 v19 v20 v24 v25 v26 v29 v30 v31 v32 v33 v34 v35 v36 v37 v38 v39 v40 v41 v42 v43 v44 v45 v46 v47 v48 v49 v50 v51 v52 v53 v54 v55 v56 v57 v58 v59 v60 v61 v62 v63 : Value) (n c n2 c2 : Nat) (r8 r9 : Option ARow) (k1 k2 o i0 sx sy sg sp : Int) (va : Value) (ra : Option ARow) : Runs Tryz.prog envM 10 [.code (codeR (codeR (codeR (round 0 (bodyOf 55)))))] [v0, (sl 9 0 n2 c2), v2, v3, v4, v5, v6, va, v8, (pt 10 0), v10, v11, v12, v13, v14, v15, v16, v17, v18, v19, v20, (sl 8 0 n c), (I ((n : Int))), I i0, v24, v25, v26, (sl 9 0 n2 c2), (I ((n2 : Int))), v29, v30, v31, v32, v33, v34, v35, v36, v37, v38, v39, v40, v41, v42, v43, v44, v45, v46, v47, v48, v49, v50, v51, v52, v53, v54, v55, v56, v57, v58, v59, v60, v61, v62, v63] (n8 [r8, r9, (.some (.cells [I sx, I sy, I sg, I sp] 32 .var)), ra]) ([v0, (sl 9 0 n2 c2), v2, v3, v4, v5, v6, va, v8, (pt 10 0), v10, v11, v12, v13, v14, v15, v16, v17, v18, v19, v20, (sl 8 0 n c), (I ((n : Int))), (I (IntKind.i64.wrap (i0 + 1))), v24, v25, v26, (sl 9 0 n2 c2), (I ((n2 : Int))), v29, v30, v31, v32, v33, v34, v35, v36, v37, v38, v39, v40, v41, v42, v43, v44, v45, v46, v47, v48, v49, v50, v51, v52, v53, v54, v55, v56, v57, v58, (I (IntKind.i64.wrap (i0 + 1))), v60, v61, v62, v63], (n8 [r8, r9, (.some (.cells [I sx, I sy, I sg, I sp] 32 .var)), ra]), none) :=
  Runs.by (n := 1000) (fid := 55) (os := []) (os' := []) (by kernel_rfl) (ObsOK.nil)
theorem ppx_p0 (v0 v2 v3 v4 v5 v6 v8 v9 v10 v11 v12 v13 v14 v15 v16 v17 v18 v19 v20 v24 v25 v26 v27 v28 v29 v30 v31 v32 v33 v34 v35 v36 v37 v38 v39 v40 v41 v42 v43 v44 v45 v46 v47 v48 v49 v50 v51 v52 v53 v54 v55 v56 v57 v58 v59 v60 v61 v62 v63 : Value) (n c n2 c2 : Nat) (r8 r9 : Option ARow) (k1 k2 o i0 : Int) (va : Value) (ra bx : Option ARow) (k8 : Nat) (sx sy sg sp : Int) (f1 : decide (i0 < (n : Int)) = false) : Runs Tryz.prog envM 10 [.code (round 0 (bodyOf 55)), .inLoop (round 0 (bodyOf 55)), .inBlock 0] [v0, (sl 9 0 n2 c2), v2, v3, v4, v5, v6, va, v8, v9, v10, v11, v12, v13, v14, v15, v16, v17, v18, v19, v20, (sl 8 0 n c), (I ((n : Int))), I i0, v24, v25, v26, v27, v28, v29, v30, v31, v32, v33, v34, v35, v36, v37, v38, v39, v40, v41, v42, v43, v44, v45, v46, v47, v48, v49, v50, v51, v52, v53, v54, v55, v56, v57, v58, v59, v60, v61, v62, v63] (n8 [r8, r9, bx, ra]) ([v0, (sl 9 0 n2 c2), v2, v3, v4, v5, v6, va, v8, v9, v10, v11, v12, v13, v14, v15, v16, v17, v18, v19, v20, (sl 8 0 n c), (I ((n : Int))), I i0, (.bool (decide (i0 < (n : Int)))), v25, v26, v27, v28, v29, v30, v31, v32, v33, v34, v35, v36, v37, v38, v39, v40, v41, v42, v43, v44, v45, v46, v47, v48, v49, v50, v51, v52, v53, v54, v55, v56, v57, v58, v59, v60, v61, v62, v63], (n8 [r8, r9, bx, ra]), none) :=
  Runs.by (n := 1000) (fid := 55) (os := [.br 55 50 false]) (os' := []) (by kernel_rfl) (ObsOK.cond f1 (ObsOK.nil))
theorem ppiA0_p0 (v0 v2 v3 v4 v5 v6 v8 v10 v11 v12 v13 v14 v15 v16 v17 v18 v19 v20 v24 v25 v26 v30 v31 v32 v33 v34 v35 v36 v37 v38 v39 v40 v41 v42 v43 v44 v45 v46 v47 v48 v49 v50 v51 v52 v53 v54 v55 v56 v57 v58 v59 v60 v61 v62 v63 va : Value) (ra : Option ARow) (mm : Nat) (cs2 : List Value) (n c n2 c2 : Nat) (r8 r9 : Option ARow) (k1 k2 o i0 sx sy sg sp i : Int) (k9 : Nat) (z9x z9y z9g z9p : Int) (hx9 : aIndexAddr Tryz.prog 37 (sl 9 0 n2 c2) (I i) = some (pt 9 k9)) (hl9 : aLoad Tryz.prog 32 (pt 9 k9) (n8 [r8, r9, (.some (.cells [I sx, I sy, I sg, I sp] 32 .var)), ra]) = some (.agg #[I z9x, I z9y, I z9g, I z9p])) (ha : aAppend Tryz.prog 10 #[37, 37] va (sl 13 0 1 1) (n8 [r8, r9, (.some (.cells [I sx, I sy, I sg, I sp] 32 .var)), ra, (.some (.cells [I z9x, I z9y, I z9g, I z9p] 32 .var)), (.some (.cells [(I (IntKind.i64.wrap (sx + z9x))), (I (IntKind.i64.wrap (sy + z9y))), (I (IntKind.i64.wrap (sg * z9g))), (I ((IntKind.i64.wrap ((IntKind.i64.wrap (sp + z9p)).tmod 4 + 4)).tmod 4))] 32 .row))]) = some (sl 14 0 (mm + 1) (mm + 1), (n8 [r8, r9, (.some (.cells [I sx, I sy, I sg, I sp] 32 .var)), none, (.some (.cells [I z9x, I z9y, I z9g, I z9p] 32 .var)), (.some (.cells [(I (IntKind.i64.wrap (sx + z9x))), (I (IntKind.i64.wrap (sy + z9y))), (I (IntKind.i64.wrap (sg * z9g))), (I ((IntKind.i64.wrap ((IntKind.i64.wrap (sp + z9p)).tmod 4 + 4)).tmod 4))] 32 .row)), some (.cells cs2 32 .row)]))) (f1 : decide (i < ((n2 : Int))) = true) : Runs Tryz.prog envM 10 [.code (round 2 (bodyOf 55))] [v0, (sl 9 0 n2 c2), v2, v3, v4, v5, v6, va, v8, (pt 10 0), v10, v11, v12, v13, v14, v15, v16, v17, v18, v19, v20, (sl 8 0 n c), (I ((n : Int))), I i0, v24, v25, v26, (sl 9 0 n2 c2), (I ((n2 : Int))), I i, v30, v31, v32, v33, v34, v35, v36, v37, v38, v39, v40, v41, v42, v43, v44, v45, v46, v47, v48, v49, v50, v51, v52, v53, v54, v55, v56, v57, v58, v59, v60, v61, v62, v63] (n8 [r8, r9, (.some (.cells [I sx, I sy, I sg, I sp] 32 .var)), ra]) ([v0, (sl 9 0 n2 c2), v2, v3, v4, v5, v6, (sl 14 0 (mm + 1) (mm + 1)), v8, (pt 10 0), v10, (pt 12 0), v12, v13, v14, v15, v16, v17, v18, v19, v20, (sl 8 0 n c), (I ((n : Int))), I i0, v24, v25, v26, (sl 9 0 n2 c2), (I ((n2 : Int))), (I (IntKind.i64.wrap (i + 1))), (.bool (decide (i < (n2 : Int)))), (pt 9 k9), (.agg #[I z9x, I z9y, I z9g, I z9p]), va, (pt 10 0), I sx, (pt 12 0), I z9x, (I (IntKind.i64.wrap (sx + z9x))), (pt 10 1), I sy, (pt 12 1), I z9y, (I (IntKind.i64.wrap (sy + z9y))), (pt 10 2), I sg, (pt 12 2), I z9g, (I (IntKind.i64.wrap (sg * z9g))), (pt 10 3), I sp, (pt 12 3), I z9p, (I (IntKind.i64.wrap (sp + z9p))), (I ((IntKind.i64.wrap ((IntKind.i64.wrap (sp + z9p)).tmod 4 + 4)).tmod 4)), (.agg #[(I (IntKind.i64.wrap (sx + z9x))), (I (IntKind.i64.wrap (sy + z9y))), (I (IntKind.i64.wrap (sg * z9g))), (I ((IntKind.i64.wrap ((IntKind.i64.wrap (sp + z9p)).tmod 4 + 4)).tmod 4))]), (sl 13 0 1 1), (sl 14 0 (mm + 1) (mm + 1)), (I (IntKind.i64.wrap (i + 1))), v59, v60, v61, v62, v63], (n8 [r8, r9, (.some (.cells [I sx, I sy, I sg, I sp] 32 .var)), .none, (.some (.cells [I z9x, I z9y, I z9g, I z9p] 32 .var)), (.some (.cells [(I (IntKind.i64.wrap (sx + z9x))), (I (IntKind.i64.wrap (sy + z9y))), (I (IntKind.i64.wrap (sg * z9g))), (I ((IntKind.i64.wrap ((IntKind.i64.wrap (sp + z9p)).tmod 4 + 4)).tmod 4))] 32 .row)), (.some (.cells cs2 32 .row))]), none) :=
  Runs.by (n := 1000) (fid := 55) (os := [.br 55 62 true, .op 55 32 (pt 9 k9), .op 55 33 (.agg #[I z9x, I z9y, I z9g, I z9p]), .opw 55 58 (sl 14 0 (mm + 1) (mm + 1)) (n8 [r8, r9, (.some (.cells [I sx, I sy, I sg, I sp] 32 .var)), .none, (.some (.cells [I z9x, I z9y, I z9g, I z9p] 32 .var)), (.some (.cells [(I (IntKind.i64.wrap (sx + z9x))), (I (IntKind.i64.wrap (sy + z9y))), (I (IntKind.i64.wrap (sg * z9g))), (I ((IntKind.i64.wrap ((IntKind.i64.wrap (sp + z9p)).tmod 4 + 4)).tmod 4))] 32 .row)), (.some (.cells cs2 32 .row))])]) (os' := []) (by kernel_rfl) (ObsOK.cond f1 (ObsOK.val hx9 (ObsOK.val hl9 (ObsOK.both ha (ObsOK.nil)))))
theorem ppiC_p0 (v0 v2 v3 v4 v5 v6 v8 v10 v11 v12 v13 v14 v15 v16 v17 v18 v19 v20 v24 v25 v26 v30 v31 v32 v33 v34 v35 v36 v37 v38 v39 v40 v41 v42 v43 v44 v45 v46 v47 v48 v49 v50 v51 v52 v53 v54 v55 v56 v57 v58 v59 v60 v61 v62 v63 va : Value) (ra : Option ARow) (mm : Nat) (cs2 : List Value) (n c n2 c2 : Nat) (r8 r9 : Option ARow) (k1 k2 o i0 sx sy sg sp i : Int) (f1 : decide (i < ((n2 : Int))) = false) : Runs Tryz.prog envM 10 [.code (round 2 (bodyOf 55)), .inLoop (round 2 (bodyOf 55)), .inBlock 2] [v0, (sl 9 0 n2 c2), v2, v3, v4, v5, v6, va, v8, (pt 10 0), v10, v11, v12, v13, v14, v15, v16, v17, v18, v19, v20, (sl 8 0 n c), (I ((n : Int))), I i0, v24, v25, v26, (sl 9 0 n2 c2), (I ((n2 : Int))), I i, v30, v31, v32, v33, v34, v35, v36, v37, v38, v39, v40, v41, v42, v43, v44, v45, v46, v47, v48, v49, v50, v51, v52, v53, v54, v55, v56, v57, v58, v59, v60, v61, v62, v63] (n8 [r8, r9, (.some (.cells [I sx, I sy, I sg, I sp] 32 .var)), ra]) ([v0, (sl 9 0 n2 c2), v2, v3, v4, v5, v6, va, v8, (pt 10 0), v10, v11, v12, v13, v14, v15, v16, v17, v18, v19, v20, (sl 8 0 n c), (I ((n : Int))), I i0, v24, v25, v26, (sl 9 0 n2 c2), (I ((n2 : Int))), I i, (.bool (decide (i < (n2 : Int)))), v31, v32, v33, v34, v35, v36, v37, v38, v39, v40, v41, v42, v43, v44, v45, v46, v47, v48, v49, v50, v51, v52, v53, v54, v55, v56, v57, v58, v59, v60, v61, v62, v63], (n8 [r8, r9, (.some (.cells [I sx, I sy, I sg, I sp] 32 .var)), ra]), none) :=
  Runs.by (n := 1000) (fid := 55) (os := [.br 55 62 false]) (os' := []) (by kernel_rfl) (ObsOK.cond f1 (ObsOK.nil))
theorem ppZe_p0 (v0 v2 v3 v4 v5 v6 v8 v9 v10 v11 v12 v13 v14 v15 v16 v17 v18 v19 v20 v23 v24 v25 v26 v27 v28 v29 v30 v31 v32 v33 v34 v35 v36 v37 v38 v39 v40 v41 v42 v43 v44 v45 v46 v47 v48 v49 v50 v51 v52 v53 v54 v55 v56 v57 v58 v59 v60 v61 v62 v63 : Value) (n c n2 c2 : Nat) (r8 r9 : Option ARow) (k1 k2 o : Int) (va : Value) (ra bx : Option ARow) (L : List CallC) (k : Int) (h29 : ∀ (lim : Nat) (A : Heap), A = (n8 [r8, r9, bx, ra]) → Gives Tryz.prog (envM.calls [29] L) lim 29 [va] A (I k, A)) (fk : (k != 0) = true) : Runs Tryz.prog (envM.calls [29] L) 10 [.code (codeR (codeR (codeR (codeR (bodyOf 55)))))] [v0, (sl 9 0 n2 c2), v2, v3, v4, v5, v6, va, v8, v9, v10, v11, v12, v13, v14, v15, v16, v17, v18, v19, v20, (sl 8 0 n c), (I ((n : Int))), v23, v24, v25, v26, v27, v28, v29, v30, v31, v32, v33, v34, v35, v36, v37, v38, v39, v40, v41, v42, v43, v44, v45, v46, v47, v48, v49, v50, v51, v52, v53, v54, v55, v56, v57, v58, v59, v60, v61, v62, v63] (n8 [r8, r9, bx, ra]) ([v0, (sl 9 0 n2 c2), v2, v3, (.slice .none 0 0), I k, v6, va, v8, v9, v10, v11, v12, v13, v14, v15, v16, v17, v18, v19, v20, (sl 8 0 n c), (I ((n : Int))), v23, v24, v25, v26, v27, v28, v29, v30, v31, v32, v33, v34, v35, v36, v37, v38, v39, v40, v41, v42, v43, v44, v45, v46, v47, v48, v49, v50, v51, v52, v53, v54, v55, v56, v57, v58, v59, va, (.tuple #[(.slice .none 0 0), I k]), (.slice .none 0 0), I k], (n8 [r8, r9, bx, ra]), some .ret) :=
  Runs.by (n := 1000) (fid := 55) (os := [.opw 100 7 (I k) (n8 [r8, r9, bx, ra]), .br 100 18 true]) (os' := []) (by kernel_rfl) (ObsOK.call (h29 12 (n8 [r8, r9, bx, ra]) (by kernel_rfl)) (ObsOK.cond fk (ObsOK.nil)))
theorem ppZo_p0 (v0 v2 v3 v4 v5 v6 v8 v9 v10 v11 v12 v13 v14 v15 v16 v17 v18 v19 v20 v23 v24 v25 v26 v27 v28 v29 v30 v31 v32 v33 v34 v35 v36 v37 v38 v39 v40 v41 v42 v43 v44 v45 v46 v47 v48 v49 v50 v51 v52 v53 v54 v55 v56 v57 v58 v59 v60 v61 v62 v63 : Value) (n c n2 c2 : Nat) (r8 r9 : Option ARow) (k1 k2 o : Int) (va : Value) (ra bx : Option ARow) (L : List CallC) (k : Int) (h29 : ∀ (lim : Nat) (A : Heap), A = (n8 [r8, r9, bx, ra]) → Gives Tryz.prog (envM.calls [29] L) lim 29 [va] A (I k, A)) (fk : (k != 0) = false) (hg : aGC (n8 [r8, r9, bx, ra]) (.tuple #[va, I 0]) (n8 [r8, r9, bx, ra]) = (.tuple #[va, I 0], (n8 [r8, r9, bx, ra]))) : Runs Tryz.prog (envM.calls [29] L) 10 [.code (codeR (codeR (codeR (codeR (bodyOf 55)))))] [v0, (sl 9 0 n2 c2), v2, v3, v4, v5, v6, va, v8, v9, v10, v11, v12, v13, v14, v15, v16, v17, v18, v19, v20, (sl 8 0 n c), (I ((n : Int))), v23, v24, v25, v26, v27, v28, v29, v30, v31, v32, v33, v34, v35, v36, v37, v38, v39, v40, v41, v42, v43, v44, v45, v46, v47, v48, v49, v50, v51, v52, v53, v54, v55, v56, v57, v58, v59, v60, v61, v62, v63] (n8 [r8, r9, bx, ra]) ([v0, (sl 9 0 n2 c2), v2, v3, va, (I 0), v6, va, v8, v9, v10, v11, v12, v13, v14, v15, v16, v17, v18, v19, v20, (sl 8 0 n c), (I ((n : Int))), v23, v24, v25, v26, v27, v28, v29, v30, v31, v32, v33, v34, v35, v36, v37, v38, v39, v40, v41, v42, v43, v44, v45, v46, v47, v48, v49, v50, v51, v52, v53, v54, v55, v56, v57, v58, v59, va, (.tuple #[va, (I 0)]), va, (I 0)], (n8 [r8, r9, bx, ra]), some .ret) :=
  Runs.by (n := 1000) (fid := 55) (os := [.opw 100 7 (I k) (n8 [r8, r9, bx, ra]), .br 100 18 false, .gc 100 (.tuple #[va, (I 0)]) (n8 [r8, r9, bx, ra])]) (os' := []) (by kernel_rfl) (ObsOK.call (h29 12 (n8 [r8, r9, bx, ra]) (by kernel_rfl)) (ObsOK.cond fk (ObsOK.gc hg (ObsOK.nil))))
/-
The program's repetition.
-/
def ppi_b (xs ys : List Sr) (c e c2 e2 : Nat) (u u2 : Use) (ii M0 : Nat) (cs0 : List Value) (jj : Nat) (f : Nat → Value) : List Value := [f 0, (sl 9 0 ys.length c2), f 2, f 3, f 4, f 5, f 6, (svA 11 (M0 + jj)), f 8, (pt 10 0), f 10, f 11, f 12, f 13, f 14, f 15, f 16, f 17, f 18, f 19, f 20, (sl 8 0 xs.length c), (I ((xs.length : Int))), (I (ii : Int)), f 24, f 25, f 26, (sl 9 0 ys.length c2), (I ((ys.length : Int))), I (jj : Int), f 30, f 31, f 32, f 33, f 34, f 35, f 36, f 37, f 38, f 39, f 40, f 41, f 42, f 43, f 44, f 45, f 46, f 47, f 48, f 49, f 50, f 51, f 52, f 53, f 54, f 55, f 56, f 57, f 58, f 59, f 60, f 61, f 62, f 63]
def ppi_S (xs ys : List Sr) (c e c2 e2 : Nat) (u u2 : Use) (ii M0 : Nat) (cs0 : List Value) (jj : Nat) (ls : List Value) : Prop := ∃ f : Nat → Value, ls = ppi_b xs ys c e c2 e2 u u2 ii M0 cs0 jj f ∧ JF [19, 24, 30] f
theorem ppi_S.mk {xs ys : List Sr} {c e c2 e2 : Nat} {u u2 : Use} {ii M0 : Nat} {cs0 : List Value} {jj : Nat} {ls : List Value} (h : ls = ppi_b xs ys c e c2 e2 u u2 ii M0 cs0 jj (fun k => ls.getD k (I 0))) (hj : JL [19, 24, 30] 0 ls) : ppi_S xs ys c e c2 e2 u u2 ii M0 cs0 jj ls := ⟨_, h, hj.fn⟩
def ppi_bE (xs ys : List Sr) (c e c2 e2 : Nat) (u u2 : Use) (ii M0 : Nat) (cs0 : List Value) (jj : Nat) (f : Nat → Value) : List Value := [f 0, (sl 9 0 ys.length c2), f 2, f 3, f 4, f 5, f 6, (svA 11 (M0 + jj)), f 8, (pt 10 0), f 10, f 11, f 12, f 13, f 14, f 15, f 16, f 17, f 18, f 19, f 20, (sl 8 0 xs.length c), (I ((xs.length : Int))), (I (ii : Int)), f 24, f 25, f 26, (sl 9 0 ys.length c2), (I ((ys.length : Int))), f 29, f 30, f 31, f 32, f 33, f 34, f 35, f 36, f 37, f 38, f 39, f 40, f 41, f 42, f 43, f 44, f 45, f 46, f 47, f 48, f 49, f 50, f 51, f 52, f 53, f 54, f 55, f 56, f 57, f 58, f 59, f 60, f 61, f 62, f 63]
def ppi_SE (xs ys : List Sr) (c e c2 e2 : Nat) (u u2 : Use) (ii M0 : Nat) (cs0 : List Value) (jj : Nat) (ls : List Value) : Prop := ∃ f : Nat → Value, ls = ppi_bE xs ys c e c2 e2 u u2 ii M0 cs0 jj f ∧ JF [19, 24, 30] f
theorem ppi_SE.mk {xs ys : List Sr} {c e c2 e2 : Nat} {u u2 : Use} {ii M0 : Nat} {cs0 : List Value} {jj : Nat} {ls : List Value} (h : ls = ppi_bE xs ys c e c2 e2 u u2 ii M0 cs0 jj (fun k => ls.getD k (I 0))) (hj : JL [19, 24, 30] 0 ls) : ppi_SE xs ys c e c2 e2 u u2 ii M0 cs0 jj ls := ⟨_, h, hj.fn⟩
def ppi_K : List Keep := Keep.no :: Keep.ren :: Keep.no :: Keep.no :: Keep.no :: Keep.no :: Keep.no :: Keep.ren :: Keep.no :: Keep.ren :: Keep.no :: Keep.no :: Keep.no :: Keep.no :: Keep.no :: Keep.no :: Keep.no :: Keep.no :: Keep.no :: Keep.free :: Keep.no :: Keep.ren :: Keep.free :: Keep.free :: Keep.free :: Keep.no :: Keep.no :: Keep.ren :: Keep.free :: Keep.free :: Keep.free :: Keep.no :: Keep.no :: Keep.no :: Keep.no :: Keep.no :: Keep.no :: Keep.no :: Keep.no :: Keep.no :: Keep.no :: Keep.no :: Keep.no :: Keep.no :: Keep.no :: Keep.no :: Keep.no :: Keep.no :: Keep.no :: Keep.no :: Keep.no :: Keep.no :: Keep.no :: Keep.no :: Keep.no :: Keep.no :: Keep.no :: Keep.no :: Keep.no :: Keep.no :: Keep.no :: Keep.no :: Keep.no :: Keep.no :: []
theorem ppi_go (xs ys : List Sr) (c e c2 e2 : Nat) (u u2 : Use) (ii M0 : Nat) (cs0 : List Value) {KK : List It} {v' : Value} {A' : Heap} (hx : xs.length ≤ 16) (hy : ys.length ≤ 16) (ho : (fstI [chkP xs, chkP ys] != 0) = false) (hcs : cs0.length = M0 * 4) (hca : cs0.all atomB = true) (hM : M0 ≤ 1000) (hii : ii < xs.length) (hend : ∀ ls, ppi_SE xs ys c e c2 e2 u u2 ii M0 cs0 ys.length ls → EndsG Tryz.prog 8 Tryz.f55 (n8 [(rS xs e u), (rS ys e2 u2)]) v' A' (KK) ls ((n8 [(rS xs e u), (rS ys e2 u2)]) ++ [(.some (.cells [(I (xs.getD ii s0).x), (I (xs.getD ii s0).y), (I (xs.getD ii s0).g), (I (xs.getD ii s0).p)] 32 .var)), (rwA 32 (M0 + ys.length) (cs0 ++ srs ((ys.take ys.length).map (reP (xs.getD ii s0)))))])) : ∀ dd jj, jj + dd = ys.length → ∀ ls, ppi_S xs ys c e c2 e2 u u2 ii M0 cs0 jj ls → EndsG Tryz.prog 8 Tryz.f55 (n8 [(rS xs e u), (rS ys e2 u2)]) v' A' (.code (round 2 (bodyOf 55)) :: .inLoop (round 2 (bodyOf 55)) :: .inBlock 2 :: KK) ls ((n8 [(rS xs e u), (rS ys e2 u2)]) ++ [(.some (.cells [(I (xs.getD ii s0).x), (I (xs.getD ii s0).y), (I (xs.getD ii s0).g), (I (xs.getD ii s0).p)] 32 .var)), (rwA 32 (M0 + jj) (cs0 ++ srs ((ys.take jj).map (reP (xs.getD ii s0)))))]) := by
  intro dd
  induction dd with
  | zero =>
    rintro jj hjj ls ⟨f, rfl, hj⟩
    have hjn : jj = ys.length := by omega
    subst hjn
    have hr := ppiC_p0 (f 0) (f 2) (f 3) (f 4) (f 5) (f 6) (f 8) (f 10) (f 11) (f 12) (f 13) (f 14) (f 15) (f 16) (f 17) (f 18) (f 19) (f 20) (f 24) (f 25) (f 26) (f 30) (f 31) (f 32) (f 33) (f 34) (f 35) (f 36) (f 37) (f 38) (f 39) (f 40) (f 41) (f 42) (f 43) (f 44) (f 45) (f 46) (f 47) (f 48) (f 49) (f 50) (f 51) (f 52) (f 53) (f 54) (f 55) (f 56) (f 57) (f 58) (f 59) (f 60) (f 61) (f 62) (f 63) ((svA 11 (M0 + ys.length))) ((rwA 32 (M0 + ys.length) (cs0 ++ srs ((ys.take ys.length).map (reP (xs.getD ii s0)))))) ((M0 + ys.length)) ((cs0 ++ srs ((ys.take (ys.length + 1)).map (reP (xs.getD ii s0))))) (xs.length) (c) (ys.length) (c2) ((rS xs e u)) ((rS ys e2 u2)) ((chkP xs)) ((chkP ys)) ((fstI [chkP xs, chkP ys])) ((ii : Int)) ((xs.getD ii s0).x) ((xs.getD ii s0).y) ((xs.getD ii s0).g) ((xs.getD ii s0).p) ((ys.length : Int)) (decide_eq_false (by first | omega | (simp; omega)))
    refine EndsG.run (k := [.code (round 2 (bodyOf 55)), .inLoop (round 2 (bodyOf 55)), .inBlock 2]) (kk := KK) prog_ok envM_ok hr ?_
    exact hend _ (ppi_SE.mk (jj := ys.length) (by kernel_rfl) (.f1 hj (.c1 rfl (.f4 hj (.f1 hj (.no rfl (svA_nb _ _) (.f1 hj (.c1 rfl (.f8 hj (.f2 hj (.f1 hj (.c2 rfl (.c1 rfl (.f2 hj (.f1 hj (.c4 rfl (.f16 hj (.f16 hj (.f1 hj .nil)))))))))))))))))))
  | succ dd ih =>
    rintro jj hjj ls ⟨f, rfl, hj⟩
    have hlt : jj < ys.length := by omega
    have hs := (by rw [srs_tmap (f := reP (xs.getD ii s0)) (l := ys) (i := jj) (by omega), List.append_assoc] : cs0 ++ srs ((ys.take (jj + 1)).map (reP (xs.getD ii s0))) = (cs0 ++ srs ((ys.take jj).map (reP (xs.getD ii s0)))) ++ (reP (xs.getD ii s0) (ys.getD jj s0)).c)
    obtain ⟨ti, t1, t2, t3, t4⟩ := info_of i32'
    have hr := ppiA0_p0 (f 0) (f 2) (f 3) (f 4) (f 5) (f 6) (f 8) (f 10) (f 11) (f 12) (f 13) (f 14) (f 15) (f 16) (f 17) (f 18) (f 19) (f 20) (f 24) (f 25) (f 26) (f 30) (f 31) (f 32) (f 33) (f 34) (f 35) (f 36) (f 37) (f 38) (f 39) (f 40) (f 41) (f 42) (f 43) (f 44) (f 45) (f 46) (f 47) (f 48) (f 49) (f 50) (f 51) (f 52) (f 53) (f 54) (f 55) (f 56) (f 57) (f 58) (f 59) (f 60) (f 61) (f 62) (f 63) ((svA 11 (M0 + jj))) ((rwA 32 (M0 + jj) (cs0 ++ srs ((ys.take jj).map (reP (xs.getD ii s0)))))) ((M0 + jj)) ((cs0 ++ srs ((ys.take (jj + 1)).map (reP (xs.getD ii s0))))) (xs.length) (c) (ys.length) (c2) ((rS xs e u)) ((rS ys e2 u2)) ((chkP xs)) ((chkP ys)) ((fstI [chkP xs, chkP ys])) ((ii : Int)) ((xs.getD ii s0).x) ((xs.getD ii s0).y) ((xs.getD ii s0).g) ((xs.getD ii s0).p) ((jj : Int)) ((jj * 4)) (((ys.getD jj s0).x)) (((ys.getD jj s0).y)) (((ys.getD jj s0).g)) (((ys.getD jj s0).p)) (ix37 (by omega)) (ld32 rfl (by omega)) ((by rw [hs]; exact app_gen (P := Tryz.prog) (lim := 10) (r := 11) (q := 13) (M := (M0 + jj)) (c' := 1) (A := (n8 [(rS xs e u), (rS ys e2 u2), (.some (.cells [(I (xs.getD ii s0).x), (I (xs.getD ii s0).y), (I (xs.getD ii s0).g), (I (xs.getD ii s0).p)] 32 .var)), (rwA 32 (M0 + jj) (cs0 ++ srs ((ys.take jj).map (reP (xs.getD ii s0))))), (.some (.cells [(I ((ys.getD jj s0).x)), (I ((ys.getD jj s0).y)), (I ((ys.getD jj s0).g)), (I ((ys.getD jj s0).p))] 32 .var)), (.some (.cells [(I (IntKind.i64.wrap ((xs.getD ii s0).x + ((ys.getD jj s0).x)))), (I (IntKind.i64.wrap ((xs.getD ii s0).y + ((ys.getD jj s0).y)))), (I (IntKind.i64.wrap ((xs.getD ii s0).g * ((ys.getD jj s0).g)))), (I ((IntKind.i64.wrap ((IntKind.i64.wrap ((xs.getD ii s0).p + ((ys.getD jj s0).p))).tmod 4 + 4)).tmod 4))] 32 .row))])) u37 t1 t2 t3 t4 rfl rfl rfl (fun h => by rw [h]; rfl) rfl (by rw [List.length_append, hcs, srs_len, List.length_map, List.length_take]; omega) rfl rfl (by decide) (by omega) (by omega))) (decide_eq_true (by first | omega | (simp; omega)))
    try rw [wrap_succ' (by omega)] at hr
    refine EndsG.round prog_ok envM_ok hr ?_
    refine EndsG.renumS (X := [_, _, _, _, _]) (R := [(.some (.cells [(I (xs.getD ii s0).x), (I (xs.getD ii s0).y), (I (xs.getD ii s0).g), (I (xs.getD ii s0).p)] 32 .var)), (.some (.cells (cs0 ++ srs ((ys.take (jj + 1)).map (reP (xs.getD ii s0)))) 32 .row))]) (ids := [10, 14]) (m := ppi_K) rfl rfl (by kernel_rfl) (.cons rfl (.plain rfl) (.cons rfl (.plain (by rw [List.all_append, hca]; exact srs_atoms _)) .nil)) (.j1 0 hj rfl (.ren rfl (.j4 2 hj rfl (.j1 6 hj rfl (.ren rfl (.j1 8 hj rfl (.ren rfl (.j1 10 hj rfl (.no rfl (.j4 12 hj rfl (.j2 16 hj rfl (.j1 18 hj rfl (.free ((hj 19).1 rfl) (.j1 20 hj rfl (.ren rfl (.free rfl (.free rfl (.free ((hj 24).1 rfl) (.j2 25 hj rfl (.ren rfl (.free rfl (.free rfl (.free rfl (.n2 rfl (.no (svA_nb _ _) (.n16 rfl (.n8 rfl (.no rfl (.j4 59 hj rfl (.j1 63 hj rfl .nil)))))))))))))))))))))))))))))) ?_
    refine EndsG.rows (R' := [(.some (.cells [(I (xs.getD ii s0).x), (I (xs.getD ii s0).y), (I (xs.getD ii s0).g), (I (xs.getD ii s0).p)] 32 .var)), (rwA 32 (M0 + (jj + 1)) (cs0 ++ srs ((ys.take (jj + 1)).map (reP (xs.getD ii s0)))))]) rfl ?_
    exact ih (jj + 1) (by omega) _ (ppi_S.mk (jj := (jj + 1)) (by kernel_rfl) (.c16 rfl (.c2 rfl (.c1 rfl (.f1 hj (.c4 rfl (.f1 hj (.c16 rfl (.c16 rfl (.c4 rfl (.c2 rfl (.c1 rfl .nil))))))))))))
def pp_b (xs ys : List Sr) (c e c2 e2 : Nat) (u u2 : Use) (ii : Nat) (f : Nat → Value) : List Value := [f 0, (sl 9 0 ys.length c2), f 2, f 3, f 4, f 5, f 6, (svA 11 (reL reP xs ys ii).length), f 8, f 9, f 10, f 11, f 12, f 13, f 14, f 15, f 16, f 17, f 18, f 19, f 20, (sl 8 0 xs.length c), (I ((xs.length : Int))), I (ii : Int), f 24, f 25, f 26, f 27, f 28, f 29, f 30, f 31, f 32, f 33, f 34, f 35, f 36, f 37, f 38, f 39, f 40, f 41, f 42, f 43, f 44, f 45, f 46, f 47, f 48, f 49, f 50, f 51, f 52, f 53, f 54, f 55, f 56, f 57, f 58, f 59, f 60, f 61, f 62, f 63]
def pp_S (xs ys : List Sr) (c e c2 e2 : Nat) (u u2 : Use) (ii : Nat) (ls : List Value) : Prop := ∃ f : Nat → Value, ls = pp_b xs ys c e c2 e2 u u2 ii f ∧ JF [19, 24, 30] f
theorem pp_S.mk {xs ys : List Sr} {c e c2 e2 : Nat} {u u2 : Use} {ii : Nat} {ls : List Value} (h : ls = pp_b xs ys c e c2 e2 u u2 ii (fun k => ls.getD k (I 0))) (hj : JL [19, 24, 30] 0 ls) : pp_S xs ys c e c2 e2 u u2 ii ls := ⟨_, h, hj.fn⟩
def pp_bE (xs ys : List Sr) (c e c2 e2 : Nat) (u u2 : Use) (ii : Nat) (f : Nat → Value) : List Value := [f 0, (sl 9 0 ys.length c2), f 2, f 3, f 4, f 5, f 6, (svA 11 (reL reP xs ys ii).length), f 8, f 9, f 10, f 11, f 12, f 13, f 14, f 15, f 16, f 17, f 18, f 19, f 20, (sl 8 0 xs.length c), (I ((xs.length : Int))), f 23, f 24, f 25, f 26, f 27, f 28, f 29, f 30, f 31, f 32, f 33, f 34, f 35, f 36, f 37, f 38, f 39, f 40, f 41, f 42, f 43, f 44, f 45, f 46, f 47, f 48, f 49, f 50, f 51, f 52, f 53, f 54, f 55, f 56, f 57, f 58, f 59, f 60, f 61, f 62, f 63]
def pp_SE (xs ys : List Sr) (c e c2 e2 : Nat) (u u2 : Use) (ii : Nat) (ls : List Value) : Prop := ∃ f : Nat → Value, ls = pp_bE xs ys c e c2 e2 u u2 ii f ∧ JF [19, 24, 30] f
theorem pp_SE.mk {xs ys : List Sr} {c e c2 e2 : Nat} {u u2 : Use} {ii : Nat} {ls : List Value} (h : ls = pp_bE xs ys c e c2 e2 u u2 ii (fun k => ls.getD k (I 0))) (hj : JL [19, 24, 30] 0 ls) : pp_SE xs ys c e c2 e2 u u2 ii ls := ⟨_, h, hj.fn⟩
theorem pp_ent (xs ys : List Sr) (c e c2 e2 : Nat) (u u2 : Use) (ii M0 : Nat) (cs0 : List Value) {KK : List It} {v' : Value} {A' : Heap} (hca : cs0.all atomB = true) (bx : Option ARow) (f : Nat → Value) (hj : JF [19, 24, 30] f) (h : ∀ ls, ppi_S xs ys c e c2 e2 u u2 ii M0 cs0 0 ls → EndsG Tryz.prog 8 Tryz.f55 (n8 [(rS xs e u), (rS ys e2 u2)]) v' A' (KK) ls ((n8 [(rS xs e u), (rS ys e2 u2)]) ++ [(.some (.cells [(I (xs.getD ii s0).x), (I (xs.getD ii s0).y), (I (xs.getD ii s0).g), (I (xs.getD ii s0).p)] 32 .var)), rwA 32 (M0 + 0) (cs0 ++ srs ((ys.take 0).map (reP (xs.getD ii s0))))])) : EndsG Tryz.prog 8 Tryz.f55 (n8 [(rS xs e u), (rS ys e2 u2)]) v' A' (KK) [f 0, (sl 9 0 ys.length c2), f 2, f 3, f 4, f 5, f 6, (svA 11 M0), f 8, (pt 12 0), f 10, f 11, f 12, f 13, f 14, f 15, f 16, f 17, f 18, f 19, f 20, (sl 8 0 xs.length c), (I ((xs.length : Int))), (I (ii : Int)), (.bool (decide ((ii : Int) < (xs.length : Int)))), (.pointer (.some (Go.Addr.mk 8 (ii * 4) .none))), (.agg #[(I (xs.getD ii s0).x), (I (xs.getD ii s0).y), (I (xs.getD ii s0).g), (I (xs.getD ii s0).p)]), (sl 9 0 ys.length c2), (I ((ys.length : Int))), (I 0), f 30, f 31, f 32, f 33, f 34, f 35, f 36, f 37, f 38, f 39, f 40, f 41, f 42, f 43, f 44, f 45, f 46, f 47, f 48, f 49, f 50, f 51, f 52, f 53, f 54, f 55, f 56, f 57, f 58, f 59, f 60, f 61, f 62, f 63] ((n8 [(rS xs e u), (rS ys e2 u2)]) ++ [bx, (rwA 32 M0 cs0), (.some (.cells [(I (xs.getD ii s0).x), (I (xs.getD ii s0).y), (I (xs.getD ii s0).g), (I (xs.getD ii s0).p)] 32 .var))]) := by
  rw [show cs0 ++ srs ((ys.take 0).map (reP (xs.getD ii s0))) = cs0 by simp [srs]] at h
  cases M0 with
  | zero =>
    refine EndsG.renumS (X := [_, _, _]) (R := [(.some (.cells [(I (xs.getD ii s0).x), (I (xs.getD ii s0).y), (I (xs.getD ii s0).g), (I (xs.getD ii s0).p)] 32 .var))]) (ids := [12]) (m := ppi_K) rfl rfl (by kernel_rfl) (.cons rfl (.plain rfl) .nil) (.j1 0 hj rfl (.ren rfl (.j4 2 hj rfl (.j1 6 hj rfl (.ren rfl (.j1 8 hj rfl (.ren rfl (.j8 10 hj rfl (.j1 18 hj rfl (.free ((hj 19).1 rfl) (.j1 20 hj rfl (.ren rfl (.free rfl (.free rfl (.free rfl (.n2 rfl (.ren rfl (.free rfl (.free rfl (.free ((hj 30).1 rfl) (.j16 31 hj rfl (.j16 47 hj rfl (.j1 63 hj rfl .nil))))))))))))))))))))))) ?_
    exact EndsG.addNone (EndsG.heap rfl (h _ (ppi_S.mk (jj := 0) (by kernel_rfl) (.c16 rfl (.c2 rfl (.c1 rfl (.f1 hj (.c8 rfl (.c2 rfl (.f1 hj (.c16 rfl (.c16 rfl (.c1 rfl .nil)))))))))))))
  | succ M =>
    refine EndsG.renumS (X := [_, _, _]) (R := [(.some (.cells [(I (xs.getD ii s0).x), (I (xs.getD ii s0).y), (I (xs.getD ii s0).g), (I (xs.getD ii s0).p)] 32 .var)), some (.cells cs0 32 .row)]) (ids := [12, 11]) (m := ppi_K) rfl rfl (by kernel_rfl) (.cons rfl (.plain rfl) (.cons rfl (.plain hca) .nil)) (.j1 0 hj rfl (.ren rfl (.j4 2 hj rfl (.j1 6 hj rfl (.ren rfl (.j1 8 hj rfl (.ren rfl (.j8 10 hj rfl (.j1 18 hj rfl (.free ((hj 19).1 rfl) (.j1 20 hj rfl (.ren rfl (.free rfl (.free rfl (.free rfl (.n2 rfl (.ren rfl (.free rfl (.free rfl (.free ((hj 30).1 rfl) (.j16 31 hj rfl (.j16 47 hj rfl (.j1 63 hj rfl .nil))))))))))))))))))))))) ?_
    exact EndsG.heap rfl (h _ (ppi_S.mk (jj := 0) (by kernel_rfl) (.c16 rfl (.c2 rfl (.c1 rfl (.f1 hj (.c8 rfl (.c2 rfl (.f1 hj (.c16 rfl (.c16 rfl (.c1 rfl .nil))))))))))))
theorem pp_out (xs ys : List Sr) (c e c2 e2 : Nat) (u u2 : Use) {KK : List It} {v' : Value} {A' : Heap} (hx : xs.length ≤ 16) (hy : ys.length ≤ 16) (ho : (fstI [chkP xs, chkP ys] != 0) = false) (hend : ∀ bx : Option ARow, ∀ ls, pp_SE xs ys c e c2 e2 u u2 xs.length ls → EndsG Tryz.prog 8 Tryz.f55 (n8 [(rS xs e u), (rS ys e2 u2)]) v' A' (KK) ls ((n8 [(rS xs e u), (rS ys e2 u2)]) ++ [bx, (rwA 32 (reL reP xs ys xs.length).length (srs (reL reP xs ys xs.length)))])) : ∀ dd ii, ii + dd = xs.length → ∀ bx : Option ARow, ∀ ls, pp_S xs ys c e c2 e2 u u2 ii ls → EndsG Tryz.prog 8 Tryz.f55 (n8 [(rS xs e u), (rS ys e2 u2)]) v' A' (.code (round 0 (bodyOf 55)) :: .inLoop (round 0 (bodyOf 55)) :: .inBlock 0 :: KK) ls ((n8 [(rS xs e u), (rS ys e2 u2)]) ++ [bx, (rwA 32 (reL reP xs ys ii).length (srs (reL reP xs ys ii)))]) := by
  intro dd
  induction dd with
  | zero =>
    rintro ii hjj bx ls ⟨f, rfl, hj⟩
    have hjn : ii = xs.length := by omega
    subst hjn
    have hr := ppx_p0 (f 0) (f 2) (f 3) (f 4) (f 5) (f 6) (f 8) (f 9) (f 10) (f 11) (f 12) (f 13) (f 14) (f 15) (f 16) (f 17) (f 18) (f 19) (f 20) (f 24) (f 25) (f 26) (f 27) (f 28) (f 29) (f 30) (f 31) (f 32) (f 33) (f 34) (f 35) (f 36) (f 37) (f 38) (f 39) (f 40) (f 41) (f 42) (f 43) (f 44) (f 45) (f 46) (f 47) (f 48) (f 49) (f 50) (f 51) (f 52) (f 53) (f 54) (f 55) (f 56) (f 57) (f 58) (f 59) (f 60) (f 61) (f 62) (f 63) (xs.length) c (ys.length) c2 ((rS xs e u)) ((rS ys e2 u2)) ((chkP xs)) ((chkP ys)) ((fstI [chkP xs, chkP ys])) ((xs.length : Int)) ((svA 11 (reL reP xs ys xs.length).length)) ((rwA 32 (reL reP xs ys xs.length).length (srs (reL reP xs ys xs.length)))) (bx) (0) ((xs.getD xs.length s0).x) ((xs.getD xs.length s0).y) ((xs.getD xs.length s0).g) ((xs.getD xs.length s0).p) (decide_eq_false (by first | omega | (simp; omega)))
    refine EndsG.run (k := [.code (round 0 (bodyOf 55)), .inLoop (round 0 (bodyOf 55)), .inBlock 0]) (kk := KK) prog_ok envM_ok hr ?_
    exact hend _ _ (pp_SE.mk (ii := xs.length) (by kernel_rfl) (.f1 hj (.c1 rfl (.f4 hj (.f1 hj (.no rfl (svA_nb _ _) (.f8 hj (.f4 hj (.f1 hj (.c4 rfl (.f16 hj (.f16 hj (.f4 hj (.f2 hj (.f1 hj .nil)))))))))))))))
  | succ dd ih =>
    rintro ii hjj bx ls ⟨f, rfl, hj⟩
    have hii : ii < xs.length := by omega
    refine EndsG.seqO (by kernel_rfl) ?_
    refine EndsG.run (k := [.code (codeL (round 0 (bodyOf 55)))]) prog_ok envM_ok (pph0_p0 (f 0) (f 2) (f 3) (f 4) (f 5) (f 6) (f 8) (f 9) (f 10) (f 11) (f 12) (f 13) (f 14) (f 15) (f 16) (f 17) (f 18) (f 19) (f 20) (f 24) (f 25) (f 26) (f 27) (f 28) (f 29) (f 30) (f 31) (f 32) (f 33) (f 34) (f 35) (f 36) (f 37) (f 38) (f 39) (f 40) (f 41) (f 42) (f 43) (f 44) (f 45) (f 46) (f 47) (f 48) (f 49) (f 50) (f 51) (f 52) (f 53) (f 54) (f 55) (f 56) (f 57) (f 58) (f 59) (f 60) (f 61) (f 62) (f 63) (xs.length) c (ys.length) c2 ((rS xs e u)) ((rS ys e2 u2)) ((chkP xs)) ((chkP ys)) ((fstI [chkP xs, chkP ys])) ((ii : Int)) ((svA 11 (reL reP xs ys ii).length)) ((rwA 32 (reL reP xs ys ii).length (srs (reL reP xs ys ii)))) (bx) (ii * 4) ((xs.getD ii s0).x) ((xs.getD ii s0).y) ((xs.getD ii s0).g) ((xs.getD ii s0).p) (ix37 hii) (ld32 rfl hii) (decide_eq_true (by first | omega | (simp; omega)))) ?_
    refine EndsG.seqO (by kernel_rfl) ?_
    refine EndsG.run (k := [.code (codeL (codeR (round 0 (bodyOf 55))))]) prog_ok envM_ok (pph1_p0 (f 0) (f 2) (f 3) (f 4) (f 5) (f 6) (f 8) (f 9) (f 10) (f 11) (f 12) (f 13) (f 14) (f 15) (f 16) (f 17) (f 18) (f 19) (f 20) (f 24) (f 25) (f 26) (f 27) (f 28) (f 29) (f 30) (f 31) (f 32) (f 33) (f 34) (f 35) (f 36) (f 37) (f 38) (f 39) (f 40) (f 41) (f 42) (f 43) (f 44) (f 45) (f 46) (f 47) (f 48) (f 49) (f 50) (f 51) (f 52) (f 53) (f 54) (f 55) (f 56) (f 57) (f 58) (f 59) (f 60) (f 61) (f 62) (f 63) (xs.length) c (ys.length) c2 ((rS xs e u)) ((rS ys e2 u2)) ((chkP xs)) ((chkP ys)) ((fstI [chkP xs, chkP ys])) ((ii : Int)) ((svA 11 (reL reP xs ys ii).length)) ((rwA 32 (reL reP xs ys ii).length (srs (reL reP xs ys ii)))) (bx) (ii * 4) ((xs.getD ii s0).x) ((xs.getD ii s0).y) ((xs.getD ii s0).g) ((xs.getD ii s0).p) (ix37 hii) (ld32 rfl hii) (decide_eq_true (by first | omega | (simp; omega)))) ?_
    refine EndsG.seqO (by kernel_rfl) ?_
    refine EndsG.block (B := (codeB (codeL (codeR (codeR (round 0 (bodyOf 55))))))) (id := 1) (by kernel_rfl) ?_
    refine EndsG.seqO (by kernel_rfl) ?_
    refine EndsG.run (k := [.code (codeL (codeB (codeL (codeR (codeR (round 0 (bodyOf 55)))))))]) prog_ok envM_ok (pph2_p0 (f 0) (f 2) (f 3) (f 4) (f 5) (f 6) (f 8) (f 9) (f 10) (f 11) (f 12) (f 13) (f 14) (f 15) (f 16) (f 17) (f 18) (f 19) (f 20) (f 24) (f 25) (f 26) (f 27) (f 28) (f 29) (f 30) (f 31) (f 32) (f 33) (f 34) (f 35) (f 36) (f 37) (f 38) (f 39) (f 40) (f 41) (f 42) (f 43) (f 44) (f 45) (f 46) (f 47) (f 48) (f 49) (f 50) (f 51) (f 52) (f 53) (f 54) (f 55) (f 56) (f 57) (f 58) (f 59) (f 60) (f 61) (f 62) (f 63) (xs.length) c (ys.length) c2 ((rS xs e u)) ((rS ys e2 u2)) ((chkP xs)) ((chkP ys)) ((fstI [chkP xs, chkP ys])) ((ii : Int)) ((svA 11 (reL reP xs ys ii).length)) ((rwA 32 (reL reP xs ys ii).length (srs (reL reP xs ys ii)))) (bx) (ii * 4) ((xs.getD ii s0).x) ((xs.getD ii s0).y) ((xs.getD ii s0).g) ((xs.getD ii s0).p) (ix37 hii) (ld32 rfl hii) (decide_eq_true (by first | omega | (simp; omega)))) ?_
    refine EndsG.seqO (by kernel_rfl) ?_
    refine EndsG.run (k := [.code (codeL (codeR (codeB (codeL (codeR (codeR (round 0 (bodyOf 55))))))))]) prog_ok envM_ok (pph3_p0 (f 0) (f 2) (f 3) (f 4) (f 5) (f 6) (f 8) (f 9) (f 10) (f 11) (f 12) (f 13) (f 14) (f 15) (f 16) (f 17) (f 18) (f 19) (f 20) (f 24) (f 25) (f 26) (f 27) (f 28) (f 29) (f 30) (f 31) (f 32) (f 33) (f 34) (f 35) (f 36) (f 37) (f 38) (f 39) (f 40) (f 41) (f 42) (f 43) (f 44) (f 45) (f 46) (f 47) (f 48) (f 49) (f 50) (f 51) (f 52) (f 53) (f 54) (f 55) (f 56) (f 57) (f 58) (f 59) (f 60) (f 61) (f 62) (f 63) (xs.length) c (ys.length) c2 ((rS xs e u)) ((rS ys e2 u2)) ((chkP xs)) ((chkP ys)) ((fstI [chkP xs, chkP ys])) ((ii : Int)) ((svA 11 (reL reP xs ys ii).length)) ((rwA 32 (reL reP xs ys ii).length (srs (reL reP xs ys ii)))) (bx) (ii * 4) ((xs.getD ii s0).x) ((xs.getD ii s0).y) ((xs.getD ii s0).g) ((xs.getD ii s0).p) (ix37 hii) (ld32 rfl hii) (decide_eq_true (by first | omega | (simp; omega)))) ?_
    refine EndsG.blockLoop (B := (round 2 (bodyOf 55))) (id := 2) (by kernel_rfl) ?_
    refine pp_ent xs ys c e c2 e2 u u2 ii (reL reP xs ys ii).length (srs (reL reP xs ys ii)) (srs_atoms _) _ f hj (fun ls hls => ?_)
    refine ppi_go xs ys c e c2 e2 u u2 ii (reL reP xs ys ii).length (srs (reL reP xs ys ii)) hx hy ho (srs_len _) (srs_atoms _) (reL_len16 hx hy (by omega)) hii ?_ ys.length 0 (Nat.zero_add _) ls hls
    rintro ls ⟨f, rfl, hj⟩
    refine EndsG.inBlock ?_
    have ht0 := ppt0_p0 (f 0) (f 2) (f 3) (f 4) (f 5) (f 6) (f 8) (f 10) (f 11) (f 12) (f 13) (f 14) (f 15) (f 16) (f 17) (f 18) (f 19) (f 20) (f 24) (f 25) (f 26) (f 29) (f 30) (f 31) (f 32) (f 33) (f 34) (f 35) (f 36) (f 37) (f 38) (f 39) (f 40) (f 41) (f 42) (f 43) (f 44) (f 45) (f 46) (f 47) (f 48) (f 49) (f 50) (f 51) (f 52) (f 53) (f 54) (f 55) (f 56) (f 57) (f 58) (f 59) (f 60) (f 61) (f 62) (f 63) (xs.length) c (ys.length) c2 ((rS xs e u)) ((rS ys e2 u2)) ((chkP xs)) ((chkP ys)) ((fstI [chkP xs, chkP ys])) ((ii : Int)) ((xs.getD ii s0).x) ((xs.getD ii s0).y) ((xs.getD ii s0).g) ((xs.getD ii s0).p) ((svA 11 ((reL reP xs ys ii).length + ys.length))) ((rwA 32 ((reL reP xs ys ii).length + ys.length) (srs (reL reP xs ys ii) ++ srs ((ys.take ys.length).map (reP (xs.getD ii s0))))))
    try rw [wrap_succ' (by omega)] at ht0
    refine EndsG.run (k := [.code (codeR (codeR (codeR (round 0 (bodyOf 55)))))]) prog_ok envM_ok ht0 ?_
    refine EndsG.again ?_
    have e1 : (reL reP xs ys (ii + 1)).length = (reL reP xs ys ii).length + ys.length := reL_len_s reP xs ys ii
    have e2 : srs (reL reP xs ys (ii + 1)) = srs (reL reP xs ys ii) ++ srs ((ys.take ys.length).map (reP (xs.getD ii s0))) := reL_srs_s reP xs ys ii
    refine EndsG.rows (R' := [(.some (.cells [(I (xs.getD ii s0).x), (I (xs.getD ii s0).y), (I (xs.getD ii s0).g), (I (xs.getD ii s0).p)] 32 .var)), (rwA 32 (reL reP xs ys (ii + 1)).length (srs (reL reP xs ys (ii + 1))))]) (by rw [e1, e2]) ?_
    exact ih (ii + 1) (by omega) _ _ (pp_S.mk (ii := (ii + 1)) (by unfold pp_b; rw [e1]; kernel_rfl) (.f1 hj (.c1 rfl (.f4 hj (.f1 hj (.no rfl (svA_nb _ _) (.f1 hj (.c1 rfl (.f8 hj (.f2 hj (.f1 hj (.c2 rfl (.c1 rfl (.f2 hj (.f1 hj (.c2 rfl (.f16 hj (.f8 hj (.f4 hj (.f2 hj (.c1 rfl (.f4 hj .nil))))))))))))))))))))))
theorem pp_says_e (xs ys : List Sr) (c e c2 e2 : Nat) (u u2 : Use) {v' : Value} {A' : Heap} (hx : xs.length ≤ 16) (hy : ys.length ≤ 16) (ho : (fstI [chkP xs, chkP ys] != 0) = false)(k : Int) (hs : ∀ bx, SaysAt Tryz.prog 8 29 [svA 11 (reL reP xs ys xs.length).length] (n8 [(rS xs e u), (rS ys e2 u2), bx, (rwA 32 (reL reP xs ys xs.length).length (srs (reL reP xs ys xs.length)))]) (I k) ((n8 [(rS xs e u), (rS ys e2 u2), bx, (rwA 32 (reL reP xs ys xs.length).length (srs (reL reP xs ys xs.length)))]) ++ [])) (hk : (k != 0) = true)  (hgc : ∀ bx : Option ARow, aGC (n8 [(rS xs e u), (rS ys e2 u2)]) (.tuple #[(.slice .none 0 0), I k]) ((n8 [(rS xs e u), (rS ys e2 u2)]) ++ [bx, (rwA 32 (reL reP xs ys xs.length).length (srs (reL reP xs ys xs.length)))]) = (v', A')) : SaysAt Tryz.prog 8 55 [sl 8 0 xs.length c, sl 9 0 ys.length c2] (n8 [(rS xs e u), (rS ys e2 u2)]) v' A' := by
  refine EndsG.says prog_ok Tryz.func55 (c := bodyOf 55) (by kernel_rfl) (by kernel_rfl) ?_
  refine EndsG.seqO (by kernel_rfl) ?_
  refine EndsG.run (k := [.code (codeL (bodyOf 55))]) prog_ok envM_ok (ppq0_p0 (xs.length) c (ys.length) c2 ((rS xs e u)) ((rS ys e2 u2)) ((chkP xs)) ((chkP ys)) ((fstI [chkP xs, chkP ys])) (fun lim A hA => kenvM_29_8 ⟨xs, c, e, u⟩ (by show xs.length ≤ 1000; omega) lim A (by rw [hA]; rfl)) (fun lim A hA => kenvM_29_9 ⟨ys, c2, e2, u2⟩ (by show ys.length ≤ 1000; omega) lim A (by rw [hA]; rfl)) (fun lim A hA => kenvM_84_10 ⟨[chkP xs, chkP ys], 2, 27, .row⟩ (show (2 : Nat) ≤ 1000 by decide) lim A (by rw [hA]; rfl)) (ho)) ?_
  refine EndsG.seqO (by kernel_rfl) ?_
  refine EndsG.run (k := [.code (codeL (codeR (bodyOf 55)))]) prog_ok envM_ok (ppq1_p0 (xs.length) c (ys.length) c2 ((rS xs e u)) ((rS ys e2 u2)) ((chkP xs)) ((chkP ys)) ((fstI [chkP xs, chkP ys])) (fun lim A hA => kenvM_29_8 ⟨xs, c, e, u⟩ (by show xs.length ≤ 1000; omega) lim A (by rw [hA]; rfl)) (fun lim A hA => kenvM_29_9 ⟨ys, c2, e2, u2⟩ (by show ys.length ≤ 1000; omega) lim A (by rw [hA]; rfl)) (fun lim A hA => kenvM_84_10 ⟨[chkP xs, chkP ys], 2, 27, .row⟩ (show (2 : Nat) ≤ 1000 by decide) lim A (by rw [hA]; rfl)) (ho)) ?_
  refine EndsG.seqO (by kernel_rfl) ?_
  refine EndsG.run (k := [.code (codeL (codeR (codeR (bodyOf 55))))]) prog_ok envM_ok (ppq2_p0 (xs.length) c (ys.length) c2 ((rS xs e u)) ((rS ys e2 u2)) ((chkP xs)) ((chkP ys)) ((fstI [chkP xs, chkP ys])) (fun lim A hA => kenvM_29_8 ⟨xs, c, e, u⟩ (by show xs.length ≤ 1000; omega) lim A (by rw [hA]; rfl)) (fun lim A hA => kenvM_29_9 ⟨ys, c2, e2, u2⟩ (by show ys.length ≤ 1000; omega) lim A (by rw [hA]; rfl)) (fun lim A hA => kenvM_84_10 ⟨[chkP xs, chkP ys], 2, 27, .row⟩ (show (2 : Nat) ≤ 1000 by decide) lim A (by rw [hA]; rfl)) (ho)) ?_
  refine EndsG.seqO (by kernel_rfl) ?_
  refine EndsG.seqO (by kernel_rfl) ?_
  refine EndsG.run (k := [.code (codeL (codeL (codeR (codeR (codeR (bodyOf 55))))))]) prog_ok envM_ok (ppq3_p0 (xs.length) c (ys.length) c2 ((rS xs e u)) ((rS ys e2 u2)) ((chkP xs)) ((chkP ys)) ((fstI [chkP xs, chkP ys])) (fun lim A hA => kenvM_29_8 ⟨xs, c, e, u⟩ (by show xs.length ≤ 1000; omega) lim A (by rw [hA]; rfl)) (fun lim A hA => kenvM_29_9 ⟨ys, c2, e2, u2⟩ (by show ys.length ≤ 1000; omega) lim A (by rw [hA]; rfl)) (fun lim A hA => kenvM_84_10 ⟨[chkP xs, chkP ys], 2, 27, .row⟩ (show (2 : Nat) ≤ 1000 by decide) lim A (by rw [hA]; rfl)) (ho)) ?_
  refine EndsG.blockLoop (B := (round 0 (bodyOf 55))) (id := 0) (by kernel_rfl) ?_
  refine EndsG.renumS (X := [_]) (R := []) (ids := []) (m := .no :: .ren :: .no :: .no :: .no :: .no :: .no :: .ren :: .no :: .no :: .no :: .no :: .no :: .no :: .no :: .no :: .no :: .no :: .no :: .free :: .no :: .ren :: .free :: .free :: .free :: .no :: .no :: .no :: .no :: .no :: .free :: .no :: .no :: .no :: .no :: .no :: .no :: .no :: .no :: .no :: .no :: .no :: .no :: .no :: .no :: .no :: .no :: .no :: .no :: .no :: .no :: .no :: .no :: .no :: .no :: .no :: .no :: .no :: .no :: .no :: .no :: .no :: .no :: .no :: []) rfl rfl (by kernel_rfl) .nil (.no rfl (.ren rfl (.n4 rfl (.no rfl (.ren rfl (.n8 rfl (.n2 rfl (.no rfl (.free rfl (.no rfl (.ren rfl (.free rfl (.free rfl (.free rfl (.n4 rfl (.no rfl (.free rfl (.n16 rfl (.n16 rfl (.no rfl .nil)))))))))))))))))))) ?_
  refine EndsG.addNone (EndsG.addNone (EndsG.heap (B := (n8 [(rS xs e u), (rS ys e2 u2)]) ++ [none, (rwA 32 (reL reP xs ys 0).length (srs (reL reP xs ys 0)))]) rfl ?_))
  refine pp_out xs ys c e c2 e2 u u2 hx hy ho ?_ xs.length 0 (Nat.zero_add _) _ _ (pp_S.mk (ii := 0) (by kernel_rfl) (.c16 rfl (.c16 rfl (.c16 rfl (.c16 rfl .nil)))))
  rintro bx ls ⟨f, rfl, hj⟩
  have hr := ppZe_p0 (f 0) (f 2) (f 3) (f 4) (f 5) (f 6) (f 8) (f 9) (f 10) (f 11) (f 12) (f 13) (f 14) (f 15) (f 16) (f 17) (f 18) (f 19) (f 20) (f 23) (f 24) (f 25) (f 26) (f 27) (f 28) (f 29) (f 30) (f 31) (f 32) (f 33) (f 34) (f 35) (f 36) (f 37) (f 38) (f 39) (f 40) (f 41) (f 42) (f 43) (f 44) (f 45) (f 46) (f 47) (f 48) (f 49) (f 50) (f 51) (f 52) (f 53) (f 54) (f 55) (f 56) (f 57) (f 58) (f 59) (f 60) (f 61) (f 62) (f 63) (xs.length) c (ys.length) c2 ((rS xs e u)) ((rS ys e2 u2)) ((chkP xs)) ((chkP ys)) ((fstI [chkP xs, chkP ys])) ((svA 11 (reL reP xs ys xs.length).length)) ((rwA 32 (reL reP xs ys xs.length).length (srs (reL reP xs ys xs.length)))) (bx) ([⟨29, [svA 11 (reL reP xs ys xs.length).length], (n8 [(rS xs e u), (rS ys e2 u2), bx, (rwA 32 (reL reP xs ys xs.length).length (srs (reL reP xs ys xs.length)))]), I k, []⟩]) (k) (fun lim A hA => by subst hA; exact call1 (c := ⟨29, _, _, _, []⟩) rfl) (hk)
  exact EndsG.ret (X := [_, _]) (v := .tuple #[(.slice .none 0 0), I k]) prog_ok (Env.calls_ok envM_ok (fun c hc => by obtain rfl := List.mem_singleton.1 hc; exact hs bx)) hr rfl (by kernel_rfl) (hgc bx)
theorem pp_says_o (xs ys : List Sr) (c e c2 e2 : Nat) (u u2 : Use) {v' : Value} {A' : Heap} (hx : xs.length ≤ 16) (hy : ys.length ≤ 16) (ho : (fstI [chkP xs, chkP ys] != 0) = false)(k : Int) (hs : ∀ bx, SaysAt Tryz.prog 8 29 [svA 11 (reL reP xs ys xs.length).length] (n8 [(rS xs e u), (rS ys e2 u2), bx, (rwA 32 (reL reP xs ys xs.length).length (srs (reL reP xs ys xs.length)))]) (I k) ((n8 [(rS xs e u), (rS ys e2 u2), bx, (rwA 32 (reL reP xs ys xs.length).length (srs (reL reP xs ys xs.length)))]) ++ [])) (hk : (k != 0) = false)  (hgc : ∀ bx : Option ARow, aGC (n8 [(rS xs e u), (rS ys e2 u2)]) (.tuple #[(svA 11 (reL reP xs ys xs.length).length), (I 0)]) ((n8 [(rS xs e u), (rS ys e2 u2)]) ++ [bx, (rwA 32 (reL reP xs ys xs.length).length (srs (reL reP xs ys xs.length)))]) = (v', A')) : SaysAt Tryz.prog 8 55 [sl 8 0 xs.length c, sl 9 0 ys.length c2] (n8 [(rS xs e u), (rS ys e2 u2)]) v' A' := by
  refine EndsG.says prog_ok Tryz.func55 (c := bodyOf 55) (by kernel_rfl) (by kernel_rfl) ?_
  refine EndsG.seqO (by kernel_rfl) ?_
  refine EndsG.run (k := [.code (codeL (bodyOf 55))]) prog_ok envM_ok (ppq0_p0 (xs.length) c (ys.length) c2 ((rS xs e u)) ((rS ys e2 u2)) ((chkP xs)) ((chkP ys)) ((fstI [chkP xs, chkP ys])) (fun lim A hA => kenvM_29_8 ⟨xs, c, e, u⟩ (by show xs.length ≤ 1000; omega) lim A (by rw [hA]; rfl)) (fun lim A hA => kenvM_29_9 ⟨ys, c2, e2, u2⟩ (by show ys.length ≤ 1000; omega) lim A (by rw [hA]; rfl)) (fun lim A hA => kenvM_84_10 ⟨[chkP xs, chkP ys], 2, 27, .row⟩ (show (2 : Nat) ≤ 1000 by decide) lim A (by rw [hA]; rfl)) (ho)) ?_
  refine EndsG.seqO (by kernel_rfl) ?_
  refine EndsG.run (k := [.code (codeL (codeR (bodyOf 55)))]) prog_ok envM_ok (ppq1_p0 (xs.length) c (ys.length) c2 ((rS xs e u)) ((rS ys e2 u2)) ((chkP xs)) ((chkP ys)) ((fstI [chkP xs, chkP ys])) (fun lim A hA => kenvM_29_8 ⟨xs, c, e, u⟩ (by show xs.length ≤ 1000; omega) lim A (by rw [hA]; rfl)) (fun lim A hA => kenvM_29_9 ⟨ys, c2, e2, u2⟩ (by show ys.length ≤ 1000; omega) lim A (by rw [hA]; rfl)) (fun lim A hA => kenvM_84_10 ⟨[chkP xs, chkP ys], 2, 27, .row⟩ (show (2 : Nat) ≤ 1000 by decide) lim A (by rw [hA]; rfl)) (ho)) ?_
  refine EndsG.seqO (by kernel_rfl) ?_
  refine EndsG.run (k := [.code (codeL (codeR (codeR (bodyOf 55))))]) prog_ok envM_ok (ppq2_p0 (xs.length) c (ys.length) c2 ((rS xs e u)) ((rS ys e2 u2)) ((chkP xs)) ((chkP ys)) ((fstI [chkP xs, chkP ys])) (fun lim A hA => kenvM_29_8 ⟨xs, c, e, u⟩ (by show xs.length ≤ 1000; omega) lim A (by rw [hA]; rfl)) (fun lim A hA => kenvM_29_9 ⟨ys, c2, e2, u2⟩ (by show ys.length ≤ 1000; omega) lim A (by rw [hA]; rfl)) (fun lim A hA => kenvM_84_10 ⟨[chkP xs, chkP ys], 2, 27, .row⟩ (show (2 : Nat) ≤ 1000 by decide) lim A (by rw [hA]; rfl)) (ho)) ?_
  refine EndsG.seqO (by kernel_rfl) ?_
  refine EndsG.seqO (by kernel_rfl) ?_
  refine EndsG.run (k := [.code (codeL (codeL (codeR (codeR (codeR (bodyOf 55))))))]) prog_ok envM_ok (ppq3_p0 (xs.length) c (ys.length) c2 ((rS xs e u)) ((rS ys e2 u2)) ((chkP xs)) ((chkP ys)) ((fstI [chkP xs, chkP ys])) (fun lim A hA => kenvM_29_8 ⟨xs, c, e, u⟩ (by show xs.length ≤ 1000; omega) lim A (by rw [hA]; rfl)) (fun lim A hA => kenvM_29_9 ⟨ys, c2, e2, u2⟩ (by show ys.length ≤ 1000; omega) lim A (by rw [hA]; rfl)) (fun lim A hA => kenvM_84_10 ⟨[chkP xs, chkP ys], 2, 27, .row⟩ (show (2 : Nat) ≤ 1000 by decide) lim A (by rw [hA]; rfl)) (ho)) ?_
  refine EndsG.blockLoop (B := (round 0 (bodyOf 55))) (id := 0) (by kernel_rfl) ?_
  refine EndsG.renumS (X := [_]) (R := []) (ids := []) (m := .no :: .ren :: .no :: .no :: .no :: .no :: .no :: .ren :: .no :: .no :: .no :: .no :: .no :: .no :: .no :: .no :: .no :: .no :: .no :: .free :: .no :: .ren :: .free :: .free :: .free :: .no :: .no :: .no :: .no :: .no :: .free :: .no :: .no :: .no :: .no :: .no :: .no :: .no :: .no :: .no :: .no :: .no :: .no :: .no :: .no :: .no :: .no :: .no :: .no :: .no :: .no :: .no :: .no :: .no :: .no :: .no :: .no :: .no :: .no :: .no :: .no :: .no :: .no :: .no :: []) rfl rfl (by kernel_rfl) .nil (.no rfl (.ren rfl (.n4 rfl (.no rfl (.ren rfl (.n8 rfl (.n2 rfl (.no rfl (.free rfl (.no rfl (.ren rfl (.free rfl (.free rfl (.free rfl (.n4 rfl (.no rfl (.free rfl (.n16 rfl (.n16 rfl (.no rfl .nil)))))))))))))))))))) ?_
  refine EndsG.addNone (EndsG.addNone (EndsG.heap (B := (n8 [(rS xs e u), (rS ys e2 u2)]) ++ [none, (rwA 32 (reL reP xs ys 0).length (srs (reL reP xs ys 0)))]) rfl ?_))
  refine pp_out xs ys c e c2 e2 u u2 hx hy ho ?_ xs.length 0 (Nat.zero_add _) _ _ (pp_S.mk (ii := 0) (by kernel_rfl) (.c16 rfl (.c16 rfl (.c16 rfl (.c16 rfl .nil)))))
  rintro bx ls ⟨f, rfl, hj⟩
  have hr := ppZo_p0 (f 0) (f 2) (f 3) (f 4) (f 5) (f 6) (f 8) (f 9) (f 10) (f 11) (f 12) (f 13) (f 14) (f 15) (f 16) (f 17) (f 18) (f 19) (f 20) (f 23) (f 24) (f 25) (f 26) (f 27) (f 28) (f 29) (f 30) (f 31) (f 32) (f 33) (f 34) (f 35) (f 36) (f 37) (f 38) (f 39) (f 40) (f 41) (f 42) (f 43) (f 44) (f 45) (f 46) (f 47) (f 48) (f 49) (f 50) (f 51) (f 52) (f 53) (f 54) (f 55) (f 56) (f 57) (f 58) (f 59) (f 60) (f 61) (f 62) (f 63) (xs.length) c (ys.length) c2 ((rS xs e u)) ((rS ys e2 u2)) ((chkP xs)) ((chkP ys)) ((fstI [chkP xs, chkP ys])) ((svA 11 (reL reP xs ys xs.length).length)) ((rwA 32 (reL reP xs ys xs.length).length (srs (reL reP xs ys xs.length)))) (bx) ([⟨29, [svA 11 (reL reP xs ys xs.length).length], (n8 [(rS xs e u), (rS ys e2 u2), bx, (rwA 32 (reL reP xs ys xs.length).length (srs (reL reP xs ys xs.length)))]), I k, []⟩]) (k) (fun lim A hA => by subst hA; exact call1 (c := ⟨29, _, _, _, []⟩) rfl) (hk) (gcVA11 _ _ _ _ _)
  exact EndsG.ret (X := [_, _]) (v := .tuple #[(svA 11 (reL reP xs ys xs.length).length), (I 0)]) prog_ok (Env.calls_ok envM_ok (fun c hc => by obtain rfl := List.mem_singleton.1 hc; exact hs bx)) hr rfl (by kernel_rfl) (hgc bx)
/-
The reference's repetition by nothing: pieces.
-/
theorem rnq0_p0  (n c : Nat) (r8 : Option ARow) : Runs Tryz.prog envC2 9 [.code (codeL (bodyOf 57))] [sl 8 0 n c, .slice none 0 0, U, U, U, U, U, U, U, U, U, U, U, U, U, U, U, U, U, U, U, U, U, U, U, U, U, U, U, U, U, U, U, U, U, U, U, U, U, U, U, U, U, U, U, U, U, U, U, U, U, U, U, U, U, U, U, U, U, U, U, U, U, U, U, U, U, U, U, U, U, U, U, U, U, U, U] (n8 [r8]) ([(sl 8 0 n c), (.slice .none 0 0), U, U, (.slice .none 0 0), (I 0), U, U, U, U, U, U, U, U, U, U, U, U, U, U, U, U, U, U, U, U, U, U, U, U, U, U, U, U, U, U, U, U, U, U, U, U, U, U, U, U, U, U, U, U, U, U, U, U, U, U, U, U, U, U, U, U, U, U, U, U, U, U, U, U, U, U, U, U, U, U, U], (n8 [r8]), none) :=
  Runs.by (n := 1000) (fid := 57) (os := []) (os' := []) (by kernel_rfl) (ObsOK.nil)
theorem rnq1_p0  (n c : Nat) (r8 : Option ARow) : Runs Tryz.prog envC2 9 [.code (codeL (codeR (bodyOf 57)))] [(sl 8 0 n c), (.slice .none 0 0), U, U, (.slice .none 0 0), (I 0), U, U, U, U, U, U, U, U, U, U, U, U, U, U, U, U, U, U, U, U, U, U, U, U, U, U, U, U, U, U, U, U, U, U, U, U, U, U, U, U, U, U, U, U, U, U, U, U, U, U, U, U, U, U, U, U, U, U, U, U, U, U, U, U, U, U, U, U, U, U, U] (n8 [r8]) ([(sl 8 0 n c), (.slice .none 0 0), U, U, (.slice .none 0 0), (I 0), (.slice .none 0 0), U, U, U, U, U, U, U, U, U, U, U, U, U, U, U, U, U, U, U, U, U, U, U, U, U, U, U, U, U, U, U, U, U, U, U, U, U, U, U, U, U, U, U, U, U, U, U, U, U, U, U, U, U, U, U, U, U, U, U, U, U, U, U, U, U, U, U, U, U, U], (n8 [r8]), none) :=
  Runs.by (n := 1000) (fid := 57) (os := []) (os' := []) (by kernel_rfl) (ObsOK.nil)
theorem rnq2_p0  (n c : Nat) (r8 : Option ARow) : Runs Tryz.prog envC2 9 [.code (codeL (codeL (codeR (codeR (bodyOf 57)))))] [(sl 8 0 n c), (.slice .none 0 0), U, U, (.slice .none 0 0), (I 0), (.slice .none 0 0), U, U, U, U, U, U, U, U, U, U, U, U, U, U, U, U, U, U, U, U, U, U, U, U, U, U, U, U, U, U, U, U, U, U, U, U, U, U, U, U, U, U, U, U, U, U, U, U, U, U, U, U, U, U, U, U, U, U, U, U, U, U, U, U, U, U, U, U, U, U] (n8 [r8]) ([(sl 8 0 n c), (.slice .none 0 0), U, U, (.slice .none 0 0), (I 0), (.slice .none 0 0), (I 0), U, U, U, U, U, U, U, U, U, U, U, U, U, U, U, U, U, U, U, U, U, U, U, U, U, U, U, U, U, U, U, U, U, U, U, U, U, U, U, U, U, U, U, U, U, U, U, U, U, U, U, U, U, U, U, U, U, U, U, U, U, U, U, U, U, U, U, U, U], (n8 [r8]), none) :=
  Runs.by (n := 1000) (fid := 57) (os := []) (os' := []) (by kernel_rfl) (ObsOK.nil)
theorem rnA0_p0 (v2 v3 v4 v5 v8 v9 v10 v11 v12 v13 v14 v15 v16 v17 v18 v19 v20 v21 v22 v23 v24 v25 v26 v27 v28 v29 v30 v31 v32 v33 v34 v35 v36 v37 v38 v39 v40 v41 v42 v43 v44 v45 v46 v47 v48 v49 v50 v51 v52 v53 v54 v55 v56 v57 v58 v59 v60 v61 v62 v63 v64 v65 v66 v67 v68 v69 v70 v71 v72 v73 v74 v75 v76 : Value) (n c : Nat) (r8 : Option ARow) (i : Int) (f1 : decide (i < (n : Int)) = true) : Runs Tryz.prog envC2 9 [.code (round 0 (bodyOf 57))] [(sl 8 0 n c), (.slice .none 0 0), v2, v3, v4, v5, .slice none 0 0, I i, v8, v9, v10, v11, v12, v13, v14, v15, v16, v17, v18, v19, v20, v21, v22, v23, v24, v25, v26, v27, v28, v29, v30, v31, v32, v33, v34, v35, v36, v37, v38, v39, v40, v41, v42, v43, v44, v45, v46, v47, v48, v49, v50, v51, v52, v53, v54, v55, v56, v57, v58, v59, v60, v61, v62, v63, v64, v65, v66, v67, v68, v69, v70, v71, v72, v73, v74, v75, v76] (n8 [r8]) ([(sl 8 0 n c), (.slice .none 0 0), v2, v3, v4, v5, (.slice .none 0 0), (I (IntKind.i64.wrap (i + 1))), (I 0), v9, I i, (sl 8 0 n c), (I ((n : Int))), (.bool (decide (i < (n : Int)))), I i, (I (IntKind.i64.wrap (i + 1))), (I 0), (.slice .none 0 0), (I 0), (.bool false), v20, v21, v22, v23, v24, v25, v26, v27, v28, v29, v30, v31, v32, v33, v34, v35, v36, v37, v38, v39, v40, v41, v42, v43, v44, v45, v46, v47, v48, v49, v50, v51, v52, v53, v54, v55, v56, v57, v58, v59, v60, v61, v62, v63, v64, v65, v66, v67, v68, v69, v70, v71, v72, v73, v74, v75, v76], (n8 [r8]), none) :=
  Runs.by (n := 1000) (fid := 57) (os := [.br 57 28 true]) (os' := []) (by kernel_rfl) (ObsOK.cond f1 (ObsOK.nil))
theorem rnC_p0 (v2 v3 v4 v5 v8 v9 v10 v11 v12 v13 v14 v15 v16 v17 v18 v19 v20 v21 v22 v23 v24 v25 v26 v27 v28 v29 v30 v31 v32 v33 v34 v35 v36 v37 v38 v39 v40 v41 v42 v43 v44 v45 v46 v47 v48 v49 v50 v51 v52 v53 v54 v55 v56 v57 v58 v59 v60 v61 v62 v63 v64 v65 v66 v67 v68 v69 v70 v71 v72 v73 v74 v75 v76 : Value) (n c : Nat) (r8 : Option ARow) (i : Int) (f1 : decide (i < (n : Int)) = false) : Runs Tryz.prog envC2 9 [.code (round 0 (bodyOf 57)), .inLoop (round 0 (bodyOf 57)), .inBlock 0] [(sl 8 0 n c), (.slice .none 0 0), v2, v3, v4, v5, .slice none 0 0, I i, v8, v9, v10, v11, v12, v13, v14, v15, v16, v17, v18, v19, v20, v21, v22, v23, v24, v25, v26, v27, v28, v29, v30, v31, v32, v33, v34, v35, v36, v37, v38, v39, v40, v41, v42, v43, v44, v45, v46, v47, v48, v49, v50, v51, v52, v53, v54, v55, v56, v57, v58, v59, v60, v61, v62, v63, v64, v65, v66, v67, v68, v69, v70, v71, v72, v73, v74, v75, v76] (n8 [r8]) ([(sl 8 0 n c), (.slice .none 0 0), v2, v3, v4, v5, (.slice .none 0 0), I i, v8, v9, I i, (sl 8 0 n c), (I ((n : Int))), (.bool (decide (i < (n : Int)))), v14, v15, v16, v17, v18, v19, v20, v21, v22, v23, v24, v25, v26, v27, v28, v29, v30, v31, v32, v33, v34, v35, v36, v37, v38, v39, v40, v41, v42, v43, v44, v45, v46, v47, v48, v49, v50, v51, v52, v53, v54, v55, v56, v57, v58, v59, v60, v61, v62, v63, v64, v65, v66, v67, v68, v69, v70, v71, v72, v73, v74, v75, v76], (n8 [r8]), none) :=
  Runs.by (n := 1000) (fid := 57) (os := [.br 57 28 false]) (os' := []) (by kernel_rfl) (ObsOK.cond f1 (ObsOK.nil))
theorem rnZ_p0 (v2 v3 v4 v5 v7 v8 v9 v10 v11 v12 v13 v14 v15 v16 v17 v18 v19 v20 v21 v22 v23 v24 v25 v26 v27 v28 v29 v30 v31 v32 v33 v34 v35 v36 v37 v38 v39 v40 v41 v42 v43 v44 v45 v46 v47 v48 v49 v50 v51 v52 v53 v54 v55 v56 v57 v58 v59 v60 v61 v62 v63 v64 v65 v66 v67 v68 v69 v70 v71 v72 v73 v74 v75 v76 : Value) (n c : Nat) (r8 : Option ARow) (L : List CallC) (h25 : ∀ (lim : Nat) (A : Heap), A = (n8 [r8]) → Gives Tryz.prog (envC2.calls [25] L) lim 25 [.slice none 0 0] A (I 0, A)) : Runs Tryz.prog (envC2.calls [25] L) 9 [.code (codeR (codeR (codeR (bodyOf 57))))] [(sl 8 0 n c), (.slice .none 0 0), v2, v3, v4, v5, .slice none 0 0, v7, v8, v9, v10, v11, v12, v13, v14, v15, v16, v17, v18, v19, v20, v21, v22, v23, v24, v25, v26, v27, v28, v29, v30, v31, v32, v33, v34, v35, v36, v37, v38, v39, v40, v41, v42, v43, v44, v45, v46, v47, v48, v49, v50, v51, v52, v53, v54, v55, v56, v57, v58, v59, v60, v61, v62, v63, v64, v65, v66, v67, v68, v69, v70, v71, v72, v73, v74, v75, v76] (n8 [r8]) ([(sl 8 0 n c), (.slice .none 0 0), v2, v3, (.slice .none 0 0), (I 0), (.slice .none 0 0), v7, v8, (I 0), v10, v11, v12, v13, v14, v15, v16, v17, v18, v19, v20, v21, v22, v23, v24, v25, v26, v27, v28, v29, v30, v31, v32, v33, v34, v35, v36, v37, v38, v39, v40, v41, v42, v43, v44, v45, v46, v47, v48, v49, v50, v51, v52, v53, v54, v55, v56, v57, v58, v59, v60, v61, v62, v63, v64, v65, v66, v67, v68, v69, v70, (.slice .none 0 0), (I 0), (I 0), (.bool false), v75, (.slice .none 0 0)], (n8 [r8]), some .ret) :=
  Runs.by (n := 1000) (fid := 57) (os := [.opw 57 73 (I 0) (n8 [r8])]) (os' := []) (by kernel_rfl) (ObsOK.call (h25 9 (n8 [r8]) (by kernel_rfl)) (ObsOK.nil))
/-
The reference's repetition by nothing.
-/
def rn_b (xs : List Sr) (c e : Nat) (u : Use) (jj : Nat) (f : Nat → Value) : List Value := [(sl 8 0 xs.length c), (.slice .none 0 0), f 2, f 3, f 4, f 5, .slice none 0 0, I (jj : Int), f 8, f 9, f 10, f 11, f 12, f 13, f 14, f 15, f 16, f 17, f 18, f 19, f 20, f 21, f 22, f 23, f 24, f 25, f 26, f 27, f 28, f 29, f 30, f 31, f 32, f 33, f 34, f 35, f 36, f 37, f 38, f 39, f 40, f 41, f 42, f 43, f 44, f 45, f 46, f 47, f 48, f 49, f 50, f 51, f 52, f 53, f 54, f 55, f 56, f 57, f 58, f 59, f 60, f 61, f 62, f 63, f 64, f 65, f 66, f 67, f 68, f 69, f 70, f 71, f 72, f 73, f 74, f 75, f 76]
def rn_S (xs : List Sr) (c e : Nat) (u : Use) (jj : Nat) (ls : List Value) : Prop := ∃ f : Nat → Value, ls = rn_b xs c e u jj f ∧ JF [13, 19] f
theorem rn_S.mk {xs : List Sr} {c e : Nat} {u : Use} {jj : Nat} {ls : List Value} (h : ls = rn_b xs c e u jj (fun k => ls.getD k (I 0))) (hj : JL [13, 19] 0 ls) : rn_S xs c e u jj ls := ⟨_, h, hj.fn⟩
def rn_bE (xs : List Sr) (c e : Nat) (u : Use) (jj : Nat) (f : Nat → Value) : List Value := [(sl 8 0 xs.length c), (.slice .none 0 0), f 2, f 3, f 4, f 5, .slice none 0 0, f 7, f 8, f 9, f 10, f 11, f 12, f 13, f 14, f 15, f 16, f 17, f 18, f 19, f 20, f 21, f 22, f 23, f 24, f 25, f 26, f 27, f 28, f 29, f 30, f 31, f 32, f 33, f 34, f 35, f 36, f 37, f 38, f 39, f 40, f 41, f 42, f 43, f 44, f 45, f 46, f 47, f 48, f 49, f 50, f 51, f 52, f 53, f 54, f 55, f 56, f 57, f 58, f 59, f 60, f 61, f 62, f 63, f 64, f 65, f 66, f 67, f 68, f 69, f 70, f 71, f 72, f 73, f 74, f 75, f 76]
def rn_SE (xs : List Sr) (c e : Nat) (u : Use) (jj : Nat) (ls : List Value) : Prop := ∃ f : Nat → Value, ls = rn_bE xs c e u jj f ∧ JF [13, 19] f
theorem rn_SE.mk {xs : List Sr} {c e : Nat} {u : Use} {jj : Nat} {ls : List Value} (h : ls = rn_bE xs c e u jj (fun k => ls.getD k (I 0))) (hj : JL [13, 19] 0 ls) : rn_SE xs c e u jj ls := ⟨_, h, hj.fn⟩
def rn_K : List Keep := Keep.ren :: Keep.free :: Keep.no :: Keep.no :: Keep.no :: Keep.no :: Keep.free :: Keep.free :: Keep.no :: Keep.no :: Keep.no :: Keep.no :: Keep.no :: Keep.free :: Keep.no :: Keep.no :: Keep.no :: Keep.no :: Keep.no :: Keep.free :: Keep.no :: Keep.no :: Keep.no :: Keep.no :: Keep.no :: Keep.no :: Keep.no :: Keep.no :: Keep.no :: Keep.no :: Keep.no :: Keep.no :: Keep.no :: Keep.no :: Keep.no :: Keep.no :: Keep.no :: Keep.no :: Keep.no :: Keep.no :: Keep.no :: Keep.no :: Keep.no :: Keep.no :: Keep.no :: Keep.no :: Keep.no :: Keep.no :: Keep.no :: Keep.no :: Keep.no :: Keep.no :: Keep.no :: Keep.no :: Keep.no :: Keep.no :: Keep.no :: Keep.no :: Keep.no :: Keep.no :: Keep.no :: Keep.no :: Keep.no :: Keep.no :: Keep.no :: Keep.no :: Keep.no :: Keep.no :: Keep.no :: Keep.no :: Keep.no :: Keep.no :: Keep.no :: Keep.no :: Keep.no :: Keep.no :: Keep.no :: []
theorem rn_go (xs : List Sr) (c e : Nat) (u : Use) {KK : List It} {v' : Value} {A' : Heap} (hb : xs.length ≤ 1000) (hend : ∀ ls, rn_SE xs c e u xs.length ls → EndsG Tryz.prog 8 Tryz.f57 (n8 [(rS xs e u)]) v' A' (KK) ls ((n8 [(rS xs e u)]) ++ [])) : ∀ dd jj, jj + dd = xs.length → ∀ ls, rn_S xs c e u jj ls → EndsG Tryz.prog 8 Tryz.f57 (n8 [(rS xs e u)]) v' A' (.code (round 0 (bodyOf 57)) :: .inLoop (round 0 (bodyOf 57)) :: .inBlock 0 :: KK) ls ((n8 [(rS xs e u)]) ++ []) := by
  intro dd
  induction dd with
  | zero =>
    rintro jj hjj ls ⟨f, rfl, hj⟩
    have hjn : jj = xs.length := by omega
    subst hjn
    have hr := rnC_p0 (f 2) (f 3) (f 4) (f 5) (f 8) (f 9) (f 10) (f 11) (f 12) (f 13) (f 14) (f 15) (f 16) (f 17) (f 18) (f 19) (f 20) (f 21) (f 22) (f 23) (f 24) (f 25) (f 26) (f 27) (f 28) (f 29) (f 30) (f 31) (f 32) (f 33) (f 34) (f 35) (f 36) (f 37) (f 38) (f 39) (f 40) (f 41) (f 42) (f 43) (f 44) (f 45) (f 46) (f 47) (f 48) (f 49) (f 50) (f 51) (f 52) (f 53) (f 54) (f 55) (f 56) (f 57) (f 58) (f 59) (f 60) (f 61) (f 62) (f 63) (f 64) (f 65) (f 66) (f 67) (f 68) (f 69) (f 70) (f 71) (f 72) (f 73) (f 74) (f 75) (f 76) (xs.length) (c) ((rS xs e u)) ((xs.length : Int)) (decide_eq_false (by first | omega | (simp; omega)))
    refine EndsG.run (k := [.code (round 0 (bodyOf 57)), .inLoop (round 0 (bodyOf 57)), .inBlock 0]) (kk := KK) prog_ok envC2_ok hr ?_
    exact hend _ (rn_SE.mk (jj := xs.length) (by kernel_rfl) (.c2 rfl (.f4 hj (.c2 rfl (.f2 hj (.c4 rfl (.f16 hj (.f16 hj (.f16 hj (.f8 hj (.f4 hj (.f2 hj (.f1 hj .nil)))))))))))))
  | succ dd ih =>
    rintro jj hjj ls ⟨f, rfl, hj⟩
    have hlt : jj < xs.length := by omega
    have hr := rnA0_p0 (f 2) (f 3) (f 4) (f 5) (f 8) (f 9) (f 10) (f 11) (f 12) (f 13) (f 14) (f 15) (f 16) (f 17) (f 18) (f 19) (f 20) (f 21) (f 22) (f 23) (f 24) (f 25) (f 26) (f 27) (f 28) (f 29) (f 30) (f 31) (f 32) (f 33) (f 34) (f 35) (f 36) (f 37) (f 38) (f 39) (f 40) (f 41) (f 42) (f 43) (f 44) (f 45) (f 46) (f 47) (f 48) (f 49) (f 50) (f 51) (f 52) (f 53) (f 54) (f 55) (f 56) (f 57) (f 58) (f 59) (f 60) (f 61) (f 62) (f 63) (f 64) (f 65) (f 66) (f 67) (f 68) (f 69) (f 70) (f 71) (f 72) (f 73) (f 74) (f 75) (f 76) (xs.length) (c) ((rS xs e u)) ((jj : Int)) (decide_eq_true (by first | omega | (simp; omega)))
    try rw [wrap_succ' (by omega)] at hr
    refine EndsG.round prog_ok envC2_ok hr ?_
    refine EndsG.renumS (X := []) (R := []) (ids := []) (m := rn_K) rfl rfl (by kernel_rfl) .nil (.ren rfl (.free rfl (.j4 2 hj rfl (.free rfl (.free rfl (.no rfl (.j1 9 hj rfl (.n2 rfl (.no rfl (.free rfl (.n4 rfl (.no rfl (.free rfl (.j16 20 hj rfl (.j16 36 hj rfl (.j16 52 hj rfl (.j8 68 hj rfl (.j1 76 hj rfl .nil)))))))))))))))))) ?_
    exact ih (jj + 1) (by omega) _ (rn_S.mk (jj := (jj + 1)) (by kernel_rfl) (.c16 rfl (.c16 rfl (.c16 rfl (.c16 rfl (.c8 rfl (.c4 rfl (.c1 rfl .nil))))))))
theorem rn_end (xs : List Sr) (c e : Nat) (u : Use) (hb : xs.length ≤ 1000) (hs : SaysAt Tryz.prog 8 25 [.slice none 0 0] (n8 [(rS xs e u)]) (I 0) ((n8 [(rS xs e u)]) ++ [])) : ∀ ls, rn_SE xs c e u xs.length ls → EndsG Tryz.prog 8 Tryz.f57 (n8 [(rS xs e u)]) (.tuple #[.slice none 0 0, I 0]) (n8 [(rS xs e u)]) ([.code (codeR (codeR (codeR (bodyOf 57))))]) ls ((n8 [(rS xs e u)]) ++ []) := by
  rintro ls ⟨f, rfl, hj⟩
  have hr := rnZ_p0 (f 2) (f 3) (f 4) (f 5) (f 7) (f 8) (f 9) (f 10) (f 11) (f 12) (f 13) (f 14) (f 15) (f 16) (f 17) (f 18) (f 19) (f 20) (f 21) (f 22) (f 23) (f 24) (f 25) (f 26) (f 27) (f 28) (f 29) (f 30) (f 31) (f 32) (f 33) (f 34) (f 35) (f 36) (f 37) (f 38) (f 39) (f 40) (f 41) (f 42) (f 43) (f 44) (f 45) (f 46) (f 47) (f 48) (f 49) (f 50) (f 51) (f 52) (f 53) (f 54) (f 55) (f 56) (f 57) (f 58) (f 59) (f 60) (f 61) (f 62) (f 63) (f 64) (f 65) (f 66) (f 67) (f 68) (f 69) (f 70) (f 71) (f 72) (f 73) (f 74) (f 75) (f 76) (xs.length) (c) ((rS xs e u)) ([⟨25, [.slice none 0 0], (n8 [(rS xs e u)]), I 0, []⟩]) (fun lim A hA => by subst hA; exact call1 (c := ⟨25, _, _, _, []⟩) rfl)
  exact EndsG.ret (X := []) (v := .tuple #[(.slice .none 0 0), (I 0)]) prog_ok (Env.calls_ok envC2_ok (fun c hc => by obtain rfl := List.mem_singleton.1 hc; exact hs)) hr rfl (by kernel_rfl) (by kernel_rfl)
theorem rn_says (xs : List Sr) (c e : Nat) (u : Use) (hb : xs.length ≤ 1000) (hs : SaysAt Tryz.prog 8 25 [.slice none 0 0] (n8 [(rS xs e u)]) (I 0) ((n8 [(rS xs e u)]) ++ [])) : SaysAt Tryz.prog 8 57 [sl 8 0 xs.length c, .slice none 0 0] (n8 [(rS xs e u)]) (.tuple #[.slice none 0 0, I 0]) (n8 [(rS xs e u)]) := by
  refine EndsG.says prog_ok Tryz.func57 (c := bodyOf 57) (by kernel_rfl) (by kernel_rfl) ?_
  refine EndsG.seqO (by kernel_rfl) ?_
  refine EndsG.run (k := [.code (codeL (bodyOf 57))]) prog_ok (envC2_ok) (rnq0_p0 (xs.length) (c) ((rS xs e u))) ?_
  refine EndsG.seqO (by kernel_rfl) ?_
  refine EndsG.run (k := [.code (codeL (codeR (bodyOf 57)))]) prog_ok (envC2_ok) (rnq1_p0 (xs.length) (c) ((rS xs e u))) ?_
  refine EndsG.seqO (by kernel_rfl) ?_
  refine EndsG.seqO (by kernel_rfl) ?_
  refine EndsG.run (k := [.code (codeL (codeL (codeR (codeR (bodyOf 57)))))]) prog_ok (envC2_ok) (rnq2_p0 (xs.length) (c) ((rS xs e u))) ?_
  refine EndsG.blockLoop (B := (round 0 (bodyOf 57))) (id := 0) (by kernel_rfl) ?_
  exact rn_go xs c e u hb (rn_end xs c e u hb hs) xs.length 0 (Nat.zero_add _) _ (rn_S.mk (jj := 0) (by kernel_rfl) (.c16 rfl (.c16 rfl (.c16 rfl (.c16 rfl (.c8 rfl (.c4 rfl (.c1 rfl .nil))))))))
/-
ArrayRepeats, its calls told.
-/
abbrev wR3 (n x y : Int) : Option ARow := some (.cells [I n, I x, I y] 92 .var)
abbrev wK (k1 k2 : Int) : Option ARow := some (.cells [I k1, I k2] 3 .row)
noncomputable abbrev eR (L : List CallC) : Env := envM.calls [16, 20, 23, 25, 54, 55, 56, 57, 58] L
abbrev FrA (L : List CallC) (X : Heap) (f : FuncId) (args : List Value) (v : Value) (t : Option ARow) : Prop := ∀ (lim : Nat) (A : Heap), A = X → Gives Tryz.prog (eR L) lim f args A (v, A ++ [t])
abbrev FrN (L : List CallC) (X : Heap) (f : FuncId) (args : List Value) (v : Value) : Prop := ∀ (lim : Nat) (A : Heap), A = X → Gives Tryz.prog (eR L) lim f args A (v, A)
theorem re1_p0 (L : List CallC) (n x y k1 k2 o e1 e2 o2 e3 : Int) (vL vB oL oB vR vN wR wN : Value) (r8 r9 tL tB rr rn wr wn : Option ARow) (h16a : FrN L (H [r8, r9, wR3 n x y]) 16 [vL, I 5] (.bool true)) (h16b : FrN L (H [r8, r9, wR3 n x y]) 16 [vB, I 5] (.bool true)) (h20a : FrA L (H [r8, r9, wR3 n x y]) 20 [vL] (oL) tL) (h20b : FrA L (H [r8, r9, wR3 n x y, tL]) 20 [vB] (oB) tB) (h55 : FrA L (H [r8, r9, wR3 n x y, tL, tB]) 55 [oL, oB] (.tuple #[vR, I e1]) rr) (h56 : FrA L (H [r8, r9, wR3 n x y, tL, tB, rr]) 56 [I n, I x, I y] (.tuple #[vN, I e2]) rn) (h25a : FrN L (H [r8, r9, wR3 n x y, tL, tB, rr, rn]) 25 [vL] (I k1)) (h25b : FrN L (H [r8, r9, wR3 n x y, tL, tB, rr, rn]) 25 [vB] (I k2)) (h23 : FrN L (H [r8, r9, wR3 n x y, tL, tB, rr, rn, wK k1 k2]) 23 [sl 15 0 2 2] (I o)) (co : (o == 0) = true) (h57 : FrA L (H [r8, r9, wR3 n x y, tL, tB, rr, rn, wK k1 k2]) 57 [vL, vB] (.tuple #[wR, I o2]) wr) (h58 : FrA L (H [r8, r9, wR3 n x y, tL, tB, rr, rn, wK k1 k2, wr]) 58 [I n, I x, I y] (.tuple #[wN, I e3]) wn) (h54a : FrN L (H [r8, r9, wR3 n x y, tL, tB, rr, rn, wK k1 k2, wr, wn]) 54 [vR, I e1, I o2, wR] (.bool true)) (h54b : FrN L (H [r8, r9, wR3 n x y, tL, tB, rr, rn, wK k1 k2, wr, wn]) 54 [vN, I e2, I e3, wN] (.bool true)) : Gives Tryz.prog (eR L) 0 7 [vL, vB, .agg #[I n, I x, I y]] (H [r8, r9]) ((.bool true), (H [r8, r9])) :=
  Gives.by (n := 1000) (os := [.opw 7 20 (.bool true) (H [r8, r9, wR3 n x y]), .opw 7 25 (.bool true) (H [r8, r9, wR3 n x y]), .opw 7 31 oL (H [r8, r9, wR3 n x y, tL]), .opw 7 33 oB (H [r8, r9, wR3 n x y, tL, tB]), .opw 7 34 (.tuple #[vR, I e1]) (H [r8, r9, wR3 n x y, tL, tB, rr]), .opw 7 44 (.tuple #[vN, I e2]) (H [r8, r9, wR3 n x y, tL, tB, rr, rn]), .opw 7 48 (I k1) (H [r8, r9, wR3 n x y, tL, tB, rr, rn]), .opw 7 50 (I k2) (H [r8, r9, wR3 n x y, tL, tB, rr, rn]), .opw 7 52 (I o) (H [r8, r9, wR3 n x y, tL, tB, rr, rn, wK k1 k2]), .br 7 108 true, .opw 7 58 (.tuple #[wR, I o2]) (H [r8, r9, wR3 n x y, tL, tB, rr, rn, wK k1 k2, wr]), .opw 7 68 (.tuple #[wN, I e3]) (H [r8, r9, wR3 n x y, tL, tB, rr, rn, wK k1 k2, wr, wn]), .opw 7 75 (.bool true) (H [r8, r9, wR3 n x y, tL, tB, rr, rn, wK k1 k2, wr, wn]), .opw 7 81 (.bool true) (H [r8, r9, wR3 n x y, tL, tB, rr, rn, wK k1 k2, wr, wn])]) (os' := []) (by kernel_rfl) (ObsOK.call (h16a 10 (H [r8, r9, wR3 n x y]) (by kernel_rfl)) (ObsOK.call (h16b 10 (H [r8, r9, wR3 n x y]) (by kernel_rfl)) (ObsOK.call (h20a 10 (H [r8, r9, wR3 n x y]) (by kernel_rfl)) (ObsOK.call (h20b 10 (H [r8, r9, wR3 n x y, tL]) (by kernel_rfl)) (ObsOK.call (h55 10 (H [r8, r9, wR3 n x y, tL, tB]) (by kernel_rfl)) (ObsOK.call (h56 10 (H [r8, r9, wR3 n x y, tL, tB, rr]) (by kernel_rfl)) (ObsOK.call (h25a 10 (H [r8, r9, wR3 n x y, tL, tB, rr, rn]) (by kernel_rfl)) (ObsOK.call (h25b 10 (H [r8, r9, wR3 n x y, tL, tB, rr, rn]) (by kernel_rfl)) (ObsOK.call (h23 10 (H [r8, r9, wR3 n x y, tL, tB, rr, rn, wK k1 k2]) (by kernel_rfl)) (ObsOK.cond co (ObsOK.call (h57 10 (H [r8, r9, wR3 n x y, tL, tB, rr, rn, wK k1 k2]) (by kernel_rfl)) (ObsOK.call (h58 10 (H [r8, r9, wR3 n x y, tL, tB, rr, rn, wK k1 k2, wr]) (by kernel_rfl)) (ObsOK.call (h54a 10 (H [r8, r9, wR3 n x y, tL, tB, rr, rn, wK k1 k2, wr, wn]) (by kernel_rfl)) (ObsOK.call (h54b 10 (H [r8, r9, wR3 n x y, tL, tB, rr, rn, wK k1 k2, wr, wn]) (by kernel_rfl)) (ObsOK.nil)))))))))))))))
theorem re0_p0 (L : List CallC) (n x y k1 k2 o e1 e2 o2 e3 : Int) (vL vB oL oB vR vN wR wN : Value) (r8 r9 tL tB rr rn wr wn : Option ARow) (h16a : FrN L (H [r8, r9, wR3 n x y]) 16 [vL, I 5] (.bool true)) (h16b : FrN L (H [r8, r9, wR3 n x y]) 16 [vB, I 5] (.bool true)) (h20a : FrA L (H [r8, r9, wR3 n x y]) 20 [vL] (oL) tL) (h20b : FrA L (H [r8, r9, wR3 n x y, tL]) 20 [vB] (oB) tB) (h55 : FrA L (H [r8, r9, wR3 n x y, tL, tB]) 55 [oL, oB] (.tuple #[vR, I e1]) rr) (h56 : FrA L (H [r8, r9, wR3 n x y, tL, tB, rr]) 56 [I n, I x, I y] (.tuple #[vN, I e2]) rn) (h25a : FrN L (H [r8, r9, wR3 n x y, tL, tB, rr, rn]) 25 [vL] (I k1)) (h25b : FrN L (H [r8, r9, wR3 n x y, tL, tB, rr, rn]) 25 [vB] (I k2)) (h23 : FrN L (H [r8, r9, wR3 n x y, tL, tB, rr, rn, wK k1 k2]) 23 [sl 15 0 2 2] (I o)) (co : (o == 0) = false) (h58 : FrA L (H [r8, r9, wR3 n x y, tL, tB, rr, rn, wK k1 k2]) 58 [I n, I x, I y] (.tuple #[wN, I e3]) wn) (h54a : FrN L (H [r8, r9, wR3 n x y, tL, tB, rr, rn, wK k1 k2, wn]) 54 [vR, I e1, I o, .slice none 0 0] (.bool true)) (h54b : FrN L (H [r8, r9, wR3 n x y, tL, tB, rr, rn, wK k1 k2, wn]) 54 [vN, I e2, I e3, wN] (.bool true)) : Gives Tryz.prog (eR L) 0 7 [vL, vB, .agg #[I n, I x, I y]] (H [r8, r9]) ((.bool true), (H [r8, r9])) :=
  Gives.by (n := 1000) (os := [.opw 7 20 (.bool true) (H [r8, r9, wR3 n x y]), .opw 7 25 (.bool true) (H [r8, r9, wR3 n x y]), .opw 7 31 oL (H [r8, r9, wR3 n x y, tL]), .opw 7 33 oB (H [r8, r9, wR3 n x y, tL, tB]), .opw 7 34 (.tuple #[vR, I e1]) (H [r8, r9, wR3 n x y, tL, tB, rr]), .opw 7 44 (.tuple #[vN, I e2]) (H [r8, r9, wR3 n x y, tL, tB, rr, rn]), .opw 7 48 (I k1) (H [r8, r9, wR3 n x y, tL, tB, rr, rn]), .opw 7 50 (I k2) (H [r8, r9, wR3 n x y, tL, tB, rr, rn]), .opw 7 52 (I o) (H [r8, r9, wR3 n x y, tL, tB, rr, rn, wK k1 k2]), .br 7 108 false, .opw 7 68 (.tuple #[wN, I e3]) (H [r8, r9, wR3 n x y, tL, tB, rr, rn, wK k1 k2, wn]), .opw 7 75 (.bool true) (H [r8, r9, wR3 n x y, tL, tB, rr, rn, wK k1 k2, wn]), .opw 7 81 (.bool true) (H [r8, r9, wR3 n x y, tL, tB, rr, rn, wK k1 k2, wn])]) (os' := []) (by kernel_rfl) (ObsOK.call (h16a 10 (H [r8, r9, wR3 n x y]) (by kernel_rfl)) (ObsOK.call (h16b 10 (H [r8, r9, wR3 n x y]) (by kernel_rfl)) (ObsOK.call (h20a 10 (H [r8, r9, wR3 n x y]) (by kernel_rfl)) (ObsOK.call (h20b 10 (H [r8, r9, wR3 n x y, tL]) (by kernel_rfl)) (ObsOK.call (h55 10 (H [r8, r9, wR3 n x y, tL, tB]) (by kernel_rfl)) (ObsOK.call (h56 10 (H [r8, r9, wR3 n x y, tL, tB, rr]) (by kernel_rfl)) (ObsOK.call (h25a 10 (H [r8, r9, wR3 n x y, tL, tB, rr, rn]) (by kernel_rfl)) (ObsOK.call (h25b 10 (H [r8, r9, wR3 n x y, tL, tB, rr, rn]) (by kernel_rfl)) (ObsOK.call (h23 10 (H [r8, r9, wR3 n x y, tL, tB, rr, rn, wK k1 k2]) (by kernel_rfl)) (ObsOK.cond co (ObsOK.call (h58 10 (H [r8, r9, wR3 n x y, tL, tB, rr, rn, wK k1 k2]) (by kernel_rfl)) (ObsOK.call (h54a 10 (H [r8, r9, wR3 n x y, tL, tB, rr, rn, wK k1 k2, wn]) (by kernel_rfl)) (ObsOK.call (h54b 10 (H [r8, r9, wR3 n x y, tL, tB, rr, rn, wK k1 k2, wn]) (by kernel_rfl)) (ObsOK.nil))))))))))))))
theorem reX_p0 (L : List CallC) (n x y k1 k2 o e1 e2 o2 e3 : Int) (vL vB oL oB vR vN wR wN : Value) (r8 r9 tL tB rr rn wr wn : Option ARow) (h16a : FrN L (H [r8, r9, wR3 n x y]) 16 [vL, I 5] (.bool false)) : Gives Tryz.prog (eR L) 0 7 [vL, vB, .agg #[I n, I x, I y]] (H [r8, r9]) ((.bool true), (H [r8, r9])) :=
  Gives.by (n := 1000) (os := [.opw 7 20 (.bool false) (H [r8, r9, wR3 n x y])]) (os' := []) (by kernel_rfl) (ObsOK.call (h16a 10 (H [r8, r9, wR3 n x y]) (by kernel_rfl)) (ObsOK.nil))
theorem reY_p0 (L : List CallC) (n x y k1 k2 o e1 e2 o2 e3 : Int) (vL vB oL oB vR vN wR wN : Value) (r8 r9 tL tB rr rn wr wn : Option ARow) (h16a : FrN L (H [r8, r9, wR3 n x y]) 16 [vL, I 5] (.bool true)) (h16b : FrN L (H [r8, r9, wR3 n x y]) 16 [vB, I 5] (.bool false)) : Gives Tryz.prog (eR L) 0 7 [vL, vB, .agg #[I n, I x, I y]] (H [r8, r9]) ((.bool true), (H [r8, r9])) :=
  Gives.by (n := 1000) (os := [.opw 7 20 (.bool true) (H [r8, r9, wR3 n x y]), .opw 7 25 (.bool false) (H [r8, r9, wR3 n x y])]) (os' := []) (by kernel_rfl) (ObsOK.call (h16a 10 (H [r8, r9, wR3 n x y]) (by kernel_rfl)) (ObsOK.call (h16b 10 (H [r8, r9, wR3 n x y]) (by kernel_rfl)) (ObsOK.nil)))
/-
ArrayMoves, its calls told.
-/
/-
ArrayMoves: the law from its three moves.
-/
theorem fc {α : Type} {p : α → Prop} {a : α} {l : List α} (h : p a ∧ ∀ x ∈ l, p x) : ∀ x ∈ a :: l, p x := List.forall_mem_cons.2 h
theorem fN {α : Type} {p : α → Prop} : ∀ x ∈ ([] : List α), p x := fun _ h => nomatch h
theorem startsH (X : Heap) : startsB heap0 (H X) = true := rfl
/-- The law is true at these rows. -/
def LawS (f : FuncId) (args : List Value) (A : Heap) : Prop := ∃ E, EnvOK Tryz.prog 8 E ∧ Gives Tryz.prog E 0 f args A (.bool true, A)
/-
ArrayRepeats: the law from its parts.
-/
theorem ne_f {a b : Nat} {p : Prop} (h : Nat.beq a b = false) (e : a = b) : p := by subst e; rw [Nat.beq_refl] at h; cases h
theorem calls_two {L1 X : List CallC} (h : keysC (L1.map fun c => (c.f, c.A.length)) = true) (hX : ∀ x ∈ X, ∀ c ∈ L1 ++ X, c.f = x.f → c.args = x.args → c.v = x.v ∧ c.R = x.R) : ∀ c ∈ L1 ++ X, ∀ d ∈ L1 ++ X, c.f = d.f → c.args = d.args → c.A = d.A → c.v = d.v ∧ c.R = d.R := by
  intro c hc d hd hf ha hA
  rcases List.mem_append.1 hc with hc1 | hc1
  · rcases List.mem_append.1 hd with hd1 | hd1
    · rw [keysC_one h c hc1 d hd1 hf hA]; exact ⟨rfl, rfl⟩
    · exact hX d hd1 c hc hf ha
  · have := hX c hc1 d hd hf.symm ha.symm
    exact ⟨this.1.symm, this.2.symm⟩
theorem calls_here2 {E : Env} {fs : List FuncId} {L : List CallC} {lim : Nat} (h1 : ∀ c ∈ L, ∀ d ∈ L, c.f = d.f → c.args = d.args → c.A = d.A → c.v = d.v ∧ c.R = d.R) (c : CallC) (hc : c ∈ L) (hf : fs.contains c.f = true) : Gives Tryz.prog (E.calls fs L) lim c.f c.args c.A (c.v, c.A ++ c.R) := by
  apply known_gives
  have he : ∃ d ∈ L, c.f = d.f ∧ c.args = d.args ∧ c.A = d.A := ⟨c, hc, rfl, rfl, rfl⟩
  simp only [Env.calls, Env.with, hf, if_true]
  unfold callsK
  rw [dif_pos he]
  obtain ⟨g1, g2, g3, g4⟩ := Classical.choose_spec he
  obtain ⟨e1, e2⟩ := h1 c hc _ g1 g2 g3 g4
  rw [← e1, ← e2]
def fsR : List FuncId := [16, 20, 23, 25, 54, 55, 56, 57, 58]
theorem rA {L : List CallC} (one : ∀ c ∈ L, ∀ d ∈ L, c.f = d.f → c.args = d.args → c.A = d.A → c.v = d.v ∧ c.R = d.R) (i : Nat) {f : FuncId} {args : List Value} {X : Heap} {v : Value} {t : Option ARow} (h : L[i]? = some ⟨f, args, X, v, [t]⟩) (hf : fsR.contains f = true := by rfl) : FrA L X f args v t :=
  fun lim A hA => by subst hA; exact calls_here2 (E := envM) (fs := fsR) (lim := lim) one _ (List.mem_of_getElem? h) hf
theorem rN {L : List CallC} (one : ∀ c ∈ L, ∀ d ∈ L, c.f = d.f → c.args = d.args → c.A = d.A → c.v = d.v ∧ c.R = d.R) (i : Nat) {f : FuncId} {args : List Value} {X : Heap} {v : Value} (h : L[i]? = some ⟨f, args, X, v, []⟩) (hf : fsR.contains f = true := by rfl) : FrN L X f args v :=
  fun lim A hA => by subst hA; have h := calls_here2 (E := envM) (fs := fsR) (lim := lim) one _ (List.mem_of_getElem? h) hf; rw [List.append_nil] at h; exact h
/-- Rows of binomial numbers: the program's and the reference's are the same. -/
def Bino (n x y : Int) : Prop := ∃ vN e rn, (∀ A, startsB heap0 A = true → A.length = 14 → SaysAt Tryz.prog 8 56 [I n, I x, I y] A (.tuple #[vN, I e]) (A ++ [rn])) ∧
  ∀ p, p = 16 ∨ p = 17 → ∃ wN wn, (∀ A, startsB heap0 A = true → A.length = p → SaysAt Tryz.prog 8 58 [I n, I x, I y] A (.tuple #[wN, I e]) (A ++ [wn])) ∧
    (∀ A, startsB heap0 A = true → hget A 14 = rn → hget A p = wn → SaysAt Tryz.prog 8 54 [vN, I e, I e, wN] A (.bool true) (A ++ []))
/-- The lists repeated are the same. -/
def Rept (vL vB oL oB : Value) (r8 r9 tL tB : Option ARow) (o : Int) : Prop := ∃ vR e rr, (∀ A, startsB heap0 A = true → hget A 11 = tL → hget A 12 = tB → A.length = 13 → SaysAt Tryz.prog 8 55 [oL, oB] A (.tuple #[vR, I e]) (A ++ [rr])) ∧
  ((o == 0) = false → ∀ A, startsB heap0 A = true → hget A 13 = rr → SaysAt Tryz.prog 8 54 [vR, I e, I o, .slice none 0 0] A (.bool true) (A ++ [])) ∧
  ((o == 0) = true → ∃ wR o2 wr, (∀ A, startsB heap0 A = true → hget A 8 = r8 → hget A 9 = r9 → A.length = 16 → SaysAt Tryz.prog 8 57 [vL, vB] A (.tuple #[wR, I o2]) (A ++ [wr])) ∧
    (∀ A, startsB heap0 A = true → hget A 13 = rr → hget A 16 = wr → SaysAt Tryz.prog 8 54 [vR, I e, I o2, wR] A (.bool true) (A ++ [])))
theorem rep_of {vL vB oL oB : Value} {r8 r9 tL tB : Option ARow} {k1 k2 n x y : Int} (hu : [vL] = [vB] → k1 = k2)
    (h16a : ∀ A, startsB heap0 A = true → hget A 8 = r8 → hget A 9 = r9 → SaysAt Tryz.prog 8 16 [vL, I 5] A (.bool true) (A ++ []))
    (h16b : ∀ A, startsB heap0 A = true → hget A 8 = r8 → hget A 9 = r9 → SaysAt Tryz.prog 8 16 [vB, I 5] A (.bool true) (A ++ []))
    (h20a : ∀ A, startsB heap0 A = true → hget A 8 = r8 → hget A 9 = r9 → A.length = 11 → SaysAt Tryz.prog 8 20 [vL] A oL (A ++ [tL]))
    (h20b : ∀ A, startsB heap0 A = true → hget A 8 = r8 → hget A 9 = r9 → A.length = 12 → SaysAt Tryz.prog 8 20 [vB] A oB (A ++ [tB]))
    (h25a : ∀ A, startsB heap0 A = true → hget A 8 = r8 → hget A 9 = r9 → SaysAt Tryz.prog 8 25 [vL] A (I k1) (A ++ []))
    (h25b : ∀ A, startsB heap0 A = true → hget A 8 = r8 → hget A 9 = r9 → SaysAt Tryz.prog 8 25 [vB] A (I k2) (A ++ []))
    (hb : Bino n x y) (hr : Rept vL vB oL oB r8 r9 tL tB (fstI [k1, k2])) : LawS 7 [vL, vB, .agg #[I n, I x, I y]] (H [r8, r9]) := by
  obtain ⟨vN, e2, rn, s56, hb⟩ := hb
  obtain ⟨vR, e1, rr, s55, g0, g1⟩ := hr
  have s23 : ∀ A, startsB heap0 A = true → hget A 15 = wK k1 k2 → SaysAt Tryz.prog 8 23 [sl 15 0 2 2] A (I (fstI [k1, k2])) (A ++ []) := fun A h0 hA =>
    SaysAt.rows (T := heapN) (R0 := [rI [k1, k2] 3 .row]) (R1 := []) [15] (fj_says' [k1, k2] 2 3 .row (show (2 : Nat) ≤ 1000 by decide)) rfl rfl (starts8 (startsB_get h0).1) rfl rfl (rowsI hA) rfl rfl rfl
  cases co : (fstI [k1, k2] == 0)
  · obtain ⟨wN, wn, s58, b54⟩ := hb 16 (.inl rfl)
    let L1 : List CallC := [⟨16, [vL, I 5], (H [r8, r9, wR3 n x y]), .bool true, []⟩, ⟨20, [vL], (H [r8, r9, wR3 n x y]), oL, [tL]⟩, ⟨20, [vB], (H [r8, r9, wR3 n x y, tL]), oB, [tB]⟩, ⟨55, [oL, oB], (H [r8, r9, wR3 n x y, tL, tB]), .tuple #[vR, I e1], [rr]⟩, ⟨56, [I n, I x, I y], (H [r8, r9, wR3 n x y, tL, tB, rr]), .tuple #[vN, I e2], [rn]⟩, ⟨25, [vL], (H [r8, r9, wR3 n x y, tL, tB, rr, rn]), I k1, []⟩, ⟨23, [sl 15 0 2 2], (H [r8, r9, wR3 n x y, tL, tB, rr, rn, wK k1 k2]), I (fstI [k1, k2]), []⟩, ⟨58, [I n, I x, I y], (H [r8, r9, wR3 n x y, tL, tB, rr, rn, wK k1 k2]), .tuple #[wN, I e2], [wn]⟩, ⟨54, [vR, I e1, I (fstI [k1, k2]), .slice none 0 0], (H [r8, r9, wR3 n x y, tL, tB, rr, rn, wK k1 k2, wn]), .bool true, []⟩]
    let X : List CallC := [⟨16, [vB, I 5], (H [r8, r9, wR3 n x y]), .bool true, []⟩, ⟨25, [vB], (H [r8, r9, wR3 n x y, tL, tB, rr, rn]), I k2, []⟩, ⟨54, [vN, I e2, I e2, wN], (H [r8, r9, wR3 n x y, tL, tB, rr, rn, wK k1 k2, wn]), .bool true, []⟩]
    have one := calls_two (L1 := L1) (X := X) rfl (fc ⟨List.forall_mem_append.2 ⟨fc ⟨fun _ _ => ⟨rfl, rfl⟩, fc ⟨fun h => ne_f rfl h, fc ⟨fun h => ne_f rfl h, fc ⟨fun h => ne_f rfl h, fc ⟨fun h => ne_f rfl h, fc ⟨fun h => ne_f rfl h, fc ⟨fun h => ne_f rfl h, fc ⟨fun h => ne_f rfl h, fc ⟨fun h => ne_f rfl h, fN⟩⟩⟩⟩⟩⟩⟩⟩⟩, fc ⟨fun _ _ => ⟨rfl, rfl⟩, fc ⟨fun h => ne_f rfl h, fc ⟨fun h => ne_f rfl h, fN⟩⟩⟩⟩, fc ⟨List.forall_mem_append.2 ⟨fc ⟨fun h => ne_f rfl h, fc ⟨fun h => ne_f rfl h, fc ⟨fun h => ne_f rfl h, fc ⟨fun h => ne_f rfl h, fc ⟨fun h => ne_f rfl h, fc ⟨fun _ h => ⟨congrArg I (hu h), rfl⟩, fc ⟨fun h => ne_f rfl h, fc ⟨fun h => ne_f rfl h, fc ⟨fun h => ne_f rfl h, fN⟩⟩⟩⟩⟩⟩⟩⟩⟩, fc ⟨fun h => ne_f rfl h, fc ⟨fun _ _ => ⟨rfl, rfl⟩, fc ⟨fun h => ne_f rfl h, fN⟩⟩⟩⟩, fc ⟨List.forall_mem_append.2 ⟨fc ⟨fun h => ne_f rfl h, fc ⟨fun h => ne_f rfl h, fc ⟨fun h => ne_f rfl h, fc ⟨fun h => ne_f rfl h, fc ⟨fun h => ne_f rfl h, fc ⟨fun h => ne_f rfl h, fc ⟨fun h => ne_f rfl h, fc ⟨fun h => ne_f rfl h, fc ⟨fun _ _ => ⟨rfl, rfl⟩, fN⟩⟩⟩⟩⟩⟩⟩⟩⟩, fc ⟨fun h => ne_f rfl h, fc ⟨fun h => ne_f rfl h, fc ⟨fun _ _ => ⟨rfl, rfl⟩, fN⟩⟩⟩⟩, fN⟩⟩⟩)
    have ok : EnvOK Tryz.prog 8 (eR (L1 ++ X)) := Env.calls_ok envM_ok (List.forall_mem_append.2 ⟨fc ⟨h16a _ (startsH _) rfl rfl, fc ⟨h20a _ (startsH _) rfl rfl rfl, fc ⟨h20b _ (startsH _) rfl rfl rfl, fc ⟨s55 _ (startsH _) rfl rfl rfl, fc ⟨s56 _ (startsH _) rfl, fc ⟨h25a _ (startsH _) rfl rfl, fc ⟨s23 _ (startsH _) rfl, fc ⟨s58 _ (startsH _) rfl, fc ⟨g0 co _ (startsH _) rfl, fN⟩⟩⟩⟩⟩⟩⟩⟩⟩, fc ⟨h16b _ (startsH _) rfl rfl, fc ⟨h25b _ (startsH _) rfl rfl, fc ⟨b54 _ (startsH _) rfl rfl, fN⟩⟩⟩⟩)
    exact ⟨_, ok, re0_p0 _ n x y k1 k2 (fstI [k1, k2]) e1 e2 0 e2 vL vB oL oB vR vN (.slice none 0 0) wN r8 r9 tL tB rr rn none wn (rN one 0 rfl) (rN one 9 rfl) (rA one 1 rfl) (rA one 2 rfl) (rA one 3 rfl) (rA one 4 rfl) (rN one 5 rfl) (rN one 10 rfl) (rN one 6 rfl) co (rA one 7 rfl) (rN one 8 rfl) (rN one 11 rfl)⟩
  · obtain ⟨wR, o2, wr, s57, g54⟩ := g1 co
    obtain ⟨wN, wn, s58, b54⟩ := hb 17 (.inr rfl)
    let L1 : List CallC := [⟨16, [vL, I 5], (H [r8, r9, wR3 n x y]), .bool true, []⟩, ⟨20, [vL], (H [r8, r9, wR3 n x y]), oL, [tL]⟩, ⟨20, [vB], (H [r8, r9, wR3 n x y, tL]), oB, [tB]⟩, ⟨55, [oL, oB], (H [r8, r9, wR3 n x y, tL, tB]), .tuple #[vR, I e1], [rr]⟩, ⟨56, [I n, I x, I y], (H [r8, r9, wR3 n x y, tL, tB, rr]), .tuple #[vN, I e2], [rn]⟩, ⟨25, [vL], (H [r8, r9, wR3 n x y, tL, tB, rr, rn]), I k1, []⟩, ⟨23, [sl 15 0 2 2], (H [r8, r9, wR3 n x y, tL, tB, rr, rn, wK k1 k2]), I (fstI [k1, k2]), []⟩, ⟨57, [vL, vB], (H [r8, r9, wR3 n x y, tL, tB, rr, rn, wK k1 k2]), .tuple #[wR, I o2], [wr]⟩, ⟨58, [I n, I x, I y], (H [r8, r9, wR3 n x y, tL, tB, rr, rn, wK k1 k2, wr]), .tuple #[wN, I e2], [wn]⟩, ⟨54, [vR, I e1, I o2, wR], (H [r8, r9, wR3 n x y, tL, tB, rr, rn, wK k1 k2, wr, wn]), .bool true, []⟩]
    let X : List CallC := [⟨16, [vB, I 5], (H [r8, r9, wR3 n x y]), .bool true, []⟩, ⟨25, [vB], (H [r8, r9, wR3 n x y, tL, tB, rr, rn]), I k2, []⟩, ⟨54, [vN, I e2, I e2, wN], (H [r8, r9, wR3 n x y, tL, tB, rr, rn, wK k1 k2, wr, wn]), .bool true, []⟩]
    have one := calls_two (L1 := L1) (X := X) rfl (fc ⟨List.forall_mem_append.2 ⟨fc ⟨fun _ _ => ⟨rfl, rfl⟩, fc ⟨fun h => ne_f rfl h, fc ⟨fun h => ne_f rfl h, fc ⟨fun h => ne_f rfl h, fc ⟨fun h => ne_f rfl h, fc ⟨fun h => ne_f rfl h, fc ⟨fun h => ne_f rfl h, fc ⟨fun h => ne_f rfl h, fc ⟨fun h => ne_f rfl h, fc ⟨fun h => ne_f rfl h, fN⟩⟩⟩⟩⟩⟩⟩⟩⟩⟩, fc ⟨fun _ _ => ⟨rfl, rfl⟩, fc ⟨fun h => ne_f rfl h, fc ⟨fun h => ne_f rfl h, fN⟩⟩⟩⟩, fc ⟨List.forall_mem_append.2 ⟨fc ⟨fun h => ne_f rfl h, fc ⟨fun h => ne_f rfl h, fc ⟨fun h => ne_f rfl h, fc ⟨fun h => ne_f rfl h, fc ⟨fun h => ne_f rfl h, fc ⟨fun _ h => ⟨congrArg I (hu h), rfl⟩, fc ⟨fun h => ne_f rfl h, fc ⟨fun h => ne_f rfl h, fc ⟨fun h => ne_f rfl h, fc ⟨fun h => ne_f rfl h, fN⟩⟩⟩⟩⟩⟩⟩⟩⟩⟩, fc ⟨fun h => ne_f rfl h, fc ⟨fun _ _ => ⟨rfl, rfl⟩, fc ⟨fun h => ne_f rfl h, fN⟩⟩⟩⟩, fc ⟨List.forall_mem_append.2 ⟨fc ⟨fun h => ne_f rfl h, fc ⟨fun h => ne_f rfl h, fc ⟨fun h => ne_f rfl h, fc ⟨fun h => ne_f rfl h, fc ⟨fun h => ne_f rfl h, fc ⟨fun h => ne_f rfl h, fc ⟨fun h => ne_f rfl h, fc ⟨fun h => ne_f rfl h, fc ⟨fun h => ne_f rfl h, fc ⟨fun _ _ => ⟨rfl, rfl⟩, fN⟩⟩⟩⟩⟩⟩⟩⟩⟩⟩, fc ⟨fun h => ne_f rfl h, fc ⟨fun h => ne_f rfl h, fc ⟨fun _ _ => ⟨rfl, rfl⟩, fN⟩⟩⟩⟩, fN⟩⟩⟩)
    have ok : EnvOK Tryz.prog 8 (eR (L1 ++ X)) := Env.calls_ok envM_ok (List.forall_mem_append.2 ⟨fc ⟨h16a _ (startsH _) rfl rfl, fc ⟨h20a _ (startsH _) rfl rfl rfl, fc ⟨h20b _ (startsH _) rfl rfl rfl, fc ⟨s55 _ (startsH _) rfl rfl rfl, fc ⟨s56 _ (startsH _) rfl, fc ⟨h25a _ (startsH _) rfl rfl, fc ⟨s23 _ (startsH _) rfl, fc ⟨s57 _ (startsH _) rfl rfl rfl, fc ⟨s58 _ (startsH _) rfl, fc ⟨g54 _ (startsH _) rfl rfl, fN⟩⟩⟩⟩⟩⟩⟩⟩⟩⟩, fc ⟨h16b _ (startsH _) rfl rfl, fc ⟨h25b _ (startsH _) rfl rfl, fc ⟨b54 _ (startsH _) rfl rfl, fN⟩⟩⟩⟩)
    exact ⟨_, ok, re1_p0 _ n x y k1 k2 (fstI [k1, k2]) e1 e2 o2 e2 vL vB oL oB vR vN wR wN r8 r9 tL tB rr rn wr wn (rN one 0 rfl) (rN one 10 rfl) (rA one 1 rfl) (rA one 2 rfl) (rA one 3 rfl) (rA one 4 rfl) (rN one 5 rfl) (rN one 11 rfl) (rN one 6 rfl) co (rA one 7 rfl) (rA one 8 rfl) (rN one 9 rfl) (rN one 12 rfl)⟩
/-
The reference's repetition: nothing.
-/
theorem r57n_p0 (vB : Value) (rb : Option ARow) : Gives Tryz.prog envB 0 57 [.slice none 0 0, vB] (n8 [rb]) ((.tuple #[(.slice .none 0 0), (I 0)]), (n8 [rb])) :=
  Gives.by (n := 1000) (os := []) (os' := []) (by kernel_rfl) (ObsOK.nil)
theorem n29_p0  : Gives Tryz.prog envB 0 29 [.slice none 0 0] heapN ((I 0), heapN) :=
  Gives.by (n := 1000) (os := []) (os' := []) (by kernel_rfl) (ObsOK.nil)
theorem n25N_p0  : Gives Tryz.prog envB 0 25 [.slice none 0 0] heapN ((I 0), heapN) :=
  Gives.by (n := 1000) (os := []) (os' := []) (by kernel_rfl) (ObsOK.nil)
theorem n16f_p0  : Gives Tryz.prog envB 0 16 [.slice none 0 0, I 5] heap0 ((.bool true), heap0) :=
  Gives.by (n := 1000) (os := []) (os' := []) (by kernel_rfl) (ObsOK.nil)
/-
ArrayMoves: its calls.
-/
/-
ArrayMoves: its calls.
-/
/-
Rounds of loops.
-/
/-
Pressures are known.
-/
structure fam19I where
  (xs : List Sr)
  (d : Int)
  (c : Nat)
  (e : Nat)
  (u : Use)
/-
Rounds of loops.
-/
/-
Levels are known.
-/
structure fam21I where
  (xs : List Sr)
  (d : Int)
  (c : Nat)
  (e : Nat)
  (u : Use)
/-
ArrayPressures: its ways.
-/
/-
Sources: what the program and the reference reckon is the same.
-/
/-- A source in its ranges. -/
def okS (s : Sr) : Prop := -100 ≤ s.x ∧ s.x ≤ 100 ∧ -100 ≤ s.y ∧ s.y ≤ 100 ∧ -100 ≤ s.g ∧ s.g ≤ 100 ∧ 0 ≤ s.p ∧ s.p ≤ 3
theorem lim_eq (x : Int) : (lim_r0 x 100 == x) = decide (-100 ≤ x ∧ x ≤ 100) := by
  unfold lim_r0
  rw [show IntKind.i64.wrap (0 - 100) = -100 from rfl]
  by_cases h1 : -100 > x
  · rw [if_pos h1, if_neg (by decide), decide_eq_false (by omega)]
    simp; omega
  · rw [if_neg h1]
    by_cases h2 : 100 < x
    · rw [if_pos h2, decide_eq_false (by omega)]; simp; omega
    · rw [if_neg h2, decide_eq_true (by omega)]; simp
theorem mo_eq (p : Int) : (mo_r0 p == p) = decide (0 ≤ p ∧ p ≤ 3) := by
  rw [show mo_r0 p = p % 4 from tm4 p]
  by_cases h : 0 ≤ p ∧ p ≤ 3
  · rw [decide_eq_true h]; simp; omega
  · rw [decide_eq_false h]; simp; omega
theorem cr_eq (n a b : Int) : cr_r0 n a b = if a ≤ n ∧ n ≤ b then 0 else 3 := by
  unfold cr_r0 cr_c0 cr_c1
  by_cases h1 : n < a
  · rw [if_neg (by omega)]; simp [h1]
  · by_cases h2 : n > b
    · rw [if_neg (by omega)]; simp [h1, h2]
    · rw [if_pos (by omega)]; simp [h1, h2]
theorem cs_eq (x y g p : Int) : cs85_r0 x y g p = if (-100 ≤ x ∧ x ≤ 100 ∧ -100 ≤ y ∧ y ≤ 100 ∧ -100 ≤ g ∧ g ≤ 100 ∧ 0 ≤ p ∧ p ≤ 3) then 0 else 3 := by
  unfold cs85_r0 cs85_c0
  rw [lim_eq, lim_eq, lim_eq, mo_eq]
  by_cases h : (-100 ≤ x ∧ x ≤ 100 ∧ -100 ≤ y ∧ y ≤ 100 ∧ -100 ≤ g ∧ g ≤ 100 ∧ 0 ≤ p ∧ p ≤ 3)
  · rw [if_pos h, decide_eq_true (by omega), decide_eq_true (by omega), decide_eq_true (by omega), decide_eq_true (by omega)]; rfl
  · rw [if_neg h]
    by_cases h1 : -100 ≤ x ∧ x ≤ 100
    · by_cases h2 : -100 ≤ y ∧ y ≤ 100
      · by_cases h3 : -100 ≤ g ∧ g ≤ 100
        · rw [decide_eq_true h1, decide_eq_true h2, decide_eq_true h3, decide_eq_false (by omega)]; rfl
        · rw [decide_eq_true h1, decide_eq_true h2, decide_eq_false h3]; rfl
      · rw [decide_eq_true h1, decide_eq_false h2]; rfl
    · rw [decide_eq_false h1]; rfl
theorem rc_eq (x y g p : Int) : rcs24_r0 x y g p = if (-100 ≤ x ∧ x ≤ 100 ∧ -100 ≤ y ∧ y ≤ 100 ∧ -100 ≤ g ∧ g ≤ 100 ∧ 0 ≤ p ∧ p ≤ 3) then 0 else 3 := by
  unfold rcs24_r0 rcs24_c0 rcs24_c1 rcs24_c2 rcs24_c3
  simp only [cr_eq]
  repeat' split
  all_goals first
    | rfl
    | (exfalso; omega)
theorem cs_rc (x y g p : Int) : cs85_r0 x y g p = rcs24_r0 x y g p := by rw [cs_eq, rc_eq]
theorem csE_rcE (s : Sr) : csE s = rcE s := cs_rc _ _ _ _
theorem rcE_s0 : rcE s0 = 0 := by unfold rcE; rw [rc_eq]; rfl
theorem map_getD (xs : List Sr) (k : Nat) : (xs.map csE).getD k 0 = rcE (xs.getD k s0) := by
  by_cases h : k < xs.length
  · simp [h, csE_rcE]
  · have h1 : (xs.map csE)[k]? = none := List.getElem?_eq_none (by simp; omega)
    have h2 : xs[k]? = none := List.getElem?_eq_none (by omega)
    rw [List.getD_eq_getElem?_getD, List.getD_eq_getElem?_getD, h1, h2]
    exact rcE_s0.symm
theorem fst_eq (xs : List Sr) : fstI (xs.map csE) = fstR xs := by
  unfold fstI fstR
  rw [List.length_map]
  rw [firstP_congr (q := fun k => rcE (xs.getD k s0) != 0) (fun j _ _ => by rw [map_getD])]
  cases firstP (fun k => rcE (xs.getD k s0) != 0) 0 xs.length with
  | none => rfl
  | some k => exact map_getD xs k
theorem chk_eq (xs : List Sr) : chkP xs = chkR xs := by unfold chkP chkR; rw [fst_eq]
theorem okS_of {xs : List Sr} (h : chkR xs = 0) : ∀ k, k < xs.length → okS (xs.getD k s0) := by
  intro k hk
  unfold chkR at h
  split at h
  · cases h
  · unfold fstR at h
    cases hf : firstP (fun k => rcE (xs.getD k s0) != 0) 0 xs.length with
    | some j =>
      rw [hf] at h
      have := (firstP_some hf).2.2.1
      simp only [bne_iff_ne, ne_eq] at this
      exact absurd h this
    | none =>
      have := firstP_none hf k (Nat.zero_le _) (by omega)
      simp only [bne_eq_false_iff_eq] at this
      unfold rcE at this
      rw [rc_eq] at this
      split at this
      · rename_i ho; exact ho
      · cases this
theorem wS {x : Int} (h1 : -100000 ≤ x) (h2 : x ≤ 100000) : IntKind.i64.wrap x = x := wSmall (by omega) (by omega)
/-
Sources shifted: pieces.
-/
/-
Sources shifted.
-/
/-
ArrayMoves: the program's moves of a list.
-/
section
variable (xs : List Sr) (c e : Nat) (u : Use) (hb : xs.length ≤ 1000)
include hb
end
/-
Sources and their images in one list: the call.
-/
/-
ArrayMoves: its calls.
-/
/-
Sources behind a wall: pieces.
-/
/-
Sources behind a wall.
-/
/-
Sources behind a wall: pieces.
-/
/-
Sources behind a wall.
-/
/-
Sources and their images in one list.
-/
theorem keysC_vR {L : List CallC} (h : keysC (L.map fun c => (c.f, c.A.length)) = true) : ∀ c ∈ L, ∀ d ∈ L, c.f = d.f → c.A = d.A → c.v = d.v ∧ c.R = d.R := fun c hc d hd hf hA => by rw [keysC_one h c hc d hd hf hA]; exact ⟨rfl, rfl⟩
section
variable (xs : List Sr) (c e : Nat) (u : Use) (hb : xs.length ≤ 500) (hn : 1 ≤ xs.length)
end
/-
The reference's turns: pieces.
-/
/-
The reference's turns.
-/
/-
The reference's turns: pieces.
-/
/-
The reference's turns.
-/
/-
The reference's turns: pieces.
-/
/-
The reference's turns.
-/
/-
The reference's turns: pieces.
-/
/-
The reference's turns.
-/
/-
The reference's shift: pieces.
-/
/-
The reference's shift.
-/
/-
The reference's mirror: pieces.
-/
/-
The reference's mirror.
-/
/-
The reference's mirror: pieces.
-/
/-
The reference's mirror.
-/
/-
Lists compared: pieces.
-/
theorem smq0_p0  (n c : Nat) (r8 : Option ARow) (c2 : Nat) (r9 : Option ARow) (f0 : ((n : Int) != (n : Int)) = false) : Runs Tryz.prog envB 10 [.code (codeL (bodyOf 76))] [sl 8 0 n c, sl 9 0 n c2, U, U, U, U, U, U, U, U, U, U, U, U, U, U, U, U, U, U, U, U, U, U, U, U] (n8 [r8, r9]) ([(sl 8 0 n c), (sl 9 0 n c2), U, U, (.bool false), U, U, U, U, U, U, U, U, U, U, U, U, U, U, U, U, U, U, U, U, U], (n8 [r8, r9]), none) :=
  Runs.by (n := 1000) (fid := 76) (os := []) (os' := []) (by kernel_rfl) (ObsOK.nil)
theorem smq1_p0  (n c : Nat) (r8 : Option ARow) (c2 : Nat) (r9 : Option ARow) (f0 : ((n : Int) != (n : Int)) = false) : Runs Tryz.prog envB 10 [.code (codeL (codeR (bodyOf 76)))] [(sl 8 0 n c), (sl 9 0 n c2), U, U, (.bool false), U, U, U, U, U, U, U, U, U, U, U, U, U, U, U, U, U, U, U, U, U] (n8 [r8, r9]) ([(sl 8 0 n c), (sl 9 0 n c2), U, U, (.bool false), U, (sl 8 0 n c), (I ((n : Int))), (sl 9 0 n c2), (I ((n : Int))), (.bool ((n : Int) != (n : Int))), U, U, U, U, U, U, U, U, U, U, U, U, U, U, U], (n8 [r8, r9]), none) :=
  Runs.by (n := 1000) (fid := 76) (os := [.br 76 22 false]) (os' := []) (by kernel_rfl) (ObsOK.cond f0 (ObsOK.nil))
theorem smq2_p0  (n c : Nat) (r8 : Option ARow) (c2 : Nat) (r9 : Option ARow) (f0 : ((n : Int) != (n : Int)) = false) : Runs Tryz.prog envB 10 [.code (codeL (codeL (codeR (codeR (bodyOf 76)))))] [(sl 8 0 n c), (sl 9 0 n c2), U, U, (.bool false), U, (sl 8 0 n c), (I ((n : Int))), (sl 9 0 n c2), (I ((n : Int))), (.bool ((n : Int) != (n : Int))), U, U, U, U, U, U, U, U, U, U, U, U, U, U, U] (n8 [r8, r9]) ([(sl 8 0 n c), (sl 9 0 n c2), U, U, (.bool false), I 0, (sl 8 0 n c), (I ((n : Int))), (sl 9 0 n c2), (I ((n : Int))), (.bool ((n : Int) != (n : Int))), U, U, U, U, U, U, U, U, U, U, U, U, U, U, U], (n8 [r8, r9]), none) :=
  Runs.by (n := 1000) (fid := 76) (os := []) (os' := []) (by kernel_rfl) (ObsOK.nil)
theorem smB0_p0 (v2 v3 v4 v6 v7 v8 v9 v10 v11 v12 v13 v14 v15 v16 v17 v18 v19 v20 v21 v22 v23 v24 v25 : Value) (n c : Nat) (r8 : Option ARow) (c2 : Nat) (r9 : Option ARow) (i : Int) (k8 : Nat) (z8x z8y z8g z8p : Int) (hx8 : aIndexAddr Tryz.prog 22 (sl 8 0 n c) (I i) = some (pt 8 k8)) (hl8 : aLoad Tryz.prog 24 (pt 8 k8) (n8 [r8, r9]) = some (.agg #[I z8x, I z8y, I z8g, I z8p])) (k9 : Nat) (z9x z9y z9g z9p : Int) (hx9 : aIndexAddr Tryz.prog 22 (sl 9 0 n c2) (I i) = some (pt 9 k9)) (hl9 : aLoad Tryz.prog 24 (pt 9 k9) (n8 [r8, r9]) = some (.agg #[I z9x, I z9y, I z9g, I z9p])) (f1 : decide (i < (n : Int)) = true) (g0 : (!(z8x == z9x && (z8y == z9y && (z8g == z9g && (z8p == z9p && true))))) = true) : Runs Tryz.prog envB 10 [.code (round 0 (bodyOf 76))] [(sl 8 0 n c), (sl 9 0 n c2), v2, v3, v4, I i, v6, v7, v8, v9, v10, v11, v12, v13, v14, v15, v16, v17, v18, v19, v20, v21, v22, v23, v24, v25] (n8 [r8, r9]) ([(sl 8 0 n c), (sl 9 0 n c2), v2, v3, (.bool false), I i, v6, v7, v8, v9, v10, I i, (sl 8 0 n c), (I ((n : Int))), (.bool (decide (i < (n : Int)))), v15, v16, (sl 8 0 n c), I i, (pt 8 k8), (.agg #[I z8x, I z8y, I z8g, I z8p]), (sl 9 0 n c2), I i, (pt 9 k9), (.agg #[I z9x, I z9y, I z9g, I z9p]), (.bool (!(z8x == z9x && (z8y == z9y && (z8g == z9g && (z8p == z9p && true))))))], (n8 [r8, r9]), some .ret) :=
  Runs.by (n := 1000) (fid := 76) (os := [.br 76 30 true, .op 76 20 (pt 8 k8), .op 76 21 (.agg #[I z8x, I z8y, I z8g, I z8p]), .op 76 24 (pt 9 k9), .op 76 25 (.agg #[I z9x, I z9y, I z9g, I z9p]), .br 76 52 true]) (os' := []) (by kernel_rfl) (ObsOK.cond f1 (ObsOK.val hx8 (ObsOK.val hl8 (ObsOK.val hx9 (ObsOK.val hl9 (ObsOK.cond g0 (ObsOK.nil)))))))
theorem smA0_p0 (v2 v3 v4 v6 v7 v8 v9 v10 v11 v12 v13 v14 v15 v16 v17 v18 v19 v20 v21 v22 v23 v24 v25 : Value) (n c : Nat) (r8 : Option ARow) (c2 : Nat) (r9 : Option ARow) (i : Int) (k8 : Nat) (z8x z8y z8g z8p : Int) (hx8 : aIndexAddr Tryz.prog 22 (sl 8 0 n c) (I i) = some (pt 8 k8)) (hl8 : aLoad Tryz.prog 24 (pt 8 k8) (n8 [r8, r9]) = some (.agg #[I z8x, I z8y, I z8g, I z8p])) (k9 : Nat) (z9x z9y z9g z9p : Int) (hx9 : aIndexAddr Tryz.prog 22 (sl 9 0 n c2) (I i) = some (pt 9 k9)) (hl9 : aLoad Tryz.prog 24 (pt 9 k9) (n8 [r8, r9]) = some (.agg #[I z9x, I z9y, I z9g, I z9p])) (f1 : decide (i < (n : Int)) = true) (g0 : (!(z8x == z9x && (z8y == z9y && (z8g == z9g && (z8p == z9p && true))))) = false) : Runs Tryz.prog envB 10 [.code (round 0 (bodyOf 76))] [(sl 8 0 n c), (sl 9 0 n c2), v2, v3, v4, I i, v6, v7, v8, v9, v10, v11, v12, v13, v14, v15, v16, v17, v18, v19, v20, v21, v22, v23, v24, v25] (n8 [r8, r9]) ([(sl 8 0 n c), (sl 9 0 n c2), v2, v3, v4, (I (IntKind.i64.wrap (i + 1))), v6, v7, v8, v9, v10, I i, (sl 8 0 n c), (I ((n : Int))), (.bool (decide (i < (n : Int)))), I i, (I (IntKind.i64.wrap (i + 1))), (sl 8 0 n c), I i, (pt 8 k8), (.agg #[I z8x, I z8y, I z8g, I z8p]), (sl 9 0 n c2), I i, (pt 9 k9), (.agg #[I z9x, I z9y, I z9g, I z9p]), (.bool (!(z8x == z9x && (z8y == z9y && (z8g == z9g && (z8p == z9p && true))))))], (n8 [r8, r9]), none) :=
  Runs.by (n := 1000) (fid := 76) (os := [.br 76 30 true, .op 76 20 (pt 8 k8), .op 76 21 (.agg #[I z8x, I z8y, I z8g, I z8p]), .op 76 24 (pt 9 k9), .op 76 25 (.agg #[I z9x, I z9y, I z9g, I z9p]), .br 76 52 false]) (os' := []) (by kernel_rfl) (ObsOK.cond f1 (ObsOK.val hx8 (ObsOK.val hl8 (ObsOK.val hx9 (ObsOK.val hl9 (ObsOK.cond g0 (ObsOK.nil)))))))
theorem smC_p0 (v2 v3 v4 v6 v7 v8 v9 v10 v11 v12 v13 v14 v15 v16 v17 v18 v19 v20 v21 v22 v23 v24 v25 : Value) (n c : Nat) (r8 : Option ARow) (c2 : Nat) (r9 : Option ARow) (i : Int) (f1 : decide (i < (n : Int)) = false) : Runs Tryz.prog envB 10 [.code (round 0 (bodyOf 76)), .inLoop (round 0 (bodyOf 76)), .inBlock 0] [(sl 8 0 n c), (sl 9 0 n c2), v2, v3, v4, I i, v6, v7, v8, v9, v10, v11, v12, v13, v14, v15, v16, v17, v18, v19, v20, v21, v22, v23, v24, v25] (n8 [r8, r9]) ([(sl 8 0 n c), (sl 9 0 n c2), v2, v3, v4, I i, v6, v7, v8, v9, v10, I i, (sl 8 0 n c), (I ((n : Int))), (.bool (decide (i < (n : Int)))), v15, v16, v17, v18, v19, v20, v21, v22, v23, v24, v25], (n8 [r8, r9]), none) :=
  Runs.by (n := 1000) (fid := 76) (os := [.br 76 30 false]) (os' := []) (by kernel_rfl) (ObsOK.cond f1 (ObsOK.nil))
theorem smZ_p0 (v2 v3 v4 v5 v6 v7 v8 v9 v10 v11 v12 v13 v14 v15 v16 v17 v18 v19 v20 v21 v22 v23 v24 v25 : Value) (n c : Nat) (r8 : Option ARow) (c2 : Nat) (r9 : Option ARow) : Runs Tryz.prog envB 10 [.code (codeR (codeR (codeR (bodyOf 76))))] [(sl 8 0 n c), (sl 9 0 n c2), v2, v3, v4, v5, v6, v7, v8, v9, v10, v11, v12, v13, v14, v15, v16, v17, v18, v19, v20, v21, v22, v23, v24, v25] (n8 [r8, r9]) ([(sl 8 0 n c), (sl 9 0 n c2), v2, v3, (.bool true), v5, v6, v7, v8, v9, v10, v11, v12, v13, v14, v15, v16, v17, v18, v19, v20, v21, v22, v23, v24, v25], (n8 [r8, r9]), some .ret) :=
  Runs.by (n := 1000) (fid := 76) (os := []) (os' := []) (by kernel_rfl) (ObsOK.nil)
/-
Lists compared.
-/
noncomputable def sm_p (xs ys : List Sr) (c c2 e e2 : Nat) (u u2 : Use) (jj : Nat) : Bool := (cond (!(((xs.getD jj s0).x) == ((ys.getD jj s0).x) && (((xs.getD jj s0).y) == ((ys.getD jj s0).y) && (((xs.getD jj s0).g) == ((ys.getD jj s0).g) && (((xs.getD jj s0).p) == ((ys.getD jj s0).p) && true))))) true false)
noncomputable def sm_v (xs ys : List Sr) (c c2 e e2 : Nat) (u u2 : Use) (jj : Nat) : Value := ((.bool false))
def sm_b (xs ys : List Sr) (c c2 e e2 : Nat) (u u2 : Use) (jj : Nat) (f : Nat → Value) : List Value := [(sl 8 0 xs.length c), (sl 9 0 xs.length c2), f 2, f 3, f 4, I (jj : Int), f 6, f 7, f 8, f 9, f 10, f 11, f 12, f 13, f 14, f 15, f 16, f 17, f 18, f 19, f 20, f 21, f 22, f 23, f 24, f 25]
def sm_S (xs ys : List Sr) (c c2 e e2 : Nat) (u u2 : Use) (jj : Nat) (ls : List Value) : Prop := ∃ f : Nat → Value, ls = sm_b xs ys c c2 e e2 u u2 jj f ∧ JF [4, 10, 14, 25] f
theorem sm_S.mk {xs ys : List Sr} {c c2 e e2 : Nat} {u u2 : Use} {jj : Nat} {ls : List Value} (h : ls = sm_b xs ys c c2 e e2 u u2 jj (fun k => ls.getD k (I 0))) (hj : JL [4, 10, 14, 25] 0 ls) : sm_S xs ys c c2 e e2 u u2 jj ls := ⟨_, h, hj.fn⟩
def sm_bE (xs ys : List Sr) (c c2 e e2 : Nat) (u u2 : Use) (jj : Nat) (f : Nat → Value) : List Value := [(sl 8 0 xs.length c), (sl 9 0 xs.length c2), f 2, f 3, f 4, f 5, f 6, f 7, f 8, f 9, f 10, f 11, f 12, f 13, f 14, f 15, f 16, f 17, f 18, f 19, f 20, f 21, f 22, f 23, f 24, f 25]
def sm_SE (xs ys : List Sr) (c c2 e e2 : Nat) (u u2 : Use) (jj : Nat) (ls : List Value) : Prop := ∃ f : Nat → Value, ls = sm_bE xs ys c c2 e e2 u u2 jj f ∧ JF [4, 10, 14, 25] f
theorem sm_SE.mk {xs ys : List Sr} {c c2 e e2 : Nat} {u u2 : Use} {jj : Nat} {ls : List Value} (h : ls = sm_bE xs ys c c2 e e2 u u2 jj (fun k => ls.getD k (I 0))) (hj : JL [4, 10, 14, 25] 0 ls) : sm_SE xs ys c c2 e e2 u u2 jj ls := ⟨_, h, hj.fn⟩
def sm_K : List Keep := [.ren, .ren, .no, .no, .free, .free, .no, .no, .no, .no, .free, .no, .no, .no, .free, .no, .no, .no, .no, .no, .no, .no, .no, .no, .no, .free]
theorem sm_go (xs ys : List Sr) (c c2 e e2 : Nat) (u u2 : Use) {KK : List It} {v' : Value} (hb : xs.length ≤ 1000) (hl : ys.length = xs.length) (hend : ∀ ls, sm_SE xs ys c c2 e e2 u u2 xs.length ls → EndsG Tryz.prog 8 Tryz.f76 (n8 [(rS xs e u), (rS ys e2 u2)]) v' (n8 [(rS xs e u), (rS ys e2 u2)]) (KK) ls ((n8 [(rS xs e u), (rS ys e2 u2)]) ++ [])) : ∀ dd jj, jj + dd = xs.length → ∀ ls, sm_S xs ys c c2 e e2 u u2 jj ls → EndsG Tryz.prog 8 Tryz.f76 (n8 [(rS xs e u), (rS ys e2 u2)]) (ofP (firstP (sm_p xs ys c c2 e e2 u u2) jj dd) (sm_v xs ys c c2 e e2 u u2) v') (n8 [(rS xs e u), (rS ys e2 u2)]) (.code (round 0 (bodyOf 76)) :: .inLoop (round 0 (bodyOf 76)) :: .inBlock 0 :: KK) ls ((n8 [(rS xs e u), (rS ys e2 u2)]) ++ []) := by
  intro dd
  induction dd with
  | zero =>
    rintro jj hjj ls ⟨f, rfl, hj⟩
    have hjn : jj = xs.length := by omega
    subst hjn
    have hr := smC_p0 (f 2) (f 3) (f 4) (f 6) (f 7) (f 8) (f 9) (f 10) (f 11) (f 12) (f 13) (f 14) (f 15) (f 16) (f 17) (f 18) (f 19) (f 20) (f 21) (f 22) (f 23) (f 24) (f 25) (xs.length) (c) ((rS xs e u)) (c2) ((rS ys e2 u2)) ((xs.length : Int)) (decide_eq_false (by first | omega | (simp; omega)))
    refine EndsG.run (k := [.code (round 0 (bodyOf 76)), .inLoop (round 0 (bodyOf 76)), .inBlock 0]) (kk := KK) prog_ok envB_ok hr ?_
    exact hend _ (sm_SE.mk (jj := xs.length) (by kernel_rfl) (.c2 rfl (.f2 hj (.f1 hj (.c1 rfl (.f4 hj (.f1 hj (.c4 rfl (.f8 hj (.f2 hj (.f1 hj .nil)))))))))))
  | succ dd ih =>
    rintro jj hjj ls ⟨f, rfl, hj⟩
    have hlt : jj < xs.length := by omega
    cases g0 : (!(((xs.getD jj s0).x) == ((ys.getD jj s0).x) && (((xs.getD jj s0).y) == ((ys.getD jj s0).y) && (((xs.getD jj s0).g) == ((ys.getD jj s0).g) && (((xs.getD jj s0).p) == ((ys.getD jj s0).p) && true))))) with
    | false =>
      rw [show firstP (sm_p xs ys c c2 e e2 u u2) jj (dd + 1) = firstP (sm_p xs ys c c2 e e2 u u2) (jj + 1) dd from firstP_miss (by simp only [sm_p, g0, cond_true, cond_false])]
      have hr := smA0_p0 (f 2) (f 3) (f 4) (f 6) (f 7) (f 8) (f 9) (f 10) (f 11) (f 12) (f 13) (f 14) (f 15) (f 16) (f 17) (f 18) (f 19) (f 20) (f 21) (f 22) (f 23) (f 24) (f 25) (xs.length) (c) ((rS xs e u)) (c2) ((rS ys e2 u2)) ((jj : Int)) ((jj * 4)) (((xs.getD jj s0).x)) (((xs.getD jj s0).y)) (((xs.getD jj s0).g)) (((xs.getD jj s0).p)) (ix22 (by omega)) (ld24 rfl (by omega)) ((jj * 4)) (((ys.getD jj s0).x)) (((ys.getD jj s0).y)) (((ys.getD jj s0).g)) (((ys.getD jj s0).p)) (ix22 (by omega)) (ld24 rfl (by omega)) (decide_eq_true (by first | omega | (simp; omega))) (g0)
      try rw [wrap_succ' (by omega)] at hr
      refine EndsG.round prog_ok envB_ok hr ?_
      refine EndsG.renumS (X := []) (R := []) (ids := []) (m := sm_K) rfl rfl (by kernel_rfl) .nil (.ren rfl (.ren rfl (.j2 2 hj rfl (.free ((hj 4).1 rfl) (.free rfl (.j4 6 hj rfl (.free ((hj 10).1 rfl) (.n2 rfl (.no rfl (.free rfl (.n8 rfl (.n2 rfl (.free rfl .nil))))))))))))) ?_
      exact ih (jj + 1) (by omega) _ (sm_S.mk (jj := (jj + 1)) (by kernel_rfl) (.c4 rfl (.f1 hj (.c4 rfl (.c1 rfl (.f1 hj (.c8 rfl (.c4 rfl (.c2 rfl (.c1 rfl .nil))))))))))
    | true =>
      have hr := smB0_p0 (f 2) (f 3) (f 4) (f 6) (f 7) (f 8) (f 9) (f 10) (f 11) (f 12) (f 13) (f 14) (f 15) (f 16) (f 17) (f 18) (f 19) (f 20) (f 21) (f 22) (f 23) (f 24) (f 25) (xs.length) (c) ((rS xs e u)) (c2) ((rS ys e2 u2)) ((jj : Int)) ((jj * 4)) (((xs.getD jj s0).x)) (((xs.getD jj s0).y)) (((xs.getD jj s0).g)) (((xs.getD jj s0).p)) (ix22 (by omega)) (ld24 rfl (by omega)) ((jj * 4)) (((ys.getD jj s0).x)) (((ys.getD jj s0).y)) (((ys.getD jj s0).g)) (((ys.getD jj s0).p)) (ix22 (by omega)) (ld24 rfl (by omega)) (decide_eq_true (by first | omega | (simp; omega))) (g0)
      rw [show firstP (sm_p xs ys c c2 e e2 u u2) jj (dd + 1) = some jj from firstP_hit (by simp only [sm_p, g0, cond_true, cond_false])]
      show EndsG _ _ _ _ (sm_v xs ys c c2 e e2 u u2 jj) _ _ _ _
      have ev : sm_v xs ys c c2 e e2 u u2 jj = ((.bool false)) := by simp only [sm_v, g0, cond_true, cond_false]
      rw [ev]
      exact EndsG.out (k := [.code (round 0 (bodyOf 76))]) (kk := .inLoop (round 0 (bodyOf 76)) :: .inBlock 0 :: KK) (X := []) (v := (.bool false)) prog_ok envB_ok hr (by kernel_rfl) (by kernel_rfl)
theorem sm_end (xs ys : List Sr) (c c2 e e2 : Nat) (u u2 : Use) (hb : xs.length ≤ 1000) (hl : ys.length = xs.length) : ∀ ls, sm_SE xs ys c c2 e e2 u u2 xs.length ls → EndsG Tryz.prog 8 Tryz.f76 (n8 [(rS xs e u), (rS ys e2 u2)]) (.bool true) (n8 [(rS xs e u), (rS ys e2 u2)]) ([.code (codeR (codeR (codeR (bodyOf 76))))]) ls ((n8 [(rS xs e u), (rS ys e2 u2)]) ++ []) := by
  rintro ls ⟨f, rfl, hj⟩
  have hr := smZ_p0 (f 2) (f 3) (f 4) (f 5) (f 6) (f 7) (f 8) (f 9) (f 10) (f 11) (f 12) (f 13) (f 14) (f 15) (f 16) (f 17) (f 18) (f 19) (f 20) (f 21) (f 22) (f 23) (f 24) (f 25) (xs.length) (c) ((rS xs e u)) (c2) ((rS ys e2 u2))
  exact EndsG.ret (X := []) (v := (.bool true)) prog_ok envB_ok hr rfl (by kernel_rfl) (by kernel_rfl)
theorem sm_says (xs ys : List Sr) (c c2 e e2 : Nat) (u u2 : Use) (hb : xs.length ≤ 1000) (hl : ys.length = xs.length) : SaysAt Tryz.prog 8 76 [sl 8 0 xs.length c, sl 9 0 xs.length c2] (n8 [(rS xs e u), (rS ys e2 u2)]) (ofP (firstP (sm_p xs ys c c2 e e2 u u2) 0 xs.length) (sm_v xs ys c c2 e e2 u u2) (.bool true)) (n8 [(rS xs e u), (rS ys e2 u2)]) := by
  refine EndsG.says prog_ok Tryz.func76 (c := bodyOf 76) (by kernel_rfl) (by kernel_rfl) ?_
  refine EndsG.seqO (by kernel_rfl) ?_
  refine EndsG.run (k := [.code (codeL (bodyOf 76))]) prog_ok envB_ok (smq0_p0 (xs.length) (c) ((rS xs e u)) (c2) ((rS ys e2 u2)) (by simp)) ?_
  refine EndsG.seqO (by kernel_rfl) ?_
  refine EndsG.run (k := [.code (codeL (codeR (bodyOf 76)))]) prog_ok envB_ok (smq1_p0 (xs.length) (c) ((rS xs e u)) (c2) ((rS ys e2 u2)) (by simp)) ?_
  refine EndsG.seqO (by kernel_rfl) ?_
  refine EndsG.seqO (by kernel_rfl) ?_
  refine EndsG.run (k := [.code (codeL (codeL (codeR (codeR (bodyOf 76)))))]) prog_ok envB_ok (smq2_p0 (xs.length) (c) ((rS xs e u)) (c2) ((rS ys e2 u2)) (by simp)) ?_
  refine EndsG.blockLoop (B := (round 0 (bodyOf 76))) (id := 0) (by kernel_rfl) ?_
  exact sm_go xs ys c c2 e e2 u u2 hb hl (sm_end xs ys c c2 e e2 u u2 hb hl) xs.length 0 (Nat.zero_add _) _ (sm_S.mk (jj := 0) (by kernel_rfl) (.c16 rfl (.c8 rfl (.c2 rfl .nil))))
/-
ArrayMoves: calls without sources.
-/
theorem n20_p0  : Gives Tryz.prog envB 0 20 [.slice none 0 0] heap0 ((.slice .none 0 0), heap0) :=
  Gives.by (n := 1000) (os := []) (os' := []) (by kernel_rfl) (ObsOK.nil)
theorem e20_p0 (c : Nat) (r8 : Option ARow) : Gives Tryz.prog envB 0 20 [sl 8 0 0 c] (H [r8]) ((.slice .none 0 0), (H [r8])) :=
  Gives.by (n := 1000) (os := []) (os' := []) (by kernel_rfl) (ObsOK.nil)
theorem n25_p0  : Gives Tryz.prog envB 0 25 [.slice none 0 0] heap0 ((I 0), heap0) :=
  Gives.by (n := 1000) (os := []) (os' := []) (by kernel_rfl) (ObsOK.nil)
theorem s54e_p0 (e : Int) (f1 : (e == e) = true) (f2 : (e != 0) = true) : Gives Tryz.prog envB 0 54 [.slice none 0 0, I e, I e, .slice none 0 0] heap0 ((.bool true), heap0) :=
  Gives.by (n := 1000) (os := [.br 54 26 true, .br 54 26 true, .br 54 26 true, .br 54 32 true, .br 54 32 true, .br 54 32 true, .br 54 26 true, .br 54 41 true, .br 54 26 true, .br 54 26 true, .br 54 63 true]) (os' := []) (by kernel_rfl) (ObsOK.cond f1 (ObsOK.cond f1 (ObsOK.cond f1 (ObsOK.cond f2 (ObsOK.cond f2 (ObsOK.cond f2 (ObsOK.cond f1 (ObsOK.cond f2 (ObsOK.cond f1 (ObsOK.cond f1 (ObsOK.cond f1 (ObsOK.nil))))))))))))
/-
Lists told are the same: the call.
-/
theorem s54o_p0 (L : List CallC) (n c d : Nat) (r8 r9 rt : Option ARow) (h77 : ∀ (lim : Nat) (A : Heap), A = (H [r8, r9]) → Gives Tryz.prog (envM.calls [76, 77] L) lim 77 [sl 8 0 n c] A (sl 10 0 n n, A ++ [rt])) (h76 : ∀ (lim : Nat) (A : Heap), A = (H [r8, r9, rt]) → Gives Tryz.prog (envM.calls [76, 77] L) lim 76 [sl 10 0 n n, sl 9 0 n d] A (.bool true, A)) : Gives Tryz.prog (envM.calls [76, 77] L) 0 54 [sl 8 0 n c, I 0, I 0, sl 9 0 n d] (H [r8, r9]) ((.bool true), (H [r8, r9])) :=
  Gives.by (n := 1000) (os := [.opw 54 26 (sl 10 0 n n) (H [r8, r9, rt]), .opw 54 28 (.bool true) (H [r8, r9, rt])]) (os' := []) (by kernel_rfl) (ObsOK.call (h77 10 (H [r8, r9]) (by kernel_rfl)) (ObsOK.call (h76 10 (H [r8, r9, rt]) (by kernel_rfl)) (ObsOK.nil)))
/-
ArrayMoves: what the program and the reference make of a list is the same.
-/
theorem fst3 (a b c : Int) : fstI [a, b, c] = if a != 0 then a else if b != 0 then b else c := by
  unfold fstI
  simp only [firstP, List.length_cons, List.length_nil]
  cases h : (a != 0) with
  | true => simp [h]
  | false =>
    cases h2 : (b != 0) with
    | true => simp [h, h2]
    | false =>
      cases h3 : (c != 0) with
      | true => simp [h, h2, h3]
      | false => have := eq_of_beq (by simpa using h3 : (c == 0) = true); simp [h, h2, h3, this]
theorem fst2' (a b : Int) : fstI [a, b] = if a != 0 then a else b := fst2_eq a b
theorem cpl_eq (a : Int) : cpl50_r0 a = if -100 ≤ a ∧ a ≤ 100 then 0 else 3 := by unfold cpl50_r0; exact cr_eq _ _ _
theorem lim_ne (a : Int) : (a != lim_r0 a 100) = !decide (-100 ≤ a ∧ a ≤ 100) := by
  rw [← lim_eq]
  show (!(a == lim_r0 a 100)) = !(lim_r0 a 100 == a)
  rw [Bool.beq_comm]
theorem cpl2_eq (k a b : Int) : fstI [k, cplE [a, b]] = fstI [k, cpl50_r0 a, cpl50_r0 b] := by
  rw [fst2', fst3]
  have e : cplE [a, b] = if cpl50_r0 a != 0 then cpl50_r0 a else cpl50_r0 b := by
    show cp2_r0 a b = _
    unfold cp2_r0 cp2_c0 cp2_c1
    rw [cpl_eq, cpl_eq, lim_ne, lim_ne]
    by_cases h : -100 ≤ a ∧ a ≤ 100 <;> by_cases h2 : -100 ≤ b ∧ b ≤ 100
    · rw [if_pos h, if_pos h2, decide_eq_true h, decide_eq_true h2]; rfl
    · rw [if_pos h, if_neg h2, decide_eq_true h, decide_eq_false h2]; rfl
    · rw [if_neg h, if_pos h2, decide_eq_false h, decide_eq_true h2]; rfl
    · rw [if_neg h, if_neg h2, decide_eq_false h, decide_eq_false h2]; rfl
  rw [e]
theorem okS_mem {xs : List Sr} (h : chkR xs = 0) : ∀ s ∈ xs, okS s := by
  intro s hs
  obtain ⟨k, hk, rfl⟩ := List.getElem_of_mem hs
  have := okS_of h k hk
  rw [show xs.getD k s0 = xs[k] from by simp [List.getD, hk]] at this
  exact this
theorem sN {A : Heap} (h0 : startsB heap0 A = true) : startsB heapN A = true := starts8 (startsB_get h0).1
theorem rows2 {A : Heap} {r r' e e2 : Nat} {u u2 : Use} {xs ys : List Sr} (h : hget A r = some (.cells (srs xs) e u)) (h' : hget A r' = some (.cells (srs ys) e2 u2)) : rowsAt A [r, r'] = some [rS xs e u, rS ys e2 u2] := by
  simp only [rowsAt, h, h', srs_atoms, if_true]
theorem plainS (xs : List Sr) (e : Nat) (u : Use) : [rS xs e u].all plainRow = true := by simp [plainRow, srs_atoms]
theorem sm_same (ys : List Sr) (c d e e2 : Nat) (u u2 : Use) : ofP (firstP (sm_p ys ys c d e e2 u u2) 0 ys.length) (sm_v ys ys c d e e2 u u2) (.bool true) = .bool true := by
  have h : ∀ n j, firstP (sm_p ys ys c d e e2 u u2) j n = none := by
    intro n
    induction n with
    | zero => intro j; rfl
    | succ n ih =>
      intro j
      have hp : sm_p ys ys c d e e2 u u2 j = false := by simp [sm_p]
      simp only [firstP, hp]
      exact ih _
  rw [h]
  rfl
/-- Equal lists are the same. -/
theorem same54 (ys : List Sr) (c d e e2 : Nat) (u u2 : Use) (hb : ys.length ≤ 1000) (hn : 1 ≤ ys.length) : SaysAt Tryz.prog 8 54 [sl 8 0 ys.length c, I 0, I 0, sl 9 0 ys.length d] (heap0 ++ [rS ys e u, rS ys e2 u2]) (.bool true) (heap0 ++ [rS ys e u, rS ys e2 u2] ++ []) := by
  let L : List CallC := [⟨77, [sl 8 0 ys.length c], H [rS ys e u, rS ys e2 u2], sl 10 0 ys.length ys.length, [rS ys 24 .row]⟩, ⟨76, [sl 10 0 ys.length ys.length, sl 9 0 ys.length d], H [rS ys e u, rS ys e2 u2, rS ys 24 .row], .bool true, []⟩]
  have hE : EnvOK Tryz.prog 8 (envM.calls [76, 77] L) := by
    refine Env.calls_ok envM_ok (List.forall_mem_cons.2 ⟨?_, List.forall_mem_cons.2 ⟨?_, fun _ h => nomatch h⟩⟩)
    · exact SaysAt.rows (T := heapN) (R0 := [rS ys e u]) (R1 := [rS ys 24 .row]) [8] (to_says ys c e u hb hn) rfl rfl rfl rfl rfl (rowsS rfl) rfl (plainS _ _ _) rfl
    · have h := sm_says ys ys ys.length d 24 e2 .row u2 hb rfl
      rw [sm_same] at h
      exact SaysAt.rows (T := heapN) (R0 := [rS ys 24 .row, rS ys e2 u2]) (R1 := []) [10, 9] h rfl rfl rfl rfl rfl (rows2 rfl rfl) rfl rfl rfl
  refine SaysAt.of_gives prog_ok hE (s54o_p0 L ys.length c d (rS ys e u) (rS ys e2 u2) (rS ys 24 .row) (fun lim A hA => ?_) (fun lim A hA => ?_))
  · subst hA; have h := Env.calls_here (P := Tryz.prog) (E := envM) (fs := [76, 77]) (L := L) (lim := lim) (keysC_vR rfl) ⟨77, [sl 8 0 ys.length c], H [rS ys e u, rS ys e2 u2], sl 10 0 ys.length ys.length, [rS ys 24 .row]⟩ (List.Mem.head _) rfl; exact h
  · subst hA; have h := Env.calls_here (P := Tryz.prog) (E := envM) (fs := [76, 77]) (L := L) (lim := lim) (keysC_vR rfl) ⟨76, [sl 10 0 ys.length ys.length, sl 9 0 ys.length d], H [rS ys e u, rS ys e2 u2, rS ys 24 .row], .bool true, []⟩ (List.Mem.tail _ (List.Mem.head _)) rfl; exact h
/-- An error told is the same. -/
theorem err54 {o : Int} (h : (o == 0) = false) (A : Heap) (h0 : startsB heap0 A = true) : SaysAt Tryz.prog 8 54 [.slice none 0 0, I o, I o, .slice none 0 0] A (.bool true) (A ++ []) :=
  SaysAt.rows (T := heap0) (R0 := []) (R1 := []) [] (SaysAt.of_gives prog_ok envB_ok (s54e_p0 o (by simp) (by simp at h; simp [h]))) rfl rfl h0 rfl rfl rfl rfl rfl rfl
/-
ArrayRepeats: the calls of a repetition by nothing.
-/
/-- The checks of nil. -/
theorem n29 (A : Heap) (h0 : startsB heapN A = true) : SaysAt Tryz.prog 8 29 [.slice none 0 0] A (I 0) (A ++ []) :=
  SaysAt.rows (T := heapN) (R0 := []) (R1 := []) [] (SaysAt.of_gives prog_ok envB_ok n29_p0) rfl rfl h0 rfl rfl rfl rfl rfl rfl
theorem n25a (A : Heap) (h0 : startsB heapN A = true) : SaysAt Tryz.prog 8 25 [.slice none 0 0] A (I 0) (A ++ []) :=
  SaysAt.rows (T := heapN) (R0 := []) (R1 := []) [] (SaysAt.of_gives prog_ok envB_ok n25N_p0) rfl rfl h0 rfl rfl rfl rfl rfl rfl
def pnL (xs : List Sr) (c e : Nat) (u : Use) : List CallC := [⟨29, [sl 8 0 xs.length c], n8 [rS xs e u], I (chkR xs), []⟩, ⟨84, [sl 9 0 2 2], n8 [rS xs e u, rI [chkR xs, 0] 27 .row], I (fstI [chkR xs, 0]), []⟩, ⟨29, [.slice none 0 0], n8 [rS xs e u], I 0, []⟩]
theorem pnOne (xs : List Sr) (c e : Nat) (u : Use) : ∀ a ∈ pnL xs c e u, ∀ b ∈ pnL xs c e u, a.f = b.f → a.args = b.args → a.A = b.A → a.v = b.v ∧ a.R = b.R :=
  calls_two (L1 := (pnL xs c e u).take 2) (X := (pnL xs c e u).drop 2) rfl (fc ⟨List.forall_mem_append.2 ⟨fc ⟨fun _ h => by simp at h, fc ⟨fun h => ne_f rfl h, fN⟩⟩, fc ⟨fun _ _ => ⟨rfl, rfl⟩, fN⟩⟩, fN⟩)
theorem pnOk (xs : List Sr) (c e : Nat) (u : Use) (hb : xs.length ≤ 1000) : EnvOK Tryz.prog 8 (envM.calls [29, 84] (pnL xs c e u)) := by
  refine Env.calls_ok envM_ok (fc ⟨?_, fc ⟨?_, fc ⟨n29 _ rfl, fN⟩⟩⟩)
  · exact chk_eq xs ▸ SaysAt.rows (T := heapN) (R0 := [rS xs e u]) (R1 := []) [8] (ca_says xs c e u hb) rfl rfl rfl rfl rfl (rowsS rfl) rfl rfl rfl
  · exact SaysAt.rows (T := heapN) (R0 := [rI [chkR xs, 0] 27 .row]) (R1 := []) [9] (fi_says' [chkR xs, 0] 2 27 .row (show (2 : Nat) ≤ 1000 by decide)) rfl rfl rfl rfl rfl (rowsI rfl) rfl rfl rfl
/-
The program's repetition by nothing: pieces.
-/
theorem pnq0_p0  (n c : Nat) (r8 : Option ARow) (k1 o : Int) (L : List CallC) (h29a : ∀ (lim : Nat) (A : Heap), A = (n8 [r8]) → Gives Tryz.prog (envM.calls [29, 84] L) lim 29 [sl 8 0 n c] A (I k1, A)) (h29b : ∀ (lim : Nat) (A : Heap), A = (n8 [r8]) → Gives Tryz.prog (envM.calls [29, 84] L) lim 29 [.slice none 0 0] A (I 0, A)) (h84 : ∀ (lim : Nat) (A : Heap), A = (n8 [r8, some (.cells [I k1, I 0] 27 .row)]) → Gives Tryz.prog (envM.calls [29, 84] L) lim 84 [sl 9 0 2 2] A (I o, A)) (fz : (o != 0) = false) : Runs Tryz.prog (envM.calls [29, 84] L) 9 [.code (codeL (bodyOf 55))] [sl 8 0 n c, .slice none 0 0, U, U, U, U, U, U, U, U, U, U, U, U, U, U, U, U, U, U, U, U, U, U, U, U, U, U, U, U, U, U, U, U, U, U, U, U, U, U, U, U, U, U, U, U, U, U, U, U, U, U, U, U, U, U, U, U, U, U, U, U, U, U] (n8 [r8]) ([(sl 8 0 n c), (.slice .none 0 0), U, U, (.slice .none 0 0), (I 0), U, U, U, U, U, U, U, U, U, U, U, U, U, U, U, U, U, U, U, U, U, U, U, U, U, U, U, U, U, U, U, U, U, U, U, U, U, U, U, U, U, U, U, U, U, U, U, U, U, U, U, U, U, U, U, U, U, U], (n8 [r8]), none) :=
  Runs.by (n := 1000) (fid := 55) (os := []) (os' := []) (by kernel_rfl) (ObsOK.nil)
theorem pnq1_p0  (n c : Nat) (r8 : Option ARow) (k1 o : Int) (L : List CallC) (h29a : ∀ (lim : Nat) (A : Heap), A = (n8 [r8]) → Gives Tryz.prog (envM.calls [29, 84] L) lim 29 [sl 8 0 n c] A (I k1, A)) (h29b : ∀ (lim : Nat) (A : Heap), A = (n8 [r8]) → Gives Tryz.prog (envM.calls [29, 84] L) lim 29 [.slice none 0 0] A (I 0, A)) (h84 : ∀ (lim : Nat) (A : Heap), A = (n8 [r8, some (.cells [I k1, I 0] 27 .row)]) → Gives Tryz.prog (envM.calls [29, 84] L) lim 84 [sl 9 0 2 2] A (I o, A)) (fz : (o != 0) = false) : Runs Tryz.prog (envM.calls [29, 84] L) 9 [.code (codeL (codeR (bodyOf 55)))] [(sl 8 0 n c), (.slice .none 0 0), U, U, (.slice .none 0 0), (I 0), U, U, U, U, U, U, U, U, U, U, U, U, U, U, U, U, U, U, U, U, U, U, U, U, U, U, U, U, U, U, U, U, U, U, U, U, U, U, U, U, U, U, U, U, U, U, U, U, U, U, U, U, U, U, U, U, U, U] (n8 [r8]) ([(sl 8 0 n c), (.slice .none 0 0), U, U, (.slice .none 0 0), (I 0), I o, U, U, U, U, U, (sl 8 0 n c), I k1, (.slice .none 0 0), (I 0), (sl 9 0 2 2), I o, I o, (.bool (o != 0)), U, U, U, U, U, U, U, U, U, U, U, U, U, U, U, U, U, U, U, U, U, U, U, U, U, U, U, U, U, U, U, U, U, U, U, U, U, U, U, U, U, U, U, U], (n8 [r8, (.some (.cells [I k1, (I 0)] 27 .row))]), none) :=
  Runs.by (n := 1000) (fid := 55) (os := [.opw 55 14 (I k1) (n8 [r8]), .opw 55 16 (I 0) (n8 [r8]), .opw 55 18 (I o) (n8 [r8, (.some (.cells [I k1, (I 0)] 27 .row))]), .br 55 40 false]) (os' := []) (by kernel_rfl) (ObsOK.call (h29a 9 (n8 [r8]) (by kernel_rfl)) (ObsOK.call (h29b 9 (n8 [r8]) (by kernel_rfl)) (ObsOK.call (h84 9 (n8 [r8, (.some (.cells [I k1, (I 0)] 27 .row))]) (by kernel_rfl)) (ObsOK.cond fz (ObsOK.nil)))))
theorem pnq2_p0  (n c : Nat) (r8 : Option ARow) (k1 o : Int) (L : List CallC) (h29a : ∀ (lim : Nat) (A : Heap), A = (n8 [r8]) → Gives Tryz.prog (envM.calls [29, 84] L) lim 29 [sl 8 0 n c] A (I k1, A)) (h29b : ∀ (lim : Nat) (A : Heap), A = (n8 [r8]) → Gives Tryz.prog (envM.calls [29, 84] L) lim 29 [.slice none 0 0] A (I 0, A)) (h84 : ∀ (lim : Nat) (A : Heap), A = (n8 [r8, some (.cells [I k1, I 0] 27 .row)]) → Gives Tryz.prog (envM.calls [29, 84] L) lim 84 [sl 9 0 2 2] A (I o, A)) (fz : (o != 0) = false) : Runs Tryz.prog (envM.calls [29, 84] L) 9 [.code (codeL (codeR (codeR (bodyOf 55))))] [(sl 8 0 n c), (.slice .none 0 0), U, U, (.slice .none 0 0), (I 0), I o, U, U, U, U, U, (sl 8 0 n c), I k1, (.slice .none 0 0), (I 0), (sl 9 0 2 2), I o, I o, (.bool (o != 0)), U, U, U, U, U, U, U, U, U, U, U, U, U, U, U, U, U, U, U, U, U, U, U, U, U, U, U, U, U, U, U, U, U, U, U, U, U, U, U, U, U, U, U, U] (n8 [r8, (.some (.cells [I k1, (I 0)] 27 .row))]) ([(sl 8 0 n c), (.slice .none 0 0), U, U, (.slice .none 0 0), (I 0), I o, (.slice .none 0 0), U, U, U, U, (sl 8 0 n c), I k1, (.slice .none 0 0), (I 0), (sl 9 0 2 2), I o, I o, (.bool (o != 0)), U, U, U, U, U, U, U, U, U, U, U, U, U, U, U, U, U, U, U, U, U, U, U, U, U, U, U, U, U, U, U, U, U, U, U, U, U, U, U, U, U, U, U, U], (n8 [r8, (.some (.cells [I k1, (I 0)] 27 .row))]), none) :=
  Runs.by (n := 1000) (fid := 55) (os := []) (os' := []) (by kernel_rfl) (ObsOK.nil)
theorem pnq3_p0  (n c : Nat) (r8 : Option ARow) (k1 o : Int) (L : List CallC) (h29a : ∀ (lim : Nat) (A : Heap), A = (n8 [r8]) → Gives Tryz.prog (envM.calls [29, 84] L) lim 29 [sl 8 0 n c] A (I k1, A)) (h29b : ∀ (lim : Nat) (A : Heap), A = (n8 [r8]) → Gives Tryz.prog (envM.calls [29, 84] L) lim 29 [.slice none 0 0] A (I 0, A)) (h84 : ∀ (lim : Nat) (A : Heap), A = (n8 [r8, some (.cells [I k1, I 0] 27 .row)]) → Gives Tryz.prog (envM.calls [29, 84] L) lim 84 [sl 9 0 2 2] A (I o, A)) (fz : (o != 0) = false) : Runs Tryz.prog (envM.calls [29, 84] L) 9 [.code (codeL (codeL (codeR (codeR (codeR (bodyOf 55))))))] [(sl 8 0 n c), (.slice .none 0 0), U, U, (.slice .none 0 0), (I 0), I o, (.slice .none 0 0), U, U, U, U, (sl 8 0 n c), I k1, (.slice .none 0 0), (I 0), (sl 9 0 2 2), I o, I o, (.bool (o != 0)), U, U, U, U, U, U, U, U, U, U, U, U, U, U, U, U, U, U, U, U, U, U, U, U, U, U, U, U, U, U, U, U, U, U, U, U, U, U, U, U, U, U, U, U] (n8 [r8, (.some (.cells [I k1, (I 0)] 27 .row))]) ([(sl 8 0 n c), (.slice .none 0 0), U, U, (.slice .none 0 0), (I 0), I o, (.slice .none 0 0), U, U, U, U, (sl 8 0 n c), I k1, (.slice .none 0 0), (I 0), (sl 9 0 2 2), I o, I o, (.bool (o != 0)), U, (sl 8 0 n c), (I ((n : Int))), (I 0), U, U, U, U, U, U, U, U, U, U, U, U, U, U, U, U, U, U, U, U, U, U, U, U, U, U, U, U, U, U, U, U, U, U, U, U, U, U, U, U], (n8 [r8, (.some (.cells [I k1, (I 0)] 27 .row))]), none) :=
  Runs.by (n := 1000) (fid := 55) (os := []) (os' := []) (by kernel_rfl) (ObsOK.nil)
theorem pnA0_p0 (v0 v2 v3 v4 v5 v6 v8 v9 v10 v11 v12 v13 v14 v15 v16 v17 v18 v19 v20 v24 v25 v26 v27 v28 v29 v30 v31 v32 v33 v34 v35 v36 v37 v38 v39 v40 v41 v42 v43 v44 v45 v46 v47 v48 v49 v50 v51 v52 v53 v54 v55 v56 v57 v58 v59 v60 v61 v62 v63 : Value) (n c : Nat) (r8 : Option ARow) (k1 o : Int) (L : List CallC) (i : Int) (k8 : Nat) (z8x z8y z8g z8p : Int) (hx8 : aIndexAddr Tryz.prog 37 (sl 8 0 n c) (I i) = some (pt 8 k8)) (hl8 : aLoad Tryz.prog 32 (pt 8 k8) (n8 [r8]) = some (.agg #[I z8x, I z8y, I z8g, I z8p])) (f1 : decide (i < ((n : Int))) = true) : Runs Tryz.prog envM 9 [.code (round 0 (bodyOf 55))] [v0, (.slice .none 0 0), v2, v3, v4, v5, v6, .slice none 0 0, v8, v9, v10, v11, v12, v13, v14, v15, v16, v17, v18, v19, v20, (sl 8 0 n c), (I ((n : Int))), I i, v24, v25, v26, v27, v28, v29, v30, v31, v32, v33, v34, v35, v36, v37, v38, v39, v40, v41, v42, v43, v44, v45, v46, v47, v48, v49, v50, v51, v52, v53, v54, v55, v56, v57, v58, v59, v60, v61, v62, v63] (n8 [r8]) ([v0, (.slice .none 0 0), v2, v3, v4, v5, v6, (.slice .none 0 0), v8, (pt 9 0), v10, v11, v12, v13, v14, v15, v16, v17, v18, v19, v20, (sl 8 0 n c), (I ((n : Int))), (I (IntKind.i64.wrap (i + 1))), (.bool (decide (i < (n : Int)))), (pt 8 k8), (.agg #[I z8x, I z8y, I z8g, I z8p]), (.slice .none 0 0), (I 0), (I 0), (.bool false), v31, v32, v33, v34, v35, v36, v37, v38, v39, v40, v41, v42, v43, v44, v45, v46, v47, v48, v49, v50, v51, v52, v53, v54, v55, v56, v57, v58, (I (IntKind.i64.wrap (i + 1))), v60, v61, v62, v63], (n8 [r8, (.some (.cells [I z8x, I z8y, I z8g, I z8p] 32 .var))]), none) :=
  Runs.by (n := 1000) (fid := 55) (os := [.br 55 50 true, .op 55 26 (pt 8 k8), .op 55 27 (.agg #[I z8x, I z8y, I z8g, I z8p])]) (os' := []) (by kernel_rfl) (ObsOK.cond f1 (ObsOK.val hx8 (ObsOK.val hl8 (ObsOK.nil))))
theorem pnC_p0 (v0 v2 v3 v4 v5 v6 v8 v9 v10 v11 v12 v13 v14 v15 v16 v17 v18 v19 v20 v24 v25 v26 v27 v28 v29 v30 v31 v32 v33 v34 v35 v36 v37 v38 v39 v40 v41 v42 v43 v44 v45 v46 v47 v48 v49 v50 v51 v52 v53 v54 v55 v56 v57 v58 v59 v60 v61 v62 v63 : Value) (n c : Nat) (r8 : Option ARow) (k1 o : Int) (L : List CallC) (i : Int) (f1 : decide (i < ((n : Int))) = false) : Runs Tryz.prog envM 9 [.code (round 0 (bodyOf 55)), .inLoop (round 0 (bodyOf 55)), .inBlock 0] [v0, (.slice .none 0 0), v2, v3, v4, v5, v6, .slice none 0 0, v8, v9, v10, v11, v12, v13, v14, v15, v16, v17, v18, v19, v20, (sl 8 0 n c), (I ((n : Int))), I i, v24, v25, v26, v27, v28, v29, v30, v31, v32, v33, v34, v35, v36, v37, v38, v39, v40, v41, v42, v43, v44, v45, v46, v47, v48, v49, v50, v51, v52, v53, v54, v55, v56, v57, v58, v59, v60, v61, v62, v63] (n8 [r8]) ([v0, (.slice .none 0 0), v2, v3, v4, v5, v6, (.slice .none 0 0), v8, v9, v10, v11, v12, v13, v14, v15, v16, v17, v18, v19, v20, (sl 8 0 n c), (I ((n : Int))), I i, (.bool (decide (i < (n : Int)))), v25, v26, v27, v28, v29, v30, v31, v32, v33, v34, v35, v36, v37, v38, v39, v40, v41, v42, v43, v44, v45, v46, v47, v48, v49, v50, v51, v52, v53, v54, v55, v56, v57, v58, v59, v60, v61, v62, v63], (n8 [r8]), none) :=
  Runs.by (n := 1000) (fid := 55) (os := [.br 55 50 false]) (os' := []) (by kernel_rfl) (ObsOK.cond f1 (ObsOK.nil))
theorem pnZ_p0 (v0 v2 v3 v4 v5 v6 v8 v9 v10 v11 v12 v13 v14 v15 v16 v17 v18 v19 v20 v23 v24 v25 v26 v27 v28 v29 v30 v31 v32 v33 v34 v35 v36 v37 v38 v39 v40 v41 v42 v43 v44 v45 v46 v47 v48 v49 v50 v51 v52 v53 v54 v55 v56 v57 v58 v59 v60 v61 v62 v63 : Value) (n c : Nat) (r8 : Option ARow) (k1 o : Int) (L : List CallC) (h29 : ∀ (lim : Nat) (A : Heap), A = (n8 [r8]) → Gives Tryz.prog (envM.calls [29, 84] L) lim 29 [.slice none 0 0] A (I 0, A)) : Runs Tryz.prog (envM.calls [29, 84] L) 9 [.code (codeR (codeR (codeR (codeR (bodyOf 55)))))] [v0, (.slice .none 0 0), v2, v3, v4, v5, v6, .slice none 0 0, v8, v9, v10, v11, v12, v13, v14, v15, v16, v17, v18, v19, v20, (sl 8 0 n c), (I ((n : Int))), v23, v24, v25, v26, v27, v28, v29, v30, v31, v32, v33, v34, v35, v36, v37, v38, v39, v40, v41, v42, v43, v44, v45, v46, v47, v48, v49, v50, v51, v52, v53, v54, v55, v56, v57, v58, v59, v60, v61, v62, v63] (n8 [r8]) ([v0, (.slice .none 0 0), v2, v3, (.slice .none 0 0), (I 0), v6, (.slice .none 0 0), v8, v9, v10, v11, v12, v13, v14, v15, v16, v17, v18, v19, v20, (sl 8 0 n c), (I ((n : Int))), v23, v24, v25, v26, v27, v28, v29, v30, v31, v32, v33, v34, v35, v36, v37, v38, v39, v40, v41, v42, v43, v44, v45, v46, v47, v48, v49, v50, v51, v52, v53, v54, v55, v56, v57, v58, v59, (.slice .none 0 0), (.tuple #[(.slice .none 0 0), (I 0)]), (.slice .none 0 0), (I 0)], (n8 [r8]), some .ret) :=
  Runs.by (n := 1000) (fid := 55) (os := [.opw 100 7 (I 0) (n8 [r8])]) (os' := []) (by kernel_rfl) (ObsOK.call (h29 9 (n8 [r8]) (by kernel_rfl)) (ObsOK.nil))
/-
The program's repetition by nothing.
-/
def pn_b (xs : List Sr) (c e : Nat) (u : Use) (jj : Nat) (f : Nat → Value) : List Value := [f 0, (.slice .none 0 0), f 2, f 3, f 4, f 5, f 6, .slice none 0 0, f 8, f 9, f 10, f 11, f 12, f 13, f 14, f 15, f 16, f 17, f 18, f 19, f 20, (sl 8 0 xs.length c), (I ((xs.length : Int))), I (jj : Int), f 24, f 25, f 26, f 27, f 28, f 29, f 30, f 31, f 32, f 33, f 34, f 35, f 36, f 37, f 38, f 39, f 40, f 41, f 42, f 43, f 44, f 45, f 46, f 47, f 48, f 49, f 50, f 51, f 52, f 53, f 54, f 55, f 56, f 57, f 58, f 59, f 60, f 61, f 62, f 63]
def pn_S (xs : List Sr) (c e : Nat) (u : Use) (jj : Nat) (ls : List Value) : Prop := ∃ f : Nat → Value, ls = pn_b xs c e u jj f ∧ JF [19, 24, 30] f
theorem pn_S.mk {xs : List Sr} {c e : Nat} {u : Use} {jj : Nat} {ls : List Value} (h : ls = pn_b xs c e u jj (fun k => ls.getD k (I 0))) (hj : JL [19, 24, 30] 0 ls) : pn_S xs c e u jj ls := ⟨_, h, hj.fn⟩
def pn_bE (xs : List Sr) (c e : Nat) (u : Use) (jj : Nat) (f : Nat → Value) : List Value := [f 0, (.slice .none 0 0), f 2, f 3, f 4, f 5, f 6, .slice none 0 0, f 8, f 9, f 10, f 11, f 12, f 13, f 14, f 15, f 16, f 17, f 18, f 19, f 20, (sl 8 0 xs.length c), (I ((xs.length : Int))), f 23, f 24, f 25, f 26, f 27, f 28, f 29, f 30, f 31, f 32, f 33, f 34, f 35, f 36, f 37, f 38, f 39, f 40, f 41, f 42, f 43, f 44, f 45, f 46, f 47, f 48, f 49, f 50, f 51, f 52, f 53, f 54, f 55, f 56, f 57, f 58, f 59, f 60, f 61, f 62, f 63]
def pn_SE (xs : List Sr) (c e : Nat) (u : Use) (jj : Nat) (ls : List Value) : Prop := ∃ f : Nat → Value, ls = pn_bE xs c e u jj f ∧ JF [19, 24, 30] f
theorem pn_SE.mk {xs : List Sr} {c e : Nat} {u : Use} {jj : Nat} {ls : List Value} (h : ls = pn_bE xs c e u jj (fun k => ls.getD k (I 0))) (hj : JL [19, 24, 30] 0 ls) : pn_SE xs c e u jj ls := ⟨_, h, hj.fn⟩
def pn_K : List Keep := Keep.no :: Keep.free :: Keep.no :: Keep.no :: Keep.no :: Keep.no :: Keep.no :: Keep.free :: Keep.no :: Keep.no :: Keep.no :: Keep.no :: Keep.no :: Keep.no :: Keep.no :: Keep.no :: Keep.no :: Keep.no :: Keep.no :: Keep.free :: Keep.no :: Keep.ren :: Keep.free :: Keep.free :: Keep.free :: Keep.no :: Keep.no :: Keep.no :: Keep.no :: Keep.no :: Keep.free :: Keep.no :: Keep.no :: Keep.no :: Keep.no :: Keep.no :: Keep.no :: Keep.no :: Keep.no :: Keep.no :: Keep.no :: Keep.no :: Keep.no :: Keep.no :: Keep.no :: Keep.no :: Keep.no :: Keep.no :: Keep.no :: Keep.no :: Keep.no :: Keep.no :: Keep.no :: Keep.no :: Keep.no :: Keep.no :: Keep.no :: Keep.no :: Keep.no :: Keep.no :: Keep.no :: Keep.no :: Keep.no :: Keep.no :: []
theorem pn_go (xs : List Sr) (c e : Nat) (u : Use) {KK : List It} {v' : Value} {A' : Heap} (hb : xs.length ≤ 1000) (ho : (fstI [chkR xs, 0] != 0) = false) (hend : ∀ ls, pn_SE xs c e u xs.length ls → EndsG Tryz.prog 8 Tryz.f55 (n8 [(rS xs e u)]) v' A' (KK) ls ((n8 [(rS xs e u)]) ++ [])) : ∀ dd jj, jj + dd = xs.length → ∀ ls, pn_S xs c e u jj ls → EndsG Tryz.prog 8 Tryz.f55 (n8 [(rS xs e u)]) v' A' (.code (round 0 (bodyOf 55)) :: .inLoop (round 0 (bodyOf 55)) :: .inBlock 0 :: KK) ls ((n8 [(rS xs e u)]) ++ []) := by
  intro dd
  induction dd with
  | zero =>
    rintro jj hjj ls ⟨f, rfl, hj⟩
    have hjn : jj = xs.length := by omega
    subst hjn
    have hr := pnC_p0 (f 0) (f 2) (f 3) (f 4) (f 5) (f 6) (f 8) (f 9) (f 10) (f 11) (f 12) (f 13) (f 14) (f 15) (f 16) (f 17) (f 18) (f 19) (f 20) (f 24) (f 25) (f 26) (f 27) (f 28) (f 29) (f 30) (f 31) (f 32) (f 33) (f 34) (f 35) (f 36) (f 37) (f 38) (f 39) (f 40) (f 41) (f 42) (f 43) (f 44) (f 45) (f 46) (f 47) (f 48) (f 49) (f 50) (f 51) (f 52) (f 53) (f 54) (f 55) (f 56) (f 57) (f 58) (f 59) (f 60) (f 61) (f 62) (f 63) (xs.length) (c) ((rS xs e u)) ((chkR xs)) ((fstI [chkR xs, 0])) ((pnL xs c e u)) ((xs.length : Int)) (decide_eq_false (by first | omega | (simp; omega)))
    refine EndsG.run (k := [.code (round 0 (bodyOf 55)), .inLoop (round 0 (bodyOf 55)), .inBlock 0]) (kk := KK) prog_ok envM_ok hr ?_
    exact hend _ (pn_SE.mk (jj := xs.length) (by kernel_rfl) (.f1 hj (.c1 rfl (.f4 hj (.f1 hj (.c1 rfl (.f8 hj (.f4 hj (.f1 hj (.c4 rfl (.f16 hj (.f16 hj (.f4 hj (.f2 hj (.f1 hj .nil)))))))))))))))
  | succ dd ih =>
    rintro jj hjj ls ⟨f, rfl, hj⟩
    have hlt : jj < xs.length := by omega
    have hr := pnA0_p0 (f 0) (f 2) (f 3) (f 4) (f 5) (f 6) (f 8) (f 9) (f 10) (f 11) (f 12) (f 13) (f 14) (f 15) (f 16) (f 17) (f 18) (f 19) (f 20) (f 24) (f 25) (f 26) (f 27) (f 28) (f 29) (f 30) (f 31) (f 32) (f 33) (f 34) (f 35) (f 36) (f 37) (f 38) (f 39) (f 40) (f 41) (f 42) (f 43) (f 44) (f 45) (f 46) (f 47) (f 48) (f 49) (f 50) (f 51) (f 52) (f 53) (f 54) (f 55) (f 56) (f 57) (f 58) (f 59) (f 60) (f 61) (f 62) (f 63) (xs.length) (c) ((rS xs e u)) ((chkR xs)) ((fstI [chkR xs, 0])) ((pnL xs c e u)) ((jj : Int)) ((jj * 4)) (((xs.getD jj s0).x)) (((xs.getD jj s0).y)) (((xs.getD jj s0).g)) (((xs.getD jj s0).p)) (ix37 (by omega)) (ld32 rfl (by omega)) (decide_eq_true (by first | omega | (simp; omega)))
    try rw [wrap_succ' (by omega)] at hr
    refine EndsG.round prog_ok envM_ok hr ?_
    refine EndsG.renumS (X := [_]) (R := []) (ids := []) (m := pn_K) rfl rfl (by kernel_rfl) .nil (.j1 0 hj rfl (.free rfl (.j4 2 hj rfl (.j1 6 hj rfl (.free rfl (.j1 8 hj rfl (.no rfl (.j8 10 hj rfl (.j1 18 hj rfl (.free ((hj 19).1 rfl) (.j1 20 hj rfl (.ren rfl (.free rfl (.free rfl (.free rfl (.n4 rfl (.no rfl (.free rfl (.j16 31 hj rfl (.j8 47 hj rfl (.j4 55 hj rfl (.no rfl (.j4 60 hj rfl .nil))))))))))))))))))))))) ?_
    exact ih (jj + 1) (by omega) _ (pn_S.mk (jj := (jj + 1)) (by kernel_rfl) (.c16 rfl (.c2 rfl (.c1 rfl (.f1 hj (.c16 rfl (.c16 rfl (.c8 rfl (.c4 rfl .nil)))))))))
theorem pn_end (xs : List Sr) (c e : Nat) (u : Use) (hb : xs.length ≤ 1000) (ho : (fstI [chkR xs, 0] != 0) = false) : ∀ ls, pn_SE xs c e u xs.length ls → EndsG Tryz.prog 8 Tryz.f55 (n8 [(rS xs e u)]) (.tuple #[.slice none 0 0, I 0]) (n8 [(rS xs e u)]) ([.code (codeR (codeR (codeR (codeR (bodyOf 55)))))]) ls ((n8 [(rS xs e u)]) ++ []) := by
  rintro ls ⟨f, rfl, hj⟩
  have hr := pnZ_p0 (f 0) (f 2) (f 3) (f 4) (f 5) (f 6) (f 8) (f 9) (f 10) (f 11) (f 12) (f 13) (f 14) (f 15) (f 16) (f 17) (f 18) (f 19) (f 20) (f 23) (f 24) (f 25) (f 26) (f 27) (f 28) (f 29) (f 30) (f 31) (f 32) (f 33) (f 34) (f 35) (f 36) (f 37) (f 38) (f 39) (f 40) (f 41) (f 42) (f 43) (f 44) (f 45) (f 46) (f 47) (f 48) (f 49) (f 50) (f 51) (f 52) (f 53) (f 54) (f 55) (f 56) (f 57) (f 58) (f 59) (f 60) (f 61) (f 62) (f 63) (xs.length) (c) ((rS xs e u)) ((chkR xs)) ((fstI [chkR xs, 0])) ((pnL xs c e u)) (fun lim A hA => by subst hA; exact calls_here2 (E := envM) (fs := [29, 84]) (lim := lim) (pnOne xs c e u) _ (List.mem_of_getElem? (i := 2) rfl) rfl)
  exact EndsG.ret (X := []) (v := .tuple #[(.slice .none 0 0), (I 0)]) prog_ok (pnOk xs c e u hb) hr rfl (by kernel_rfl) (by kernel_rfl)
theorem pn_says (xs : List Sr) (c e : Nat) (u : Use) (hb : xs.length ≤ 1000) (ho : (fstI [chkR xs, 0] != 0) = false) : SaysAt Tryz.prog 8 55 [sl 8 0 xs.length c, .slice none 0 0] (n8 [(rS xs e u)]) (.tuple #[.slice none 0 0, I 0]) (n8 [(rS xs e u)]) := by
  refine EndsG.says prog_ok Tryz.func55 (c := bodyOf 55) (by kernel_rfl) (by kernel_rfl) ?_
  refine EndsG.seqO (by kernel_rfl) ?_
  refine EndsG.run (k := [.code (codeL (bodyOf 55))]) prog_ok (pnOk xs c e u hb) (pnq0_p0 (xs.length) (c) ((rS xs e u)) ((chkR xs)) ((fstI [chkR xs, 0])) ((pnL xs c e u)) (fun lim A hA => by subst hA; exact calls_here2 (E := envM) (fs := [29, 84]) (lim := lim) (pnOne xs c e u) _ (List.mem_of_getElem? (i := 0) rfl) rfl) (fun lim A hA => by subst hA; exact calls_here2 (E := envM) (fs := [29, 84]) (lim := lim) (pnOne xs c e u) _ (List.mem_of_getElem? (i := 2) rfl) rfl) (fun lim A hA => by subst hA; exact calls_here2 (E := envM) (fs := [29, 84]) (lim := lim) (pnOne xs c e u) _ (List.mem_of_getElem? (i := 1) rfl) rfl) (ho)) ?_
  refine EndsG.seqO (by kernel_rfl) ?_
  refine EndsG.run (k := [.code (codeL (codeR (bodyOf 55)))]) prog_ok (pnOk xs c e u hb) (pnq1_p0 (xs.length) (c) ((rS xs e u)) ((chkR xs)) ((fstI [chkR xs, 0])) ((pnL xs c e u)) (fun lim A hA => by subst hA; exact calls_here2 (E := envM) (fs := [29, 84]) (lim := lim) (pnOne xs c e u) _ (List.mem_of_getElem? (i := 0) rfl) rfl) (fun lim A hA => by subst hA; exact calls_here2 (E := envM) (fs := [29, 84]) (lim := lim) (pnOne xs c e u) _ (List.mem_of_getElem? (i := 2) rfl) rfl) (fun lim A hA => by subst hA; exact calls_here2 (E := envM) (fs := [29, 84]) (lim := lim) (pnOne xs c e u) _ (List.mem_of_getElem? (i := 1) rfl) rfl) (ho)) ?_
  refine EndsG.seqO (by kernel_rfl) ?_
  refine EndsG.run (k := [.code (codeL (codeR (codeR (bodyOf 55))))]) prog_ok (pnOk xs c e u hb) (pnq2_p0 (xs.length) (c) ((rS xs e u)) ((chkR xs)) ((fstI [chkR xs, 0])) ((pnL xs c e u)) (fun lim A hA => by subst hA; exact calls_here2 (E := envM) (fs := [29, 84]) (lim := lim) (pnOne xs c e u) _ (List.mem_of_getElem? (i := 0) rfl) rfl) (fun lim A hA => by subst hA; exact calls_here2 (E := envM) (fs := [29, 84]) (lim := lim) (pnOne xs c e u) _ (List.mem_of_getElem? (i := 2) rfl) rfl) (fun lim A hA => by subst hA; exact calls_here2 (E := envM) (fs := [29, 84]) (lim := lim) (pnOne xs c e u) _ (List.mem_of_getElem? (i := 1) rfl) rfl) (ho)) ?_
  refine EndsG.seqO (by kernel_rfl) ?_
  refine EndsG.seqO (by kernel_rfl) ?_
  refine EndsG.run (k := [.code (codeL (codeL (codeR (codeR (codeR (bodyOf 55))))))]) prog_ok (pnOk xs c e u hb) (pnq3_p0 (xs.length) (c) ((rS xs e u)) ((chkR xs)) ((fstI [chkR xs, 0])) ((pnL xs c e u)) (fun lim A hA => by subst hA; exact calls_here2 (E := envM) (fs := [29, 84]) (lim := lim) (pnOne xs c e u) _ (List.mem_of_getElem? (i := 0) rfl) rfl) (fun lim A hA => by subst hA; exact calls_here2 (E := envM) (fs := [29, 84]) (lim := lim) (pnOne xs c e u) _ (List.mem_of_getElem? (i := 2) rfl) rfl) (fun lim A hA => by subst hA; exact calls_here2 (E := envM) (fs := [29, 84]) (lim := lim) (pnOne xs c e u) _ (List.mem_of_getElem? (i := 1) rfl) rfl) (ho)) ?_
  refine EndsG.blockLoop (B := (round 0 (bodyOf 55))) (id := 0) (by kernel_rfl) ?_
  refine EndsG.renumS (X := [_]) (R := []) (ids := []) (m := pn_K) rfl rfl (by kernel_rfl) .nil (.no rfl (.free rfl (.n4 rfl (.no rfl (.free rfl (.n8 rfl (.n2 rfl (.no rfl (.free rfl (.no rfl (.ren rfl (.free rfl (.free rfl (.free rfl (.n4 rfl (.no rfl (.free rfl (.n16 rfl (.n16 rfl (.no rfl .nil)))))))))))))))))))) ?_
  exact pn_go xs c e u hb ho (pn_end xs c e u hb ho ) xs.length 0 (Nat.zero_add _) _ (pn_S.mk (jj := 0) (by kernel_rfl) (.c16 rfl (.c16 rfl (.c16 rfl (.c16 rfl .nil)))))
/-
The program's repetition: an error, nothing.
-/
theorem p55e_p0 (L : List CallC) (vA vB : Value) (ra rb : Option ARow) (k1 k2 o : Int) (h29a : ∀ (lim : Nat) (A : Heap), A = (n8 [ra, rb]) → Gives Tryz.prog (envM.calls [29, 84] L) lim 29 [vA] A (I k1, A)) (h29b : ∀ (lim : Nat) (A : Heap), A = (n8 [ra, rb]) → Gives Tryz.prog (envM.calls [29, 84] L) lim 29 [vB] A (I k2, A)) (h84 : ∀ (lim : Nat) (A : Heap), A = (n8 [ra, rb, some (.cells [I k1, I k2] 27 .row)]) → Gives Tryz.prog (envM.calls [29, 84] L) lim 84 [sl 10 0 2 2] A (I o, A)) (f1 : (o != 0) = true) : Gives Tryz.prog (envM.calls [29, 84] L) 0 55 [vA, vB] (n8 [ra, rb]) ((.tuple #[(.slice .none 0 0), I o]), (n8 [ra, rb])) :=
  Gives.by (n := 1000) (os := [.opw 55 14 (I k1) (n8 [ra, rb]), .opw 55 16 (I k2) (n8 [ra, rb]), .opw 55 18 (I o) (n8 [ra, rb, (.some (.cells [I k1, I k2] 27 .row))]), .br 55 40 true]) (os' := []) (by kernel_rfl) (ObsOK.call (h29a 10 (n8 [ra, rb]) (by kernel_rfl)) (ObsOK.call (h29b 10 (n8 [ra, rb]) (by kernel_rfl)) (ObsOK.call (h84 10 (n8 [ra, rb, (.some (.cells [I k1, I k2] 27 .row))]) (by kernel_rfl)) (ObsOK.cond f1 (ObsOK.nil)))))
theorem p55e1_p0 (L : List CallC) (vA vB : Value) (ra : Option ARow) (k1 k2 o : Int) (h29a : ∀ (lim : Nat) (A : Heap), A = (n8 [ra]) → Gives Tryz.prog (envM.calls [29, 84] L) lim 29 [vA] A (I k1, A)) (h29b : ∀ (lim : Nat) (A : Heap), A = (n8 [ra]) → Gives Tryz.prog (envM.calls [29, 84] L) lim 29 [vB] A (I k2, A)) (h84 : ∀ (lim : Nat) (A : Heap), A = (n8 [ra, some (.cells [I k1, I k2] 27 .row)]) → Gives Tryz.prog (envM.calls [29, 84] L) lim 84 [sl 9 0 2 2] A (I o, A)) (f1 : (o != 0) = true) : Gives Tryz.prog (envM.calls [29, 84] L) 0 55 [vA, vB] (n8 [ra]) ((.tuple #[(.slice .none 0 0), I o]), (n8 [ra])) :=
  Gives.by (n := 1000) (os := [.opw 55 14 (I k1) (n8 [ra]), .opw 55 16 (I k2) (n8 [ra]), .opw 55 18 (I o) (n8 [ra, (.some (.cells [I k1, I k2] 27 .row))]), .br 55 40 true]) (os' := []) (by kernel_rfl) (ObsOK.call (h29a 9 (n8 [ra]) (by kernel_rfl)) (ObsOK.call (h29b 9 (n8 [ra]) (by kernel_rfl)) (ObsOK.call (h84 9 (n8 [ra, (.some (.cells [I k1, I k2] 27 .row))]) (by kernel_rfl)) (ObsOK.cond f1 (ObsOK.nil)))))
theorem p55n1_p0 (L : List CallC) (vB : Value) (ra : Option ARow) (k2 o : Int) (h29b : ∀ (lim : Nat) (A : Heap), A = (n8 [ra]) → Gives Tryz.prog (envM.calls [29, 84] L) lim 29 [vB] A (I k2, A)) (h84 : ∀ (lim : Nat) (A : Heap), A = (n8 [ra, some (.cells [I 0, I k2] 27 .row)]) → Gives Tryz.prog (envM.calls [29, 84] L) lim 84 [sl 9 0 2 2] A (I o, A)) (h29z : ∀ (lim : Nat) (A : Heap), A = (n8 [ra]) → Gives Tryz.prog (envM.calls [29, 84] L) lim 29 [.slice none 0 0] A (I 0, A)) (h29w : ∀ (lim : Nat) (A : Heap), A = (n8 [ra, some (.cells [I 0, I k2] 27 .row)]) → Gives Tryz.prog (envM.calls [29, 84] L) lim 29 [.slice none 0 0] A (I 0, A)) (f1 : (o != 0) = false) : Gives Tryz.prog (envM.calls [29, 84] L) 0 55 [.slice none 0 0, vB] (n8 [ra]) ((.tuple #[(.slice .none 0 0), (I 0)]), (n8 [ra])) :=
  Gives.by (n := 1000) (os := [.opw 55 14 (I 0) (n8 [ra]), .opw 55 16 (I k2) (n8 [ra]), .opw 55 18 (I o) (n8 [ra, (.some (.cells [(I 0), I k2] 27 .row))]), .br 55 40 false, .opw 100 7 (I 0) (n8 [ra, (.some (.cells [(I 0), I k2] 27 .row))])]) (os' := []) (by kernel_rfl) (ObsOK.call (h29z 9 (n8 [ra]) (by kernel_rfl)) (ObsOK.call (h29b 9 (n8 [ra]) (by kernel_rfl)) (ObsOK.call (h84 9 (n8 [ra, (.some (.cells [(I 0), I k2] 27 .row))]) (by kernel_rfl)) (ObsOK.cond f1 (ObsOK.call (h29w 10 (n8 [ra, (.some (.cells [(I 0), I k2] 27 .row))]) (by kernel_rfl)) (ObsOK.nil))))))
/-
ArrayMoves: the three moves of a list.
-/
section
variable (xs : List Sr) (c e : Nat) (u : Use) (hb : xs.length ≤ 500) (hn : 1 ≤ xs.length)
include hb hn
end
/-
ArrayMoves: too many sources.
-/
/-
ArrayMoves: without sources; the law at all rows.
-/
theorem rows0 {A : Heap} {r e : Nat} {u : Use} (h : hget A r = some (.cells [] e u)) : rowsAt A [r] = some [some (.cells [] e u)] := by
  simp only [rowsAt, h, List.all_nil, if_true]
/-- The law is true at these rows. -/
def LawM (f : FuncId) (args : List Value) (A : Heap) : Prop := ∃ E A', EnvOK Tryz.prog 8 E ∧ Gives Tryz.prog E 0 f args A (.bool true, A')
theorem LawS.m {f : FuncId} {args : List Value} {A : Heap} (h : LawS f args A) : LawM f args A := let ⟨E, h1, h2⟩ := h; ⟨E, A, h1, h2⟩
/-
ArrayRepeats: what lists made give.
-/
theorem reP_eq {s t : Sr} (hs : okS s) (ht : okS t) : reP s t = reR s t := by
  obtain ⟨_, _, _, _, _, _, a1, a2⟩ := hs
  obtain ⟨_, _, _, _, _, _, b1, b2⟩ := ht
  unfold reP reR
  rw [show W (s.p + t.p) = s.p + t.p from wS (by omega) (by omega), Int.tmod_eq_emod_of_nonneg (a := s.p + t.p) (by omega), show W ((s.p + t.p) % 4 + 4) = (s.p + t.p) % 4 + 4 from wS (by omega) (by omega), Int.tmod_eq_emod_of_nonneg (by omega), show ((s.p + t.p) % 4 + 4) % 4 = (s.p + t.p) % 4 by omega]
theorem reL_eq {xs ys : List Sr} (hx : ∀ s ∈ xs, okS s) (hy : ∀ t ∈ ys, okS t) : ∀ i, i ≤ xs.length → reL reP xs ys i = reL reR xs ys i
  | 0, _ => rfl
  | i + 1, h => by
    have hs : okS (xs.getD i s0) := by
      rw [show xs.getD i s0 = xs[i] from by simp [List.getD, show i < xs.length by omega]]
      exact hx _ (List.getElem_mem _)
    simp only [reL]
    rw [reL_eq hx hy i (by omega), List.map_congr_left fun t ht => reP_eq hs (hy t ht)]
theorem reL_nil (G : Sr → Sr → Sr) (xs : List Sr) : ∀ i, reL G xs [] i = []
  | 0 => rfl
  | i + 1 => by simp [reL, reL_nil G xs i]
/-- What a list made gives: nil with its error, or itself. -/
def reV (r : Nat) (zs : List Sr) : Value := if chkR zs != 0 then .slice none 0 0 else svA r zs.length
def reW (E : Nat) (zs : List Sr) : Option ARow := if chkR zs != 0 then none else rwA E zs.length (srs zs)
def rwL (E : Nat) : List Sr → Heap
  | [] => []
  | z :: l => [rS (z :: l) E .row]
theorem s54re (zs : List Sr) (hb : zs.length ≤ 1000) (A : Heap) (h0 : startsB heap0 A = true) (h1 : hget A 13 = reW 32 zs) (h2 : hget A 16 = reW 24 zs) : SaysAt Tryz.prog 8 54 [reV 13 zs, I (chkR zs), I (chkR zs), reV 16 zs] A (.bool true) (A ++ []) := by
  cases h : (chkR zs != 0) with
  | true =>
    simp only [reV, h, if_true]
    exact err54 (by simpa using h) A h0
  | false =>
    have hz : chkR zs = 0 := by simpa using h
    simp only [reV, reW, h, Bool.false_eq_true, if_false] at h1 h2 ⊢
    rw [hz]
    cases zs with
    | nil => exact SaysAt.rows (T := heap0) (R0 := []) (R1 := []) [] (SaysAt.of_gives prog_ok envB_ok s54n_p0) rfl rfl h0 rfl rfl rfl rfl rfl rfl
    | cons z l => exact SaysAt.rows (T := heap0) (R0 := [rS (z :: l) 32 .row, rS (z :: l) 24 .row]) (R1 := []) [13, 16] (same54 (z :: l) (l.length + 1) (l.length + 1) 32 24 .row .row hb (by simp)) rfl rfl h0 rfl rfl (rows2 h1 h2) rfl rfl rfl
theorem gcR {A0 X : Heap} {r p E : Nat} {zs : List Sr} (h1 : ∀ M, valIds A0.length (.tuple #[svA r (M + 1), I 0]) = [r]) (h2 : ∀ M, valRen A0.length [r] (.tuple #[svA r (M + 1), I 0]) = some (.tuple #[svA p (M + 1), I 0])) (h3 : ∀ z l, zs = z :: l → keptRows (A0 ++ X) [r] = some [rS zs E .row]) (h4 : aGC A0 (.tuple #[svA r 0, I 0]) (A0 ++ X) = (.tuple #[.slice none 0 0, I 0], A0)) : aGC A0 (.tuple #[svA r zs.length, I 0]) (A0 ++ X) = (.tuple #[svA p zs.length, I 0], A0 ++ rwL E zs) := by
  cases zs with
  | nil => rw [show A0 ++ rwL E [] = A0 from List.append_nil A0]; exact h4
  | cons z l => exact gc_of (ids := [r]) (h1 _) (h2 _) (h3 z l rfl) rfl
/-- A list made at few rows is made anywhere. -/
theorem liftR {T A R0 : Heap} {f : FuncId} {args args0 : List Value} {zs : List Sr} {r p E : Nat} (ids : List Nat) (h : SaysAt Tryz.prog 8 f args0 (T ++ R0) (.tuple #[svA r zs.length, I 0]) (T ++ R0 ++ rwL E zs)) (hTl : T.length = 8) (hT : T.all tableRow = true) (hs : startsB T A = true) (hids : ids.all (fun i => decide (8 ≤ i)) = true) (hnd : nodupB ids = true) (hrows : rowsAt A ids = some R0) (hargs0 : listRen (valBy (inNum 8 ids)) args = some args0)
    (hv : ∀ M, valBy (outNum 8 ids A.length) (.tuple #[svA r M, I 0]) = some (.tuple #[svA p M, I 0])) : SaysAt Tryz.prog 8 f args A (.tuple #[svA p zs.length, I 0]) (A ++ [rwA E zs.length (srs zs)]) := by
  cases zs with
  | nil =>
    have h2 := SaysAt.rows (R1 := []) ids h hTl hT hs hids hnd hrows hargs0 rfl (hv 0)
    rw [List.append_nil] at h2
    exact h2.addNone
  | cons z l => exact SaysAt.rows (R1 := [rS (z :: l) E .row]) ids h hTl hT hs hids hnd hrows hargs0 (plainS _ _ _) (hv _)
/-- An error, told anywhere. -/
theorem liftE {T A R0 : Heap} {f : FuncId} {args args0 : List Value} {k : Int} (ids : List Nat) (h : SaysAt Tryz.prog 8 f args0 (T ++ R0) (.tuple #[.slice none 0 0, I k]) (T ++ R0)) (hTl : T.length = 8) (hT : T.all tableRow = true) (hs : startsB T A = true) (hids : ids.all (fun i => decide (8 ≤ i)) = true) (hnd : nodupB ids = true) (hrows : rowsAt A ids = some R0) (hargs0 : listRen (valBy (inNum 8 ids)) args = some args0) : SaysAt Tryz.prog 8 f args A (.tuple #[.slice none 0 0, I k]) (A ++ [none]) := by
  have h2 := SaysAt.rows (R1 := []) (v := .tuple #[.slice none 0 0, I k]) ids (by rw [List.append_nil]; exact h) hTl hT hs hids hnd hrows hargs0 rfl rfl
  rw [List.append_nil] at h2
  exact h2.addNone
theorem chk16 {xs : List Sr} (h : chkR xs = 0) : xs.length ≤ 16 := by
  unfold chkR at h
  split at h
  · cases h
  · omega
theorem fst2z {a b : Int} (h : (fstI [a, b] == 0) = true) : a = 0 ∧ b = 0 := by
  rw [fst2'] at h
  cases ha : (a != 0) with
  | true => rw [ha, if_pos rfl] at h; have := eq_of_beq h; subst this; cases ha
  | false =>
    have : a = 0 := by simpa using ha
    rw [ha, if_neg (by decide)] at h
    exact ⟨this, eq_of_beq h⟩
/-- What an argument gives: it is short or not, its copy, its error. -/
structure ArgF (v : Value) (xs : List Sr) (r8 r9 : Option ARow) : Prop where
  short : ∀ A, startsB heap0 A = true → hget A 8 = r8 → hget A 9 = r9 → SaysAt Tryz.prog 8 16 [v, I 5] A (.bool (shortB xs.length 5)) (A ++ [])
  own : xs.length ≤ 1000 → ∀ A p, p = 11 ∨ p = 12 → startsB heap0 A = true → hget A 8 = r8 → hget A 9 = r9 → A.length = p → SaysAt Tryz.prog 8 20 [v] A (svA p xs.length) (A ++ [rwA 32 xs.length (srs xs)])
  chk : ∀ A, startsB heap0 A = true → hget A 8 = r8 → hget A 9 = r9 → SaysAt Tryz.prog 8 25 [v] A (I (chkR xs)) (A ++ [])
theorem argNil (r8 r9 : Option ARow) : ArgF (.slice none 0 0) [] r8 r9 where
  short A h0 _ _ := SaysAt.rows (T := heap0) (R0 := []) (R1 := []) [] (SaysAt.of_gives prog_ok envB_ok n16f_p0) rfl rfl h0 rfl rfl rfl rfl rfl rfl
  own _ A p _ h0 _ _ _ := by
    have h2 := SaysAt.rows (T := heap0) (R0 := []) (R1 := []) (A := A) (args := [.slice none 0 0]) (v := .slice none 0 0) [] (SaysAt.of_gives prog_ok envB_ok n20_p0) rfl rfl h0 rfl rfl rfl rfl rfl rfl
    rw [List.append_nil] at h2
    exact h2.addNone
  chk A h0 _ _ := SaysAt.rows (T := heap0) (R0 := []) (R1 := []) [] (SaysAt.of_gives prog_ok envB_ok n25_p0) rfl rfl h0 rfl rfl rfl rfl rfl rfl
theorem own_any (r : Nat) (hr : r = 8 ∨ r = 9) (xs : List Sr) (c e : Nat) (u : Use) (hb : xs.length ≤ 1000) (A : Heap) (p : Nat) (hp : p = 11 ∨ p = 12) (h0 : startsB heap0 A = true) (hA : hget A r = rS xs e u) (hl : A.length = p) : SaysAt Tryz.prog 8 20 [.slice (some ⟨r, 0, none⟩) xs.length c] A (svA p xs.length) (A ++ [rwA 32 xs.length (srs xs)]) := by
  cases xs with
  | nil =>
    have h2 : SaysAt Tryz.prog 8 20 [.slice (some ⟨r, 0, none⟩) 0 c] A (.slice none 0 0) (A ++ []) := by
      rcases hr with rfl | rfl
      · exact SaysAt.rows (T := heap0) (R0 := [some (.cells [] e u)]) (R1 := []) [8] (SaysAt.of_gives prog_ok envB_ok (e20_p0 c (some (.cells [] e u)))) rfl rfl h0 rfl rfl (rows0 hA) rfl rfl rfl
      · exact SaysAt.rows (T := heap0) (R0 := [some (.cells [] e u)]) (R1 := []) [9] (SaysAt.of_gives prog_ok envB_ok (e20_p0 c (some (.cells [] e u)))) rfl rfl h0 rfl rfl (rows0 hA) rfl rfl rfl
    rw [List.append_nil] at h2
    exact h2.addNone
  | cons z l =>
    rcases hr with rfl | rfl
    · exact SaysAt.rows (T := heapN) (R0 := [rS (z :: l) e u]) (R1 := [rS (z :: l) 32 .row]) [8] (ow_says (z :: l) c e u hb (by simp)) rfl rfl (sN h0) rfl rfl (rowsS hA) rfl (plainS _ _ _) (by rw [hl]; rcases hp with rfl | rfl <;> rfl)
    · exact SaysAt.rows (T := heapN) (R0 := [rS (z :: l) e u]) (R1 := [rS (z :: l) 32 .row]) [9] (ow_says (z :: l) c e u hb (by simp)) rfl rfl (sN h0) rfl rfl (rowsS hA) rfl (plainS _ _ _) (by rw [hl]; rcases hp with rfl | rfl <;> rfl)
theorem arg8 (xs : List Sr) (c e : Nat) (u : Use) (r9 : Option ARow) : ArgF (sl 8 0 xs.length c) xs (rS xs e u) r9 where
  short A h0 hA _ := SaysAt.rows (T := heapN) (R0 := [rS xs e u]) (R1 := []) [8] (sh_all xs 5 c e u) rfl rfl (sN h0) rfl rfl (rowsS hA) rfl rfl rfl
  own hb A p hp h0 hA _ hl := own_any 8 (.inl rfl) xs c e u hb A p hp h0 hA hl
  chk A h0 hA _ := SaysAt.rows (T := heapN) (R0 := [rS xs e u]) (R1 := []) [8] (rc_all xs c e u) rfl rfl (sN h0) rfl rfl (rowsS hA) rfl rfl rfl
theorem arg9 (xs : List Sr) (c e : Nat) (u : Use) (r8 : Option ARow) : ArgF (sl 9 0 xs.length c) xs r8 (rS xs e u) where
  short A h0 _ hA := SaysAt.rows (T := heapN) (R0 := [rS xs e u]) (R1 := []) [9] (sh_all xs 5 c e u) rfl rfl (sN h0) rfl rfl (rowsS hA) rfl rfl rfl
  own hb A p hp h0 _ hA hl := own_any 9 (.inr rfl) xs c e u hb A p hp h0 hA hl
  chk A h0 _ hA := SaysAt.rows (T := heapN) (R0 := [rS xs e u]) (R1 := []) [9] (rc_all xs c e u) rfl rfl (sN h0) rfl rfl (rowsS hA) rfl rfl rfl
/-- The checks of a copy. -/
theorem s29_8 (xs : List Sr) (hb : xs.length ≤ 1000) (A : Heap) (h0 : startsB heapN A = true) (hA : hget A 8 = rS xs 32 .row) : SaysAt Tryz.prog 8 29 [sl 8 0 xs.length xs.length] A (I (chkR xs)) (A ++ []) :=
  chk_eq xs ▸ SaysAt.rows (T := heapN) (R0 := [rS xs 32 .row]) (R1 := []) [8] (ca_says xs xs.length 32 .row hb) rfl rfl h0 rfl rfl (rowsS hA) rfl rfl rfl
theorem s29_9 (xs : List Sr) (hb : xs.length ≤ 1000) (A : Heap) (h0 : startsB heapN A = true) (hA : hget A 9 = rS xs 32 .row) : SaysAt Tryz.prog 8 29 [sl 9 0 xs.length xs.length] A (I (chkR xs)) (A ++ []) :=
  chk_eq xs ▸ SaysAt.rows (T := heapN) (R0 := [rS xs 32 .row]) (R1 := []) [9] (ca_says xs xs.length 32 .row hb) rfl rfl h0 rfl rfl (rowsS hA) rfl rfl rfl
/-
Nothing repeated by nothing.
-/
theorem r57z_p0  : Gives Tryz.prog envB 0 57 [.slice none 0 0, .slice none 0 0] heapN ((.tuple #[(.slice .none 0 0), (I 0)]), heapN) :=
  Gives.by (n := 1000) (os := []) (os' := []) (by kernel_rfl) (ObsOK.nil)
/-
Nothing repeated by nothing: the program.
-/
theorem p55z_p0 (L : List CallC) (h29z : ∀ (lim : Nat) (A : Heap), A = heapN → Gives Tryz.prog (envM.calls [29, 84] L) lim 29 [.slice none 0 0] A (I 0, A)) (h84 : ∀ (lim : Nat) (A : Heap), A = (n8 [some (.cells [I 0, I 0] 27 .row)]) → Gives Tryz.prog (envM.calls [29, 84] L) lim 84 [sl 8 0 2 2] A (I 0, A)) (h29w : ∀ (lim : Nat) (A : Heap), A = (n8 [some (.cells [I 0, I 0] 27 .row)]) → Gives Tryz.prog (envM.calls [29, 84] L) lim 29 [.slice none 0 0] A (I 0, A)) : Gives Tryz.prog (envM.calls [29, 84] L) 0 55 [.slice none 0 0, .slice none 0 0] heapN ((.tuple #[(.slice .none 0 0), (I 0)]), heapN) :=
  Gives.by (n := 1000) (os := [.opw 55 14 (I 0) [.none, .none, .none, .none, .none, .none, .none, .none], .opw 55 16 (I 0) [.none, .none, .none, .none, .none, .none, .none, .none], .opw 55 18 (I 0) (n8 [(.some (.cells [(I 0), (I 0)] 27 .row))]), .opw 100 7 (I 0) (n8 [(.some (.cells [(I 0), (I 0)] 27 .row))])]) (os' := []) (by kernel_rfl) (ObsOK.call (h29z 8 [.none, .none, .none, .none, .none, .none, .none, .none] (by kernel_rfl)) (ObsOK.call (h29z 8 [.none, .none, .none, .none, .none, .none, .none, .none] (by kernel_rfl)) (ObsOK.call (h84 8 (n8 [(.some (.cells [(I 0), (I 0)] 27 .row))]) (by kernel_rfl)) (ObsOK.call (h29w 9 (n8 [(.some (.cells [(I 0), (I 0)] 27 .row))]) (by kernel_rfl)) (ObsOK.nil)))))
end Go.Proofs.YtpdiaiccnaoaiaaGreatDoor
