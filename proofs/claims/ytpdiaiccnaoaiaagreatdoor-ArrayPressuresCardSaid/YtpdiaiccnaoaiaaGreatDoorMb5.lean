/-
Joined: W8, W9, WZ, Ga.
-/
import Derived.Test.YtpdiaiccnaoaiaaGreatDoorMb4
set_option linter.unusedVariables false
set_option linter.unusedSimpArgs false
set_option linter.unusedSectionVars false
/-
The weights of a list of the document's examples, whatever the order of the map.
-/
namespace Go.Proofs.YtpdiaiccnaoaiaaGreatDoor
open Go Go.Abs
noncomputable def rowW8_0 : Option ARow := (.some (.loop ([(sl 8 0 4 4), U, sn, (pt 10 0), U, U, U, U, U, U, (.map (.some 9)), (sl 8 0 4 4), (.func (.func 149) #[] #[(pt 11 0)])] ++ us 36) #[13, 14] codeW0_0 codeW0_1 .exhausted .none))
noncomputable def rowW8_1 : Option ARow := (.some (.map [(.mk (g2 0 0) (.mk (g2 1 0) 0)), (.mk (g2 1 0) (.mk (g2 2 0) 1)), (.mk (g2 2 0) (.mk (g2 1 0) 2))] 3))
noncomputable def rowW8_2 : Option ARow := (rrow [I 0, I 0, I 1, I 0, I 1, I 0, I 1, I 0, I 1, I 0, I 1, I 0, I 2, I 0, I 1, I 0] 32)
noncomputable def rowW8_3 : Option ARow := (rrow [I 0, I 0, I 1, I 0, I 1, I 0, I 2, I 0, I 2, I 0, I 1, I 0] 125)
noncomputable def rowW8_4 : Option ARow := (rrow [I 0, I 0, I 1, I 0, I 2, I 0, I 1, I 0, I 1, I 0, I 2, I 0] 125)
noncomputable def rowW8_5 : Option ARow := (rrow [I 1, I 0, I 2, I 0, I 0, I 0, I 1, I 0, I 2, I 0, I 1, I 0] 125)
noncomputable def rowW8_6 : Option ARow := (rrow [I 1, I 0, I 2, I 0, I 2, I 0, I 1, I 0, I 0, I 0, I 1, I 0] 125)
noncomputable def rowW8_7 : Option ARow := (rrow [I 2, I 0, I 1, I 0, I 0, I 0, I 1, I 0, I 1, I 0, I 2, I 0] 125)
noncomputable def rowW8_8 : Option ARow := (rrow [I 2, I 0, I 1, I 0, I 1, I 0, I 2, I 0, I 0, I 0, I 1, I 0] 125)
noncomputable def rowW8_9 : Option ARow := (rrow [I 0, I 0, I 1, I 0] 125)
noncomputable def rowW8_10 : Option ARow := (rrow [I 1, I 0, I 2, I 0] 125)
noncomputable def rowW8_11 : Option ARow := (rrow [I 2, I 0, I 1, I 0] 125)
noncomputable def rowW8_12 : Option ARow := (rvar [I 0, I 0, I 1, I 0] 32)
noncomputable def rowW8_13 : Option ARow := (rvar [I 1, I 0, I 1, I 0] 32)
noncomputable def rowW8_14 : Option ARow := (rvar [I 2, I 0, I 1, I 0] 32)
noncomputable def w8_B : Code := loopB (tailS (seqAt 4 (bodyOf 106)))
noncomputable def w8_O : Array Oper := headOps w8_B
noncomputable def w8_R : Code := tailS w8_B
theorem w8_hS : seqAt 4 (bodyOf 106) = .seq (headS (seqAt 4 (bodyOf 106))) (tailS (seqAt 4 (bodyOf 106))) := by kernel_rfl
theorem w8_hC : tailS (seqAt 4 (bodyOf 106)) = .block 2 (.loop w8_B) := by kernel_rfl
theorem w8_hB : w8_B = .seq (.region (headId w8_B) w8_O false) w8_R := by kernel_rfl
noncomputable def w8_A : Heap := (H [some (.cells [.int .i64 0, .int .i64 0, .int .i64 1, .int .i64 0, .int .i64 1, .int .i64 0, .int .i64 1, .int .i64 0, .int .i64 1, .int .i64 0, .int .i64 1, .int .i64 0, .int .i64 2, .int .i64 0, .int .i64 1, .int .i64 0] 32 .row)])
noncomputable def w8_L0 : List Value := ([(sl 8 0 4 4)] ++ us 48)
noncomputable def w8_X0 : Heap := (H [rowW8_2])
noncomputable def w8_L1 : List Value := ([(sl 8 0 4 4), U, sn] ++ us 46)
noncomputable def w8_X1 : Heap := (H [rowW8_2])
theorem w8_t0 : aRun Tryz.prog env0 100000 9 [.code (seqAt 0 (bodyOf 106))] w8_L0 w8_X0 = some (w8_L1, w8_X1, none) := by kernel_rfl
noncomputable def w8_L2 : List Value := ([(sl 8 0 4 4), U, sn, (pt 10 0), U, U, U, U, U, U, (.map (.some 9))] ++ us 38)
noncomputable def w8_X2 : Heap := (H [rowW8_2, (.some (.map [] 0)), (rvar [(.map (.some 9))] 185)])
theorem w8_t1 : aRun Tryz.prog env0 100000 9 [.code (seqAt 1 (bodyOf 106))] w8_L1 w8_X1 = some (w8_L2, w8_X2, none) := by kernel_rfl
noncomputable def w8_L3 : List Value := ([(sl 8 0 4 4), U, sn, (pt 10 0), U, U, U, U, U, U, (.map (.some 9)), (sl 8 0 4 4), (.func (.func 149) #[] #[(pt 11 0)])] ++ us 36)
noncomputable def w8_X3 : Heap := (H [rowW8_2, rowW8_1, (rvar [(.map (.some 9))] 185), (rvar [(sl 8 0 4 4)] 37), rowW8_0, rowW8_12, rowW8_12, (rvar [I 1, I 0] 34), (rvar [I 0, I 0] 187), rowW8_13, rowW8_13, (rvar [I 1, I 0] 34), (rvar [I 1, I 0] 187), rowW8_13, rowW8_13, (rvar [I 1, I 0] 34), (rvar [I 1, I 0] 187), rowW8_14, rowW8_14, (rvar [I 1, I 0] 34), (rvar [I 2, I 0] 187)])
theorem w8_t2 : aRun Tryz.prog env0 100000 9 [.code (seqAt 2 (bodyOf 106))] w8_L2 w8_X2 = some (w8_L3, w8_X3, none) := by kernel_rfl
noncomputable def w8_L4 : List Value := ([(sl 8 0 4 4), U, sn, (pt 10 0), U, U, U, sn, U, U, (.map (.some 9)), (sl 8 0 4 4), (.func (.func 149) #[] #[(pt 11 0)])] ++ us 36)
noncomputable def w8_X4 : Heap := (H [rowW8_2, rowW8_1, (rvar [(.map (.some 9))] 185), (rvar [(sl 8 0 4 4)] 37), rowW8_0, rowW8_12, rowW8_12, (rvar [I 1, I 0] 34), (rvar [I 0, I 0] 187), rowW8_13, rowW8_13, (rvar [I 1, I 0] 34), (rvar [I 1, I 0] 187), rowW8_13, rowW8_13, (rvar [I 1, I 0] 34), (rvar [I 1, I 0] 187), rowW8_14, rowW8_14, (rvar [I 1, I 0] 34), (rvar [I 2, I 0] 187)])
theorem w8_t3 : aRun Tryz.prog env0 100000 9 [.code (seqAt 3 (bodyOf 106))] w8_L3 w8_X3 = some (w8_L4, w8_X4, none) := by kernel_rfl
noncomputable def w8_L5 : List Value := ([(sl 8 0 4 4), U, sn, (pt 10 0), U, U, U, sn, U, U, (.map (.some 9)), (sl 8 0 4 4), (.func (.func 149) #[] #[(pt 11 0)]), U, U, U, U, U, U, U, U, U, U, U, U, U, U, (.map (.some 9)), (pt 29 0)] ++ us 20)
noncomputable def w8_X5 : Heap := (H [rowW8_2, rowW8_1, (rvar [(.map (.some 9))] 185), (rvar [(sl 8 0 4 4)] 37), rowW8_0, rowW8_12, rowW8_12, (rvar [I 1, I 0] 34), (rvar [I 0, I 0] 187), rowW8_13, rowW8_13, (rvar [I 1, I 0] 34), (rvar [I 1, I 0] 187), rowW8_13, rowW8_13, (rvar [I 1, I 0] 34), (rvar [I 1, I 0] 187), rowW8_14, rowW8_14, (rvar [I 1, I 0] 34), (rvar [I 2, I 0] 187), (.some (.miter 9 3 [] 3))])
theorem w8_t4 : aRun Tryz.prog env0 100000 9 [.code (headS (seqAt 4 (bodyOf 106)))] w8_L4 w8_X4 = some (w8_L5, w8_X5, none) := by kernel_rfl
noncomputable def w8_L6 : List Value := [(sl 8 0 4 4), U, sn, (pt 10 0), U, U, U, (sl 33 0 1 1), (pt 30 0), (pt 31 0), (.map (.some 9)), (sl 8 0 4 4), (.func (.func 149) #[] #[(pt 11 0)]), U, U, U, U, U, U, U, U, U, U, U, U, U, U, (.map (.some 9)), (pt 29 0), (.tuple #[(.bool true), (g2 0 0), (g2 1 0)]), (.bool true), (.tuple #[(g2 0 0), (g2 1 0)]), (g2 0 0), (g2 1 0), (g2 1 0), (g2 0 0), (.bool true), sn, (pt 30 0), I 0, (pt 30 1), I 0, (g2 1 0), (.agg #[I 0, I 0, I 1, I 0]), (sl 32 0 1 1), (sl 33 0 1 1), U, U, U]
noncomputable def w8_X6 : Heap := (H [rowW8_2, rowW8_1, (rvar [(.map (.some 9))] 185), (rvar [(sl 8 0 4 4)] 37), rowW8_0, rowW8_12, rowW8_12, (rvar [I 1, I 0] 34), (rvar [I 0, I 0] 187), rowW8_13, rowW8_13, (rvar [I 1, I 0] 34), (rvar [I 1, I 0] 187), rowW8_13, rowW8_13, (rvar [I 1, I 0] 34), (rvar [I 1, I 0] 187), rowW8_14, rowW8_14, (rvar [I 1, I 0] 34), (rvar [I 2, I 0] 187), (.some (.miter 9 3 [0] 3)), (rvar [I 0, I 0] 187), (rvar [I 1, I 0] 34), rowW8_9, rowW8_9])
theorem w8_e6 : aRun Tryz.prog env0 100000 9 [.ops w8_O 1, .code w8_R] (tput w8_L5 (some 29) (.tuple #[.bool true, (g2 0 0), (g2 1 0)])) (hset w8_X5 29 (some (.miter 9 3 [0] 3))) = some (w8_L6, w8_X6, none) := by kernel_rfl
noncomputable def w8_L7 : List Value := [(sl 8 0 4 4), U, sn, (pt 10 0), U, U, U, (sl 37 0 2 2), (pt 34 0), (pt 35 0), (.map (.some 9)), (sl 8 0 4 4), (.func (.func 149) #[] #[(pt 11 0)]), U, U, U, U, U, U, U, U, U, U, U, U, U, U, (.map (.some 9)), (pt 29 0), (.tuple #[(.bool true), (g2 1 0), (g2 2 0)]), (.bool true), (.tuple #[(g2 1 0), (g2 2 0)]), (g2 1 0), (g2 2 0), (g2 2 0), (g2 0 0), (.bool true), (sl 33 0 1 1), (pt 34 0), I 1, (pt 34 1), I 0, (g2 2 0), (.agg #[I 1, I 0, I 2, I 0]), (sl 36 0 1 1), (sl 37 0 2 2), U, U, U]
noncomputable def w8_X7 : Heap := (H [rowW8_2, rowW8_1, (rvar [(.map (.some 9))] 185), (rvar [(sl 8 0 4 4)] 37), rowW8_0, rowW8_12, rowW8_12, (rvar [I 1, I 0] 34), (rvar [I 0, I 0] 187), rowW8_13, rowW8_13, (rvar [I 1, I 0] 34), (rvar [I 1, I 0] 187), rowW8_13, rowW8_13, (rvar [I 1, I 0] 34), (rvar [I 1, I 0] 187), rowW8_14, rowW8_14, (rvar [I 1, I 0] 34), (rvar [I 2, I 0] 187), (.some (.miter 9 3 [0, 1] 3)), (rvar [I 0, I 0] 187), (rvar [I 1, I 0] 34), rowW8_9, .none, (rvar [I 1, I 0] 187), (rvar [I 2, I 0] 34), rowW8_10, (rrow [I 0, I 0, I 1, I 0, I 1, I 0, I 2, I 0] 125)])
theorem w8_e7 : aRun Tryz.prog env0 100000 9 [.ops w8_O 1, .code w8_R] (tput w8_L6 (some 29) (.tuple #[.bool true, (g2 1 0), (g2 2 0)])) (hset w8_X6 29 (some (.miter 9 3 [0, 1] 3))) = some (w8_L7, w8_X7, none) := by kernel_rfl
noncomputable def w8_L8 : List Value := [(sl 8 0 4 4), U, sn, (pt 10 0), U, U, U, (sl 41 0 3 3), (pt 38 0), (pt 39 0), (.map (.some 9)), (sl 8 0 4 4), (.func (.func 149) #[] #[(pt 11 0)]), U, U, U, U, U, U, U, U, U, U, U, U, U, U, (.map (.some 9)), (pt 29 0), (.tuple #[(.bool true), (g2 2 0), (g2 1 0)]), (.bool true), (.tuple #[(g2 2 0), (g2 1 0)]), (g2 2 0), (g2 1 0), (g2 1 0), (g2 0 0), (.bool true), (sl 37 0 2 2), (pt 38 0), I 2, (pt 38 1), I 0, (g2 1 0), (.agg #[I 2, I 0, I 1, I 0]), (sl 40 0 1 1), (sl 41 0 3 3), U, U, U]
noncomputable def w8_X8 : Heap := (H [rowW8_2, rowW8_1, (rvar [(.map (.some 9))] 185), (rvar [(sl 8 0 4 4)] 37), rowW8_0, rowW8_12, rowW8_12, (rvar [I 1, I 0] 34), (rvar [I 0, I 0] 187), rowW8_13, rowW8_13, (rvar [I 1, I 0] 34), (rvar [I 1, I 0] 187), rowW8_13, rowW8_13, (rvar [I 1, I 0] 34), (rvar [I 1, I 0] 187), rowW8_14, rowW8_14, (rvar [I 1, I 0] 34), (rvar [I 2, I 0] 187), (.some (.miter 9 3 [0, 1, 2] 3)), (rvar [I 0, I 0] 187), (rvar [I 1, I 0] 34), rowW8_9, .none, (rvar [I 1, I 0] 187), (rvar [I 2, I 0] 34), rowW8_10, .none, (rvar [I 2, I 0] 187), (rvar [I 1, I 0] 34), rowW8_11, rowW8_3])
theorem w8_e8 : aRun Tryz.prog env0 100000 9 [.ops w8_O 1, .code w8_R] (tput w8_L7 (some 29) (.tuple #[.bool true, (g2 2 0), (g2 1 0)])) (hset w8_X7 29 (some (.miter 9 3 [0, 1, 2] 3))) = some (w8_L8, w8_X8, none) := by kernel_rfl
noncomputable def w8_L9 : List Value := [(sl 8 0 4 4), U, sn, (pt 10 0), U, U, U, (sl 41 0 3 3), (pt 38 0), (pt 39 0), (.map (.some 9)), (sl 8 0 4 4), (.func (.func 149) #[] #[(pt 11 0)]), U, U, U, U, U, U, U, U, U, U, U, U, U, U, (.map (.some 9)), (pt 29 0), (.tuple #[(.bool false)]), (.bool false), (.tuple #[(g2 2 0), (g2 1 0)]), (g2 2 0), (g2 1 0), (g2 1 0), (g2 0 0), (.bool true), (sl 37 0 2 2), (pt 38 0), I 2, (pt 38 1), I 0, (g2 1 0), (.agg #[I 2, I 0, I 1, I 0]), (sl 40 0 1 1), (sl 41 0 3 3), U, U, U]
noncomputable def w8_X9 : Heap := (H [rowW8_2, rowW8_1, (rvar [(.map (.some 9))] 185), (rvar [(sl 8 0 4 4)] 37), rowW8_0, rowW8_12, rowW8_12, (rvar [I 1, I 0] 34), (rvar [I 0, I 0] 187), rowW8_13, rowW8_13, (rvar [I 1, I 0] 34), (rvar [I 1, I 0] 187), rowW8_13, rowW8_13, (rvar [I 1, I 0] 34), (rvar [I 1, I 0] 187), rowW8_14, rowW8_14, (rvar [I 1, I 0] 34), (rvar [I 2, I 0] 187), (.some (.miter 9 3 [0, 1, 2] 3)), (rvar [I 0, I 0] 187), (rvar [I 1, I 0] 34), rowW8_9, .none, (rvar [I 1, I 0] 187), (rvar [I 2, I 0] 34), rowW8_10, .none, (rvar [I 2, I 0] 187), (rvar [I 1, I 0] 34), rowW8_11, rowW8_3])
theorem w8_o8 : aRun Tryz.prog env0 100000 9 [.ops w8_O 1, .code w8_R, .inLoop w8_B, .inBlock 2] (tput w8_L8 (some 29) (.tuple #[.bool false])) w8_X8 = some (w8_L9, w8_X9, none) := by kernel_rfl
noncomputable def w8_L10 : List Value := [(sl 8 0 4 4), U, sn, (pt 10 0), U, U, U, (sl 41 0 3 3), (pt 38 0), (pt 39 0), (.map (.some 9)), (sl 8 0 4 4), (.func (.func 149) #[] #[(pt 11 0)]), U, U, U, U, U, U, U, U, U, U, U, U, U, U, (.map (.some 9)), (pt 29 0), (.tuple #[(.bool false)]), (.bool false), (.tuple #[(g2 2 0), (g2 1 0)]), (g2 2 0), (g2 1 0), (g2 1 0), (g2 0 0), (.bool true), (sl 37 0 2 2), (pt 38 0), I 2, (pt 38 1), I 0, (g2 1 0), (.agg #[I 2, I 0, I 1, I 0]), (sl 40 0 1 1), (sl 41 0 3 3), (sl 41 0 3 3), U, U]
noncomputable def w8_X10 : Heap := (H [rowW8_2, rowW8_1, (rvar [(.map (.some 9))] 185), (rvar [(sl 8 0 4 4)] 37), rowW8_0, rowW8_12, rowW8_12, (rvar [I 1, I 0] 34), (rvar [I 0, I 0] 187), rowW8_13, rowW8_13, (rvar [I 1, I 0] 34), (rvar [I 1, I 0] 187), rowW8_13, rowW8_13, (rvar [I 1, I 0] 34), (rvar [I 1, I 0] 187), rowW8_14, rowW8_14, (rvar [I 1, I 0] 34), (rvar [I 2, I 0] 187), (.some (.miter 9 3 [0, 1, 2] 3)), (rvar [I 0, I 0] 187), (rvar [I 1, I 0] 34), rowW8_9, .none, (rvar [I 1, I 0] 187), (rvar [I 2, I 0] 34), rowW8_10, .none, (rvar [I 2, I 0] 187), (rvar [I 1, I 0] 34), rowW8_11, rowW8_3])
theorem w8_t9 : aRun Tryz.prog env0 100000 9 [.code (seqAt 5 (bodyOf 106))] w8_L9 w8_X9 = some (w8_L10, w8_X10, none) := by kernel_rfl
noncomputable def w8_L11 : List Value := [(sl 8 0 4 4), U, (sl 41 0 3 3), (pt 10 0), U, U, U, (sl 41 0 3 3), (pt 38 0), (pt 39 0), (.map (.some 9)), (sl 8 0 4 4), (.func (.func 149) #[] #[(pt 11 0)]), U, U, U, U, U, U, U, U, U, U, U, U, U, U, (.map (.some 9)), (pt 29 0), (.tuple #[(.bool false)]), (.bool false), (.tuple #[(g2 2 0), (g2 1 0)]), (g2 2 0), (g2 1 0), (g2 1 0), (g2 0 0), (.bool true), (sl 37 0 2 2), (pt 38 0), I 2, (pt 38 1), I 0, (g2 1 0), (.agg #[I 2, I 0, I 1, I 0]), (sl 40 0 1 1), (sl 41 0 3 3), (sl 41 0 3 3), U, (sl 41 0 3 3)]
noncomputable def w8_X11 : Heap := (H [rowW8_2, rowW8_1, (rvar [(.map (.some 9))] 185), (rvar [(sl 8 0 4 4)] 37), rowW8_0, rowW8_12, rowW8_12, (rvar [I 1, I 0] 34), (rvar [I 0, I 0] 187), rowW8_13, rowW8_13, (rvar [I 1, I 0] 34), (rvar [I 1, I 0] 187), rowW8_13, rowW8_13, (rvar [I 1, I 0] 34), (rvar [I 1, I 0] 187), rowW8_14, rowW8_14, (rvar [I 1, I 0] 34), (rvar [I 2, I 0] 187), (.some (.miter 9 3 [0, 1, 2] 3)), (rvar [I 0, I 0] 187), (rvar [I 1, I 0] 34), rowW8_9, .none, (rvar [I 1, I 0] 187), (rvar [I 2, I 0] 34), rowW8_10, .none, (rvar [I 2, I 0] 187), (rvar [I 1, I 0] 34), rowW8_11, rowW8_3])
theorem w8_t10 : aRun Tryz.prog env0 100000 9 [.code (seqAt 6 (bodyOf 106))] w8_L10 w8_X10 = some (w8_L11, w8_X11, none) := by kernel_rfl
noncomputable def w8_LC : List Value := [junk, junk, (.slice (some ⟨9, 0, none⟩) 3 3), junk, junk, junk, junk, junk, junk, junk, junk, junk, junk, junk, junk, junk, junk, junk, junk, junk, junk, junk, junk, junk, junk, junk, junk, junk, junk, junk, (.bool false), junk, junk, junk, junk, junk, (.bool true), junk, junk, junk, junk, junk, junk, junk, junk, junk, junk, junk, junk]
noncomputable def w8_RC : Heap := [rowW8_3]
noncomputable def w8_V : Value := (.slice (some ⟨9, 0, none⟩) 3 3)
theorem w8_c : aRun Tryz.prog env0 100000 9 [.code (dropS 7 (bodyOf 106))] w8_LC (w8_A ++ w8_RC) = some (w8_LC, w8_A ++ w8_RC, some .ret) := by kernel_rfl
theorem w8_end : EndsA Tryz.prog 8 Tryz.f106 w8_A w8_V (w8_A ++ w8_RC) [.code (dropS 7 (bodyOf 106))] w8_LC (w8_A ++ w8_RC) := EndsA.ret prog_ok env0_ok ⟨_, w8_c⟩ rfl (by kernel_rfl)
noncomputable def w8_Y11 : Heap := [rowW8_1, (rvar [(.map (.some 9))] 185), (rvar [(sl 8 0 4 4)] 37), rowW8_0, rowW8_12, rowW8_12, (rvar [I 1, I 0] 34), (rvar [I 0, I 0] 187), rowW8_13, rowW8_13, (rvar [I 1, I 0] 34), (rvar [I 1, I 0] 187), rowW8_13, rowW8_13, (rvar [I 1, I 0] 34), (rvar [I 1, I 0] 187), rowW8_14, rowW8_14, (rvar [I 1, I 0] 34), (rvar [I 2, I 0] 187), (.some (.miter 9 3 [0, 1, 2] 3)), (rvar [I 0, I 0] 187), (rvar [I 1, I 0] 34), rowW8_9, .none, (rvar [I 1, I 0] 187), (rvar [I 2, I 0] 34), rowW8_10, .none, (rvar [I 2, I 0] 187), (rvar [I 1, I 0] 34), rowW8_11, rowW8_3]
theorem w8_n8 : EndsA Tryz.prog 8 Tryz.f106 w8_A w8_V (w8_A ++ w8_RC) [.code w8_B, .inLoop w8_B, .inBlock 2, .code (dropS 5 (bodyOf 106))] w8_L8 w8_X8 := by
  refine EndsA.mapRound w8_hB (EndsA.over (.tmp 28) (some 29) 29 9 3 3 3 [0, 1, 2] [((g2 0 0), (g2 1 0), 0), ((g2 1 0), (g2 2 0), 1), ((g2 2 0), (g2 1 0), 2)] (by kernel_rfl) (by kernel_rfl) (by kernel_rfl) (by kernel_rfl) (by kernel_rfl) (by decide) (by kernel_rfl) ?_)
  refine EndsA.run (k := [.ops w8_O 1, .code w8_R, .inLoop w8_B, .inBlock 2]) prog_ok env0_ok ⟨_, w8_o8⟩ ?_
  refine EndsA.drop prog_ok env0_ok (by kernel_rfl) ⟨_, w8_t9⟩ ?_
  refine EndsA.drop prog_ok env0_ok (by kernel_rfl) ⟨_, w8_t10⟩ ?_
  rw [show w8_X11 = w8_A ++ w8_Y11 from by kernel_rfl]
  exact EndsA.renum (ids := [41]) (m := [.no, .no, .ren, .no, .no, .no, .no, .no, .no, .no, .no, .no, .no, .no, .no, .no, .no, .no, .no, .no, .no, .no, .no, .no, .no, .no, .no, .no, .no, .no, .free, .no, .no, .no, .no, .no, .free, .no, .no, .no, .no, .no, .no, .no, .no, .no, .no, .no, .no]) (fs := [(.bool false), (.bool true)]) (by decide) (by decide) (by decide) (by kernel_rfl) (by simp [freeB, atomB]) (RowsBy.cons (i := 41) (by kernel_rfl) (RowBy.plain (by kernel_rfl)) RowsBy.nil) w8_end
theorem w8_n7 : EndsA Tryz.prog 8 Tryz.f106 w8_A w8_V (w8_A ++ w8_RC) [.code w8_B, .inLoop w8_B, .inBlock 2, .code (dropS 5 (bodyOf 106))] w8_L7 w8_X7 := by
  refine EndsA.mapRound w8_hB (EndsA.more (.tmp 28) (some 29) 29 9 3 3 3 [0, 1] [((g2 0 0), (g2 1 0), 0), ((g2 1 0), (g2 2 0), 1), ((g2 2 0), (g2 1 0), 2)] [((g2 2 0), (g2 1 0), 2)] (by kernel_rfl) (by kernel_rfl) (by kernel_rfl) (by kernel_rfl) (by kernel_rfl) (by decide) (by kernel_rfl) (by kernel_rfl) ?_)
  exact ⟨⟨by kernel_rfl, EndsA.run (k := [.ops w8_O 1, .code w8_R]) prog_ok env0_ok ⟨_, w8_e8⟩ (EndsA.again w8_n8)⟩, trivial⟩
noncomputable def w8_L12 : List Value := [(sl 8 0 4 4), U, sn, (pt 10 0), U, U, U, (sl 37 0 2 2), (pt 34 0), (pt 35 0), (.map (.some 9)), (sl 8 0 4 4), (.func (.func 149) #[] #[(pt 11 0)]), U, U, U, U, U, U, U, U, U, U, U, U, U, U, (.map (.some 9)), (pt 29 0), (.tuple #[(.bool true), (g2 2 0), (g2 1 0)]), (.bool true), (.tuple #[(g2 2 0), (g2 1 0)]), (g2 2 0), (g2 1 0), (g2 1 0), (g2 0 0), (.bool true), (sl 33 0 1 1), (pt 34 0), I 2, (pt 34 1), I 0, (g2 1 0), (.agg #[I 2, I 0, I 1, I 0]), (sl 36 0 1 1), (sl 37 0 2 2), U, U, U]
noncomputable def w8_X12 : Heap := (H [rowW8_2, rowW8_1, (rvar [(.map (.some 9))] 185), (rvar [(sl 8 0 4 4)] 37), rowW8_0, rowW8_12, rowW8_12, (rvar [I 1, I 0] 34), (rvar [I 0, I 0] 187), rowW8_13, rowW8_13, (rvar [I 1, I 0] 34), (rvar [I 1, I 0] 187), rowW8_13, rowW8_13, (rvar [I 1, I 0] 34), (rvar [I 1, I 0] 187), rowW8_14, rowW8_14, (rvar [I 1, I 0] 34), (rvar [I 2, I 0] 187), (.some (.miter 9 3 [0, 2] 3)), (rvar [I 0, I 0] 187), (rvar [I 1, I 0] 34), rowW8_9, .none, (rvar [I 2, I 0] 187), (rvar [I 1, I 0] 34), rowW8_11, (rrow [I 0, I 0, I 1, I 0, I 2, I 0, I 1, I 0] 125)])
theorem w8_e12 : aRun Tryz.prog env0 100000 9 [.ops w8_O 1, .code w8_R] (tput w8_L6 (some 29) (.tuple #[.bool true, (g2 2 0), (g2 1 0)])) (hset w8_X6 29 (some (.miter 9 3 [0, 2] 3))) = some (w8_L12, w8_X12, none) := by kernel_rfl
noncomputable def w8_L13 : List Value := [(sl 8 0 4 4), U, sn, (pt 10 0), U, U, U, (sl 41 0 3 3), (pt 38 0), (pt 39 0), (.map (.some 9)), (sl 8 0 4 4), (.func (.func 149) #[] #[(pt 11 0)]), U, U, U, U, U, U, U, U, U, U, U, U, U, U, (.map (.some 9)), (pt 29 0), (.tuple #[(.bool true), (g2 1 0), (g2 2 0)]), (.bool true), (.tuple #[(g2 1 0), (g2 2 0)]), (g2 1 0), (g2 2 0), (g2 2 0), (g2 0 0), (.bool true), (sl 37 0 2 2), (pt 38 0), I 1, (pt 38 1), I 0, (g2 2 0), (.agg #[I 1, I 0, I 2, I 0]), (sl 40 0 1 1), (sl 41 0 3 3), U, U, U]
noncomputable def w8_X13 : Heap := (H [rowW8_2, rowW8_1, (rvar [(.map (.some 9))] 185), (rvar [(sl 8 0 4 4)] 37), rowW8_0, rowW8_12, rowW8_12, (rvar [I 1, I 0] 34), (rvar [I 0, I 0] 187), rowW8_13, rowW8_13, (rvar [I 1, I 0] 34), (rvar [I 1, I 0] 187), rowW8_13, rowW8_13, (rvar [I 1, I 0] 34), (rvar [I 1, I 0] 187), rowW8_14, rowW8_14, (rvar [I 1, I 0] 34), (rvar [I 2, I 0] 187), (.some (.miter 9 3 [0, 2, 1] 3)), (rvar [I 0, I 0] 187), (rvar [I 1, I 0] 34), rowW8_9, .none, (rvar [I 2, I 0] 187), (rvar [I 1, I 0] 34), rowW8_11, .none, (rvar [I 1, I 0] 187), (rvar [I 2, I 0] 34), rowW8_10, rowW8_4])
theorem w8_e13 : aRun Tryz.prog env0 100000 9 [.ops w8_O 1, .code w8_R] (tput w8_L12 (some 29) (.tuple #[.bool true, (g2 1 0), (g2 2 0)])) (hset w8_X12 29 (some (.miter 9 3 [0, 2, 1] 3))) = some (w8_L13, w8_X13, none) := by kernel_rfl
noncomputable def w8_L14 : List Value := [(sl 8 0 4 4), U, sn, (pt 10 0), U, U, U, (sl 41 0 3 3), (pt 38 0), (pt 39 0), (.map (.some 9)), (sl 8 0 4 4), (.func (.func 149) #[] #[(pt 11 0)]), U, U, U, U, U, U, U, U, U, U, U, U, U, U, (.map (.some 9)), (pt 29 0), (.tuple #[(.bool false)]), (.bool false), (.tuple #[(g2 1 0), (g2 2 0)]), (g2 1 0), (g2 2 0), (g2 2 0), (g2 0 0), (.bool true), (sl 37 0 2 2), (pt 38 0), I 1, (pt 38 1), I 0, (g2 2 0), (.agg #[I 1, I 0, I 2, I 0]), (sl 40 0 1 1), (sl 41 0 3 3), U, U, U]
noncomputable def w8_X14 : Heap := (H [rowW8_2, rowW8_1, (rvar [(.map (.some 9))] 185), (rvar [(sl 8 0 4 4)] 37), rowW8_0, rowW8_12, rowW8_12, (rvar [I 1, I 0] 34), (rvar [I 0, I 0] 187), rowW8_13, rowW8_13, (rvar [I 1, I 0] 34), (rvar [I 1, I 0] 187), rowW8_13, rowW8_13, (rvar [I 1, I 0] 34), (rvar [I 1, I 0] 187), rowW8_14, rowW8_14, (rvar [I 1, I 0] 34), (rvar [I 2, I 0] 187), (.some (.miter 9 3 [0, 2, 1] 3)), (rvar [I 0, I 0] 187), (rvar [I 1, I 0] 34), rowW8_9, .none, (rvar [I 2, I 0] 187), (rvar [I 1, I 0] 34), rowW8_11, .none, (rvar [I 1, I 0] 187), (rvar [I 2, I 0] 34), rowW8_10, rowW8_4])
theorem w8_o13 : aRun Tryz.prog env0 100000 9 [.ops w8_O 1, .code w8_R, .inLoop w8_B, .inBlock 2] (tput w8_L13 (some 29) (.tuple #[.bool false])) w8_X13 = some (w8_L14, w8_X14, none) := by kernel_rfl
noncomputable def w8_L15 : List Value := [(sl 8 0 4 4), U, sn, (pt 10 0), U, U, U, (sl 41 0 3 3), (pt 38 0), (pt 39 0), (.map (.some 9)), (sl 8 0 4 4), (.func (.func 149) #[] #[(pt 11 0)]), U, U, U, U, U, U, U, U, U, U, U, U, U, U, (.map (.some 9)), (pt 29 0), (.tuple #[(.bool false)]), (.bool false), (.tuple #[(g2 1 0), (g2 2 0)]), (g2 1 0), (g2 2 0), (g2 2 0), (g2 0 0), (.bool true), (sl 37 0 2 2), (pt 38 0), I 1, (pt 38 1), I 0, (g2 2 0), (.agg #[I 1, I 0, I 2, I 0]), (sl 40 0 1 1), (sl 41 0 3 3), (sl 41 0 3 3), U, U]
noncomputable def w8_X15 : Heap := (H [rowW8_2, rowW8_1, (rvar [(.map (.some 9))] 185), (rvar [(sl 8 0 4 4)] 37), rowW8_0, rowW8_12, rowW8_12, (rvar [I 1, I 0] 34), (rvar [I 0, I 0] 187), rowW8_13, rowW8_13, (rvar [I 1, I 0] 34), (rvar [I 1, I 0] 187), rowW8_13, rowW8_13, (rvar [I 1, I 0] 34), (rvar [I 1, I 0] 187), rowW8_14, rowW8_14, (rvar [I 1, I 0] 34), (rvar [I 2, I 0] 187), (.some (.miter 9 3 [0, 2, 1] 3)), (rvar [I 0, I 0] 187), (rvar [I 1, I 0] 34), rowW8_9, .none, (rvar [I 2, I 0] 187), (rvar [I 1, I 0] 34), rowW8_11, .none, (rvar [I 1, I 0] 187), (rvar [I 2, I 0] 34), rowW8_10, rowW8_3])
theorem w8_t14 : aRun Tryz.prog env0 100000 9 [.code (seqAt 5 (bodyOf 106))] w8_L14 w8_X14 = some (w8_L15, w8_X15, none) := by kernel_rfl
noncomputable def w8_L16 : List Value := [(sl 8 0 4 4), U, (sl 41 0 3 3), (pt 10 0), U, U, U, (sl 41 0 3 3), (pt 38 0), (pt 39 0), (.map (.some 9)), (sl 8 0 4 4), (.func (.func 149) #[] #[(pt 11 0)]), U, U, U, U, U, U, U, U, U, U, U, U, U, U, (.map (.some 9)), (pt 29 0), (.tuple #[(.bool false)]), (.bool false), (.tuple #[(g2 1 0), (g2 2 0)]), (g2 1 0), (g2 2 0), (g2 2 0), (g2 0 0), (.bool true), (sl 37 0 2 2), (pt 38 0), I 1, (pt 38 1), I 0, (g2 2 0), (.agg #[I 1, I 0, I 2, I 0]), (sl 40 0 1 1), (sl 41 0 3 3), (sl 41 0 3 3), U, (sl 41 0 3 3)]
noncomputable def w8_X16 : Heap := (H [rowW8_2, rowW8_1, (rvar [(.map (.some 9))] 185), (rvar [(sl 8 0 4 4)] 37), rowW8_0, rowW8_12, rowW8_12, (rvar [I 1, I 0] 34), (rvar [I 0, I 0] 187), rowW8_13, rowW8_13, (rvar [I 1, I 0] 34), (rvar [I 1, I 0] 187), rowW8_13, rowW8_13, (rvar [I 1, I 0] 34), (rvar [I 1, I 0] 187), rowW8_14, rowW8_14, (rvar [I 1, I 0] 34), (rvar [I 2, I 0] 187), (.some (.miter 9 3 [0, 2, 1] 3)), (rvar [I 0, I 0] 187), (rvar [I 1, I 0] 34), rowW8_9, .none, (rvar [I 2, I 0] 187), (rvar [I 1, I 0] 34), rowW8_11, .none, (rvar [I 1, I 0] 187), (rvar [I 2, I 0] 34), rowW8_10, rowW8_3])
theorem w8_t15 : aRun Tryz.prog env0 100000 9 [.code (seqAt 6 (bodyOf 106))] w8_L15 w8_X15 = some (w8_L16, w8_X16, none) := by kernel_rfl
noncomputable def w8_Y16 : Heap := [rowW8_1, (rvar [(.map (.some 9))] 185), (rvar [(sl 8 0 4 4)] 37), rowW8_0, rowW8_12, rowW8_12, (rvar [I 1, I 0] 34), (rvar [I 0, I 0] 187), rowW8_13, rowW8_13, (rvar [I 1, I 0] 34), (rvar [I 1, I 0] 187), rowW8_13, rowW8_13, (rvar [I 1, I 0] 34), (rvar [I 1, I 0] 187), rowW8_14, rowW8_14, (rvar [I 1, I 0] 34), (rvar [I 2, I 0] 187), (.some (.miter 9 3 [0, 2, 1] 3)), (rvar [I 0, I 0] 187), (rvar [I 1, I 0] 34), rowW8_9, .none, (rvar [I 2, I 0] 187), (rvar [I 1, I 0] 34), rowW8_11, .none, (rvar [I 1, I 0] 187), (rvar [I 2, I 0] 34), rowW8_10, rowW8_3]
theorem w8_n13 : EndsA Tryz.prog 8 Tryz.f106 w8_A w8_V (w8_A ++ w8_RC) [.code w8_B, .inLoop w8_B, .inBlock 2, .code (dropS 5 (bodyOf 106))] w8_L13 w8_X13 := by
  refine EndsA.mapRound w8_hB (EndsA.over (.tmp 28) (some 29) 29 9 3 3 3 [0, 2, 1] [((g2 0 0), (g2 1 0), 0), ((g2 1 0), (g2 2 0), 1), ((g2 2 0), (g2 1 0), 2)] (by kernel_rfl) (by kernel_rfl) (by kernel_rfl) (by kernel_rfl) (by kernel_rfl) (by decide) (by kernel_rfl) ?_)
  refine EndsA.run (k := [.ops w8_O 1, .code w8_R, .inLoop w8_B, .inBlock 2]) prog_ok env0_ok ⟨_, w8_o13⟩ ?_
  refine EndsA.drop prog_ok env0_ok (by kernel_rfl) ⟨_, w8_t14⟩ ?_
  refine EndsA.drop prog_ok env0_ok (by kernel_rfl) ⟨_, w8_t15⟩ ?_
  rw [show w8_X16 = w8_A ++ w8_Y16 from by kernel_rfl]
  exact EndsA.renum (ids := [41]) (m := [.no, .no, .ren, .no, .no, .no, .no, .no, .no, .no, .no, .no, .no, .no, .no, .no, .no, .no, .no, .no, .no, .no, .no, .no, .no, .no, .no, .no, .no, .no, .free, .no, .no, .no, .no, .no, .free, .no, .no, .no, .no, .no, .no, .no, .no, .no, .no, .no, .no]) (fs := [(.bool false), (.bool true)]) (by decide) (by decide) (by decide) (by kernel_rfl) (by simp [freeB, atomB]) (RowsBy.cons (i := 41) (by kernel_rfl) (RowBy.plain (by kernel_rfl)) RowsBy.nil) w8_end
theorem w8_n12 : EndsA Tryz.prog 8 Tryz.f106 w8_A w8_V (w8_A ++ w8_RC) [.code w8_B, .inLoop w8_B, .inBlock 2, .code (dropS 5 (bodyOf 106))] w8_L12 w8_X12 := by
  refine EndsA.mapRound w8_hB (EndsA.more (.tmp 28) (some 29) 29 9 3 3 3 [0, 2] [((g2 0 0), (g2 1 0), 0), ((g2 1 0), (g2 2 0), 1), ((g2 2 0), (g2 1 0), 2)] [((g2 1 0), (g2 2 0), 1)] (by kernel_rfl) (by kernel_rfl) (by kernel_rfl) (by kernel_rfl) (by kernel_rfl) (by decide) (by kernel_rfl) (by kernel_rfl) ?_)
  exact ⟨⟨by kernel_rfl, EndsA.run (k := [.ops w8_O 1, .code w8_R]) prog_ok env0_ok ⟨_, w8_e13⟩ (EndsA.again w8_n13)⟩, trivial⟩
theorem w8_n6 : EndsA Tryz.prog 8 Tryz.f106 w8_A w8_V (w8_A ++ w8_RC) [.code w8_B, .inLoop w8_B, .inBlock 2, .code (dropS 5 (bodyOf 106))] w8_L6 w8_X6 := by
  refine EndsA.mapRound w8_hB (EndsA.more (.tmp 28) (some 29) 29 9 3 3 3 [0] [((g2 0 0), (g2 1 0), 0), ((g2 1 0), (g2 2 0), 1), ((g2 2 0), (g2 1 0), 2)] [((g2 1 0), (g2 2 0), 1), ((g2 2 0), (g2 1 0), 2)] (by kernel_rfl) (by kernel_rfl) (by kernel_rfl) (by kernel_rfl) (by kernel_rfl) (by decide) (by kernel_rfl) (by kernel_rfl) ?_)
  exact ⟨⟨by kernel_rfl, EndsA.run (k := [.ops w8_O 1, .code w8_R]) prog_ok env0_ok ⟨_, w8_e7⟩ (EndsA.again w8_n7)⟩, ⟨⟨by kernel_rfl, EndsA.run (k := [.ops w8_O 1, .code w8_R]) prog_ok env0_ok ⟨_, w8_e12⟩ (EndsA.again w8_n12)⟩, trivial⟩⟩
noncomputable def w8_L17 : List Value := [(sl 8 0 4 4), U, sn, (pt 10 0), U, U, U, (sl 33 0 1 1), (pt 30 0), (pt 31 0), (.map (.some 9)), (sl 8 0 4 4), (.func (.func 149) #[] #[(pt 11 0)]), U, U, U, U, U, U, U, U, U, U, U, U, U, U, (.map (.some 9)), (pt 29 0), (.tuple #[(.bool true), (g2 1 0), (g2 2 0)]), (.bool true), (.tuple #[(g2 1 0), (g2 2 0)]), (g2 1 0), (g2 2 0), (g2 2 0), (g2 0 0), (.bool true), sn, (pt 30 0), I 1, (pt 30 1), I 0, (g2 2 0), (.agg #[I 1, I 0, I 2, I 0]), (sl 32 0 1 1), (sl 33 0 1 1), U, U, U]
noncomputable def w8_X17 : Heap := (H [rowW8_2, rowW8_1, (rvar [(.map (.some 9))] 185), (rvar [(sl 8 0 4 4)] 37), rowW8_0, rowW8_12, rowW8_12, (rvar [I 1, I 0] 34), (rvar [I 0, I 0] 187), rowW8_13, rowW8_13, (rvar [I 1, I 0] 34), (rvar [I 1, I 0] 187), rowW8_13, rowW8_13, (rvar [I 1, I 0] 34), (rvar [I 1, I 0] 187), rowW8_14, rowW8_14, (rvar [I 1, I 0] 34), (rvar [I 2, I 0] 187), (.some (.miter 9 3 [1] 3)), (rvar [I 1, I 0] 187), (rvar [I 2, I 0] 34), rowW8_10, rowW8_10])
theorem w8_e17 : aRun Tryz.prog env0 100000 9 [.ops w8_O 1, .code w8_R] (tput w8_L5 (some 29) (.tuple #[.bool true, (g2 1 0), (g2 2 0)])) (hset w8_X5 29 (some (.miter 9 3 [1] 3))) = some (w8_L17, w8_X17, none) := by kernel_rfl
noncomputable def w8_L18 : List Value := [(sl 8 0 4 4), U, sn, (pt 10 0), U, U, U, (sl 37 0 2 2), (pt 34 0), (pt 35 0), (.map (.some 9)), (sl 8 0 4 4), (.func (.func 149) #[] #[(pt 11 0)]), U, U, U, U, U, U, U, U, U, U, U, U, U, U, (.map (.some 9)), (pt 29 0), (.tuple #[(.bool true), (g2 0 0), (g2 1 0)]), (.bool true), (.tuple #[(g2 0 0), (g2 1 0)]), (g2 0 0), (g2 1 0), (g2 1 0), (g2 0 0), (.bool true), (sl 33 0 1 1), (pt 34 0), I 0, (pt 34 1), I 0, (g2 1 0), (.agg #[I 0, I 0, I 1, I 0]), (sl 36 0 1 1), (sl 37 0 2 2), U, U, U]
noncomputable def w8_X18 : Heap := (H [rowW8_2, rowW8_1, (rvar [(.map (.some 9))] 185), (rvar [(sl 8 0 4 4)] 37), rowW8_0, rowW8_12, rowW8_12, (rvar [I 1, I 0] 34), (rvar [I 0, I 0] 187), rowW8_13, rowW8_13, (rvar [I 1, I 0] 34), (rvar [I 1, I 0] 187), rowW8_13, rowW8_13, (rvar [I 1, I 0] 34), (rvar [I 1, I 0] 187), rowW8_14, rowW8_14, (rvar [I 1, I 0] 34), (rvar [I 2, I 0] 187), (.some (.miter 9 3 [1, 0] 3)), (rvar [I 1, I 0] 187), (rvar [I 2, I 0] 34), rowW8_10, .none, (rvar [I 0, I 0] 187), (rvar [I 1, I 0] 34), rowW8_9, (rrow [I 1, I 0, I 2, I 0, I 0, I 0, I 1, I 0] 125)])
theorem w8_e18 : aRun Tryz.prog env0 100000 9 [.ops w8_O 1, .code w8_R] (tput w8_L17 (some 29) (.tuple #[.bool true, (g2 0 0), (g2 1 0)])) (hset w8_X17 29 (some (.miter 9 3 [1, 0] 3))) = some (w8_L18, w8_X18, none) := by kernel_rfl
noncomputable def w8_L19 : List Value := [(sl 8 0 4 4), U, sn, (pt 10 0), U, U, U, (sl 41 0 3 3), (pt 38 0), (pt 39 0), (.map (.some 9)), (sl 8 0 4 4), (.func (.func 149) #[] #[(pt 11 0)]), U, U, U, U, U, U, U, U, U, U, U, U, U, U, (.map (.some 9)), (pt 29 0), (.tuple #[(.bool true), (g2 2 0), (g2 1 0)]), (.bool true), (.tuple #[(g2 2 0), (g2 1 0)]), (g2 2 0), (g2 1 0), (g2 1 0), (g2 0 0), (.bool true), (sl 37 0 2 2), (pt 38 0), I 2, (pt 38 1), I 0, (g2 1 0), (.agg #[I 2, I 0, I 1, I 0]), (sl 40 0 1 1), (sl 41 0 3 3), U, U, U]
noncomputable def w8_X19 : Heap := (H [rowW8_2, rowW8_1, (rvar [(.map (.some 9))] 185), (rvar [(sl 8 0 4 4)] 37), rowW8_0, rowW8_12, rowW8_12, (rvar [I 1, I 0] 34), (rvar [I 0, I 0] 187), rowW8_13, rowW8_13, (rvar [I 1, I 0] 34), (rvar [I 1, I 0] 187), rowW8_13, rowW8_13, (rvar [I 1, I 0] 34), (rvar [I 1, I 0] 187), rowW8_14, rowW8_14, (rvar [I 1, I 0] 34), (rvar [I 2, I 0] 187), (.some (.miter 9 3 [1, 0, 2] 3)), (rvar [I 1, I 0] 187), (rvar [I 2, I 0] 34), rowW8_10, .none, (rvar [I 0, I 0] 187), (rvar [I 1, I 0] 34), rowW8_9, .none, (rvar [I 2, I 0] 187), (rvar [I 1, I 0] 34), rowW8_11, rowW8_5])
theorem w8_e19 : aRun Tryz.prog env0 100000 9 [.ops w8_O 1, .code w8_R] (tput w8_L18 (some 29) (.tuple #[.bool true, (g2 2 0), (g2 1 0)])) (hset w8_X18 29 (some (.miter 9 3 [1, 0, 2] 3))) = some (w8_L19, w8_X19, none) := by kernel_rfl
noncomputable def w8_L20 : List Value := [(sl 8 0 4 4), U, sn, (pt 10 0), U, U, U, (sl 41 0 3 3), (pt 38 0), (pt 39 0), (.map (.some 9)), (sl 8 0 4 4), (.func (.func 149) #[] #[(pt 11 0)]), U, U, U, U, U, U, U, U, U, U, U, U, U, U, (.map (.some 9)), (pt 29 0), (.tuple #[(.bool false)]), (.bool false), (.tuple #[(g2 2 0), (g2 1 0)]), (g2 2 0), (g2 1 0), (g2 1 0), (g2 0 0), (.bool true), (sl 37 0 2 2), (pt 38 0), I 2, (pt 38 1), I 0, (g2 1 0), (.agg #[I 2, I 0, I 1, I 0]), (sl 40 0 1 1), (sl 41 0 3 3), U, U, U]
noncomputable def w8_X20 : Heap := (H [rowW8_2, rowW8_1, (rvar [(.map (.some 9))] 185), (rvar [(sl 8 0 4 4)] 37), rowW8_0, rowW8_12, rowW8_12, (rvar [I 1, I 0] 34), (rvar [I 0, I 0] 187), rowW8_13, rowW8_13, (rvar [I 1, I 0] 34), (rvar [I 1, I 0] 187), rowW8_13, rowW8_13, (rvar [I 1, I 0] 34), (rvar [I 1, I 0] 187), rowW8_14, rowW8_14, (rvar [I 1, I 0] 34), (rvar [I 2, I 0] 187), (.some (.miter 9 3 [1, 0, 2] 3)), (rvar [I 1, I 0] 187), (rvar [I 2, I 0] 34), rowW8_10, .none, (rvar [I 0, I 0] 187), (rvar [I 1, I 0] 34), rowW8_9, .none, (rvar [I 2, I 0] 187), (rvar [I 1, I 0] 34), rowW8_11, rowW8_5])
theorem w8_o19 : aRun Tryz.prog env0 100000 9 [.ops w8_O 1, .code w8_R, .inLoop w8_B, .inBlock 2] (tput w8_L19 (some 29) (.tuple #[.bool false])) w8_X19 = some (w8_L20, w8_X20, none) := by kernel_rfl
noncomputable def w8_L21 : List Value := [(sl 8 0 4 4), U, sn, (pt 10 0), U, U, U, (sl 41 0 3 3), (pt 38 0), (pt 39 0), (.map (.some 9)), (sl 8 0 4 4), (.func (.func 149) #[] #[(pt 11 0)]), U, U, U, U, U, U, U, U, U, U, U, U, U, U, (.map (.some 9)), (pt 29 0), (.tuple #[(.bool false)]), (.bool false), (.tuple #[(g2 2 0), (g2 1 0)]), (g2 2 0), (g2 1 0), (g2 1 0), (g2 0 0), (.bool true), (sl 37 0 2 2), (pt 38 0), I 2, (pt 38 1), I 0, (g2 1 0), (.agg #[I 2, I 0, I 1, I 0]), (sl 40 0 1 1), (sl 41 0 3 3), (sl 41 0 3 3), U, U]
noncomputable def w8_X21 : Heap := (H [rowW8_2, rowW8_1, (rvar [(.map (.some 9))] 185), (rvar [(sl 8 0 4 4)] 37), rowW8_0, rowW8_12, rowW8_12, (rvar [I 1, I 0] 34), (rvar [I 0, I 0] 187), rowW8_13, rowW8_13, (rvar [I 1, I 0] 34), (rvar [I 1, I 0] 187), rowW8_13, rowW8_13, (rvar [I 1, I 0] 34), (rvar [I 1, I 0] 187), rowW8_14, rowW8_14, (rvar [I 1, I 0] 34), (rvar [I 2, I 0] 187), (.some (.miter 9 3 [1, 0, 2] 3)), (rvar [I 1, I 0] 187), (rvar [I 2, I 0] 34), rowW8_10, .none, (rvar [I 0, I 0] 187), (rvar [I 1, I 0] 34), rowW8_9, .none, (rvar [I 2, I 0] 187), (rvar [I 1, I 0] 34), rowW8_11, rowW8_3])
theorem w8_t20 : aRun Tryz.prog env0 100000 9 [.code (seqAt 5 (bodyOf 106))] w8_L20 w8_X20 = some (w8_L21, w8_X21, none) := by kernel_rfl
noncomputable def w8_L22 : List Value := [(sl 8 0 4 4), U, (sl 41 0 3 3), (pt 10 0), U, U, U, (sl 41 0 3 3), (pt 38 0), (pt 39 0), (.map (.some 9)), (sl 8 0 4 4), (.func (.func 149) #[] #[(pt 11 0)]), U, U, U, U, U, U, U, U, U, U, U, U, U, U, (.map (.some 9)), (pt 29 0), (.tuple #[(.bool false)]), (.bool false), (.tuple #[(g2 2 0), (g2 1 0)]), (g2 2 0), (g2 1 0), (g2 1 0), (g2 0 0), (.bool true), (sl 37 0 2 2), (pt 38 0), I 2, (pt 38 1), I 0, (g2 1 0), (.agg #[I 2, I 0, I 1, I 0]), (sl 40 0 1 1), (sl 41 0 3 3), (sl 41 0 3 3), U, (sl 41 0 3 3)]
noncomputable def w8_X22 : Heap := (H [rowW8_2, rowW8_1, (rvar [(.map (.some 9))] 185), (rvar [(sl 8 0 4 4)] 37), rowW8_0, rowW8_12, rowW8_12, (rvar [I 1, I 0] 34), (rvar [I 0, I 0] 187), rowW8_13, rowW8_13, (rvar [I 1, I 0] 34), (rvar [I 1, I 0] 187), rowW8_13, rowW8_13, (rvar [I 1, I 0] 34), (rvar [I 1, I 0] 187), rowW8_14, rowW8_14, (rvar [I 1, I 0] 34), (rvar [I 2, I 0] 187), (.some (.miter 9 3 [1, 0, 2] 3)), (rvar [I 1, I 0] 187), (rvar [I 2, I 0] 34), rowW8_10, .none, (rvar [I 0, I 0] 187), (rvar [I 1, I 0] 34), rowW8_9, .none, (rvar [I 2, I 0] 187), (rvar [I 1, I 0] 34), rowW8_11, rowW8_3])
theorem w8_t21 : aRun Tryz.prog env0 100000 9 [.code (seqAt 6 (bodyOf 106))] w8_L21 w8_X21 = some (w8_L22, w8_X22, none) := by kernel_rfl
noncomputable def w8_Y22 : Heap := [rowW8_1, (rvar [(.map (.some 9))] 185), (rvar [(sl 8 0 4 4)] 37), rowW8_0, rowW8_12, rowW8_12, (rvar [I 1, I 0] 34), (rvar [I 0, I 0] 187), rowW8_13, rowW8_13, (rvar [I 1, I 0] 34), (rvar [I 1, I 0] 187), rowW8_13, rowW8_13, (rvar [I 1, I 0] 34), (rvar [I 1, I 0] 187), rowW8_14, rowW8_14, (rvar [I 1, I 0] 34), (rvar [I 2, I 0] 187), (.some (.miter 9 3 [1, 0, 2] 3)), (rvar [I 1, I 0] 187), (rvar [I 2, I 0] 34), rowW8_10, .none, (rvar [I 0, I 0] 187), (rvar [I 1, I 0] 34), rowW8_9, .none, (rvar [I 2, I 0] 187), (rvar [I 1, I 0] 34), rowW8_11, rowW8_3]
theorem w8_n19 : EndsA Tryz.prog 8 Tryz.f106 w8_A w8_V (w8_A ++ w8_RC) [.code w8_B, .inLoop w8_B, .inBlock 2, .code (dropS 5 (bodyOf 106))] w8_L19 w8_X19 := by
  refine EndsA.mapRound w8_hB (EndsA.over (.tmp 28) (some 29) 29 9 3 3 3 [1, 0, 2] [((g2 0 0), (g2 1 0), 0), ((g2 1 0), (g2 2 0), 1), ((g2 2 0), (g2 1 0), 2)] (by kernel_rfl) (by kernel_rfl) (by kernel_rfl) (by kernel_rfl) (by kernel_rfl) (by decide) (by kernel_rfl) ?_)
  refine EndsA.run (k := [.ops w8_O 1, .code w8_R, .inLoop w8_B, .inBlock 2]) prog_ok env0_ok ⟨_, w8_o19⟩ ?_
  refine EndsA.drop prog_ok env0_ok (by kernel_rfl) ⟨_, w8_t20⟩ ?_
  refine EndsA.drop prog_ok env0_ok (by kernel_rfl) ⟨_, w8_t21⟩ ?_
  rw [show w8_X22 = w8_A ++ w8_Y22 from by kernel_rfl]
  exact EndsA.renum (ids := [41]) (m := [.no, .no, .ren, .no, .no, .no, .no, .no, .no, .no, .no, .no, .no, .no, .no, .no, .no, .no, .no, .no, .no, .no, .no, .no, .no, .no, .no, .no, .no, .no, .free, .no, .no, .no, .no, .no, .free, .no, .no, .no, .no, .no, .no, .no, .no, .no, .no, .no, .no]) (fs := [(.bool false), (.bool true)]) (by decide) (by decide) (by decide) (by kernel_rfl) (by simp [freeB, atomB]) (RowsBy.cons (i := 41) (by kernel_rfl) (RowBy.plain (by kernel_rfl)) RowsBy.nil) w8_end
theorem w8_n18 : EndsA Tryz.prog 8 Tryz.f106 w8_A w8_V (w8_A ++ w8_RC) [.code w8_B, .inLoop w8_B, .inBlock 2, .code (dropS 5 (bodyOf 106))] w8_L18 w8_X18 := by
  refine EndsA.mapRound w8_hB (EndsA.more (.tmp 28) (some 29) 29 9 3 3 3 [1, 0] [((g2 0 0), (g2 1 0), 0), ((g2 1 0), (g2 2 0), 1), ((g2 2 0), (g2 1 0), 2)] [((g2 2 0), (g2 1 0), 2)] (by kernel_rfl) (by kernel_rfl) (by kernel_rfl) (by kernel_rfl) (by kernel_rfl) (by decide) (by kernel_rfl) (by kernel_rfl) ?_)
  exact ⟨⟨by kernel_rfl, EndsA.run (k := [.ops w8_O 1, .code w8_R]) prog_ok env0_ok ⟨_, w8_e19⟩ (EndsA.again w8_n19)⟩, trivial⟩
noncomputable def w8_L23 : List Value := [(sl 8 0 4 4), U, sn, (pt 10 0), U, U, U, (sl 37 0 2 2), (pt 34 0), (pt 35 0), (.map (.some 9)), (sl 8 0 4 4), (.func (.func 149) #[] #[(pt 11 0)]), U, U, U, U, U, U, U, U, U, U, U, U, U, U, (.map (.some 9)), (pt 29 0), (.tuple #[(.bool true), (g2 2 0), (g2 1 0)]), (.bool true), (.tuple #[(g2 2 0), (g2 1 0)]), (g2 2 0), (g2 1 0), (g2 1 0), (g2 0 0), (.bool true), (sl 33 0 1 1), (pt 34 0), I 2, (pt 34 1), I 0, (g2 1 0), (.agg #[I 2, I 0, I 1, I 0]), (sl 36 0 1 1), (sl 37 0 2 2), U, U, U]
noncomputable def w8_X23 : Heap := (H [rowW8_2, rowW8_1, (rvar [(.map (.some 9))] 185), (rvar [(sl 8 0 4 4)] 37), rowW8_0, rowW8_12, rowW8_12, (rvar [I 1, I 0] 34), (rvar [I 0, I 0] 187), rowW8_13, rowW8_13, (rvar [I 1, I 0] 34), (rvar [I 1, I 0] 187), rowW8_13, rowW8_13, (rvar [I 1, I 0] 34), (rvar [I 1, I 0] 187), rowW8_14, rowW8_14, (rvar [I 1, I 0] 34), (rvar [I 2, I 0] 187), (.some (.miter 9 3 [1, 2] 3)), (rvar [I 1, I 0] 187), (rvar [I 2, I 0] 34), rowW8_10, .none, (rvar [I 2, I 0] 187), (rvar [I 1, I 0] 34), rowW8_11, (rrow [I 1, I 0, I 2, I 0, I 2, I 0, I 1, I 0] 125)])
theorem w8_e23 : aRun Tryz.prog env0 100000 9 [.ops w8_O 1, .code w8_R] (tput w8_L17 (some 29) (.tuple #[.bool true, (g2 2 0), (g2 1 0)])) (hset w8_X17 29 (some (.miter 9 3 [1, 2] 3))) = some (w8_L23, w8_X23, none) := by kernel_rfl
noncomputable def w8_L24 : List Value := [(sl 8 0 4 4), U, sn, (pt 10 0), U, U, U, (sl 41 0 3 3), (pt 38 0), (pt 39 0), (.map (.some 9)), (sl 8 0 4 4), (.func (.func 149) #[] #[(pt 11 0)]), U, U, U, U, U, U, U, U, U, U, U, U, U, U, (.map (.some 9)), (pt 29 0), (.tuple #[(.bool true), (g2 0 0), (g2 1 0)]), (.bool true), (.tuple #[(g2 0 0), (g2 1 0)]), (g2 0 0), (g2 1 0), (g2 1 0), (g2 0 0), (.bool true), (sl 37 0 2 2), (pt 38 0), I 0, (pt 38 1), I 0, (g2 1 0), (.agg #[I 0, I 0, I 1, I 0]), (sl 40 0 1 1), (sl 41 0 3 3), U, U, U]
noncomputable def w8_X24 : Heap := (H [rowW8_2, rowW8_1, (rvar [(.map (.some 9))] 185), (rvar [(sl 8 0 4 4)] 37), rowW8_0, rowW8_12, rowW8_12, (rvar [I 1, I 0] 34), (rvar [I 0, I 0] 187), rowW8_13, rowW8_13, (rvar [I 1, I 0] 34), (rvar [I 1, I 0] 187), rowW8_13, rowW8_13, (rvar [I 1, I 0] 34), (rvar [I 1, I 0] 187), rowW8_14, rowW8_14, (rvar [I 1, I 0] 34), (rvar [I 2, I 0] 187), (.some (.miter 9 3 [1, 2, 0] 3)), (rvar [I 1, I 0] 187), (rvar [I 2, I 0] 34), rowW8_10, .none, (rvar [I 2, I 0] 187), (rvar [I 1, I 0] 34), rowW8_11, .none, (rvar [I 0, I 0] 187), (rvar [I 1, I 0] 34), rowW8_9, rowW8_6])
theorem w8_e24 : aRun Tryz.prog env0 100000 9 [.ops w8_O 1, .code w8_R] (tput w8_L23 (some 29) (.tuple #[.bool true, (g2 0 0), (g2 1 0)])) (hset w8_X23 29 (some (.miter 9 3 [1, 2, 0] 3))) = some (w8_L24, w8_X24, none) := by kernel_rfl
noncomputable def w8_L25 : List Value := [(sl 8 0 4 4), U, sn, (pt 10 0), U, U, U, (sl 41 0 3 3), (pt 38 0), (pt 39 0), (.map (.some 9)), (sl 8 0 4 4), (.func (.func 149) #[] #[(pt 11 0)]), U, U, U, U, U, U, U, U, U, U, U, U, U, U, (.map (.some 9)), (pt 29 0), (.tuple #[(.bool false)]), (.bool false), (.tuple #[(g2 0 0), (g2 1 0)]), (g2 0 0), (g2 1 0), (g2 1 0), (g2 0 0), (.bool true), (sl 37 0 2 2), (pt 38 0), I 0, (pt 38 1), I 0, (g2 1 0), (.agg #[I 0, I 0, I 1, I 0]), (sl 40 0 1 1), (sl 41 0 3 3), U, U, U]
noncomputable def w8_X25 : Heap := (H [rowW8_2, rowW8_1, (rvar [(.map (.some 9))] 185), (rvar [(sl 8 0 4 4)] 37), rowW8_0, rowW8_12, rowW8_12, (rvar [I 1, I 0] 34), (rvar [I 0, I 0] 187), rowW8_13, rowW8_13, (rvar [I 1, I 0] 34), (rvar [I 1, I 0] 187), rowW8_13, rowW8_13, (rvar [I 1, I 0] 34), (rvar [I 1, I 0] 187), rowW8_14, rowW8_14, (rvar [I 1, I 0] 34), (rvar [I 2, I 0] 187), (.some (.miter 9 3 [1, 2, 0] 3)), (rvar [I 1, I 0] 187), (rvar [I 2, I 0] 34), rowW8_10, .none, (rvar [I 2, I 0] 187), (rvar [I 1, I 0] 34), rowW8_11, .none, (rvar [I 0, I 0] 187), (rvar [I 1, I 0] 34), rowW8_9, rowW8_6])
theorem w8_o24 : aRun Tryz.prog env0 100000 9 [.ops w8_O 1, .code w8_R, .inLoop w8_B, .inBlock 2] (tput w8_L24 (some 29) (.tuple #[.bool false])) w8_X24 = some (w8_L25, w8_X25, none) := by kernel_rfl
noncomputable def w8_L26 : List Value := [(sl 8 0 4 4), U, sn, (pt 10 0), U, U, U, (sl 41 0 3 3), (pt 38 0), (pt 39 0), (.map (.some 9)), (sl 8 0 4 4), (.func (.func 149) #[] #[(pt 11 0)]), U, U, U, U, U, U, U, U, U, U, U, U, U, U, (.map (.some 9)), (pt 29 0), (.tuple #[(.bool false)]), (.bool false), (.tuple #[(g2 0 0), (g2 1 0)]), (g2 0 0), (g2 1 0), (g2 1 0), (g2 0 0), (.bool true), (sl 37 0 2 2), (pt 38 0), I 0, (pt 38 1), I 0, (g2 1 0), (.agg #[I 0, I 0, I 1, I 0]), (sl 40 0 1 1), (sl 41 0 3 3), (sl 41 0 3 3), U, U]
noncomputable def w8_X26 : Heap := (H [rowW8_2, rowW8_1, (rvar [(.map (.some 9))] 185), (rvar [(sl 8 0 4 4)] 37), rowW8_0, rowW8_12, rowW8_12, (rvar [I 1, I 0] 34), (rvar [I 0, I 0] 187), rowW8_13, rowW8_13, (rvar [I 1, I 0] 34), (rvar [I 1, I 0] 187), rowW8_13, rowW8_13, (rvar [I 1, I 0] 34), (rvar [I 1, I 0] 187), rowW8_14, rowW8_14, (rvar [I 1, I 0] 34), (rvar [I 2, I 0] 187), (.some (.miter 9 3 [1, 2, 0] 3)), (rvar [I 1, I 0] 187), (rvar [I 2, I 0] 34), rowW8_10, .none, (rvar [I 2, I 0] 187), (rvar [I 1, I 0] 34), rowW8_11, .none, (rvar [I 0, I 0] 187), (rvar [I 1, I 0] 34), rowW8_9, rowW8_3])
theorem w8_t25 : aRun Tryz.prog env0 100000 9 [.code (seqAt 5 (bodyOf 106))] w8_L25 w8_X25 = some (w8_L26, w8_X26, none) := by kernel_rfl
noncomputable def w8_L27 : List Value := [(sl 8 0 4 4), U, (sl 41 0 3 3), (pt 10 0), U, U, U, (sl 41 0 3 3), (pt 38 0), (pt 39 0), (.map (.some 9)), (sl 8 0 4 4), (.func (.func 149) #[] #[(pt 11 0)]), U, U, U, U, U, U, U, U, U, U, U, U, U, U, (.map (.some 9)), (pt 29 0), (.tuple #[(.bool false)]), (.bool false), (.tuple #[(g2 0 0), (g2 1 0)]), (g2 0 0), (g2 1 0), (g2 1 0), (g2 0 0), (.bool true), (sl 37 0 2 2), (pt 38 0), I 0, (pt 38 1), I 0, (g2 1 0), (.agg #[I 0, I 0, I 1, I 0]), (sl 40 0 1 1), (sl 41 0 3 3), (sl 41 0 3 3), U, (sl 41 0 3 3)]
noncomputable def w8_X27 : Heap := (H [rowW8_2, rowW8_1, (rvar [(.map (.some 9))] 185), (rvar [(sl 8 0 4 4)] 37), rowW8_0, rowW8_12, rowW8_12, (rvar [I 1, I 0] 34), (rvar [I 0, I 0] 187), rowW8_13, rowW8_13, (rvar [I 1, I 0] 34), (rvar [I 1, I 0] 187), rowW8_13, rowW8_13, (rvar [I 1, I 0] 34), (rvar [I 1, I 0] 187), rowW8_14, rowW8_14, (rvar [I 1, I 0] 34), (rvar [I 2, I 0] 187), (.some (.miter 9 3 [1, 2, 0] 3)), (rvar [I 1, I 0] 187), (rvar [I 2, I 0] 34), rowW8_10, .none, (rvar [I 2, I 0] 187), (rvar [I 1, I 0] 34), rowW8_11, .none, (rvar [I 0, I 0] 187), (rvar [I 1, I 0] 34), rowW8_9, rowW8_3])
theorem w8_t26 : aRun Tryz.prog env0 100000 9 [.code (seqAt 6 (bodyOf 106))] w8_L26 w8_X26 = some (w8_L27, w8_X27, none) := by kernel_rfl
noncomputable def w8_Y27 : Heap := [rowW8_1, (rvar [(.map (.some 9))] 185), (rvar [(sl 8 0 4 4)] 37), rowW8_0, rowW8_12, rowW8_12, (rvar [I 1, I 0] 34), (rvar [I 0, I 0] 187), rowW8_13, rowW8_13, (rvar [I 1, I 0] 34), (rvar [I 1, I 0] 187), rowW8_13, rowW8_13, (rvar [I 1, I 0] 34), (rvar [I 1, I 0] 187), rowW8_14, rowW8_14, (rvar [I 1, I 0] 34), (rvar [I 2, I 0] 187), (.some (.miter 9 3 [1, 2, 0] 3)), (rvar [I 1, I 0] 187), (rvar [I 2, I 0] 34), rowW8_10, .none, (rvar [I 2, I 0] 187), (rvar [I 1, I 0] 34), rowW8_11, .none, (rvar [I 0, I 0] 187), (rvar [I 1, I 0] 34), rowW8_9, rowW8_3]
theorem w8_n24 : EndsA Tryz.prog 8 Tryz.f106 w8_A w8_V (w8_A ++ w8_RC) [.code w8_B, .inLoop w8_B, .inBlock 2, .code (dropS 5 (bodyOf 106))] w8_L24 w8_X24 := by
  refine EndsA.mapRound w8_hB (EndsA.over (.tmp 28) (some 29) 29 9 3 3 3 [1, 2, 0] [((g2 0 0), (g2 1 0), 0), ((g2 1 0), (g2 2 0), 1), ((g2 2 0), (g2 1 0), 2)] (by kernel_rfl) (by kernel_rfl) (by kernel_rfl) (by kernel_rfl) (by kernel_rfl) (by decide) (by kernel_rfl) ?_)
  refine EndsA.run (k := [.ops w8_O 1, .code w8_R, .inLoop w8_B, .inBlock 2]) prog_ok env0_ok ⟨_, w8_o24⟩ ?_
  refine EndsA.drop prog_ok env0_ok (by kernel_rfl) ⟨_, w8_t25⟩ ?_
  refine EndsA.drop prog_ok env0_ok (by kernel_rfl) ⟨_, w8_t26⟩ ?_
  rw [show w8_X27 = w8_A ++ w8_Y27 from by kernel_rfl]
  exact EndsA.renum (ids := [41]) (m := [.no, .no, .ren, .no, .no, .no, .no, .no, .no, .no, .no, .no, .no, .no, .no, .no, .no, .no, .no, .no, .no, .no, .no, .no, .no, .no, .no, .no, .no, .no, .free, .no, .no, .no, .no, .no, .free, .no, .no, .no, .no, .no, .no, .no, .no, .no, .no, .no, .no]) (fs := [(.bool false), (.bool true)]) (by decide) (by decide) (by decide) (by kernel_rfl) (by simp [freeB, atomB]) (RowsBy.cons (i := 41) (by kernel_rfl) (RowBy.plain (by kernel_rfl)) RowsBy.nil) w8_end
theorem w8_n23 : EndsA Tryz.prog 8 Tryz.f106 w8_A w8_V (w8_A ++ w8_RC) [.code w8_B, .inLoop w8_B, .inBlock 2, .code (dropS 5 (bodyOf 106))] w8_L23 w8_X23 := by
  refine EndsA.mapRound w8_hB (EndsA.more (.tmp 28) (some 29) 29 9 3 3 3 [1, 2] [((g2 0 0), (g2 1 0), 0), ((g2 1 0), (g2 2 0), 1), ((g2 2 0), (g2 1 0), 2)] [((g2 0 0), (g2 1 0), 0)] (by kernel_rfl) (by kernel_rfl) (by kernel_rfl) (by kernel_rfl) (by kernel_rfl) (by decide) (by kernel_rfl) (by kernel_rfl) ?_)
  exact ⟨⟨by kernel_rfl, EndsA.run (k := [.ops w8_O 1, .code w8_R]) prog_ok env0_ok ⟨_, w8_e24⟩ (EndsA.again w8_n24)⟩, trivial⟩
theorem w8_n17 : EndsA Tryz.prog 8 Tryz.f106 w8_A w8_V (w8_A ++ w8_RC) [.code w8_B, .inLoop w8_B, .inBlock 2, .code (dropS 5 (bodyOf 106))] w8_L17 w8_X17 := by
  refine EndsA.mapRound w8_hB (EndsA.more (.tmp 28) (some 29) 29 9 3 3 3 [1] [((g2 0 0), (g2 1 0), 0), ((g2 1 0), (g2 2 0), 1), ((g2 2 0), (g2 1 0), 2)] [((g2 0 0), (g2 1 0), 0), ((g2 2 0), (g2 1 0), 2)] (by kernel_rfl) (by kernel_rfl) (by kernel_rfl) (by kernel_rfl) (by kernel_rfl) (by decide) (by kernel_rfl) (by kernel_rfl) ?_)
  exact ⟨⟨by kernel_rfl, EndsA.run (k := [.ops w8_O 1, .code w8_R]) prog_ok env0_ok ⟨_, w8_e18⟩ (EndsA.again w8_n18)⟩, ⟨⟨by kernel_rfl, EndsA.run (k := [.ops w8_O 1, .code w8_R]) prog_ok env0_ok ⟨_, w8_e23⟩ (EndsA.again w8_n23)⟩, trivial⟩⟩
noncomputable def w8_L28 : List Value := [(sl 8 0 4 4), U, sn, (pt 10 0), U, U, U, (sl 33 0 1 1), (pt 30 0), (pt 31 0), (.map (.some 9)), (sl 8 0 4 4), (.func (.func 149) #[] #[(pt 11 0)]), U, U, U, U, U, U, U, U, U, U, U, U, U, U, (.map (.some 9)), (pt 29 0), (.tuple #[(.bool true), (g2 2 0), (g2 1 0)]), (.bool true), (.tuple #[(g2 2 0), (g2 1 0)]), (g2 2 0), (g2 1 0), (g2 1 0), (g2 0 0), (.bool true), sn, (pt 30 0), I 2, (pt 30 1), I 0, (g2 1 0), (.agg #[I 2, I 0, I 1, I 0]), (sl 32 0 1 1), (sl 33 0 1 1), U, U, U]
noncomputable def w8_X28 : Heap := (H [rowW8_2, rowW8_1, (rvar [(.map (.some 9))] 185), (rvar [(sl 8 0 4 4)] 37), rowW8_0, rowW8_12, rowW8_12, (rvar [I 1, I 0] 34), (rvar [I 0, I 0] 187), rowW8_13, rowW8_13, (rvar [I 1, I 0] 34), (rvar [I 1, I 0] 187), rowW8_13, rowW8_13, (rvar [I 1, I 0] 34), (rvar [I 1, I 0] 187), rowW8_14, rowW8_14, (rvar [I 1, I 0] 34), (rvar [I 2, I 0] 187), (.some (.miter 9 3 [2] 3)), (rvar [I 2, I 0] 187), (rvar [I 1, I 0] 34), rowW8_11, rowW8_11])
theorem w8_e28 : aRun Tryz.prog env0 100000 9 [.ops w8_O 1, .code w8_R] (tput w8_L5 (some 29) (.tuple #[.bool true, (g2 2 0), (g2 1 0)])) (hset w8_X5 29 (some (.miter 9 3 [2] 3))) = some (w8_L28, w8_X28, none) := by kernel_rfl
noncomputable def w8_L29 : List Value := [(sl 8 0 4 4), U, sn, (pt 10 0), U, U, U, (sl 37 0 2 2), (pt 34 0), (pt 35 0), (.map (.some 9)), (sl 8 0 4 4), (.func (.func 149) #[] #[(pt 11 0)]), U, U, U, U, U, U, U, U, U, U, U, U, U, U, (.map (.some 9)), (pt 29 0), (.tuple #[(.bool true), (g2 0 0), (g2 1 0)]), (.bool true), (.tuple #[(g2 0 0), (g2 1 0)]), (g2 0 0), (g2 1 0), (g2 1 0), (g2 0 0), (.bool true), (sl 33 0 1 1), (pt 34 0), I 0, (pt 34 1), I 0, (g2 1 0), (.agg #[I 0, I 0, I 1, I 0]), (sl 36 0 1 1), (sl 37 0 2 2), U, U, U]
noncomputable def w8_X29 : Heap := (H [rowW8_2, rowW8_1, (rvar [(.map (.some 9))] 185), (rvar [(sl 8 0 4 4)] 37), rowW8_0, rowW8_12, rowW8_12, (rvar [I 1, I 0] 34), (rvar [I 0, I 0] 187), rowW8_13, rowW8_13, (rvar [I 1, I 0] 34), (rvar [I 1, I 0] 187), rowW8_13, rowW8_13, (rvar [I 1, I 0] 34), (rvar [I 1, I 0] 187), rowW8_14, rowW8_14, (rvar [I 1, I 0] 34), (rvar [I 2, I 0] 187), (.some (.miter 9 3 [2, 0] 3)), (rvar [I 2, I 0] 187), (rvar [I 1, I 0] 34), rowW8_11, .none, (rvar [I 0, I 0] 187), (rvar [I 1, I 0] 34), rowW8_9, (rrow [I 2, I 0, I 1, I 0, I 0, I 0, I 1, I 0] 125)])
theorem w8_e29 : aRun Tryz.prog env0 100000 9 [.ops w8_O 1, .code w8_R] (tput w8_L28 (some 29) (.tuple #[.bool true, (g2 0 0), (g2 1 0)])) (hset w8_X28 29 (some (.miter 9 3 [2, 0] 3))) = some (w8_L29, w8_X29, none) := by kernel_rfl
noncomputable def w8_L30 : List Value := [(sl 8 0 4 4), U, sn, (pt 10 0), U, U, U, (sl 41 0 3 3), (pt 38 0), (pt 39 0), (.map (.some 9)), (sl 8 0 4 4), (.func (.func 149) #[] #[(pt 11 0)]), U, U, U, U, U, U, U, U, U, U, U, U, U, U, (.map (.some 9)), (pt 29 0), (.tuple #[(.bool true), (g2 1 0), (g2 2 0)]), (.bool true), (.tuple #[(g2 1 0), (g2 2 0)]), (g2 1 0), (g2 2 0), (g2 2 0), (g2 0 0), (.bool true), (sl 37 0 2 2), (pt 38 0), I 1, (pt 38 1), I 0, (g2 2 0), (.agg #[I 1, I 0, I 2, I 0]), (sl 40 0 1 1), (sl 41 0 3 3), U, U, U]
noncomputable def w8_X30 : Heap := (H [rowW8_2, rowW8_1, (rvar [(.map (.some 9))] 185), (rvar [(sl 8 0 4 4)] 37), rowW8_0, rowW8_12, rowW8_12, (rvar [I 1, I 0] 34), (rvar [I 0, I 0] 187), rowW8_13, rowW8_13, (rvar [I 1, I 0] 34), (rvar [I 1, I 0] 187), rowW8_13, rowW8_13, (rvar [I 1, I 0] 34), (rvar [I 1, I 0] 187), rowW8_14, rowW8_14, (rvar [I 1, I 0] 34), (rvar [I 2, I 0] 187), (.some (.miter 9 3 [2, 0, 1] 3)), (rvar [I 2, I 0] 187), (rvar [I 1, I 0] 34), rowW8_11, .none, (rvar [I 0, I 0] 187), (rvar [I 1, I 0] 34), rowW8_9, .none, (rvar [I 1, I 0] 187), (rvar [I 2, I 0] 34), rowW8_10, rowW8_7])
theorem w8_e30 : aRun Tryz.prog env0 100000 9 [.ops w8_O 1, .code w8_R] (tput w8_L29 (some 29) (.tuple #[.bool true, (g2 1 0), (g2 2 0)])) (hset w8_X29 29 (some (.miter 9 3 [2, 0, 1] 3))) = some (w8_L30, w8_X30, none) := by kernel_rfl
noncomputable def w8_L31 : List Value := [(sl 8 0 4 4), U, sn, (pt 10 0), U, U, U, (sl 41 0 3 3), (pt 38 0), (pt 39 0), (.map (.some 9)), (sl 8 0 4 4), (.func (.func 149) #[] #[(pt 11 0)]), U, U, U, U, U, U, U, U, U, U, U, U, U, U, (.map (.some 9)), (pt 29 0), (.tuple #[(.bool false)]), (.bool false), (.tuple #[(g2 1 0), (g2 2 0)]), (g2 1 0), (g2 2 0), (g2 2 0), (g2 0 0), (.bool true), (sl 37 0 2 2), (pt 38 0), I 1, (pt 38 1), I 0, (g2 2 0), (.agg #[I 1, I 0, I 2, I 0]), (sl 40 0 1 1), (sl 41 0 3 3), U, U, U]
noncomputable def w8_X31 : Heap := (H [rowW8_2, rowW8_1, (rvar [(.map (.some 9))] 185), (rvar [(sl 8 0 4 4)] 37), rowW8_0, rowW8_12, rowW8_12, (rvar [I 1, I 0] 34), (rvar [I 0, I 0] 187), rowW8_13, rowW8_13, (rvar [I 1, I 0] 34), (rvar [I 1, I 0] 187), rowW8_13, rowW8_13, (rvar [I 1, I 0] 34), (rvar [I 1, I 0] 187), rowW8_14, rowW8_14, (rvar [I 1, I 0] 34), (rvar [I 2, I 0] 187), (.some (.miter 9 3 [2, 0, 1] 3)), (rvar [I 2, I 0] 187), (rvar [I 1, I 0] 34), rowW8_11, .none, (rvar [I 0, I 0] 187), (rvar [I 1, I 0] 34), rowW8_9, .none, (rvar [I 1, I 0] 187), (rvar [I 2, I 0] 34), rowW8_10, rowW8_7])
theorem w8_o30 : aRun Tryz.prog env0 100000 9 [.ops w8_O 1, .code w8_R, .inLoop w8_B, .inBlock 2] (tput w8_L30 (some 29) (.tuple #[.bool false])) w8_X30 = some (w8_L31, w8_X31, none) := by kernel_rfl
noncomputable def w8_L32 : List Value := [(sl 8 0 4 4), U, sn, (pt 10 0), U, U, U, (sl 41 0 3 3), (pt 38 0), (pt 39 0), (.map (.some 9)), (sl 8 0 4 4), (.func (.func 149) #[] #[(pt 11 0)]), U, U, U, U, U, U, U, U, U, U, U, U, U, U, (.map (.some 9)), (pt 29 0), (.tuple #[(.bool false)]), (.bool false), (.tuple #[(g2 1 0), (g2 2 0)]), (g2 1 0), (g2 2 0), (g2 2 0), (g2 0 0), (.bool true), (sl 37 0 2 2), (pt 38 0), I 1, (pt 38 1), I 0, (g2 2 0), (.agg #[I 1, I 0, I 2, I 0]), (sl 40 0 1 1), (sl 41 0 3 3), (sl 41 0 3 3), U, U]
noncomputable def w8_X32 : Heap := (H [rowW8_2, rowW8_1, (rvar [(.map (.some 9))] 185), (rvar [(sl 8 0 4 4)] 37), rowW8_0, rowW8_12, rowW8_12, (rvar [I 1, I 0] 34), (rvar [I 0, I 0] 187), rowW8_13, rowW8_13, (rvar [I 1, I 0] 34), (rvar [I 1, I 0] 187), rowW8_13, rowW8_13, (rvar [I 1, I 0] 34), (rvar [I 1, I 0] 187), rowW8_14, rowW8_14, (rvar [I 1, I 0] 34), (rvar [I 2, I 0] 187), (.some (.miter 9 3 [2, 0, 1] 3)), (rvar [I 2, I 0] 187), (rvar [I 1, I 0] 34), rowW8_11, .none, (rvar [I 0, I 0] 187), (rvar [I 1, I 0] 34), rowW8_9, .none, (rvar [I 1, I 0] 187), (rvar [I 2, I 0] 34), rowW8_10, rowW8_3])
theorem w8_t31 : aRun Tryz.prog env0 100000 9 [.code (seqAt 5 (bodyOf 106))] w8_L31 w8_X31 = some (w8_L32, w8_X32, none) := by kernel_rfl
noncomputable def w8_L33 : List Value := [(sl 8 0 4 4), U, (sl 41 0 3 3), (pt 10 0), U, U, U, (sl 41 0 3 3), (pt 38 0), (pt 39 0), (.map (.some 9)), (sl 8 0 4 4), (.func (.func 149) #[] #[(pt 11 0)]), U, U, U, U, U, U, U, U, U, U, U, U, U, U, (.map (.some 9)), (pt 29 0), (.tuple #[(.bool false)]), (.bool false), (.tuple #[(g2 1 0), (g2 2 0)]), (g2 1 0), (g2 2 0), (g2 2 0), (g2 0 0), (.bool true), (sl 37 0 2 2), (pt 38 0), I 1, (pt 38 1), I 0, (g2 2 0), (.agg #[I 1, I 0, I 2, I 0]), (sl 40 0 1 1), (sl 41 0 3 3), (sl 41 0 3 3), U, (sl 41 0 3 3)]
noncomputable def w8_X33 : Heap := (H [rowW8_2, rowW8_1, (rvar [(.map (.some 9))] 185), (rvar [(sl 8 0 4 4)] 37), rowW8_0, rowW8_12, rowW8_12, (rvar [I 1, I 0] 34), (rvar [I 0, I 0] 187), rowW8_13, rowW8_13, (rvar [I 1, I 0] 34), (rvar [I 1, I 0] 187), rowW8_13, rowW8_13, (rvar [I 1, I 0] 34), (rvar [I 1, I 0] 187), rowW8_14, rowW8_14, (rvar [I 1, I 0] 34), (rvar [I 2, I 0] 187), (.some (.miter 9 3 [2, 0, 1] 3)), (rvar [I 2, I 0] 187), (rvar [I 1, I 0] 34), rowW8_11, .none, (rvar [I 0, I 0] 187), (rvar [I 1, I 0] 34), rowW8_9, .none, (rvar [I 1, I 0] 187), (rvar [I 2, I 0] 34), rowW8_10, rowW8_3])
theorem w8_t32 : aRun Tryz.prog env0 100000 9 [.code (seqAt 6 (bodyOf 106))] w8_L32 w8_X32 = some (w8_L33, w8_X33, none) := by kernel_rfl
noncomputable def w8_Y33 : Heap := [rowW8_1, (rvar [(.map (.some 9))] 185), (rvar [(sl 8 0 4 4)] 37), rowW8_0, rowW8_12, rowW8_12, (rvar [I 1, I 0] 34), (rvar [I 0, I 0] 187), rowW8_13, rowW8_13, (rvar [I 1, I 0] 34), (rvar [I 1, I 0] 187), rowW8_13, rowW8_13, (rvar [I 1, I 0] 34), (rvar [I 1, I 0] 187), rowW8_14, rowW8_14, (rvar [I 1, I 0] 34), (rvar [I 2, I 0] 187), (.some (.miter 9 3 [2, 0, 1] 3)), (rvar [I 2, I 0] 187), (rvar [I 1, I 0] 34), rowW8_11, .none, (rvar [I 0, I 0] 187), (rvar [I 1, I 0] 34), rowW8_9, .none, (rvar [I 1, I 0] 187), (rvar [I 2, I 0] 34), rowW8_10, rowW8_3]
theorem w8_n30 : EndsA Tryz.prog 8 Tryz.f106 w8_A w8_V (w8_A ++ w8_RC) [.code w8_B, .inLoop w8_B, .inBlock 2, .code (dropS 5 (bodyOf 106))] w8_L30 w8_X30 := by
  refine EndsA.mapRound w8_hB (EndsA.over (.tmp 28) (some 29) 29 9 3 3 3 [2, 0, 1] [((g2 0 0), (g2 1 0), 0), ((g2 1 0), (g2 2 0), 1), ((g2 2 0), (g2 1 0), 2)] (by kernel_rfl) (by kernel_rfl) (by kernel_rfl) (by kernel_rfl) (by kernel_rfl) (by decide) (by kernel_rfl) ?_)
  refine EndsA.run (k := [.ops w8_O 1, .code w8_R, .inLoop w8_B, .inBlock 2]) prog_ok env0_ok ⟨_, w8_o30⟩ ?_
  refine EndsA.drop prog_ok env0_ok (by kernel_rfl) ⟨_, w8_t31⟩ ?_
  refine EndsA.drop prog_ok env0_ok (by kernel_rfl) ⟨_, w8_t32⟩ ?_
  rw [show w8_X33 = w8_A ++ w8_Y33 from by kernel_rfl]
  exact EndsA.renum (ids := [41]) (m := [.no, .no, .ren, .no, .no, .no, .no, .no, .no, .no, .no, .no, .no, .no, .no, .no, .no, .no, .no, .no, .no, .no, .no, .no, .no, .no, .no, .no, .no, .no, .free, .no, .no, .no, .no, .no, .free, .no, .no, .no, .no, .no, .no, .no, .no, .no, .no, .no, .no]) (fs := [(.bool false), (.bool true)]) (by decide) (by decide) (by decide) (by kernel_rfl) (by simp [freeB, atomB]) (RowsBy.cons (i := 41) (by kernel_rfl) (RowBy.plain (by kernel_rfl)) RowsBy.nil) w8_end
theorem w8_n29 : EndsA Tryz.prog 8 Tryz.f106 w8_A w8_V (w8_A ++ w8_RC) [.code w8_B, .inLoop w8_B, .inBlock 2, .code (dropS 5 (bodyOf 106))] w8_L29 w8_X29 := by
  refine EndsA.mapRound w8_hB (EndsA.more (.tmp 28) (some 29) 29 9 3 3 3 [2, 0] [((g2 0 0), (g2 1 0), 0), ((g2 1 0), (g2 2 0), 1), ((g2 2 0), (g2 1 0), 2)] [((g2 1 0), (g2 2 0), 1)] (by kernel_rfl) (by kernel_rfl) (by kernel_rfl) (by kernel_rfl) (by kernel_rfl) (by decide) (by kernel_rfl) (by kernel_rfl) ?_)
  exact ⟨⟨by kernel_rfl, EndsA.run (k := [.ops w8_O 1, .code w8_R]) prog_ok env0_ok ⟨_, w8_e30⟩ (EndsA.again w8_n30)⟩, trivial⟩
noncomputable def w8_L34 : List Value := [(sl 8 0 4 4), U, sn, (pt 10 0), U, U, U, (sl 37 0 2 2), (pt 34 0), (pt 35 0), (.map (.some 9)), (sl 8 0 4 4), (.func (.func 149) #[] #[(pt 11 0)]), U, U, U, U, U, U, U, U, U, U, U, U, U, U, (.map (.some 9)), (pt 29 0), (.tuple #[(.bool true), (g2 1 0), (g2 2 0)]), (.bool true), (.tuple #[(g2 1 0), (g2 2 0)]), (g2 1 0), (g2 2 0), (g2 2 0), (g2 0 0), (.bool true), (sl 33 0 1 1), (pt 34 0), I 1, (pt 34 1), I 0, (g2 2 0), (.agg #[I 1, I 0, I 2, I 0]), (sl 36 0 1 1), (sl 37 0 2 2), U, U, U]
noncomputable def w8_X34 : Heap := (H [rowW8_2, rowW8_1, (rvar [(.map (.some 9))] 185), (rvar [(sl 8 0 4 4)] 37), rowW8_0, rowW8_12, rowW8_12, (rvar [I 1, I 0] 34), (rvar [I 0, I 0] 187), rowW8_13, rowW8_13, (rvar [I 1, I 0] 34), (rvar [I 1, I 0] 187), rowW8_13, rowW8_13, (rvar [I 1, I 0] 34), (rvar [I 1, I 0] 187), rowW8_14, rowW8_14, (rvar [I 1, I 0] 34), (rvar [I 2, I 0] 187), (.some (.miter 9 3 [2, 1] 3)), (rvar [I 2, I 0] 187), (rvar [I 1, I 0] 34), rowW8_11, .none, (rvar [I 1, I 0] 187), (rvar [I 2, I 0] 34), rowW8_10, (rrow [I 2, I 0, I 1, I 0, I 1, I 0, I 2, I 0] 125)])
theorem w8_e34 : aRun Tryz.prog env0 100000 9 [.ops w8_O 1, .code w8_R] (tput w8_L28 (some 29) (.tuple #[.bool true, (g2 1 0), (g2 2 0)])) (hset w8_X28 29 (some (.miter 9 3 [2, 1] 3))) = some (w8_L34, w8_X34, none) := by kernel_rfl
noncomputable def w8_L35 : List Value := [(sl 8 0 4 4), U, sn, (pt 10 0), U, U, U, (sl 41 0 3 3), (pt 38 0), (pt 39 0), (.map (.some 9)), (sl 8 0 4 4), (.func (.func 149) #[] #[(pt 11 0)]), U, U, U, U, U, U, U, U, U, U, U, U, U, U, (.map (.some 9)), (pt 29 0), (.tuple #[(.bool true), (g2 0 0), (g2 1 0)]), (.bool true), (.tuple #[(g2 0 0), (g2 1 0)]), (g2 0 0), (g2 1 0), (g2 1 0), (g2 0 0), (.bool true), (sl 37 0 2 2), (pt 38 0), I 0, (pt 38 1), I 0, (g2 1 0), (.agg #[I 0, I 0, I 1, I 0]), (sl 40 0 1 1), (sl 41 0 3 3), U, U, U]
noncomputable def w8_X35 : Heap := (H [rowW8_2, rowW8_1, (rvar [(.map (.some 9))] 185), (rvar [(sl 8 0 4 4)] 37), rowW8_0, rowW8_12, rowW8_12, (rvar [I 1, I 0] 34), (rvar [I 0, I 0] 187), rowW8_13, rowW8_13, (rvar [I 1, I 0] 34), (rvar [I 1, I 0] 187), rowW8_13, rowW8_13, (rvar [I 1, I 0] 34), (rvar [I 1, I 0] 187), rowW8_14, rowW8_14, (rvar [I 1, I 0] 34), (rvar [I 2, I 0] 187), (.some (.miter 9 3 [2, 1, 0] 3)), (rvar [I 2, I 0] 187), (rvar [I 1, I 0] 34), rowW8_11, .none, (rvar [I 1, I 0] 187), (rvar [I 2, I 0] 34), rowW8_10, .none, (rvar [I 0, I 0] 187), (rvar [I 1, I 0] 34), rowW8_9, rowW8_8])
theorem w8_e35 : aRun Tryz.prog env0 100000 9 [.ops w8_O 1, .code w8_R] (tput w8_L34 (some 29) (.tuple #[.bool true, (g2 0 0), (g2 1 0)])) (hset w8_X34 29 (some (.miter 9 3 [2, 1, 0] 3))) = some (w8_L35, w8_X35, none) := by kernel_rfl
noncomputable def w8_L36 : List Value := [(sl 8 0 4 4), U, sn, (pt 10 0), U, U, U, (sl 41 0 3 3), (pt 38 0), (pt 39 0), (.map (.some 9)), (sl 8 0 4 4), (.func (.func 149) #[] #[(pt 11 0)]), U, U, U, U, U, U, U, U, U, U, U, U, U, U, (.map (.some 9)), (pt 29 0), (.tuple #[(.bool false)]), (.bool false), (.tuple #[(g2 0 0), (g2 1 0)]), (g2 0 0), (g2 1 0), (g2 1 0), (g2 0 0), (.bool true), (sl 37 0 2 2), (pt 38 0), I 0, (pt 38 1), I 0, (g2 1 0), (.agg #[I 0, I 0, I 1, I 0]), (sl 40 0 1 1), (sl 41 0 3 3), U, U, U]
noncomputable def w8_X36 : Heap := (H [rowW8_2, rowW8_1, (rvar [(.map (.some 9))] 185), (rvar [(sl 8 0 4 4)] 37), rowW8_0, rowW8_12, rowW8_12, (rvar [I 1, I 0] 34), (rvar [I 0, I 0] 187), rowW8_13, rowW8_13, (rvar [I 1, I 0] 34), (rvar [I 1, I 0] 187), rowW8_13, rowW8_13, (rvar [I 1, I 0] 34), (rvar [I 1, I 0] 187), rowW8_14, rowW8_14, (rvar [I 1, I 0] 34), (rvar [I 2, I 0] 187), (.some (.miter 9 3 [2, 1, 0] 3)), (rvar [I 2, I 0] 187), (rvar [I 1, I 0] 34), rowW8_11, .none, (rvar [I 1, I 0] 187), (rvar [I 2, I 0] 34), rowW8_10, .none, (rvar [I 0, I 0] 187), (rvar [I 1, I 0] 34), rowW8_9, rowW8_8])
theorem w8_o35 : aRun Tryz.prog env0 100000 9 [.ops w8_O 1, .code w8_R, .inLoop w8_B, .inBlock 2] (tput w8_L35 (some 29) (.tuple #[.bool false])) w8_X35 = some (w8_L36, w8_X36, none) := by kernel_rfl
noncomputable def w8_L37 : List Value := [(sl 8 0 4 4), U, sn, (pt 10 0), U, U, U, (sl 41 0 3 3), (pt 38 0), (pt 39 0), (.map (.some 9)), (sl 8 0 4 4), (.func (.func 149) #[] #[(pt 11 0)]), U, U, U, U, U, U, U, U, U, U, U, U, U, U, (.map (.some 9)), (pt 29 0), (.tuple #[(.bool false)]), (.bool false), (.tuple #[(g2 0 0), (g2 1 0)]), (g2 0 0), (g2 1 0), (g2 1 0), (g2 0 0), (.bool true), (sl 37 0 2 2), (pt 38 0), I 0, (pt 38 1), I 0, (g2 1 0), (.agg #[I 0, I 0, I 1, I 0]), (sl 40 0 1 1), (sl 41 0 3 3), (sl 41 0 3 3), U, U]
noncomputable def w8_X37 : Heap := (H [rowW8_2, rowW8_1, (rvar [(.map (.some 9))] 185), (rvar [(sl 8 0 4 4)] 37), rowW8_0, rowW8_12, rowW8_12, (rvar [I 1, I 0] 34), (rvar [I 0, I 0] 187), rowW8_13, rowW8_13, (rvar [I 1, I 0] 34), (rvar [I 1, I 0] 187), rowW8_13, rowW8_13, (rvar [I 1, I 0] 34), (rvar [I 1, I 0] 187), rowW8_14, rowW8_14, (rvar [I 1, I 0] 34), (rvar [I 2, I 0] 187), (.some (.miter 9 3 [2, 1, 0] 3)), (rvar [I 2, I 0] 187), (rvar [I 1, I 0] 34), rowW8_11, .none, (rvar [I 1, I 0] 187), (rvar [I 2, I 0] 34), rowW8_10, .none, (rvar [I 0, I 0] 187), (rvar [I 1, I 0] 34), rowW8_9, rowW8_3])
theorem w8_t36 : aRun Tryz.prog env0 100000 9 [.code (seqAt 5 (bodyOf 106))] w8_L36 w8_X36 = some (w8_L37, w8_X37, none) := by kernel_rfl
noncomputable def w8_L38 : List Value := [(sl 8 0 4 4), U, (sl 41 0 3 3), (pt 10 0), U, U, U, (sl 41 0 3 3), (pt 38 0), (pt 39 0), (.map (.some 9)), (sl 8 0 4 4), (.func (.func 149) #[] #[(pt 11 0)]), U, U, U, U, U, U, U, U, U, U, U, U, U, U, (.map (.some 9)), (pt 29 0), (.tuple #[(.bool false)]), (.bool false), (.tuple #[(g2 0 0), (g2 1 0)]), (g2 0 0), (g2 1 0), (g2 1 0), (g2 0 0), (.bool true), (sl 37 0 2 2), (pt 38 0), I 0, (pt 38 1), I 0, (g2 1 0), (.agg #[I 0, I 0, I 1, I 0]), (sl 40 0 1 1), (sl 41 0 3 3), (sl 41 0 3 3), U, (sl 41 0 3 3)]
noncomputable def w8_X38 : Heap := (H [rowW8_2, rowW8_1, (rvar [(.map (.some 9))] 185), (rvar [(sl 8 0 4 4)] 37), rowW8_0, rowW8_12, rowW8_12, (rvar [I 1, I 0] 34), (rvar [I 0, I 0] 187), rowW8_13, rowW8_13, (rvar [I 1, I 0] 34), (rvar [I 1, I 0] 187), rowW8_13, rowW8_13, (rvar [I 1, I 0] 34), (rvar [I 1, I 0] 187), rowW8_14, rowW8_14, (rvar [I 1, I 0] 34), (rvar [I 2, I 0] 187), (.some (.miter 9 3 [2, 1, 0] 3)), (rvar [I 2, I 0] 187), (rvar [I 1, I 0] 34), rowW8_11, .none, (rvar [I 1, I 0] 187), (rvar [I 2, I 0] 34), rowW8_10, .none, (rvar [I 0, I 0] 187), (rvar [I 1, I 0] 34), rowW8_9, rowW8_3])
theorem w8_t37 : aRun Tryz.prog env0 100000 9 [.code (seqAt 6 (bodyOf 106))] w8_L37 w8_X37 = some (w8_L38, w8_X38, none) := by kernel_rfl
noncomputable def w8_Y38 : Heap := [rowW8_1, (rvar [(.map (.some 9))] 185), (rvar [(sl 8 0 4 4)] 37), rowW8_0, rowW8_12, rowW8_12, (rvar [I 1, I 0] 34), (rvar [I 0, I 0] 187), rowW8_13, rowW8_13, (rvar [I 1, I 0] 34), (rvar [I 1, I 0] 187), rowW8_13, rowW8_13, (rvar [I 1, I 0] 34), (rvar [I 1, I 0] 187), rowW8_14, rowW8_14, (rvar [I 1, I 0] 34), (rvar [I 2, I 0] 187), (.some (.miter 9 3 [2, 1, 0] 3)), (rvar [I 2, I 0] 187), (rvar [I 1, I 0] 34), rowW8_11, .none, (rvar [I 1, I 0] 187), (rvar [I 2, I 0] 34), rowW8_10, .none, (rvar [I 0, I 0] 187), (rvar [I 1, I 0] 34), rowW8_9, rowW8_3]
theorem w8_n35 : EndsA Tryz.prog 8 Tryz.f106 w8_A w8_V (w8_A ++ w8_RC) [.code w8_B, .inLoop w8_B, .inBlock 2, .code (dropS 5 (bodyOf 106))] w8_L35 w8_X35 := by
  refine EndsA.mapRound w8_hB (EndsA.over (.tmp 28) (some 29) 29 9 3 3 3 [2, 1, 0] [((g2 0 0), (g2 1 0), 0), ((g2 1 0), (g2 2 0), 1), ((g2 2 0), (g2 1 0), 2)] (by kernel_rfl) (by kernel_rfl) (by kernel_rfl) (by kernel_rfl) (by kernel_rfl) (by decide) (by kernel_rfl) ?_)
  refine EndsA.run (k := [.ops w8_O 1, .code w8_R, .inLoop w8_B, .inBlock 2]) prog_ok env0_ok ⟨_, w8_o35⟩ ?_
  refine EndsA.drop prog_ok env0_ok (by kernel_rfl) ⟨_, w8_t36⟩ ?_
  refine EndsA.drop prog_ok env0_ok (by kernel_rfl) ⟨_, w8_t37⟩ ?_
  rw [show w8_X38 = w8_A ++ w8_Y38 from by kernel_rfl]
  exact EndsA.renum (ids := [41]) (m := [.no, .no, .ren, .no, .no, .no, .no, .no, .no, .no, .no, .no, .no, .no, .no, .no, .no, .no, .no, .no, .no, .no, .no, .no, .no, .no, .no, .no, .no, .no, .free, .no, .no, .no, .no, .no, .free, .no, .no, .no, .no, .no, .no, .no, .no, .no, .no, .no, .no]) (fs := [(.bool false), (.bool true)]) (by decide) (by decide) (by decide) (by kernel_rfl) (by simp [freeB, atomB]) (RowsBy.cons (i := 41) (by kernel_rfl) (RowBy.plain (by kernel_rfl)) RowsBy.nil) w8_end
theorem w8_n34 : EndsA Tryz.prog 8 Tryz.f106 w8_A w8_V (w8_A ++ w8_RC) [.code w8_B, .inLoop w8_B, .inBlock 2, .code (dropS 5 (bodyOf 106))] w8_L34 w8_X34 := by
  refine EndsA.mapRound w8_hB (EndsA.more (.tmp 28) (some 29) 29 9 3 3 3 [2, 1] [((g2 0 0), (g2 1 0), 0), ((g2 1 0), (g2 2 0), 1), ((g2 2 0), (g2 1 0), 2)] [((g2 0 0), (g2 1 0), 0)] (by kernel_rfl) (by kernel_rfl) (by kernel_rfl) (by kernel_rfl) (by kernel_rfl) (by decide) (by kernel_rfl) (by kernel_rfl) ?_)
  exact ⟨⟨by kernel_rfl, EndsA.run (k := [.ops w8_O 1, .code w8_R]) prog_ok env0_ok ⟨_, w8_e35⟩ (EndsA.again w8_n35)⟩, trivial⟩
theorem w8_n28 : EndsA Tryz.prog 8 Tryz.f106 w8_A w8_V (w8_A ++ w8_RC) [.code w8_B, .inLoop w8_B, .inBlock 2, .code (dropS 5 (bodyOf 106))] w8_L28 w8_X28 := by
  refine EndsA.mapRound w8_hB (EndsA.more (.tmp 28) (some 29) 29 9 3 3 3 [2] [((g2 0 0), (g2 1 0), 0), ((g2 1 0), (g2 2 0), 1), ((g2 2 0), (g2 1 0), 2)] [((g2 0 0), (g2 1 0), 0), ((g2 1 0), (g2 2 0), 1)] (by kernel_rfl) (by kernel_rfl) (by kernel_rfl) (by kernel_rfl) (by kernel_rfl) (by decide) (by kernel_rfl) (by kernel_rfl) ?_)
  exact ⟨⟨by kernel_rfl, EndsA.run (k := [.ops w8_O 1, .code w8_R]) prog_ok env0_ok ⟨_, w8_e29⟩ (EndsA.again w8_n29)⟩, ⟨⟨by kernel_rfl, EndsA.run (k := [.ops w8_O 1, .code w8_R]) prog_ok env0_ok ⟨_, w8_e34⟩ (EndsA.again w8_n34)⟩, trivial⟩⟩
theorem w8_n5 : EndsA Tryz.prog 8 Tryz.f106 w8_A w8_V (w8_A ++ w8_RC) [.code w8_B, .inLoop w8_B, .inBlock 2, .code (dropS 5 (bodyOf 106))] w8_L5 w8_X5 := by
  refine EndsA.mapRound w8_hB (EndsA.more (.tmp 28) (some 29) 29 9 3 3 3 [] [((g2 0 0), (g2 1 0), 0), ((g2 1 0), (g2 2 0), 1), ((g2 2 0), (g2 1 0), 2)] [((g2 0 0), (g2 1 0), 0), ((g2 1 0), (g2 2 0), 1), ((g2 2 0), (g2 1 0), 2)] (by kernel_rfl) (by kernel_rfl) (by kernel_rfl) (by kernel_rfl) (by kernel_rfl) (by decide) (by kernel_rfl) (by kernel_rfl) ?_)
  exact ⟨⟨by kernel_rfl, EndsA.run (k := [.ops w8_O 1, .code w8_R]) prog_ok env0_ok ⟨_, w8_e6⟩ (EndsA.again w8_n6)⟩, ⟨⟨by kernel_rfl, EndsA.run (k := [.ops w8_O 1, .code w8_R]) prog_ok env0_ok ⟨_, w8_e17⟩ (EndsA.again w8_n17)⟩, ⟨⟨by kernel_rfl, EndsA.run (k := [.ops w8_O 1, .code w8_R]) prog_ok env0_ok ⟨_, w8_e28⟩ (EndsA.again w8_n28)⟩, trivial⟩⟩⟩
theorem w8_ends : EndsA Tryz.prog 8 Tryz.f106 w8_A w8_V (w8_A ++ w8_RC) [.code (dropS 0 (bodyOf 106))] w8_L0 w8_X0 := by
  refine EndsA.drop prog_ok env0_ok (by kernel_rfl) ⟨_, w8_t0⟩ ?_
  refine EndsA.drop prog_ok env0_ok (by kernel_rfl) ⟨_, w8_t1⟩ ?_
  refine EndsA.drop prog_ok env0_ok (by kernel_rfl) ⟨_, w8_t2⟩ ?_
  refine EndsA.drop prog_ok env0_ok (by kernel_rfl) ⟨_, w8_t3⟩ ?_
  refine EndsA.dropSeq (by kernel_rfl) ?_
  rw [w8_hS]
  exact EndsA.seq (EndsA.run (k := [.code (headS (seqAt 4 (bodyOf 106)))]) prog_ok env0_ok ⟨_, w8_t4⟩ (EndsA.blockLoop w8_hC w8_n5))
theorem w8_says : SaysAt Tryz.prog 8 106 [.slice (some ⟨8, 0, none⟩) 4 4] w8_A w8_V (w8_A ++ w8_RC) :=
  EndsA.says prog_ok Tryz.func106 (c := bodyOf 106) (by kernel_rfl) (by decide) (EndsA.cast (by kernel_rfl) (by kernel_rfl) (by kernel_rfl) w8_ends) (by simp) (fun i hi => by rw [hget_append, if_pos hi]) (by kernel_rfl)
end Go.Proofs.YtpdiaiccnaoaiaaGreatDoor
/-
The weights of a list of the document's examples, whatever the order of the map.
-/
namespace Go.Proofs.YtpdiaiccnaoaiaaGreatDoor
open Go Go.Abs
noncomputable def rowW9_0 : Option ARow := (.some (.loop ([(sl 8 0 3 3), U, sn, (pt 10 0), U, U, U, U, U, U, (.map (.some 9)), (sl 8 0 3 3), (.func (.func 149) #[] #[(pt 11 0)])] ++ us 36) #[13, 14] codeW0_0 codeW0_1 .exhausted .none))
noncomputable def rowW9_1 : Option ARow := (.some (.map [(.mk (g2 0 0) (.mk (g2 1 0) 0)), (.mk (g2 1 0) (.mk (g2 2 0) 1)), (.mk (g2 2 0) (.mk (g2 1 0) 2))] 3))
noncomputable def rowW9_2 : Option ARow := (rrow [I 0, I 0, I 1, I 0, I 1, I 0, I 2, I 0, I 2, I 0, I 1, I 0] 125)
noncomputable def rowW9_3 : Option ARow := (rrow [I 0, I 0, I 1, I 0, I 2, I 0, I 1, I 0, I 1, I 0, I 2, I 0] 125)
noncomputable def rowW9_4 : Option ARow := (rrow [I 1, I 0, I 2, I 0, I 0, I 0, I 1, I 0, I 2, I 0, I 1, I 0] 125)
noncomputable def rowW9_5 : Option ARow := (rrow [I 1, I 0, I 2, I 0, I 2, I 0, I 1, I 0, I 0, I 0, I 1, I 0] 125)
noncomputable def rowW9_6 : Option ARow := (rrow [I 2, I 0, I 1, I 0, I 0, I 0, I 1, I 0, I 1, I 0, I 2, I 0] 125)
noncomputable def rowW9_7 : Option ARow := (rrow [I 2, I 0, I 1, I 0, I 1, I 0, I 2, I 0, I 0, I 0, I 1, I 0] 125)
noncomputable def rowW9_8 : Option ARow := (rrow [I 0, I 0, I 1, I 0, I 1, I 0, I 2, I 0, I 2, I 0, I 1, I 0] 32)
noncomputable def rowW9_9 : Option ARow := (rrow [I 0, I 0, I 1, I 0] 125)
noncomputable def rowW9_10 : Option ARow := (rrow [I 1, I 0, I 2, I 0] 125)
noncomputable def rowW9_11 : Option ARow := (rrow [I 2, I 0, I 1, I 0] 125)
noncomputable def rowW9_12 : Option ARow := (rvar [I 0, I 0, I 1, I 0] 32)
noncomputable def rowW9_13 : Option ARow := (rvar [I 1, I 0, I 2, I 0] 32)
noncomputable def rowW9_14 : Option ARow := (rvar [I 2, I 0, I 1, I 0] 32)
noncomputable def w9_B : Code := loopB (tailS (seqAt 4 (bodyOf 106)))
noncomputable def w9_O : Array Oper := headOps w9_B
noncomputable def w9_R : Code := tailS w9_B
theorem w9_hS : seqAt 4 (bodyOf 106) = .seq (headS (seqAt 4 (bodyOf 106))) (tailS (seqAt 4 (bodyOf 106))) := by kernel_rfl
theorem w9_hC : tailS (seqAt 4 (bodyOf 106)) = .block 2 (.loop w9_B) := by kernel_rfl
theorem w9_hB : w9_B = .seq (.region (headId w9_B) w9_O false) w9_R := by kernel_rfl
noncomputable def w9_A : Heap := (H [some (.cells [.int .i64 0, .int .i64 0, .int .i64 1, .int .i64 0, .int .i64 1, .int .i64 0, .int .i64 2, .int .i64 0, .int .i64 2, .int .i64 0, .int .i64 1, .int .i64 0] 32 .row)])
noncomputable def w9_L0 : List Value := ([(sl 8 0 3 3)] ++ us 48)
noncomputable def w9_X0 : Heap := (H [rowW9_8])
noncomputable def w9_L1 : List Value := ([(sl 8 0 3 3), U, sn] ++ us 46)
noncomputable def w9_X1 : Heap := (H [rowW9_8])
theorem w9_t0 : aRun Tryz.prog env0 100000 9 [.code (seqAt 0 (bodyOf 106))] w9_L0 w9_X0 = some (w9_L1, w9_X1, none) := by kernel_rfl
noncomputable def w9_L2 : List Value := ([(sl 8 0 3 3), U, sn, (pt 10 0), U, U, U, U, U, U, (.map (.some 9))] ++ us 38)
noncomputable def w9_X2 : Heap := (H [rowW9_8, (.some (.map [] 0)), (rvar [(.map (.some 9))] 185)])
theorem w9_t1 : aRun Tryz.prog env0 100000 9 [.code (seqAt 1 (bodyOf 106))] w9_L1 w9_X1 = some (w9_L2, w9_X2, none) := by kernel_rfl
noncomputable def w9_L3 : List Value := ([(sl 8 0 3 3), U, sn, (pt 10 0), U, U, U, U, U, U, (.map (.some 9)), (sl 8 0 3 3), (.func (.func 149) #[] #[(pt 11 0)])] ++ us 36)
noncomputable def w9_X3 : Heap := (H [rowW9_8, rowW9_1, (rvar [(.map (.some 9))] 185), (rvar [(sl 8 0 3 3)] 37), rowW9_0, rowW9_12, rowW9_12, (rvar [I 1, I 0] 34), (rvar [I 0, I 0] 187), rowW9_13, rowW9_13, (rvar [I 2, I 0] 34), (rvar [I 1, I 0] 187), rowW9_14, rowW9_14, (rvar [I 1, I 0] 34), (rvar [I 2, I 0] 187)])
theorem w9_t2 : aRun Tryz.prog env0 100000 9 [.code (seqAt 2 (bodyOf 106))] w9_L2 w9_X2 = some (w9_L3, w9_X3, none) := by kernel_rfl
noncomputable def w9_L4 : List Value := ([(sl 8 0 3 3), U, sn, (pt 10 0), U, U, U, sn, U, U, (.map (.some 9)), (sl 8 0 3 3), (.func (.func 149) #[] #[(pt 11 0)])] ++ us 36)
noncomputable def w9_X4 : Heap := (H [rowW9_8, rowW9_1, (rvar [(.map (.some 9))] 185), (rvar [(sl 8 0 3 3)] 37), rowW9_0, rowW9_12, rowW9_12, (rvar [I 1, I 0] 34), (rvar [I 0, I 0] 187), rowW9_13, rowW9_13, (rvar [I 2, I 0] 34), (rvar [I 1, I 0] 187), rowW9_14, rowW9_14, (rvar [I 1, I 0] 34), (rvar [I 2, I 0] 187)])
theorem w9_t3 : aRun Tryz.prog env0 100000 9 [.code (seqAt 3 (bodyOf 106))] w9_L3 w9_X3 = some (w9_L4, w9_X4, none) := by kernel_rfl
noncomputable def w9_L5 : List Value := ([(sl 8 0 3 3), U, sn, (pt 10 0), U, U, U, sn, U, U, (.map (.some 9)), (sl 8 0 3 3), (.func (.func 149) #[] #[(pt 11 0)]), U, U, U, U, U, U, U, U, U, U, U, U, U, U, (.map (.some 9)), (pt 25 0)] ++ us 20)
noncomputable def w9_X5 : Heap := (H [rowW9_8, rowW9_1, (rvar [(.map (.some 9))] 185), (rvar [(sl 8 0 3 3)] 37), rowW9_0, rowW9_12, rowW9_12, (rvar [I 1, I 0] 34), (rvar [I 0, I 0] 187), rowW9_13, rowW9_13, (rvar [I 2, I 0] 34), (rvar [I 1, I 0] 187), rowW9_14, rowW9_14, (rvar [I 1, I 0] 34), (rvar [I 2, I 0] 187), (.some (.miter 9 3 [] 3))])
theorem w9_t4 : aRun Tryz.prog env0 100000 9 [.code (headS (seqAt 4 (bodyOf 106)))] w9_L4 w9_X4 = some (w9_L5, w9_X5, none) := by kernel_rfl
noncomputable def w9_L6 : List Value := [(sl 8 0 3 3), U, sn, (pt 10 0), U, U, U, (sl 29 0 1 1), (pt 26 0), (pt 27 0), (.map (.some 9)), (sl 8 0 3 3), (.func (.func 149) #[] #[(pt 11 0)]), U, U, U, U, U, U, U, U, U, U, U, U, U, U, (.map (.some 9)), (pt 25 0), (.tuple #[(.bool true), (g2 0 0), (g2 1 0)]), (.bool true), (.tuple #[(g2 0 0), (g2 1 0)]), (g2 0 0), (g2 1 0), (g2 1 0), (g2 0 0), (.bool true), sn, (pt 26 0), I 0, (pt 26 1), I 0, (g2 1 0), (.agg #[I 0, I 0, I 1, I 0]), (sl 28 0 1 1), (sl 29 0 1 1), U, U, U]
noncomputable def w9_X6 : Heap := (H [rowW9_8, rowW9_1, (rvar [(.map (.some 9))] 185), (rvar [(sl 8 0 3 3)] 37), rowW9_0, rowW9_12, rowW9_12, (rvar [I 1, I 0] 34), (rvar [I 0, I 0] 187), rowW9_13, rowW9_13, (rvar [I 2, I 0] 34), (rvar [I 1, I 0] 187), rowW9_14, rowW9_14, (rvar [I 1, I 0] 34), (rvar [I 2, I 0] 187), (.some (.miter 9 3 [0] 3)), (rvar [I 0, I 0] 187), (rvar [I 1, I 0] 34), rowW9_9, rowW9_9])
theorem w9_e6 : aRun Tryz.prog env0 100000 9 [.ops w9_O 1, .code w9_R] (tput w9_L5 (some 29) (.tuple #[.bool true, (g2 0 0), (g2 1 0)])) (hset w9_X5 25 (some (.miter 9 3 [0] 3))) = some (w9_L6, w9_X6, none) := by kernel_rfl
noncomputable def w9_L7 : List Value := [(sl 8 0 3 3), U, sn, (pt 10 0), U, U, U, (sl 33 0 2 2), (pt 30 0), (pt 31 0), (.map (.some 9)), (sl 8 0 3 3), (.func (.func 149) #[] #[(pt 11 0)]), U, U, U, U, U, U, U, U, U, U, U, U, U, U, (.map (.some 9)), (pt 25 0), (.tuple #[(.bool true), (g2 1 0), (g2 2 0)]), (.bool true), (.tuple #[(g2 1 0), (g2 2 0)]), (g2 1 0), (g2 2 0), (g2 2 0), (g2 0 0), (.bool true), (sl 29 0 1 1), (pt 30 0), I 1, (pt 30 1), I 0, (g2 2 0), (.agg #[I 1, I 0, I 2, I 0]), (sl 32 0 1 1), (sl 33 0 2 2), U, U, U]
noncomputable def w9_X7 : Heap := (H [rowW9_8, rowW9_1, (rvar [(.map (.some 9))] 185), (rvar [(sl 8 0 3 3)] 37), rowW9_0, rowW9_12, rowW9_12, (rvar [I 1, I 0] 34), (rvar [I 0, I 0] 187), rowW9_13, rowW9_13, (rvar [I 2, I 0] 34), (rvar [I 1, I 0] 187), rowW9_14, rowW9_14, (rvar [I 1, I 0] 34), (rvar [I 2, I 0] 187), (.some (.miter 9 3 [0, 1] 3)), (rvar [I 0, I 0] 187), (rvar [I 1, I 0] 34), rowW9_9, .none, (rvar [I 1, I 0] 187), (rvar [I 2, I 0] 34), rowW9_10, (rrow [I 0, I 0, I 1, I 0, I 1, I 0, I 2, I 0] 125)])
theorem w9_e7 : aRun Tryz.prog env0 100000 9 [.ops w9_O 1, .code w9_R] (tput w9_L6 (some 29) (.tuple #[.bool true, (g2 1 0), (g2 2 0)])) (hset w9_X6 25 (some (.miter 9 3 [0, 1] 3))) = some (w9_L7, w9_X7, none) := by kernel_rfl
noncomputable def w9_L8 : List Value := [(sl 8 0 3 3), U, sn, (pt 10 0), U, U, U, (sl 37 0 3 3), (pt 34 0), (pt 35 0), (.map (.some 9)), (sl 8 0 3 3), (.func (.func 149) #[] #[(pt 11 0)]), U, U, U, U, U, U, U, U, U, U, U, U, U, U, (.map (.some 9)), (pt 25 0), (.tuple #[(.bool true), (g2 2 0), (g2 1 0)]), (.bool true), (.tuple #[(g2 2 0), (g2 1 0)]), (g2 2 0), (g2 1 0), (g2 1 0), (g2 0 0), (.bool true), (sl 33 0 2 2), (pt 34 0), I 2, (pt 34 1), I 0, (g2 1 0), (.agg #[I 2, I 0, I 1, I 0]), (sl 36 0 1 1), (sl 37 0 3 3), U, U, U]
noncomputable def w9_X8 : Heap := (H [rowW9_8, rowW9_1, (rvar [(.map (.some 9))] 185), (rvar [(sl 8 0 3 3)] 37), rowW9_0, rowW9_12, rowW9_12, (rvar [I 1, I 0] 34), (rvar [I 0, I 0] 187), rowW9_13, rowW9_13, (rvar [I 2, I 0] 34), (rvar [I 1, I 0] 187), rowW9_14, rowW9_14, (rvar [I 1, I 0] 34), (rvar [I 2, I 0] 187), (.some (.miter 9 3 [0, 1, 2] 3)), (rvar [I 0, I 0] 187), (rvar [I 1, I 0] 34), rowW9_9, .none, (rvar [I 1, I 0] 187), (rvar [I 2, I 0] 34), rowW9_10, .none, (rvar [I 2, I 0] 187), (rvar [I 1, I 0] 34), rowW9_11, rowW9_2])
theorem w9_e8 : aRun Tryz.prog env0 100000 9 [.ops w9_O 1, .code w9_R] (tput w9_L7 (some 29) (.tuple #[.bool true, (g2 2 0), (g2 1 0)])) (hset w9_X7 25 (some (.miter 9 3 [0, 1, 2] 3))) = some (w9_L8, w9_X8, none) := by kernel_rfl
noncomputable def w9_L9 : List Value := [(sl 8 0 3 3), U, sn, (pt 10 0), U, U, U, (sl 37 0 3 3), (pt 34 0), (pt 35 0), (.map (.some 9)), (sl 8 0 3 3), (.func (.func 149) #[] #[(pt 11 0)]), U, U, U, U, U, U, U, U, U, U, U, U, U, U, (.map (.some 9)), (pt 25 0), (.tuple #[(.bool false)]), (.bool false), (.tuple #[(g2 2 0), (g2 1 0)]), (g2 2 0), (g2 1 0), (g2 1 0), (g2 0 0), (.bool true), (sl 33 0 2 2), (pt 34 0), I 2, (pt 34 1), I 0, (g2 1 0), (.agg #[I 2, I 0, I 1, I 0]), (sl 36 0 1 1), (sl 37 0 3 3), U, U, U]
noncomputable def w9_X9 : Heap := (H [rowW9_8, rowW9_1, (rvar [(.map (.some 9))] 185), (rvar [(sl 8 0 3 3)] 37), rowW9_0, rowW9_12, rowW9_12, (rvar [I 1, I 0] 34), (rvar [I 0, I 0] 187), rowW9_13, rowW9_13, (rvar [I 2, I 0] 34), (rvar [I 1, I 0] 187), rowW9_14, rowW9_14, (rvar [I 1, I 0] 34), (rvar [I 2, I 0] 187), (.some (.miter 9 3 [0, 1, 2] 3)), (rvar [I 0, I 0] 187), (rvar [I 1, I 0] 34), rowW9_9, .none, (rvar [I 1, I 0] 187), (rvar [I 2, I 0] 34), rowW9_10, .none, (rvar [I 2, I 0] 187), (rvar [I 1, I 0] 34), rowW9_11, rowW9_2])
theorem w9_o8 : aRun Tryz.prog env0 100000 9 [.ops w9_O 1, .code w9_R, .inLoop w9_B, .inBlock 2] (tput w9_L8 (some 29) (.tuple #[.bool false])) w9_X8 = some (w9_L9, w9_X9, none) := by kernel_rfl
noncomputable def w9_L10 : List Value := [(sl 8 0 3 3), U, sn, (pt 10 0), U, U, U, (sl 37 0 3 3), (pt 34 0), (pt 35 0), (.map (.some 9)), (sl 8 0 3 3), (.func (.func 149) #[] #[(pt 11 0)]), U, U, U, U, U, U, U, U, U, U, U, U, U, U, (.map (.some 9)), (pt 25 0), (.tuple #[(.bool false)]), (.bool false), (.tuple #[(g2 2 0), (g2 1 0)]), (g2 2 0), (g2 1 0), (g2 1 0), (g2 0 0), (.bool true), (sl 33 0 2 2), (pt 34 0), I 2, (pt 34 1), I 0, (g2 1 0), (.agg #[I 2, I 0, I 1, I 0]), (sl 36 0 1 1), (sl 37 0 3 3), (sl 37 0 3 3), U, U]
noncomputable def w9_X10 : Heap := (H [rowW9_8, rowW9_1, (rvar [(.map (.some 9))] 185), (rvar [(sl 8 0 3 3)] 37), rowW9_0, rowW9_12, rowW9_12, (rvar [I 1, I 0] 34), (rvar [I 0, I 0] 187), rowW9_13, rowW9_13, (rvar [I 2, I 0] 34), (rvar [I 1, I 0] 187), rowW9_14, rowW9_14, (rvar [I 1, I 0] 34), (rvar [I 2, I 0] 187), (.some (.miter 9 3 [0, 1, 2] 3)), (rvar [I 0, I 0] 187), (rvar [I 1, I 0] 34), rowW9_9, .none, (rvar [I 1, I 0] 187), (rvar [I 2, I 0] 34), rowW9_10, .none, (rvar [I 2, I 0] 187), (rvar [I 1, I 0] 34), rowW9_11, rowW9_2])
theorem w9_t9 : aRun Tryz.prog env0 100000 9 [.code (seqAt 5 (bodyOf 106))] w9_L9 w9_X9 = some (w9_L10, w9_X10, none) := by kernel_rfl
noncomputable def w9_L11 : List Value := [(sl 8 0 3 3), U, (sl 37 0 3 3), (pt 10 0), U, U, U, (sl 37 0 3 3), (pt 34 0), (pt 35 0), (.map (.some 9)), (sl 8 0 3 3), (.func (.func 149) #[] #[(pt 11 0)]), U, U, U, U, U, U, U, U, U, U, U, U, U, U, (.map (.some 9)), (pt 25 0), (.tuple #[(.bool false)]), (.bool false), (.tuple #[(g2 2 0), (g2 1 0)]), (g2 2 0), (g2 1 0), (g2 1 0), (g2 0 0), (.bool true), (sl 33 0 2 2), (pt 34 0), I 2, (pt 34 1), I 0, (g2 1 0), (.agg #[I 2, I 0, I 1, I 0]), (sl 36 0 1 1), (sl 37 0 3 3), (sl 37 0 3 3), U, (sl 37 0 3 3)]
noncomputable def w9_X11 : Heap := (H [rowW9_8, rowW9_1, (rvar [(.map (.some 9))] 185), (rvar [(sl 8 0 3 3)] 37), rowW9_0, rowW9_12, rowW9_12, (rvar [I 1, I 0] 34), (rvar [I 0, I 0] 187), rowW9_13, rowW9_13, (rvar [I 2, I 0] 34), (rvar [I 1, I 0] 187), rowW9_14, rowW9_14, (rvar [I 1, I 0] 34), (rvar [I 2, I 0] 187), (.some (.miter 9 3 [0, 1, 2] 3)), (rvar [I 0, I 0] 187), (rvar [I 1, I 0] 34), rowW9_9, .none, (rvar [I 1, I 0] 187), (rvar [I 2, I 0] 34), rowW9_10, .none, (rvar [I 2, I 0] 187), (rvar [I 1, I 0] 34), rowW9_11, rowW9_2])
theorem w9_t10 : aRun Tryz.prog env0 100000 9 [.code (seqAt 6 (bodyOf 106))] w9_L10 w9_X10 = some (w9_L11, w9_X11, none) := by kernel_rfl
noncomputable def w9_LC : List Value := [junk, junk, (.slice (some ⟨9, 0, none⟩) 3 3), junk, junk, junk, junk, junk, junk, junk, junk, junk, junk, junk, junk, junk, junk, junk, junk, junk, junk, junk, junk, junk, junk, junk, junk, junk, junk, junk, (.bool false), junk, junk, junk, junk, junk, (.bool true), junk, junk, junk, junk, junk, junk, junk, junk, junk, junk, junk, junk]
noncomputable def w9_RC : Heap := [rowW9_2]
noncomputable def w9_V : Value := (.slice (some ⟨9, 0, none⟩) 3 3)
theorem w9_c : aRun Tryz.prog env0 100000 9 [.code (dropS 7 (bodyOf 106))] w9_LC (w9_A ++ w9_RC) = some (w9_LC, w9_A ++ w9_RC, some .ret) := by kernel_rfl
theorem w9_end : EndsA Tryz.prog 8 Tryz.f106 w9_A w9_V (w9_A ++ w9_RC) [.code (dropS 7 (bodyOf 106))] w9_LC (w9_A ++ w9_RC) := EndsA.ret prog_ok env0_ok ⟨_, w9_c⟩ rfl (by kernel_rfl)
noncomputable def w9_Y11 : Heap := [rowW9_1, (rvar [(.map (.some 9))] 185), (rvar [(sl 8 0 3 3)] 37), rowW9_0, rowW9_12, rowW9_12, (rvar [I 1, I 0] 34), (rvar [I 0, I 0] 187), rowW9_13, rowW9_13, (rvar [I 2, I 0] 34), (rvar [I 1, I 0] 187), rowW9_14, rowW9_14, (rvar [I 1, I 0] 34), (rvar [I 2, I 0] 187), (.some (.miter 9 3 [0, 1, 2] 3)), (rvar [I 0, I 0] 187), (rvar [I 1, I 0] 34), rowW9_9, .none, (rvar [I 1, I 0] 187), (rvar [I 2, I 0] 34), rowW9_10, .none, (rvar [I 2, I 0] 187), (rvar [I 1, I 0] 34), rowW9_11, rowW9_2]
theorem w9_n8 : EndsA Tryz.prog 8 Tryz.f106 w9_A w9_V (w9_A ++ w9_RC) [.code w9_B, .inLoop w9_B, .inBlock 2, .code (dropS 5 (bodyOf 106))] w9_L8 w9_X8 := by
  refine EndsA.mapRound w9_hB (EndsA.over (.tmp 28) (some 29) 25 9 3 3 3 [0, 1, 2] [((g2 0 0), (g2 1 0), 0), ((g2 1 0), (g2 2 0), 1), ((g2 2 0), (g2 1 0), 2)] (by kernel_rfl) (by kernel_rfl) (by kernel_rfl) (by kernel_rfl) (by kernel_rfl) (by decide) (by kernel_rfl) ?_)
  refine EndsA.run (k := [.ops w9_O 1, .code w9_R, .inLoop w9_B, .inBlock 2]) prog_ok env0_ok ⟨_, w9_o8⟩ ?_
  refine EndsA.drop prog_ok env0_ok (by kernel_rfl) ⟨_, w9_t9⟩ ?_
  refine EndsA.drop prog_ok env0_ok (by kernel_rfl) ⟨_, w9_t10⟩ ?_
  rw [show w9_X11 = w9_A ++ w9_Y11 from by kernel_rfl]
  exact EndsA.renum (ids := [37]) (m := [.no, .no, .ren, .no, .no, .no, .no, .no, .no, .no, .no, .no, .no, .no, .no, .no, .no, .no, .no, .no, .no, .no, .no, .no, .no, .no, .no, .no, .no, .no, .free, .no, .no, .no, .no, .no, .free, .no, .no, .no, .no, .no, .no, .no, .no, .no, .no, .no, .no]) (fs := [(.bool false), (.bool true)]) (by decide) (by decide) (by decide) (by kernel_rfl) (by simp [freeB, atomB]) (RowsBy.cons (i := 37) (by kernel_rfl) (RowBy.plain (by kernel_rfl)) RowsBy.nil) w9_end
theorem w9_n7 : EndsA Tryz.prog 8 Tryz.f106 w9_A w9_V (w9_A ++ w9_RC) [.code w9_B, .inLoop w9_B, .inBlock 2, .code (dropS 5 (bodyOf 106))] w9_L7 w9_X7 := by
  refine EndsA.mapRound w9_hB (EndsA.more (.tmp 28) (some 29) 25 9 3 3 3 [0, 1] [((g2 0 0), (g2 1 0), 0), ((g2 1 0), (g2 2 0), 1), ((g2 2 0), (g2 1 0), 2)] [((g2 2 0), (g2 1 0), 2)] (by kernel_rfl) (by kernel_rfl) (by kernel_rfl) (by kernel_rfl) (by kernel_rfl) (by decide) (by kernel_rfl) (by kernel_rfl) ?_)
  exact ⟨⟨by kernel_rfl, EndsA.run (k := [.ops w9_O 1, .code w9_R]) prog_ok env0_ok ⟨_, w9_e8⟩ (EndsA.again w9_n8)⟩, trivial⟩
noncomputable def w9_L12 : List Value := [(sl 8 0 3 3), U, sn, (pt 10 0), U, U, U, (sl 33 0 2 2), (pt 30 0), (pt 31 0), (.map (.some 9)), (sl 8 0 3 3), (.func (.func 149) #[] #[(pt 11 0)]), U, U, U, U, U, U, U, U, U, U, U, U, U, U, (.map (.some 9)), (pt 25 0), (.tuple #[(.bool true), (g2 2 0), (g2 1 0)]), (.bool true), (.tuple #[(g2 2 0), (g2 1 0)]), (g2 2 0), (g2 1 0), (g2 1 0), (g2 0 0), (.bool true), (sl 29 0 1 1), (pt 30 0), I 2, (pt 30 1), I 0, (g2 1 0), (.agg #[I 2, I 0, I 1, I 0]), (sl 32 0 1 1), (sl 33 0 2 2), U, U, U]
noncomputable def w9_X12 : Heap := (H [rowW9_8, rowW9_1, (rvar [(.map (.some 9))] 185), (rvar [(sl 8 0 3 3)] 37), rowW9_0, rowW9_12, rowW9_12, (rvar [I 1, I 0] 34), (rvar [I 0, I 0] 187), rowW9_13, rowW9_13, (rvar [I 2, I 0] 34), (rvar [I 1, I 0] 187), rowW9_14, rowW9_14, (rvar [I 1, I 0] 34), (rvar [I 2, I 0] 187), (.some (.miter 9 3 [0, 2] 3)), (rvar [I 0, I 0] 187), (rvar [I 1, I 0] 34), rowW9_9, .none, (rvar [I 2, I 0] 187), (rvar [I 1, I 0] 34), rowW9_11, (rrow [I 0, I 0, I 1, I 0, I 2, I 0, I 1, I 0] 125)])
theorem w9_e12 : aRun Tryz.prog env0 100000 9 [.ops w9_O 1, .code w9_R] (tput w9_L6 (some 29) (.tuple #[.bool true, (g2 2 0), (g2 1 0)])) (hset w9_X6 25 (some (.miter 9 3 [0, 2] 3))) = some (w9_L12, w9_X12, none) := by kernel_rfl
noncomputable def w9_L13 : List Value := [(sl 8 0 3 3), U, sn, (pt 10 0), U, U, U, (sl 37 0 3 3), (pt 34 0), (pt 35 0), (.map (.some 9)), (sl 8 0 3 3), (.func (.func 149) #[] #[(pt 11 0)]), U, U, U, U, U, U, U, U, U, U, U, U, U, U, (.map (.some 9)), (pt 25 0), (.tuple #[(.bool true), (g2 1 0), (g2 2 0)]), (.bool true), (.tuple #[(g2 1 0), (g2 2 0)]), (g2 1 0), (g2 2 0), (g2 2 0), (g2 0 0), (.bool true), (sl 33 0 2 2), (pt 34 0), I 1, (pt 34 1), I 0, (g2 2 0), (.agg #[I 1, I 0, I 2, I 0]), (sl 36 0 1 1), (sl 37 0 3 3), U, U, U]
noncomputable def w9_X13 : Heap := (H [rowW9_8, rowW9_1, (rvar [(.map (.some 9))] 185), (rvar [(sl 8 0 3 3)] 37), rowW9_0, rowW9_12, rowW9_12, (rvar [I 1, I 0] 34), (rvar [I 0, I 0] 187), rowW9_13, rowW9_13, (rvar [I 2, I 0] 34), (rvar [I 1, I 0] 187), rowW9_14, rowW9_14, (rvar [I 1, I 0] 34), (rvar [I 2, I 0] 187), (.some (.miter 9 3 [0, 2, 1] 3)), (rvar [I 0, I 0] 187), (rvar [I 1, I 0] 34), rowW9_9, .none, (rvar [I 2, I 0] 187), (rvar [I 1, I 0] 34), rowW9_11, .none, (rvar [I 1, I 0] 187), (rvar [I 2, I 0] 34), rowW9_10, rowW9_3])
theorem w9_e13 : aRun Tryz.prog env0 100000 9 [.ops w9_O 1, .code w9_R] (tput w9_L12 (some 29) (.tuple #[.bool true, (g2 1 0), (g2 2 0)])) (hset w9_X12 25 (some (.miter 9 3 [0, 2, 1] 3))) = some (w9_L13, w9_X13, none) := by kernel_rfl
noncomputable def w9_L14 : List Value := [(sl 8 0 3 3), U, sn, (pt 10 0), U, U, U, (sl 37 0 3 3), (pt 34 0), (pt 35 0), (.map (.some 9)), (sl 8 0 3 3), (.func (.func 149) #[] #[(pt 11 0)]), U, U, U, U, U, U, U, U, U, U, U, U, U, U, (.map (.some 9)), (pt 25 0), (.tuple #[(.bool false)]), (.bool false), (.tuple #[(g2 1 0), (g2 2 0)]), (g2 1 0), (g2 2 0), (g2 2 0), (g2 0 0), (.bool true), (sl 33 0 2 2), (pt 34 0), I 1, (pt 34 1), I 0, (g2 2 0), (.agg #[I 1, I 0, I 2, I 0]), (sl 36 0 1 1), (sl 37 0 3 3), U, U, U]
noncomputable def w9_X14 : Heap := (H [rowW9_8, rowW9_1, (rvar [(.map (.some 9))] 185), (rvar [(sl 8 0 3 3)] 37), rowW9_0, rowW9_12, rowW9_12, (rvar [I 1, I 0] 34), (rvar [I 0, I 0] 187), rowW9_13, rowW9_13, (rvar [I 2, I 0] 34), (rvar [I 1, I 0] 187), rowW9_14, rowW9_14, (rvar [I 1, I 0] 34), (rvar [I 2, I 0] 187), (.some (.miter 9 3 [0, 2, 1] 3)), (rvar [I 0, I 0] 187), (rvar [I 1, I 0] 34), rowW9_9, .none, (rvar [I 2, I 0] 187), (rvar [I 1, I 0] 34), rowW9_11, .none, (rvar [I 1, I 0] 187), (rvar [I 2, I 0] 34), rowW9_10, rowW9_3])
theorem w9_o13 : aRun Tryz.prog env0 100000 9 [.ops w9_O 1, .code w9_R, .inLoop w9_B, .inBlock 2] (tput w9_L13 (some 29) (.tuple #[.bool false])) w9_X13 = some (w9_L14, w9_X14, none) := by kernel_rfl
noncomputable def w9_L15 : List Value := [(sl 8 0 3 3), U, sn, (pt 10 0), U, U, U, (sl 37 0 3 3), (pt 34 0), (pt 35 0), (.map (.some 9)), (sl 8 0 3 3), (.func (.func 149) #[] #[(pt 11 0)]), U, U, U, U, U, U, U, U, U, U, U, U, U, U, (.map (.some 9)), (pt 25 0), (.tuple #[(.bool false)]), (.bool false), (.tuple #[(g2 1 0), (g2 2 0)]), (g2 1 0), (g2 2 0), (g2 2 0), (g2 0 0), (.bool true), (sl 33 0 2 2), (pt 34 0), I 1, (pt 34 1), I 0, (g2 2 0), (.agg #[I 1, I 0, I 2, I 0]), (sl 36 0 1 1), (sl 37 0 3 3), (sl 37 0 3 3), U, U]
noncomputable def w9_X15 : Heap := (H [rowW9_8, rowW9_1, (rvar [(.map (.some 9))] 185), (rvar [(sl 8 0 3 3)] 37), rowW9_0, rowW9_12, rowW9_12, (rvar [I 1, I 0] 34), (rvar [I 0, I 0] 187), rowW9_13, rowW9_13, (rvar [I 2, I 0] 34), (rvar [I 1, I 0] 187), rowW9_14, rowW9_14, (rvar [I 1, I 0] 34), (rvar [I 2, I 0] 187), (.some (.miter 9 3 [0, 2, 1] 3)), (rvar [I 0, I 0] 187), (rvar [I 1, I 0] 34), rowW9_9, .none, (rvar [I 2, I 0] 187), (rvar [I 1, I 0] 34), rowW9_11, .none, (rvar [I 1, I 0] 187), (rvar [I 2, I 0] 34), rowW9_10, rowW9_2])
theorem w9_t14 : aRun Tryz.prog env0 100000 9 [.code (seqAt 5 (bodyOf 106))] w9_L14 w9_X14 = some (w9_L15, w9_X15, none) := by kernel_rfl
noncomputable def w9_L16 : List Value := [(sl 8 0 3 3), U, (sl 37 0 3 3), (pt 10 0), U, U, U, (sl 37 0 3 3), (pt 34 0), (pt 35 0), (.map (.some 9)), (sl 8 0 3 3), (.func (.func 149) #[] #[(pt 11 0)]), U, U, U, U, U, U, U, U, U, U, U, U, U, U, (.map (.some 9)), (pt 25 0), (.tuple #[(.bool false)]), (.bool false), (.tuple #[(g2 1 0), (g2 2 0)]), (g2 1 0), (g2 2 0), (g2 2 0), (g2 0 0), (.bool true), (sl 33 0 2 2), (pt 34 0), I 1, (pt 34 1), I 0, (g2 2 0), (.agg #[I 1, I 0, I 2, I 0]), (sl 36 0 1 1), (sl 37 0 3 3), (sl 37 0 3 3), U, (sl 37 0 3 3)]
noncomputable def w9_X16 : Heap := (H [rowW9_8, rowW9_1, (rvar [(.map (.some 9))] 185), (rvar [(sl 8 0 3 3)] 37), rowW9_0, rowW9_12, rowW9_12, (rvar [I 1, I 0] 34), (rvar [I 0, I 0] 187), rowW9_13, rowW9_13, (rvar [I 2, I 0] 34), (rvar [I 1, I 0] 187), rowW9_14, rowW9_14, (rvar [I 1, I 0] 34), (rvar [I 2, I 0] 187), (.some (.miter 9 3 [0, 2, 1] 3)), (rvar [I 0, I 0] 187), (rvar [I 1, I 0] 34), rowW9_9, .none, (rvar [I 2, I 0] 187), (rvar [I 1, I 0] 34), rowW9_11, .none, (rvar [I 1, I 0] 187), (rvar [I 2, I 0] 34), rowW9_10, rowW9_2])
theorem w9_t15 : aRun Tryz.prog env0 100000 9 [.code (seqAt 6 (bodyOf 106))] w9_L15 w9_X15 = some (w9_L16, w9_X16, none) := by kernel_rfl
noncomputable def w9_Y16 : Heap := [rowW9_1, (rvar [(.map (.some 9))] 185), (rvar [(sl 8 0 3 3)] 37), rowW9_0, rowW9_12, rowW9_12, (rvar [I 1, I 0] 34), (rvar [I 0, I 0] 187), rowW9_13, rowW9_13, (rvar [I 2, I 0] 34), (rvar [I 1, I 0] 187), rowW9_14, rowW9_14, (rvar [I 1, I 0] 34), (rvar [I 2, I 0] 187), (.some (.miter 9 3 [0, 2, 1] 3)), (rvar [I 0, I 0] 187), (rvar [I 1, I 0] 34), rowW9_9, .none, (rvar [I 2, I 0] 187), (rvar [I 1, I 0] 34), rowW9_11, .none, (rvar [I 1, I 0] 187), (rvar [I 2, I 0] 34), rowW9_10, rowW9_2]
theorem w9_n13 : EndsA Tryz.prog 8 Tryz.f106 w9_A w9_V (w9_A ++ w9_RC) [.code w9_B, .inLoop w9_B, .inBlock 2, .code (dropS 5 (bodyOf 106))] w9_L13 w9_X13 := by
  refine EndsA.mapRound w9_hB (EndsA.over (.tmp 28) (some 29) 25 9 3 3 3 [0, 2, 1] [((g2 0 0), (g2 1 0), 0), ((g2 1 0), (g2 2 0), 1), ((g2 2 0), (g2 1 0), 2)] (by kernel_rfl) (by kernel_rfl) (by kernel_rfl) (by kernel_rfl) (by kernel_rfl) (by decide) (by kernel_rfl) ?_)
  refine EndsA.run (k := [.ops w9_O 1, .code w9_R, .inLoop w9_B, .inBlock 2]) prog_ok env0_ok ⟨_, w9_o13⟩ ?_
  refine EndsA.drop prog_ok env0_ok (by kernel_rfl) ⟨_, w9_t14⟩ ?_
  refine EndsA.drop prog_ok env0_ok (by kernel_rfl) ⟨_, w9_t15⟩ ?_
  rw [show w9_X16 = w9_A ++ w9_Y16 from by kernel_rfl]
  exact EndsA.renum (ids := [37]) (m := [.no, .no, .ren, .no, .no, .no, .no, .no, .no, .no, .no, .no, .no, .no, .no, .no, .no, .no, .no, .no, .no, .no, .no, .no, .no, .no, .no, .no, .no, .no, .free, .no, .no, .no, .no, .no, .free, .no, .no, .no, .no, .no, .no, .no, .no, .no, .no, .no, .no]) (fs := [(.bool false), (.bool true)]) (by decide) (by decide) (by decide) (by kernel_rfl) (by simp [freeB, atomB]) (RowsBy.cons (i := 37) (by kernel_rfl) (RowBy.plain (by kernel_rfl)) RowsBy.nil) w9_end
theorem w9_n12 : EndsA Tryz.prog 8 Tryz.f106 w9_A w9_V (w9_A ++ w9_RC) [.code w9_B, .inLoop w9_B, .inBlock 2, .code (dropS 5 (bodyOf 106))] w9_L12 w9_X12 := by
  refine EndsA.mapRound w9_hB (EndsA.more (.tmp 28) (some 29) 25 9 3 3 3 [0, 2] [((g2 0 0), (g2 1 0), 0), ((g2 1 0), (g2 2 0), 1), ((g2 2 0), (g2 1 0), 2)] [((g2 1 0), (g2 2 0), 1)] (by kernel_rfl) (by kernel_rfl) (by kernel_rfl) (by kernel_rfl) (by kernel_rfl) (by decide) (by kernel_rfl) (by kernel_rfl) ?_)
  exact ⟨⟨by kernel_rfl, EndsA.run (k := [.ops w9_O 1, .code w9_R]) prog_ok env0_ok ⟨_, w9_e13⟩ (EndsA.again w9_n13)⟩, trivial⟩
theorem w9_n6 : EndsA Tryz.prog 8 Tryz.f106 w9_A w9_V (w9_A ++ w9_RC) [.code w9_B, .inLoop w9_B, .inBlock 2, .code (dropS 5 (bodyOf 106))] w9_L6 w9_X6 := by
  refine EndsA.mapRound w9_hB (EndsA.more (.tmp 28) (some 29) 25 9 3 3 3 [0] [((g2 0 0), (g2 1 0), 0), ((g2 1 0), (g2 2 0), 1), ((g2 2 0), (g2 1 0), 2)] [((g2 1 0), (g2 2 0), 1), ((g2 2 0), (g2 1 0), 2)] (by kernel_rfl) (by kernel_rfl) (by kernel_rfl) (by kernel_rfl) (by kernel_rfl) (by decide) (by kernel_rfl) (by kernel_rfl) ?_)
  exact ⟨⟨by kernel_rfl, EndsA.run (k := [.ops w9_O 1, .code w9_R]) prog_ok env0_ok ⟨_, w9_e7⟩ (EndsA.again w9_n7)⟩, ⟨⟨by kernel_rfl, EndsA.run (k := [.ops w9_O 1, .code w9_R]) prog_ok env0_ok ⟨_, w9_e12⟩ (EndsA.again w9_n12)⟩, trivial⟩⟩
noncomputable def w9_L17 : List Value := [(sl 8 0 3 3), U, sn, (pt 10 0), U, U, U, (sl 29 0 1 1), (pt 26 0), (pt 27 0), (.map (.some 9)), (sl 8 0 3 3), (.func (.func 149) #[] #[(pt 11 0)]), U, U, U, U, U, U, U, U, U, U, U, U, U, U, (.map (.some 9)), (pt 25 0), (.tuple #[(.bool true), (g2 1 0), (g2 2 0)]), (.bool true), (.tuple #[(g2 1 0), (g2 2 0)]), (g2 1 0), (g2 2 0), (g2 2 0), (g2 0 0), (.bool true), sn, (pt 26 0), I 1, (pt 26 1), I 0, (g2 2 0), (.agg #[I 1, I 0, I 2, I 0]), (sl 28 0 1 1), (sl 29 0 1 1), U, U, U]
noncomputable def w9_X17 : Heap := (H [rowW9_8, rowW9_1, (rvar [(.map (.some 9))] 185), (rvar [(sl 8 0 3 3)] 37), rowW9_0, rowW9_12, rowW9_12, (rvar [I 1, I 0] 34), (rvar [I 0, I 0] 187), rowW9_13, rowW9_13, (rvar [I 2, I 0] 34), (rvar [I 1, I 0] 187), rowW9_14, rowW9_14, (rvar [I 1, I 0] 34), (rvar [I 2, I 0] 187), (.some (.miter 9 3 [1] 3)), (rvar [I 1, I 0] 187), (rvar [I 2, I 0] 34), rowW9_10, rowW9_10])
theorem w9_e17 : aRun Tryz.prog env0 100000 9 [.ops w9_O 1, .code w9_R] (tput w9_L5 (some 29) (.tuple #[.bool true, (g2 1 0), (g2 2 0)])) (hset w9_X5 25 (some (.miter 9 3 [1] 3))) = some (w9_L17, w9_X17, none) := by kernel_rfl
noncomputable def w9_L18 : List Value := [(sl 8 0 3 3), U, sn, (pt 10 0), U, U, U, (sl 33 0 2 2), (pt 30 0), (pt 31 0), (.map (.some 9)), (sl 8 0 3 3), (.func (.func 149) #[] #[(pt 11 0)]), U, U, U, U, U, U, U, U, U, U, U, U, U, U, (.map (.some 9)), (pt 25 0), (.tuple #[(.bool true), (g2 0 0), (g2 1 0)]), (.bool true), (.tuple #[(g2 0 0), (g2 1 0)]), (g2 0 0), (g2 1 0), (g2 1 0), (g2 0 0), (.bool true), (sl 29 0 1 1), (pt 30 0), I 0, (pt 30 1), I 0, (g2 1 0), (.agg #[I 0, I 0, I 1, I 0]), (sl 32 0 1 1), (sl 33 0 2 2), U, U, U]
noncomputable def w9_X18 : Heap := (H [rowW9_8, rowW9_1, (rvar [(.map (.some 9))] 185), (rvar [(sl 8 0 3 3)] 37), rowW9_0, rowW9_12, rowW9_12, (rvar [I 1, I 0] 34), (rvar [I 0, I 0] 187), rowW9_13, rowW9_13, (rvar [I 2, I 0] 34), (rvar [I 1, I 0] 187), rowW9_14, rowW9_14, (rvar [I 1, I 0] 34), (rvar [I 2, I 0] 187), (.some (.miter 9 3 [1, 0] 3)), (rvar [I 1, I 0] 187), (rvar [I 2, I 0] 34), rowW9_10, .none, (rvar [I 0, I 0] 187), (rvar [I 1, I 0] 34), rowW9_9, (rrow [I 1, I 0, I 2, I 0, I 0, I 0, I 1, I 0] 125)])
theorem w9_e18 : aRun Tryz.prog env0 100000 9 [.ops w9_O 1, .code w9_R] (tput w9_L17 (some 29) (.tuple #[.bool true, (g2 0 0), (g2 1 0)])) (hset w9_X17 25 (some (.miter 9 3 [1, 0] 3))) = some (w9_L18, w9_X18, none) := by kernel_rfl
noncomputable def w9_L19 : List Value := [(sl 8 0 3 3), U, sn, (pt 10 0), U, U, U, (sl 37 0 3 3), (pt 34 0), (pt 35 0), (.map (.some 9)), (sl 8 0 3 3), (.func (.func 149) #[] #[(pt 11 0)]), U, U, U, U, U, U, U, U, U, U, U, U, U, U, (.map (.some 9)), (pt 25 0), (.tuple #[(.bool true), (g2 2 0), (g2 1 0)]), (.bool true), (.tuple #[(g2 2 0), (g2 1 0)]), (g2 2 0), (g2 1 0), (g2 1 0), (g2 0 0), (.bool true), (sl 33 0 2 2), (pt 34 0), I 2, (pt 34 1), I 0, (g2 1 0), (.agg #[I 2, I 0, I 1, I 0]), (sl 36 0 1 1), (sl 37 0 3 3), U, U, U]
noncomputable def w9_X19 : Heap := (H [rowW9_8, rowW9_1, (rvar [(.map (.some 9))] 185), (rvar [(sl 8 0 3 3)] 37), rowW9_0, rowW9_12, rowW9_12, (rvar [I 1, I 0] 34), (rvar [I 0, I 0] 187), rowW9_13, rowW9_13, (rvar [I 2, I 0] 34), (rvar [I 1, I 0] 187), rowW9_14, rowW9_14, (rvar [I 1, I 0] 34), (rvar [I 2, I 0] 187), (.some (.miter 9 3 [1, 0, 2] 3)), (rvar [I 1, I 0] 187), (rvar [I 2, I 0] 34), rowW9_10, .none, (rvar [I 0, I 0] 187), (rvar [I 1, I 0] 34), rowW9_9, .none, (rvar [I 2, I 0] 187), (rvar [I 1, I 0] 34), rowW9_11, rowW9_4])
theorem w9_e19 : aRun Tryz.prog env0 100000 9 [.ops w9_O 1, .code w9_R] (tput w9_L18 (some 29) (.tuple #[.bool true, (g2 2 0), (g2 1 0)])) (hset w9_X18 25 (some (.miter 9 3 [1, 0, 2] 3))) = some (w9_L19, w9_X19, none) := by kernel_rfl
noncomputable def w9_L20 : List Value := [(sl 8 0 3 3), U, sn, (pt 10 0), U, U, U, (sl 37 0 3 3), (pt 34 0), (pt 35 0), (.map (.some 9)), (sl 8 0 3 3), (.func (.func 149) #[] #[(pt 11 0)]), U, U, U, U, U, U, U, U, U, U, U, U, U, U, (.map (.some 9)), (pt 25 0), (.tuple #[(.bool false)]), (.bool false), (.tuple #[(g2 2 0), (g2 1 0)]), (g2 2 0), (g2 1 0), (g2 1 0), (g2 0 0), (.bool true), (sl 33 0 2 2), (pt 34 0), I 2, (pt 34 1), I 0, (g2 1 0), (.agg #[I 2, I 0, I 1, I 0]), (sl 36 0 1 1), (sl 37 0 3 3), U, U, U]
noncomputable def w9_X20 : Heap := (H [rowW9_8, rowW9_1, (rvar [(.map (.some 9))] 185), (rvar [(sl 8 0 3 3)] 37), rowW9_0, rowW9_12, rowW9_12, (rvar [I 1, I 0] 34), (rvar [I 0, I 0] 187), rowW9_13, rowW9_13, (rvar [I 2, I 0] 34), (rvar [I 1, I 0] 187), rowW9_14, rowW9_14, (rvar [I 1, I 0] 34), (rvar [I 2, I 0] 187), (.some (.miter 9 3 [1, 0, 2] 3)), (rvar [I 1, I 0] 187), (rvar [I 2, I 0] 34), rowW9_10, .none, (rvar [I 0, I 0] 187), (rvar [I 1, I 0] 34), rowW9_9, .none, (rvar [I 2, I 0] 187), (rvar [I 1, I 0] 34), rowW9_11, rowW9_4])
theorem w9_o19 : aRun Tryz.prog env0 100000 9 [.ops w9_O 1, .code w9_R, .inLoop w9_B, .inBlock 2] (tput w9_L19 (some 29) (.tuple #[.bool false])) w9_X19 = some (w9_L20, w9_X20, none) := by kernel_rfl
noncomputable def w9_L21 : List Value := [(sl 8 0 3 3), U, sn, (pt 10 0), U, U, U, (sl 37 0 3 3), (pt 34 0), (pt 35 0), (.map (.some 9)), (sl 8 0 3 3), (.func (.func 149) #[] #[(pt 11 0)]), U, U, U, U, U, U, U, U, U, U, U, U, U, U, (.map (.some 9)), (pt 25 0), (.tuple #[(.bool false)]), (.bool false), (.tuple #[(g2 2 0), (g2 1 0)]), (g2 2 0), (g2 1 0), (g2 1 0), (g2 0 0), (.bool true), (sl 33 0 2 2), (pt 34 0), I 2, (pt 34 1), I 0, (g2 1 0), (.agg #[I 2, I 0, I 1, I 0]), (sl 36 0 1 1), (sl 37 0 3 3), (sl 37 0 3 3), U, U]
noncomputable def w9_X21 : Heap := (H [rowW9_8, rowW9_1, (rvar [(.map (.some 9))] 185), (rvar [(sl 8 0 3 3)] 37), rowW9_0, rowW9_12, rowW9_12, (rvar [I 1, I 0] 34), (rvar [I 0, I 0] 187), rowW9_13, rowW9_13, (rvar [I 2, I 0] 34), (rvar [I 1, I 0] 187), rowW9_14, rowW9_14, (rvar [I 1, I 0] 34), (rvar [I 2, I 0] 187), (.some (.miter 9 3 [1, 0, 2] 3)), (rvar [I 1, I 0] 187), (rvar [I 2, I 0] 34), rowW9_10, .none, (rvar [I 0, I 0] 187), (rvar [I 1, I 0] 34), rowW9_9, .none, (rvar [I 2, I 0] 187), (rvar [I 1, I 0] 34), rowW9_11, rowW9_2])
theorem w9_t20 : aRun Tryz.prog env0 100000 9 [.code (seqAt 5 (bodyOf 106))] w9_L20 w9_X20 = some (w9_L21, w9_X21, none) := by kernel_rfl
noncomputable def w9_L22 : List Value := [(sl 8 0 3 3), U, (sl 37 0 3 3), (pt 10 0), U, U, U, (sl 37 0 3 3), (pt 34 0), (pt 35 0), (.map (.some 9)), (sl 8 0 3 3), (.func (.func 149) #[] #[(pt 11 0)]), U, U, U, U, U, U, U, U, U, U, U, U, U, U, (.map (.some 9)), (pt 25 0), (.tuple #[(.bool false)]), (.bool false), (.tuple #[(g2 2 0), (g2 1 0)]), (g2 2 0), (g2 1 0), (g2 1 0), (g2 0 0), (.bool true), (sl 33 0 2 2), (pt 34 0), I 2, (pt 34 1), I 0, (g2 1 0), (.agg #[I 2, I 0, I 1, I 0]), (sl 36 0 1 1), (sl 37 0 3 3), (sl 37 0 3 3), U, (sl 37 0 3 3)]
noncomputable def w9_X22 : Heap := (H [rowW9_8, rowW9_1, (rvar [(.map (.some 9))] 185), (rvar [(sl 8 0 3 3)] 37), rowW9_0, rowW9_12, rowW9_12, (rvar [I 1, I 0] 34), (rvar [I 0, I 0] 187), rowW9_13, rowW9_13, (rvar [I 2, I 0] 34), (rvar [I 1, I 0] 187), rowW9_14, rowW9_14, (rvar [I 1, I 0] 34), (rvar [I 2, I 0] 187), (.some (.miter 9 3 [1, 0, 2] 3)), (rvar [I 1, I 0] 187), (rvar [I 2, I 0] 34), rowW9_10, .none, (rvar [I 0, I 0] 187), (rvar [I 1, I 0] 34), rowW9_9, .none, (rvar [I 2, I 0] 187), (rvar [I 1, I 0] 34), rowW9_11, rowW9_2])
theorem w9_t21 : aRun Tryz.prog env0 100000 9 [.code (seqAt 6 (bodyOf 106))] w9_L21 w9_X21 = some (w9_L22, w9_X22, none) := by kernel_rfl
noncomputable def w9_Y22 : Heap := [rowW9_1, (rvar [(.map (.some 9))] 185), (rvar [(sl 8 0 3 3)] 37), rowW9_0, rowW9_12, rowW9_12, (rvar [I 1, I 0] 34), (rvar [I 0, I 0] 187), rowW9_13, rowW9_13, (rvar [I 2, I 0] 34), (rvar [I 1, I 0] 187), rowW9_14, rowW9_14, (rvar [I 1, I 0] 34), (rvar [I 2, I 0] 187), (.some (.miter 9 3 [1, 0, 2] 3)), (rvar [I 1, I 0] 187), (rvar [I 2, I 0] 34), rowW9_10, .none, (rvar [I 0, I 0] 187), (rvar [I 1, I 0] 34), rowW9_9, .none, (rvar [I 2, I 0] 187), (rvar [I 1, I 0] 34), rowW9_11, rowW9_2]
theorem w9_n19 : EndsA Tryz.prog 8 Tryz.f106 w9_A w9_V (w9_A ++ w9_RC) [.code w9_B, .inLoop w9_B, .inBlock 2, .code (dropS 5 (bodyOf 106))] w9_L19 w9_X19 := by
  refine EndsA.mapRound w9_hB (EndsA.over (.tmp 28) (some 29) 25 9 3 3 3 [1, 0, 2] [((g2 0 0), (g2 1 0), 0), ((g2 1 0), (g2 2 0), 1), ((g2 2 0), (g2 1 0), 2)] (by kernel_rfl) (by kernel_rfl) (by kernel_rfl) (by kernel_rfl) (by kernel_rfl) (by decide) (by kernel_rfl) ?_)
  refine EndsA.run (k := [.ops w9_O 1, .code w9_R, .inLoop w9_B, .inBlock 2]) prog_ok env0_ok ⟨_, w9_o19⟩ ?_
  refine EndsA.drop prog_ok env0_ok (by kernel_rfl) ⟨_, w9_t20⟩ ?_
  refine EndsA.drop prog_ok env0_ok (by kernel_rfl) ⟨_, w9_t21⟩ ?_
  rw [show w9_X22 = w9_A ++ w9_Y22 from by kernel_rfl]
  exact EndsA.renum (ids := [37]) (m := [.no, .no, .ren, .no, .no, .no, .no, .no, .no, .no, .no, .no, .no, .no, .no, .no, .no, .no, .no, .no, .no, .no, .no, .no, .no, .no, .no, .no, .no, .no, .free, .no, .no, .no, .no, .no, .free, .no, .no, .no, .no, .no, .no, .no, .no, .no, .no, .no, .no]) (fs := [(.bool false), (.bool true)]) (by decide) (by decide) (by decide) (by kernel_rfl) (by simp [freeB, atomB]) (RowsBy.cons (i := 37) (by kernel_rfl) (RowBy.plain (by kernel_rfl)) RowsBy.nil) w9_end
theorem w9_n18 : EndsA Tryz.prog 8 Tryz.f106 w9_A w9_V (w9_A ++ w9_RC) [.code w9_B, .inLoop w9_B, .inBlock 2, .code (dropS 5 (bodyOf 106))] w9_L18 w9_X18 := by
  refine EndsA.mapRound w9_hB (EndsA.more (.tmp 28) (some 29) 25 9 3 3 3 [1, 0] [((g2 0 0), (g2 1 0), 0), ((g2 1 0), (g2 2 0), 1), ((g2 2 0), (g2 1 0), 2)] [((g2 2 0), (g2 1 0), 2)] (by kernel_rfl) (by kernel_rfl) (by kernel_rfl) (by kernel_rfl) (by kernel_rfl) (by decide) (by kernel_rfl) (by kernel_rfl) ?_)
  exact ⟨⟨by kernel_rfl, EndsA.run (k := [.ops w9_O 1, .code w9_R]) prog_ok env0_ok ⟨_, w9_e19⟩ (EndsA.again w9_n19)⟩, trivial⟩
noncomputable def w9_L23 : List Value := [(sl 8 0 3 3), U, sn, (pt 10 0), U, U, U, (sl 33 0 2 2), (pt 30 0), (pt 31 0), (.map (.some 9)), (sl 8 0 3 3), (.func (.func 149) #[] #[(pt 11 0)]), U, U, U, U, U, U, U, U, U, U, U, U, U, U, (.map (.some 9)), (pt 25 0), (.tuple #[(.bool true), (g2 2 0), (g2 1 0)]), (.bool true), (.tuple #[(g2 2 0), (g2 1 0)]), (g2 2 0), (g2 1 0), (g2 1 0), (g2 0 0), (.bool true), (sl 29 0 1 1), (pt 30 0), I 2, (pt 30 1), I 0, (g2 1 0), (.agg #[I 2, I 0, I 1, I 0]), (sl 32 0 1 1), (sl 33 0 2 2), U, U, U]
noncomputable def w9_X23 : Heap := (H [rowW9_8, rowW9_1, (rvar [(.map (.some 9))] 185), (rvar [(sl 8 0 3 3)] 37), rowW9_0, rowW9_12, rowW9_12, (rvar [I 1, I 0] 34), (rvar [I 0, I 0] 187), rowW9_13, rowW9_13, (rvar [I 2, I 0] 34), (rvar [I 1, I 0] 187), rowW9_14, rowW9_14, (rvar [I 1, I 0] 34), (rvar [I 2, I 0] 187), (.some (.miter 9 3 [1, 2] 3)), (rvar [I 1, I 0] 187), (rvar [I 2, I 0] 34), rowW9_10, .none, (rvar [I 2, I 0] 187), (rvar [I 1, I 0] 34), rowW9_11, (rrow [I 1, I 0, I 2, I 0, I 2, I 0, I 1, I 0] 125)])
theorem w9_e23 : aRun Tryz.prog env0 100000 9 [.ops w9_O 1, .code w9_R] (tput w9_L17 (some 29) (.tuple #[.bool true, (g2 2 0), (g2 1 0)])) (hset w9_X17 25 (some (.miter 9 3 [1, 2] 3))) = some (w9_L23, w9_X23, none) := by kernel_rfl
noncomputable def w9_L24 : List Value := [(sl 8 0 3 3), U, sn, (pt 10 0), U, U, U, (sl 37 0 3 3), (pt 34 0), (pt 35 0), (.map (.some 9)), (sl 8 0 3 3), (.func (.func 149) #[] #[(pt 11 0)]), U, U, U, U, U, U, U, U, U, U, U, U, U, U, (.map (.some 9)), (pt 25 0), (.tuple #[(.bool true), (g2 0 0), (g2 1 0)]), (.bool true), (.tuple #[(g2 0 0), (g2 1 0)]), (g2 0 0), (g2 1 0), (g2 1 0), (g2 0 0), (.bool true), (sl 33 0 2 2), (pt 34 0), I 0, (pt 34 1), I 0, (g2 1 0), (.agg #[I 0, I 0, I 1, I 0]), (sl 36 0 1 1), (sl 37 0 3 3), U, U, U]
noncomputable def w9_X24 : Heap := (H [rowW9_8, rowW9_1, (rvar [(.map (.some 9))] 185), (rvar [(sl 8 0 3 3)] 37), rowW9_0, rowW9_12, rowW9_12, (rvar [I 1, I 0] 34), (rvar [I 0, I 0] 187), rowW9_13, rowW9_13, (rvar [I 2, I 0] 34), (rvar [I 1, I 0] 187), rowW9_14, rowW9_14, (rvar [I 1, I 0] 34), (rvar [I 2, I 0] 187), (.some (.miter 9 3 [1, 2, 0] 3)), (rvar [I 1, I 0] 187), (rvar [I 2, I 0] 34), rowW9_10, .none, (rvar [I 2, I 0] 187), (rvar [I 1, I 0] 34), rowW9_11, .none, (rvar [I 0, I 0] 187), (rvar [I 1, I 0] 34), rowW9_9, rowW9_5])
theorem w9_e24 : aRun Tryz.prog env0 100000 9 [.ops w9_O 1, .code w9_R] (tput w9_L23 (some 29) (.tuple #[.bool true, (g2 0 0), (g2 1 0)])) (hset w9_X23 25 (some (.miter 9 3 [1, 2, 0] 3))) = some (w9_L24, w9_X24, none) := by kernel_rfl
noncomputable def w9_L25 : List Value := [(sl 8 0 3 3), U, sn, (pt 10 0), U, U, U, (sl 37 0 3 3), (pt 34 0), (pt 35 0), (.map (.some 9)), (sl 8 0 3 3), (.func (.func 149) #[] #[(pt 11 0)]), U, U, U, U, U, U, U, U, U, U, U, U, U, U, (.map (.some 9)), (pt 25 0), (.tuple #[(.bool false)]), (.bool false), (.tuple #[(g2 0 0), (g2 1 0)]), (g2 0 0), (g2 1 0), (g2 1 0), (g2 0 0), (.bool true), (sl 33 0 2 2), (pt 34 0), I 0, (pt 34 1), I 0, (g2 1 0), (.agg #[I 0, I 0, I 1, I 0]), (sl 36 0 1 1), (sl 37 0 3 3), U, U, U]
noncomputable def w9_X25 : Heap := (H [rowW9_8, rowW9_1, (rvar [(.map (.some 9))] 185), (rvar [(sl 8 0 3 3)] 37), rowW9_0, rowW9_12, rowW9_12, (rvar [I 1, I 0] 34), (rvar [I 0, I 0] 187), rowW9_13, rowW9_13, (rvar [I 2, I 0] 34), (rvar [I 1, I 0] 187), rowW9_14, rowW9_14, (rvar [I 1, I 0] 34), (rvar [I 2, I 0] 187), (.some (.miter 9 3 [1, 2, 0] 3)), (rvar [I 1, I 0] 187), (rvar [I 2, I 0] 34), rowW9_10, .none, (rvar [I 2, I 0] 187), (rvar [I 1, I 0] 34), rowW9_11, .none, (rvar [I 0, I 0] 187), (rvar [I 1, I 0] 34), rowW9_9, rowW9_5])
theorem w9_o24 : aRun Tryz.prog env0 100000 9 [.ops w9_O 1, .code w9_R, .inLoop w9_B, .inBlock 2] (tput w9_L24 (some 29) (.tuple #[.bool false])) w9_X24 = some (w9_L25, w9_X25, none) := by kernel_rfl
noncomputable def w9_L26 : List Value := [(sl 8 0 3 3), U, sn, (pt 10 0), U, U, U, (sl 37 0 3 3), (pt 34 0), (pt 35 0), (.map (.some 9)), (sl 8 0 3 3), (.func (.func 149) #[] #[(pt 11 0)]), U, U, U, U, U, U, U, U, U, U, U, U, U, U, (.map (.some 9)), (pt 25 0), (.tuple #[(.bool false)]), (.bool false), (.tuple #[(g2 0 0), (g2 1 0)]), (g2 0 0), (g2 1 0), (g2 1 0), (g2 0 0), (.bool true), (sl 33 0 2 2), (pt 34 0), I 0, (pt 34 1), I 0, (g2 1 0), (.agg #[I 0, I 0, I 1, I 0]), (sl 36 0 1 1), (sl 37 0 3 3), (sl 37 0 3 3), U, U]
noncomputable def w9_X26 : Heap := (H [rowW9_8, rowW9_1, (rvar [(.map (.some 9))] 185), (rvar [(sl 8 0 3 3)] 37), rowW9_0, rowW9_12, rowW9_12, (rvar [I 1, I 0] 34), (rvar [I 0, I 0] 187), rowW9_13, rowW9_13, (rvar [I 2, I 0] 34), (rvar [I 1, I 0] 187), rowW9_14, rowW9_14, (rvar [I 1, I 0] 34), (rvar [I 2, I 0] 187), (.some (.miter 9 3 [1, 2, 0] 3)), (rvar [I 1, I 0] 187), (rvar [I 2, I 0] 34), rowW9_10, .none, (rvar [I 2, I 0] 187), (rvar [I 1, I 0] 34), rowW9_11, .none, (rvar [I 0, I 0] 187), (rvar [I 1, I 0] 34), rowW9_9, rowW9_2])
theorem w9_t25 : aRun Tryz.prog env0 100000 9 [.code (seqAt 5 (bodyOf 106))] w9_L25 w9_X25 = some (w9_L26, w9_X26, none) := by kernel_rfl
noncomputable def w9_L27 : List Value := [(sl 8 0 3 3), U, (sl 37 0 3 3), (pt 10 0), U, U, U, (sl 37 0 3 3), (pt 34 0), (pt 35 0), (.map (.some 9)), (sl 8 0 3 3), (.func (.func 149) #[] #[(pt 11 0)]), U, U, U, U, U, U, U, U, U, U, U, U, U, U, (.map (.some 9)), (pt 25 0), (.tuple #[(.bool false)]), (.bool false), (.tuple #[(g2 0 0), (g2 1 0)]), (g2 0 0), (g2 1 0), (g2 1 0), (g2 0 0), (.bool true), (sl 33 0 2 2), (pt 34 0), I 0, (pt 34 1), I 0, (g2 1 0), (.agg #[I 0, I 0, I 1, I 0]), (sl 36 0 1 1), (sl 37 0 3 3), (sl 37 0 3 3), U, (sl 37 0 3 3)]
noncomputable def w9_X27 : Heap := (H [rowW9_8, rowW9_1, (rvar [(.map (.some 9))] 185), (rvar [(sl 8 0 3 3)] 37), rowW9_0, rowW9_12, rowW9_12, (rvar [I 1, I 0] 34), (rvar [I 0, I 0] 187), rowW9_13, rowW9_13, (rvar [I 2, I 0] 34), (rvar [I 1, I 0] 187), rowW9_14, rowW9_14, (rvar [I 1, I 0] 34), (rvar [I 2, I 0] 187), (.some (.miter 9 3 [1, 2, 0] 3)), (rvar [I 1, I 0] 187), (rvar [I 2, I 0] 34), rowW9_10, .none, (rvar [I 2, I 0] 187), (rvar [I 1, I 0] 34), rowW9_11, .none, (rvar [I 0, I 0] 187), (rvar [I 1, I 0] 34), rowW9_9, rowW9_2])
theorem w9_t26 : aRun Tryz.prog env0 100000 9 [.code (seqAt 6 (bodyOf 106))] w9_L26 w9_X26 = some (w9_L27, w9_X27, none) := by kernel_rfl
noncomputable def w9_Y27 : Heap := [rowW9_1, (rvar [(.map (.some 9))] 185), (rvar [(sl 8 0 3 3)] 37), rowW9_0, rowW9_12, rowW9_12, (rvar [I 1, I 0] 34), (rvar [I 0, I 0] 187), rowW9_13, rowW9_13, (rvar [I 2, I 0] 34), (rvar [I 1, I 0] 187), rowW9_14, rowW9_14, (rvar [I 1, I 0] 34), (rvar [I 2, I 0] 187), (.some (.miter 9 3 [1, 2, 0] 3)), (rvar [I 1, I 0] 187), (rvar [I 2, I 0] 34), rowW9_10, .none, (rvar [I 2, I 0] 187), (rvar [I 1, I 0] 34), rowW9_11, .none, (rvar [I 0, I 0] 187), (rvar [I 1, I 0] 34), rowW9_9, rowW9_2]
theorem w9_n24 : EndsA Tryz.prog 8 Tryz.f106 w9_A w9_V (w9_A ++ w9_RC) [.code w9_B, .inLoop w9_B, .inBlock 2, .code (dropS 5 (bodyOf 106))] w9_L24 w9_X24 := by
  refine EndsA.mapRound w9_hB (EndsA.over (.tmp 28) (some 29) 25 9 3 3 3 [1, 2, 0] [((g2 0 0), (g2 1 0), 0), ((g2 1 0), (g2 2 0), 1), ((g2 2 0), (g2 1 0), 2)] (by kernel_rfl) (by kernel_rfl) (by kernel_rfl) (by kernel_rfl) (by kernel_rfl) (by decide) (by kernel_rfl) ?_)
  refine EndsA.run (k := [.ops w9_O 1, .code w9_R, .inLoop w9_B, .inBlock 2]) prog_ok env0_ok ⟨_, w9_o24⟩ ?_
  refine EndsA.drop prog_ok env0_ok (by kernel_rfl) ⟨_, w9_t25⟩ ?_
  refine EndsA.drop prog_ok env0_ok (by kernel_rfl) ⟨_, w9_t26⟩ ?_
  rw [show w9_X27 = w9_A ++ w9_Y27 from by kernel_rfl]
  exact EndsA.renum (ids := [37]) (m := [.no, .no, .ren, .no, .no, .no, .no, .no, .no, .no, .no, .no, .no, .no, .no, .no, .no, .no, .no, .no, .no, .no, .no, .no, .no, .no, .no, .no, .no, .no, .free, .no, .no, .no, .no, .no, .free, .no, .no, .no, .no, .no, .no, .no, .no, .no, .no, .no, .no]) (fs := [(.bool false), (.bool true)]) (by decide) (by decide) (by decide) (by kernel_rfl) (by simp [freeB, atomB]) (RowsBy.cons (i := 37) (by kernel_rfl) (RowBy.plain (by kernel_rfl)) RowsBy.nil) w9_end
theorem w9_n23 : EndsA Tryz.prog 8 Tryz.f106 w9_A w9_V (w9_A ++ w9_RC) [.code w9_B, .inLoop w9_B, .inBlock 2, .code (dropS 5 (bodyOf 106))] w9_L23 w9_X23 := by
  refine EndsA.mapRound w9_hB (EndsA.more (.tmp 28) (some 29) 25 9 3 3 3 [1, 2] [((g2 0 0), (g2 1 0), 0), ((g2 1 0), (g2 2 0), 1), ((g2 2 0), (g2 1 0), 2)] [((g2 0 0), (g2 1 0), 0)] (by kernel_rfl) (by kernel_rfl) (by kernel_rfl) (by kernel_rfl) (by kernel_rfl) (by decide) (by kernel_rfl) (by kernel_rfl) ?_)
  exact ⟨⟨by kernel_rfl, EndsA.run (k := [.ops w9_O 1, .code w9_R]) prog_ok env0_ok ⟨_, w9_e24⟩ (EndsA.again w9_n24)⟩, trivial⟩
theorem w9_n17 : EndsA Tryz.prog 8 Tryz.f106 w9_A w9_V (w9_A ++ w9_RC) [.code w9_B, .inLoop w9_B, .inBlock 2, .code (dropS 5 (bodyOf 106))] w9_L17 w9_X17 := by
  refine EndsA.mapRound w9_hB (EndsA.more (.tmp 28) (some 29) 25 9 3 3 3 [1] [((g2 0 0), (g2 1 0), 0), ((g2 1 0), (g2 2 0), 1), ((g2 2 0), (g2 1 0), 2)] [((g2 0 0), (g2 1 0), 0), ((g2 2 0), (g2 1 0), 2)] (by kernel_rfl) (by kernel_rfl) (by kernel_rfl) (by kernel_rfl) (by kernel_rfl) (by decide) (by kernel_rfl) (by kernel_rfl) ?_)
  exact ⟨⟨by kernel_rfl, EndsA.run (k := [.ops w9_O 1, .code w9_R]) prog_ok env0_ok ⟨_, w9_e18⟩ (EndsA.again w9_n18)⟩, ⟨⟨by kernel_rfl, EndsA.run (k := [.ops w9_O 1, .code w9_R]) prog_ok env0_ok ⟨_, w9_e23⟩ (EndsA.again w9_n23)⟩, trivial⟩⟩
noncomputable def w9_L28 : List Value := [(sl 8 0 3 3), U, sn, (pt 10 0), U, U, U, (sl 29 0 1 1), (pt 26 0), (pt 27 0), (.map (.some 9)), (sl 8 0 3 3), (.func (.func 149) #[] #[(pt 11 0)]), U, U, U, U, U, U, U, U, U, U, U, U, U, U, (.map (.some 9)), (pt 25 0), (.tuple #[(.bool true), (g2 2 0), (g2 1 0)]), (.bool true), (.tuple #[(g2 2 0), (g2 1 0)]), (g2 2 0), (g2 1 0), (g2 1 0), (g2 0 0), (.bool true), sn, (pt 26 0), I 2, (pt 26 1), I 0, (g2 1 0), (.agg #[I 2, I 0, I 1, I 0]), (sl 28 0 1 1), (sl 29 0 1 1), U, U, U]
noncomputable def w9_X28 : Heap := (H [rowW9_8, rowW9_1, (rvar [(.map (.some 9))] 185), (rvar [(sl 8 0 3 3)] 37), rowW9_0, rowW9_12, rowW9_12, (rvar [I 1, I 0] 34), (rvar [I 0, I 0] 187), rowW9_13, rowW9_13, (rvar [I 2, I 0] 34), (rvar [I 1, I 0] 187), rowW9_14, rowW9_14, (rvar [I 1, I 0] 34), (rvar [I 2, I 0] 187), (.some (.miter 9 3 [2] 3)), (rvar [I 2, I 0] 187), (rvar [I 1, I 0] 34), rowW9_11, rowW9_11])
theorem w9_e28 : aRun Tryz.prog env0 100000 9 [.ops w9_O 1, .code w9_R] (tput w9_L5 (some 29) (.tuple #[.bool true, (g2 2 0), (g2 1 0)])) (hset w9_X5 25 (some (.miter 9 3 [2] 3))) = some (w9_L28, w9_X28, none) := by kernel_rfl
noncomputable def w9_L29 : List Value := [(sl 8 0 3 3), U, sn, (pt 10 0), U, U, U, (sl 33 0 2 2), (pt 30 0), (pt 31 0), (.map (.some 9)), (sl 8 0 3 3), (.func (.func 149) #[] #[(pt 11 0)]), U, U, U, U, U, U, U, U, U, U, U, U, U, U, (.map (.some 9)), (pt 25 0), (.tuple #[(.bool true), (g2 0 0), (g2 1 0)]), (.bool true), (.tuple #[(g2 0 0), (g2 1 0)]), (g2 0 0), (g2 1 0), (g2 1 0), (g2 0 0), (.bool true), (sl 29 0 1 1), (pt 30 0), I 0, (pt 30 1), I 0, (g2 1 0), (.agg #[I 0, I 0, I 1, I 0]), (sl 32 0 1 1), (sl 33 0 2 2), U, U, U]
noncomputable def w9_X29 : Heap := (H [rowW9_8, rowW9_1, (rvar [(.map (.some 9))] 185), (rvar [(sl 8 0 3 3)] 37), rowW9_0, rowW9_12, rowW9_12, (rvar [I 1, I 0] 34), (rvar [I 0, I 0] 187), rowW9_13, rowW9_13, (rvar [I 2, I 0] 34), (rvar [I 1, I 0] 187), rowW9_14, rowW9_14, (rvar [I 1, I 0] 34), (rvar [I 2, I 0] 187), (.some (.miter 9 3 [2, 0] 3)), (rvar [I 2, I 0] 187), (rvar [I 1, I 0] 34), rowW9_11, .none, (rvar [I 0, I 0] 187), (rvar [I 1, I 0] 34), rowW9_9, (rrow [I 2, I 0, I 1, I 0, I 0, I 0, I 1, I 0] 125)])
theorem w9_e29 : aRun Tryz.prog env0 100000 9 [.ops w9_O 1, .code w9_R] (tput w9_L28 (some 29) (.tuple #[.bool true, (g2 0 0), (g2 1 0)])) (hset w9_X28 25 (some (.miter 9 3 [2, 0] 3))) = some (w9_L29, w9_X29, none) := by kernel_rfl
noncomputable def w9_L30 : List Value := [(sl 8 0 3 3), U, sn, (pt 10 0), U, U, U, (sl 37 0 3 3), (pt 34 0), (pt 35 0), (.map (.some 9)), (sl 8 0 3 3), (.func (.func 149) #[] #[(pt 11 0)]), U, U, U, U, U, U, U, U, U, U, U, U, U, U, (.map (.some 9)), (pt 25 0), (.tuple #[(.bool true), (g2 1 0), (g2 2 0)]), (.bool true), (.tuple #[(g2 1 0), (g2 2 0)]), (g2 1 0), (g2 2 0), (g2 2 0), (g2 0 0), (.bool true), (sl 33 0 2 2), (pt 34 0), I 1, (pt 34 1), I 0, (g2 2 0), (.agg #[I 1, I 0, I 2, I 0]), (sl 36 0 1 1), (sl 37 0 3 3), U, U, U]
noncomputable def w9_X30 : Heap := (H [rowW9_8, rowW9_1, (rvar [(.map (.some 9))] 185), (rvar [(sl 8 0 3 3)] 37), rowW9_0, rowW9_12, rowW9_12, (rvar [I 1, I 0] 34), (rvar [I 0, I 0] 187), rowW9_13, rowW9_13, (rvar [I 2, I 0] 34), (rvar [I 1, I 0] 187), rowW9_14, rowW9_14, (rvar [I 1, I 0] 34), (rvar [I 2, I 0] 187), (.some (.miter 9 3 [2, 0, 1] 3)), (rvar [I 2, I 0] 187), (rvar [I 1, I 0] 34), rowW9_11, .none, (rvar [I 0, I 0] 187), (rvar [I 1, I 0] 34), rowW9_9, .none, (rvar [I 1, I 0] 187), (rvar [I 2, I 0] 34), rowW9_10, rowW9_6])
theorem w9_e30 : aRun Tryz.prog env0 100000 9 [.ops w9_O 1, .code w9_R] (tput w9_L29 (some 29) (.tuple #[.bool true, (g2 1 0), (g2 2 0)])) (hset w9_X29 25 (some (.miter 9 3 [2, 0, 1] 3))) = some (w9_L30, w9_X30, none) := by kernel_rfl
noncomputable def w9_L31 : List Value := [(sl 8 0 3 3), U, sn, (pt 10 0), U, U, U, (sl 37 0 3 3), (pt 34 0), (pt 35 0), (.map (.some 9)), (sl 8 0 3 3), (.func (.func 149) #[] #[(pt 11 0)]), U, U, U, U, U, U, U, U, U, U, U, U, U, U, (.map (.some 9)), (pt 25 0), (.tuple #[(.bool false)]), (.bool false), (.tuple #[(g2 1 0), (g2 2 0)]), (g2 1 0), (g2 2 0), (g2 2 0), (g2 0 0), (.bool true), (sl 33 0 2 2), (pt 34 0), I 1, (pt 34 1), I 0, (g2 2 0), (.agg #[I 1, I 0, I 2, I 0]), (sl 36 0 1 1), (sl 37 0 3 3), U, U, U]
noncomputable def w9_X31 : Heap := (H [rowW9_8, rowW9_1, (rvar [(.map (.some 9))] 185), (rvar [(sl 8 0 3 3)] 37), rowW9_0, rowW9_12, rowW9_12, (rvar [I 1, I 0] 34), (rvar [I 0, I 0] 187), rowW9_13, rowW9_13, (rvar [I 2, I 0] 34), (rvar [I 1, I 0] 187), rowW9_14, rowW9_14, (rvar [I 1, I 0] 34), (rvar [I 2, I 0] 187), (.some (.miter 9 3 [2, 0, 1] 3)), (rvar [I 2, I 0] 187), (rvar [I 1, I 0] 34), rowW9_11, .none, (rvar [I 0, I 0] 187), (rvar [I 1, I 0] 34), rowW9_9, .none, (rvar [I 1, I 0] 187), (rvar [I 2, I 0] 34), rowW9_10, rowW9_6])
theorem w9_o30 : aRun Tryz.prog env0 100000 9 [.ops w9_O 1, .code w9_R, .inLoop w9_B, .inBlock 2] (tput w9_L30 (some 29) (.tuple #[.bool false])) w9_X30 = some (w9_L31, w9_X31, none) := by kernel_rfl
noncomputable def w9_L32 : List Value := [(sl 8 0 3 3), U, sn, (pt 10 0), U, U, U, (sl 37 0 3 3), (pt 34 0), (pt 35 0), (.map (.some 9)), (sl 8 0 3 3), (.func (.func 149) #[] #[(pt 11 0)]), U, U, U, U, U, U, U, U, U, U, U, U, U, U, (.map (.some 9)), (pt 25 0), (.tuple #[(.bool false)]), (.bool false), (.tuple #[(g2 1 0), (g2 2 0)]), (g2 1 0), (g2 2 0), (g2 2 0), (g2 0 0), (.bool true), (sl 33 0 2 2), (pt 34 0), I 1, (pt 34 1), I 0, (g2 2 0), (.agg #[I 1, I 0, I 2, I 0]), (sl 36 0 1 1), (sl 37 0 3 3), (sl 37 0 3 3), U, U]
noncomputable def w9_X32 : Heap := (H [rowW9_8, rowW9_1, (rvar [(.map (.some 9))] 185), (rvar [(sl 8 0 3 3)] 37), rowW9_0, rowW9_12, rowW9_12, (rvar [I 1, I 0] 34), (rvar [I 0, I 0] 187), rowW9_13, rowW9_13, (rvar [I 2, I 0] 34), (rvar [I 1, I 0] 187), rowW9_14, rowW9_14, (rvar [I 1, I 0] 34), (rvar [I 2, I 0] 187), (.some (.miter 9 3 [2, 0, 1] 3)), (rvar [I 2, I 0] 187), (rvar [I 1, I 0] 34), rowW9_11, .none, (rvar [I 0, I 0] 187), (rvar [I 1, I 0] 34), rowW9_9, .none, (rvar [I 1, I 0] 187), (rvar [I 2, I 0] 34), rowW9_10, rowW9_2])
theorem w9_t31 : aRun Tryz.prog env0 100000 9 [.code (seqAt 5 (bodyOf 106))] w9_L31 w9_X31 = some (w9_L32, w9_X32, none) := by kernel_rfl
noncomputable def w9_L33 : List Value := [(sl 8 0 3 3), U, (sl 37 0 3 3), (pt 10 0), U, U, U, (sl 37 0 3 3), (pt 34 0), (pt 35 0), (.map (.some 9)), (sl 8 0 3 3), (.func (.func 149) #[] #[(pt 11 0)]), U, U, U, U, U, U, U, U, U, U, U, U, U, U, (.map (.some 9)), (pt 25 0), (.tuple #[(.bool false)]), (.bool false), (.tuple #[(g2 1 0), (g2 2 0)]), (g2 1 0), (g2 2 0), (g2 2 0), (g2 0 0), (.bool true), (sl 33 0 2 2), (pt 34 0), I 1, (pt 34 1), I 0, (g2 2 0), (.agg #[I 1, I 0, I 2, I 0]), (sl 36 0 1 1), (sl 37 0 3 3), (sl 37 0 3 3), U, (sl 37 0 3 3)]
noncomputable def w9_X33 : Heap := (H [rowW9_8, rowW9_1, (rvar [(.map (.some 9))] 185), (rvar [(sl 8 0 3 3)] 37), rowW9_0, rowW9_12, rowW9_12, (rvar [I 1, I 0] 34), (rvar [I 0, I 0] 187), rowW9_13, rowW9_13, (rvar [I 2, I 0] 34), (rvar [I 1, I 0] 187), rowW9_14, rowW9_14, (rvar [I 1, I 0] 34), (rvar [I 2, I 0] 187), (.some (.miter 9 3 [2, 0, 1] 3)), (rvar [I 2, I 0] 187), (rvar [I 1, I 0] 34), rowW9_11, .none, (rvar [I 0, I 0] 187), (rvar [I 1, I 0] 34), rowW9_9, .none, (rvar [I 1, I 0] 187), (rvar [I 2, I 0] 34), rowW9_10, rowW9_2])
theorem w9_t32 : aRun Tryz.prog env0 100000 9 [.code (seqAt 6 (bodyOf 106))] w9_L32 w9_X32 = some (w9_L33, w9_X33, none) := by kernel_rfl
noncomputable def w9_Y33 : Heap := [rowW9_1, (rvar [(.map (.some 9))] 185), (rvar [(sl 8 0 3 3)] 37), rowW9_0, rowW9_12, rowW9_12, (rvar [I 1, I 0] 34), (rvar [I 0, I 0] 187), rowW9_13, rowW9_13, (rvar [I 2, I 0] 34), (rvar [I 1, I 0] 187), rowW9_14, rowW9_14, (rvar [I 1, I 0] 34), (rvar [I 2, I 0] 187), (.some (.miter 9 3 [2, 0, 1] 3)), (rvar [I 2, I 0] 187), (rvar [I 1, I 0] 34), rowW9_11, .none, (rvar [I 0, I 0] 187), (rvar [I 1, I 0] 34), rowW9_9, .none, (rvar [I 1, I 0] 187), (rvar [I 2, I 0] 34), rowW9_10, rowW9_2]
theorem w9_n30 : EndsA Tryz.prog 8 Tryz.f106 w9_A w9_V (w9_A ++ w9_RC) [.code w9_B, .inLoop w9_B, .inBlock 2, .code (dropS 5 (bodyOf 106))] w9_L30 w9_X30 := by
  refine EndsA.mapRound w9_hB (EndsA.over (.tmp 28) (some 29) 25 9 3 3 3 [2, 0, 1] [((g2 0 0), (g2 1 0), 0), ((g2 1 0), (g2 2 0), 1), ((g2 2 0), (g2 1 0), 2)] (by kernel_rfl) (by kernel_rfl) (by kernel_rfl) (by kernel_rfl) (by kernel_rfl) (by decide) (by kernel_rfl) ?_)
  refine EndsA.run (k := [.ops w9_O 1, .code w9_R, .inLoop w9_B, .inBlock 2]) prog_ok env0_ok ⟨_, w9_o30⟩ ?_
  refine EndsA.drop prog_ok env0_ok (by kernel_rfl) ⟨_, w9_t31⟩ ?_
  refine EndsA.drop prog_ok env0_ok (by kernel_rfl) ⟨_, w9_t32⟩ ?_
  rw [show w9_X33 = w9_A ++ w9_Y33 from by kernel_rfl]
  exact EndsA.renum (ids := [37]) (m := [.no, .no, .ren, .no, .no, .no, .no, .no, .no, .no, .no, .no, .no, .no, .no, .no, .no, .no, .no, .no, .no, .no, .no, .no, .no, .no, .no, .no, .no, .no, .free, .no, .no, .no, .no, .no, .free, .no, .no, .no, .no, .no, .no, .no, .no, .no, .no, .no, .no]) (fs := [(.bool false), (.bool true)]) (by decide) (by decide) (by decide) (by kernel_rfl) (by simp [freeB, atomB]) (RowsBy.cons (i := 37) (by kernel_rfl) (RowBy.plain (by kernel_rfl)) RowsBy.nil) w9_end
theorem w9_n29 : EndsA Tryz.prog 8 Tryz.f106 w9_A w9_V (w9_A ++ w9_RC) [.code w9_B, .inLoop w9_B, .inBlock 2, .code (dropS 5 (bodyOf 106))] w9_L29 w9_X29 := by
  refine EndsA.mapRound w9_hB (EndsA.more (.tmp 28) (some 29) 25 9 3 3 3 [2, 0] [((g2 0 0), (g2 1 0), 0), ((g2 1 0), (g2 2 0), 1), ((g2 2 0), (g2 1 0), 2)] [((g2 1 0), (g2 2 0), 1)] (by kernel_rfl) (by kernel_rfl) (by kernel_rfl) (by kernel_rfl) (by kernel_rfl) (by decide) (by kernel_rfl) (by kernel_rfl) ?_)
  exact ⟨⟨by kernel_rfl, EndsA.run (k := [.ops w9_O 1, .code w9_R]) prog_ok env0_ok ⟨_, w9_e30⟩ (EndsA.again w9_n30)⟩, trivial⟩
noncomputable def w9_L34 : List Value := [(sl 8 0 3 3), U, sn, (pt 10 0), U, U, U, (sl 33 0 2 2), (pt 30 0), (pt 31 0), (.map (.some 9)), (sl 8 0 3 3), (.func (.func 149) #[] #[(pt 11 0)]), U, U, U, U, U, U, U, U, U, U, U, U, U, U, (.map (.some 9)), (pt 25 0), (.tuple #[(.bool true), (g2 1 0), (g2 2 0)]), (.bool true), (.tuple #[(g2 1 0), (g2 2 0)]), (g2 1 0), (g2 2 0), (g2 2 0), (g2 0 0), (.bool true), (sl 29 0 1 1), (pt 30 0), I 1, (pt 30 1), I 0, (g2 2 0), (.agg #[I 1, I 0, I 2, I 0]), (sl 32 0 1 1), (sl 33 0 2 2), U, U, U]
noncomputable def w9_X34 : Heap := (H [rowW9_8, rowW9_1, (rvar [(.map (.some 9))] 185), (rvar [(sl 8 0 3 3)] 37), rowW9_0, rowW9_12, rowW9_12, (rvar [I 1, I 0] 34), (rvar [I 0, I 0] 187), rowW9_13, rowW9_13, (rvar [I 2, I 0] 34), (rvar [I 1, I 0] 187), rowW9_14, rowW9_14, (rvar [I 1, I 0] 34), (rvar [I 2, I 0] 187), (.some (.miter 9 3 [2, 1] 3)), (rvar [I 2, I 0] 187), (rvar [I 1, I 0] 34), rowW9_11, .none, (rvar [I 1, I 0] 187), (rvar [I 2, I 0] 34), rowW9_10, (rrow [I 2, I 0, I 1, I 0, I 1, I 0, I 2, I 0] 125)])
theorem w9_e34 : aRun Tryz.prog env0 100000 9 [.ops w9_O 1, .code w9_R] (tput w9_L28 (some 29) (.tuple #[.bool true, (g2 1 0), (g2 2 0)])) (hset w9_X28 25 (some (.miter 9 3 [2, 1] 3))) = some (w9_L34, w9_X34, none) := by kernel_rfl
noncomputable def w9_L35 : List Value := [(sl 8 0 3 3), U, sn, (pt 10 0), U, U, U, (sl 37 0 3 3), (pt 34 0), (pt 35 0), (.map (.some 9)), (sl 8 0 3 3), (.func (.func 149) #[] #[(pt 11 0)]), U, U, U, U, U, U, U, U, U, U, U, U, U, U, (.map (.some 9)), (pt 25 0), (.tuple #[(.bool true), (g2 0 0), (g2 1 0)]), (.bool true), (.tuple #[(g2 0 0), (g2 1 0)]), (g2 0 0), (g2 1 0), (g2 1 0), (g2 0 0), (.bool true), (sl 33 0 2 2), (pt 34 0), I 0, (pt 34 1), I 0, (g2 1 0), (.agg #[I 0, I 0, I 1, I 0]), (sl 36 0 1 1), (sl 37 0 3 3), U, U, U]
noncomputable def w9_X35 : Heap := (H [rowW9_8, rowW9_1, (rvar [(.map (.some 9))] 185), (rvar [(sl 8 0 3 3)] 37), rowW9_0, rowW9_12, rowW9_12, (rvar [I 1, I 0] 34), (rvar [I 0, I 0] 187), rowW9_13, rowW9_13, (rvar [I 2, I 0] 34), (rvar [I 1, I 0] 187), rowW9_14, rowW9_14, (rvar [I 1, I 0] 34), (rvar [I 2, I 0] 187), (.some (.miter 9 3 [2, 1, 0] 3)), (rvar [I 2, I 0] 187), (rvar [I 1, I 0] 34), rowW9_11, .none, (rvar [I 1, I 0] 187), (rvar [I 2, I 0] 34), rowW9_10, .none, (rvar [I 0, I 0] 187), (rvar [I 1, I 0] 34), rowW9_9, rowW9_7])
theorem w9_e35 : aRun Tryz.prog env0 100000 9 [.ops w9_O 1, .code w9_R] (tput w9_L34 (some 29) (.tuple #[.bool true, (g2 0 0), (g2 1 0)])) (hset w9_X34 25 (some (.miter 9 3 [2, 1, 0] 3))) = some (w9_L35, w9_X35, none) := by kernel_rfl
noncomputable def w9_L36 : List Value := [(sl 8 0 3 3), U, sn, (pt 10 0), U, U, U, (sl 37 0 3 3), (pt 34 0), (pt 35 0), (.map (.some 9)), (sl 8 0 3 3), (.func (.func 149) #[] #[(pt 11 0)]), U, U, U, U, U, U, U, U, U, U, U, U, U, U, (.map (.some 9)), (pt 25 0), (.tuple #[(.bool false)]), (.bool false), (.tuple #[(g2 0 0), (g2 1 0)]), (g2 0 0), (g2 1 0), (g2 1 0), (g2 0 0), (.bool true), (sl 33 0 2 2), (pt 34 0), I 0, (pt 34 1), I 0, (g2 1 0), (.agg #[I 0, I 0, I 1, I 0]), (sl 36 0 1 1), (sl 37 0 3 3), U, U, U]
noncomputable def w9_X36 : Heap := (H [rowW9_8, rowW9_1, (rvar [(.map (.some 9))] 185), (rvar [(sl 8 0 3 3)] 37), rowW9_0, rowW9_12, rowW9_12, (rvar [I 1, I 0] 34), (rvar [I 0, I 0] 187), rowW9_13, rowW9_13, (rvar [I 2, I 0] 34), (rvar [I 1, I 0] 187), rowW9_14, rowW9_14, (rvar [I 1, I 0] 34), (rvar [I 2, I 0] 187), (.some (.miter 9 3 [2, 1, 0] 3)), (rvar [I 2, I 0] 187), (rvar [I 1, I 0] 34), rowW9_11, .none, (rvar [I 1, I 0] 187), (rvar [I 2, I 0] 34), rowW9_10, .none, (rvar [I 0, I 0] 187), (rvar [I 1, I 0] 34), rowW9_9, rowW9_7])
theorem w9_o35 : aRun Tryz.prog env0 100000 9 [.ops w9_O 1, .code w9_R, .inLoop w9_B, .inBlock 2] (tput w9_L35 (some 29) (.tuple #[.bool false])) w9_X35 = some (w9_L36, w9_X36, none) := by kernel_rfl
noncomputable def w9_L37 : List Value := [(sl 8 0 3 3), U, sn, (pt 10 0), U, U, U, (sl 37 0 3 3), (pt 34 0), (pt 35 0), (.map (.some 9)), (sl 8 0 3 3), (.func (.func 149) #[] #[(pt 11 0)]), U, U, U, U, U, U, U, U, U, U, U, U, U, U, (.map (.some 9)), (pt 25 0), (.tuple #[(.bool false)]), (.bool false), (.tuple #[(g2 0 0), (g2 1 0)]), (g2 0 0), (g2 1 0), (g2 1 0), (g2 0 0), (.bool true), (sl 33 0 2 2), (pt 34 0), I 0, (pt 34 1), I 0, (g2 1 0), (.agg #[I 0, I 0, I 1, I 0]), (sl 36 0 1 1), (sl 37 0 3 3), (sl 37 0 3 3), U, U]
noncomputable def w9_X37 : Heap := (H [rowW9_8, rowW9_1, (rvar [(.map (.some 9))] 185), (rvar [(sl 8 0 3 3)] 37), rowW9_0, rowW9_12, rowW9_12, (rvar [I 1, I 0] 34), (rvar [I 0, I 0] 187), rowW9_13, rowW9_13, (rvar [I 2, I 0] 34), (rvar [I 1, I 0] 187), rowW9_14, rowW9_14, (rvar [I 1, I 0] 34), (rvar [I 2, I 0] 187), (.some (.miter 9 3 [2, 1, 0] 3)), (rvar [I 2, I 0] 187), (rvar [I 1, I 0] 34), rowW9_11, .none, (rvar [I 1, I 0] 187), (rvar [I 2, I 0] 34), rowW9_10, .none, (rvar [I 0, I 0] 187), (rvar [I 1, I 0] 34), rowW9_9, rowW9_2])
theorem w9_t36 : aRun Tryz.prog env0 100000 9 [.code (seqAt 5 (bodyOf 106))] w9_L36 w9_X36 = some (w9_L37, w9_X37, none) := by kernel_rfl
noncomputable def w9_L38 : List Value := [(sl 8 0 3 3), U, (sl 37 0 3 3), (pt 10 0), U, U, U, (sl 37 0 3 3), (pt 34 0), (pt 35 0), (.map (.some 9)), (sl 8 0 3 3), (.func (.func 149) #[] #[(pt 11 0)]), U, U, U, U, U, U, U, U, U, U, U, U, U, U, (.map (.some 9)), (pt 25 0), (.tuple #[(.bool false)]), (.bool false), (.tuple #[(g2 0 0), (g2 1 0)]), (g2 0 0), (g2 1 0), (g2 1 0), (g2 0 0), (.bool true), (sl 33 0 2 2), (pt 34 0), I 0, (pt 34 1), I 0, (g2 1 0), (.agg #[I 0, I 0, I 1, I 0]), (sl 36 0 1 1), (sl 37 0 3 3), (sl 37 0 3 3), U, (sl 37 0 3 3)]
noncomputable def w9_X38 : Heap := (H [rowW9_8, rowW9_1, (rvar [(.map (.some 9))] 185), (rvar [(sl 8 0 3 3)] 37), rowW9_0, rowW9_12, rowW9_12, (rvar [I 1, I 0] 34), (rvar [I 0, I 0] 187), rowW9_13, rowW9_13, (rvar [I 2, I 0] 34), (rvar [I 1, I 0] 187), rowW9_14, rowW9_14, (rvar [I 1, I 0] 34), (rvar [I 2, I 0] 187), (.some (.miter 9 3 [2, 1, 0] 3)), (rvar [I 2, I 0] 187), (rvar [I 1, I 0] 34), rowW9_11, .none, (rvar [I 1, I 0] 187), (rvar [I 2, I 0] 34), rowW9_10, .none, (rvar [I 0, I 0] 187), (rvar [I 1, I 0] 34), rowW9_9, rowW9_2])
theorem w9_t37 : aRun Tryz.prog env0 100000 9 [.code (seqAt 6 (bodyOf 106))] w9_L37 w9_X37 = some (w9_L38, w9_X38, none) := by kernel_rfl
noncomputable def w9_Y38 : Heap := [rowW9_1, (rvar [(.map (.some 9))] 185), (rvar [(sl 8 0 3 3)] 37), rowW9_0, rowW9_12, rowW9_12, (rvar [I 1, I 0] 34), (rvar [I 0, I 0] 187), rowW9_13, rowW9_13, (rvar [I 2, I 0] 34), (rvar [I 1, I 0] 187), rowW9_14, rowW9_14, (rvar [I 1, I 0] 34), (rvar [I 2, I 0] 187), (.some (.miter 9 3 [2, 1, 0] 3)), (rvar [I 2, I 0] 187), (rvar [I 1, I 0] 34), rowW9_11, .none, (rvar [I 1, I 0] 187), (rvar [I 2, I 0] 34), rowW9_10, .none, (rvar [I 0, I 0] 187), (rvar [I 1, I 0] 34), rowW9_9, rowW9_2]
theorem w9_n35 : EndsA Tryz.prog 8 Tryz.f106 w9_A w9_V (w9_A ++ w9_RC) [.code w9_B, .inLoop w9_B, .inBlock 2, .code (dropS 5 (bodyOf 106))] w9_L35 w9_X35 := by
  refine EndsA.mapRound w9_hB (EndsA.over (.tmp 28) (some 29) 25 9 3 3 3 [2, 1, 0] [((g2 0 0), (g2 1 0), 0), ((g2 1 0), (g2 2 0), 1), ((g2 2 0), (g2 1 0), 2)] (by kernel_rfl) (by kernel_rfl) (by kernel_rfl) (by kernel_rfl) (by kernel_rfl) (by decide) (by kernel_rfl) ?_)
  refine EndsA.run (k := [.ops w9_O 1, .code w9_R, .inLoop w9_B, .inBlock 2]) prog_ok env0_ok ⟨_, w9_o35⟩ ?_
  refine EndsA.drop prog_ok env0_ok (by kernel_rfl) ⟨_, w9_t36⟩ ?_
  refine EndsA.drop prog_ok env0_ok (by kernel_rfl) ⟨_, w9_t37⟩ ?_
  rw [show w9_X38 = w9_A ++ w9_Y38 from by kernel_rfl]
  exact EndsA.renum (ids := [37]) (m := [.no, .no, .ren, .no, .no, .no, .no, .no, .no, .no, .no, .no, .no, .no, .no, .no, .no, .no, .no, .no, .no, .no, .no, .no, .no, .no, .no, .no, .no, .no, .free, .no, .no, .no, .no, .no, .free, .no, .no, .no, .no, .no, .no, .no, .no, .no, .no, .no, .no]) (fs := [(.bool false), (.bool true)]) (by decide) (by decide) (by decide) (by kernel_rfl) (by simp [freeB, atomB]) (RowsBy.cons (i := 37) (by kernel_rfl) (RowBy.plain (by kernel_rfl)) RowsBy.nil) w9_end
theorem w9_n34 : EndsA Tryz.prog 8 Tryz.f106 w9_A w9_V (w9_A ++ w9_RC) [.code w9_B, .inLoop w9_B, .inBlock 2, .code (dropS 5 (bodyOf 106))] w9_L34 w9_X34 := by
  refine EndsA.mapRound w9_hB (EndsA.more (.tmp 28) (some 29) 25 9 3 3 3 [2, 1] [((g2 0 0), (g2 1 0), 0), ((g2 1 0), (g2 2 0), 1), ((g2 2 0), (g2 1 0), 2)] [((g2 0 0), (g2 1 0), 0)] (by kernel_rfl) (by kernel_rfl) (by kernel_rfl) (by kernel_rfl) (by kernel_rfl) (by decide) (by kernel_rfl) (by kernel_rfl) ?_)
  exact ⟨⟨by kernel_rfl, EndsA.run (k := [.ops w9_O 1, .code w9_R]) prog_ok env0_ok ⟨_, w9_e35⟩ (EndsA.again w9_n35)⟩, trivial⟩
theorem w9_n28 : EndsA Tryz.prog 8 Tryz.f106 w9_A w9_V (w9_A ++ w9_RC) [.code w9_B, .inLoop w9_B, .inBlock 2, .code (dropS 5 (bodyOf 106))] w9_L28 w9_X28 := by
  refine EndsA.mapRound w9_hB (EndsA.more (.tmp 28) (some 29) 25 9 3 3 3 [2] [((g2 0 0), (g2 1 0), 0), ((g2 1 0), (g2 2 0), 1), ((g2 2 0), (g2 1 0), 2)] [((g2 0 0), (g2 1 0), 0), ((g2 1 0), (g2 2 0), 1)] (by kernel_rfl) (by kernel_rfl) (by kernel_rfl) (by kernel_rfl) (by kernel_rfl) (by decide) (by kernel_rfl) (by kernel_rfl) ?_)
  exact ⟨⟨by kernel_rfl, EndsA.run (k := [.ops w9_O 1, .code w9_R]) prog_ok env0_ok ⟨_, w9_e29⟩ (EndsA.again w9_n29)⟩, ⟨⟨by kernel_rfl, EndsA.run (k := [.ops w9_O 1, .code w9_R]) prog_ok env0_ok ⟨_, w9_e34⟩ (EndsA.again w9_n34)⟩, trivial⟩⟩
theorem w9_n5 : EndsA Tryz.prog 8 Tryz.f106 w9_A w9_V (w9_A ++ w9_RC) [.code w9_B, .inLoop w9_B, .inBlock 2, .code (dropS 5 (bodyOf 106))] w9_L5 w9_X5 := by
  refine EndsA.mapRound w9_hB (EndsA.more (.tmp 28) (some 29) 25 9 3 3 3 [] [((g2 0 0), (g2 1 0), 0), ((g2 1 0), (g2 2 0), 1), ((g2 2 0), (g2 1 0), 2)] [((g2 0 0), (g2 1 0), 0), ((g2 1 0), (g2 2 0), 1), ((g2 2 0), (g2 1 0), 2)] (by kernel_rfl) (by kernel_rfl) (by kernel_rfl) (by kernel_rfl) (by kernel_rfl) (by decide) (by kernel_rfl) (by kernel_rfl) ?_)
  exact ⟨⟨by kernel_rfl, EndsA.run (k := [.ops w9_O 1, .code w9_R]) prog_ok env0_ok ⟨_, w9_e6⟩ (EndsA.again w9_n6)⟩, ⟨⟨by kernel_rfl, EndsA.run (k := [.ops w9_O 1, .code w9_R]) prog_ok env0_ok ⟨_, w9_e17⟩ (EndsA.again w9_n17)⟩, ⟨⟨by kernel_rfl, EndsA.run (k := [.ops w9_O 1, .code w9_R]) prog_ok env0_ok ⟨_, w9_e28⟩ (EndsA.again w9_n28)⟩, trivial⟩⟩⟩
theorem w9_ends : EndsA Tryz.prog 8 Tryz.f106 w9_A w9_V (w9_A ++ w9_RC) [.code (dropS 0 (bodyOf 106))] w9_L0 w9_X0 := by
  refine EndsA.drop prog_ok env0_ok (by kernel_rfl) ⟨_, w9_t0⟩ ?_
  refine EndsA.drop prog_ok env0_ok (by kernel_rfl) ⟨_, w9_t1⟩ ?_
  refine EndsA.drop prog_ok env0_ok (by kernel_rfl) ⟨_, w9_t2⟩ ?_
  refine EndsA.drop prog_ok env0_ok (by kernel_rfl) ⟨_, w9_t3⟩ ?_
  refine EndsA.dropSeq (by kernel_rfl) ?_
  rw [w9_hS]
  exact EndsA.seq (EndsA.run (k := [.code (headS (seqAt 4 (bodyOf 106)))]) prog_ok env0_ok ⟨_, w9_t4⟩ (EndsA.blockLoop w9_hC w9_n5))
theorem w9_says : SaysAt Tryz.prog 8 106 [.slice (some ⟨8, 0, none⟩) 3 3] w9_A w9_V (w9_A ++ w9_RC) :=
  EndsA.says prog_ok Tryz.func106 (c := bodyOf 106) (by kernel_rfl) (by decide) (EndsA.cast (by kernel_rfl) (by kernel_rfl) (by kernel_rfl) w9_ends) (by simp) (fun i hi => by rw [hget_append, if_pos hi]) (by kernel_rfl)
end Go.Proofs.YtpdiaiccnaoaiaaGreatDoor
/-
The weights of the lists of the document's examples are known from here on.
-/
namespace Go.Proofs.YtpdiaiccnaoaiaaGreatDoor
open Go Go.Abs
def w0_args : List Value := [.slice (some ⟨8, 0, none⟩) 2 2]
def w0_rows : Heap := [some (.cells [.int .i64 0, .int .i64 0, .int .i64 1, .int .i64 0, .int .i64 1, .int .i64 0, .int .i64 1, .int .i64 0] 32 .row)]
def w1_args : List Value := [.slice (some ⟨8, 0, none⟩) 2 2]
def w1_rows : Heap := [some (.cells [.int .i64 0, .int .i64 0, .int .i64 1, .int .i64 0, .int .i64 0, .int .i64 1, .int .i64 1, .int .i64 0] 32 .row)]
def w2_args : List Value := [.slice (some ⟨8, 0, none⟩) 2 2]
def w2_rows : Heap := [some (.cells [.int .i64 0, .int .i64 0, .int .i64 1, .int .i64 0, .int .i64 (-1), .int .i64 0, .int .i64 1, .int .i64 0] 32 .row)]
def w3_args : List Value := [.slice (some ⟨8, 0, none⟩) 2 2]
def w3_rows : Heap := [some (.cells [.int .i64 0, .int .i64 0, .int .i64 1, .int .i64 0, .int .i64 0, .int .i64 (-1), .int .i64 1, .int .i64 0] 32 .row)]
def w4_args : List Value := [.slice (some ⟨8, 0, none⟩) 2 2]
def w4_rows : Heap := [some (.cells [.int .i64 1, .int .i64 0, .int .i64 1, .int .i64 0, .int .i64 (-1), .int .i64 0, .int .i64 1, .int .i64 0] 32 .row)]
def w5_args : List Value := [.slice (some ⟨8, 0, none⟩) 2 2]
def w5_rows : Heap := [some (.cells [.int .i64 0, .int .i64 1, .int .i64 1, .int .i64 0, .int .i64 0, .int .i64 (-1), .int .i64 1, .int .i64 0] 32 .row)]
def w6_args : List Value := [.slice (some ⟨8, 0, none⟩) 2 2]
def w6_rows : Heap := [some (.cells [.int .i64 (-1), .int .i64 0, .int .i64 1, .int .i64 0, .int .i64 1, .int .i64 0, .int .i64 1, .int .i64 0] 32 .row)]
def w7_args : List Value := [.slice (some ⟨8, 0, none⟩) 2 2]
def w7_rows : Heap := [some (.cells [.int .i64 0, .int .i64 (-1), .int .i64 1, .int .i64 0, .int .i64 0, .int .i64 1, .int .i64 1, .int .i64 0] 32 .row)]
def w8_args : List Value := [.slice (some ⟨8, 0, none⟩) 4 4]
def w8_rows : Heap := [some (.cells [.int .i64 0, .int .i64 0, .int .i64 1, .int .i64 0, .int .i64 1, .int .i64 0, .int .i64 1, .int .i64 0, .int .i64 1, .int .i64 0, .int .i64 1, .int .i64 0, .int .i64 2, .int .i64 0, .int .i64 1, .int .i64 0] 32 .row)]
def w9_args : List Value := [.slice (some ⟨8, 0, none⟩) 3 3]
def w9_rows : Heap := [some (.cells [.int .i64 0, .int .i64 0, .int .i64 1, .int .i64 0, .int .i64 1, .int .i64 0, .int .i64 2, .int .i64 0, .int .i64 2, .int .i64 0, .int .i64 1, .int .i64 0] 32 .row)]
noncomputable def BW : RowsB := fun f args R =>
  if f == 106 then
    if litsB args w0_args && heapB R w0_rows then some (heap0, w0_V, w0_RC) else
    if litsB args w1_args && heapB R w1_rows then some (heap0, w1_V, w1_RC) else
    if litsB args w2_args && heapB R w2_rows then some (heap0, w2_V, w2_RC) else
    if litsB args w3_args && heapB R w3_rows then some (heap0, w3_V, w3_RC) else
    if litsB args w4_args && heapB R w4_rows then some (heap0, w4_V, w4_RC) else
    if litsB args w5_args && heapB R w5_rows then some (heap0, w5_V, w5_RC) else
    if litsB args w6_args && heapB R w6_rows then some (heap0, w6_V, w6_RC) else
    if litsB args w7_args && heapB R w7_rows then some (heap0, w7_V, w7_RC) else
    if litsB args w8_args && heapB R w8_rows then some (heap0, w8_V, w8_RC) else
    if litsB args w9_args && heapB R w9_rows then some (heap0, w9_V, w9_RC) else
    none
  else none
noncomputable def KW : Nat → FuncId → List Value → Heap → Option (Value × Heap) := fun lim f args A => if f == 106 then rowsKnown 8 BW lim f args A else none
noncomputable def envW : Env := env0.with KW
theorem BW_ok {f : FuncId} {args : List Value} {R T : Heap} {v0 : Value} {R1 : Heap} (h : BW f args R = some (T, v0, R1)) : T.length = 8 ∧ T.all tableRow = true ∧ SaysAt Tryz.prog 8 f args (T ++ R) v0 (T ++ R ++ R1) := by
  unfold BW at h
  split at h
  · rename_i hf
    have hf : f = 106 := by simpa using hf
    subst hf
    split at h
    · rename_i hc
      simp only [Bool.and_eq_true] at hc
      obtain rfl := litsB_eq hc.1
      obtain rfl := heapB_eq hc.2
      cases h
      exact ⟨rfl, by decide, w0_says⟩
    split at h
    · rename_i hc
      simp only [Bool.and_eq_true] at hc
      obtain rfl := litsB_eq hc.1
      obtain rfl := heapB_eq hc.2
      cases h
      exact ⟨rfl, by decide, w1_says⟩
    split at h
    · rename_i hc
      simp only [Bool.and_eq_true] at hc
      obtain rfl := litsB_eq hc.1
      obtain rfl := heapB_eq hc.2
      cases h
      exact ⟨rfl, by decide, w2_says⟩
    split at h
    · rename_i hc
      simp only [Bool.and_eq_true] at hc
      obtain rfl := litsB_eq hc.1
      obtain rfl := heapB_eq hc.2
      cases h
      exact ⟨rfl, by decide, w3_says⟩
    split at h
    · rename_i hc
      simp only [Bool.and_eq_true] at hc
      obtain rfl := litsB_eq hc.1
      obtain rfl := heapB_eq hc.2
      cases h
      exact ⟨rfl, by decide, w4_says⟩
    split at h
    · rename_i hc
      simp only [Bool.and_eq_true] at hc
      obtain rfl := litsB_eq hc.1
      obtain rfl := heapB_eq hc.2
      cases h
      exact ⟨rfl, by decide, w5_says⟩
    split at h
    · rename_i hc
      simp only [Bool.and_eq_true] at hc
      obtain rfl := litsB_eq hc.1
      obtain rfl := heapB_eq hc.2
      cases h
      exact ⟨rfl, by decide, w6_says⟩
    split at h
    · rename_i hc
      simp only [Bool.and_eq_true] at hc
      obtain rfl := litsB_eq hc.1
      obtain rfl := heapB_eq hc.2
      cases h
      exact ⟨rfl, by decide, w7_says⟩
    split at h
    · rename_i hc
      simp only [Bool.and_eq_true] at hc
      obtain rfl := litsB_eq hc.1
      obtain rfl := heapB_eq hc.2
      cases h
      exact ⟨rfl, by decide, w8_says⟩
    split at h
    · rename_i hc
      simp only [Bool.and_eq_true] at hc
      obtain rfl := litsB_eq hc.1
      obtain rfl := heapB_eq hc.2
      cases h
      exact ⟨rfl, by decide, w9_says⟩
    cases h
  · cases h
theorem envW_ok : EnvOK Tryz.prog 8 envW := by
  refine env_says env0_ok fun lim f args A v A' h => ?_
  unfold KW at h
  split at h
  · refine rows_at (B := BW) ?_ lim f args A v A' h
    intro f args R T v0 R1 h
    exact BW_ok h
  · cases h
theorem heapN_ok {E : Env} {f : FuncId} {args : List Value} {v : Value} (h : Gives Tryz.prog E 0 f args heapN (v, heapN)) : 8 ≤ heapN.length ∧ heapN.all tableRow = true ∧ Gives Tryz.prog E 0 f args heapN (v, heapN) := ⟨by decide, by decide, h⟩
theorem heap0_ok {E : Env} {f : FuncId} {args : List Value} {v : Value} (h : Gives Tryz.prog E 0 f args heap0 (v, heap0)) : 8 ≤ heap0.length ∧ heap0.all tableRow = true ∧ Gives Tryz.prog E 0 f args heap0 (v, heap0) := ⟨by decide, by decide, h⟩
end Go.Proofs.YtpdiaiccnaoaiaaGreatDoor
/-
What functions give.
-/
namespace Go.Proofs.YtpdiaiccnaoaiaaGreatDoor
open Go Go.Abs
theorem lim_p0 (x : Int) (m : Int) : Gives Tryz.prog envW 0 124 [(.int .i64 (x)), (.int .i64 (m))] heapN ((.int .i64 (if m < if IntKind.i64.wrap (0 - m) > x then IntKind.i64.wrap (0 - m) else x then m else if IntKind.i64.wrap (0 - m) > x then IntKind.i64.wrap (0 - m) else x)), heapN) :=
  Gives.by (n := 1000) (os := []) (os' := []) (by kernel_rfl) (ObsOK.nil)
def lim_r0 (x : Int) (m : Int) : Int := (if m < if IntKind.i64.wrap (0 - m) > x then IntKind.i64.wrap (0 - m) else x then m else if IntKind.i64.wrap (0 - m) > x then IntKind.i64.wrap (0 - m) else x)
theorem lim_gives (x : Int) (m : Int) : Gives Tryz.prog envW 0 124 [(.int .i64 (x)), (.int .i64 (m))] heapN ((.int .i64 (lim_r0 x m)), heapN) := by
  simp only [lim_r0, cond_true, cond_false]; exact lim_p0 x m
def cr_c0 (n : Int) (a : Int) (b : Int) : Bool := decide (n < a)
def cr_c1 (n : Int) (a : Int) (b : Int) : Bool := decide (n > b)
theorem cr_p0 (n : Int) (a : Int) (b : Int) (h0 : cr_c0 n a b = true) : Gives Tryz.prog envW 0 89 [(.int .i64 (n)), (.int .i64 (a)), (.int .i64 (b))] heapN ((.int .i64 (3)), heapN) :=
  Gives.by (n := 1000) (os := [.br 89 22 true, .br 89 22 true, .br 89 22 true, .br 89 31 true]) (os' := []) (by kernel_rfl) (ObsOK.cond h0 (ObsOK.cond h0 (ObsOK.cond h0 (ObsOK.cond h0 (ObsOK.nil)))))
theorem cr_p1 (n : Int) (a : Int) (b : Int) (h0 : cr_c0 n a b = false) (h1 : cr_c1 n a b = true) : Gives Tryz.prog envW 0 89 [(.int .i64 (n)), (.int .i64 (a)), (.int .i64 (b))] heapN ((.int .i64 (3)), heapN) :=
  Gives.by (n := 1000) (os := [.br 89 22 false, .br 89 22 false, .br 89 22 false, .br 89 31 false, .br 89 30 true]) (os' := []) (by kernel_rfl) (ObsOK.cond h0 (ObsOK.cond h0 (ObsOK.cond h0 (ObsOK.cond h0 (ObsOK.cond h1 (ObsOK.nil))))))
theorem cr_p2 (n : Int) (a : Int) (b : Int) (h0 : cr_c0 n a b = false) (h1 : cr_c1 n a b = false) : Gives Tryz.prog envW 0 89 [(.int .i64 (n)), (.int .i64 (a)), (.int .i64 (b))] heapN ((.int .i64 (0)), heapN) :=
  Gives.by (n := 1000) (os := [.br 89 22 false, .br 89 22 false, .br 89 22 false, .br 89 31 false, .br 89 30 false]) (os' := []) (by kernel_rfl) (ObsOK.cond h0 (ObsOK.cond h0 (ObsOK.cond h0 (ObsOK.cond h0 (ObsOK.cond h1 (ObsOK.nil))))))
def cr_r0 (n : Int) (a : Int) (b : Int) : Int := (cond (cr_c0 n a b) (3) (cond (cr_c1 n a b) (3) (0)))
theorem cr_gives (n : Int) (a : Int) (b : Int) : Gives Tryz.prog envW 0 89 [(.int .i64 (n)), (.int .i64 (a)), (.int .i64 (b))] heapN ((.int .i64 (cr_r0 n a b)), heapN) := by
  cases g0 : cr_c0 n a b
  · skip
    cases g1 : cr_c1 n a b
    · skip
      simp only [cr_r0, g0, g1, cond_true, cond_false]; exact cr_p2 n a b g0 g1
    · skip
      simp only [cr_r0, g0, g1, cond_true, cond_false]; exact cr_p1 n a b g0 g1
  · skip
    simp only [cr_r0, g0, cond_true, cond_false]; exact cr_p0 n a b g0
theorem mo_p0 (n : Int) : Gives Tryz.prog envW 0 105 [(.int .i64 (n))] heapN ((.int .i64 ((IntKind.i64.wrap (n.tmod 4 + 4)).tmod 4)), heapN) :=
  Gives.by (n := 1000) (os := []) (os' := []) (by kernel_rfl) (ObsOK.nil)
def mo_r0 (n : Int) : Int := ((IntKind.i64.wrap (n.tmod 4 + 4)).tmod 4)
theorem mo_gives (n : Int) : Gives Tryz.prog envW 0 105 [(.int .i64 (n))] heapN ((.int .i64 (mo_r0 n)), heapN) := by
  simp only [mo_r0, cond_true, cond_false]; exact mo_p0 n
theorem pl_p0 (a : Int) (b : Int) (c : Int) (d : Int) : Gives Tryz.prog envW 0 126 [(.agg #[(.int .i64 (a)), (.int .i64 (b))]), (.agg #[(.int .i64 (c)), (.int .i64 (d))])] heapN ((.agg #[(.int .i64 (IntKind.i64.wrap (a + c))), (.int .i64 (IntKind.i64.wrap (b + d)))]), heapN) :=
  Gives.by (n := 1000) (os := []) (os' := []) (by kernel_rfl) (ObsOK.nil)
def pl_r0 (a : Int) (b : Int) (c : Int) (d : Int) : Int := (IntKind.i64.wrap (a + c))
def pl_r1 (a : Int) (b : Int) (c : Int) (d : Int) : Int := (IntKind.i64.wrap (b + d))
theorem pl_gives (a : Int) (b : Int) (c : Int) (d : Int) : Gives Tryz.prog envW 0 126 [(.agg #[(.int .i64 (a)), (.int .i64 (b))]), (.agg #[(.int .i64 (c)), (.int .i64 (d))])] heapN ((.agg #[(.int .i64 (pl_r0 a b c d)), (.int .i64 (pl_r1 a b c d))]), heapN) := by
  simp only [pl_r0, pl_r1, cond_true, cond_false]; exact pl_p0 a b c d
theorem sq_p0 (a : Int) (b : Int) : Gives Tryz.prog envW 0 88 [(.agg #[(.int .i64 (a)), (.int .i64 (b))])] heapN ((.int .i64 (IntKind.i64.wrap (IntKind.i64.wrap (a * a) + IntKind.i64.wrap (b * b)))), heapN) :=
  Gives.by (n := 1000) (os := []) (os' := []) (by kernel_rfl) (ObsOK.nil)
def sq_r0 (a : Int) (b : Int) : Int := (IntKind.i64.wrap (IntKind.i64.wrap (a * a) + IntKind.i64.wrap (b * b)))
theorem sq_gives (a : Int) (b : Int) : Gives Tryz.prog envW 0 88 [(.agg #[(.int .i64 (a)), (.int .i64 (b))])] heapN ((.int .i64 (sq_r0 a b)), heapN) := by
  simp only [sq_r0, cond_true, cond_false]; exact sq_p0 a b
theorem rsq_p0 (a : Int) (b : Int) : Gives Tryz.prog envW 0 31 [(.agg #[(.int .i64 (a)), (.int .i64 (b))])] heapN ((.int .i64 (IntKind.i64.wrap (IntKind.i64.wrap (a * a) + IntKind.i64.wrap (b * b)))), heapN) :=
  Gives.by (n := 1000) (os := []) (os' := []) (by kernel_rfl) (ObsOK.nil)
def rsq_r0 (a : Int) (b : Int) : Int := (IntKind.i64.wrap (IntKind.i64.wrap (a * a) + IntKind.i64.wrap (b * b)))
theorem rsq_gives (a : Int) (b : Int) : Gives Tryz.prog envW 0 31 [(.agg #[(.int .i64 (a)), (.int .i64 (b))])] heapN ((.int .i64 (rsq_r0 a b)), heapN) := by
  simp only [rsq_r0, cond_true, cond_false]; exact rsq_p0 a b
theorem rpl_p0 (a : Int) (b : Int) (c : Int) (d : Int) : Gives Tryz.prog envW 0 80 [(.agg #[(.int .i64 (a)), (.int .i64 (b))]), (.agg #[(.int .i64 (c)), (.int .i64 (d))])] heapN ((.agg #[(.int .i64 (IntKind.i64.wrap (a + c))), (.int .i64 (IntKind.i64.wrap (b + d)))]), heapN) :=
  Gives.by (n := 1000) (os := []) (os' := []) (by kernel_rfl) (ObsOK.nil)
def rpl_r0 (a : Int) (b : Int) (c : Int) (d : Int) : Int := (IntKind.i64.wrap (a + c))
def rpl_r1 (a : Int) (b : Int) (c : Int) (d : Int) : Int := (IntKind.i64.wrap (b + d))
theorem rpl_gives (a : Int) (b : Int) (c : Int) (d : Int) : Gives Tryz.prog envW 0 80 [(.agg #[(.int .i64 (a)), (.int .i64 (b))]), (.agg #[(.int .i64 (c)), (.int .i64 (d))])] heapN ((.agg #[(.int .i64 (rpl_r0 a b c d)), (.int .i64 (rpl_r1 a b c d))]), heapN) := by
  simp only [rpl_r0, rpl_r1, cond_true, cond_false]; exact rpl_p0 a b c d
theorem rti_p0 (a : Int) (b : Int) (c : Int) (d : Int) : Gives Tryz.prog envW 0 79 [(.agg #[(.int .i64 (a)), (.int .i64 (b))]), (.agg #[(.int .i64 (c)), (.int .i64 (d))])] heapN ((.agg #[(.int .i64 (IntKind.i64.wrap (IntKind.i64.wrap (a * c) - IntKind.i64.wrap (b * d)))), (.int .i64 (IntKind.i64.wrap (IntKind.i64.wrap (a * d) + IntKind.i64.wrap (b * c))))]), heapN) :=
  Gives.by (n := 1000) (os := []) (os' := []) (by kernel_rfl) (ObsOK.nil)
def rti_r0 (a : Int) (b : Int) (c : Int) (d : Int) : Int := (IntKind.i64.wrap (IntKind.i64.wrap (a * c) - IntKind.i64.wrap (b * d)))
def rti_r1 (a : Int) (b : Int) (c : Int) (d : Int) : Int := (IntKind.i64.wrap (IntKind.i64.wrap (a * d) + IntKind.i64.wrap (b * c)))
theorem rti_gives (a : Int) (b : Int) (c : Int) (d : Int) : Gives Tryz.prog envW 0 79 [(.agg #[(.int .i64 (a)), (.int .i64 (b))]), (.agg #[(.int .i64 (c)), (.int .i64 (d))])] heapN ((.agg #[(.int .i64 (rti_r0 a b c d)), (.int .i64 (rti_r1 a b c d))]), heapN) := by
  simp only [rti_r0, rti_r1, cond_true, cond_false]; exact rti_p0 a b c d
theorem t0_p0 (x : Int) (y : Int) : Gives Tryz.prog envW 0 127 [(.agg #[(.int .i64 (x)), (.int .i64 (y))]), (.int .i64 (0))] heap0 ((.agg #[(.int .i64 (IntKind.i64.wrap (IntKind.i64.wrap (x * 1) - IntKind.i64.wrap (y * 0)))), (.int .i64 (IntKind.i64.wrap (IntKind.i64.wrap (x * 0) + IntKind.i64.wrap (y * 1))))]), heap0) :=
  Gives.by (n := 1000) (os := []) (os' := []) (by kernel_rfl) (ObsOK.nil)
def t0_r0 (x : Int) (y : Int) : Int := (IntKind.i64.wrap (IntKind.i64.wrap (x * 1) - IntKind.i64.wrap (y * 0)))
def t0_r1 (x : Int) (y : Int) : Int := (IntKind.i64.wrap (IntKind.i64.wrap (x * 0) + IntKind.i64.wrap (y * 1)))
theorem t0_gives (x : Int) (y : Int) : Gives Tryz.prog envW 0 127 [(.agg #[(.int .i64 (x)), (.int .i64 (y))]), (.int .i64 (0))] heap0 ((.agg #[(.int .i64 (t0_r0 x y)), (.int .i64 (t0_r1 x y))]), heap0) := by
  simp only [t0_r0, t0_r1, cond_true, cond_false]; exact t0_p0 x y
theorem t1_p0 (x : Int) (y : Int) : Gives Tryz.prog envW 0 127 [(.agg #[(.int .i64 (x)), (.int .i64 (y))]), (.int .i64 (1))] heap0 ((.agg #[(.int .i64 (IntKind.i64.wrap (IntKind.i64.wrap (x * 0) - IntKind.i64.wrap (y * 1)))), (.int .i64 (IntKind.i64.wrap (IntKind.i64.wrap (x * 1) + IntKind.i64.wrap (y * 0))))]), heap0) :=
  Gives.by (n := 1000) (os := []) (os' := []) (by kernel_rfl) (ObsOK.nil)
def t1_r0 (x : Int) (y : Int) : Int := (IntKind.i64.wrap (IntKind.i64.wrap (x * 0) - IntKind.i64.wrap (y * 1)))
def t1_r1 (x : Int) (y : Int) : Int := (IntKind.i64.wrap (IntKind.i64.wrap (x * 1) + IntKind.i64.wrap (y * 0)))
theorem t1_gives (x : Int) (y : Int) : Gives Tryz.prog envW 0 127 [(.agg #[(.int .i64 (x)), (.int .i64 (y))]), (.int .i64 (1))] heap0 ((.agg #[(.int .i64 (t1_r0 x y)), (.int .i64 (t1_r1 x y))]), heap0) := by
  simp only [t1_r0, t1_r1, cond_true, cond_false]; exact t1_p0 x y
theorem t2_p0 (x : Int) (y : Int) : Gives Tryz.prog envW 0 127 [(.agg #[(.int .i64 (x)), (.int .i64 (y))]), (.int .i64 (2))] heap0 ((.agg #[(.int .i64 (IntKind.i64.wrap (IntKind.i64.wrap (x * -1) - IntKind.i64.wrap (y * 0)))), (.int .i64 (IntKind.i64.wrap (IntKind.i64.wrap (x * 0) + IntKind.i64.wrap (y * -1))))]), heap0) :=
  Gives.by (n := 1000) (os := []) (os' := []) (by kernel_rfl) (ObsOK.nil)
def t2_r0 (x : Int) (y : Int) : Int := (IntKind.i64.wrap (IntKind.i64.wrap (x * -1) - IntKind.i64.wrap (y * 0)))
def t2_r1 (x : Int) (y : Int) : Int := (IntKind.i64.wrap (IntKind.i64.wrap (x * 0) + IntKind.i64.wrap (y * -1)))
theorem t2_gives (x : Int) (y : Int) : Gives Tryz.prog envW 0 127 [(.agg #[(.int .i64 (x)), (.int .i64 (y))]), (.int .i64 (2))] heap0 ((.agg #[(.int .i64 (t2_r0 x y)), (.int .i64 (t2_r1 x y))]), heap0) := by
  simp only [t2_r0, t2_r1, cond_true, cond_false]; exact t2_p0 x y
theorem t3_p0 (x : Int) (y : Int) : Gives Tryz.prog envW 0 127 [(.agg #[(.int .i64 (x)), (.int .i64 (y))]), (.int .i64 (3))] heap0 ((.agg #[(.int .i64 (IntKind.i64.wrap (IntKind.i64.wrap (x * 0) - IntKind.i64.wrap (y * -1)))), (.int .i64 (IntKind.i64.wrap (IntKind.i64.wrap (x * -1) + IntKind.i64.wrap (y * 0))))]), heap0) :=
  Gives.by (n := 1000) (os := []) (os' := []) (by kernel_rfl) (ObsOK.nil)
def t3_r0 (x : Int) (y : Int) : Int := (IntKind.i64.wrap (IntKind.i64.wrap (x * 0) - IntKind.i64.wrap (y * -1)))
def t3_r1 (x : Int) (y : Int) : Int := (IntKind.i64.wrap (IntKind.i64.wrap (x * -1) + IntKind.i64.wrap (y * 0)))
theorem t3_gives (x : Int) (y : Int) : Gives Tryz.prog envW 0 127 [(.agg #[(.int .i64 (x)), (.int .i64 (y))]), (.int .i64 (3))] heap0 ((.agg #[(.int .i64 (t3_r0 x y)), (.int .i64 (t3_r1 x y))]), heap0) := by
  simp only [t3_r0, t3_r1, cond_true, cond_false]; exact t3_p0 x y
theorem t4_p0 (x : Int) (y : Int) : Gives Tryz.prog envW 0 127 [(.agg #[(.int .i64 (x)), (.int .i64 (y))]), (.int .i64 (4))] heap0 ((.agg #[(.int .i64 (IntKind.i64.wrap (IntKind.i64.wrap (x * 1) - IntKind.i64.wrap (y * 0)))), (.int .i64 (IntKind.i64.wrap (IntKind.i64.wrap (x * 0) + IntKind.i64.wrap (y * 1))))]), heap0) :=
  Gives.by (n := 1000) (os := []) (os' := []) (by kernel_rfl) (ObsOK.nil)
def t4_r0 (x : Int) (y : Int) : Int := (IntKind.i64.wrap (IntKind.i64.wrap (x * 1) - IntKind.i64.wrap (y * 0)))
def t4_r1 (x : Int) (y : Int) : Int := (IntKind.i64.wrap (IntKind.i64.wrap (x * 0) + IntKind.i64.wrap (y * 1)))
theorem t4_gives (x : Int) (y : Int) : Gives Tryz.prog envW 0 127 [(.agg #[(.int .i64 (x)), (.int .i64 (y))]), (.int .i64 (4))] heap0 ((.agg #[(.int .i64 (t4_r0 x y)), (.int .i64 (t4_r1 x y))]), heap0) := by
  simp only [t4_r0, t4_r1, cond_true, cond_false]; exact t4_p0 x y
theorem t6_p0 (x : Int) (y : Int) : Gives Tryz.prog envW 0 127 [(.agg #[(.int .i64 (x)), (.int .i64 (y))]), (.int .i64 (6))] heap0 ((.agg #[(.int .i64 (IntKind.i64.wrap (IntKind.i64.wrap (x * -1) - IntKind.i64.wrap (y * 0)))), (.int .i64 (IntKind.i64.wrap (IntKind.i64.wrap (x * 0) + IntKind.i64.wrap (y * -1))))]), heap0) :=
  Gives.by (n := 1000) (os := []) (os' := []) (by kernel_rfl) (ObsOK.nil)
def t6_r0 (x : Int) (y : Int) : Int := (IntKind.i64.wrap (IntKind.i64.wrap (x * -1) - IntKind.i64.wrap (y * 0)))
def t6_r1 (x : Int) (y : Int) : Int := (IntKind.i64.wrap (IntKind.i64.wrap (x * 0) + IntKind.i64.wrap (y * -1)))
theorem t6_gives (x : Int) (y : Int) : Gives Tryz.prog envW 0 127 [(.agg #[(.int .i64 (x)), (.int .i64 (y))]), (.int .i64 (6))] heap0 ((.agg #[(.int .i64 (t6_r0 x y)), (.int .i64 (t6_r1 x y))]), heap0) := by
  simp only [t6_r0, t6_r1, cond_true, cond_false]; exact t6_p0 x y
theorem t9_p0 (x : Int) (y : Int) : Gives Tryz.prog envW 0 127 [(.agg #[(.int .i64 (x)), (.int .i64 (y))]), (.int .i64 (9))] heap0 ((.agg #[(.int .i64 (IntKind.i64.wrap (IntKind.i64.wrap (x * 0) - IntKind.i64.wrap (y * 1)))), (.int .i64 (IntKind.i64.wrap (IntKind.i64.wrap (x * 1) + IntKind.i64.wrap (y * 0))))]), heap0) :=
  Gives.by (n := 1000) (os := []) (os' := []) (by kernel_rfl) (ObsOK.nil)
def t9_r0 (x : Int) (y : Int) : Int := (IntKind.i64.wrap (IntKind.i64.wrap (x * 0) - IntKind.i64.wrap (y * 1)))
def t9_r1 (x : Int) (y : Int) : Int := (IntKind.i64.wrap (IntKind.i64.wrap (x * 1) + IntKind.i64.wrap (y * 0)))
theorem t9_gives (x : Int) (y : Int) : Gives Tryz.prog envW 0 127 [(.agg #[(.int .i64 (x)), (.int .i64 (y))]), (.int .i64 (9))] heap0 ((.agg #[(.int .i64 (t9_r0 x y)), (.int .i64 (t9_r1 x y))]), heap0) := by
  simp only [t9_r0, t9_r1, cond_true, cond_false]; exact t9_p0 x y
theorem tm1_p0 (x : Int) (y : Int) : Gives Tryz.prog envW 0 127 [(.agg #[(.int .i64 (x)), (.int .i64 (y))]), (.int .i64 (-1))] heap0 ((.agg #[(.int .i64 (IntKind.i64.wrap (IntKind.i64.wrap (x * 0) - IntKind.i64.wrap (y * -1)))), (.int .i64 (IntKind.i64.wrap (IntKind.i64.wrap (x * -1) + IntKind.i64.wrap (y * 0))))]), heap0) :=
  Gives.by (n := 1000) (os := []) (os' := []) (by kernel_rfl) (ObsOK.nil)
def tm1_r0 (x : Int) (y : Int) : Int := (IntKind.i64.wrap (IntKind.i64.wrap (x * 0) - IntKind.i64.wrap (y * -1)))
def tm1_r1 (x : Int) (y : Int) : Int := (IntKind.i64.wrap (IntKind.i64.wrap (x * -1) + IntKind.i64.wrap (y * 0)))
theorem tm1_gives (x : Int) (y : Int) : Gives Tryz.prog envW 0 127 [(.agg #[(.int .i64 (x)), (.int .i64 (y))]), (.int .i64 (-1))] heap0 ((.agg #[(.int .i64 (tm1_r0 x y)), (.int .i64 (tm1_r1 x y))]), heap0) := by
  simp only [tm1_r0, tm1_r1, cond_true, cond_false]; exact tm1_p0 x y
theorem tm2_p0 (x : Int) (y : Int) : Gives Tryz.prog envW 0 127 [(.agg #[(.int .i64 (x)), (.int .i64 (y))]), (.int .i64 (-2))] heap0 ((.agg #[(.int .i64 (IntKind.i64.wrap (IntKind.i64.wrap (x * -1) - IntKind.i64.wrap (y * 0)))), (.int .i64 (IntKind.i64.wrap (IntKind.i64.wrap (x * 0) + IntKind.i64.wrap (y * -1))))]), heap0) :=
  Gives.by (n := 1000) (os := []) (os' := []) (by kernel_rfl) (ObsOK.nil)
def tm2_r0 (x : Int) (y : Int) : Int := (IntKind.i64.wrap (IntKind.i64.wrap (x * -1) - IntKind.i64.wrap (y * 0)))
def tm2_r1 (x : Int) (y : Int) : Int := (IntKind.i64.wrap (IntKind.i64.wrap (x * 0) + IntKind.i64.wrap (y * -1)))
theorem tm2_gives (x : Int) (y : Int) : Gives Tryz.prog envW 0 127 [(.agg #[(.int .i64 (x)), (.int .i64 (y))]), (.int .i64 (-2))] heap0 ((.agg #[(.int .i64 (tm2_r0 x y)), (.int .i64 (tm2_r1 x y))]), heap0) := by
  simp only [tm2_r0, tm2_r1, cond_true, cond_false]; exact tm2_p0 x y
theorem tm3_p0 (x : Int) (y : Int) : Gives Tryz.prog envW 0 127 [(.agg #[(.int .i64 (x)), (.int .i64 (y))]), (.int .i64 (-3))] heap0 ((.agg #[(.int .i64 (IntKind.i64.wrap (IntKind.i64.wrap (x * 0) - IntKind.i64.wrap (y * 1)))), (.int .i64 (IntKind.i64.wrap (IntKind.i64.wrap (x * 1) + IntKind.i64.wrap (y * 0))))]), heap0) :=
  Gives.by (n := 1000) (os := []) (os' := []) (by kernel_rfl) (ObsOK.nil)
def tm3_r0 (x : Int) (y : Int) : Int := (IntKind.i64.wrap (IntKind.i64.wrap (x * 0) - IntKind.i64.wrap (y * 1)))
def tm3_r1 (x : Int) (y : Int) : Int := (IntKind.i64.wrap (IntKind.i64.wrap (x * 1) + IntKind.i64.wrap (y * 0)))
theorem tm3_gives (x : Int) (y : Int) : Gives Tryz.prog envW 0 127 [(.agg #[(.int .i64 (x)), (.int .i64 (y))]), (.int .i64 (-3))] heap0 ((.agg #[(.int .i64 (tm3_r0 x y)), (.int .i64 (tm3_r1 x y))]), heap0) := by
  simp only [tm3_r0, tm3_r1, cond_true, cond_false]; exact tm3_p0 x y
theorem tm4_p0 (x : Int) (y : Int) : Gives Tryz.prog envW 0 127 [(.agg #[(.int .i64 (x)), (.int .i64 (y))]), (.int .i64 (-4))] heap0 ((.agg #[(.int .i64 (IntKind.i64.wrap (IntKind.i64.wrap (x * 1) - IntKind.i64.wrap (y * 0)))), (.int .i64 (IntKind.i64.wrap (IntKind.i64.wrap (x * 0) + IntKind.i64.wrap (y * 1))))]), heap0) :=
  Gives.by (n := 1000) (os := []) (os' := []) (by kernel_rfl) (ObsOK.nil)
def tm4_r0 (x : Int) (y : Int) : Int := (IntKind.i64.wrap (IntKind.i64.wrap (x * 1) - IntKind.i64.wrap (y * 0)))
def tm4_r1 (x : Int) (y : Int) : Int := (IntKind.i64.wrap (IntKind.i64.wrap (x * 0) + IntKind.i64.wrap (y * 1)))
theorem tm4_gives (x : Int) (y : Int) : Gives Tryz.prog envW 0 127 [(.agg #[(.int .i64 (x)), (.int .i64 (y))]), (.int .i64 (-4))] heap0 ((.agg #[(.int .i64 (tm4_r0 x y)), (.int .i64 (tm4_r1 x y))]), heap0) := by
  simp only [tm4_r0, tm4_r1, cond_true, cond_false]; exact tm4_p0 x y
theorem tm6_p0 (x : Int) (y : Int) : Gives Tryz.prog envW 0 127 [(.agg #[(.int .i64 (x)), (.int .i64 (y))]), (.int .i64 (-6))] heap0 ((.agg #[(.int .i64 (IntKind.i64.wrap (IntKind.i64.wrap (x * -1) - IntKind.i64.wrap (y * 0)))), (.int .i64 (IntKind.i64.wrap (IntKind.i64.wrap (x * 0) + IntKind.i64.wrap (y * -1))))]), heap0) :=
  Gives.by (n := 1000) (os := []) (os' := []) (by kernel_rfl) (ObsOK.nil)
def tm6_r0 (x : Int) (y : Int) : Int := (IntKind.i64.wrap (IntKind.i64.wrap (x * -1) - IntKind.i64.wrap (y * 0)))
def tm6_r1 (x : Int) (y : Int) : Int := (IntKind.i64.wrap (IntKind.i64.wrap (x * 0) + IntKind.i64.wrap (y * -1)))
theorem tm6_gives (x : Int) (y : Int) : Gives Tryz.prog envW 0 127 [(.agg #[(.int .i64 (x)), (.int .i64 (y))]), (.int .i64 (-6))] heap0 ((.agg #[(.int .i64 (tm6_r0 x y)), (.int .i64 (tm6_r1 x y))]), heap0) := by
  simp only [tm6_r0, tm6_r1, cond_true, cond_false]; exact tm6_p0 x y
theorem tm9_p0 (x : Int) (y : Int) : Gives Tryz.prog envW 0 127 [(.agg #[(.int .i64 (x)), (.int .i64 (y))]), (.int .i64 (-9))] heap0 ((.agg #[(.int .i64 (IntKind.i64.wrap (IntKind.i64.wrap (x * 0) - IntKind.i64.wrap (y * -1)))), (.int .i64 (IntKind.i64.wrap (IntKind.i64.wrap (x * -1) + IntKind.i64.wrap (y * 0))))]), heap0) :=
  Gives.by (n := 1000) (os := []) (os' := []) (by kernel_rfl) (ObsOK.nil)
def tm9_r0 (x : Int) (y : Int) : Int := (IntKind.i64.wrap (IntKind.i64.wrap (x * 0) - IntKind.i64.wrap (y * -1)))
def tm9_r1 (x : Int) (y : Int) : Int := (IntKind.i64.wrap (IntKind.i64.wrap (x * -1) + IntKind.i64.wrap (y * 0)))
theorem tm9_gives (x : Int) (y : Int) : Gives Tryz.prog envW 0 127 [(.agg #[(.int .i64 (x)), (.int .i64 (y))]), (.int .i64 (-9))] heap0 ((.agg #[(.int .i64 (tm9_r0 x y)), (.int .i64 (tm9_r1 x y))]), heap0) := by
  simp only [tm9_r0, tm9_r1, cond_true, cond_false]; exact tm9_p0 x y
theorem pa0_p0 (x : Int) (y : Int) (g : Int) (p : Int) : Gives Tryz.prog envW 0 86 [(.agg #[(.int .i64 (x)), (.int .i64 (y)), (.int .i64 (g)), (.int .i64 (p))]), (.int .i64 (0))] heap0 ((.int .i64 (IntKind.i64.wrap (IntKind.i64.wrap (x * 1) + IntKind.i64.wrap (y * 0)))), heap0) :=
  Gives.by (n := 1000) (os := []) (os' := []) (by kernel_rfl) (ObsOK.nil)
def pa0_r0 (x : Int) (y : Int) (g : Int) (p : Int) : Int := (IntKind.i64.wrap (IntKind.i64.wrap (x * 1) + IntKind.i64.wrap (y * 0)))
theorem pa0_gives (x : Int) (y : Int) (g : Int) (p : Int) : Gives Tryz.prog envW 0 86 [(.agg #[(.int .i64 (x)), (.int .i64 (y)), (.int .i64 (g)), (.int .i64 (p))]), (.int .i64 (0))] heap0 ((.int .i64 (pa0_r0 x y g p)), heap0) := by
  simp only [pa0_r0, cond_true, cond_false]; exact pa0_p0 x y g p
theorem pa1_p0 (x : Int) (y : Int) (g : Int) (p : Int) : Gives Tryz.prog envW 0 86 [(.agg #[(.int .i64 (x)), (.int .i64 (y)), (.int .i64 (g)), (.int .i64 (p))]), (.int .i64 (1))] heap0 ((.int .i64 (IntKind.i64.wrap (IntKind.i64.wrap (x * 1) + IntKind.i64.wrap (y * 1)))), heap0) :=
  Gives.by (n := 1000) (os := []) (os' := []) (by kernel_rfl) (ObsOK.nil)
def pa1_r0 (x : Int) (y : Int) (g : Int) (p : Int) : Int := (IntKind.i64.wrap (IntKind.i64.wrap (x * 1) + IntKind.i64.wrap (y * 1)))
theorem pa1_gives (x : Int) (y : Int) (g : Int) (p : Int) : Gives Tryz.prog envW 0 86 [(.agg #[(.int .i64 (x)), (.int .i64 (y)), (.int .i64 (g)), (.int .i64 (p))]), (.int .i64 (1))] heap0 ((.int .i64 (pa1_r0 x y g p)), heap0) := by
  simp only [pa1_r0, cond_true, cond_false]; exact pa1_p0 x y g p
theorem pa2_p0 (x : Int) (y : Int) (g : Int) (p : Int) : Gives Tryz.prog envW 0 86 [(.agg #[(.int .i64 (x)), (.int .i64 (y)), (.int .i64 (g)), (.int .i64 (p))]), (.int .i64 (2))] heap0 ((.int .i64 (IntKind.i64.wrap (IntKind.i64.wrap (x * 0) + IntKind.i64.wrap (y * 1)))), heap0) :=
  Gives.by (n := 1000) (os := []) (os' := []) (by kernel_rfl) (ObsOK.nil)
def pa2_r0 (x : Int) (y : Int) (g : Int) (p : Int) : Int := (IntKind.i64.wrap (IntKind.i64.wrap (x * 0) + IntKind.i64.wrap (y * 1)))
theorem pa2_gives (x : Int) (y : Int) (g : Int) (p : Int) : Gives Tryz.prog envW 0 86 [(.agg #[(.int .i64 (x)), (.int .i64 (y)), (.int .i64 (g)), (.int .i64 (p))]), (.int .i64 (2))] heap0 ((.int .i64 (pa2_r0 x y g p)), heap0) := by
  simp only [pa2_r0, cond_true, cond_false]; exact pa2_p0 x y g p
theorem pa3_p0 (x : Int) (y : Int) (g : Int) (p : Int) : Gives Tryz.prog envW 0 86 [(.agg #[(.int .i64 (x)), (.int .i64 (y)), (.int .i64 (g)), (.int .i64 (p))]), (.int .i64 (3))] heap0 ((.int .i64 (IntKind.i64.wrap (IntKind.i64.wrap (x * -1) + IntKind.i64.wrap (y * 1)))), heap0) :=
  Gives.by (n := 1000) (os := []) (os' := []) (by kernel_rfl) (ObsOK.nil)
def pa3_r0 (x : Int) (y : Int) (g : Int) (p : Int) : Int := (IntKind.i64.wrap (IntKind.i64.wrap (x * -1) + IntKind.i64.wrap (y * 1)))
theorem pa3_gives (x : Int) (y : Int) (g : Int) (p : Int) : Gives Tryz.prog envW 0 86 [(.agg #[(.int .i64 (x)), (.int .i64 (y)), (.int .i64 (g)), (.int .i64 (p))]), (.int .i64 (3))] heap0 ((.int .i64 (pa3_r0 x y g p)), heap0) := by
  simp only [pa3_r0, cond_true, cond_false]; exact pa3_p0 x y g p
theorem pa4_p0 (x : Int) (y : Int) (g : Int) (p : Int) : Gives Tryz.prog envW 0 86 [(.agg #[(.int .i64 (x)), (.int .i64 (y)), (.int .i64 (g)), (.int .i64 (p))]), (.int .i64 (4))] heap0 ((.int .i64 (IntKind.i64.wrap (IntKind.i64.wrap (x * -1) + IntKind.i64.wrap (y * 0)))), heap0) :=
  Gives.by (n := 1000) (os := []) (os' := []) (by kernel_rfl) (ObsOK.nil)
def pa4_r0 (x : Int) (y : Int) (g : Int) (p : Int) : Int := (IntKind.i64.wrap (IntKind.i64.wrap (x * -1) + IntKind.i64.wrap (y * 0)))
theorem pa4_gives (x : Int) (y : Int) (g : Int) (p : Int) : Gives Tryz.prog envW 0 86 [(.agg #[(.int .i64 (x)), (.int .i64 (y)), (.int .i64 (g)), (.int .i64 (p))]), (.int .i64 (4))] heap0 ((.int .i64 (pa4_r0 x y g p)), heap0) := by
  simp only [pa4_r0, cond_true, cond_false]; exact pa4_p0 x y g p
theorem pa5_p0 (x : Int) (y : Int) (g : Int) (p : Int) : Gives Tryz.prog envW 0 86 [(.agg #[(.int .i64 (x)), (.int .i64 (y)), (.int .i64 (g)), (.int .i64 (p))]), (.int .i64 (5))] heap0 ((.int .i64 (IntKind.i64.wrap (IntKind.i64.wrap (x * -1) + IntKind.i64.wrap (y * -1)))), heap0) :=
  Gives.by (n := 1000) (os := []) (os' := []) (by kernel_rfl) (ObsOK.nil)
def pa5_r0 (x : Int) (y : Int) (g : Int) (p : Int) : Int := (IntKind.i64.wrap (IntKind.i64.wrap (x * -1) + IntKind.i64.wrap (y * -1)))
theorem pa5_gives (x : Int) (y : Int) (g : Int) (p : Int) : Gives Tryz.prog envW 0 86 [(.agg #[(.int .i64 (x)), (.int .i64 (y)), (.int .i64 (g)), (.int .i64 (p))]), (.int .i64 (5))] heap0 ((.int .i64 (pa5_r0 x y g p)), heap0) := by
  simp only [pa5_r0, cond_true, cond_false]; exact pa5_p0 x y g p
theorem pa6_p0 (x : Int) (y : Int) (g : Int) (p : Int) : Gives Tryz.prog envW 0 86 [(.agg #[(.int .i64 (x)), (.int .i64 (y)), (.int .i64 (g)), (.int .i64 (p))]), (.int .i64 (6))] heap0 ((.int .i64 (IntKind.i64.wrap (IntKind.i64.wrap (x * 0) + IntKind.i64.wrap (y * -1)))), heap0) :=
  Gives.by (n := 1000) (os := []) (os' := []) (by kernel_rfl) (ObsOK.nil)
def pa6_r0 (x : Int) (y : Int) (g : Int) (p : Int) : Int := (IntKind.i64.wrap (IntKind.i64.wrap (x * 0) + IntKind.i64.wrap (y * -1)))
theorem pa6_gives (x : Int) (y : Int) (g : Int) (p : Int) : Gives Tryz.prog envW 0 86 [(.agg #[(.int .i64 (x)), (.int .i64 (y)), (.int .i64 (g)), (.int .i64 (p))]), (.int .i64 (6))] heap0 ((.int .i64 (pa6_r0 x y g p)), heap0) := by
  simp only [pa6_r0, cond_true, cond_false]; exact pa6_p0 x y g p
theorem pa7_p0 (x : Int) (y : Int) (g : Int) (p : Int) : Gives Tryz.prog envW 0 86 [(.agg #[(.int .i64 (x)), (.int .i64 (y)), (.int .i64 (g)), (.int .i64 (p))]), (.int .i64 (7))] heap0 ((.int .i64 (IntKind.i64.wrap (IntKind.i64.wrap (x * 1) + IntKind.i64.wrap (y * -1)))), heap0) :=
  Gives.by (n := 1000) (os := []) (os' := []) (by kernel_rfl) (ObsOK.nil)
def pa7_r0 (x : Int) (y : Int) (g : Int) (p : Int) : Int := (IntKind.i64.wrap (IntKind.i64.wrap (x * 1) + IntKind.i64.wrap (y * -1)))
theorem pa7_gives (x : Int) (y : Int) (g : Int) (p : Int) : Gives Tryz.prog envW 0 86 [(.agg #[(.int .i64 (x)), (.int .i64 (y)), (.int .i64 (g)), (.int .i64 (p))]), (.int .i64 (7))] heap0 ((.int .i64 (pa7_r0 x y g p)), heap0) := by
  simp only [pa7_r0, cond_true, cond_false]; exact pa7_p0 x y g p
def B_envGa_124 (args : List Value) : Option (Heap × Value) :=
    match args with
    | [(.int .i64 (x)), (.int .i64 (m))] => some (heapN, (.int .i64 (lim_r0 x m)))
    | _ => none
theorem B_envGa_124_ok {args : List Value} {H : Heap} {v : Value} (h : B_envGa_124 args = some (H, v)) : 8 ≤ H.length ∧ H.all tableRow = true ∧ Gives Tryz.prog envW 0 124 args H (v, H) := by
  unfold B_envGa_124 at h
  split at h
  · cases h; exact heapN_ok (lim_gives _ _)
  · cases h
def B_envGa_89 (args : List Value) : Option (Heap × Value) :=
    match args with
    | [(.int .i64 (n)), (.int .i64 (a)), (.int .i64 (b))] => some (heapN, (.int .i64 (cr_r0 n a b)))
    | _ => none
theorem B_envGa_89_ok {args : List Value} {H : Heap} {v : Value} (h : B_envGa_89 args = some (H, v)) : 8 ≤ H.length ∧ H.all tableRow = true ∧ Gives Tryz.prog envW 0 89 args H (v, H) := by
  unfold B_envGa_89 at h
  split at h
  · cases h; exact heapN_ok (cr_gives _ _ _)
  · cases h
def B_envGa_105 (args : List Value) : Option (Heap × Value) :=
    match args with
    | [(.int .i64 (n))] => some (heapN, (.int .i64 (mo_r0 n)))
    | _ => none
theorem B_envGa_105_ok {args : List Value} {H : Heap} {v : Value} (h : B_envGa_105 args = some (H, v)) : 8 ≤ H.length ∧ H.all tableRow = true ∧ Gives Tryz.prog envW 0 105 args H (v, H) := by
  unfold B_envGa_105 at h
  split at h
  · cases h; exact heapN_ok (mo_gives _)
  · cases h
def B_envGa_126 (args : List Value) : Option (Heap × Value) :=
    match args with
    | [(.agg ⟨[(.int .i64 (a)), (.int .i64 (b))]⟩), (.agg ⟨[(.int .i64 (c)), (.int .i64 (d))]⟩)] => some (heapN, (.agg #[(.int .i64 (pl_r0 a b c d)), (.int .i64 (pl_r1 a b c d))]))
    | _ => none
theorem B_envGa_126_ok {args : List Value} {H : Heap} {v : Value} (h : B_envGa_126 args = some (H, v)) : 8 ≤ H.length ∧ H.all tableRow = true ∧ Gives Tryz.prog envW 0 126 args H (v, H) := by
  unfold B_envGa_126 at h
  split at h
  · cases h; exact heapN_ok (pl_gives _ _ _ _)
  · cases h
def B_envGa_88 (args : List Value) : Option (Heap × Value) :=
    match args with
    | [(.agg ⟨[(.int .i64 (a)), (.int .i64 (b))]⟩)] => some (heapN, (.int .i64 (sq_r0 a b)))
    | _ => none
theorem B_envGa_88_ok {args : List Value} {H : Heap} {v : Value} (h : B_envGa_88 args = some (H, v)) : 8 ≤ H.length ∧ H.all tableRow = true ∧ Gives Tryz.prog envW 0 88 args H (v, H) := by
  unfold B_envGa_88 at h
  split at h
  · cases h; exact heapN_ok (sq_gives _ _)
  · cases h
def B_envGa_31 (args : List Value) : Option (Heap × Value) :=
    match args with
    | [(.agg ⟨[(.int .i64 (a)), (.int .i64 (b))]⟩)] => some (heapN, (.int .i64 (rsq_r0 a b)))
    | _ => none
theorem B_envGa_31_ok {args : List Value} {H : Heap} {v : Value} (h : B_envGa_31 args = some (H, v)) : 8 ≤ H.length ∧ H.all tableRow = true ∧ Gives Tryz.prog envW 0 31 args H (v, H) := by
  unfold B_envGa_31 at h
  split at h
  · cases h; exact heapN_ok (rsq_gives _ _)
  · cases h
def B_envGa_80 (args : List Value) : Option (Heap × Value) :=
    match args with
    | [(.agg ⟨[(.int .i64 (a)), (.int .i64 (b))]⟩), (.agg ⟨[(.int .i64 (c)), (.int .i64 (d))]⟩)] => some (heapN, (.agg #[(.int .i64 (rpl_r0 a b c d)), (.int .i64 (rpl_r1 a b c d))]))
    | _ => none
theorem B_envGa_80_ok {args : List Value} {H : Heap} {v : Value} (h : B_envGa_80 args = some (H, v)) : 8 ≤ H.length ∧ H.all tableRow = true ∧ Gives Tryz.prog envW 0 80 args H (v, H) := by
  unfold B_envGa_80 at h
  split at h
  · cases h; exact heapN_ok (rpl_gives _ _ _ _)
  · cases h
def B_envGa_79 (args : List Value) : Option (Heap × Value) :=
    match args with
    | [(.agg ⟨[(.int .i64 (a)), (.int .i64 (b))]⟩), (.agg ⟨[(.int .i64 (c)), (.int .i64 (d))]⟩)] => some (heapN, (.agg #[(.int .i64 (rti_r0 a b c d)), (.int .i64 (rti_r1 a b c d))]))
    | _ => none
theorem B_envGa_79_ok {args : List Value} {H : Heap} {v : Value} (h : B_envGa_79 args = some (H, v)) : 8 ≤ H.length ∧ H.all tableRow = true ∧ Gives Tryz.prog envW 0 79 args H (v, H) := by
  unfold B_envGa_79 at h
  split at h
  · cases h; exact heapN_ok (rti_gives _ _ _ _)
  · cases h
def B_envGa_127 (args : List Value) : Option (Heap × Value) :=
    match args with
    | [(.agg ⟨[(.int .i64 (x)), (.int .i64 (y))]⟩), (.int .i64 (0))] => some (heap0, (.agg #[(.int .i64 (t0_r0 x y)), (.int .i64 (t0_r1 x y))]))
    | [(.agg ⟨[(.int .i64 (x)), (.int .i64 (y))]⟩), (.int .i64 (1))] => some (heap0, (.agg #[(.int .i64 (t1_r0 x y)), (.int .i64 (t1_r1 x y))]))
    | [(.agg ⟨[(.int .i64 (x)), (.int .i64 (y))]⟩), (.int .i64 (2))] => some (heap0, (.agg #[(.int .i64 (t2_r0 x y)), (.int .i64 (t2_r1 x y))]))
    | [(.agg ⟨[(.int .i64 (x)), (.int .i64 (y))]⟩), (.int .i64 (3))] => some (heap0, (.agg #[(.int .i64 (t3_r0 x y)), (.int .i64 (t3_r1 x y))]))
    | [(.agg ⟨[(.int .i64 (x)), (.int .i64 (y))]⟩), (.int .i64 (4))] => some (heap0, (.agg #[(.int .i64 (t4_r0 x y)), (.int .i64 (t4_r1 x y))]))
    | [(.agg ⟨[(.int .i64 (x)), (.int .i64 (y))]⟩), (.int .i64 (6))] => some (heap0, (.agg #[(.int .i64 (t6_r0 x y)), (.int .i64 (t6_r1 x y))]))
    | [(.agg ⟨[(.int .i64 (x)), (.int .i64 (y))]⟩), (.int .i64 (9))] => some (heap0, (.agg #[(.int .i64 (t9_r0 x y)), (.int .i64 (t9_r1 x y))]))
    | [(.agg ⟨[(.int .i64 (x)), (.int .i64 (y))]⟩), (.int .i64 (-1))] => some (heap0, (.agg #[(.int .i64 (tm1_r0 x y)), (.int .i64 (tm1_r1 x y))]))
    | [(.agg ⟨[(.int .i64 (x)), (.int .i64 (y))]⟩), (.int .i64 (-2))] => some (heap0, (.agg #[(.int .i64 (tm2_r0 x y)), (.int .i64 (tm2_r1 x y))]))
    | [(.agg ⟨[(.int .i64 (x)), (.int .i64 (y))]⟩), (.int .i64 (-3))] => some (heap0, (.agg #[(.int .i64 (tm3_r0 x y)), (.int .i64 (tm3_r1 x y))]))
    | [(.agg ⟨[(.int .i64 (x)), (.int .i64 (y))]⟩), (.int .i64 (-4))] => some (heap0, (.agg #[(.int .i64 (tm4_r0 x y)), (.int .i64 (tm4_r1 x y))]))
    | [(.agg ⟨[(.int .i64 (x)), (.int .i64 (y))]⟩), (.int .i64 (-6))] => some (heap0, (.agg #[(.int .i64 (tm6_r0 x y)), (.int .i64 (tm6_r1 x y))]))
    | [(.agg ⟨[(.int .i64 (x)), (.int .i64 (y))]⟩), (.int .i64 (-9))] => some (heap0, (.agg #[(.int .i64 (tm9_r0 x y)), (.int .i64 (tm9_r1 x y))]))
    | _ => none
theorem B_envGa_127_ok {args : List Value} {H : Heap} {v : Value} (h : B_envGa_127 args = some (H, v)) : 8 ≤ H.length ∧ H.all tableRow = true ∧ Gives Tryz.prog envW 0 127 args H (v, H) := by
  unfold B_envGa_127 at h
  split at h
  · cases h; exact heap0_ok (t0_gives _ _)
  · cases h; exact heap0_ok (t1_gives _ _)
  · cases h; exact heap0_ok (t2_gives _ _)
  · cases h; exact heap0_ok (t3_gives _ _)
  · cases h; exact heap0_ok (t4_gives _ _)
  · cases h; exact heap0_ok (t6_gives _ _)
  · cases h; exact heap0_ok (t9_gives _ _)
  · cases h; exact heap0_ok (tm1_gives _ _)
  · cases h; exact heap0_ok (tm2_gives _ _)
  · cases h; exact heap0_ok (tm3_gives _ _)
  · cases h; exact heap0_ok (tm4_gives _ _)
  · cases h; exact heap0_ok (tm6_gives _ _)
  · cases h; exact heap0_ok (tm9_gives _ _)
  · cases h
def B_envGa_86 (args : List Value) : Option (Heap × Value) :=
    match args with
    | [(.agg ⟨[(.int .i64 (x)), (.int .i64 (y)), (.int .i64 (g)), (.int .i64 (p))]⟩), (.int .i64 (0))] => some (heap0, (.int .i64 (pa0_r0 x y g p)))
    | [(.agg ⟨[(.int .i64 (x)), (.int .i64 (y)), (.int .i64 (g)), (.int .i64 (p))]⟩), (.int .i64 (1))] => some (heap0, (.int .i64 (pa1_r0 x y g p)))
    | [(.agg ⟨[(.int .i64 (x)), (.int .i64 (y)), (.int .i64 (g)), (.int .i64 (p))]⟩), (.int .i64 (2))] => some (heap0, (.int .i64 (pa2_r0 x y g p)))
    | [(.agg ⟨[(.int .i64 (x)), (.int .i64 (y)), (.int .i64 (g)), (.int .i64 (p))]⟩), (.int .i64 (3))] => some (heap0, (.int .i64 (pa3_r0 x y g p)))
    | [(.agg ⟨[(.int .i64 (x)), (.int .i64 (y)), (.int .i64 (g)), (.int .i64 (p))]⟩), (.int .i64 (4))] => some (heap0, (.int .i64 (pa4_r0 x y g p)))
    | [(.agg ⟨[(.int .i64 (x)), (.int .i64 (y)), (.int .i64 (g)), (.int .i64 (p))]⟩), (.int .i64 (5))] => some (heap0, (.int .i64 (pa5_r0 x y g p)))
    | [(.agg ⟨[(.int .i64 (x)), (.int .i64 (y)), (.int .i64 (g)), (.int .i64 (p))]⟩), (.int .i64 (6))] => some (heap0, (.int .i64 (pa6_r0 x y g p)))
    | [(.agg ⟨[(.int .i64 (x)), (.int .i64 (y)), (.int .i64 (g)), (.int .i64 (p))]⟩), (.int .i64 (7))] => some (heap0, (.int .i64 (pa7_r0 x y g p)))
    | _ => none
theorem B_envGa_86_ok {args : List Value} {H : Heap} {v : Value} (h : B_envGa_86 args = some (H, v)) : 8 ≤ H.length ∧ H.all tableRow = true ∧ Gives Tryz.prog envW 0 86 args H (v, H) := by
  unfold B_envGa_86 at h
  split at h
  · cases h; exact heap0_ok (pa0_gives _ _ _ _)
  · cases h; exact heap0_ok (pa1_gives _ _ _ _)
  · cases h; exact heap0_ok (pa2_gives _ _ _ _)
  · cases h; exact heap0_ok (pa3_gives _ _ _ _)
  · cases h; exact heap0_ok (pa4_gives _ _ _ _)
  · cases h; exact heap0_ok (pa5_gives _ _ _ _)
  · cases h; exact heap0_ok (pa6_gives _ _ _ _)
  · cases h; exact heap0_ok (pa7_gives _ _ _ _)
  · cases h
def B_envGa (f : FuncId) (args : List Value) : Option (Heap × Value) :=
  if f == 124 then B_envGa_124 args else
  if f == 89 then B_envGa_89 args else
  if f == 105 then B_envGa_105 args else
  if f == 126 then B_envGa_126 args else
  if f == 88 then B_envGa_88 args else
  if f == 31 then B_envGa_31 args else
  if f == 80 then B_envGa_80 args else
  if f == 79 then B_envGa_79 args else
  if f == 127 then B_envGa_127 args else
  if f == 86 then B_envGa_86 args else
  none
noncomputable def envGa : Env := envW.with (baseKnown B_envGa)
theorem envGa_ok : EnvOK Tryz.prog 8 envGa := env_base prog_ok envW_ok fun f args H v h => by
  unfold B_envGa at h
  split at h
  · rename_i hf
    have hf : f = 124 := by simpa using hf
    subst hf
    exact B_envGa_124_ok h
  · skip
    split at h
    · rename_i hf
      have hf : f = 89 := by simpa using hf
      subst hf
      exact B_envGa_89_ok h
    · skip
      split at h
      · rename_i hf
        have hf : f = 105 := by simpa using hf
        subst hf
        exact B_envGa_105_ok h
      · skip
        split at h
        · rename_i hf
          have hf : f = 126 := by simpa using hf
          subst hf
          exact B_envGa_126_ok h
        · skip
          split at h
          · rename_i hf
            have hf : f = 88 := by simpa using hf
            subst hf
            exact B_envGa_88_ok h
          · skip
            split at h
            · rename_i hf
              have hf : f = 31 := by simpa using hf
              subst hf
              exact B_envGa_31_ok h
            · skip
              split at h
              · rename_i hf
                have hf : f = 80 := by simpa using hf
                subst hf
                exact B_envGa_80_ok h
              · skip
                split at h
                · rename_i hf
                  have hf : f = 79 := by simpa using hf
                  subst hf
                  exact B_envGa_79_ok h
                · skip
                  split at h
                  · rename_i hf
                    have hf : f = 127 := by simpa using hf
                    subst hf
                    exact B_envGa_127_ok h
                  · skip
                    split at h
                    · rename_i hf
                      have hf : f = 86 := by simpa using hf
                      subst hf
                      exact B_envGa_86_ok h
                    · skip
                      cases h
end Go.Proofs.YtpdiaiccnaoaiaaGreatDoor
