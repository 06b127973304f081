/-
Joined: Seat, W0, W1, W2, W3, W4, W5, W6, W7.
-/
import Derived.Test.YtpdiaiccnaoaiaaGreatDoorMb2
import Derived.Test.YtpdiaiccnaoaiaaGreatDoorMb3
import Derived.Test.YtpdiaiccnaoaiaaGreatDoorProg
import Derived.KernelRfl
set_option linter.unusedVariables false
set_option linter.unusedSimpArgs false
set_option linter.unusedSectionVars false
/-
The seat's program, its tables and its library, as the abstract machine wants them.
-/
namespace Go.Proofs.YtpdiaiccnaoaiaaGreatDoor
open Go Go.Abs

theorem prog_ok : ProgOK Tryz.prog 8 := progOK_spec (by kernel_rfl)
def memN (l : List Nat) (n : Nat) : Bool := l.any fun m => m == n
/-- Functions that write rows of their callers; functions of the library without bodies. -/
def env0 : Env := { impure := memN [139, 140, 141, 158, 159, 196, 180, 149, 137, 135, 153, 169, 170, 171, 172, 173, 174, 175, 176, 189, 191, 192, 193, 201, 164, 165, 146, 145, 120], known := libKnown 181 182 5 }
theorem lib : LibOK Tryz.prog 181 182 5 where
  ne_ := ⟨_, Tryz.func181, by kernel_rfl, by kernel_rfl, by kernel_rfl, by kernel_rfl⟩
  mk_ := ⟨_, Tryz.f182.params, 193, Tryz.func182, by kernel_rfl, by kernel_rfl, by kernel_rfl, by kernel_rfl, by kernel_rfl⟩
  esz := by kernel_rfl
theorem env0_ok : EnvOK Tryz.prog 8 env0 := lib_ok lib
def lits (k : IntKind) (l : List Int) : List Value := l.map (.int k)
def H (X : Heap) : Heap :=
  some (.cells (lits .i64 [1,0,1,1,0,1,-1,1,-1,0,-1,-1,0,-1,1,-1]) 0 .ro) ::
  some (.cells (lits .i64 [1,0,0,1,-1,0,0,-1]) 0 .ro) ::
  none ::
  some (.cells (lits .u64 [1,10,100,1000,10000,100000,1000000,10000000,100000000,1000000000,10000000000,100000000000,1000000000000,10000000000000,100000000000000,1000000000000000,10000000000000000,100000000000000000,1000000000000000000,10000000000000000000]) 0 .ro) ::
  some (.cells (lits .u8 [0,1,28,2,29,14,24,3,30,22,20,15,25,17,4,8,31,27,13,23,21,19,16,7,26,12,18,6,11,5,10,9]) 0 .ro) ::
  some (.cells (lits .u8 [0,1,56,2,57,49,28,3,61,58,42,50,38,29,17,4,62,47,59,36,45,43,51,22,53,39,33,30,24,18,12,5,63,55,48,27,60,41,37,16,46,35,44,21,52,32,23,11,54,26,40,15,34,20,31,10,25,14,19,9,13,8,7,6]) 0 .ro) ::
  none :: none :: X
/-- The tables, as rows. -/
def heap0 : Heap := H []
noncomputable def bodyOf (f : FuncId) : Code := match Tryz.prog.funcs[f]? with
  | some fn => fn.body.getD .skip
  | none => .skip
/-- A number. -/
abbrev I (n : Int) : Value := .int .i64 n
/-- A pointer; a slice; none; a variable's row; a slice's row; two numbers. -/
abbrev pt (i o : Nat) : Value := .pointer (some ⟨i, o, none⟩)
abbrev sl (i o n c : Nat) : Value := .slice (some ⟨i, o, none⟩) n c
abbrev sn : Value := .slice none 0 0
abbrev rvar (cs : List Value) (e : Nat) : Option ARow := some (.cells cs e .var)
abbrev rrow (cs : List Value) (e : Nat) : Option ARow := some (.cells cs e .row)
abbrev g2 (a b : Int) : Value := .agg #[I a, I b]
/-- Nothing. -/
abbrev U : Value := .tuple #[]
def us (n : Nat) : List Value := List.replicate n U
/-- No table at all. -/
def heapN : Heap := [none, none, none, none, none, none, none, none]
end Go.Proofs.YtpdiaiccnaoaiaaGreatDoor
/-
The weights of a list of the document's examples, whatever the order of the map.
-/
namespace Go.Proofs.YtpdiaiccnaoaiaaGreatDoor
open Go Go.Abs
def codeW0_0 : Code := (.seq (.region (3) (#[{ dst := some 4, op := Op.alloc 32, type := 0, pos := "places.go:87", after := #[], guard := none }, { dst := none, op := Op.store 32 (Operand.tmp 4) (Operand.tmp 13), type := 0, pos := "places.go:87", after := #[{ on := 0, ground := Ground.data }, { on := 0, ground := Ground.phase }], guard := none }]) false) (.region (4) (#[{ dst := some 5, op := Op.alloc 34, type := 0, pos := "places.go:87", after := #[], guard := none }, { dst := none, op := Op.store 34 (Operand.tmp 5) (Operand.tmp 14), type := 0, pos := "places.go:87", after := #[{ on := 0, ground := Ground.data }, { on := 0, ground := Ground.phase }], guard := none }]) false))
def codeW0_1 : Code := (.block (1) (.seq (.region (5) (#[{ dst := some 15, op := Op.fieldAddr 32 (Operand.tmp 4) 0, type := 0, pos := "places.go:88", after := #[], guard := none }, { dst := some 16, op := Op.load 3 (Operand.tmp 15), type := 3, pos := "places.go:88", after := #[{ on := 0, ground := Ground.data }], guard := none }, { dst := some 17, op := Op.fieldAddr 32 (Operand.tmp 4) 1, type := 0, pos := "places.go:88", after := #[], guard := none }, { dst := some 18, op := Op.load 3 (Operand.tmp 17), type := 3, pos := "places.go:88", after := #[{ on := 2, ground := Ground.data }], guard := none }, { dst := some 19, op := Op.build 187 #[(0, Operand.tmp 16), (1, Operand.tmp 18)], type := 187, pos := "places.go:88", after := #[{ on := 1, ground := Ground.data }, { on := 3, ground := Ground.data }], guard := none }, { dst := some 6, op := Op.alloc 187, type := 0, pos := "places.go:88", after := #[], guard := none }, { dst := none, op := Op.store 187 (Operand.tmp 6) (Operand.tmp 19), type := 0, pos := "places.go:88", after := #[{ on := 5, ground := Ground.data }, { on := 4, ground := Ground.data }, { on := 0, ground := Ground.phase }, { on := 1, ground := Ground.phase }, { on := 2, ground := Ground.phase }, { on := 3, ground := Ground.phase }, { on := 4, ground := Ground.phase }, { on := 5, ground := Ground.phase }], guard := none }]) false) (.region (6) (#[{ dst := some 20, op := Op.load 185 (Operand.tmp 3), type := 185, pos := "places.go:89", after := #[], guard := none }, { dst := some 21, op := Op.load 187 (Operand.tmp 6), type := 187, pos := "places.go:89", after := #[], guard := none }, { dst := some 22, op := Op.load 185 (Operand.tmp 3), type := 185, pos := "places.go:89", after := #[], guard := none }, { dst := some 23, op := Op.load 187 (Operand.tmp 6), type := 187, pos := "places.go:89", after := #[], guard := none }, { dst := some 24, op := Op.lookup 185 (Operand.tmp 22) (Operand.tmp 23) false, type := 34, pos := "places.go:89", after := #[{ on := 2, ground := Ground.data }, { on := 3, ground := Ground.data }], guard := none }, { dst := some 25, op := Op.load 34 (Operand.tmp 5), type := 34, pos := "places.go:89", after := #[], guard := none }, { dst := some 26, op := Op.call { callee := Callee.value (Operand.func 126), args := #[Operand.tmp 24, Operand.tmp 25], argTypes := #[34, 34] }, type := 34, pos := "places.go:89", after := #[{ on := 4, ground := Ground.data }, { on := 5, ground := Ground.data }], guard := none }, { dst := none, op := Op.mapUpdate 185 (Operand.tmp 20) (Operand.tmp 21) (Operand.tmp 26), type := 0, pos := "places.go:89", after := #[{ on := 0, ground := Ground.data }, { on := 1, ground := Ground.data }, { on := 6, ground := Ground.data }, { on := 6, ground := Ground.chain }, { on := 0, ground := Ground.phase }, { on := 1, ground := Ground.phase }, { on := 2, ground := Ground.phase }, { on := 3, ground := Ground.phase }, { on := 4, ground := Ground.phase }, { on := 5, ground := Ground.phase }, { on := 6, ground := Ground.phase }], guard := none }]) true)))
noncomputable def rowW0_0 : Option ARow := (.some (.loop ([(sl 8 0 2 2), U, sn, (pt 10 0), U, U, U, U, U, U, (.map (.some 9)), (sl 8 0 2 2), (.func (.func 149) #[] #[(pt 11 0)])] ++ us 36) #[13, 14] codeW0_0 codeW0_1 .exhausted .none))
noncomputable def rowW0_1 : Option ARow := (.some (.map [(.mk (g2 0 0) (.mk (g2 1 0) 0)), (.mk (g2 1 0) (.mk (g2 1 0) 1))] 2))
noncomputable def rowW0_2 : Option ARow := (rrow [I 0, I 0, I 1, I 0, I 1, I 0, I 1, I 0] 125)
noncomputable def rowW0_3 : Option ARow := (rrow [I 1, I 0, I 1, I 0, I 0, I 0, I 1, I 0] 125)
noncomputable def rowW0_4 : Option ARow := (rrow [I 0, I 0, I 1, I 0, I 1, I 0, I 1, I 0] 32)
noncomputable def rowW0_5 : Option ARow := (rrow [I 0, I 0, I 1, I 0] 125)
noncomputable def rowW0_6 : Option ARow := (rrow [I 1, I 0, I 1, I 0] 125)
noncomputable def rowW0_7 : Option ARow := (rvar [I 0, I 0, I 1, I 0] 32)
noncomputable def rowW0_8 : Option ARow := (rvar [I 1, I 0, I 1, I 0] 32)
noncomputable def w0_B : Code := loopB (tailS (seqAt 4 (bodyOf 106)))
noncomputable def w0_O : Array Oper := headOps w0_B
noncomputable def w0_R : Code := tailS w0_B
theorem w0_hS : seqAt 4 (bodyOf 106) = .seq (headS (seqAt 4 (bodyOf 106))) (tailS (seqAt 4 (bodyOf 106))) := by kernel_rfl
theorem w0_hC : tailS (seqAt 4 (bodyOf 106)) = .block 2 (.loop w0_B) := by kernel_rfl
theorem w0_hB : w0_B = .seq (.region (headId w0_B) w0_O false) w0_R := by kernel_rfl
noncomputable def w0_A : Heap := (H [some (.cells [.int .i64 0, .int .i64 0, .int .i64 1, .int .i64 0, .int .i64 1, .int .i64 0, .int .i64 1, .int .i64 0] 32 .row)])
noncomputable def w0_L0 : List Value := ([(sl 8 0 2 2)] ++ us 48)
noncomputable def w0_X0 : Heap := (H [rowW0_4])
noncomputable def w0_L1 : List Value := ([(sl 8 0 2 2), U, sn] ++ us 46)
noncomputable def w0_X1 : Heap := (H [rowW0_4])
theorem w0_t0 : aRun Tryz.prog env0 100000 9 [.code (seqAt 0 (bodyOf 106))] w0_L0 w0_X0 = some (w0_L1, w0_X1, none) := by kernel_rfl
noncomputable def w0_L2 : List Value := ([(sl 8 0 2 2), U, sn, (pt 10 0), U, U, U, U, U, U, (.map (.some 9))] ++ us 38)
noncomputable def w0_X2 : Heap := (H [rowW0_4, (.some (.map [] 0)), (rvar [(.map (.some 9))] 185)])
theorem w0_t1 : aRun Tryz.prog env0 100000 9 [.code (seqAt 1 (bodyOf 106))] w0_L1 w0_X1 = some (w0_L2, w0_X2, none) := by kernel_rfl
noncomputable def w0_L3 : List Value := ([(sl 8 0 2 2), U, sn, (pt 10 0), U, U, U, U, U, U, (.map (.some 9)), (sl 8 0 2 2), (.func (.func 149) #[] #[(pt 11 0)])] ++ us 36)
noncomputable def w0_X3 : Heap := (H [rowW0_4, rowW0_1, (rvar [(.map (.some 9))] 185), (rvar [(sl 8 0 2 2)] 37), rowW0_0, rowW0_7, rowW0_7, (rvar [I 1, I 0] 34), (rvar [I 0, I 0] 187), rowW0_8, rowW0_8, (rvar [I 1, I 0] 34), (rvar [I 1, I 0] 187)])
theorem w0_t2 : aRun Tryz.prog env0 100000 9 [.code (seqAt 2 (bodyOf 106))] w0_L2 w0_X2 = some (w0_L3, w0_X3, none) := by kernel_rfl
noncomputable def w0_L4 : List Value := ([(sl 8 0 2 2), U, sn, (pt 10 0), U, U, U, sn, U, U, (.map (.some 9)), (sl 8 0 2 2), (.func (.func 149) #[] #[(pt 11 0)])] ++ us 36)
noncomputable def w0_X4 : Heap := (H [rowW0_4, rowW0_1, (rvar [(.map (.some 9))] 185), (rvar [(sl 8 0 2 2)] 37), rowW0_0, rowW0_7, rowW0_7, (rvar [I 1, I 0] 34), (rvar [I 0, I 0] 187), rowW0_8, rowW0_8, (rvar [I 1, I 0] 34), (rvar [I 1, I 0] 187)])
theorem w0_t3 : aRun Tryz.prog env0 100000 9 [.code (seqAt 3 (bodyOf 106))] w0_L3 w0_X3 = some (w0_L4, w0_X4, none) := by kernel_rfl
noncomputable def w0_L5 : List Value := ([(sl 8 0 2 2), U, sn, (pt 10 0), U, U, U, sn, U, U, (.map (.some 9)), (sl 8 0 2 2), (.func (.func 149) #[] #[(pt 11 0)]), U, U, U, U, U, U, U, U, U, U, U, U, U, U, (.map (.some 9)), (pt 21 0)] ++ us 20)
noncomputable def w0_X5 : Heap := (H [rowW0_4, rowW0_1, (rvar [(.map (.some 9))] 185), (rvar [(sl 8 0 2 2)] 37), rowW0_0, rowW0_7, rowW0_7, (rvar [I 1, I 0] 34), (rvar [I 0, I 0] 187), rowW0_8, rowW0_8, (rvar [I 1, I 0] 34), (rvar [I 1, I 0] 187), (.some (.miter 9 2 [] 2))])
theorem w0_t4 : aRun Tryz.prog env0 100000 9 [.code (headS (seqAt 4 (bodyOf 106)))] w0_L4 w0_X4 = some (w0_L5, w0_X5, none) := by kernel_rfl
noncomputable def w0_L6 : List Value := [(sl 8 0 2 2), U, sn, (pt 10 0), U, U, U, (sl 25 0 1 1), (pt 22 0), (pt 23 0), (.map (.some 9)), (sl 8 0 2 2), (.func (.func 149) #[] #[(pt 11 0)]), U, U, U, U, U, U, U, U, U, U, U, U, U, U, (.map (.some 9)), (pt 21 0), (.tuple #[(.bool true), (g2 0 0), (g2 1 0)]), (.bool true), (.tuple #[(g2 0 0), (g2 1 0)]), (g2 0 0), (g2 1 0), (g2 1 0), (g2 0 0), (.bool true), sn, (pt 22 0), I 0, (pt 22 1), I 0, (g2 1 0), (.agg #[I 0, I 0, I 1, I 0]), (sl 24 0 1 1), (sl 25 0 1 1), U, U, U]
noncomputable def w0_X6 : Heap := (H [rowW0_4, rowW0_1, (rvar [(.map (.some 9))] 185), (rvar [(sl 8 0 2 2)] 37), rowW0_0, rowW0_7, rowW0_7, (rvar [I 1, I 0] 34), (rvar [I 0, I 0] 187), rowW0_8, rowW0_8, (rvar [I 1, I 0] 34), (rvar [I 1, I 0] 187), (.some (.miter 9 2 [0] 2)), (rvar [I 0, I 0] 187), (rvar [I 1, I 0] 34), rowW0_5, rowW0_5])
theorem w0_e6 : aRun Tryz.prog env0 100000 9 [.ops w0_O 1, .code w0_R] (tput w0_L5 (some 29) (.tuple #[.bool true, (g2 0 0), (g2 1 0)])) (hset w0_X5 21 (some (.miter 9 2 [0] 2))) = some (w0_L6, w0_X6, none) := by kernel_rfl
noncomputable def w0_L7 : List Value := [(sl 8 0 2 2), U, sn, (pt 10 0), U, U, U, (sl 29 0 2 2), (pt 26 0), (pt 27 0), (.map (.some 9)), (sl 8 0 2 2), (.func (.func 149) #[] #[(pt 11 0)]), U, U, U, U, U, U, U, U, U, U, U, U, U, U, (.map (.some 9)), (pt 21 0), (.tuple #[(.bool true), (g2 1 0), (g2 1 0)]), (.bool true), (.tuple #[(g2 1 0), (g2 1 0)]), (g2 1 0), (g2 1 0), (g2 1 0), (g2 0 0), (.bool true), (sl 25 0 1 1), (pt 26 0), I 1, (pt 26 1), I 0, (g2 1 0), (.agg #[I 1, I 0, I 1, I 0]), (sl 28 0 1 1), (sl 29 0 2 2), U, U, U]
noncomputable def w0_X7 : Heap := (H [rowW0_4, rowW0_1, (rvar [(.map (.some 9))] 185), (rvar [(sl 8 0 2 2)] 37), rowW0_0, rowW0_7, rowW0_7, (rvar [I 1, I 0] 34), (rvar [I 0, I 0] 187), rowW0_8, rowW0_8, (rvar [I 1, I 0] 34), (rvar [I 1, I 0] 187), (.some (.miter 9 2 [0, 1] 2)), (rvar [I 0, I 0] 187), (rvar [I 1, I 0] 34), rowW0_5, .none, (rvar [I 1, I 0] 187), (rvar [I 1, I 0] 34), rowW0_6, rowW0_2])
theorem w0_e7 : aRun Tryz.prog env0 100000 9 [.ops w0_O 1, .code w0_R] (tput w0_L6 (some 29) (.tuple #[.bool true, (g2 1 0), (g2 1 0)])) (hset w0_X6 21 (some (.miter 9 2 [0, 1] 2))) = some (w0_L7, w0_X7, none) := by kernel_rfl
noncomputable def w0_L8 : List Value := [(sl 8 0 2 2), U, sn, (pt 10 0), U, U, U, (sl 29 0 2 2), (pt 26 0), (pt 27 0), (.map (.some 9)), (sl 8 0 2 2), (.func (.func 149) #[] #[(pt 11 0)]), U, U, U, U, U, U, U, U, U, U, U, U, U, U, (.map (.some 9)), (pt 21 0), (.tuple #[(.bool false)]), (.bool false), (.tuple #[(g2 1 0), (g2 1 0)]), (g2 1 0), (g2 1 0), (g2 1 0), (g2 0 0), (.bool true), (sl 25 0 1 1), (pt 26 0), I 1, (pt 26 1), I 0, (g2 1 0), (.agg #[I 1, I 0, I 1, I 0]), (sl 28 0 1 1), (sl 29 0 2 2), U, U, U]
noncomputable def w0_X8 : Heap := (H [rowW0_4, rowW0_1, (rvar [(.map (.some 9))] 185), (rvar [(sl 8 0 2 2)] 37), rowW0_0, rowW0_7, rowW0_7, (rvar [I 1, I 0] 34), (rvar [I 0, I 0] 187), rowW0_8, rowW0_8, (rvar [I 1, I 0] 34), (rvar [I 1, I 0] 187), (.some (.miter 9 2 [0, 1] 2)), (rvar [I 0, I 0] 187), (rvar [I 1, I 0] 34), rowW0_5, .none, (rvar [I 1, I 0] 187), (rvar [I 1, I 0] 34), rowW0_6, rowW0_2])
theorem w0_o7 : aRun Tryz.prog env0 100000 9 [.ops w0_O 1, .code w0_R, .inLoop w0_B, .inBlock 2] (tput w0_L7 (some 29) (.tuple #[.bool false])) w0_X7 = some (w0_L8, w0_X8, none) := by kernel_rfl
noncomputable def w0_L9 : List Value := [(sl 8 0 2 2), U, sn, (pt 10 0), U, U, U, (sl 29 0 2 2), (pt 26 0), (pt 27 0), (.map (.some 9)), (sl 8 0 2 2), (.func (.func 149) #[] #[(pt 11 0)]), U, U, U, U, U, U, U, U, U, U, U, U, U, U, (.map (.some 9)), (pt 21 0), (.tuple #[(.bool false)]), (.bool false), (.tuple #[(g2 1 0), (g2 1 0)]), (g2 1 0), (g2 1 0), (g2 1 0), (g2 0 0), (.bool true), (sl 25 0 1 1), (pt 26 0), I 1, (pt 26 1), I 0, (g2 1 0), (.agg #[I 1, I 0, I 1, I 0]), (sl 28 0 1 1), (sl 29 0 2 2), (sl 29 0 2 2), U, U]
noncomputable def w0_X9 : Heap := (H [rowW0_4, rowW0_1, (rvar [(.map (.some 9))] 185), (rvar [(sl 8 0 2 2)] 37), rowW0_0, rowW0_7, rowW0_7, (rvar [I 1, I 0] 34), (rvar [I 0, I 0] 187), rowW0_8, rowW0_8, (rvar [I 1, I 0] 34), (rvar [I 1, I 0] 187), (.some (.miter 9 2 [0, 1] 2)), (rvar [I 0, I 0] 187), (rvar [I 1, I 0] 34), rowW0_5, .none, (rvar [I 1, I 0] 187), (rvar [I 1, I 0] 34), rowW0_6, rowW0_2])
theorem w0_t8 : aRun Tryz.prog env0 100000 9 [.code (seqAt 5 (bodyOf 106))] w0_L8 w0_X8 = some (w0_L9, w0_X9, none) := by kernel_rfl
noncomputable def w0_L10 : List Value := [(sl 8 0 2 2), U, (sl 29 0 2 2), (pt 10 0), U, U, U, (sl 29 0 2 2), (pt 26 0), (pt 27 0), (.map (.some 9)), (sl 8 0 2 2), (.func (.func 149) #[] #[(pt 11 0)]), U, U, U, U, U, U, U, U, U, U, U, U, U, U, (.map (.some 9)), (pt 21 0), (.tuple #[(.bool false)]), (.bool false), (.tuple #[(g2 1 0), (g2 1 0)]), (g2 1 0), (g2 1 0), (g2 1 0), (g2 0 0), (.bool true), (sl 25 0 1 1), (pt 26 0), I 1, (pt 26 1), I 0, (g2 1 0), (.agg #[I 1, I 0, I 1, I 0]), (sl 28 0 1 1), (sl 29 0 2 2), (sl 29 0 2 2), U, (sl 29 0 2 2)]
noncomputable def w0_X10 : Heap := (H [rowW0_4, rowW0_1, (rvar [(.map (.some 9))] 185), (rvar [(sl 8 0 2 2)] 37), rowW0_0, rowW0_7, rowW0_7, (rvar [I 1, I 0] 34), (rvar [I 0, I 0] 187), rowW0_8, rowW0_8, (rvar [I 1, I 0] 34), (rvar [I 1, I 0] 187), (.some (.miter 9 2 [0, 1] 2)), (rvar [I 0, I 0] 187), (rvar [I 1, I 0] 34), rowW0_5, .none, (rvar [I 1, I 0] 187), (rvar [I 1, I 0] 34), rowW0_6, rowW0_2])
theorem w0_t9 : aRun Tryz.prog env0 100000 9 [.code (seqAt 6 (bodyOf 106))] w0_L9 w0_X9 = some (w0_L10, w0_X10, none) := by kernel_rfl
noncomputable def w0_LC : List Value := [junk, junk, (.slice (some ⟨9, 0, none⟩) 2 2), junk, junk, junk, junk, junk, junk, junk, junk, junk, junk, junk, junk, junk, junk, junk, junk, junk, junk, junk, junk, junk, junk, junk, junk, junk, junk, junk, (.bool false), junk, junk, junk, junk, junk, (.bool true), junk, junk, junk, junk, junk, junk, junk, junk, junk, junk, junk, junk]
noncomputable def w0_RC : Heap := [rowW0_2]
noncomputable def w0_V : Value := (.slice (some ⟨9, 0, none⟩) 2 2)
theorem w0_c : aRun Tryz.prog env0 100000 9 [.code (dropS 7 (bodyOf 106))] w0_LC (w0_A ++ w0_RC) = some (w0_LC, w0_A ++ w0_RC, some .ret) := by kernel_rfl
theorem w0_end : EndsA Tryz.prog 8 Tryz.f106 w0_A w0_V (w0_A ++ w0_RC) [.code (dropS 7 (bodyOf 106))] w0_LC (w0_A ++ w0_RC) := EndsA.ret prog_ok env0_ok ⟨_, w0_c⟩ rfl (by kernel_rfl)
noncomputable def w0_Y10 : Heap := [rowW0_1, (rvar [(.map (.some 9))] 185), (rvar [(sl 8 0 2 2)] 37), rowW0_0, rowW0_7, rowW0_7, (rvar [I 1, I 0] 34), (rvar [I 0, I 0] 187), rowW0_8, rowW0_8, (rvar [I 1, I 0] 34), (rvar [I 1, I 0] 187), (.some (.miter 9 2 [0, 1] 2)), (rvar [I 0, I 0] 187), (rvar [I 1, I 0] 34), rowW0_5, .none, (rvar [I 1, I 0] 187), (rvar [I 1, I 0] 34), rowW0_6, rowW0_2]
theorem w0_n7 : EndsA Tryz.prog 8 Tryz.f106 w0_A w0_V (w0_A ++ w0_RC) [.code w0_B, .inLoop w0_B, .inBlock 2, .code (dropS 5 (bodyOf 106))] w0_L7 w0_X7 := by
  refine EndsA.mapRound w0_hB (EndsA.over (.tmp 28) (some 29) 21 9 2 2 2 [0, 1] [((g2 0 0), (g2 1 0), 0), ((g2 1 0), (g2 1 0), 1)] (by kernel_rfl) (by kernel_rfl) (by kernel_rfl) (by kernel_rfl) (by kernel_rfl) (by decide) (by kernel_rfl) ?_)
  refine EndsA.run (k := [.ops w0_O 1, .code w0_R, .inLoop w0_B, .inBlock 2]) prog_ok env0_ok ⟨_, w0_o7⟩ ?_
  refine EndsA.drop prog_ok env0_ok (by kernel_rfl) ⟨_, w0_t8⟩ ?_
  refine EndsA.drop prog_ok env0_ok (by kernel_rfl) ⟨_, w0_t9⟩ ?_
  rw [show w0_X10 = w0_A ++ w0_Y10 from by kernel_rfl]
  exact EndsA.renum (ids := [29]) (m := [.no, .no, .ren, .no, .no, .no, .no, .no, .no, .no, .no, .no, .no, .no, .no, .no, .no, .no, .no, .no, .no, .no, .no, .no, .no, .no, .no, .no, .no, .no, .free, .no, .no, .no, .no, .no, .free, .no, .no, .no, .no, .no, .no, .no, .no, .no, .no, .no, .no]) (fs := [(.bool false), (.bool true)]) (by decide) (by decide) (by decide) (by kernel_rfl) (by simp [freeB, atomB]) (RowsBy.cons (i := 29) (by kernel_rfl) (RowBy.plain (by kernel_rfl)) RowsBy.nil) w0_end
theorem w0_n6 : EndsA Tryz.prog 8 Tryz.f106 w0_A w0_V (w0_A ++ w0_RC) [.code w0_B, .inLoop w0_B, .inBlock 2, .code (dropS 5 (bodyOf 106))] w0_L6 w0_X6 := by
  refine EndsA.mapRound w0_hB (EndsA.more (.tmp 28) (some 29) 21 9 2 2 2 [0] [((g2 0 0), (g2 1 0), 0), ((g2 1 0), (g2 1 0), 1)] [((g2 1 0), (g2 1 0), 1)] (by kernel_rfl) (by kernel_rfl) (by kernel_rfl) (by kernel_rfl) (by kernel_rfl) (by decide) (by kernel_rfl) (by kernel_rfl) ?_)
  exact ⟨⟨by kernel_rfl, EndsA.run (k := [.ops w0_O 1, .code w0_R]) prog_ok env0_ok ⟨_, w0_e7⟩ (EndsA.again w0_n7)⟩, trivial⟩
noncomputable def w0_L11 : List Value := [(sl 8 0 2 2), U, sn, (pt 10 0), U, U, U, (sl 25 0 1 1), (pt 22 0), (pt 23 0), (.map (.some 9)), (sl 8 0 2 2), (.func (.func 149) #[] #[(pt 11 0)]), U, U, U, U, U, U, U, U, U, U, U, U, U, U, (.map (.some 9)), (pt 21 0), (.tuple #[(.bool true), (g2 1 0), (g2 1 0)]), (.bool true), (.tuple #[(g2 1 0), (g2 1 0)]), (g2 1 0), (g2 1 0), (g2 1 0), (g2 0 0), (.bool true), sn, (pt 22 0), I 1, (pt 22 1), I 0, (g2 1 0), (.agg #[I 1, I 0, I 1, I 0]), (sl 24 0 1 1), (sl 25 0 1 1), U, U, U]
noncomputable def w0_X11 : Heap := (H [rowW0_4, rowW0_1, (rvar [(.map (.some 9))] 185), (rvar [(sl 8 0 2 2)] 37), rowW0_0, rowW0_7, rowW0_7, (rvar [I 1, I 0] 34), (rvar [I 0, I 0] 187), rowW0_8, rowW0_8, (rvar [I 1, I 0] 34), (rvar [I 1, I 0] 187), (.some (.miter 9 2 [1] 2)), (rvar [I 1, I 0] 187), (rvar [I 1, I 0] 34), rowW0_6, rowW0_6])
theorem w0_e11 : aRun Tryz.prog env0 100000 9 [.ops w0_O 1, .code w0_R] (tput w0_L5 (some 29) (.tuple #[.bool true, (g2 1 0), (g2 1 0)])) (hset w0_X5 21 (some (.miter 9 2 [1] 2))) = some (w0_L11, w0_X11, none) := by kernel_rfl
noncomputable def w0_L12 : List Value := [(sl 8 0 2 2), U, sn, (pt 10 0), U, U, U, (sl 29 0 2 2), (pt 26 0), (pt 27 0), (.map (.some 9)), (sl 8 0 2 2), (.func (.func 149) #[] #[(pt 11 0)]), U, U, U, U, U, U, U, U, U, U, U, U, U, U, (.map (.some 9)), (pt 21 0), (.tuple #[(.bool true), (g2 0 0), (g2 1 0)]), (.bool true), (.tuple #[(g2 0 0), (g2 1 0)]), (g2 0 0), (g2 1 0), (g2 1 0), (g2 0 0), (.bool true), (sl 25 0 1 1), (pt 26 0), I 0, (pt 26 1), I 0, (g2 1 0), (.agg #[I 0, I 0, I 1, I 0]), (sl 28 0 1 1), (sl 29 0 2 2), U, U, U]
noncomputable def w0_X12 : Heap := (H [rowW0_4, rowW0_1, (rvar [(.map (.some 9))] 185), (rvar [(sl 8 0 2 2)] 37), rowW0_0, rowW0_7, rowW0_7, (rvar [I 1, I 0] 34), (rvar [I 0, I 0] 187), rowW0_8, rowW0_8, (rvar [I 1, I 0] 34), (rvar [I 1, I 0] 187), (.some (.miter 9 2 [1, 0] 2)), (rvar [I 1, I 0] 187), (rvar [I 1, I 0] 34), rowW0_6, .none, (rvar [I 0, I 0] 187), (rvar [I 1, I 0] 34), rowW0_5, rowW0_3])
theorem w0_e12 : aRun Tryz.prog env0 100000 9 [.ops w0_O 1, .code w0_R] (tput w0_L11 (some 29) (.tuple #[.bool true, (g2 0 0), (g2 1 0)])) (hset w0_X11 21 (some (.miter 9 2 [1, 0] 2))) = some (w0_L12, w0_X12, none) := by kernel_rfl
noncomputable def w0_L13 : List Value := [(sl 8 0 2 2), U, sn, (pt 10 0), U, U, U, (sl 29 0 2 2), (pt 26 0), (pt 27 0), (.map (.some 9)), (sl 8 0 2 2), (.func (.func 149) #[] #[(pt 11 0)]), U, U, U, U, U, U, U, U, U, U, U, U, U, U, (.map (.some 9)), (pt 21 0), (.tuple #[(.bool false)]), (.bool false), (.tuple #[(g2 0 0), (g2 1 0)]), (g2 0 0), (g2 1 0), (g2 1 0), (g2 0 0), (.bool true), (sl 25 0 1 1), (pt 26 0), I 0, (pt 26 1), I 0, (g2 1 0), (.agg #[I 0, I 0, I 1, I 0]), (sl 28 0 1 1), (sl 29 0 2 2), U, U, U]
noncomputable def w0_X13 : Heap := (H [rowW0_4, rowW0_1, (rvar [(.map (.some 9))] 185), (rvar [(sl 8 0 2 2)] 37), rowW0_0, rowW0_7, rowW0_7, (rvar [I 1, I 0] 34), (rvar [I 0, I 0] 187), rowW0_8, rowW0_8, (rvar [I 1, I 0] 34), (rvar [I 1, I 0] 187), (.some (.miter 9 2 [1, 0] 2)), (rvar [I 1, I 0] 187), (rvar [I 1, I 0] 34), rowW0_6, .none, (rvar [I 0, I 0] 187), (rvar [I 1, I 0] 34), rowW0_5, rowW0_3])
theorem w0_o12 : aRun Tryz.prog env0 100000 9 [.ops w0_O 1, .code w0_R, .inLoop w0_B, .inBlock 2] (tput w0_L12 (some 29) (.tuple #[.bool false])) w0_X12 = some (w0_L13, w0_X13, none) := by kernel_rfl
noncomputable def w0_L14 : List Value := [(sl 8 0 2 2), U, sn, (pt 10 0), U, U, U, (sl 29 0 2 2), (pt 26 0), (pt 27 0), (.map (.some 9)), (sl 8 0 2 2), (.func (.func 149) #[] #[(pt 11 0)]), U, U, U, U, U, U, U, U, U, U, U, U, U, U, (.map (.some 9)), (pt 21 0), (.tuple #[(.bool false)]), (.bool false), (.tuple #[(g2 0 0), (g2 1 0)]), (g2 0 0), (g2 1 0), (g2 1 0), (g2 0 0), (.bool true), (sl 25 0 1 1), (pt 26 0), I 0, (pt 26 1), I 0, (g2 1 0), (.agg #[I 0, I 0, I 1, I 0]), (sl 28 0 1 1), (sl 29 0 2 2), (sl 29 0 2 2), U, U]
noncomputable def w0_X14 : Heap := (H [rowW0_4, rowW0_1, (rvar [(.map (.some 9))] 185), (rvar [(sl 8 0 2 2)] 37), rowW0_0, rowW0_7, rowW0_7, (rvar [I 1, I 0] 34), (rvar [I 0, I 0] 187), rowW0_8, rowW0_8, (rvar [I 1, I 0] 34), (rvar [I 1, I 0] 187), (.some (.miter 9 2 [1, 0] 2)), (rvar [I 1, I 0] 187), (rvar [I 1, I 0] 34), rowW0_6, .none, (rvar [I 0, I 0] 187), (rvar [I 1, I 0] 34), rowW0_5, rowW0_2])
theorem w0_t13 : aRun Tryz.prog env0 100000 9 [.code (seqAt 5 (bodyOf 106))] w0_L13 w0_X13 = some (w0_L14, w0_X14, none) := by kernel_rfl
noncomputable def w0_L15 : List Value := [(sl 8 0 2 2), U, (sl 29 0 2 2), (pt 10 0), U, U, U, (sl 29 0 2 2), (pt 26 0), (pt 27 0), (.map (.some 9)), (sl 8 0 2 2), (.func (.func 149) #[] #[(pt 11 0)]), U, U, U, U, U, U, U, U, U, U, U, U, U, U, (.map (.some 9)), (pt 21 0), (.tuple #[(.bool false)]), (.bool false), (.tuple #[(g2 0 0), (g2 1 0)]), (g2 0 0), (g2 1 0), (g2 1 0), (g2 0 0), (.bool true), (sl 25 0 1 1), (pt 26 0), I 0, (pt 26 1), I 0, (g2 1 0), (.agg #[I 0, I 0, I 1, I 0]), (sl 28 0 1 1), (sl 29 0 2 2), (sl 29 0 2 2), U, (sl 29 0 2 2)]
noncomputable def w0_X15 : Heap := (H [rowW0_4, rowW0_1, (rvar [(.map (.some 9))] 185), (rvar [(sl 8 0 2 2)] 37), rowW0_0, rowW0_7, rowW0_7, (rvar [I 1, I 0] 34), (rvar [I 0, I 0] 187), rowW0_8, rowW0_8, (rvar [I 1, I 0] 34), (rvar [I 1, I 0] 187), (.some (.miter 9 2 [1, 0] 2)), (rvar [I 1, I 0] 187), (rvar [I 1, I 0] 34), rowW0_6, .none, (rvar [I 0, I 0] 187), (rvar [I 1, I 0] 34), rowW0_5, rowW0_2])
theorem w0_t14 : aRun Tryz.prog env0 100000 9 [.code (seqAt 6 (bodyOf 106))] w0_L14 w0_X14 = some (w0_L15, w0_X15, none) := by kernel_rfl
noncomputable def w0_Y15 : Heap := [rowW0_1, (rvar [(.map (.some 9))] 185), (rvar [(sl 8 0 2 2)] 37), rowW0_0, rowW0_7, rowW0_7, (rvar [I 1, I 0] 34), (rvar [I 0, I 0] 187), rowW0_8, rowW0_8, (rvar [I 1, I 0] 34), (rvar [I 1, I 0] 187), (.some (.miter 9 2 [1, 0] 2)), (rvar [I 1, I 0] 187), (rvar [I 1, I 0] 34), rowW0_6, .none, (rvar [I 0, I 0] 187), (rvar [I 1, I 0] 34), rowW0_5, rowW0_2]
theorem w0_n12 : EndsA Tryz.prog 8 Tryz.f106 w0_A w0_V (w0_A ++ w0_RC) [.code w0_B, .inLoop w0_B, .inBlock 2, .code (dropS 5 (bodyOf 106))] w0_L12 w0_X12 := by
  refine EndsA.mapRound w0_hB (EndsA.over (.tmp 28) (some 29) 21 9 2 2 2 [1, 0] [((g2 0 0), (g2 1 0), 0), ((g2 1 0), (g2 1 0), 1)] (by kernel_rfl) (by kernel_rfl) (by kernel_rfl) (by kernel_rfl) (by kernel_rfl) (by decide) (by kernel_rfl) ?_)
  refine EndsA.run (k := [.ops w0_O 1, .code w0_R, .inLoop w0_B, .inBlock 2]) prog_ok env0_ok ⟨_, w0_o12⟩ ?_
  refine EndsA.drop prog_ok env0_ok (by kernel_rfl) ⟨_, w0_t13⟩ ?_
  refine EndsA.drop prog_ok env0_ok (by kernel_rfl) ⟨_, w0_t14⟩ ?_
  rw [show w0_X15 = w0_A ++ w0_Y15 from by kernel_rfl]
  exact EndsA.renum (ids := [29]) (m := [.no, .no, .ren, .no, .no, .no, .no, .no, .no, .no, .no, .no, .no, .no, .no, .no, .no, .no, .no, .no, .no, .no, .no, .no, .no, .no, .no, .no, .no, .no, .free, .no, .no, .no, .no, .no, .free, .no, .no, .no, .no, .no, .no, .no, .no, .no, .no, .no, .no]) (fs := [(.bool false), (.bool true)]) (by decide) (by decide) (by decide) (by kernel_rfl) (by simp [freeB, atomB]) (RowsBy.cons (i := 29) (by kernel_rfl) (RowBy.plain (by kernel_rfl)) RowsBy.nil) w0_end
theorem w0_n11 : EndsA Tryz.prog 8 Tryz.f106 w0_A w0_V (w0_A ++ w0_RC) [.code w0_B, .inLoop w0_B, .inBlock 2, .code (dropS 5 (bodyOf 106))] w0_L11 w0_X11 := by
  refine EndsA.mapRound w0_hB (EndsA.more (.tmp 28) (some 29) 21 9 2 2 2 [1] [((g2 0 0), (g2 1 0), 0), ((g2 1 0), (g2 1 0), 1)] [((g2 0 0), (g2 1 0), 0)] (by kernel_rfl) (by kernel_rfl) (by kernel_rfl) (by kernel_rfl) (by kernel_rfl) (by decide) (by kernel_rfl) (by kernel_rfl) ?_)
  exact ⟨⟨by kernel_rfl, EndsA.run (k := [.ops w0_O 1, .code w0_R]) prog_ok env0_ok ⟨_, w0_e12⟩ (EndsA.again w0_n12)⟩, trivial⟩
theorem w0_n5 : EndsA Tryz.prog 8 Tryz.f106 w0_A w0_V (w0_A ++ w0_RC) [.code w0_B, .inLoop w0_B, .inBlock 2, .code (dropS 5 (bodyOf 106))] w0_L5 w0_X5 := by
  refine EndsA.mapRound w0_hB (EndsA.more (.tmp 28) (some 29) 21 9 2 2 2 [] [((g2 0 0), (g2 1 0), 0), ((g2 1 0), (g2 1 0), 1)] [((g2 0 0), (g2 1 0), 0), ((g2 1 0), (g2 1 0), 1)] (by kernel_rfl) (by kernel_rfl) (by kernel_rfl) (by kernel_rfl) (by kernel_rfl) (by decide) (by kernel_rfl) (by kernel_rfl) ?_)
  exact ⟨⟨by kernel_rfl, EndsA.run (k := [.ops w0_O 1, .code w0_R]) prog_ok env0_ok ⟨_, w0_e6⟩ (EndsA.again w0_n6)⟩, ⟨⟨by kernel_rfl, EndsA.run (k := [.ops w0_O 1, .code w0_R]) prog_ok env0_ok ⟨_, w0_e11⟩ (EndsA.again w0_n11)⟩, trivial⟩⟩
theorem w0_ends : EndsA Tryz.prog 8 Tryz.f106 w0_A w0_V (w0_A ++ w0_RC) [.code (dropS 0 (bodyOf 106))] w0_L0 w0_X0 := by
  refine EndsA.drop prog_ok env0_ok (by kernel_rfl) ⟨_, w0_t0⟩ ?_
  refine EndsA.drop prog_ok env0_ok (by kernel_rfl) ⟨_, w0_t1⟩ ?_
  refine EndsA.drop prog_ok env0_ok (by kernel_rfl) ⟨_, w0_t2⟩ ?_
  refine EndsA.drop prog_ok env0_ok (by kernel_rfl) ⟨_, w0_t3⟩ ?_
  refine EndsA.dropSeq (by kernel_rfl) ?_
  rw [w0_hS]
  exact EndsA.seq (EndsA.run (k := [.code (headS (seqAt 4 (bodyOf 106)))]) prog_ok env0_ok ⟨_, w0_t4⟩ (EndsA.blockLoop w0_hC w0_n5))
theorem w0_says : SaysAt Tryz.prog 8 106 [.slice (some ⟨8, 0, none⟩) 2 2] w0_A w0_V (w0_A ++ w0_RC) :=
  EndsA.says prog_ok Tryz.func106 (c := bodyOf 106) (by kernel_rfl) (by decide) (EndsA.cast (by kernel_rfl) (by kernel_rfl) (by kernel_rfl) w0_ends) (by simp) (fun i hi => by rw [hget_append, if_pos hi]) (by kernel_rfl)
end Go.Proofs.YtpdiaiccnaoaiaaGreatDoor
/-
The weights of a list of the document's examples, whatever the order of the map.
-/
namespace Go.Proofs.YtpdiaiccnaoaiaaGreatDoor
open Go Go.Abs
noncomputable def rowW1_0 : Option ARow := (.some (.loop ([(sl 8 0 2 2), U, sn, (pt 10 0), U, U, U, U, U, U, (.map (.some 9)), (sl 8 0 2 2), (.func (.func 149) #[] #[(pt 11 0)])] ++ us 36) #[13, 14] codeW0_0 codeW0_1 .exhausted .none))
noncomputable def rowW1_1 : Option ARow := (.some (.map [(.mk (g2 0 0) (.mk (g2 1 0) 0)), (.mk (g2 0 1) (.mk (g2 1 0) 1))] 2))
noncomputable def rowW1_2 : Option ARow := (rrow [I 0, I 0, I 1, I 0, I 0, I 1, I 1, I 0] 125)
noncomputable def rowW1_3 : Option ARow := (rrow [I 0, I 1, I 1, I 0, I 0, I 0, I 1, I 0] 125)
noncomputable def rowW1_4 : Option ARow := (rrow [I 0, I 0, I 1, I 0, I 0, I 1, I 1, I 0] 32)
noncomputable def rowW1_5 : Option ARow := (rrow [I 0, I 0, I 1, I 0] 125)
noncomputable def rowW1_6 : Option ARow := (rrow [I 0, I 1, I 1, I 0] 125)
noncomputable def rowW1_7 : Option ARow := (rvar [I 0, I 0, I 1, I 0] 32)
noncomputable def rowW1_8 : Option ARow := (rvar [I 0, I 1, I 1, I 0] 32)
noncomputable def w1_B : Code := loopB (tailS (seqAt 4 (bodyOf 106)))
noncomputable def w1_O : Array Oper := headOps w1_B
noncomputable def w1_R : Code := tailS w1_B
theorem w1_hS : seqAt 4 (bodyOf 106) = .seq (headS (seqAt 4 (bodyOf 106))) (tailS (seqAt 4 (bodyOf 106))) := by kernel_rfl
theorem w1_hC : tailS (seqAt 4 (bodyOf 106)) = .block 2 (.loop w1_B) := by kernel_rfl
theorem w1_hB : w1_B = .seq (.region (headId w1_B) w1_O false) w1_R := by kernel_rfl
noncomputable def w1_A : Heap := (H [some (.cells [.int .i64 0, .int .i64 0, .int .i64 1, .int .i64 0, .int .i64 0, .int .i64 1, .int .i64 1, .int .i64 0] 32 .row)])
noncomputable def w1_L0 : List Value := ([(sl 8 0 2 2)] ++ us 48)
noncomputable def w1_X0 : Heap := (H [rowW1_4])
noncomputable def w1_L1 : List Value := ([(sl 8 0 2 2), U, sn] ++ us 46)
noncomputable def w1_X1 : Heap := (H [rowW1_4])
theorem w1_t0 : aRun Tryz.prog env0 100000 9 [.code (seqAt 0 (bodyOf 106))] w1_L0 w1_X0 = some (w1_L1, w1_X1, none) := by kernel_rfl
noncomputable def w1_L2 : List Value := ([(sl 8 0 2 2), U, sn, (pt 10 0), U, U, U, U, U, U, (.map (.some 9))] ++ us 38)
noncomputable def w1_X2 : Heap := (H [rowW1_4, (.some (.map [] 0)), (rvar [(.map (.some 9))] 185)])
theorem w1_t1 : aRun Tryz.prog env0 100000 9 [.code (seqAt 1 (bodyOf 106))] w1_L1 w1_X1 = some (w1_L2, w1_X2, none) := by kernel_rfl
noncomputable def w1_L3 : List Value := ([(sl 8 0 2 2), U, sn, (pt 10 0), U, U, U, U, U, U, (.map (.some 9)), (sl 8 0 2 2), (.func (.func 149) #[] #[(pt 11 0)])] ++ us 36)
noncomputable def w1_X3 : Heap := (H [rowW1_4, rowW1_1, (rvar [(.map (.some 9))] 185), (rvar [(sl 8 0 2 2)] 37), rowW1_0, rowW1_7, rowW1_7, (rvar [I 1, I 0] 34), (rvar [I 0, I 0] 187), rowW1_8, rowW1_8, (rvar [I 1, I 0] 34), (rvar [I 0, I 1] 187)])
theorem w1_t2 : aRun Tryz.prog env0 100000 9 [.code (seqAt 2 (bodyOf 106))] w1_L2 w1_X2 = some (w1_L3, w1_X3, none) := by kernel_rfl
noncomputable def w1_L4 : List Value := ([(sl 8 0 2 2), U, sn, (pt 10 0), U, U, U, sn, U, U, (.map (.some 9)), (sl 8 0 2 2), (.func (.func 149) #[] #[(pt 11 0)])] ++ us 36)
noncomputable def w1_X4 : Heap := (H [rowW1_4, rowW1_1, (rvar [(.map (.some 9))] 185), (rvar [(sl 8 0 2 2)] 37), rowW1_0, rowW1_7, rowW1_7, (rvar [I 1, I 0] 34), (rvar [I 0, I 0] 187), rowW1_8, rowW1_8, (rvar [I 1, I 0] 34), (rvar [I 0, I 1] 187)])
theorem w1_t3 : aRun Tryz.prog env0 100000 9 [.code (seqAt 3 (bodyOf 106))] w1_L3 w1_X3 = some (w1_L4, w1_X4, none) := by kernel_rfl
noncomputable def w1_L5 : List Value := ([(sl 8 0 2 2), U, sn, (pt 10 0), U, U, U, sn, U, U, (.map (.some 9)), (sl 8 0 2 2), (.func (.func 149) #[] #[(pt 11 0)]), U, U, U, U, U, U, U, U, U, U, U, U, U, U, (.map (.some 9)), (pt 21 0)] ++ us 20)
noncomputable def w1_X5 : Heap := (H [rowW1_4, rowW1_1, (rvar [(.map (.some 9))] 185), (rvar [(sl 8 0 2 2)] 37), rowW1_0, rowW1_7, rowW1_7, (rvar [I 1, I 0] 34), (rvar [I 0, I 0] 187), rowW1_8, rowW1_8, (rvar [I 1, I 0] 34), (rvar [I 0, I 1] 187), (.some (.miter 9 2 [] 2))])
theorem w1_t4 : aRun Tryz.prog env0 100000 9 [.code (headS (seqAt 4 (bodyOf 106)))] w1_L4 w1_X4 = some (w1_L5, w1_X5, none) := by kernel_rfl
noncomputable def w1_L6 : List Value := [(sl 8 0 2 2), U, sn, (pt 10 0), U, U, U, (sl 25 0 1 1), (pt 22 0), (pt 23 0), (.map (.some 9)), (sl 8 0 2 2), (.func (.func 149) #[] #[(pt 11 0)]), U, U, U, U, U, U, U, U, U, U, U, U, U, U, (.map (.some 9)), (pt 21 0), (.tuple #[(.bool true), (g2 0 0), (g2 1 0)]), (.bool true), (.tuple #[(g2 0 0), (g2 1 0)]), (g2 0 0), (g2 1 0), (g2 1 0), (g2 0 0), (.bool true), sn, (pt 22 0), I 0, (pt 22 1), I 0, (g2 1 0), (.agg #[I 0, I 0, I 1, I 0]), (sl 24 0 1 1), (sl 25 0 1 1), U, U, U]
noncomputable def w1_X6 : Heap := (H [rowW1_4, rowW1_1, (rvar [(.map (.some 9))] 185), (rvar [(sl 8 0 2 2)] 37), rowW1_0, rowW1_7, rowW1_7, (rvar [I 1, I 0] 34), (rvar [I 0, I 0] 187), rowW1_8, rowW1_8, (rvar [I 1, I 0] 34), (rvar [I 0, I 1] 187), (.some (.miter 9 2 [0] 2)), (rvar [I 0, I 0] 187), (rvar [I 1, I 0] 34), rowW1_5, rowW1_5])
theorem w1_e6 : aRun Tryz.prog env0 100000 9 [.ops w1_O 1, .code w1_R] (tput w1_L5 (some 29) (.tuple #[.bool true, (g2 0 0), (g2 1 0)])) (hset w1_X5 21 (some (.miter 9 2 [0] 2))) = some (w1_L6, w1_X6, none) := by kernel_rfl
noncomputable def w1_L7 : List Value := [(sl 8 0 2 2), U, sn, (pt 10 0), U, U, U, (sl 29 0 2 2), (pt 26 0), (pt 27 0), (.map (.some 9)), (sl 8 0 2 2), (.func (.func 149) #[] #[(pt 11 0)]), U, U, U, U, U, U, U, U, U, U, U, U, U, U, (.map (.some 9)), (pt 21 0), (.tuple #[(.bool true), (g2 0 1), (g2 1 0)]), (.bool true), (.tuple #[(g2 0 1), (g2 1 0)]), (g2 0 1), (g2 1 0), (g2 1 0), (g2 0 0), (.bool true), (sl 25 0 1 1), (pt 26 0), I 0, (pt 26 1), I 1, (g2 1 0), (.agg #[I 0, I 1, I 1, I 0]), (sl 28 0 1 1), (sl 29 0 2 2), U, U, U]
noncomputable def w1_X7 : Heap := (H [rowW1_4, rowW1_1, (rvar [(.map (.some 9))] 185), (rvar [(sl 8 0 2 2)] 37), rowW1_0, rowW1_7, rowW1_7, (rvar [I 1, I 0] 34), (rvar [I 0, I 0] 187), rowW1_8, rowW1_8, (rvar [I 1, I 0] 34), (rvar [I 0, I 1] 187), (.some (.miter 9 2 [0, 1] 2)), (rvar [I 0, I 0] 187), (rvar [I 1, I 0] 34), rowW1_5, .none, (rvar [I 0, I 1] 187), (rvar [I 1, I 0] 34), rowW1_6, rowW1_2])
theorem w1_e7 : aRun Tryz.prog env0 100000 9 [.ops w1_O 1, .code w1_R] (tput w1_L6 (some 29) (.tuple #[.bool true, (g2 0 1), (g2 1 0)])) (hset w1_X6 21 (some (.miter 9 2 [0, 1] 2))) = some (w1_L7, w1_X7, none) := by kernel_rfl
noncomputable def w1_L8 : List Value := [(sl 8 0 2 2), U, sn, (pt 10 0), U, U, U, (sl 29 0 2 2), (pt 26 0), (pt 27 0), (.map (.some 9)), (sl 8 0 2 2), (.func (.func 149) #[] #[(pt 11 0)]), U, U, U, U, U, U, U, U, U, U, U, U, U, U, (.map (.some 9)), (pt 21 0), (.tuple #[(.bool false)]), (.bool false), (.tuple #[(g2 0 1), (g2 1 0)]), (g2 0 1), (g2 1 0), (g2 1 0), (g2 0 0), (.bool true), (sl 25 0 1 1), (pt 26 0), I 0, (pt 26 1), I 1, (g2 1 0), (.agg #[I 0, I 1, I 1, I 0]), (sl 28 0 1 1), (sl 29 0 2 2), U, U, U]
noncomputable def w1_X8 : Heap := (H [rowW1_4, rowW1_1, (rvar [(.map (.some 9))] 185), (rvar [(sl 8 0 2 2)] 37), rowW1_0, rowW1_7, rowW1_7, (rvar [I 1, I 0] 34), (rvar [I 0, I 0] 187), rowW1_8, rowW1_8, (rvar [I 1, I 0] 34), (rvar [I 0, I 1] 187), (.some (.miter 9 2 [0, 1] 2)), (rvar [I 0, I 0] 187), (rvar [I 1, I 0] 34), rowW1_5, .none, (rvar [I 0, I 1] 187), (rvar [I 1, I 0] 34), rowW1_6, rowW1_2])
theorem w1_o7 : aRun Tryz.prog env0 100000 9 [.ops w1_O 1, .code w1_R, .inLoop w1_B, .inBlock 2] (tput w1_L7 (some 29) (.tuple #[.bool false])) w1_X7 = some (w1_L8, w1_X8, none) := by kernel_rfl
noncomputable def w1_L9 : List Value := [(sl 8 0 2 2), U, sn, (pt 10 0), U, U, U, (sl 29 0 2 2), (pt 26 0), (pt 27 0), (.map (.some 9)), (sl 8 0 2 2), (.func (.func 149) #[] #[(pt 11 0)]), U, U, U, U, U, U, U, U, U, U, U, U, U, U, (.map (.some 9)), (pt 21 0), (.tuple #[(.bool false)]), (.bool false), (.tuple #[(g2 0 1), (g2 1 0)]), (g2 0 1), (g2 1 0), (g2 1 0), (g2 0 0), (.bool true), (sl 25 0 1 1), (pt 26 0), I 0, (pt 26 1), I 1, (g2 1 0), (.agg #[I 0, I 1, I 1, I 0]), (sl 28 0 1 1), (sl 29 0 2 2), (sl 29 0 2 2), U, U]
noncomputable def w1_X9 : Heap := (H [rowW1_4, rowW1_1, (rvar [(.map (.some 9))] 185), (rvar [(sl 8 0 2 2)] 37), rowW1_0, rowW1_7, rowW1_7, (rvar [I 1, I 0] 34), (rvar [I 0, I 0] 187), rowW1_8, rowW1_8, (rvar [I 1, I 0] 34), (rvar [I 0, I 1] 187), (.some (.miter 9 2 [0, 1] 2)), (rvar [I 0, I 0] 187), (rvar [I 1, I 0] 34), rowW1_5, .none, (rvar [I 0, I 1] 187), (rvar [I 1, I 0] 34), rowW1_6, rowW1_2])
theorem w1_t8 : aRun Tryz.prog env0 100000 9 [.code (seqAt 5 (bodyOf 106))] w1_L8 w1_X8 = some (w1_L9, w1_X9, none) := by kernel_rfl
noncomputable def w1_L10 : List Value := [(sl 8 0 2 2), U, (sl 29 0 2 2), (pt 10 0), U, U, U, (sl 29 0 2 2), (pt 26 0), (pt 27 0), (.map (.some 9)), (sl 8 0 2 2), (.func (.func 149) #[] #[(pt 11 0)]), U, U, U, U, U, U, U, U, U, U, U, U, U, U, (.map (.some 9)), (pt 21 0), (.tuple #[(.bool false)]), (.bool false), (.tuple #[(g2 0 1), (g2 1 0)]), (g2 0 1), (g2 1 0), (g2 1 0), (g2 0 0), (.bool true), (sl 25 0 1 1), (pt 26 0), I 0, (pt 26 1), I 1, (g2 1 0), (.agg #[I 0, I 1, I 1, I 0]), (sl 28 0 1 1), (sl 29 0 2 2), (sl 29 0 2 2), U, (sl 29 0 2 2)]
noncomputable def w1_X10 : Heap := (H [rowW1_4, rowW1_1, (rvar [(.map (.some 9))] 185), (rvar [(sl 8 0 2 2)] 37), rowW1_0, rowW1_7, rowW1_7, (rvar [I 1, I 0] 34), (rvar [I 0, I 0] 187), rowW1_8, rowW1_8, (rvar [I 1, I 0] 34), (rvar [I 0, I 1] 187), (.some (.miter 9 2 [0, 1] 2)), (rvar [I 0, I 0] 187), (rvar [I 1, I 0] 34), rowW1_5, .none, (rvar [I 0, I 1] 187), (rvar [I 1, I 0] 34), rowW1_6, rowW1_2])
theorem w1_t9 : aRun Tryz.prog env0 100000 9 [.code (seqAt 6 (bodyOf 106))] w1_L9 w1_X9 = some (w1_L10, w1_X10, none) := by kernel_rfl
noncomputable def w1_LC : List Value := [junk, junk, (.slice (some ⟨9, 0, none⟩) 2 2), junk, junk, junk, junk, junk, junk, junk, junk, junk, junk, junk, junk, junk, junk, junk, junk, junk, junk, junk, junk, junk, junk, junk, junk, junk, junk, junk, (.bool false), junk, junk, junk, junk, junk, (.bool true), junk, junk, junk, junk, junk, junk, junk, junk, junk, junk, junk, junk]
noncomputable def w1_RC : Heap := [rowW1_2]
noncomputable def w1_V : Value := (.slice (some ⟨9, 0, none⟩) 2 2)
theorem w1_c : aRun Tryz.prog env0 100000 9 [.code (dropS 7 (bodyOf 106))] w1_LC (w1_A ++ w1_RC) = some (w1_LC, w1_A ++ w1_RC, some .ret) := by kernel_rfl
theorem w1_end : EndsA Tryz.prog 8 Tryz.f106 w1_A w1_V (w1_A ++ w1_RC) [.code (dropS 7 (bodyOf 106))] w1_LC (w1_A ++ w1_RC) := EndsA.ret prog_ok env0_ok ⟨_, w1_c⟩ rfl (by kernel_rfl)
noncomputable def w1_Y10 : Heap := [rowW1_1, (rvar [(.map (.some 9))] 185), (rvar [(sl 8 0 2 2)] 37), rowW1_0, rowW1_7, rowW1_7, (rvar [I 1, I 0] 34), (rvar [I 0, I 0] 187), rowW1_8, rowW1_8, (rvar [I 1, I 0] 34), (rvar [I 0, I 1] 187), (.some (.miter 9 2 [0, 1] 2)), (rvar [I 0, I 0] 187), (rvar [I 1, I 0] 34), rowW1_5, .none, (rvar [I 0, I 1] 187), (rvar [I 1, I 0] 34), rowW1_6, rowW1_2]
theorem w1_n7 : EndsA Tryz.prog 8 Tryz.f106 w1_A w1_V (w1_A ++ w1_RC) [.code w1_B, .inLoop w1_B, .inBlock 2, .code (dropS 5 (bodyOf 106))] w1_L7 w1_X7 := by
  refine EndsA.mapRound w1_hB (EndsA.over (.tmp 28) (some 29) 21 9 2 2 2 [0, 1] [((g2 0 0), (g2 1 0), 0), ((g2 0 1), (g2 1 0), 1)] (by kernel_rfl) (by kernel_rfl) (by kernel_rfl) (by kernel_rfl) (by kernel_rfl) (by decide) (by kernel_rfl) ?_)
  refine EndsA.run (k := [.ops w1_O 1, .code w1_R, .inLoop w1_B, .inBlock 2]) prog_ok env0_ok ⟨_, w1_o7⟩ ?_
  refine EndsA.drop prog_ok env0_ok (by kernel_rfl) ⟨_, w1_t8⟩ ?_
  refine EndsA.drop prog_ok env0_ok (by kernel_rfl) ⟨_, w1_t9⟩ ?_
  rw [show w1_X10 = w1_A ++ w1_Y10 from by kernel_rfl]
  exact EndsA.renum (ids := [29]) (m := [.no, .no, .ren, .no, .no, .no, .no, .no, .no, .no, .no, .no, .no, .no, .no, .no, .no, .no, .no, .no, .no, .no, .no, .no, .no, .no, .no, .no, .no, .no, .free, .no, .no, .no, .no, .no, .free, .no, .no, .no, .no, .no, .no, .no, .no, .no, .no, .no, .no]) (fs := [(.bool false), (.bool true)]) (by decide) (by decide) (by decide) (by kernel_rfl) (by simp [freeB, atomB]) (RowsBy.cons (i := 29) (by kernel_rfl) (RowBy.plain (by kernel_rfl)) RowsBy.nil) w1_end
theorem w1_n6 : EndsA Tryz.prog 8 Tryz.f106 w1_A w1_V (w1_A ++ w1_RC) [.code w1_B, .inLoop w1_B, .inBlock 2, .code (dropS 5 (bodyOf 106))] w1_L6 w1_X6 := by
  refine EndsA.mapRound w1_hB (EndsA.more (.tmp 28) (some 29) 21 9 2 2 2 [0] [((g2 0 0), (g2 1 0), 0), ((g2 0 1), (g2 1 0), 1)] [((g2 0 1), (g2 1 0), 1)] (by kernel_rfl) (by kernel_rfl) (by kernel_rfl) (by kernel_rfl) (by kernel_rfl) (by decide) (by kernel_rfl) (by kernel_rfl) ?_)
  exact ⟨⟨by kernel_rfl, EndsA.run (k := [.ops w1_O 1, .code w1_R]) prog_ok env0_ok ⟨_, w1_e7⟩ (EndsA.again w1_n7)⟩, trivial⟩
noncomputable def w1_L11 : List Value := [(sl 8 0 2 2), U, sn, (pt 10 0), U, U, U, (sl 25 0 1 1), (pt 22 0), (pt 23 0), (.map (.some 9)), (sl 8 0 2 2), (.func (.func 149) #[] #[(pt 11 0)]), U, U, U, U, U, U, U, U, U, U, U, U, U, U, (.map (.some 9)), (pt 21 0), (.tuple #[(.bool true), (g2 0 1), (g2 1 0)]), (.bool true), (.tuple #[(g2 0 1), (g2 1 0)]), (g2 0 1), (g2 1 0), (g2 1 0), (g2 0 0), (.bool true), sn, (pt 22 0), I 0, (pt 22 1), I 1, (g2 1 0), (.agg #[I 0, I 1, I 1, I 0]), (sl 24 0 1 1), (sl 25 0 1 1), U, U, U]
noncomputable def w1_X11 : Heap := (H [rowW1_4, rowW1_1, (rvar [(.map (.some 9))] 185), (rvar [(sl 8 0 2 2)] 37), rowW1_0, rowW1_7, rowW1_7, (rvar [I 1, I 0] 34), (rvar [I 0, I 0] 187), rowW1_8, rowW1_8, (rvar [I 1, I 0] 34), (rvar [I 0, I 1] 187), (.some (.miter 9 2 [1] 2)), (rvar [I 0, I 1] 187), (rvar [I 1, I 0] 34), rowW1_6, rowW1_6])
theorem w1_e11 : aRun Tryz.prog env0 100000 9 [.ops w1_O 1, .code w1_R] (tput w1_L5 (some 29) (.tuple #[.bool true, (g2 0 1), (g2 1 0)])) (hset w1_X5 21 (some (.miter 9 2 [1] 2))) = some (w1_L11, w1_X11, none) := by kernel_rfl
noncomputable def w1_L12 : List Value := [(sl 8 0 2 2), U, sn, (pt 10 0), U, U, U, (sl 29 0 2 2), (pt 26 0), (pt 27 0), (.map (.some 9)), (sl 8 0 2 2), (.func (.func 149) #[] #[(pt 11 0)]), U, U, U, U, U, U, U, U, U, U, U, U, U, U, (.map (.some 9)), (pt 21 0), (.tuple #[(.bool true), (g2 0 0), (g2 1 0)]), (.bool true), (.tuple #[(g2 0 0), (g2 1 0)]), (g2 0 0), (g2 1 0), (g2 1 0), (g2 0 0), (.bool true), (sl 25 0 1 1), (pt 26 0), I 0, (pt 26 1), I 0, (g2 1 0), (.agg #[I 0, I 0, I 1, I 0]), (sl 28 0 1 1), (sl 29 0 2 2), U, U, U]
noncomputable def w1_X12 : Heap := (H [rowW1_4, rowW1_1, (rvar [(.map (.some 9))] 185), (rvar [(sl 8 0 2 2)] 37), rowW1_0, rowW1_7, rowW1_7, (rvar [I 1, I 0] 34), (rvar [I 0, I 0] 187), rowW1_8, rowW1_8, (rvar [I 1, I 0] 34), (rvar [I 0, I 1] 187), (.some (.miter 9 2 [1, 0] 2)), (rvar [I 0, I 1] 187), (rvar [I 1, I 0] 34), rowW1_6, .none, (rvar [I 0, I 0] 187), (rvar [I 1, I 0] 34), rowW1_5, rowW1_3])
theorem w1_e12 : aRun Tryz.prog env0 100000 9 [.ops w1_O 1, .code w1_R] (tput w1_L11 (some 29) (.tuple #[.bool true, (g2 0 0), (g2 1 0)])) (hset w1_X11 21 (some (.miter 9 2 [1, 0] 2))) = some (w1_L12, w1_X12, none) := by kernel_rfl
noncomputable def w1_L13 : List Value := [(sl 8 0 2 2), U, sn, (pt 10 0), U, U, U, (sl 29 0 2 2), (pt 26 0), (pt 27 0), (.map (.some 9)), (sl 8 0 2 2), (.func (.func 149) #[] #[(pt 11 0)]), U, U, U, U, U, U, U, U, U, U, U, U, U, U, (.map (.some 9)), (pt 21 0), (.tuple #[(.bool false)]), (.bool false), (.tuple #[(g2 0 0), (g2 1 0)]), (g2 0 0), (g2 1 0), (g2 1 0), (g2 0 0), (.bool true), (sl 25 0 1 1), (pt 26 0), I 0, (pt 26 1), I 0, (g2 1 0), (.agg #[I 0, I 0, I 1, I 0]), (sl 28 0 1 1), (sl 29 0 2 2), U, U, U]
noncomputable def w1_X13 : Heap := (H [rowW1_4, rowW1_1, (rvar [(.map (.some 9))] 185), (rvar [(sl 8 0 2 2)] 37), rowW1_0, rowW1_7, rowW1_7, (rvar [I 1, I 0] 34), (rvar [I 0, I 0] 187), rowW1_8, rowW1_8, (rvar [I 1, I 0] 34), (rvar [I 0, I 1] 187), (.some (.miter 9 2 [1, 0] 2)), (rvar [I 0, I 1] 187), (rvar [I 1, I 0] 34), rowW1_6, .none, (rvar [I 0, I 0] 187), (rvar [I 1, I 0] 34), rowW1_5, rowW1_3])
theorem w1_o12 : aRun Tryz.prog env0 100000 9 [.ops w1_O 1, .code w1_R, .inLoop w1_B, .inBlock 2] (tput w1_L12 (some 29) (.tuple #[.bool false])) w1_X12 = some (w1_L13, w1_X13, none) := by kernel_rfl
noncomputable def w1_L14 : List Value := [(sl 8 0 2 2), U, sn, (pt 10 0), U, U, U, (sl 29 0 2 2), (pt 26 0), (pt 27 0), (.map (.some 9)), (sl 8 0 2 2), (.func (.func 149) #[] #[(pt 11 0)]), U, U, U, U, U, U, U, U, U, U, U, U, U, U, (.map (.some 9)), (pt 21 0), (.tuple #[(.bool false)]), (.bool false), (.tuple #[(g2 0 0), (g2 1 0)]), (g2 0 0), (g2 1 0), (g2 1 0), (g2 0 0), (.bool true), (sl 25 0 1 1), (pt 26 0), I 0, (pt 26 1), I 0, (g2 1 0), (.agg #[I 0, I 0, I 1, I 0]), (sl 28 0 1 1), (sl 29 0 2 2), (sl 29 0 2 2), U, U]
noncomputable def w1_X14 : Heap := (H [rowW1_4, rowW1_1, (rvar [(.map (.some 9))] 185), (rvar [(sl 8 0 2 2)] 37), rowW1_0, rowW1_7, rowW1_7, (rvar [I 1, I 0] 34), (rvar [I 0, I 0] 187), rowW1_8, rowW1_8, (rvar [I 1, I 0] 34), (rvar [I 0, I 1] 187), (.some (.miter 9 2 [1, 0] 2)), (rvar [I 0, I 1] 187), (rvar [I 1, I 0] 34), rowW1_6, .none, (rvar [I 0, I 0] 187), (rvar [I 1, I 0] 34), rowW1_5, rowW1_2])
theorem w1_t13 : aRun Tryz.prog env0 100000 9 [.code (seqAt 5 (bodyOf 106))] w1_L13 w1_X13 = some (w1_L14, w1_X14, none) := by kernel_rfl
noncomputable def w1_L15 : List Value := [(sl 8 0 2 2), U, (sl 29 0 2 2), (pt 10 0), U, U, U, (sl 29 0 2 2), (pt 26 0), (pt 27 0), (.map (.some 9)), (sl 8 0 2 2), (.func (.func 149) #[] #[(pt 11 0)]), U, U, U, U, U, U, U, U, U, U, U, U, U, U, (.map (.some 9)), (pt 21 0), (.tuple #[(.bool false)]), (.bool false), (.tuple #[(g2 0 0), (g2 1 0)]), (g2 0 0), (g2 1 0), (g2 1 0), (g2 0 0), (.bool true), (sl 25 0 1 1), (pt 26 0), I 0, (pt 26 1), I 0, (g2 1 0), (.agg #[I 0, I 0, I 1, I 0]), (sl 28 0 1 1), (sl 29 0 2 2), (sl 29 0 2 2), U, (sl 29 0 2 2)]
noncomputable def w1_X15 : Heap := (H [rowW1_4, rowW1_1, (rvar [(.map (.some 9))] 185), (rvar [(sl 8 0 2 2)] 37), rowW1_0, rowW1_7, rowW1_7, (rvar [I 1, I 0] 34), (rvar [I 0, I 0] 187), rowW1_8, rowW1_8, (rvar [I 1, I 0] 34), (rvar [I 0, I 1] 187), (.some (.miter 9 2 [1, 0] 2)), (rvar [I 0, I 1] 187), (rvar [I 1, I 0] 34), rowW1_6, .none, (rvar [I 0, I 0] 187), (rvar [I 1, I 0] 34), rowW1_5, rowW1_2])
theorem w1_t14 : aRun Tryz.prog env0 100000 9 [.code (seqAt 6 (bodyOf 106))] w1_L14 w1_X14 = some (w1_L15, w1_X15, none) := by kernel_rfl
noncomputable def w1_Y15 : Heap := [rowW1_1, (rvar [(.map (.some 9))] 185), (rvar [(sl 8 0 2 2)] 37), rowW1_0, rowW1_7, rowW1_7, (rvar [I 1, I 0] 34), (rvar [I 0, I 0] 187), rowW1_8, rowW1_8, (rvar [I 1, I 0] 34), (rvar [I 0, I 1] 187), (.some (.miter 9 2 [1, 0] 2)), (rvar [I 0, I 1] 187), (rvar [I 1, I 0] 34), rowW1_6, .none, (rvar [I 0, I 0] 187), (rvar [I 1, I 0] 34), rowW1_5, rowW1_2]
theorem w1_n12 : EndsA Tryz.prog 8 Tryz.f106 w1_A w1_V (w1_A ++ w1_RC) [.code w1_B, .inLoop w1_B, .inBlock 2, .code (dropS 5 (bodyOf 106))] w1_L12 w1_X12 := by
  refine EndsA.mapRound w1_hB (EndsA.over (.tmp 28) (some 29) 21 9 2 2 2 [1, 0] [((g2 0 0), (g2 1 0), 0), ((g2 0 1), (g2 1 0), 1)] (by kernel_rfl) (by kernel_rfl) (by kernel_rfl) (by kernel_rfl) (by kernel_rfl) (by decide) (by kernel_rfl) ?_)
  refine EndsA.run (k := [.ops w1_O 1, .code w1_R, .inLoop w1_B, .inBlock 2]) prog_ok env0_ok ⟨_, w1_o12⟩ ?_
  refine EndsA.drop prog_ok env0_ok (by kernel_rfl) ⟨_, w1_t13⟩ ?_
  refine EndsA.drop prog_ok env0_ok (by kernel_rfl) ⟨_, w1_t14⟩ ?_
  rw [show w1_X15 = w1_A ++ w1_Y15 from by kernel_rfl]
  exact EndsA.renum (ids := [29]) (m := [.no, .no, .ren, .no, .no, .no, .no, .no, .no, .no, .no, .no, .no, .no, .no, .no, .no, .no, .no, .no, .no, .no, .no, .no, .no, .no, .no, .no, .no, .no, .free, .no, .no, .no, .no, .no, .free, .no, .no, .no, .no, .no, .no, .no, .no, .no, .no, .no, .no]) (fs := [(.bool false), (.bool true)]) (by decide) (by decide) (by decide) (by kernel_rfl) (by simp [freeB, atomB]) (RowsBy.cons (i := 29) (by kernel_rfl) (RowBy.plain (by kernel_rfl)) RowsBy.nil) w1_end
theorem w1_n11 : EndsA Tryz.prog 8 Tryz.f106 w1_A w1_V (w1_A ++ w1_RC) [.code w1_B, .inLoop w1_B, .inBlock 2, .code (dropS 5 (bodyOf 106))] w1_L11 w1_X11 := by
  refine EndsA.mapRound w1_hB (EndsA.more (.tmp 28) (some 29) 21 9 2 2 2 [1] [((g2 0 0), (g2 1 0), 0), ((g2 0 1), (g2 1 0), 1)] [((g2 0 0), (g2 1 0), 0)] (by kernel_rfl) (by kernel_rfl) (by kernel_rfl) (by kernel_rfl) (by kernel_rfl) (by decide) (by kernel_rfl) (by kernel_rfl) ?_)
  exact ⟨⟨by kernel_rfl, EndsA.run (k := [.ops w1_O 1, .code w1_R]) prog_ok env0_ok ⟨_, w1_e12⟩ (EndsA.again w1_n12)⟩, trivial⟩
theorem w1_n5 : EndsA Tryz.prog 8 Tryz.f106 w1_A w1_V (w1_A ++ w1_RC) [.code w1_B, .inLoop w1_B, .inBlock 2, .code (dropS 5 (bodyOf 106))] w1_L5 w1_X5 := by
  refine EndsA.mapRound w1_hB (EndsA.more (.tmp 28) (some 29) 21 9 2 2 2 [] [((g2 0 0), (g2 1 0), 0), ((g2 0 1), (g2 1 0), 1)] [((g2 0 0), (g2 1 0), 0), ((g2 0 1), (g2 1 0), 1)] (by kernel_rfl) (by kernel_rfl) (by kernel_rfl) (by kernel_rfl) (by kernel_rfl) (by decide) (by kernel_rfl) (by kernel_rfl) ?_)
  exact ⟨⟨by kernel_rfl, EndsA.run (k := [.ops w1_O 1, .code w1_R]) prog_ok env0_ok ⟨_, w1_e6⟩ (EndsA.again w1_n6)⟩, ⟨⟨by kernel_rfl, EndsA.run (k := [.ops w1_O 1, .code w1_R]) prog_ok env0_ok ⟨_, w1_e11⟩ (EndsA.again w1_n11)⟩, trivial⟩⟩
theorem w1_ends : EndsA Tryz.prog 8 Tryz.f106 w1_A w1_V (w1_A ++ w1_RC) [.code (dropS 0 (bodyOf 106))] w1_L0 w1_X0 := by
  refine EndsA.drop prog_ok env0_ok (by kernel_rfl) ⟨_, w1_t0⟩ ?_
  refine EndsA.drop prog_ok env0_ok (by kernel_rfl) ⟨_, w1_t1⟩ ?_
  refine EndsA.drop prog_ok env0_ok (by kernel_rfl) ⟨_, w1_t2⟩ ?_
  refine EndsA.drop prog_ok env0_ok (by kernel_rfl) ⟨_, w1_t3⟩ ?_
  refine EndsA.dropSeq (by kernel_rfl) ?_
  rw [w1_hS]
  exact EndsA.seq (EndsA.run (k := [.code (headS (seqAt 4 (bodyOf 106)))]) prog_ok env0_ok ⟨_, w1_t4⟩ (EndsA.blockLoop w1_hC w1_n5))
theorem w1_says : SaysAt Tryz.prog 8 106 [.slice (some ⟨8, 0, none⟩) 2 2] w1_A w1_V (w1_A ++ w1_RC) :=
  EndsA.says prog_ok Tryz.func106 (c := bodyOf 106) (by kernel_rfl) (by decide) (EndsA.cast (by kernel_rfl) (by kernel_rfl) (by kernel_rfl) w1_ends) (by simp) (fun i hi => by rw [hget_append, if_pos hi]) (by kernel_rfl)
end Go.Proofs.YtpdiaiccnaoaiaaGreatDoor
/-
The weights of a list of the document's examples, whatever the order of the map.
-/
namespace Go.Proofs.YtpdiaiccnaoaiaaGreatDoor
open Go Go.Abs
noncomputable def rowW2_0 : Option ARow := (.some (.loop ([(sl 8 0 2 2), U, sn, (pt 10 0), U, U, U, U, U, U, (.map (.some 9)), (sl 8 0 2 2), (.func (.func 149) #[] #[(pt 11 0)])] ++ us 36) #[13, 14] codeW0_0 codeW0_1 .exhausted .none))
noncomputable def rowW2_1 : Option ARow := (.some (.map [(.mk (g2 0 0) (.mk (g2 1 0) 0)), (.mk (g2 (-1) 0) (.mk (g2 1 0) 1))] 2))
noncomputable def rowW2_2 : Option ARow := (rrow [I 0, I 0, I 1, I 0, (I (-1)), I 0, I 1, I 0] 125)
noncomputable def rowW2_3 : Option ARow := (rrow [(I (-1)), I 0, I 1, I 0, I 0, I 0, I 1, I 0] 125)
noncomputable def rowW2_4 : Option ARow := (rrow [I 0, I 0, I 1, I 0, (I (-1)), I 0, I 1, I 0] 32)
noncomputable def rowW2_5 : Option ARow := (rrow [(I (-1)), I 0, I 1, I 0] 125)
noncomputable def rowW2_6 : Option ARow := (rvar [(I (-1)), I 0, I 1, I 0] 32)
noncomputable def rowW2_7 : Option ARow := (rrow [I 0, I 0, I 1, I 0] 125)
noncomputable def rowW2_8 : Option ARow := (rvar [I 0, I 0, I 1, I 0] 32)
noncomputable def w2_B : Code := loopB (tailS (seqAt 4 (bodyOf 106)))
noncomputable def w2_O : Array Oper := headOps w2_B
noncomputable def w2_R : Code := tailS w2_B
theorem w2_hS : seqAt 4 (bodyOf 106) = .seq (headS (seqAt 4 (bodyOf 106))) (tailS (seqAt 4 (bodyOf 106))) := by kernel_rfl
theorem w2_hC : tailS (seqAt 4 (bodyOf 106)) = .block 2 (.loop w2_B) := by kernel_rfl
theorem w2_hB : w2_B = .seq (.region (headId w2_B) w2_O false) w2_R := by kernel_rfl
noncomputable def w2_A : Heap := (H [some (.cells [.int .i64 0, .int .i64 0, .int .i64 1, .int .i64 0, .int .i64 (-1), .int .i64 0, .int .i64 1, .int .i64 0] 32 .row)])
noncomputable def w2_L0 : List Value := ([(sl 8 0 2 2)] ++ us 48)
noncomputable def w2_X0 : Heap := (H [rowW2_4])
noncomputable def w2_L1 : List Value := ([(sl 8 0 2 2), U, sn] ++ us 46)
noncomputable def w2_X1 : Heap := (H [rowW2_4])
theorem w2_t0 : aRun Tryz.prog env0 100000 9 [.code (seqAt 0 (bodyOf 106))] w2_L0 w2_X0 = some (w2_L1, w2_X1, none) := by kernel_rfl
noncomputable def w2_L2 : List Value := ([(sl 8 0 2 2), U, sn, (pt 10 0), U, U, U, U, U, U, (.map (.some 9))] ++ us 38)
noncomputable def w2_X2 : Heap := (H [rowW2_4, (.some (.map [] 0)), (rvar [(.map (.some 9))] 185)])
theorem w2_t1 : aRun Tryz.prog env0 100000 9 [.code (seqAt 1 (bodyOf 106))] w2_L1 w2_X1 = some (w2_L2, w2_X2, none) := by kernel_rfl
noncomputable def w2_L3 : List Value := ([(sl 8 0 2 2), U, sn, (pt 10 0), U, U, U, U, U, U, (.map (.some 9)), (sl 8 0 2 2), (.func (.func 149) #[] #[(pt 11 0)])] ++ us 36)
noncomputable def w2_X3 : Heap := (H [rowW2_4, rowW2_1, (rvar [(.map (.some 9))] 185), (rvar [(sl 8 0 2 2)] 37), rowW2_0, rowW2_8, rowW2_8, (rvar [I 1, I 0] 34), (rvar [I 0, I 0] 187), rowW2_6, rowW2_6, (rvar [I 1, I 0] 34), (rvar [(I (-1)), I 0] 187)])
theorem w2_t2 : aRun Tryz.prog env0 100000 9 [.code (seqAt 2 (bodyOf 106))] w2_L2 w2_X2 = some (w2_L3, w2_X3, none) := by kernel_rfl
noncomputable def w2_L4 : List Value := ([(sl 8 0 2 2), U, sn, (pt 10 0), U, U, U, sn, U, U, (.map (.some 9)), (sl 8 0 2 2), (.func (.func 149) #[] #[(pt 11 0)])] ++ us 36)
noncomputable def w2_X4 : Heap := (H [rowW2_4, rowW2_1, (rvar [(.map (.some 9))] 185), (rvar [(sl 8 0 2 2)] 37), rowW2_0, rowW2_8, rowW2_8, (rvar [I 1, I 0] 34), (rvar [I 0, I 0] 187), rowW2_6, rowW2_6, (rvar [I 1, I 0] 34), (rvar [(I (-1)), I 0] 187)])
theorem w2_t3 : aRun Tryz.prog env0 100000 9 [.code (seqAt 3 (bodyOf 106))] w2_L3 w2_X3 = some (w2_L4, w2_X4, none) := by kernel_rfl
noncomputable def w2_L5 : List Value := ([(sl 8 0 2 2), U, sn, (pt 10 0), U, U, U, sn, U, U, (.map (.some 9)), (sl 8 0 2 2), (.func (.func 149) #[] #[(pt 11 0)]), U, U, U, U, U, U, U, U, U, U, U, U, U, U, (.map (.some 9)), (pt 21 0)] ++ us 20)
noncomputable def w2_X5 : Heap := (H [rowW2_4, rowW2_1, (rvar [(.map (.some 9))] 185), (rvar [(sl 8 0 2 2)] 37), rowW2_0, rowW2_8, rowW2_8, (rvar [I 1, I 0] 34), (rvar [I 0, I 0] 187), rowW2_6, rowW2_6, (rvar [I 1, I 0] 34), (rvar [(I (-1)), I 0] 187), (.some (.miter 9 2 [] 2))])
theorem w2_t4 : aRun Tryz.prog env0 100000 9 [.code (headS (seqAt 4 (bodyOf 106)))] w2_L4 w2_X4 = some (w2_L5, w2_X5, none) := by kernel_rfl
noncomputable def w2_L6 : List Value := [(sl 8 0 2 2), U, sn, (pt 10 0), U, U, U, (sl 25 0 1 1), (pt 22 0), (pt 23 0), (.map (.some 9)), (sl 8 0 2 2), (.func (.func 149) #[] #[(pt 11 0)]), U, U, U, U, U, U, U, U, U, U, U, U, U, U, (.map (.some 9)), (pt 21 0), (.tuple #[(.bool true), (g2 0 0), (g2 1 0)]), (.bool true), (.tuple #[(g2 0 0), (g2 1 0)]), (g2 0 0), (g2 1 0), (g2 1 0), (g2 0 0), (.bool true), sn, (pt 22 0), I 0, (pt 22 1), I 0, (g2 1 0), (.agg #[I 0, I 0, I 1, I 0]), (sl 24 0 1 1), (sl 25 0 1 1), U, U, U]
noncomputable def w2_X6 : Heap := (H [rowW2_4, rowW2_1, (rvar [(.map (.some 9))] 185), (rvar [(sl 8 0 2 2)] 37), rowW2_0, rowW2_8, rowW2_8, (rvar [I 1, I 0] 34), (rvar [I 0, I 0] 187), rowW2_6, rowW2_6, (rvar [I 1, I 0] 34), (rvar [(I (-1)), I 0] 187), (.some (.miter 9 2 [0] 2)), (rvar [I 0, I 0] 187), (rvar [I 1, I 0] 34), rowW2_7, rowW2_7])
theorem w2_e6 : aRun Tryz.prog env0 100000 9 [.ops w2_O 1, .code w2_R] (tput w2_L5 (some 29) (.tuple #[.bool true, (g2 0 0), (g2 1 0)])) (hset w2_X5 21 (some (.miter 9 2 [0] 2))) = some (w2_L6, w2_X6, none) := by kernel_rfl
noncomputable def w2_L7 : List Value := [(sl 8 0 2 2), U, sn, (pt 10 0), U, U, U, (sl 29 0 2 2), (pt 26 0), (pt 27 0), (.map (.some 9)), (sl 8 0 2 2), (.func (.func 149) #[] #[(pt 11 0)]), U, U, U, U, U, U, U, U, U, U, U, U, U, U, (.map (.some 9)), (pt 21 0), (.tuple #[(.bool true), (g2 (-1) 0), (g2 1 0)]), (.bool true), (.tuple #[(g2 (-1) 0), (g2 1 0)]), (g2 (-1) 0), (g2 1 0), (g2 1 0), (g2 0 0), (.bool true), (sl 25 0 1 1), (pt 26 0), (I (-1)), (pt 26 1), I 0, (g2 1 0), (.agg #[(I (-1)), I 0, I 1, I 0]), (sl 28 0 1 1), (sl 29 0 2 2), U, U, U]
noncomputable def w2_X7 : Heap := (H [rowW2_4, rowW2_1, (rvar [(.map (.some 9))] 185), (rvar [(sl 8 0 2 2)] 37), rowW2_0, rowW2_8, rowW2_8, (rvar [I 1, I 0] 34), (rvar [I 0, I 0] 187), rowW2_6, rowW2_6, (rvar [I 1, I 0] 34), (rvar [(I (-1)), I 0] 187), (.some (.miter 9 2 [0, 1] 2)), (rvar [I 0, I 0] 187), (rvar [I 1, I 0] 34), rowW2_7, .none, (rvar [(I (-1)), I 0] 187), (rvar [I 1, I 0] 34), rowW2_5, rowW2_2])
theorem w2_e7 : aRun Tryz.prog env0 100000 9 [.ops w2_O 1, .code w2_R] (tput w2_L6 (some 29) (.tuple #[.bool true, (g2 (-1) 0), (g2 1 0)])) (hset w2_X6 21 (some (.miter 9 2 [0, 1] 2))) = some (w2_L7, w2_X7, none) := by kernel_rfl
noncomputable def w2_L8 : List Value := [(sl 8 0 2 2), U, sn, (pt 10 0), U, U, U, (sl 29 0 2 2), (pt 26 0), (pt 27 0), (.map (.some 9)), (sl 8 0 2 2), (.func (.func 149) #[] #[(pt 11 0)]), U, U, U, U, U, U, U, U, U, U, U, U, U, U, (.map (.some 9)), (pt 21 0), (.tuple #[(.bool false)]), (.bool false), (.tuple #[(g2 (-1) 0), (g2 1 0)]), (g2 (-1) 0), (g2 1 0), (g2 1 0), (g2 0 0), (.bool true), (sl 25 0 1 1), (pt 26 0), (I (-1)), (pt 26 1), I 0, (g2 1 0), (.agg #[(I (-1)), I 0, I 1, I 0]), (sl 28 0 1 1), (sl 29 0 2 2), U, U, U]
noncomputable def w2_X8 : Heap := (H [rowW2_4, rowW2_1, (rvar [(.map (.some 9))] 185), (rvar [(sl 8 0 2 2)] 37), rowW2_0, rowW2_8, rowW2_8, (rvar [I 1, I 0] 34), (rvar [I 0, I 0] 187), rowW2_6, rowW2_6, (rvar [I 1, I 0] 34), (rvar [(I (-1)), I 0] 187), (.some (.miter 9 2 [0, 1] 2)), (rvar [I 0, I 0] 187), (rvar [I 1, I 0] 34), rowW2_7, .none, (rvar [(I (-1)), I 0] 187), (rvar [I 1, I 0] 34), rowW2_5, rowW2_2])
theorem w2_o7 : aRun Tryz.prog env0 100000 9 [.ops w2_O 1, .code w2_R, .inLoop w2_B, .inBlock 2] (tput w2_L7 (some 29) (.tuple #[.bool false])) w2_X7 = some (w2_L8, w2_X8, none) := by kernel_rfl
noncomputable def w2_L9 : List Value := [(sl 8 0 2 2), U, sn, (pt 10 0), U, U, U, (sl 29 0 2 2), (pt 26 0), (pt 27 0), (.map (.some 9)), (sl 8 0 2 2), (.func (.func 149) #[] #[(pt 11 0)]), U, U, U, U, U, U, U, U, U, U, U, U, U, U, (.map (.some 9)), (pt 21 0), (.tuple #[(.bool false)]), (.bool false), (.tuple #[(g2 (-1) 0), (g2 1 0)]), (g2 (-1) 0), (g2 1 0), (g2 1 0), (g2 0 0), (.bool true), (sl 25 0 1 1), (pt 26 0), (I (-1)), (pt 26 1), I 0, (g2 1 0), (.agg #[(I (-1)), I 0, I 1, I 0]), (sl 28 0 1 1), (sl 29 0 2 2), (sl 29 0 2 2), U, U]
noncomputable def w2_X9 : Heap := (H [rowW2_4, rowW2_1, (rvar [(.map (.some 9))] 185), (rvar [(sl 8 0 2 2)] 37), rowW2_0, rowW2_8, rowW2_8, (rvar [I 1, I 0] 34), (rvar [I 0, I 0] 187), rowW2_6, rowW2_6, (rvar [I 1, I 0] 34), (rvar [(I (-1)), I 0] 187), (.some (.miter 9 2 [0, 1] 2)), (rvar [I 0, I 0] 187), (rvar [I 1, I 0] 34), rowW2_7, .none, (rvar [(I (-1)), I 0] 187), (rvar [I 1, I 0] 34), rowW2_5, rowW2_3])
theorem w2_t8 : aRun Tryz.prog env0 100000 9 [.code (seqAt 5 (bodyOf 106))] w2_L8 w2_X8 = some (w2_L9, w2_X9, none) := by kernel_rfl
noncomputable def w2_L10 : List Value := [(sl 8 0 2 2), U, (sl 29 0 2 2), (pt 10 0), U, U, U, (sl 29 0 2 2), (pt 26 0), (pt 27 0), (.map (.some 9)), (sl 8 0 2 2), (.func (.func 149) #[] #[(pt 11 0)]), U, U, U, U, U, U, U, U, U, U, U, U, U, U, (.map (.some 9)), (pt 21 0), (.tuple #[(.bool false)]), (.bool false), (.tuple #[(g2 (-1) 0), (g2 1 0)]), (g2 (-1) 0), (g2 1 0), (g2 1 0), (g2 0 0), (.bool true), (sl 25 0 1 1), (pt 26 0), (I (-1)), (pt 26 1), I 0, (g2 1 0), (.agg #[(I (-1)), I 0, I 1, I 0]), (sl 28 0 1 1), (sl 29 0 2 2), (sl 29 0 2 2), U, (sl 29 0 2 2)]
noncomputable def w2_X10 : Heap := (H [rowW2_4, rowW2_1, (rvar [(.map (.some 9))] 185), (rvar [(sl 8 0 2 2)] 37), rowW2_0, rowW2_8, rowW2_8, (rvar [I 1, I 0] 34), (rvar [I 0, I 0] 187), rowW2_6, rowW2_6, (rvar [I 1, I 0] 34), (rvar [(I (-1)), I 0] 187), (.some (.miter 9 2 [0, 1] 2)), (rvar [I 0, I 0] 187), (rvar [I 1, I 0] 34), rowW2_7, .none, (rvar [(I (-1)), I 0] 187), (rvar [I 1, I 0] 34), rowW2_5, rowW2_3])
theorem w2_t9 : aRun Tryz.prog env0 100000 9 [.code (seqAt 6 (bodyOf 106))] w2_L9 w2_X9 = some (w2_L10, w2_X10, none) := by kernel_rfl
noncomputable def w2_LC : List Value := [junk, junk, (.slice (some ⟨9, 0, none⟩) 2 2), junk, junk, junk, junk, junk, junk, junk, junk, junk, junk, junk, junk, junk, junk, junk, junk, junk, junk, junk, junk, junk, junk, junk, junk, junk, junk, junk, (.bool false), junk, junk, junk, junk, junk, (.bool true), junk, junk, junk, junk, junk, junk, junk, junk, junk, junk, junk, junk]
noncomputable def w2_RC : Heap := [rowW2_3]
noncomputable def w2_V : Value := (.slice (some ⟨9, 0, none⟩) 2 2)
theorem w2_c : aRun Tryz.prog env0 100000 9 [.code (dropS 7 (bodyOf 106))] w2_LC (w2_A ++ w2_RC) = some (w2_LC, w2_A ++ w2_RC, some .ret) := by kernel_rfl
theorem w2_end : EndsA Tryz.prog 8 Tryz.f106 w2_A w2_V (w2_A ++ w2_RC) [.code (dropS 7 (bodyOf 106))] w2_LC (w2_A ++ w2_RC) := EndsA.ret prog_ok env0_ok ⟨_, w2_c⟩ rfl (by kernel_rfl)
noncomputable def w2_Y10 : Heap := [rowW2_1, (rvar [(.map (.some 9))] 185), (rvar [(sl 8 0 2 2)] 37), rowW2_0, rowW2_8, rowW2_8, (rvar [I 1, I 0] 34), (rvar [I 0, I 0] 187), rowW2_6, rowW2_6, (rvar [I 1, I 0] 34), (rvar [(I (-1)), I 0] 187), (.some (.miter 9 2 [0, 1] 2)), (rvar [I 0, I 0] 187), (rvar [I 1, I 0] 34), rowW2_7, .none, (rvar [(I (-1)), I 0] 187), (rvar [I 1, I 0] 34), rowW2_5, rowW2_3]
theorem w2_n7 : EndsA Tryz.prog 8 Tryz.f106 w2_A w2_V (w2_A ++ w2_RC) [.code w2_B, .inLoop w2_B, .inBlock 2, .code (dropS 5 (bodyOf 106))] w2_L7 w2_X7 := by
  refine EndsA.mapRound w2_hB (EndsA.over (.tmp 28) (some 29) 21 9 2 2 2 [0, 1] [((g2 0 0), (g2 1 0), 0), ((g2 (-1) 0), (g2 1 0), 1)] (by kernel_rfl) (by kernel_rfl) (by kernel_rfl) (by kernel_rfl) (by kernel_rfl) (by decide) (by kernel_rfl) ?_)
  refine EndsA.run (k := [.ops w2_O 1, .code w2_R, .inLoop w2_B, .inBlock 2]) prog_ok env0_ok ⟨_, w2_o7⟩ ?_
  refine EndsA.drop prog_ok env0_ok (by kernel_rfl) ⟨_, w2_t8⟩ ?_
  refine EndsA.drop prog_ok env0_ok (by kernel_rfl) ⟨_, w2_t9⟩ ?_
  rw [show w2_X10 = w2_A ++ w2_Y10 from by kernel_rfl]
  exact EndsA.renum (ids := [29]) (m := [.no, .no, .ren, .no, .no, .no, .no, .no, .no, .no, .no, .no, .no, .no, .no, .no, .no, .no, .no, .no, .no, .no, .no, .no, .no, .no, .no, .no, .no, .no, .free, .no, .no, .no, .no, .no, .free, .no, .no, .no, .no, .no, .no, .no, .no, .no, .no, .no, .no]) (fs := [(.bool false), (.bool true)]) (by decide) (by decide) (by decide) (by kernel_rfl) (by simp [freeB, atomB]) (RowsBy.cons (i := 29) (by kernel_rfl) (RowBy.plain (by kernel_rfl)) RowsBy.nil) w2_end
theorem w2_n6 : EndsA Tryz.prog 8 Tryz.f106 w2_A w2_V (w2_A ++ w2_RC) [.code w2_B, .inLoop w2_B, .inBlock 2, .code (dropS 5 (bodyOf 106))] w2_L6 w2_X6 := by
  refine EndsA.mapRound w2_hB (EndsA.more (.tmp 28) (some 29) 21 9 2 2 2 [0] [((g2 0 0), (g2 1 0), 0), ((g2 (-1) 0), (g2 1 0), 1)] [((g2 (-1) 0), (g2 1 0), 1)] (by kernel_rfl) (by kernel_rfl) (by kernel_rfl) (by kernel_rfl) (by kernel_rfl) (by decide) (by kernel_rfl) (by kernel_rfl) ?_)
  exact ⟨⟨by kernel_rfl, EndsA.run (k := [.ops w2_O 1, .code w2_R]) prog_ok env0_ok ⟨_, w2_e7⟩ (EndsA.again w2_n7)⟩, trivial⟩
noncomputable def w2_L11 : List Value := [(sl 8 0 2 2), U, sn, (pt 10 0), U, U, U, (sl 25 0 1 1), (pt 22 0), (pt 23 0), (.map (.some 9)), (sl 8 0 2 2), (.func (.func 149) #[] #[(pt 11 0)]), U, U, U, U, U, U, U, U, U, U, U, U, U, U, (.map (.some 9)), (pt 21 0), (.tuple #[(.bool true), (g2 (-1) 0), (g2 1 0)]), (.bool true), (.tuple #[(g2 (-1) 0), (g2 1 0)]), (g2 (-1) 0), (g2 1 0), (g2 1 0), (g2 0 0), (.bool true), sn, (pt 22 0), (I (-1)), (pt 22 1), I 0, (g2 1 0), (.agg #[(I (-1)), I 0, I 1, I 0]), (sl 24 0 1 1), (sl 25 0 1 1), U, U, U]
noncomputable def w2_X11 : Heap := (H [rowW2_4, rowW2_1, (rvar [(.map (.some 9))] 185), (rvar [(sl 8 0 2 2)] 37), rowW2_0, rowW2_8, rowW2_8, (rvar [I 1, I 0] 34), (rvar [I 0, I 0] 187), rowW2_6, rowW2_6, (rvar [I 1, I 0] 34), (rvar [(I (-1)), I 0] 187), (.some (.miter 9 2 [1] 2)), (rvar [(I (-1)), I 0] 187), (rvar [I 1, I 0] 34), rowW2_5, rowW2_5])
theorem w2_e11 : aRun Tryz.prog env0 100000 9 [.ops w2_O 1, .code w2_R] (tput w2_L5 (some 29) (.tuple #[.bool true, (g2 (-1) 0), (g2 1 0)])) (hset w2_X5 21 (some (.miter 9 2 [1] 2))) = some (w2_L11, w2_X11, none) := by kernel_rfl
noncomputable def w2_L12 : List Value := [(sl 8 0 2 2), U, sn, (pt 10 0), U, U, U, (sl 29 0 2 2), (pt 26 0), (pt 27 0), (.map (.some 9)), (sl 8 0 2 2), (.func (.func 149) #[] #[(pt 11 0)]), U, U, U, U, U, U, U, U, U, U, U, U, U, U, (.map (.some 9)), (pt 21 0), (.tuple #[(.bool true), (g2 0 0), (g2 1 0)]), (.bool true), (.tuple #[(g2 0 0), (g2 1 0)]), (g2 0 0), (g2 1 0), (g2 1 0), (g2 0 0), (.bool true), (sl 25 0 1 1), (pt 26 0), I 0, (pt 26 1), I 0, (g2 1 0), (.agg #[I 0, I 0, I 1, I 0]), (sl 28 0 1 1), (sl 29 0 2 2), U, U, U]
noncomputable def w2_X12 : Heap := (H [rowW2_4, rowW2_1, (rvar [(.map (.some 9))] 185), (rvar [(sl 8 0 2 2)] 37), rowW2_0, rowW2_8, rowW2_8, (rvar [I 1, I 0] 34), (rvar [I 0, I 0] 187), rowW2_6, rowW2_6, (rvar [I 1, I 0] 34), (rvar [(I (-1)), I 0] 187), (.some (.miter 9 2 [1, 0] 2)), (rvar [(I (-1)), I 0] 187), (rvar [I 1, I 0] 34), rowW2_5, .none, (rvar [I 0, I 0] 187), (rvar [I 1, I 0] 34), rowW2_7, rowW2_3])
theorem w2_e12 : aRun Tryz.prog env0 100000 9 [.ops w2_O 1, .code w2_R] (tput w2_L11 (some 29) (.tuple #[.bool true, (g2 0 0), (g2 1 0)])) (hset w2_X11 21 (some (.miter 9 2 [1, 0] 2))) = some (w2_L12, w2_X12, none) := by kernel_rfl
noncomputable def w2_L13 : List Value := [(sl 8 0 2 2), U, sn, (pt 10 0), U, U, U, (sl 29 0 2 2), (pt 26 0), (pt 27 0), (.map (.some 9)), (sl 8 0 2 2), (.func (.func 149) #[] #[(pt 11 0)]), U, U, U, U, U, U, U, U, U, U, U, U, U, U, (.map (.some 9)), (pt 21 0), (.tuple #[(.bool false)]), (.bool false), (.tuple #[(g2 0 0), (g2 1 0)]), (g2 0 0), (g2 1 0), (g2 1 0), (g2 0 0), (.bool true), (sl 25 0 1 1), (pt 26 0), I 0, (pt 26 1), I 0, (g2 1 0), (.agg #[I 0, I 0, I 1, I 0]), (sl 28 0 1 1), (sl 29 0 2 2), U, U, U]
noncomputable def w2_X13 : Heap := (H [rowW2_4, rowW2_1, (rvar [(.map (.some 9))] 185), (rvar [(sl 8 0 2 2)] 37), rowW2_0, rowW2_8, rowW2_8, (rvar [I 1, I 0] 34), (rvar [I 0, I 0] 187), rowW2_6, rowW2_6, (rvar [I 1, I 0] 34), (rvar [(I (-1)), I 0] 187), (.some (.miter 9 2 [1, 0] 2)), (rvar [(I (-1)), I 0] 187), (rvar [I 1, I 0] 34), rowW2_5, .none, (rvar [I 0, I 0] 187), (rvar [I 1, I 0] 34), rowW2_7, rowW2_3])
theorem w2_o12 : aRun Tryz.prog env0 100000 9 [.ops w2_O 1, .code w2_R, .inLoop w2_B, .inBlock 2] (tput w2_L12 (some 29) (.tuple #[.bool false])) w2_X12 = some (w2_L13, w2_X13, none) := by kernel_rfl
noncomputable def w2_L14 : List Value := [(sl 8 0 2 2), U, sn, (pt 10 0), U, U, U, (sl 29 0 2 2), (pt 26 0), (pt 27 0), (.map (.some 9)), (sl 8 0 2 2), (.func (.func 149) #[] #[(pt 11 0)]), U, U, U, U, U, U, U, U, U, U, U, U, U, U, (.map (.some 9)), (pt 21 0), (.tuple #[(.bool false)]), (.bool false), (.tuple #[(g2 0 0), (g2 1 0)]), (g2 0 0), (g2 1 0), (g2 1 0), (g2 0 0), (.bool true), (sl 25 0 1 1), (pt 26 0), I 0, (pt 26 1), I 0, (g2 1 0), (.agg #[I 0, I 0, I 1, I 0]), (sl 28 0 1 1), (sl 29 0 2 2), (sl 29 0 2 2), U, U]
noncomputable def w2_X14 : Heap := (H [rowW2_4, rowW2_1, (rvar [(.map (.some 9))] 185), (rvar [(sl 8 0 2 2)] 37), rowW2_0, rowW2_8, rowW2_8, (rvar [I 1, I 0] 34), (rvar [I 0, I 0] 187), rowW2_6, rowW2_6, (rvar [I 1, I 0] 34), (rvar [(I (-1)), I 0] 187), (.some (.miter 9 2 [1, 0] 2)), (rvar [(I (-1)), I 0] 187), (rvar [I 1, I 0] 34), rowW2_5, .none, (rvar [I 0, I 0] 187), (rvar [I 1, I 0] 34), rowW2_7, rowW2_3])
theorem w2_t13 : aRun Tryz.prog env0 100000 9 [.code (seqAt 5 (bodyOf 106))] w2_L13 w2_X13 = some (w2_L14, w2_X14, none) := by kernel_rfl
noncomputable def w2_L15 : List Value := [(sl 8 0 2 2), U, (sl 29 0 2 2), (pt 10 0), U, U, U, (sl 29 0 2 2), (pt 26 0), (pt 27 0), (.map (.some 9)), (sl 8 0 2 2), (.func (.func 149) #[] #[(pt 11 0)]), U, U, U, U, U, U, U, U, U, U, U, U, U, U, (.map (.some 9)), (pt 21 0), (.tuple #[(.bool false)]), (.bool false), (.tuple #[(g2 0 0), (g2 1 0)]), (g2 0 0), (g2 1 0), (g2 1 0), (g2 0 0), (.bool true), (sl 25 0 1 1), (pt 26 0), I 0, (pt 26 1), I 0, (g2 1 0), (.agg #[I 0, I 0, I 1, I 0]), (sl 28 0 1 1), (sl 29 0 2 2), (sl 29 0 2 2), U, (sl 29 0 2 2)]
noncomputable def w2_X15 : Heap := (H [rowW2_4, rowW2_1, (rvar [(.map (.some 9))] 185), (rvar [(sl 8 0 2 2)] 37), rowW2_0, rowW2_8, rowW2_8, (rvar [I 1, I 0] 34), (rvar [I 0, I 0] 187), rowW2_6, rowW2_6, (rvar [I 1, I 0] 34), (rvar [(I (-1)), I 0] 187), (.some (.miter 9 2 [1, 0] 2)), (rvar [(I (-1)), I 0] 187), (rvar [I 1, I 0] 34), rowW2_5, .none, (rvar [I 0, I 0] 187), (rvar [I 1, I 0] 34), rowW2_7, rowW2_3])
theorem w2_t14 : aRun Tryz.prog env0 100000 9 [.code (seqAt 6 (bodyOf 106))] w2_L14 w2_X14 = some (w2_L15, w2_X15, none) := by kernel_rfl
noncomputable def w2_Y15 : Heap := [rowW2_1, (rvar [(.map (.some 9))] 185), (rvar [(sl 8 0 2 2)] 37), rowW2_0, rowW2_8, rowW2_8, (rvar [I 1, I 0] 34), (rvar [I 0, I 0] 187), rowW2_6, rowW2_6, (rvar [I 1, I 0] 34), (rvar [(I (-1)), I 0] 187), (.some (.miter 9 2 [1, 0] 2)), (rvar [(I (-1)), I 0] 187), (rvar [I 1, I 0] 34), rowW2_5, .none, (rvar [I 0, I 0] 187), (rvar [I 1, I 0] 34), rowW2_7, rowW2_3]
theorem w2_n12 : EndsA Tryz.prog 8 Tryz.f106 w2_A w2_V (w2_A ++ w2_RC) [.code w2_B, .inLoop w2_B, .inBlock 2, .code (dropS 5 (bodyOf 106))] w2_L12 w2_X12 := by
  refine EndsA.mapRound w2_hB (EndsA.over (.tmp 28) (some 29) 21 9 2 2 2 [1, 0] [((g2 0 0), (g2 1 0), 0), ((g2 (-1) 0), (g2 1 0), 1)] (by kernel_rfl) (by kernel_rfl) (by kernel_rfl) (by kernel_rfl) (by kernel_rfl) (by decide) (by kernel_rfl) ?_)
  refine EndsA.run (k := [.ops w2_O 1, .code w2_R, .inLoop w2_B, .inBlock 2]) prog_ok env0_ok ⟨_, w2_o12⟩ ?_
  refine EndsA.drop prog_ok env0_ok (by kernel_rfl) ⟨_, w2_t13⟩ ?_
  refine EndsA.drop prog_ok env0_ok (by kernel_rfl) ⟨_, w2_t14⟩ ?_
  rw [show w2_X15 = w2_A ++ w2_Y15 from by kernel_rfl]
  exact EndsA.renum (ids := [29]) (m := [.no, .no, .ren, .no, .no, .no, .no, .no, .no, .no, .no, .no, .no, .no, .no, .no, .no, .no, .no, .no, .no, .no, .no, .no, .no, .no, .no, .no, .no, .no, .free, .no, .no, .no, .no, .no, .free, .no, .no, .no, .no, .no, .no, .no, .no, .no, .no, .no, .no]) (fs := [(.bool false), (.bool true)]) (by decide) (by decide) (by decide) (by kernel_rfl) (by simp [freeB, atomB]) (RowsBy.cons (i := 29) (by kernel_rfl) (RowBy.plain (by kernel_rfl)) RowsBy.nil) w2_end
theorem w2_n11 : EndsA Tryz.prog 8 Tryz.f106 w2_A w2_V (w2_A ++ w2_RC) [.code w2_B, .inLoop w2_B, .inBlock 2, .code (dropS 5 (bodyOf 106))] w2_L11 w2_X11 := by
  refine EndsA.mapRound w2_hB (EndsA.more (.tmp 28) (some 29) 21 9 2 2 2 [1] [((g2 0 0), (g2 1 0), 0), ((g2 (-1) 0), (g2 1 0), 1)] [((g2 0 0), (g2 1 0), 0)] (by kernel_rfl) (by kernel_rfl) (by kernel_rfl) (by kernel_rfl) (by kernel_rfl) (by decide) (by kernel_rfl) (by kernel_rfl) ?_)
  exact ⟨⟨by kernel_rfl, EndsA.run (k := [.ops w2_O 1, .code w2_R]) prog_ok env0_ok ⟨_, w2_e12⟩ (EndsA.again w2_n12)⟩, trivial⟩
theorem w2_n5 : EndsA Tryz.prog 8 Tryz.f106 w2_A w2_V (w2_A ++ w2_RC) [.code w2_B, .inLoop w2_B, .inBlock 2, .code (dropS 5 (bodyOf 106))] w2_L5 w2_X5 := by
  refine EndsA.mapRound w2_hB (EndsA.more (.tmp 28) (some 29) 21 9 2 2 2 [] [((g2 0 0), (g2 1 0), 0), ((g2 (-1) 0), (g2 1 0), 1)] [((g2 0 0), (g2 1 0), 0), ((g2 (-1) 0), (g2 1 0), 1)] (by kernel_rfl) (by kernel_rfl) (by kernel_rfl) (by kernel_rfl) (by kernel_rfl) (by decide) (by kernel_rfl) (by kernel_rfl) ?_)
  exact ⟨⟨by kernel_rfl, EndsA.run (k := [.ops w2_O 1, .code w2_R]) prog_ok env0_ok ⟨_, w2_e6⟩ (EndsA.again w2_n6)⟩, ⟨⟨by kernel_rfl, EndsA.run (k := [.ops w2_O 1, .code w2_R]) prog_ok env0_ok ⟨_, w2_e11⟩ (EndsA.again w2_n11)⟩, trivial⟩⟩
theorem w2_ends : EndsA Tryz.prog 8 Tryz.f106 w2_A w2_V (w2_A ++ w2_RC) [.code (dropS 0 (bodyOf 106))] w2_L0 w2_X0 := by
  refine EndsA.drop prog_ok env0_ok (by kernel_rfl) ⟨_, w2_t0⟩ ?_
  refine EndsA.drop prog_ok env0_ok (by kernel_rfl) ⟨_, w2_t1⟩ ?_
  refine EndsA.drop prog_ok env0_ok (by kernel_rfl) ⟨_, w2_t2⟩ ?_
  refine EndsA.drop prog_ok env0_ok (by kernel_rfl) ⟨_, w2_t3⟩ ?_
  refine EndsA.dropSeq (by kernel_rfl) ?_
  rw [w2_hS]
  exact EndsA.seq (EndsA.run (k := [.code (headS (seqAt 4 (bodyOf 106)))]) prog_ok env0_ok ⟨_, w2_t4⟩ (EndsA.blockLoop w2_hC w2_n5))
theorem w2_says : SaysAt Tryz.prog 8 106 [.slice (some ⟨8, 0, none⟩) 2 2] w2_A w2_V (w2_A ++ w2_RC) :=
  EndsA.says prog_ok Tryz.func106 (c := bodyOf 106) (by kernel_rfl) (by decide) (EndsA.cast (by kernel_rfl) (by kernel_rfl) (by kernel_rfl) w2_ends) (by simp) (fun i hi => by rw [hget_append, if_pos hi]) (by kernel_rfl)
end Go.Proofs.YtpdiaiccnaoaiaaGreatDoor
/-
The weights of a list of the document's examples, whatever the order of the map.
-/
namespace Go.Proofs.YtpdiaiccnaoaiaaGreatDoor
open Go Go.Abs
noncomputable def rowW3_0 : Option ARow := (.some (.loop ([(sl 8 0 2 2), U, sn, (pt 10 0), U, U, U, U, U, U, (.map (.some 9)), (sl 8 0 2 2), (.func (.func 149) #[] #[(pt 11 0)])] ++ us 36) #[13, 14] codeW0_0 codeW0_1 .exhausted .none))
noncomputable def rowW3_1 : Option ARow := (.some (.map [(.mk (g2 0 0) (.mk (g2 1 0) 0)), (.mk (g2 0 (-1)) (.mk (g2 1 0) 1))] 2))
noncomputable def rowW3_2 : Option ARow := (rrow [I 0, I 0, I 1, I 0, I 0, (I (-1)), I 1, I 0] 125)
noncomputable def rowW3_3 : Option ARow := (rrow [I 0, (I (-1)), I 1, I 0, I 0, I 0, I 1, I 0] 125)
noncomputable def rowW3_4 : Option ARow := (rrow [I 0, I 0, I 1, I 0, I 0, (I (-1)), I 1, I 0] 32)
noncomputable def rowW3_5 : Option ARow := (rrow [I 0, (I (-1)), I 1, I 0] 125)
noncomputable def rowW3_6 : Option ARow := (rvar [I 0, (I (-1)), I 1, I 0] 32)
noncomputable def rowW3_7 : Option ARow := (rrow [I 0, I 0, I 1, I 0] 125)
noncomputable def rowW3_8 : Option ARow := (rvar [I 0, I 0, I 1, I 0] 32)
noncomputable def w3_B : Code := loopB (tailS (seqAt 4 (bodyOf 106)))
noncomputable def w3_O : Array Oper := headOps w3_B
noncomputable def w3_R : Code := tailS w3_B
theorem w3_hS : seqAt 4 (bodyOf 106) = .seq (headS (seqAt 4 (bodyOf 106))) (tailS (seqAt 4 (bodyOf 106))) := by kernel_rfl
theorem w3_hC : tailS (seqAt 4 (bodyOf 106)) = .block 2 (.loop w3_B) := by kernel_rfl
theorem w3_hB : w3_B = .seq (.region (headId w3_B) w3_O false) w3_R := by kernel_rfl
noncomputable def w3_A : Heap := (H [some (.cells [.int .i64 0, .int .i64 0, .int .i64 1, .int .i64 0, .int .i64 0, .int .i64 (-1), .int .i64 1, .int .i64 0] 32 .row)])
noncomputable def w3_L0 : List Value := ([(sl 8 0 2 2)] ++ us 48)
noncomputable def w3_X0 : Heap := (H [rowW3_4])
noncomputable def w3_L1 : List Value := ([(sl 8 0 2 2), U, sn] ++ us 46)
noncomputable def w3_X1 : Heap := (H [rowW3_4])
theorem w3_t0 : aRun Tryz.prog env0 100000 9 [.code (seqAt 0 (bodyOf 106))] w3_L0 w3_X0 = some (w3_L1, w3_X1, none) := by kernel_rfl
noncomputable def w3_L2 : List Value := ([(sl 8 0 2 2), U, sn, (pt 10 0), U, U, U, U, U, U, (.map (.some 9))] ++ us 38)
noncomputable def w3_X2 : Heap := (H [rowW3_4, (.some (.map [] 0)), (rvar [(.map (.some 9))] 185)])
theorem w3_t1 : aRun Tryz.prog env0 100000 9 [.code (seqAt 1 (bodyOf 106))] w3_L1 w3_X1 = some (w3_L2, w3_X2, none) := by kernel_rfl
noncomputable def w3_L3 : List Value := ([(sl 8 0 2 2), U, sn, (pt 10 0), U, U, U, U, U, U, (.map (.some 9)), (sl 8 0 2 2), (.func (.func 149) #[] #[(pt 11 0)])] ++ us 36)
noncomputable def w3_X3 : Heap := (H [rowW3_4, rowW3_1, (rvar [(.map (.some 9))] 185), (rvar [(sl 8 0 2 2)] 37), rowW3_0, rowW3_8, rowW3_8, (rvar [I 1, I 0] 34), (rvar [I 0, I 0] 187), rowW3_6, rowW3_6, (rvar [I 1, I 0] 34), (rvar [I 0, (I (-1))] 187)])
theorem w3_t2 : aRun Tryz.prog env0 100000 9 [.code (seqAt 2 (bodyOf 106))] w3_L2 w3_X2 = some (w3_L3, w3_X3, none) := by kernel_rfl
noncomputable def w3_L4 : List Value := ([(sl 8 0 2 2), U, sn, (pt 10 0), U, U, U, sn, U, U, (.map (.some 9)), (sl 8 0 2 2), (.func (.func 149) #[] #[(pt 11 0)])] ++ us 36)
noncomputable def w3_X4 : Heap := (H [rowW3_4, rowW3_1, (rvar [(.map (.some 9))] 185), (rvar [(sl 8 0 2 2)] 37), rowW3_0, rowW3_8, rowW3_8, (rvar [I 1, I 0] 34), (rvar [I 0, I 0] 187), rowW3_6, rowW3_6, (rvar [I 1, I 0] 34), (rvar [I 0, (I (-1))] 187)])
theorem w3_t3 : aRun Tryz.prog env0 100000 9 [.code (seqAt 3 (bodyOf 106))] w3_L3 w3_X3 = some (w3_L4, w3_X4, none) := by kernel_rfl
noncomputable def w3_L5 : List Value := ([(sl 8 0 2 2), U, sn, (pt 10 0), U, U, U, sn, U, U, (.map (.some 9)), (sl 8 0 2 2), (.func (.func 149) #[] #[(pt 11 0)]), U, U, U, U, U, U, U, U, U, U, U, U, U, U, (.map (.some 9)), (pt 21 0)] ++ us 20)
noncomputable def w3_X5 : Heap := (H [rowW3_4, rowW3_1, (rvar [(.map (.some 9))] 185), (rvar [(sl 8 0 2 2)] 37), rowW3_0, rowW3_8, rowW3_8, (rvar [I 1, I 0] 34), (rvar [I 0, I 0] 187), rowW3_6, rowW3_6, (rvar [I 1, I 0] 34), (rvar [I 0, (I (-1))] 187), (.some (.miter 9 2 [] 2))])
theorem w3_t4 : aRun Tryz.prog env0 100000 9 [.code (headS (seqAt 4 (bodyOf 106)))] w3_L4 w3_X4 = some (w3_L5, w3_X5, none) := by kernel_rfl
noncomputable def w3_L6 : List Value := [(sl 8 0 2 2), U, sn, (pt 10 0), U, U, U, (sl 25 0 1 1), (pt 22 0), (pt 23 0), (.map (.some 9)), (sl 8 0 2 2), (.func (.func 149) #[] #[(pt 11 0)]), U, U, U, U, U, U, U, U, U, U, U, U, U, U, (.map (.some 9)), (pt 21 0), (.tuple #[(.bool true), (g2 0 0), (g2 1 0)]), (.bool true), (.tuple #[(g2 0 0), (g2 1 0)]), (g2 0 0), (g2 1 0), (g2 1 0), (g2 0 0), (.bool true), sn, (pt 22 0), I 0, (pt 22 1), I 0, (g2 1 0), (.agg #[I 0, I 0, I 1, I 0]), (sl 24 0 1 1), (sl 25 0 1 1), U, U, U]
noncomputable def w3_X6 : Heap := (H [rowW3_4, rowW3_1, (rvar [(.map (.some 9))] 185), (rvar [(sl 8 0 2 2)] 37), rowW3_0, rowW3_8, rowW3_8, (rvar [I 1, I 0] 34), (rvar [I 0, I 0] 187), rowW3_6, rowW3_6, (rvar [I 1, I 0] 34), (rvar [I 0, (I (-1))] 187), (.some (.miter 9 2 [0] 2)), (rvar [I 0, I 0] 187), (rvar [I 1, I 0] 34), rowW3_7, rowW3_7])
theorem w3_e6 : aRun Tryz.prog env0 100000 9 [.ops w3_O 1, .code w3_R] (tput w3_L5 (some 29) (.tuple #[.bool true, (g2 0 0), (g2 1 0)])) (hset w3_X5 21 (some (.miter 9 2 [0] 2))) = some (w3_L6, w3_X6, none) := by kernel_rfl
noncomputable def w3_L7 : List Value := [(sl 8 0 2 2), U, sn, (pt 10 0), U, U, U, (sl 29 0 2 2), (pt 26 0), (pt 27 0), (.map (.some 9)), (sl 8 0 2 2), (.func (.func 149) #[] #[(pt 11 0)]), U, U, U, U, U, U, U, U, U, U, U, U, U, U, (.map (.some 9)), (pt 21 0), (.tuple #[(.bool true), (g2 0 (-1)), (g2 1 0)]), (.bool true), (.tuple #[(g2 0 (-1)), (g2 1 0)]), (g2 0 (-1)), (g2 1 0), (g2 1 0), (g2 0 0), (.bool true), (sl 25 0 1 1), (pt 26 0), I 0, (pt 26 1), (I (-1)), (g2 1 0), (.agg #[I 0, (I (-1)), I 1, I 0]), (sl 28 0 1 1), (sl 29 0 2 2), U, U, U]
noncomputable def w3_X7 : Heap := (H [rowW3_4, rowW3_1, (rvar [(.map (.some 9))] 185), (rvar [(sl 8 0 2 2)] 37), rowW3_0, rowW3_8, rowW3_8, (rvar [I 1, I 0] 34), (rvar [I 0, I 0] 187), rowW3_6, rowW3_6, (rvar [I 1, I 0] 34), (rvar [I 0, (I (-1))] 187), (.some (.miter 9 2 [0, 1] 2)), (rvar [I 0, I 0] 187), (rvar [I 1, I 0] 34), rowW3_7, .none, (rvar [I 0, (I (-1))] 187), (rvar [I 1, I 0] 34), rowW3_5, rowW3_2])
theorem w3_e7 : aRun Tryz.prog env0 100000 9 [.ops w3_O 1, .code w3_R] (tput w3_L6 (some 29) (.tuple #[.bool true, (g2 0 (-1)), (g2 1 0)])) (hset w3_X6 21 (some (.miter 9 2 [0, 1] 2))) = some (w3_L7, w3_X7, none) := by kernel_rfl
noncomputable def w3_L8 : List Value := [(sl 8 0 2 2), U, sn, (pt 10 0), U, U, U, (sl 29 0 2 2), (pt 26 0), (pt 27 0), (.map (.some 9)), (sl 8 0 2 2), (.func (.func 149) #[] #[(pt 11 0)]), U, U, U, U, U, U, U, U, U, U, U, U, U, U, (.map (.some 9)), (pt 21 0), (.tuple #[(.bool false)]), (.bool false), (.tuple #[(g2 0 (-1)), (g2 1 0)]), (g2 0 (-1)), (g2 1 0), (g2 1 0), (g2 0 0), (.bool true), (sl 25 0 1 1), (pt 26 0), I 0, (pt 26 1), (I (-1)), (g2 1 0), (.agg #[I 0, (I (-1)), I 1, I 0]), (sl 28 0 1 1), (sl 29 0 2 2), U, U, U]
noncomputable def w3_X8 : Heap := (H [rowW3_4, rowW3_1, (rvar [(.map (.some 9))] 185), (rvar [(sl 8 0 2 2)] 37), rowW3_0, rowW3_8, rowW3_8, (rvar [I 1, I 0] 34), (rvar [I 0, I 0] 187), rowW3_6, rowW3_6, (rvar [I 1, I 0] 34), (rvar [I 0, (I (-1))] 187), (.some (.miter 9 2 [0, 1] 2)), (rvar [I 0, I 0] 187), (rvar [I 1, I 0] 34), rowW3_7, .none, (rvar [I 0, (I (-1))] 187), (rvar [I 1, I 0] 34), rowW3_5, rowW3_2])
theorem w3_o7 : aRun Tryz.prog env0 100000 9 [.ops w3_O 1, .code w3_R, .inLoop w3_B, .inBlock 2] (tput w3_L7 (some 29) (.tuple #[.bool false])) w3_X7 = some (w3_L8, w3_X8, none) := by kernel_rfl
noncomputable def w3_L9 : List Value := [(sl 8 0 2 2), U, sn, (pt 10 0), U, U, U, (sl 29 0 2 2), (pt 26 0), (pt 27 0), (.map (.some 9)), (sl 8 0 2 2), (.func (.func 149) #[] #[(pt 11 0)]), U, U, U, U, U, U, U, U, U, U, U, U, U, U, (.map (.some 9)), (pt 21 0), (.tuple #[(.bool false)]), (.bool false), (.tuple #[(g2 0 (-1)), (g2 1 0)]), (g2 0 (-1)), (g2 1 0), (g2 1 0), (g2 0 0), (.bool true), (sl 25 0 1 1), (pt 26 0), I 0, (pt 26 1), (I (-1)), (g2 1 0), (.agg #[I 0, (I (-1)), I 1, I 0]), (sl 28 0 1 1), (sl 29 0 2 2), (sl 29 0 2 2), U, U]
noncomputable def w3_X9 : Heap := (H [rowW3_4, rowW3_1, (rvar [(.map (.some 9))] 185), (rvar [(sl 8 0 2 2)] 37), rowW3_0, rowW3_8, rowW3_8, (rvar [I 1, I 0] 34), (rvar [I 0, I 0] 187), rowW3_6, rowW3_6, (rvar [I 1, I 0] 34), (rvar [I 0, (I (-1))] 187), (.some (.miter 9 2 [0, 1] 2)), (rvar [I 0, I 0] 187), (rvar [I 1, I 0] 34), rowW3_7, .none, (rvar [I 0, (I (-1))] 187), (rvar [I 1, I 0] 34), rowW3_5, rowW3_3])
theorem w3_t8 : aRun Tryz.prog env0 100000 9 [.code (seqAt 5 (bodyOf 106))] w3_L8 w3_X8 = some (w3_L9, w3_X9, none) := by kernel_rfl
noncomputable def w3_L10 : List Value := [(sl 8 0 2 2), U, (sl 29 0 2 2), (pt 10 0), U, U, U, (sl 29 0 2 2), (pt 26 0), (pt 27 0), (.map (.some 9)), (sl 8 0 2 2), (.func (.func 149) #[] #[(pt 11 0)]), U, U, U, U, U, U, U, U, U, U, U, U, U, U, (.map (.some 9)), (pt 21 0), (.tuple #[(.bool false)]), (.bool false), (.tuple #[(g2 0 (-1)), (g2 1 0)]), (g2 0 (-1)), (g2 1 0), (g2 1 0), (g2 0 0), (.bool true), (sl 25 0 1 1), (pt 26 0), I 0, (pt 26 1), (I (-1)), (g2 1 0), (.agg #[I 0, (I (-1)), I 1, I 0]), (sl 28 0 1 1), (sl 29 0 2 2), (sl 29 0 2 2), U, (sl 29 0 2 2)]
noncomputable def w3_X10 : Heap := (H [rowW3_4, rowW3_1, (rvar [(.map (.some 9))] 185), (rvar [(sl 8 0 2 2)] 37), rowW3_0, rowW3_8, rowW3_8, (rvar [I 1, I 0] 34), (rvar [I 0, I 0] 187), rowW3_6, rowW3_6, (rvar [I 1, I 0] 34), (rvar [I 0, (I (-1))] 187), (.some (.miter 9 2 [0, 1] 2)), (rvar [I 0, I 0] 187), (rvar [I 1, I 0] 34), rowW3_7, .none, (rvar [I 0, (I (-1))] 187), (rvar [I 1, I 0] 34), rowW3_5, rowW3_3])
theorem w3_t9 : aRun Tryz.prog env0 100000 9 [.code (seqAt 6 (bodyOf 106))] w3_L9 w3_X9 = some (w3_L10, w3_X10, none) := by kernel_rfl
noncomputable def w3_LC : List Value := [junk, junk, (.slice (some ⟨9, 0, none⟩) 2 2), junk, junk, junk, junk, junk, junk, junk, junk, junk, junk, junk, junk, junk, junk, junk, junk, junk, junk, junk, junk, junk, junk, junk, junk, junk, junk, junk, (.bool false), junk, junk, junk, junk, junk, (.bool true), junk, junk, junk, junk, junk, junk, junk, junk, junk, junk, junk, junk]
noncomputable def w3_RC : Heap := [rowW3_3]
noncomputable def w3_V : Value := (.slice (some ⟨9, 0, none⟩) 2 2)
theorem w3_c : aRun Tryz.prog env0 100000 9 [.code (dropS 7 (bodyOf 106))] w3_LC (w3_A ++ w3_RC) = some (w3_LC, w3_A ++ w3_RC, some .ret) := by kernel_rfl
theorem w3_end : EndsA Tryz.prog 8 Tryz.f106 w3_A w3_V (w3_A ++ w3_RC) [.code (dropS 7 (bodyOf 106))] w3_LC (w3_A ++ w3_RC) := EndsA.ret prog_ok env0_ok ⟨_, w3_c⟩ rfl (by kernel_rfl)
noncomputable def w3_Y10 : Heap := [rowW3_1, (rvar [(.map (.some 9))] 185), (rvar [(sl 8 0 2 2)] 37), rowW3_0, rowW3_8, rowW3_8, (rvar [I 1, I 0] 34), (rvar [I 0, I 0] 187), rowW3_6, rowW3_6, (rvar [I 1, I 0] 34), (rvar [I 0, (I (-1))] 187), (.some (.miter 9 2 [0, 1] 2)), (rvar [I 0, I 0] 187), (rvar [I 1, I 0] 34), rowW3_7, .none, (rvar [I 0, (I (-1))] 187), (rvar [I 1, I 0] 34), rowW3_5, rowW3_3]
theorem w3_n7 : EndsA Tryz.prog 8 Tryz.f106 w3_A w3_V (w3_A ++ w3_RC) [.code w3_B, .inLoop w3_B, .inBlock 2, .code (dropS 5 (bodyOf 106))] w3_L7 w3_X7 := by
  refine EndsA.mapRound w3_hB (EndsA.over (.tmp 28) (some 29) 21 9 2 2 2 [0, 1] [((g2 0 0), (g2 1 0), 0), ((g2 0 (-1)), (g2 1 0), 1)] (by kernel_rfl) (by kernel_rfl) (by kernel_rfl) (by kernel_rfl) (by kernel_rfl) (by decide) (by kernel_rfl) ?_)
  refine EndsA.run (k := [.ops w3_O 1, .code w3_R, .inLoop w3_B, .inBlock 2]) prog_ok env0_ok ⟨_, w3_o7⟩ ?_
  refine EndsA.drop prog_ok env0_ok (by kernel_rfl) ⟨_, w3_t8⟩ ?_
  refine EndsA.drop prog_ok env0_ok (by kernel_rfl) ⟨_, w3_t9⟩ ?_
  rw [show w3_X10 = w3_A ++ w3_Y10 from by kernel_rfl]
  exact EndsA.renum (ids := [29]) (m := [.no, .no, .ren, .no, .no, .no, .no, .no, .no, .no, .no, .no, .no, .no, .no, .no, .no, .no, .no, .no, .no, .no, .no, .no, .no, .no, .no, .no, .no, .no, .free, .no, .no, .no, .no, .no, .free, .no, .no, .no, .no, .no, .no, .no, .no, .no, .no, .no, .no]) (fs := [(.bool false), (.bool true)]) (by decide) (by decide) (by decide) (by kernel_rfl) (by simp [freeB, atomB]) (RowsBy.cons (i := 29) (by kernel_rfl) (RowBy.plain (by kernel_rfl)) RowsBy.nil) w3_end
theorem w3_n6 : EndsA Tryz.prog 8 Tryz.f106 w3_A w3_V (w3_A ++ w3_RC) [.code w3_B, .inLoop w3_B, .inBlock 2, .code (dropS 5 (bodyOf 106))] w3_L6 w3_X6 := by
  refine EndsA.mapRound w3_hB (EndsA.more (.tmp 28) (some 29) 21 9 2 2 2 [0] [((g2 0 0), (g2 1 0), 0), ((g2 0 (-1)), (g2 1 0), 1)] [((g2 0 (-1)), (g2 1 0), 1)] (by kernel_rfl) (by kernel_rfl) (by kernel_rfl) (by kernel_rfl) (by kernel_rfl) (by decide) (by kernel_rfl) (by kernel_rfl) ?_)
  exact ⟨⟨by kernel_rfl, EndsA.run (k := [.ops w3_O 1, .code w3_R]) prog_ok env0_ok ⟨_, w3_e7⟩ (EndsA.again w3_n7)⟩, trivial⟩
noncomputable def w3_L11 : List Value := [(sl 8 0 2 2), U, sn, (pt 10 0), U, U, U, (sl 25 0 1 1), (pt 22 0), (pt 23 0), (.map (.some 9)), (sl 8 0 2 2), (.func (.func 149) #[] #[(pt 11 0)]), U, U, U, U, U, U, U, U, U, U, U, U, U, U, (.map (.some 9)), (pt 21 0), (.tuple #[(.bool true), (g2 0 (-1)), (g2 1 0)]), (.bool true), (.tuple #[(g2 0 (-1)), (g2 1 0)]), (g2 0 (-1)), (g2 1 0), (g2 1 0), (g2 0 0), (.bool true), sn, (pt 22 0), I 0, (pt 22 1), (I (-1)), (g2 1 0), (.agg #[I 0, (I (-1)), I 1, I 0]), (sl 24 0 1 1), (sl 25 0 1 1), U, U, U]
noncomputable def w3_X11 : Heap := (H [rowW3_4, rowW3_1, (rvar [(.map (.some 9))] 185), (rvar [(sl 8 0 2 2)] 37), rowW3_0, rowW3_8, rowW3_8, (rvar [I 1, I 0] 34), (rvar [I 0, I 0] 187), rowW3_6, rowW3_6, (rvar [I 1, I 0] 34), (rvar [I 0, (I (-1))] 187), (.some (.miter 9 2 [1] 2)), (rvar [I 0, (I (-1))] 187), (rvar [I 1, I 0] 34), rowW3_5, rowW3_5])
theorem w3_e11 : aRun Tryz.prog env0 100000 9 [.ops w3_O 1, .code w3_R] (tput w3_L5 (some 29) (.tuple #[.bool true, (g2 0 (-1)), (g2 1 0)])) (hset w3_X5 21 (some (.miter 9 2 [1] 2))) = some (w3_L11, w3_X11, none) := by kernel_rfl
noncomputable def w3_L12 : List Value := [(sl 8 0 2 2), U, sn, (pt 10 0), U, U, U, (sl 29 0 2 2), (pt 26 0), (pt 27 0), (.map (.some 9)), (sl 8 0 2 2), (.func (.func 149) #[] #[(pt 11 0)]), U, U, U, U, U, U, U, U, U, U, U, U, U, U, (.map (.some 9)), (pt 21 0), (.tuple #[(.bool true), (g2 0 0), (g2 1 0)]), (.bool true), (.tuple #[(g2 0 0), (g2 1 0)]), (g2 0 0), (g2 1 0), (g2 1 0), (g2 0 0), (.bool true), (sl 25 0 1 1), (pt 26 0), I 0, (pt 26 1), I 0, (g2 1 0), (.agg #[I 0, I 0, I 1, I 0]), (sl 28 0 1 1), (sl 29 0 2 2), U, U, U]
noncomputable def w3_X12 : Heap := (H [rowW3_4, rowW3_1, (rvar [(.map (.some 9))] 185), (rvar [(sl 8 0 2 2)] 37), rowW3_0, rowW3_8, rowW3_8, (rvar [I 1, I 0] 34), (rvar [I 0, I 0] 187), rowW3_6, rowW3_6, (rvar [I 1, I 0] 34), (rvar [I 0, (I (-1))] 187), (.some (.miter 9 2 [1, 0] 2)), (rvar [I 0, (I (-1))] 187), (rvar [I 1, I 0] 34), rowW3_5, .none, (rvar [I 0, I 0] 187), (rvar [I 1, I 0] 34), rowW3_7, rowW3_3])
theorem w3_e12 : aRun Tryz.prog env0 100000 9 [.ops w3_O 1, .code w3_R] (tput w3_L11 (some 29) (.tuple #[.bool true, (g2 0 0), (g2 1 0)])) (hset w3_X11 21 (some (.miter 9 2 [1, 0] 2))) = some (w3_L12, w3_X12, none) := by kernel_rfl
noncomputable def w3_L13 : List Value := [(sl 8 0 2 2), U, sn, (pt 10 0), U, U, U, (sl 29 0 2 2), (pt 26 0), (pt 27 0), (.map (.some 9)), (sl 8 0 2 2), (.func (.func 149) #[] #[(pt 11 0)]), U, U, U, U, U, U, U, U, U, U, U, U, U, U, (.map (.some 9)), (pt 21 0), (.tuple #[(.bool false)]), (.bool false), (.tuple #[(g2 0 0), (g2 1 0)]), (g2 0 0), (g2 1 0), (g2 1 0), (g2 0 0), (.bool true), (sl 25 0 1 1), (pt 26 0), I 0, (pt 26 1), I 0, (g2 1 0), (.agg #[I 0, I 0, I 1, I 0]), (sl 28 0 1 1), (sl 29 0 2 2), U, U, U]
noncomputable def w3_X13 : Heap := (H [rowW3_4, rowW3_1, (rvar [(.map (.some 9))] 185), (rvar [(sl 8 0 2 2)] 37), rowW3_0, rowW3_8, rowW3_8, (rvar [I 1, I 0] 34), (rvar [I 0, I 0] 187), rowW3_6, rowW3_6, (rvar [I 1, I 0] 34), (rvar [I 0, (I (-1))] 187), (.some (.miter 9 2 [1, 0] 2)), (rvar [I 0, (I (-1))] 187), (rvar [I 1, I 0] 34), rowW3_5, .none, (rvar [I 0, I 0] 187), (rvar [I 1, I 0] 34), rowW3_7, rowW3_3])
theorem w3_o12 : aRun Tryz.prog env0 100000 9 [.ops w3_O 1, .code w3_R, .inLoop w3_B, .inBlock 2] (tput w3_L12 (some 29) (.tuple #[.bool false])) w3_X12 = some (w3_L13, w3_X13, none) := by kernel_rfl
noncomputable def w3_L14 : List Value := [(sl 8 0 2 2), U, sn, (pt 10 0), U, U, U, (sl 29 0 2 2), (pt 26 0), (pt 27 0), (.map (.some 9)), (sl 8 0 2 2), (.func (.func 149) #[] #[(pt 11 0)]), U, U, U, U, U, U, U, U, U, U, U, U, U, U, (.map (.some 9)), (pt 21 0), (.tuple #[(.bool false)]), (.bool false), (.tuple #[(g2 0 0), (g2 1 0)]), (g2 0 0), (g2 1 0), (g2 1 0), (g2 0 0), (.bool true), (sl 25 0 1 1), (pt 26 0), I 0, (pt 26 1), I 0, (g2 1 0), (.agg #[I 0, I 0, I 1, I 0]), (sl 28 0 1 1), (sl 29 0 2 2), (sl 29 0 2 2), U, U]
noncomputable def w3_X14 : Heap := (H [rowW3_4, rowW3_1, (rvar [(.map (.some 9))] 185), (rvar [(sl 8 0 2 2)] 37), rowW3_0, rowW3_8, rowW3_8, (rvar [I 1, I 0] 34), (rvar [I 0, I 0] 187), rowW3_6, rowW3_6, (rvar [I 1, I 0] 34), (rvar [I 0, (I (-1))] 187), (.some (.miter 9 2 [1, 0] 2)), (rvar [I 0, (I (-1))] 187), (rvar [I 1, I 0] 34), rowW3_5, .none, (rvar [I 0, I 0] 187), (rvar [I 1, I 0] 34), rowW3_7, rowW3_3])
theorem w3_t13 : aRun Tryz.prog env0 100000 9 [.code (seqAt 5 (bodyOf 106))] w3_L13 w3_X13 = some (w3_L14, w3_X14, none) := by kernel_rfl
noncomputable def w3_L15 : List Value := [(sl 8 0 2 2), U, (sl 29 0 2 2), (pt 10 0), U, U, U, (sl 29 0 2 2), (pt 26 0), (pt 27 0), (.map (.some 9)), (sl 8 0 2 2), (.func (.func 149) #[] #[(pt 11 0)]), U, U, U, U, U, U, U, U, U, U, U, U, U, U, (.map (.some 9)), (pt 21 0), (.tuple #[(.bool false)]), (.bool false), (.tuple #[(g2 0 0), (g2 1 0)]), (g2 0 0), (g2 1 0), (g2 1 0), (g2 0 0), (.bool true), (sl 25 0 1 1), (pt 26 0), I 0, (pt 26 1), I 0, (g2 1 0), (.agg #[I 0, I 0, I 1, I 0]), (sl 28 0 1 1), (sl 29 0 2 2), (sl 29 0 2 2), U, (sl 29 0 2 2)]
noncomputable def w3_X15 : Heap := (H [rowW3_4, rowW3_1, (rvar [(.map (.some 9))] 185), (rvar [(sl 8 0 2 2)] 37), rowW3_0, rowW3_8, rowW3_8, (rvar [I 1, I 0] 34), (rvar [I 0, I 0] 187), rowW3_6, rowW3_6, (rvar [I 1, I 0] 34), (rvar [I 0, (I (-1))] 187), (.some (.miter 9 2 [1, 0] 2)), (rvar [I 0, (I (-1))] 187), (rvar [I 1, I 0] 34), rowW3_5, .none, (rvar [I 0, I 0] 187), (rvar [I 1, I 0] 34), rowW3_7, rowW3_3])
theorem w3_t14 : aRun Tryz.prog env0 100000 9 [.code (seqAt 6 (bodyOf 106))] w3_L14 w3_X14 = some (w3_L15, w3_X15, none) := by kernel_rfl
noncomputable def w3_Y15 : Heap := [rowW3_1, (rvar [(.map (.some 9))] 185), (rvar [(sl 8 0 2 2)] 37), rowW3_0, rowW3_8, rowW3_8, (rvar [I 1, I 0] 34), (rvar [I 0, I 0] 187), rowW3_6, rowW3_6, (rvar [I 1, I 0] 34), (rvar [I 0, (I (-1))] 187), (.some (.miter 9 2 [1, 0] 2)), (rvar [I 0, (I (-1))] 187), (rvar [I 1, I 0] 34), rowW3_5, .none, (rvar [I 0, I 0] 187), (rvar [I 1, I 0] 34), rowW3_7, rowW3_3]
theorem w3_n12 : EndsA Tryz.prog 8 Tryz.f106 w3_A w3_V (w3_A ++ w3_RC) [.code w3_B, .inLoop w3_B, .inBlock 2, .code (dropS 5 (bodyOf 106))] w3_L12 w3_X12 := by
  refine EndsA.mapRound w3_hB (EndsA.over (.tmp 28) (some 29) 21 9 2 2 2 [1, 0] [((g2 0 0), (g2 1 0), 0), ((g2 0 (-1)), (g2 1 0), 1)] (by kernel_rfl) (by kernel_rfl) (by kernel_rfl) (by kernel_rfl) (by kernel_rfl) (by decide) (by kernel_rfl) ?_)
  refine EndsA.run (k := [.ops w3_O 1, .code w3_R, .inLoop w3_B, .inBlock 2]) prog_ok env0_ok ⟨_, w3_o12⟩ ?_
  refine EndsA.drop prog_ok env0_ok (by kernel_rfl) ⟨_, w3_t13⟩ ?_
  refine EndsA.drop prog_ok env0_ok (by kernel_rfl) ⟨_, w3_t14⟩ ?_
  rw [show w3_X15 = w3_A ++ w3_Y15 from by kernel_rfl]
  exact EndsA.renum (ids := [29]) (m := [.no, .no, .ren, .no, .no, .no, .no, .no, .no, .no, .no, .no, .no, .no, .no, .no, .no, .no, .no, .no, .no, .no, .no, .no, .no, .no, .no, .no, .no, .no, .free, .no, .no, .no, .no, .no, .free, .no, .no, .no, .no, .no, .no, .no, .no, .no, .no, .no, .no]) (fs := [(.bool false), (.bool true)]) (by decide) (by decide) (by decide) (by kernel_rfl) (by simp [freeB, atomB]) (RowsBy.cons (i := 29) (by kernel_rfl) (RowBy.plain (by kernel_rfl)) RowsBy.nil) w3_end
theorem w3_n11 : EndsA Tryz.prog 8 Tryz.f106 w3_A w3_V (w3_A ++ w3_RC) [.code w3_B, .inLoop w3_B, .inBlock 2, .code (dropS 5 (bodyOf 106))] w3_L11 w3_X11 := by
  refine EndsA.mapRound w3_hB (EndsA.more (.tmp 28) (some 29) 21 9 2 2 2 [1] [((g2 0 0), (g2 1 0), 0), ((g2 0 (-1)), (g2 1 0), 1)] [((g2 0 0), (g2 1 0), 0)] (by kernel_rfl) (by kernel_rfl) (by kernel_rfl) (by kernel_rfl) (by kernel_rfl) (by decide) (by kernel_rfl) (by kernel_rfl) ?_)
  exact ⟨⟨by kernel_rfl, EndsA.run (k := [.ops w3_O 1, .code w3_R]) prog_ok env0_ok ⟨_, w3_e12⟩ (EndsA.again w3_n12)⟩, trivial⟩
theorem w3_n5 : EndsA Tryz.prog 8 Tryz.f106 w3_A w3_V (w3_A ++ w3_RC) [.code w3_B, .inLoop w3_B, .inBlock 2, .code (dropS 5 (bodyOf 106))] w3_L5 w3_X5 := by
  refine EndsA.mapRound w3_hB (EndsA.more (.tmp 28) (some 29) 21 9 2 2 2 [] [((g2 0 0), (g2 1 0), 0), ((g2 0 (-1)), (g2 1 0), 1)] [((g2 0 0), (g2 1 0), 0), ((g2 0 (-1)), (g2 1 0), 1)] (by kernel_rfl) (by kernel_rfl) (by kernel_rfl) (by kernel_rfl) (by kernel_rfl) (by decide) (by kernel_rfl) (by kernel_rfl) ?_)
  exact ⟨⟨by kernel_rfl, EndsA.run (k := [.ops w3_O 1, .code w3_R]) prog_ok env0_ok ⟨_, w3_e6⟩ (EndsA.again w3_n6)⟩, ⟨⟨by kernel_rfl, EndsA.run (k := [.ops w3_O 1, .code w3_R]) prog_ok env0_ok ⟨_, w3_e11⟩ (EndsA.again w3_n11)⟩, trivial⟩⟩
theorem w3_ends : EndsA Tryz.prog 8 Tryz.f106 w3_A w3_V (w3_A ++ w3_RC) [.code (dropS 0 (bodyOf 106))] w3_L0 w3_X0 := by
  refine EndsA.drop prog_ok env0_ok (by kernel_rfl) ⟨_, w3_t0⟩ ?_
  refine EndsA.drop prog_ok env0_ok (by kernel_rfl) ⟨_, w3_t1⟩ ?_
  refine EndsA.drop prog_ok env0_ok (by kernel_rfl) ⟨_, w3_t2⟩ ?_
  refine EndsA.drop prog_ok env0_ok (by kernel_rfl) ⟨_, w3_t3⟩ ?_
  refine EndsA.dropSeq (by kernel_rfl) ?_
  rw [w3_hS]
  exact EndsA.seq (EndsA.run (k := [.code (headS (seqAt 4 (bodyOf 106)))]) prog_ok env0_ok ⟨_, w3_t4⟩ (EndsA.blockLoop w3_hC w3_n5))
theorem w3_says : SaysAt Tryz.prog 8 106 [.slice (some ⟨8, 0, none⟩) 2 2] w3_A w3_V (w3_A ++ w3_RC) :=
  EndsA.says prog_ok Tryz.func106 (c := bodyOf 106) (by kernel_rfl) (by decide) (EndsA.cast (by kernel_rfl) (by kernel_rfl) (by kernel_rfl) w3_ends) (by simp) (fun i hi => by rw [hget_append, if_pos hi]) (by kernel_rfl)
end Go.Proofs.YtpdiaiccnaoaiaaGreatDoor
/-
The weights of a list of the document's examples, whatever the order of the map.
-/
namespace Go.Proofs.YtpdiaiccnaoaiaaGreatDoor
open Go Go.Abs
noncomputable def rowW4_0 : Option ARow := (.some (.loop ([(sl 8 0 2 2), U, sn, (pt 10 0), U, U, U, U, U, U, (.map (.some 9)), (sl 8 0 2 2), (.func (.func 149) #[] #[(pt 11 0)])] ++ us 36) #[13, 14] codeW0_0 codeW0_1 .exhausted .none))
noncomputable def rowW4_1 : Option ARow := (.some (.map [(.mk (g2 1 0) (.mk (g2 1 0) 0)), (.mk (g2 (-1) 0) (.mk (g2 1 0) 1))] 2))
noncomputable def rowW4_2 : Option ARow := (rrow [I 1, I 0, I 1, I 0, (I (-1)), I 0, I 1, I 0] 125)
noncomputable def rowW4_3 : Option ARow := (rrow [(I (-1)), I 0, I 1, I 0, I 1, I 0, I 1, I 0] 125)
noncomputable def rowW4_4 : Option ARow := (rrow [I 1, I 0, I 1, I 0, (I (-1)), I 0, I 1, I 0] 32)
noncomputable def rowW4_5 : Option ARow := (rrow [(I (-1)), I 0, I 1, I 0] 125)
noncomputable def rowW4_6 : Option ARow := (rvar [(I (-1)), I 0, I 1, I 0] 32)
noncomputable def rowW4_7 : Option ARow := (rrow [I 1, I 0, I 1, I 0] 125)
noncomputable def rowW4_8 : Option ARow := (rvar [I 1, I 0, I 1, I 0] 32)
noncomputable def w4_B : Code := loopB (tailS (seqAt 4 (bodyOf 106)))
noncomputable def w4_O : Array Oper := headOps w4_B
noncomputable def w4_R : Code := tailS w4_B
theorem w4_hS : seqAt 4 (bodyOf 106) = .seq (headS (seqAt 4 (bodyOf 106))) (tailS (seqAt 4 (bodyOf 106))) := by kernel_rfl
theorem w4_hC : tailS (seqAt 4 (bodyOf 106)) = .block 2 (.loop w4_B) := by kernel_rfl
theorem w4_hB : w4_B = .seq (.region (headId w4_B) w4_O false) w4_R := by kernel_rfl
noncomputable def w4_A : Heap := (H [some (.cells [.int .i64 1, .int .i64 0, .int .i64 1, .int .i64 0, .int .i64 (-1), .int .i64 0, .int .i64 1, .int .i64 0] 32 .row)])
noncomputable def w4_L0 : List Value := ([(sl 8 0 2 2)] ++ us 48)
noncomputable def w4_X0 : Heap := (H [rowW4_4])
noncomputable def w4_L1 : List Value := ([(sl 8 0 2 2), U, sn] ++ us 46)
noncomputable def w4_X1 : Heap := (H [rowW4_4])
theorem w4_t0 : aRun Tryz.prog env0 100000 9 [.code (seqAt 0 (bodyOf 106))] w4_L0 w4_X0 = some (w4_L1, w4_X1, none) := by kernel_rfl
noncomputable def w4_L2 : List Value := ([(sl 8 0 2 2), U, sn, (pt 10 0), U, U, U, U, U, U, (.map (.some 9))] ++ us 38)
noncomputable def w4_X2 : Heap := (H [rowW4_4, (.some (.map [] 0)), (rvar [(.map (.some 9))] 185)])
theorem w4_t1 : aRun Tryz.prog env0 100000 9 [.code (seqAt 1 (bodyOf 106))] w4_L1 w4_X1 = some (w4_L2, w4_X2, none) := by kernel_rfl
noncomputable def w4_L3 : List Value := ([(sl 8 0 2 2), U, sn, (pt 10 0), U, U, U, U, U, U, (.map (.some 9)), (sl 8 0 2 2), (.func (.func 149) #[] #[(pt 11 0)])] ++ us 36)
noncomputable def w4_X3 : Heap := (H [rowW4_4, rowW4_1, (rvar [(.map (.some 9))] 185), (rvar [(sl 8 0 2 2)] 37), rowW4_0, rowW4_8, rowW4_8, (rvar [I 1, I 0] 34), (rvar [I 1, I 0] 187), rowW4_6, rowW4_6, (rvar [I 1, I 0] 34), (rvar [(I (-1)), I 0] 187)])
theorem w4_t2 : aRun Tryz.prog env0 100000 9 [.code (seqAt 2 (bodyOf 106))] w4_L2 w4_X2 = some (w4_L3, w4_X3, none) := by kernel_rfl
noncomputable def w4_L4 : List Value := ([(sl 8 0 2 2), U, sn, (pt 10 0), U, U, U, sn, U, U, (.map (.some 9)), (sl 8 0 2 2), (.func (.func 149) #[] #[(pt 11 0)])] ++ us 36)
noncomputable def w4_X4 : Heap := (H [rowW4_4, rowW4_1, (rvar [(.map (.some 9))] 185), (rvar [(sl 8 0 2 2)] 37), rowW4_0, rowW4_8, rowW4_8, (rvar [I 1, I 0] 34), (rvar [I 1, I 0] 187), rowW4_6, rowW4_6, (rvar [I 1, I 0] 34), (rvar [(I (-1)), I 0] 187)])
theorem w4_t3 : aRun Tryz.prog env0 100000 9 [.code (seqAt 3 (bodyOf 106))] w4_L3 w4_X3 = some (w4_L4, w4_X4, none) := by kernel_rfl
noncomputable def w4_L5 : List Value := ([(sl 8 0 2 2), U, sn, (pt 10 0), U, U, U, sn, U, U, (.map (.some 9)), (sl 8 0 2 2), (.func (.func 149) #[] #[(pt 11 0)]), U, U, U, U, U, U, U, U, U, U, U, U, U, U, (.map (.some 9)), (pt 21 0)] ++ us 20)
noncomputable def w4_X5 : Heap := (H [rowW4_4, rowW4_1, (rvar [(.map (.some 9))] 185), (rvar [(sl 8 0 2 2)] 37), rowW4_0, rowW4_8, rowW4_8, (rvar [I 1, I 0] 34), (rvar [I 1, I 0] 187), rowW4_6, rowW4_6, (rvar [I 1, I 0] 34), (rvar [(I (-1)), I 0] 187), (.some (.miter 9 2 [] 2))])
theorem w4_t4 : aRun Tryz.prog env0 100000 9 [.code (headS (seqAt 4 (bodyOf 106)))] w4_L4 w4_X4 = some (w4_L5, w4_X5, none) := by kernel_rfl
noncomputable def w4_L6 : List Value := [(sl 8 0 2 2), U, sn, (pt 10 0), U, U, U, (sl 25 0 1 1), (pt 22 0), (pt 23 0), (.map (.some 9)), (sl 8 0 2 2), (.func (.func 149) #[] #[(pt 11 0)]), U, U, U, U, U, U, U, U, U, U, U, U, U, U, (.map (.some 9)), (pt 21 0), (.tuple #[(.bool true), (g2 1 0), (g2 1 0)]), (.bool true), (.tuple #[(g2 1 0), (g2 1 0)]), (g2 1 0), (g2 1 0), (g2 1 0), (g2 0 0), (.bool true), sn, (pt 22 0), I 1, (pt 22 1), I 0, (g2 1 0), (.agg #[I 1, I 0, I 1, I 0]), (sl 24 0 1 1), (sl 25 0 1 1), U, U, U]
noncomputable def w4_X6 : Heap := (H [rowW4_4, rowW4_1, (rvar [(.map (.some 9))] 185), (rvar [(sl 8 0 2 2)] 37), rowW4_0, rowW4_8, rowW4_8, (rvar [I 1, I 0] 34), (rvar [I 1, I 0] 187), rowW4_6, rowW4_6, (rvar [I 1, I 0] 34), (rvar [(I (-1)), I 0] 187), (.some (.miter 9 2 [0] 2)), (rvar [I 1, I 0] 187), (rvar [I 1, I 0] 34), rowW4_7, rowW4_7])
theorem w4_e6 : aRun Tryz.prog env0 100000 9 [.ops w4_O 1, .code w4_R] (tput w4_L5 (some 29) (.tuple #[.bool true, (g2 1 0), (g2 1 0)])) (hset w4_X5 21 (some (.miter 9 2 [0] 2))) = some (w4_L6, w4_X6, none) := by kernel_rfl
noncomputable def w4_L7 : List Value := [(sl 8 0 2 2), U, sn, (pt 10 0), U, U, U, (sl 29 0 2 2), (pt 26 0), (pt 27 0), (.map (.some 9)), (sl 8 0 2 2), (.func (.func 149) #[] #[(pt 11 0)]), U, U, U, U, U, U, U, U, U, U, U, U, U, U, (.map (.some 9)), (pt 21 0), (.tuple #[(.bool true), (g2 (-1) 0), (g2 1 0)]), (.bool true), (.tuple #[(g2 (-1) 0), (g2 1 0)]), (g2 (-1) 0), (g2 1 0), (g2 1 0), (g2 0 0), (.bool true), (sl 25 0 1 1), (pt 26 0), (I (-1)), (pt 26 1), I 0, (g2 1 0), (.agg #[(I (-1)), I 0, I 1, I 0]), (sl 28 0 1 1), (sl 29 0 2 2), U, U, U]
noncomputable def w4_X7 : Heap := (H [rowW4_4, rowW4_1, (rvar [(.map (.some 9))] 185), (rvar [(sl 8 0 2 2)] 37), rowW4_0, rowW4_8, rowW4_8, (rvar [I 1, I 0] 34), (rvar [I 1, I 0] 187), rowW4_6, rowW4_6, (rvar [I 1, I 0] 34), (rvar [(I (-1)), I 0] 187), (.some (.miter 9 2 [0, 1] 2)), (rvar [I 1, I 0] 187), (rvar [I 1, I 0] 34), rowW4_7, .none, (rvar [(I (-1)), I 0] 187), (rvar [I 1, I 0] 34), rowW4_5, rowW4_2])
theorem w4_e7 : aRun Tryz.prog env0 100000 9 [.ops w4_O 1, .code w4_R] (tput w4_L6 (some 29) (.tuple #[.bool true, (g2 (-1) 0), (g2 1 0)])) (hset w4_X6 21 (some (.miter 9 2 [0, 1] 2))) = some (w4_L7, w4_X7, none) := by kernel_rfl
noncomputable def w4_L8 : List Value := [(sl 8 0 2 2), U, sn, (pt 10 0), U, U, U, (sl 29 0 2 2), (pt 26 0), (pt 27 0), (.map (.some 9)), (sl 8 0 2 2), (.func (.func 149) #[] #[(pt 11 0)]), U, U, U, U, U, U, U, U, U, U, U, U, U, U, (.map (.some 9)), (pt 21 0), (.tuple #[(.bool false)]), (.bool false), (.tuple #[(g2 (-1) 0), (g2 1 0)]), (g2 (-1) 0), (g2 1 0), (g2 1 0), (g2 0 0), (.bool true), (sl 25 0 1 1), (pt 26 0), (I (-1)), (pt 26 1), I 0, (g2 1 0), (.agg #[(I (-1)), I 0, I 1, I 0]), (sl 28 0 1 1), (sl 29 0 2 2), U, U, U]
noncomputable def w4_X8 : Heap := (H [rowW4_4, rowW4_1, (rvar [(.map (.some 9))] 185), (rvar [(sl 8 0 2 2)] 37), rowW4_0, rowW4_8, rowW4_8, (rvar [I 1, I 0] 34), (rvar [I 1, I 0] 187), rowW4_6, rowW4_6, (rvar [I 1, I 0] 34), (rvar [(I (-1)), I 0] 187), (.some (.miter 9 2 [0, 1] 2)), (rvar [I 1, I 0] 187), (rvar [I 1, I 0] 34), rowW4_7, .none, (rvar [(I (-1)), I 0] 187), (rvar [I 1, I 0] 34), rowW4_5, rowW4_2])
theorem w4_o7 : aRun Tryz.prog env0 100000 9 [.ops w4_O 1, .code w4_R, .inLoop w4_B, .inBlock 2] (tput w4_L7 (some 29) (.tuple #[.bool false])) w4_X7 = some (w4_L8, w4_X8, none) := by kernel_rfl
noncomputable def w4_L9 : List Value := [(sl 8 0 2 2), U, sn, (pt 10 0), U, U, U, (sl 29 0 2 2), (pt 26 0), (pt 27 0), (.map (.some 9)), (sl 8 0 2 2), (.func (.func 149) #[] #[(pt 11 0)]), U, U, U, U, U, U, U, U, U, U, U, U, U, U, (.map (.some 9)), (pt 21 0), (.tuple #[(.bool false)]), (.bool false), (.tuple #[(g2 (-1) 0), (g2 1 0)]), (g2 (-1) 0), (g2 1 0), (g2 1 0), (g2 0 0), (.bool true), (sl 25 0 1 1), (pt 26 0), (I (-1)), (pt 26 1), I 0, (g2 1 0), (.agg #[(I (-1)), I 0, I 1, I 0]), (sl 28 0 1 1), (sl 29 0 2 2), (sl 29 0 2 2), U, U]
noncomputable def w4_X9 : Heap := (H [rowW4_4, rowW4_1, (rvar [(.map (.some 9))] 185), (rvar [(sl 8 0 2 2)] 37), rowW4_0, rowW4_8, rowW4_8, (rvar [I 1, I 0] 34), (rvar [I 1, I 0] 187), rowW4_6, rowW4_6, (rvar [I 1, I 0] 34), (rvar [(I (-1)), I 0] 187), (.some (.miter 9 2 [0, 1] 2)), (rvar [I 1, I 0] 187), (rvar [I 1, I 0] 34), rowW4_7, .none, (rvar [(I (-1)), I 0] 187), (rvar [I 1, I 0] 34), rowW4_5, rowW4_3])
theorem w4_t8 : aRun Tryz.prog env0 100000 9 [.code (seqAt 5 (bodyOf 106))] w4_L8 w4_X8 = some (w4_L9, w4_X9, none) := by kernel_rfl
noncomputable def w4_L10 : List Value := [(sl 8 0 2 2), U, (sl 29 0 2 2), (pt 10 0), U, U, U, (sl 29 0 2 2), (pt 26 0), (pt 27 0), (.map (.some 9)), (sl 8 0 2 2), (.func (.func 149) #[] #[(pt 11 0)]), U, U, U, U, U, U, U, U, U, U, U, U, U, U, (.map (.some 9)), (pt 21 0), (.tuple #[(.bool false)]), (.bool false), (.tuple #[(g2 (-1) 0), (g2 1 0)]), (g2 (-1) 0), (g2 1 0), (g2 1 0), (g2 0 0), (.bool true), (sl 25 0 1 1), (pt 26 0), (I (-1)), (pt 26 1), I 0, (g2 1 0), (.agg #[(I (-1)), I 0, I 1, I 0]), (sl 28 0 1 1), (sl 29 0 2 2), (sl 29 0 2 2), U, (sl 29 0 2 2)]
noncomputable def w4_X10 : Heap := (H [rowW4_4, rowW4_1, (rvar [(.map (.some 9))] 185), (rvar [(sl 8 0 2 2)] 37), rowW4_0, rowW4_8, rowW4_8, (rvar [I 1, I 0] 34), (rvar [I 1, I 0] 187), rowW4_6, rowW4_6, (rvar [I 1, I 0] 34), (rvar [(I (-1)), I 0] 187), (.some (.miter 9 2 [0, 1] 2)), (rvar [I 1, I 0] 187), (rvar [I 1, I 0] 34), rowW4_7, .none, (rvar [(I (-1)), I 0] 187), (rvar [I 1, I 0] 34), rowW4_5, rowW4_3])
theorem w4_t9 : aRun Tryz.prog env0 100000 9 [.code (seqAt 6 (bodyOf 106))] w4_L9 w4_X9 = some (w4_L10, w4_X10, none) := by kernel_rfl
noncomputable def w4_LC : List Value := [junk, junk, (.slice (some ⟨9, 0, none⟩) 2 2), junk, junk, junk, junk, junk, junk, junk, junk, junk, junk, junk, junk, junk, junk, junk, junk, junk, junk, junk, junk, junk, junk, junk, junk, junk, junk, junk, (.bool false), junk, junk, junk, junk, junk, (.bool true), junk, junk, junk, junk, junk, junk, junk, junk, junk, junk, junk, junk]
noncomputable def w4_RC : Heap := [rowW4_3]
noncomputable def w4_V : Value := (.slice (some ⟨9, 0, none⟩) 2 2)
theorem w4_c : aRun Tryz.prog env0 100000 9 [.code (dropS 7 (bodyOf 106))] w4_LC (w4_A ++ w4_RC) = some (w4_LC, w4_A ++ w4_RC, some .ret) := by kernel_rfl
theorem w4_end : EndsA Tryz.prog 8 Tryz.f106 w4_A w4_V (w4_A ++ w4_RC) [.code (dropS 7 (bodyOf 106))] w4_LC (w4_A ++ w4_RC) := EndsA.ret prog_ok env0_ok ⟨_, w4_c⟩ rfl (by kernel_rfl)
noncomputable def w4_Y10 : Heap := [rowW4_1, (rvar [(.map (.some 9))] 185), (rvar [(sl 8 0 2 2)] 37), rowW4_0, rowW4_8, rowW4_8, (rvar [I 1, I 0] 34), (rvar [I 1, I 0] 187), rowW4_6, rowW4_6, (rvar [I 1, I 0] 34), (rvar [(I (-1)), I 0] 187), (.some (.miter 9 2 [0, 1] 2)), (rvar [I 1, I 0] 187), (rvar [I 1, I 0] 34), rowW4_7, .none, (rvar [(I (-1)), I 0] 187), (rvar [I 1, I 0] 34), rowW4_5, rowW4_3]
theorem w4_n7 : EndsA Tryz.prog 8 Tryz.f106 w4_A w4_V (w4_A ++ w4_RC) [.code w4_B, .inLoop w4_B, .inBlock 2, .code (dropS 5 (bodyOf 106))] w4_L7 w4_X7 := by
  refine EndsA.mapRound w4_hB (EndsA.over (.tmp 28) (some 29) 21 9 2 2 2 [0, 1] [((g2 1 0), (g2 1 0), 0), ((g2 (-1) 0), (g2 1 0), 1)] (by kernel_rfl) (by kernel_rfl) (by kernel_rfl) (by kernel_rfl) (by kernel_rfl) (by decide) (by kernel_rfl) ?_)
  refine EndsA.run (k := [.ops w4_O 1, .code w4_R, .inLoop w4_B, .inBlock 2]) prog_ok env0_ok ⟨_, w4_o7⟩ ?_
  refine EndsA.drop prog_ok env0_ok (by kernel_rfl) ⟨_, w4_t8⟩ ?_
  refine EndsA.drop prog_ok env0_ok (by kernel_rfl) ⟨_, w4_t9⟩ ?_
  rw [show w4_X10 = w4_A ++ w4_Y10 from by kernel_rfl]
  exact EndsA.renum (ids := [29]) (m := [.no, .no, .ren, .no, .no, .no, .no, .no, .no, .no, .no, .no, .no, .no, .no, .no, .no, .no, .no, .no, .no, .no, .no, .no, .no, .no, .no, .no, .no, .no, .free, .no, .no, .no, .no, .no, .free, .no, .no, .no, .no, .no, .no, .no, .no, .no, .no, .no, .no]) (fs := [(.bool false), (.bool true)]) (by decide) (by decide) (by decide) (by kernel_rfl) (by simp [freeB, atomB]) (RowsBy.cons (i := 29) (by kernel_rfl) (RowBy.plain (by kernel_rfl)) RowsBy.nil) w4_end
theorem w4_n6 : EndsA Tryz.prog 8 Tryz.f106 w4_A w4_V (w4_A ++ w4_RC) [.code w4_B, .inLoop w4_B, .inBlock 2, .code (dropS 5 (bodyOf 106))] w4_L6 w4_X6 := by
  refine EndsA.mapRound w4_hB (EndsA.more (.tmp 28) (some 29) 21 9 2 2 2 [0] [((g2 1 0), (g2 1 0), 0), ((g2 (-1) 0), (g2 1 0), 1)] [((g2 (-1) 0), (g2 1 0), 1)] (by kernel_rfl) (by kernel_rfl) (by kernel_rfl) (by kernel_rfl) (by kernel_rfl) (by decide) (by kernel_rfl) (by kernel_rfl) ?_)
  exact ⟨⟨by kernel_rfl, EndsA.run (k := [.ops w4_O 1, .code w4_R]) prog_ok env0_ok ⟨_, w4_e7⟩ (EndsA.again w4_n7)⟩, trivial⟩
noncomputable def w4_L11 : List Value := [(sl 8 0 2 2), U, sn, (pt 10 0), U, U, U, (sl 25 0 1 1), (pt 22 0), (pt 23 0), (.map (.some 9)), (sl 8 0 2 2), (.func (.func 149) #[] #[(pt 11 0)]), U, U, U, U, U, U, U, U, U, U, U, U, U, U, (.map (.some 9)), (pt 21 0), (.tuple #[(.bool true), (g2 (-1) 0), (g2 1 0)]), (.bool true), (.tuple #[(g2 (-1) 0), (g2 1 0)]), (g2 (-1) 0), (g2 1 0), (g2 1 0), (g2 0 0), (.bool true), sn, (pt 22 0), (I (-1)), (pt 22 1), I 0, (g2 1 0), (.agg #[(I (-1)), I 0, I 1, I 0]), (sl 24 0 1 1), (sl 25 0 1 1), U, U, U]
noncomputable def w4_X11 : Heap := (H [rowW4_4, rowW4_1, (rvar [(.map (.some 9))] 185), (rvar [(sl 8 0 2 2)] 37), rowW4_0, rowW4_8, rowW4_8, (rvar [I 1, I 0] 34), (rvar [I 1, I 0] 187), rowW4_6, rowW4_6, (rvar [I 1, I 0] 34), (rvar [(I (-1)), I 0] 187), (.some (.miter 9 2 [1] 2)), (rvar [(I (-1)), I 0] 187), (rvar [I 1, I 0] 34), rowW4_5, rowW4_5])
theorem w4_e11 : aRun Tryz.prog env0 100000 9 [.ops w4_O 1, .code w4_R] (tput w4_L5 (some 29) (.tuple #[.bool true, (g2 (-1) 0), (g2 1 0)])) (hset w4_X5 21 (some (.miter 9 2 [1] 2))) = some (w4_L11, w4_X11, none) := by kernel_rfl
noncomputable def w4_L12 : List Value := [(sl 8 0 2 2), U, sn, (pt 10 0), U, U, U, (sl 29 0 2 2), (pt 26 0), (pt 27 0), (.map (.some 9)), (sl 8 0 2 2), (.func (.func 149) #[] #[(pt 11 0)]), U, U, U, U, U, U, U, U, U, U, U, U, U, U, (.map (.some 9)), (pt 21 0), (.tuple #[(.bool true), (g2 1 0), (g2 1 0)]), (.bool true), (.tuple #[(g2 1 0), (g2 1 0)]), (g2 1 0), (g2 1 0), (g2 1 0), (g2 0 0), (.bool true), (sl 25 0 1 1), (pt 26 0), I 1, (pt 26 1), I 0, (g2 1 0), (.agg #[I 1, I 0, I 1, I 0]), (sl 28 0 1 1), (sl 29 0 2 2), U, U, U]
noncomputable def w4_X12 : Heap := (H [rowW4_4, rowW4_1, (rvar [(.map (.some 9))] 185), (rvar [(sl 8 0 2 2)] 37), rowW4_0, rowW4_8, rowW4_8, (rvar [I 1, I 0] 34), (rvar [I 1, I 0] 187), rowW4_6, rowW4_6, (rvar [I 1, I 0] 34), (rvar [(I (-1)), I 0] 187), (.some (.miter 9 2 [1, 0] 2)), (rvar [(I (-1)), I 0] 187), (rvar [I 1, I 0] 34), rowW4_5, .none, (rvar [I 1, I 0] 187), (rvar [I 1, I 0] 34), rowW4_7, rowW4_3])
theorem w4_e12 : aRun Tryz.prog env0 100000 9 [.ops w4_O 1, .code w4_R] (tput w4_L11 (some 29) (.tuple #[.bool true, (g2 1 0), (g2 1 0)])) (hset w4_X11 21 (some (.miter 9 2 [1, 0] 2))) = some (w4_L12, w4_X12, none) := by kernel_rfl
noncomputable def w4_L13 : List Value := [(sl 8 0 2 2), U, sn, (pt 10 0), U, U, U, (sl 29 0 2 2), (pt 26 0), (pt 27 0), (.map (.some 9)), (sl 8 0 2 2), (.func (.func 149) #[] #[(pt 11 0)]), U, U, U, U, U, U, U, U, U, U, U, U, U, U, (.map (.some 9)), (pt 21 0), (.tuple #[(.bool false)]), (.bool false), (.tuple #[(g2 1 0), (g2 1 0)]), (g2 1 0), (g2 1 0), (g2 1 0), (g2 0 0), (.bool true), (sl 25 0 1 1), (pt 26 0), I 1, (pt 26 1), I 0, (g2 1 0), (.agg #[I 1, I 0, I 1, I 0]), (sl 28 0 1 1), (sl 29 0 2 2), U, U, U]
noncomputable def w4_X13 : Heap := (H [rowW4_4, rowW4_1, (rvar [(.map (.some 9))] 185), (rvar [(sl 8 0 2 2)] 37), rowW4_0, rowW4_8, rowW4_8, (rvar [I 1, I 0] 34), (rvar [I 1, I 0] 187), rowW4_6, rowW4_6, (rvar [I 1, I 0] 34), (rvar [(I (-1)), I 0] 187), (.some (.miter 9 2 [1, 0] 2)), (rvar [(I (-1)), I 0] 187), (rvar [I 1, I 0] 34), rowW4_5, .none, (rvar [I 1, I 0] 187), (rvar [I 1, I 0] 34), rowW4_7, rowW4_3])
theorem w4_o12 : aRun Tryz.prog env0 100000 9 [.ops w4_O 1, .code w4_R, .inLoop w4_B, .inBlock 2] (tput w4_L12 (some 29) (.tuple #[.bool false])) w4_X12 = some (w4_L13, w4_X13, none) := by kernel_rfl
noncomputable def w4_L14 : List Value := [(sl 8 0 2 2), U, sn, (pt 10 0), U, U, U, (sl 29 0 2 2), (pt 26 0), (pt 27 0), (.map (.some 9)), (sl 8 0 2 2), (.func (.func 149) #[] #[(pt 11 0)]), U, U, U, U, U, U, U, U, U, U, U, U, U, U, (.map (.some 9)), (pt 21 0), (.tuple #[(.bool false)]), (.bool false), (.tuple #[(g2 1 0), (g2 1 0)]), (g2 1 0), (g2 1 0), (g2 1 0), (g2 0 0), (.bool true), (sl 25 0 1 1), (pt 26 0), I 1, (pt 26 1), I 0, (g2 1 0), (.agg #[I 1, I 0, I 1, I 0]), (sl 28 0 1 1), (sl 29 0 2 2), (sl 29 0 2 2), U, U]
noncomputable def w4_X14 : Heap := (H [rowW4_4, rowW4_1, (rvar [(.map (.some 9))] 185), (rvar [(sl 8 0 2 2)] 37), rowW4_0, rowW4_8, rowW4_8, (rvar [I 1, I 0] 34), (rvar [I 1, I 0] 187), rowW4_6, rowW4_6, (rvar [I 1, I 0] 34), (rvar [(I (-1)), I 0] 187), (.some (.miter 9 2 [1, 0] 2)), (rvar [(I (-1)), I 0] 187), (rvar [I 1, I 0] 34), rowW4_5, .none, (rvar [I 1, I 0] 187), (rvar [I 1, I 0] 34), rowW4_7, rowW4_3])
theorem w4_t13 : aRun Tryz.prog env0 100000 9 [.code (seqAt 5 (bodyOf 106))] w4_L13 w4_X13 = some (w4_L14, w4_X14, none) := by kernel_rfl
noncomputable def w4_L15 : List Value := [(sl 8 0 2 2), U, (sl 29 0 2 2), (pt 10 0), U, U, U, (sl 29 0 2 2), (pt 26 0), (pt 27 0), (.map (.some 9)), (sl 8 0 2 2), (.func (.func 149) #[] #[(pt 11 0)]), U, U, U, U, U, U, U, U, U, U, U, U, U, U, (.map (.some 9)), (pt 21 0), (.tuple #[(.bool false)]), (.bool false), (.tuple #[(g2 1 0), (g2 1 0)]), (g2 1 0), (g2 1 0), (g2 1 0), (g2 0 0), (.bool true), (sl 25 0 1 1), (pt 26 0), I 1, (pt 26 1), I 0, (g2 1 0), (.agg #[I 1, I 0, I 1, I 0]), (sl 28 0 1 1), (sl 29 0 2 2), (sl 29 0 2 2), U, (sl 29 0 2 2)]
noncomputable def w4_X15 : Heap := (H [rowW4_4, rowW4_1, (rvar [(.map (.some 9))] 185), (rvar [(sl 8 0 2 2)] 37), rowW4_0, rowW4_8, rowW4_8, (rvar [I 1, I 0] 34), (rvar [I 1, I 0] 187), rowW4_6, rowW4_6, (rvar [I 1, I 0] 34), (rvar [(I (-1)), I 0] 187), (.some (.miter 9 2 [1, 0] 2)), (rvar [(I (-1)), I 0] 187), (rvar [I 1, I 0] 34), rowW4_5, .none, (rvar [I 1, I 0] 187), (rvar [I 1, I 0] 34), rowW4_7, rowW4_3])
theorem w4_t14 : aRun Tryz.prog env0 100000 9 [.code (seqAt 6 (bodyOf 106))] w4_L14 w4_X14 = some (w4_L15, w4_X15, none) := by kernel_rfl
noncomputable def w4_Y15 : Heap := [rowW4_1, (rvar [(.map (.some 9))] 185), (rvar [(sl 8 0 2 2)] 37), rowW4_0, rowW4_8, rowW4_8, (rvar [I 1, I 0] 34), (rvar [I 1, I 0] 187), rowW4_6, rowW4_6, (rvar [I 1, I 0] 34), (rvar [(I (-1)), I 0] 187), (.some (.miter 9 2 [1, 0] 2)), (rvar [(I (-1)), I 0] 187), (rvar [I 1, I 0] 34), rowW4_5, .none, (rvar [I 1, I 0] 187), (rvar [I 1, I 0] 34), rowW4_7, rowW4_3]
theorem w4_n12 : EndsA Tryz.prog 8 Tryz.f106 w4_A w4_V (w4_A ++ w4_RC) [.code w4_B, .inLoop w4_B, .inBlock 2, .code (dropS 5 (bodyOf 106))] w4_L12 w4_X12 := by
  refine EndsA.mapRound w4_hB (EndsA.over (.tmp 28) (some 29) 21 9 2 2 2 [1, 0] [((g2 1 0), (g2 1 0), 0), ((g2 (-1) 0), (g2 1 0), 1)] (by kernel_rfl) (by kernel_rfl) (by kernel_rfl) (by kernel_rfl) (by kernel_rfl) (by decide) (by kernel_rfl) ?_)
  refine EndsA.run (k := [.ops w4_O 1, .code w4_R, .inLoop w4_B, .inBlock 2]) prog_ok env0_ok ⟨_, w4_o12⟩ ?_
  refine EndsA.drop prog_ok env0_ok (by kernel_rfl) ⟨_, w4_t13⟩ ?_
  refine EndsA.drop prog_ok env0_ok (by kernel_rfl) ⟨_, w4_t14⟩ ?_
  rw [show w4_X15 = w4_A ++ w4_Y15 from by kernel_rfl]
  exact EndsA.renum (ids := [29]) (m := [.no, .no, .ren, .no, .no, .no, .no, .no, .no, .no, .no, .no, .no, .no, .no, .no, .no, .no, .no, .no, .no, .no, .no, .no, .no, .no, .no, .no, .no, .no, .free, .no, .no, .no, .no, .no, .free, .no, .no, .no, .no, .no, .no, .no, .no, .no, .no, .no, .no]) (fs := [(.bool false), (.bool true)]) (by decide) (by decide) (by decide) (by kernel_rfl) (by simp [freeB, atomB]) (RowsBy.cons (i := 29) (by kernel_rfl) (RowBy.plain (by kernel_rfl)) RowsBy.nil) w4_end
theorem w4_n11 : EndsA Tryz.prog 8 Tryz.f106 w4_A w4_V (w4_A ++ w4_RC) [.code w4_B, .inLoop w4_B, .inBlock 2, .code (dropS 5 (bodyOf 106))] w4_L11 w4_X11 := by
  refine EndsA.mapRound w4_hB (EndsA.more (.tmp 28) (some 29) 21 9 2 2 2 [1] [((g2 1 0), (g2 1 0), 0), ((g2 (-1) 0), (g2 1 0), 1)] [((g2 1 0), (g2 1 0), 0)] (by kernel_rfl) (by kernel_rfl) (by kernel_rfl) (by kernel_rfl) (by kernel_rfl) (by decide) (by kernel_rfl) (by kernel_rfl) ?_)
  exact ⟨⟨by kernel_rfl, EndsA.run (k := [.ops w4_O 1, .code w4_R]) prog_ok env0_ok ⟨_, w4_e12⟩ (EndsA.again w4_n12)⟩, trivial⟩
theorem w4_n5 : EndsA Tryz.prog 8 Tryz.f106 w4_A w4_V (w4_A ++ w4_RC) [.code w4_B, .inLoop w4_B, .inBlock 2, .code (dropS 5 (bodyOf 106))] w4_L5 w4_X5 := by
  refine EndsA.mapRound w4_hB (EndsA.more (.tmp 28) (some 29) 21 9 2 2 2 [] [((g2 1 0), (g2 1 0), 0), ((g2 (-1) 0), (g2 1 0), 1)] [((g2 1 0), (g2 1 0), 0), ((g2 (-1) 0), (g2 1 0), 1)] (by kernel_rfl) (by kernel_rfl) (by kernel_rfl) (by kernel_rfl) (by kernel_rfl) (by decide) (by kernel_rfl) (by kernel_rfl) ?_)
  exact ⟨⟨by kernel_rfl, EndsA.run (k := [.ops w4_O 1, .code w4_R]) prog_ok env0_ok ⟨_, w4_e6⟩ (EndsA.again w4_n6)⟩, ⟨⟨by kernel_rfl, EndsA.run (k := [.ops w4_O 1, .code w4_R]) prog_ok env0_ok ⟨_, w4_e11⟩ (EndsA.again w4_n11)⟩, trivial⟩⟩
theorem w4_ends : EndsA Tryz.prog 8 Tryz.f106 w4_A w4_V (w4_A ++ w4_RC) [.code (dropS 0 (bodyOf 106))] w4_L0 w4_X0 := by
  refine EndsA.drop prog_ok env0_ok (by kernel_rfl) ⟨_, w4_t0⟩ ?_
  refine EndsA.drop prog_ok env0_ok (by kernel_rfl) ⟨_, w4_t1⟩ ?_
  refine EndsA.drop prog_ok env0_ok (by kernel_rfl) ⟨_, w4_t2⟩ ?_
  refine EndsA.drop prog_ok env0_ok (by kernel_rfl) ⟨_, w4_t3⟩ ?_
  refine EndsA.dropSeq (by kernel_rfl) ?_
  rw [w4_hS]
  exact EndsA.seq (EndsA.run (k := [.code (headS (seqAt 4 (bodyOf 106)))]) prog_ok env0_ok ⟨_, w4_t4⟩ (EndsA.blockLoop w4_hC w4_n5))
theorem w4_says : SaysAt Tryz.prog 8 106 [.slice (some ⟨8, 0, none⟩) 2 2] w4_A w4_V (w4_A ++ w4_RC) :=
  EndsA.says prog_ok Tryz.func106 (c := bodyOf 106) (by kernel_rfl) (by decide) (EndsA.cast (by kernel_rfl) (by kernel_rfl) (by kernel_rfl) w4_ends) (by simp) (fun i hi => by rw [hget_append, if_pos hi]) (by kernel_rfl)
end Go.Proofs.YtpdiaiccnaoaiaaGreatDoor
/-
The weights of a list of the document's examples, whatever the order of the map.
-/
namespace Go.Proofs.YtpdiaiccnaoaiaaGreatDoor
open Go Go.Abs
noncomputable def rowW5_0 : Option ARow := (.some (.loop ([(sl 8 0 2 2), U, sn, (pt 10 0), U, U, U, U, U, U, (.map (.some 9)), (sl 8 0 2 2), (.func (.func 149) #[] #[(pt 11 0)])] ++ us 36) #[13, 14] codeW0_0 codeW0_1 .exhausted .none))
noncomputable def rowW5_1 : Option ARow := (.some (.map [(.mk (g2 0 1) (.mk (g2 1 0) 0)), (.mk (g2 0 (-1)) (.mk (g2 1 0) 1))] 2))
noncomputable def rowW5_2 : Option ARow := (rrow [I 0, I 1, I 1, I 0, I 0, (I (-1)), I 1, I 0] 125)
noncomputable def rowW5_3 : Option ARow := (rrow [I 0, (I (-1)), I 1, I 0, I 0, I 1, I 1, I 0] 125)
noncomputable def rowW5_4 : Option ARow := (rrow [I 0, I 1, I 1, I 0, I 0, (I (-1)), I 1, I 0] 32)
noncomputable def rowW5_5 : Option ARow := (rrow [I 0, (I (-1)), I 1, I 0] 125)
noncomputable def rowW5_6 : Option ARow := (rvar [I 0, (I (-1)), I 1, I 0] 32)
noncomputable def rowW5_7 : Option ARow := (rrow [I 0, I 1, I 1, I 0] 125)
noncomputable def rowW5_8 : Option ARow := (rvar [I 0, I 1, I 1, I 0] 32)
noncomputable def w5_B : Code := loopB (tailS (seqAt 4 (bodyOf 106)))
noncomputable def w5_O : Array Oper := headOps w5_B
noncomputable def w5_R : Code := tailS w5_B
theorem w5_hS : seqAt 4 (bodyOf 106) = .seq (headS (seqAt 4 (bodyOf 106))) (tailS (seqAt 4 (bodyOf 106))) := by kernel_rfl
theorem w5_hC : tailS (seqAt 4 (bodyOf 106)) = .block 2 (.loop w5_B) := by kernel_rfl
theorem w5_hB : w5_B = .seq (.region (headId w5_B) w5_O false) w5_R := by kernel_rfl
noncomputable def w5_A : Heap := (H [some (.cells [.int .i64 0, .int .i64 1, .int .i64 1, .int .i64 0, .int .i64 0, .int .i64 (-1), .int .i64 1, .int .i64 0] 32 .row)])
noncomputable def w5_L0 : List Value := ([(sl 8 0 2 2)] ++ us 48)
noncomputable def w5_X0 : Heap := (H [rowW5_4])
noncomputable def w5_L1 : List Value := ([(sl 8 0 2 2), U, sn] ++ us 46)
noncomputable def w5_X1 : Heap := (H [rowW5_4])
theorem w5_t0 : aRun Tryz.prog env0 100000 9 [.code (seqAt 0 (bodyOf 106))] w5_L0 w5_X0 = some (w5_L1, w5_X1, none) := by kernel_rfl
noncomputable def w5_L2 : List Value := ([(sl 8 0 2 2), U, sn, (pt 10 0), U, U, U, U, U, U, (.map (.some 9))] ++ us 38)
noncomputable def w5_X2 : Heap := (H [rowW5_4, (.some (.map [] 0)), (rvar [(.map (.some 9))] 185)])
theorem w5_t1 : aRun Tryz.prog env0 100000 9 [.code (seqAt 1 (bodyOf 106))] w5_L1 w5_X1 = some (w5_L2, w5_X2, none) := by kernel_rfl
noncomputable def w5_L3 : List Value := ([(sl 8 0 2 2), U, sn, (pt 10 0), U, U, U, U, U, U, (.map (.some 9)), (sl 8 0 2 2), (.func (.func 149) #[] #[(pt 11 0)])] ++ us 36)
noncomputable def w5_X3 : Heap := (H [rowW5_4, rowW5_1, (rvar [(.map (.some 9))] 185), (rvar [(sl 8 0 2 2)] 37), rowW5_0, rowW5_8, rowW5_8, (rvar [I 1, I 0] 34), (rvar [I 0, I 1] 187), rowW5_6, rowW5_6, (rvar [I 1, I 0] 34), (rvar [I 0, (I (-1))] 187)])
theorem w5_t2 : aRun Tryz.prog env0 100000 9 [.code (seqAt 2 (bodyOf 106))] w5_L2 w5_X2 = some (w5_L3, w5_X3, none) := by kernel_rfl
noncomputable def w5_L4 : List Value := ([(sl 8 0 2 2), U, sn, (pt 10 0), U, U, U, sn, U, U, (.map (.some 9)), (sl 8 0 2 2), (.func (.func 149) #[] #[(pt 11 0)])] ++ us 36)
noncomputable def w5_X4 : Heap := (H [rowW5_4, rowW5_1, (rvar [(.map (.some 9))] 185), (rvar [(sl 8 0 2 2)] 37), rowW5_0, rowW5_8, rowW5_8, (rvar [I 1, I 0] 34), (rvar [I 0, I 1] 187), rowW5_6, rowW5_6, (rvar [I 1, I 0] 34), (rvar [I 0, (I (-1))] 187)])
theorem w5_t3 : aRun Tryz.prog env0 100000 9 [.code (seqAt 3 (bodyOf 106))] w5_L3 w5_X3 = some (w5_L4, w5_X4, none) := by kernel_rfl
noncomputable def w5_L5 : List Value := ([(sl 8 0 2 2), U, sn, (pt 10 0), U, U, U, sn, U, U, (.map (.some 9)), (sl 8 0 2 2), (.func (.func 149) #[] #[(pt 11 0)]), U, U, U, U, U, U, U, U, U, U, U, U, U, U, (.map (.some 9)), (pt 21 0)] ++ us 20)
noncomputable def w5_X5 : Heap := (H [rowW5_4, rowW5_1, (rvar [(.map (.some 9))] 185), (rvar [(sl 8 0 2 2)] 37), rowW5_0, rowW5_8, rowW5_8, (rvar [I 1, I 0] 34), (rvar [I 0, I 1] 187), rowW5_6, rowW5_6, (rvar [I 1, I 0] 34), (rvar [I 0, (I (-1))] 187), (.some (.miter 9 2 [] 2))])
theorem w5_t4 : aRun Tryz.prog env0 100000 9 [.code (headS (seqAt 4 (bodyOf 106)))] w5_L4 w5_X4 = some (w5_L5, w5_X5, none) := by kernel_rfl
noncomputable def w5_L6 : List Value := [(sl 8 0 2 2), U, sn, (pt 10 0), U, U, U, (sl 25 0 1 1), (pt 22 0), (pt 23 0), (.map (.some 9)), (sl 8 0 2 2), (.func (.func 149) #[] #[(pt 11 0)]), U, U, U, U, U, U, U, U, U, U, U, U, U, U, (.map (.some 9)), (pt 21 0), (.tuple #[(.bool true), (g2 0 1), (g2 1 0)]), (.bool true), (.tuple #[(g2 0 1), (g2 1 0)]), (g2 0 1), (g2 1 0), (g2 1 0), (g2 0 0), (.bool true), sn, (pt 22 0), I 0, (pt 22 1), I 1, (g2 1 0), (.agg #[I 0, I 1, I 1, I 0]), (sl 24 0 1 1), (sl 25 0 1 1), U, U, U]
noncomputable def w5_X6 : Heap := (H [rowW5_4, rowW5_1, (rvar [(.map (.some 9))] 185), (rvar [(sl 8 0 2 2)] 37), rowW5_0, rowW5_8, rowW5_8, (rvar [I 1, I 0] 34), (rvar [I 0, I 1] 187), rowW5_6, rowW5_6, (rvar [I 1, I 0] 34), (rvar [I 0, (I (-1))] 187), (.some (.miter 9 2 [0] 2)), (rvar [I 0, I 1] 187), (rvar [I 1, I 0] 34), rowW5_7, rowW5_7])
theorem w5_e6 : aRun Tryz.prog env0 100000 9 [.ops w5_O 1, .code w5_R] (tput w5_L5 (some 29) (.tuple #[.bool true, (g2 0 1), (g2 1 0)])) (hset w5_X5 21 (some (.miter 9 2 [0] 2))) = some (w5_L6, w5_X6, none) := by kernel_rfl
noncomputable def w5_L7 : List Value := [(sl 8 0 2 2), U, sn, (pt 10 0), U, U, U, (sl 29 0 2 2), (pt 26 0), (pt 27 0), (.map (.some 9)), (sl 8 0 2 2), (.func (.func 149) #[] #[(pt 11 0)]), U, U, U, U, U, U, U, U, U, U, U, U, U, U, (.map (.some 9)), (pt 21 0), (.tuple #[(.bool true), (g2 0 (-1)), (g2 1 0)]), (.bool true), (.tuple #[(g2 0 (-1)), (g2 1 0)]), (g2 0 (-1)), (g2 1 0), (g2 1 0), (g2 0 0), (.bool true), (sl 25 0 1 1), (pt 26 0), I 0, (pt 26 1), (I (-1)), (g2 1 0), (.agg #[I 0, (I (-1)), I 1, I 0]), (sl 28 0 1 1), (sl 29 0 2 2), U, U, U]
noncomputable def w5_X7 : Heap := (H [rowW5_4, rowW5_1, (rvar [(.map (.some 9))] 185), (rvar [(sl 8 0 2 2)] 37), rowW5_0, rowW5_8, rowW5_8, (rvar [I 1, I 0] 34), (rvar [I 0, I 1] 187), rowW5_6, rowW5_6, (rvar [I 1, I 0] 34), (rvar [I 0, (I (-1))] 187), (.some (.miter 9 2 [0, 1] 2)), (rvar [I 0, I 1] 187), (rvar [I 1, I 0] 34), rowW5_7, .none, (rvar [I 0, (I (-1))] 187), (rvar [I 1, I 0] 34), rowW5_5, rowW5_2])
theorem w5_e7 : aRun Tryz.prog env0 100000 9 [.ops w5_O 1, .code w5_R] (tput w5_L6 (some 29) (.tuple #[.bool true, (g2 0 (-1)), (g2 1 0)])) (hset w5_X6 21 (some (.miter 9 2 [0, 1] 2))) = some (w5_L7, w5_X7, none) := by kernel_rfl
noncomputable def w5_L8 : List Value := [(sl 8 0 2 2), U, sn, (pt 10 0), U, U, U, (sl 29 0 2 2), (pt 26 0), (pt 27 0), (.map (.some 9)), (sl 8 0 2 2), (.func (.func 149) #[] #[(pt 11 0)]), U, U, U, U, U, U, U, U, U, U, U, U, U, U, (.map (.some 9)), (pt 21 0), (.tuple #[(.bool false)]), (.bool false), (.tuple #[(g2 0 (-1)), (g2 1 0)]), (g2 0 (-1)), (g2 1 0), (g2 1 0), (g2 0 0), (.bool true), (sl 25 0 1 1), (pt 26 0), I 0, (pt 26 1), (I (-1)), (g2 1 0), (.agg #[I 0, (I (-1)), I 1, I 0]), (sl 28 0 1 1), (sl 29 0 2 2), U, U, U]
noncomputable def w5_X8 : Heap := (H [rowW5_4, rowW5_1, (rvar [(.map (.some 9))] 185), (rvar [(sl 8 0 2 2)] 37), rowW5_0, rowW5_8, rowW5_8, (rvar [I 1, I 0] 34), (rvar [I 0, I 1] 187), rowW5_6, rowW5_6, (rvar [I 1, I 0] 34), (rvar [I 0, (I (-1))] 187), (.some (.miter 9 2 [0, 1] 2)), (rvar [I 0, I 1] 187), (rvar [I 1, I 0] 34), rowW5_7, .none, (rvar [I 0, (I (-1))] 187), (rvar [I 1, I 0] 34), rowW5_5, rowW5_2])
theorem w5_o7 : aRun Tryz.prog env0 100000 9 [.ops w5_O 1, .code w5_R, .inLoop w5_B, .inBlock 2] (tput w5_L7 (some 29) (.tuple #[.bool false])) w5_X7 = some (w5_L8, w5_X8, none) := by kernel_rfl
noncomputable def w5_L9 : List Value := [(sl 8 0 2 2), U, sn, (pt 10 0), U, U, U, (sl 29 0 2 2), (pt 26 0), (pt 27 0), (.map (.some 9)), (sl 8 0 2 2), (.func (.func 149) #[] #[(pt 11 0)]), U, U, U, U, U, U, U, U, U, U, U, U, U, U, (.map (.some 9)), (pt 21 0), (.tuple #[(.bool false)]), (.bool false), (.tuple #[(g2 0 (-1)), (g2 1 0)]), (g2 0 (-1)), (g2 1 0), (g2 1 0), (g2 0 0), (.bool true), (sl 25 0 1 1), (pt 26 0), I 0, (pt 26 1), (I (-1)), (g2 1 0), (.agg #[I 0, (I (-1)), I 1, I 0]), (sl 28 0 1 1), (sl 29 0 2 2), (sl 29 0 2 2), U, U]
noncomputable def w5_X9 : Heap := (H [rowW5_4, rowW5_1, (rvar [(.map (.some 9))] 185), (rvar [(sl 8 0 2 2)] 37), rowW5_0, rowW5_8, rowW5_8, (rvar [I 1, I 0] 34), (rvar [I 0, I 1] 187), rowW5_6, rowW5_6, (rvar [I 1, I 0] 34), (rvar [I 0, (I (-1))] 187), (.some (.miter 9 2 [0, 1] 2)), (rvar [I 0, I 1] 187), (rvar [I 1, I 0] 34), rowW5_7, .none, (rvar [I 0, (I (-1))] 187), (rvar [I 1, I 0] 34), rowW5_5, rowW5_3])
theorem w5_t8 : aRun Tryz.prog env0 100000 9 [.code (seqAt 5 (bodyOf 106))] w5_L8 w5_X8 = some (w5_L9, w5_X9, none) := by kernel_rfl
noncomputable def w5_L10 : List Value := [(sl 8 0 2 2), U, (sl 29 0 2 2), (pt 10 0), U, U, U, (sl 29 0 2 2), (pt 26 0), (pt 27 0), (.map (.some 9)), (sl 8 0 2 2), (.func (.func 149) #[] #[(pt 11 0)]), U, U, U, U, U, U, U, U, U, U, U, U, U, U, (.map (.some 9)), (pt 21 0), (.tuple #[(.bool false)]), (.bool false), (.tuple #[(g2 0 (-1)), (g2 1 0)]), (g2 0 (-1)), (g2 1 0), (g2 1 0), (g2 0 0), (.bool true), (sl 25 0 1 1), (pt 26 0), I 0, (pt 26 1), (I (-1)), (g2 1 0), (.agg #[I 0, (I (-1)), I 1, I 0]), (sl 28 0 1 1), (sl 29 0 2 2), (sl 29 0 2 2), U, (sl 29 0 2 2)]
noncomputable def w5_X10 : Heap := (H [rowW5_4, rowW5_1, (rvar [(.map (.some 9))] 185), (rvar [(sl 8 0 2 2)] 37), rowW5_0, rowW5_8, rowW5_8, (rvar [I 1, I 0] 34), (rvar [I 0, I 1] 187), rowW5_6, rowW5_6, (rvar [I 1, I 0] 34), (rvar [I 0, (I (-1))] 187), (.some (.miter 9 2 [0, 1] 2)), (rvar [I 0, I 1] 187), (rvar [I 1, I 0] 34), rowW5_7, .none, (rvar [I 0, (I (-1))] 187), (rvar [I 1, I 0] 34), rowW5_5, rowW5_3])
theorem w5_t9 : aRun Tryz.prog env0 100000 9 [.code (seqAt 6 (bodyOf 106))] w5_L9 w5_X9 = some (w5_L10, w5_X10, none) := by kernel_rfl
noncomputable def w5_LC : List Value := [junk, junk, (.slice (some ⟨9, 0, none⟩) 2 2), junk, junk, junk, junk, junk, junk, junk, junk, junk, junk, junk, junk, junk, junk, junk, junk, junk, junk, junk, junk, junk, junk, junk, junk, junk, junk, junk, (.bool false), junk, junk, junk, junk, junk, (.bool true), junk, junk, junk, junk, junk, junk, junk, junk, junk, junk, junk, junk]
noncomputable def w5_RC : Heap := [rowW5_3]
noncomputable def w5_V : Value := (.slice (some ⟨9, 0, none⟩) 2 2)
theorem w5_c : aRun Tryz.prog env0 100000 9 [.code (dropS 7 (bodyOf 106))] w5_LC (w5_A ++ w5_RC) = some (w5_LC, w5_A ++ w5_RC, some .ret) := by kernel_rfl
theorem w5_end : EndsA Tryz.prog 8 Tryz.f106 w5_A w5_V (w5_A ++ w5_RC) [.code (dropS 7 (bodyOf 106))] w5_LC (w5_A ++ w5_RC) := EndsA.ret prog_ok env0_ok ⟨_, w5_c⟩ rfl (by kernel_rfl)
noncomputable def w5_Y10 : Heap := [rowW5_1, (rvar [(.map (.some 9))] 185), (rvar [(sl 8 0 2 2)] 37), rowW5_0, rowW5_8, rowW5_8, (rvar [I 1, I 0] 34), (rvar [I 0, I 1] 187), rowW5_6, rowW5_6, (rvar [I 1, I 0] 34), (rvar [I 0, (I (-1))] 187), (.some (.miter 9 2 [0, 1] 2)), (rvar [I 0, I 1] 187), (rvar [I 1, I 0] 34), rowW5_7, .none, (rvar [I 0, (I (-1))] 187), (rvar [I 1, I 0] 34), rowW5_5, rowW5_3]
theorem w5_n7 : EndsA Tryz.prog 8 Tryz.f106 w5_A w5_V (w5_A ++ w5_RC) [.code w5_B, .inLoop w5_B, .inBlock 2, .code (dropS 5 (bodyOf 106))] w5_L7 w5_X7 := by
  refine EndsA.mapRound w5_hB (EndsA.over (.tmp 28) (some 29) 21 9 2 2 2 [0, 1] [((g2 0 1), (g2 1 0), 0), ((g2 0 (-1)), (g2 1 0), 1)] (by kernel_rfl) (by kernel_rfl) (by kernel_rfl) (by kernel_rfl) (by kernel_rfl) (by decide) (by kernel_rfl) ?_)
  refine EndsA.run (k := [.ops w5_O 1, .code w5_R, .inLoop w5_B, .inBlock 2]) prog_ok env0_ok ⟨_, w5_o7⟩ ?_
  refine EndsA.drop prog_ok env0_ok (by kernel_rfl) ⟨_, w5_t8⟩ ?_
  refine EndsA.drop prog_ok env0_ok (by kernel_rfl) ⟨_, w5_t9⟩ ?_
  rw [show w5_X10 = w5_A ++ w5_Y10 from by kernel_rfl]
  exact EndsA.renum (ids := [29]) (m := [.no, .no, .ren, .no, .no, .no, .no, .no, .no, .no, .no, .no, .no, .no, .no, .no, .no, .no, .no, .no, .no, .no, .no, .no, .no, .no, .no, .no, .no, .no, .free, .no, .no, .no, .no, .no, .free, .no, .no, .no, .no, .no, .no, .no, .no, .no, .no, .no, .no]) (fs := [(.bool false), (.bool true)]) (by decide) (by decide) (by decide) (by kernel_rfl) (by simp [freeB, atomB]) (RowsBy.cons (i := 29) (by kernel_rfl) (RowBy.plain (by kernel_rfl)) RowsBy.nil) w5_end
theorem w5_n6 : EndsA Tryz.prog 8 Tryz.f106 w5_A w5_V (w5_A ++ w5_RC) [.code w5_B, .inLoop w5_B, .inBlock 2, .code (dropS 5 (bodyOf 106))] w5_L6 w5_X6 := by
  refine EndsA.mapRound w5_hB (EndsA.more (.tmp 28) (some 29) 21 9 2 2 2 [0] [((g2 0 1), (g2 1 0), 0), ((g2 0 (-1)), (g2 1 0), 1)] [((g2 0 (-1)), (g2 1 0), 1)] (by kernel_rfl) (by kernel_rfl) (by kernel_rfl) (by kernel_rfl) (by kernel_rfl) (by decide) (by kernel_rfl) (by kernel_rfl) ?_)
  exact ⟨⟨by kernel_rfl, EndsA.run (k := [.ops w5_O 1, .code w5_R]) prog_ok env0_ok ⟨_, w5_e7⟩ (EndsA.again w5_n7)⟩, trivial⟩
noncomputable def w5_L11 : List Value := [(sl 8 0 2 2), U, sn, (pt 10 0), U, U, U, (sl 25 0 1 1), (pt 22 0), (pt 23 0), (.map (.some 9)), (sl 8 0 2 2), (.func (.func 149) #[] #[(pt 11 0)]), U, U, U, U, U, U, U, U, U, U, U, U, U, U, (.map (.some 9)), (pt 21 0), (.tuple #[(.bool true), (g2 0 (-1)), (g2 1 0)]), (.bool true), (.tuple #[(g2 0 (-1)), (g2 1 0)]), (g2 0 (-1)), (g2 1 0), (g2 1 0), (g2 0 0), (.bool true), sn, (pt 22 0), I 0, (pt 22 1), (I (-1)), (g2 1 0), (.agg #[I 0, (I (-1)), I 1, I 0]), (sl 24 0 1 1), (sl 25 0 1 1), U, U, U]
noncomputable def w5_X11 : Heap := (H [rowW5_4, rowW5_1, (rvar [(.map (.some 9))] 185), (rvar [(sl 8 0 2 2)] 37), rowW5_0, rowW5_8, rowW5_8, (rvar [I 1, I 0] 34), (rvar [I 0, I 1] 187), rowW5_6, rowW5_6, (rvar [I 1, I 0] 34), (rvar [I 0, (I (-1))] 187), (.some (.miter 9 2 [1] 2)), (rvar [I 0, (I (-1))] 187), (rvar [I 1, I 0] 34), rowW5_5, rowW5_5])
theorem w5_e11 : aRun Tryz.prog env0 100000 9 [.ops w5_O 1, .code w5_R] (tput w5_L5 (some 29) (.tuple #[.bool true, (g2 0 (-1)), (g2 1 0)])) (hset w5_X5 21 (some (.miter 9 2 [1] 2))) = some (w5_L11, w5_X11, none) := by kernel_rfl
noncomputable def w5_L12 : List Value := [(sl 8 0 2 2), U, sn, (pt 10 0), U, U, U, (sl 29 0 2 2), (pt 26 0), (pt 27 0), (.map (.some 9)), (sl 8 0 2 2), (.func (.func 149) #[] #[(pt 11 0)]), U, U, U, U, U, U, U, U, U, U, U, U, U, U, (.map (.some 9)), (pt 21 0), (.tuple #[(.bool true), (g2 0 1), (g2 1 0)]), (.bool true), (.tuple #[(g2 0 1), (g2 1 0)]), (g2 0 1), (g2 1 0), (g2 1 0), (g2 0 0), (.bool true), (sl 25 0 1 1), (pt 26 0), I 0, (pt 26 1), I 1, (g2 1 0), (.agg #[I 0, I 1, I 1, I 0]), (sl 28 0 1 1), (sl 29 0 2 2), U, U, U]
noncomputable def w5_X12 : Heap := (H [rowW5_4, rowW5_1, (rvar [(.map (.some 9))] 185), (rvar [(sl 8 0 2 2)] 37), rowW5_0, rowW5_8, rowW5_8, (rvar [I 1, I 0] 34), (rvar [I 0, I 1] 187), rowW5_6, rowW5_6, (rvar [I 1, I 0] 34), (rvar [I 0, (I (-1))] 187), (.some (.miter 9 2 [1, 0] 2)), (rvar [I 0, (I (-1))] 187), (rvar [I 1, I 0] 34), rowW5_5, .none, (rvar [I 0, I 1] 187), (rvar [I 1, I 0] 34), rowW5_7, rowW5_3])
theorem w5_e12 : aRun Tryz.prog env0 100000 9 [.ops w5_O 1, .code w5_R] (tput w5_L11 (some 29) (.tuple #[.bool true, (g2 0 1), (g2 1 0)])) (hset w5_X11 21 (some (.miter 9 2 [1, 0] 2))) = some (w5_L12, w5_X12, none) := by kernel_rfl
noncomputable def w5_L13 : List Value := [(sl 8 0 2 2), U, sn, (pt 10 0), U, U, U, (sl 29 0 2 2), (pt 26 0), (pt 27 0), (.map (.some 9)), (sl 8 0 2 2), (.func (.func 149) #[] #[(pt 11 0)]), U, U, U, U, U, U, U, U, U, U, U, U, U, U, (.map (.some 9)), (pt 21 0), (.tuple #[(.bool false)]), (.bool false), (.tuple #[(g2 0 1), (g2 1 0)]), (g2 0 1), (g2 1 0), (g2 1 0), (g2 0 0), (.bool true), (sl 25 0 1 1), (pt 26 0), I 0, (pt 26 1), I 1, (g2 1 0), (.agg #[I 0, I 1, I 1, I 0]), (sl 28 0 1 1), (sl 29 0 2 2), U, U, U]
noncomputable def w5_X13 : Heap := (H [rowW5_4, rowW5_1, (rvar [(.map (.some 9))] 185), (rvar [(sl 8 0 2 2)] 37), rowW5_0, rowW5_8, rowW5_8, (rvar [I 1, I 0] 34), (rvar [I 0, I 1] 187), rowW5_6, rowW5_6, (rvar [I 1, I 0] 34), (rvar [I 0, (I (-1))] 187), (.some (.miter 9 2 [1, 0] 2)), (rvar [I 0, (I (-1))] 187), (rvar [I 1, I 0] 34), rowW5_5, .none, (rvar [I 0, I 1] 187), (rvar [I 1, I 0] 34), rowW5_7, rowW5_3])
theorem w5_o12 : aRun Tryz.prog env0 100000 9 [.ops w5_O 1, .code w5_R, .inLoop w5_B, .inBlock 2] (tput w5_L12 (some 29) (.tuple #[.bool false])) w5_X12 = some (w5_L13, w5_X13, none) := by kernel_rfl
noncomputable def w5_L14 : List Value := [(sl 8 0 2 2), U, sn, (pt 10 0), U, U, U, (sl 29 0 2 2), (pt 26 0), (pt 27 0), (.map (.some 9)), (sl 8 0 2 2), (.func (.func 149) #[] #[(pt 11 0)]), U, U, U, U, U, U, U, U, U, U, U, U, U, U, (.map (.some 9)), (pt 21 0), (.tuple #[(.bool false)]), (.bool false), (.tuple #[(g2 0 1), (g2 1 0)]), (g2 0 1), (g2 1 0), (g2 1 0), (g2 0 0), (.bool true), (sl 25 0 1 1), (pt 26 0), I 0, (pt 26 1), I 1, (g2 1 0), (.agg #[I 0, I 1, I 1, I 0]), (sl 28 0 1 1), (sl 29 0 2 2), (sl 29 0 2 2), U, U]
noncomputable def w5_X14 : Heap := (H [rowW5_4, rowW5_1, (rvar [(.map (.some 9))] 185), (rvar [(sl 8 0 2 2)] 37), rowW5_0, rowW5_8, rowW5_8, (rvar [I 1, I 0] 34), (rvar [I 0, I 1] 187), rowW5_6, rowW5_6, (rvar [I 1, I 0] 34), (rvar [I 0, (I (-1))] 187), (.some (.miter 9 2 [1, 0] 2)), (rvar [I 0, (I (-1))] 187), (rvar [I 1, I 0] 34), rowW5_5, .none, (rvar [I 0, I 1] 187), (rvar [I 1, I 0] 34), rowW5_7, rowW5_3])
theorem w5_t13 : aRun Tryz.prog env0 100000 9 [.code (seqAt 5 (bodyOf 106))] w5_L13 w5_X13 = some (w5_L14, w5_X14, none) := by kernel_rfl
noncomputable def w5_L15 : List Value := [(sl 8 0 2 2), U, (sl 29 0 2 2), (pt 10 0), U, U, U, (sl 29 0 2 2), (pt 26 0), (pt 27 0), (.map (.some 9)), (sl 8 0 2 2), (.func (.func 149) #[] #[(pt 11 0)]), U, U, U, U, U, U, U, U, U, U, U, U, U, U, (.map (.some 9)), (pt 21 0), (.tuple #[(.bool false)]), (.bool false), (.tuple #[(g2 0 1), (g2 1 0)]), (g2 0 1), (g2 1 0), (g2 1 0), (g2 0 0), (.bool true), (sl 25 0 1 1), (pt 26 0), I 0, (pt 26 1), I 1, (g2 1 0), (.agg #[I 0, I 1, I 1, I 0]), (sl 28 0 1 1), (sl 29 0 2 2), (sl 29 0 2 2), U, (sl 29 0 2 2)]
noncomputable def w5_X15 : Heap := (H [rowW5_4, rowW5_1, (rvar [(.map (.some 9))] 185), (rvar [(sl 8 0 2 2)] 37), rowW5_0, rowW5_8, rowW5_8, (rvar [I 1, I 0] 34), (rvar [I 0, I 1] 187), rowW5_6, rowW5_6, (rvar [I 1, I 0] 34), (rvar [I 0, (I (-1))] 187), (.some (.miter 9 2 [1, 0] 2)), (rvar [I 0, (I (-1))] 187), (rvar [I 1, I 0] 34), rowW5_5, .none, (rvar [I 0, I 1] 187), (rvar [I 1, I 0] 34), rowW5_7, rowW5_3])
theorem w5_t14 : aRun Tryz.prog env0 100000 9 [.code (seqAt 6 (bodyOf 106))] w5_L14 w5_X14 = some (w5_L15, w5_X15, none) := by kernel_rfl
noncomputable def w5_Y15 : Heap := [rowW5_1, (rvar [(.map (.some 9))] 185), (rvar [(sl 8 0 2 2)] 37), rowW5_0, rowW5_8, rowW5_8, (rvar [I 1, I 0] 34), (rvar [I 0, I 1] 187), rowW5_6, rowW5_6, (rvar [I 1, I 0] 34), (rvar [I 0, (I (-1))] 187), (.some (.miter 9 2 [1, 0] 2)), (rvar [I 0, (I (-1))] 187), (rvar [I 1, I 0] 34), rowW5_5, .none, (rvar [I 0, I 1] 187), (rvar [I 1, I 0] 34), rowW5_7, rowW5_3]
theorem w5_n12 : EndsA Tryz.prog 8 Tryz.f106 w5_A w5_V (w5_A ++ w5_RC) [.code w5_B, .inLoop w5_B, .inBlock 2, .code (dropS 5 (bodyOf 106))] w5_L12 w5_X12 := by
  refine EndsA.mapRound w5_hB (EndsA.over (.tmp 28) (some 29) 21 9 2 2 2 [1, 0] [((g2 0 1), (g2 1 0), 0), ((g2 0 (-1)), (g2 1 0), 1)] (by kernel_rfl) (by kernel_rfl) (by kernel_rfl) (by kernel_rfl) (by kernel_rfl) (by decide) (by kernel_rfl) ?_)
  refine EndsA.run (k := [.ops w5_O 1, .code w5_R, .inLoop w5_B, .inBlock 2]) prog_ok env0_ok ⟨_, w5_o12⟩ ?_
  refine EndsA.drop prog_ok env0_ok (by kernel_rfl) ⟨_, w5_t13⟩ ?_
  refine EndsA.drop prog_ok env0_ok (by kernel_rfl) ⟨_, w5_t14⟩ ?_
  rw [show w5_X15 = w5_A ++ w5_Y15 from by kernel_rfl]
  exact EndsA.renum (ids := [29]) (m := [.no, .no, .ren, .no, .no, .no, .no, .no, .no, .no, .no, .no, .no, .no, .no, .no, .no, .no, .no, .no, .no, .no, .no, .no, .no, .no, .no, .no, .no, .no, .free, .no, .no, .no, .no, .no, .free, .no, .no, .no, .no, .no, .no, .no, .no, .no, .no, .no, .no]) (fs := [(.bool false), (.bool true)]) (by decide) (by decide) (by decide) (by kernel_rfl) (by simp [freeB, atomB]) (RowsBy.cons (i := 29) (by kernel_rfl) (RowBy.plain (by kernel_rfl)) RowsBy.nil) w5_end
theorem w5_n11 : EndsA Tryz.prog 8 Tryz.f106 w5_A w5_V (w5_A ++ w5_RC) [.code w5_B, .inLoop w5_B, .inBlock 2, .code (dropS 5 (bodyOf 106))] w5_L11 w5_X11 := by
  refine EndsA.mapRound w5_hB (EndsA.more (.tmp 28) (some 29) 21 9 2 2 2 [1] [((g2 0 1), (g2 1 0), 0), ((g2 0 (-1)), (g2 1 0), 1)] [((g2 0 1), (g2 1 0), 0)] (by kernel_rfl) (by kernel_rfl) (by kernel_rfl) (by kernel_rfl) (by kernel_rfl) (by decide) (by kernel_rfl) (by kernel_rfl) ?_)
  exact ⟨⟨by kernel_rfl, EndsA.run (k := [.ops w5_O 1, .code w5_R]) prog_ok env0_ok ⟨_, w5_e12⟩ (EndsA.again w5_n12)⟩, trivial⟩
theorem w5_n5 : EndsA Tryz.prog 8 Tryz.f106 w5_A w5_V (w5_A ++ w5_RC) [.code w5_B, .inLoop w5_B, .inBlock 2, .code (dropS 5 (bodyOf 106))] w5_L5 w5_X5 := by
  refine EndsA.mapRound w5_hB (EndsA.more (.tmp 28) (some 29) 21 9 2 2 2 [] [((g2 0 1), (g2 1 0), 0), ((g2 0 (-1)), (g2 1 0), 1)] [((g2 0 1), (g2 1 0), 0), ((g2 0 (-1)), (g2 1 0), 1)] (by kernel_rfl) (by kernel_rfl) (by kernel_rfl) (by kernel_rfl) (by kernel_rfl) (by decide) (by kernel_rfl) (by kernel_rfl) ?_)
  exact ⟨⟨by kernel_rfl, EndsA.run (k := [.ops w5_O 1, .code w5_R]) prog_ok env0_ok ⟨_, w5_e6⟩ (EndsA.again w5_n6)⟩, ⟨⟨by kernel_rfl, EndsA.run (k := [.ops w5_O 1, .code w5_R]) prog_ok env0_ok ⟨_, w5_e11⟩ (EndsA.again w5_n11)⟩, trivial⟩⟩
theorem w5_ends : EndsA Tryz.prog 8 Tryz.f106 w5_A w5_V (w5_A ++ w5_RC) [.code (dropS 0 (bodyOf 106))] w5_L0 w5_X0 := by
  refine EndsA.drop prog_ok env0_ok (by kernel_rfl) ⟨_, w5_t0⟩ ?_
  refine EndsA.drop prog_ok env0_ok (by kernel_rfl) ⟨_, w5_t1⟩ ?_
  refine EndsA.drop prog_ok env0_ok (by kernel_rfl) ⟨_, w5_t2⟩ ?_
  refine EndsA.drop prog_ok env0_ok (by kernel_rfl) ⟨_, w5_t3⟩ ?_
  refine EndsA.dropSeq (by kernel_rfl) ?_
  rw [w5_hS]
  exact EndsA.seq (EndsA.run (k := [.code (headS (seqAt 4 (bodyOf 106)))]) prog_ok env0_ok ⟨_, w5_t4⟩ (EndsA.blockLoop w5_hC w5_n5))
theorem w5_says : SaysAt Tryz.prog 8 106 [.slice (some ⟨8, 0, none⟩) 2 2] w5_A w5_V (w5_A ++ w5_RC) :=
  EndsA.says prog_ok Tryz.func106 (c := bodyOf 106) (by kernel_rfl) (by decide) (EndsA.cast (by kernel_rfl) (by kernel_rfl) (by kernel_rfl) w5_ends) (by simp) (fun i hi => by rw [hget_append, if_pos hi]) (by kernel_rfl)
end Go.Proofs.YtpdiaiccnaoaiaaGreatDoor
/-
The weights of a list of the document's examples, whatever the order of the map.
-/
namespace Go.Proofs.YtpdiaiccnaoaiaaGreatDoor
open Go Go.Abs
noncomputable def rowW6_0 : Option ARow := (.some (.loop ([(sl 8 0 2 2), U, sn, (pt 10 0), U, U, U, U, U, U, (.map (.some 9)), (sl 8 0 2 2), (.func (.func 149) #[] #[(pt 11 0)])] ++ us 36) #[13, 14] codeW0_0 codeW0_1 .exhausted .none))
noncomputable def rowW6_1 : Option ARow := (.some (.map [(.mk (g2 (-1) 0) (.mk (g2 1 0) 0)), (.mk (g2 1 0) (.mk (g2 1 0) 1))] 2))
noncomputable def rowW6_2 : Option ARow := (rrow [(I (-1)), I 0, I 1, I 0, I 1, I 0, I 1, I 0] 125)
noncomputable def rowW6_3 : Option ARow := (rrow [I 1, I 0, I 1, I 0, (I (-1)), I 0, I 1, I 0] 125)
noncomputable def rowW6_4 : Option ARow := (rrow [(I (-1)), I 0, I 1, I 0, I 1, I 0, I 1, I 0] 32)
noncomputable def rowW6_5 : Option ARow := (rrow [(I (-1)), I 0, I 1, I 0] 125)
noncomputable def rowW6_6 : Option ARow := (rvar [(I (-1)), I 0, I 1, I 0] 32)
noncomputable def rowW6_7 : Option ARow := (rrow [I 1, I 0, I 1, I 0] 125)
noncomputable def rowW6_8 : Option ARow := (rvar [I 1, I 0, I 1, I 0] 32)
noncomputable def w6_B : Code := loopB (tailS (seqAt 4 (bodyOf 106)))
noncomputable def w6_O : Array Oper := headOps w6_B
noncomputable def w6_R : Code := tailS w6_B
theorem w6_hS : seqAt 4 (bodyOf 106) = .seq (headS (seqAt 4 (bodyOf 106))) (tailS (seqAt 4 (bodyOf 106))) := by kernel_rfl
theorem w6_hC : tailS (seqAt 4 (bodyOf 106)) = .block 2 (.loop w6_B) := by kernel_rfl
theorem w6_hB : w6_B = .seq (.region (headId w6_B) w6_O false) w6_R := by kernel_rfl
noncomputable def w6_A : Heap := (H [some (.cells [.int .i64 (-1), .int .i64 0, .int .i64 1, .int .i64 0, .int .i64 1, .int .i64 0, .int .i64 1, .int .i64 0] 32 .row)])
noncomputable def w6_L0 : List Value := ([(sl 8 0 2 2)] ++ us 48)
noncomputable def w6_X0 : Heap := (H [rowW6_4])
noncomputable def w6_L1 : List Value := ([(sl 8 0 2 2), U, sn] ++ us 46)
noncomputable def w6_X1 : Heap := (H [rowW6_4])
theorem w6_t0 : aRun Tryz.prog env0 100000 9 [.code (seqAt 0 (bodyOf 106))] w6_L0 w6_X0 = some (w6_L1, w6_X1, none) := by kernel_rfl
noncomputable def w6_L2 : List Value := ([(sl 8 0 2 2), U, sn, (pt 10 0), U, U, U, U, U, U, (.map (.some 9))] ++ us 38)
noncomputable def w6_X2 : Heap := (H [rowW6_4, (.some (.map [] 0)), (rvar [(.map (.some 9))] 185)])
theorem w6_t1 : aRun Tryz.prog env0 100000 9 [.code (seqAt 1 (bodyOf 106))] w6_L1 w6_X1 = some (w6_L2, w6_X2, none) := by kernel_rfl
noncomputable def w6_L3 : List Value := ([(sl 8 0 2 2), U, sn, (pt 10 0), U, U, U, U, U, U, (.map (.some 9)), (sl 8 0 2 2), (.func (.func 149) #[] #[(pt 11 0)])] ++ us 36)
noncomputable def w6_X3 : Heap := (H [rowW6_4, rowW6_1, (rvar [(.map (.some 9))] 185), (rvar [(sl 8 0 2 2)] 37), rowW6_0, rowW6_6, rowW6_6, (rvar [I 1, I 0] 34), (rvar [(I (-1)), I 0] 187), rowW6_8, rowW6_8, (rvar [I 1, I 0] 34), (rvar [I 1, I 0] 187)])
theorem w6_t2 : aRun Tryz.prog env0 100000 9 [.code (seqAt 2 (bodyOf 106))] w6_L2 w6_X2 = some (w6_L3, w6_X3, none) := by kernel_rfl
noncomputable def w6_L4 : List Value := ([(sl 8 0 2 2), U, sn, (pt 10 0), U, U, U, sn, U, U, (.map (.some 9)), (sl 8 0 2 2), (.func (.func 149) #[] #[(pt 11 0)])] ++ us 36)
noncomputable def w6_X4 : Heap := (H [rowW6_4, rowW6_1, (rvar [(.map (.some 9))] 185), (rvar [(sl 8 0 2 2)] 37), rowW6_0, rowW6_6, rowW6_6, (rvar [I 1, I 0] 34), (rvar [(I (-1)), I 0] 187), rowW6_8, rowW6_8, (rvar [I 1, I 0] 34), (rvar [I 1, I 0] 187)])
theorem w6_t3 : aRun Tryz.prog env0 100000 9 [.code (seqAt 3 (bodyOf 106))] w6_L3 w6_X3 = some (w6_L4, w6_X4, none) := by kernel_rfl
noncomputable def w6_L5 : List Value := ([(sl 8 0 2 2), U, sn, (pt 10 0), U, U, U, sn, U, U, (.map (.some 9)), (sl 8 0 2 2), (.func (.func 149) #[] #[(pt 11 0)]), U, U, U, U, U, U, U, U, U, U, U, U, U, U, (.map (.some 9)), (pt 21 0)] ++ us 20)
noncomputable def w6_X5 : Heap := (H [rowW6_4, rowW6_1, (rvar [(.map (.some 9))] 185), (rvar [(sl 8 0 2 2)] 37), rowW6_0, rowW6_6, rowW6_6, (rvar [I 1, I 0] 34), (rvar [(I (-1)), I 0] 187), rowW6_8, rowW6_8, (rvar [I 1, I 0] 34), (rvar [I 1, I 0] 187), (.some (.miter 9 2 [] 2))])
theorem w6_t4 : aRun Tryz.prog env0 100000 9 [.code (headS (seqAt 4 (bodyOf 106)))] w6_L4 w6_X4 = some (w6_L5, w6_X5, none) := by kernel_rfl
noncomputable def w6_L6 : List Value := [(sl 8 0 2 2), U, sn, (pt 10 0), U, U, U, (sl 25 0 1 1), (pt 22 0), (pt 23 0), (.map (.some 9)), (sl 8 0 2 2), (.func (.func 149) #[] #[(pt 11 0)]), U, U, U, U, U, U, U, U, U, U, U, U, U, U, (.map (.some 9)), (pt 21 0), (.tuple #[(.bool true), (g2 (-1) 0), (g2 1 0)]), (.bool true), (.tuple #[(g2 (-1) 0), (g2 1 0)]), (g2 (-1) 0), (g2 1 0), (g2 1 0), (g2 0 0), (.bool true), sn, (pt 22 0), (I (-1)), (pt 22 1), I 0, (g2 1 0), (.agg #[(I (-1)), I 0, I 1, I 0]), (sl 24 0 1 1), (sl 25 0 1 1), U, U, U]
noncomputable def w6_X6 : Heap := (H [rowW6_4, rowW6_1, (rvar [(.map (.some 9))] 185), (rvar [(sl 8 0 2 2)] 37), rowW6_0, rowW6_6, rowW6_6, (rvar [I 1, I 0] 34), (rvar [(I (-1)), I 0] 187), rowW6_8, rowW6_8, (rvar [I 1, I 0] 34), (rvar [I 1, I 0] 187), (.some (.miter 9 2 [0] 2)), (rvar [(I (-1)), I 0] 187), (rvar [I 1, I 0] 34), rowW6_5, rowW6_5])
theorem w6_e6 : aRun Tryz.prog env0 100000 9 [.ops w6_O 1, .code w6_R] (tput w6_L5 (some 29) (.tuple #[.bool true, (g2 (-1) 0), (g2 1 0)])) (hset w6_X5 21 (some (.miter 9 2 [0] 2))) = some (w6_L6, w6_X6, none) := by kernel_rfl
noncomputable def w6_L7 : List Value := [(sl 8 0 2 2), U, sn, (pt 10 0), U, U, U, (sl 29 0 2 2), (pt 26 0), (pt 27 0), (.map (.some 9)), (sl 8 0 2 2), (.func (.func 149) #[] #[(pt 11 0)]), U, U, U, U, U, U, U, U, U, U, U, U, U, U, (.map (.some 9)), (pt 21 0), (.tuple #[(.bool true), (g2 1 0), (g2 1 0)]), (.bool true), (.tuple #[(g2 1 0), (g2 1 0)]), (g2 1 0), (g2 1 0), (g2 1 0), (g2 0 0), (.bool true), (sl 25 0 1 1), (pt 26 0), I 1, (pt 26 1), I 0, (g2 1 0), (.agg #[I 1, I 0, I 1, I 0]), (sl 28 0 1 1), (sl 29 0 2 2), U, U, U]
noncomputable def w6_X7 : Heap := (H [rowW6_4, rowW6_1, (rvar [(.map (.some 9))] 185), (rvar [(sl 8 0 2 2)] 37), rowW6_0, rowW6_6, rowW6_6, (rvar [I 1, I 0] 34), (rvar [(I (-1)), I 0] 187), rowW6_8, rowW6_8, (rvar [I 1, I 0] 34), (rvar [I 1, I 0] 187), (.some (.miter 9 2 [0, 1] 2)), (rvar [(I (-1)), I 0] 187), (rvar [I 1, I 0] 34), rowW6_5, .none, (rvar [I 1, I 0] 187), (rvar [I 1, I 0] 34), rowW6_7, rowW6_2])
theorem w6_e7 : aRun Tryz.prog env0 100000 9 [.ops w6_O 1, .code w6_R] (tput w6_L6 (some 29) (.tuple #[.bool true, (g2 1 0), (g2 1 0)])) (hset w6_X6 21 (some (.miter 9 2 [0, 1] 2))) = some (w6_L7, w6_X7, none) := by kernel_rfl
noncomputable def w6_L8 : List Value := [(sl 8 0 2 2), U, sn, (pt 10 0), U, U, U, (sl 29 0 2 2), (pt 26 0), (pt 27 0), (.map (.some 9)), (sl 8 0 2 2), (.func (.func 149) #[] #[(pt 11 0)]), U, U, U, U, U, U, U, U, U, U, U, U, U, U, (.map (.some 9)), (pt 21 0), (.tuple #[(.bool false)]), (.bool false), (.tuple #[(g2 1 0), (g2 1 0)]), (g2 1 0), (g2 1 0), (g2 1 0), (g2 0 0), (.bool true), (sl 25 0 1 1), (pt 26 0), I 1, (pt 26 1), I 0, (g2 1 0), (.agg #[I 1, I 0, I 1, I 0]), (sl 28 0 1 1), (sl 29 0 2 2), U, U, U]
noncomputable def w6_X8 : Heap := (H [rowW6_4, rowW6_1, (rvar [(.map (.some 9))] 185), (rvar [(sl 8 0 2 2)] 37), rowW6_0, rowW6_6, rowW6_6, (rvar [I 1, I 0] 34), (rvar [(I (-1)), I 0] 187), rowW6_8, rowW6_8, (rvar [I 1, I 0] 34), (rvar [I 1, I 0] 187), (.some (.miter 9 2 [0, 1] 2)), (rvar [(I (-1)), I 0] 187), (rvar [I 1, I 0] 34), rowW6_5, .none, (rvar [I 1, I 0] 187), (rvar [I 1, I 0] 34), rowW6_7, rowW6_2])
theorem w6_o7 : aRun Tryz.prog env0 100000 9 [.ops w6_O 1, .code w6_R, .inLoop w6_B, .inBlock 2] (tput w6_L7 (some 29) (.tuple #[.bool false])) w6_X7 = some (w6_L8, w6_X8, none) := by kernel_rfl
noncomputable def w6_L9 : List Value := [(sl 8 0 2 2), U, sn, (pt 10 0), U, U, U, (sl 29 0 2 2), (pt 26 0), (pt 27 0), (.map (.some 9)), (sl 8 0 2 2), (.func (.func 149) #[] #[(pt 11 0)]), U, U, U, U, U, U, U, U, U, U, U, U, U, U, (.map (.some 9)), (pt 21 0), (.tuple #[(.bool false)]), (.bool false), (.tuple #[(g2 1 0), (g2 1 0)]), (g2 1 0), (g2 1 0), (g2 1 0), (g2 0 0), (.bool true), (sl 25 0 1 1), (pt 26 0), I 1, (pt 26 1), I 0, (g2 1 0), (.agg #[I 1, I 0, I 1, I 0]), (sl 28 0 1 1), (sl 29 0 2 2), (sl 29 0 2 2), U, U]
noncomputable def w6_X9 : Heap := (H [rowW6_4, rowW6_1, (rvar [(.map (.some 9))] 185), (rvar [(sl 8 0 2 2)] 37), rowW6_0, rowW6_6, rowW6_6, (rvar [I 1, I 0] 34), (rvar [(I (-1)), I 0] 187), rowW6_8, rowW6_8, (rvar [I 1, I 0] 34), (rvar [I 1, I 0] 187), (.some (.miter 9 2 [0, 1] 2)), (rvar [(I (-1)), I 0] 187), (rvar [I 1, I 0] 34), rowW6_5, .none, (rvar [I 1, I 0] 187), (rvar [I 1, I 0] 34), rowW6_7, rowW6_2])
theorem w6_t8 : aRun Tryz.prog env0 100000 9 [.code (seqAt 5 (bodyOf 106))] w6_L8 w6_X8 = some (w6_L9, w6_X9, none) := by kernel_rfl
noncomputable def w6_L10 : List Value := [(sl 8 0 2 2), U, (sl 29 0 2 2), (pt 10 0), U, U, U, (sl 29 0 2 2), (pt 26 0), (pt 27 0), (.map (.some 9)), (sl 8 0 2 2), (.func (.func 149) #[] #[(pt 11 0)]), U, U, U, U, U, U, U, U, U, U, U, U, U, U, (.map (.some 9)), (pt 21 0), (.tuple #[(.bool false)]), (.bool false), (.tuple #[(g2 1 0), (g2 1 0)]), (g2 1 0), (g2 1 0), (g2 1 0), (g2 0 0), (.bool true), (sl 25 0 1 1), (pt 26 0), I 1, (pt 26 1), I 0, (g2 1 0), (.agg #[I 1, I 0, I 1, I 0]), (sl 28 0 1 1), (sl 29 0 2 2), (sl 29 0 2 2), U, (sl 29 0 2 2)]
noncomputable def w6_X10 : Heap := (H [rowW6_4, rowW6_1, (rvar [(.map (.some 9))] 185), (rvar [(sl 8 0 2 2)] 37), rowW6_0, rowW6_6, rowW6_6, (rvar [I 1, I 0] 34), (rvar [(I (-1)), I 0] 187), rowW6_8, rowW6_8, (rvar [I 1, I 0] 34), (rvar [I 1, I 0] 187), (.some (.miter 9 2 [0, 1] 2)), (rvar [(I (-1)), I 0] 187), (rvar [I 1, I 0] 34), rowW6_5, .none, (rvar [I 1, I 0] 187), (rvar [I 1, I 0] 34), rowW6_7, rowW6_2])
theorem w6_t9 : aRun Tryz.prog env0 100000 9 [.code (seqAt 6 (bodyOf 106))] w6_L9 w6_X9 = some (w6_L10, w6_X10, none) := by kernel_rfl
noncomputable def w6_LC : List Value := [junk, junk, (.slice (some ⟨9, 0, none⟩) 2 2), junk, junk, junk, junk, junk, junk, junk, junk, junk, junk, junk, junk, junk, junk, junk, junk, junk, junk, junk, junk, junk, junk, junk, junk, junk, junk, junk, (.bool false), junk, junk, junk, junk, junk, (.bool true), junk, junk, junk, junk, junk, junk, junk, junk, junk, junk, junk, junk]
noncomputable def w6_RC : Heap := [rowW6_2]
noncomputable def w6_V : Value := (.slice (some ⟨9, 0, none⟩) 2 2)
theorem w6_c : aRun Tryz.prog env0 100000 9 [.code (dropS 7 (bodyOf 106))] w6_LC (w6_A ++ w6_RC) = some (w6_LC, w6_A ++ w6_RC, some .ret) := by kernel_rfl
theorem w6_end : EndsA Tryz.prog 8 Tryz.f106 w6_A w6_V (w6_A ++ w6_RC) [.code (dropS 7 (bodyOf 106))] w6_LC (w6_A ++ w6_RC) := EndsA.ret prog_ok env0_ok ⟨_, w6_c⟩ rfl (by kernel_rfl)
noncomputable def w6_Y10 : Heap := [rowW6_1, (rvar [(.map (.some 9))] 185), (rvar [(sl 8 0 2 2)] 37), rowW6_0, rowW6_6, rowW6_6, (rvar [I 1, I 0] 34), (rvar [(I (-1)), I 0] 187), rowW6_8, rowW6_8, (rvar [I 1, I 0] 34), (rvar [I 1, I 0] 187), (.some (.miter 9 2 [0, 1] 2)), (rvar [(I (-1)), I 0] 187), (rvar [I 1, I 0] 34), rowW6_5, .none, (rvar [I 1, I 0] 187), (rvar [I 1, I 0] 34), rowW6_7, rowW6_2]
theorem w6_n7 : EndsA Tryz.prog 8 Tryz.f106 w6_A w6_V (w6_A ++ w6_RC) [.code w6_B, .inLoop w6_B, .inBlock 2, .code (dropS 5 (bodyOf 106))] w6_L7 w6_X7 := by
  refine EndsA.mapRound w6_hB (EndsA.over (.tmp 28) (some 29) 21 9 2 2 2 [0, 1] [((g2 (-1) 0), (g2 1 0), 0), ((g2 1 0), (g2 1 0), 1)] (by kernel_rfl) (by kernel_rfl) (by kernel_rfl) (by kernel_rfl) (by kernel_rfl) (by decide) (by kernel_rfl) ?_)
  refine EndsA.run (k := [.ops w6_O 1, .code w6_R, .inLoop w6_B, .inBlock 2]) prog_ok env0_ok ⟨_, w6_o7⟩ ?_
  refine EndsA.drop prog_ok env0_ok (by kernel_rfl) ⟨_, w6_t8⟩ ?_
  refine EndsA.drop prog_ok env0_ok (by kernel_rfl) ⟨_, w6_t9⟩ ?_
  rw [show w6_X10 = w6_A ++ w6_Y10 from by kernel_rfl]
  exact EndsA.renum (ids := [29]) (m := [.no, .no, .ren, .no, .no, .no, .no, .no, .no, .no, .no, .no, .no, .no, .no, .no, .no, .no, .no, .no, .no, .no, .no, .no, .no, .no, .no, .no, .no, .no, .free, .no, .no, .no, .no, .no, .free, .no, .no, .no, .no, .no, .no, .no, .no, .no, .no, .no, .no]) (fs := [(.bool false), (.bool true)]) (by decide) (by decide) (by decide) (by kernel_rfl) (by simp [freeB, atomB]) (RowsBy.cons (i := 29) (by kernel_rfl) (RowBy.plain (by kernel_rfl)) RowsBy.nil) w6_end
theorem w6_n6 : EndsA Tryz.prog 8 Tryz.f106 w6_A w6_V (w6_A ++ w6_RC) [.code w6_B, .inLoop w6_B, .inBlock 2, .code (dropS 5 (bodyOf 106))] w6_L6 w6_X6 := by
  refine EndsA.mapRound w6_hB (EndsA.more (.tmp 28) (some 29) 21 9 2 2 2 [0] [((g2 (-1) 0), (g2 1 0), 0), ((g2 1 0), (g2 1 0), 1)] [((g2 1 0), (g2 1 0), 1)] (by kernel_rfl) (by kernel_rfl) (by kernel_rfl) (by kernel_rfl) (by kernel_rfl) (by decide) (by kernel_rfl) (by kernel_rfl) ?_)
  exact ⟨⟨by kernel_rfl, EndsA.run (k := [.ops w6_O 1, .code w6_R]) prog_ok env0_ok ⟨_, w6_e7⟩ (EndsA.again w6_n7)⟩, trivial⟩
noncomputable def w6_L11 : List Value := [(sl 8 0 2 2), U, sn, (pt 10 0), U, U, U, (sl 25 0 1 1), (pt 22 0), (pt 23 0), (.map (.some 9)), (sl 8 0 2 2), (.func (.func 149) #[] #[(pt 11 0)]), U, U, U, U, U, U, U, U, U, U, U, U, U, U, (.map (.some 9)), (pt 21 0), (.tuple #[(.bool true), (g2 1 0), (g2 1 0)]), (.bool true), (.tuple #[(g2 1 0), (g2 1 0)]), (g2 1 0), (g2 1 0), (g2 1 0), (g2 0 0), (.bool true), sn, (pt 22 0), I 1, (pt 22 1), I 0, (g2 1 0), (.agg #[I 1, I 0, I 1, I 0]), (sl 24 0 1 1), (sl 25 0 1 1), U, U, U]
noncomputable def w6_X11 : Heap := (H [rowW6_4, rowW6_1, (rvar [(.map (.some 9))] 185), (rvar [(sl 8 0 2 2)] 37), rowW6_0, rowW6_6, rowW6_6, (rvar [I 1, I 0] 34), (rvar [(I (-1)), I 0] 187), rowW6_8, rowW6_8, (rvar [I 1, I 0] 34), (rvar [I 1, I 0] 187), (.some (.miter 9 2 [1] 2)), (rvar [I 1, I 0] 187), (rvar [I 1, I 0] 34), rowW6_7, rowW6_7])
theorem w6_e11 : aRun Tryz.prog env0 100000 9 [.ops w6_O 1, .code w6_R] (tput w6_L5 (some 29) (.tuple #[.bool true, (g2 1 0), (g2 1 0)])) (hset w6_X5 21 (some (.miter 9 2 [1] 2))) = some (w6_L11, w6_X11, none) := by kernel_rfl
noncomputable def w6_L12 : List Value := [(sl 8 0 2 2), U, sn, (pt 10 0), U, U, U, (sl 29 0 2 2), (pt 26 0), (pt 27 0), (.map (.some 9)), (sl 8 0 2 2), (.func (.func 149) #[] #[(pt 11 0)]), U, U, U, U, U, U, U, U, U, U, U, U, U, U, (.map (.some 9)), (pt 21 0), (.tuple #[(.bool true), (g2 (-1) 0), (g2 1 0)]), (.bool true), (.tuple #[(g2 (-1) 0), (g2 1 0)]), (g2 (-1) 0), (g2 1 0), (g2 1 0), (g2 0 0), (.bool true), (sl 25 0 1 1), (pt 26 0), (I (-1)), (pt 26 1), I 0, (g2 1 0), (.agg #[(I (-1)), I 0, I 1, I 0]), (sl 28 0 1 1), (sl 29 0 2 2), U, U, U]
noncomputable def w6_X12 : Heap := (H [rowW6_4, rowW6_1, (rvar [(.map (.some 9))] 185), (rvar [(sl 8 0 2 2)] 37), rowW6_0, rowW6_6, rowW6_6, (rvar [I 1, I 0] 34), (rvar [(I (-1)), I 0] 187), rowW6_8, rowW6_8, (rvar [I 1, I 0] 34), (rvar [I 1, I 0] 187), (.some (.miter 9 2 [1, 0] 2)), (rvar [I 1, I 0] 187), (rvar [I 1, I 0] 34), rowW6_7, .none, (rvar [(I (-1)), I 0] 187), (rvar [I 1, I 0] 34), rowW6_5, rowW6_3])
theorem w6_e12 : aRun Tryz.prog env0 100000 9 [.ops w6_O 1, .code w6_R] (tput w6_L11 (some 29) (.tuple #[.bool true, (g2 (-1) 0), (g2 1 0)])) (hset w6_X11 21 (some (.miter 9 2 [1, 0] 2))) = some (w6_L12, w6_X12, none) := by kernel_rfl
noncomputable def w6_L13 : List Value := [(sl 8 0 2 2), U, sn, (pt 10 0), U, U, U, (sl 29 0 2 2), (pt 26 0), (pt 27 0), (.map (.some 9)), (sl 8 0 2 2), (.func (.func 149) #[] #[(pt 11 0)]), U, U, U, U, U, U, U, U, U, U, U, U, U, U, (.map (.some 9)), (pt 21 0), (.tuple #[(.bool false)]), (.bool false), (.tuple #[(g2 (-1) 0), (g2 1 0)]), (g2 (-1) 0), (g2 1 0), (g2 1 0), (g2 0 0), (.bool true), (sl 25 0 1 1), (pt 26 0), (I (-1)), (pt 26 1), I 0, (g2 1 0), (.agg #[(I (-1)), I 0, I 1, I 0]), (sl 28 0 1 1), (sl 29 0 2 2), U, U, U]
noncomputable def w6_X13 : Heap := (H [rowW6_4, rowW6_1, (rvar [(.map (.some 9))] 185), (rvar [(sl 8 0 2 2)] 37), rowW6_0, rowW6_6, rowW6_6, (rvar [I 1, I 0] 34), (rvar [(I (-1)), I 0] 187), rowW6_8, rowW6_8, (rvar [I 1, I 0] 34), (rvar [I 1, I 0] 187), (.some (.miter 9 2 [1, 0] 2)), (rvar [I 1, I 0] 187), (rvar [I 1, I 0] 34), rowW6_7, .none, (rvar [(I (-1)), I 0] 187), (rvar [I 1, I 0] 34), rowW6_5, rowW6_3])
theorem w6_o12 : aRun Tryz.prog env0 100000 9 [.ops w6_O 1, .code w6_R, .inLoop w6_B, .inBlock 2] (tput w6_L12 (some 29) (.tuple #[.bool false])) w6_X12 = some (w6_L13, w6_X13, none) := by kernel_rfl
noncomputable def w6_L14 : List Value := [(sl 8 0 2 2), U, sn, (pt 10 0), U, U, U, (sl 29 0 2 2), (pt 26 0), (pt 27 0), (.map (.some 9)), (sl 8 0 2 2), (.func (.func 149) #[] #[(pt 11 0)]), U, U, U, U, U, U, U, U, U, U, U, U, U, U, (.map (.some 9)), (pt 21 0), (.tuple #[(.bool false)]), (.bool false), (.tuple #[(g2 (-1) 0), (g2 1 0)]), (g2 (-1) 0), (g2 1 0), (g2 1 0), (g2 0 0), (.bool true), (sl 25 0 1 1), (pt 26 0), (I (-1)), (pt 26 1), I 0, (g2 1 0), (.agg #[(I (-1)), I 0, I 1, I 0]), (sl 28 0 1 1), (sl 29 0 2 2), (sl 29 0 2 2), U, U]
noncomputable def w6_X14 : Heap := (H [rowW6_4, rowW6_1, (rvar [(.map (.some 9))] 185), (rvar [(sl 8 0 2 2)] 37), rowW6_0, rowW6_6, rowW6_6, (rvar [I 1, I 0] 34), (rvar [(I (-1)), I 0] 187), rowW6_8, rowW6_8, (rvar [I 1, I 0] 34), (rvar [I 1, I 0] 187), (.some (.miter 9 2 [1, 0] 2)), (rvar [I 1, I 0] 187), (rvar [I 1, I 0] 34), rowW6_7, .none, (rvar [(I (-1)), I 0] 187), (rvar [I 1, I 0] 34), rowW6_5, rowW6_2])
theorem w6_t13 : aRun Tryz.prog env0 100000 9 [.code (seqAt 5 (bodyOf 106))] w6_L13 w6_X13 = some (w6_L14, w6_X14, none) := by kernel_rfl
noncomputable def w6_L15 : List Value := [(sl 8 0 2 2), U, (sl 29 0 2 2), (pt 10 0), U, U, U, (sl 29 0 2 2), (pt 26 0), (pt 27 0), (.map (.some 9)), (sl 8 0 2 2), (.func (.func 149) #[] #[(pt 11 0)]), U, U, U, U, U, U, U, U, U, U, U, U, U, U, (.map (.some 9)), (pt 21 0), (.tuple #[(.bool false)]), (.bool false), (.tuple #[(g2 (-1) 0), (g2 1 0)]), (g2 (-1) 0), (g2 1 0), (g2 1 0), (g2 0 0), (.bool true), (sl 25 0 1 1), (pt 26 0), (I (-1)), (pt 26 1), I 0, (g2 1 0), (.agg #[(I (-1)), I 0, I 1, I 0]), (sl 28 0 1 1), (sl 29 0 2 2), (sl 29 0 2 2), U, (sl 29 0 2 2)]
noncomputable def w6_X15 : Heap := (H [rowW6_4, rowW6_1, (rvar [(.map (.some 9))] 185), (rvar [(sl 8 0 2 2)] 37), rowW6_0, rowW6_6, rowW6_6, (rvar [I 1, I 0] 34), (rvar [(I (-1)), I 0] 187), rowW6_8, rowW6_8, (rvar [I 1, I 0] 34), (rvar [I 1, I 0] 187), (.some (.miter 9 2 [1, 0] 2)), (rvar [I 1, I 0] 187), (rvar [I 1, I 0] 34), rowW6_7, .none, (rvar [(I (-1)), I 0] 187), (rvar [I 1, I 0] 34), rowW6_5, rowW6_2])
theorem w6_t14 : aRun Tryz.prog env0 100000 9 [.code (seqAt 6 (bodyOf 106))] w6_L14 w6_X14 = some (w6_L15, w6_X15, none) := by kernel_rfl
noncomputable def w6_Y15 : Heap := [rowW6_1, (rvar [(.map (.some 9))] 185), (rvar [(sl 8 0 2 2)] 37), rowW6_0, rowW6_6, rowW6_6, (rvar [I 1, I 0] 34), (rvar [(I (-1)), I 0] 187), rowW6_8, rowW6_8, (rvar [I 1, I 0] 34), (rvar [I 1, I 0] 187), (.some (.miter 9 2 [1, 0] 2)), (rvar [I 1, I 0] 187), (rvar [I 1, I 0] 34), rowW6_7, .none, (rvar [(I (-1)), I 0] 187), (rvar [I 1, I 0] 34), rowW6_5, rowW6_2]
theorem w6_n12 : EndsA Tryz.prog 8 Tryz.f106 w6_A w6_V (w6_A ++ w6_RC) [.code w6_B, .inLoop w6_B, .inBlock 2, .code (dropS 5 (bodyOf 106))] w6_L12 w6_X12 := by
  refine EndsA.mapRound w6_hB (EndsA.over (.tmp 28) (some 29) 21 9 2 2 2 [1, 0] [((g2 (-1) 0), (g2 1 0), 0), ((g2 1 0), (g2 1 0), 1)] (by kernel_rfl) (by kernel_rfl) (by kernel_rfl) (by kernel_rfl) (by kernel_rfl) (by decide) (by kernel_rfl) ?_)
  refine EndsA.run (k := [.ops w6_O 1, .code w6_R, .inLoop w6_B, .inBlock 2]) prog_ok env0_ok ⟨_, w6_o12⟩ ?_
  refine EndsA.drop prog_ok env0_ok (by kernel_rfl) ⟨_, w6_t13⟩ ?_
  refine EndsA.drop prog_ok env0_ok (by kernel_rfl) ⟨_, w6_t14⟩ ?_
  rw [show w6_X15 = w6_A ++ w6_Y15 from by kernel_rfl]
  exact EndsA.renum (ids := [29]) (m := [.no, .no, .ren, .no, .no, .no, .no, .no, .no, .no, .no, .no, .no, .no, .no, .no, .no, .no, .no, .no, .no, .no, .no, .no, .no, .no, .no, .no, .no, .no, .free, .no, .no, .no, .no, .no, .free, .no, .no, .no, .no, .no, .no, .no, .no, .no, .no, .no, .no]) (fs := [(.bool false), (.bool true)]) (by decide) (by decide) (by decide) (by kernel_rfl) (by simp [freeB, atomB]) (RowsBy.cons (i := 29) (by kernel_rfl) (RowBy.plain (by kernel_rfl)) RowsBy.nil) w6_end
theorem w6_n11 : EndsA Tryz.prog 8 Tryz.f106 w6_A w6_V (w6_A ++ w6_RC) [.code w6_B, .inLoop w6_B, .inBlock 2, .code (dropS 5 (bodyOf 106))] w6_L11 w6_X11 := by
  refine EndsA.mapRound w6_hB (EndsA.more (.tmp 28) (some 29) 21 9 2 2 2 [1] [((g2 (-1) 0), (g2 1 0), 0), ((g2 1 0), (g2 1 0), 1)] [((g2 (-1) 0), (g2 1 0), 0)] (by kernel_rfl) (by kernel_rfl) (by kernel_rfl) (by kernel_rfl) (by kernel_rfl) (by decide) (by kernel_rfl) (by kernel_rfl) ?_)
  exact ⟨⟨by kernel_rfl, EndsA.run (k := [.ops w6_O 1, .code w6_R]) prog_ok env0_ok ⟨_, w6_e12⟩ (EndsA.again w6_n12)⟩, trivial⟩
theorem w6_n5 : EndsA Tryz.prog 8 Tryz.f106 w6_A w6_V (w6_A ++ w6_RC) [.code w6_B, .inLoop w6_B, .inBlock 2, .code (dropS 5 (bodyOf 106))] w6_L5 w6_X5 := by
  refine EndsA.mapRound w6_hB (EndsA.more (.tmp 28) (some 29) 21 9 2 2 2 [] [((g2 (-1) 0), (g2 1 0), 0), ((g2 1 0), (g2 1 0), 1)] [((g2 (-1) 0), (g2 1 0), 0), ((g2 1 0), (g2 1 0), 1)] (by kernel_rfl) (by kernel_rfl) (by kernel_rfl) (by kernel_rfl) (by kernel_rfl) (by decide) (by kernel_rfl) (by kernel_rfl) ?_)
  exact ⟨⟨by kernel_rfl, EndsA.run (k := [.ops w6_O 1, .code w6_R]) prog_ok env0_ok ⟨_, w6_e6⟩ (EndsA.again w6_n6)⟩, ⟨⟨by kernel_rfl, EndsA.run (k := [.ops w6_O 1, .code w6_R]) prog_ok env0_ok ⟨_, w6_e11⟩ (EndsA.again w6_n11)⟩, trivial⟩⟩
theorem w6_ends : EndsA Tryz.prog 8 Tryz.f106 w6_A w6_V (w6_A ++ w6_RC) [.code (dropS 0 (bodyOf 106))] w6_L0 w6_X0 := by
  refine EndsA.drop prog_ok env0_ok (by kernel_rfl) ⟨_, w6_t0⟩ ?_
  refine EndsA.drop prog_ok env0_ok (by kernel_rfl) ⟨_, w6_t1⟩ ?_
  refine EndsA.drop prog_ok env0_ok (by kernel_rfl) ⟨_, w6_t2⟩ ?_
  refine EndsA.drop prog_ok env0_ok (by kernel_rfl) ⟨_, w6_t3⟩ ?_
  refine EndsA.dropSeq (by kernel_rfl) ?_
  rw [w6_hS]
  exact EndsA.seq (EndsA.run (k := [.code (headS (seqAt 4 (bodyOf 106)))]) prog_ok env0_ok ⟨_, w6_t4⟩ (EndsA.blockLoop w6_hC w6_n5))
theorem w6_says : SaysAt Tryz.prog 8 106 [.slice (some ⟨8, 0, none⟩) 2 2] w6_A w6_V (w6_A ++ w6_RC) :=
  EndsA.says prog_ok Tryz.func106 (c := bodyOf 106) (by kernel_rfl) (by decide) (EndsA.cast (by kernel_rfl) (by kernel_rfl) (by kernel_rfl) w6_ends) (by simp) (fun i hi => by rw [hget_append, if_pos hi]) (by kernel_rfl)
end Go.Proofs.YtpdiaiccnaoaiaaGreatDoor
/-
The weights of a list of the document's examples, whatever the order of the map.
-/
namespace Go.Proofs.YtpdiaiccnaoaiaaGreatDoor
open Go Go.Abs
noncomputable def rowW7_0 : Option ARow := (.some (.loop ([(sl 8 0 2 2), U, sn, (pt 10 0), U, U, U, U, U, U, (.map (.some 9)), (sl 8 0 2 2), (.func (.func 149) #[] #[(pt 11 0)])] ++ us 36) #[13, 14] codeW0_0 codeW0_1 .exhausted .none))
noncomputable def rowW7_1 : Option ARow := (.some (.map [(.mk (g2 0 (-1)) (.mk (g2 1 0) 0)), (.mk (g2 0 1) (.mk (g2 1 0) 1))] 2))
noncomputable def rowW7_2 : Option ARow := (rrow [I 0, (I (-1)), I 1, I 0, I 0, I 1, I 1, I 0] 125)
noncomputable def rowW7_3 : Option ARow := (rrow [I 0, I 1, I 1, I 0, I 0, (I (-1)), I 1, I 0] 125)
noncomputable def rowW7_4 : Option ARow := (rrow [I 0, (I (-1)), I 1, I 0, I 0, I 1, I 1, I 0] 32)
noncomputable def rowW7_5 : Option ARow := (rrow [I 0, (I (-1)), I 1, I 0] 125)
noncomputable def rowW7_6 : Option ARow := (rvar [I 0, (I (-1)), I 1, I 0] 32)
noncomputable def rowW7_7 : Option ARow := (rrow [I 0, I 1, I 1, I 0] 125)
noncomputable def rowW7_8 : Option ARow := (rvar [I 0, I 1, I 1, I 0] 32)
noncomputable def w7_B : Code := loopB (tailS (seqAt 4 (bodyOf 106)))
noncomputable def w7_O : Array Oper := headOps w7_B
noncomputable def w7_R : Code := tailS w7_B
theorem w7_hS : seqAt 4 (bodyOf 106) = .seq (headS (seqAt 4 (bodyOf 106))) (tailS (seqAt 4 (bodyOf 106))) := by kernel_rfl
theorem w7_hC : tailS (seqAt 4 (bodyOf 106)) = .block 2 (.loop w7_B) := by kernel_rfl
theorem w7_hB : w7_B = .seq (.region (headId w7_B) w7_O false) w7_R := by kernel_rfl
noncomputable def w7_A : Heap := (H [some (.cells [.int .i64 0, .int .i64 (-1), .int .i64 1, .int .i64 0, .int .i64 0, .int .i64 1, .int .i64 1, .int .i64 0] 32 .row)])
noncomputable def w7_L0 : List Value := ([(sl 8 0 2 2)] ++ us 48)
noncomputable def w7_X0 : Heap := (H [rowW7_4])
noncomputable def w7_L1 : List Value := ([(sl 8 0 2 2), U, sn] ++ us 46)
noncomputable def w7_X1 : Heap := (H [rowW7_4])
theorem w7_t0 : aRun Tryz.prog env0 100000 9 [.code (seqAt 0 (bodyOf 106))] w7_L0 w7_X0 = some (w7_L1, w7_X1, none) := by kernel_rfl
noncomputable def w7_L2 : List Value := ([(sl 8 0 2 2), U, sn, (pt 10 0), U, U, U, U, U, U, (.map (.some 9))] ++ us 38)
noncomputable def w7_X2 : Heap := (H [rowW7_4, (.some (.map [] 0)), (rvar [(.map (.some 9))] 185)])
theorem w7_t1 : aRun Tryz.prog env0 100000 9 [.code (seqAt 1 (bodyOf 106))] w7_L1 w7_X1 = some (w7_L2, w7_X2, none) := by kernel_rfl
noncomputable def w7_L3 : List Value := ([(sl 8 0 2 2), U, sn, (pt 10 0), U, U, U, U, U, U, (.map (.some 9)), (sl 8 0 2 2), (.func (.func 149) #[] #[(pt 11 0)])] ++ us 36)
noncomputable def w7_X3 : Heap := (H [rowW7_4, rowW7_1, (rvar [(.map (.some 9))] 185), (rvar [(sl 8 0 2 2)] 37), rowW7_0, rowW7_6, rowW7_6, (rvar [I 1, I 0] 34), (rvar [I 0, (I (-1))] 187), rowW7_8, rowW7_8, (rvar [I 1, I 0] 34), (rvar [I 0, I 1] 187)])
theorem w7_t2 : aRun Tryz.prog env0 100000 9 [.code (seqAt 2 (bodyOf 106))] w7_L2 w7_X2 = some (w7_L3, w7_X3, none) := by kernel_rfl
noncomputable def w7_L4 : List Value := ([(sl 8 0 2 2), U, sn, (pt 10 0), U, U, U, sn, U, U, (.map (.some 9)), (sl 8 0 2 2), (.func (.func 149) #[] #[(pt 11 0)])] ++ us 36)
noncomputable def w7_X4 : Heap := (H [rowW7_4, rowW7_1, (rvar [(.map (.some 9))] 185), (rvar [(sl 8 0 2 2)] 37), rowW7_0, rowW7_6, rowW7_6, (rvar [I 1, I 0] 34), (rvar [I 0, (I (-1))] 187), rowW7_8, rowW7_8, (rvar [I 1, I 0] 34), (rvar [I 0, I 1] 187)])
theorem w7_t3 : aRun Tryz.prog env0 100000 9 [.code (seqAt 3 (bodyOf 106))] w7_L3 w7_X3 = some (w7_L4, w7_X4, none) := by kernel_rfl
noncomputable def w7_L5 : List Value := ([(sl 8 0 2 2), U, sn, (pt 10 0), U, U, U, sn, U, U, (.map (.some 9)), (sl 8 0 2 2), (.func (.func 149) #[] #[(pt 11 0)]), U, U, U, U, U, U, U, U, U, U, U, U, U, U, (.map (.some 9)), (pt 21 0)] ++ us 20)
noncomputable def w7_X5 : Heap := (H [rowW7_4, rowW7_1, (rvar [(.map (.some 9))] 185), (rvar [(sl 8 0 2 2)] 37), rowW7_0, rowW7_6, rowW7_6, (rvar [I 1, I 0] 34), (rvar [I 0, (I (-1))] 187), rowW7_8, rowW7_8, (rvar [I 1, I 0] 34), (rvar [I 0, I 1] 187), (.some (.miter 9 2 [] 2))])
theorem w7_t4 : aRun Tryz.prog env0 100000 9 [.code (headS (seqAt 4 (bodyOf 106)))] w7_L4 w7_X4 = some (w7_L5, w7_X5, none) := by kernel_rfl
noncomputable def w7_L6 : List Value := [(sl 8 0 2 2), U, sn, (pt 10 0), U, U, U, (sl 25 0 1 1), (pt 22 0), (pt 23 0), (.map (.some 9)), (sl 8 0 2 2), (.func (.func 149) #[] #[(pt 11 0)]), U, U, U, U, U, U, U, U, U, U, U, U, U, U, (.map (.some 9)), (pt 21 0), (.tuple #[(.bool true), (g2 0 (-1)), (g2 1 0)]), (.bool true), (.tuple #[(g2 0 (-1)), (g2 1 0)]), (g2 0 (-1)), (g2 1 0), (g2 1 0), (g2 0 0), (.bool true), sn, (pt 22 0), I 0, (pt 22 1), (I (-1)), (g2 1 0), (.agg #[I 0, (I (-1)), I 1, I 0]), (sl 24 0 1 1), (sl 25 0 1 1), U, U, U]
noncomputable def w7_X6 : Heap := (H [rowW7_4, rowW7_1, (rvar [(.map (.some 9))] 185), (rvar [(sl 8 0 2 2)] 37), rowW7_0, rowW7_6, rowW7_6, (rvar [I 1, I 0] 34), (rvar [I 0, (I (-1))] 187), rowW7_8, rowW7_8, (rvar [I 1, I 0] 34), (rvar [I 0, I 1] 187), (.some (.miter 9 2 [0] 2)), (rvar [I 0, (I (-1))] 187), (rvar [I 1, I 0] 34), rowW7_5, rowW7_5])
theorem w7_e6 : aRun Tryz.prog env0 100000 9 [.ops w7_O 1, .code w7_R] (tput w7_L5 (some 29) (.tuple #[.bool true, (g2 0 (-1)), (g2 1 0)])) (hset w7_X5 21 (some (.miter 9 2 [0] 2))) = some (w7_L6, w7_X6, none) := by kernel_rfl
noncomputable def w7_L7 : List Value := [(sl 8 0 2 2), U, sn, (pt 10 0), U, U, U, (sl 29 0 2 2), (pt 26 0), (pt 27 0), (.map (.some 9)), (sl 8 0 2 2), (.func (.func 149) #[] #[(pt 11 0)]), U, U, U, U, U, U, U, U, U, U, U, U, U, U, (.map (.some 9)), (pt 21 0), (.tuple #[(.bool true), (g2 0 1), (g2 1 0)]), (.bool true), (.tuple #[(g2 0 1), (g2 1 0)]), (g2 0 1), (g2 1 0), (g2 1 0), (g2 0 0), (.bool true), (sl 25 0 1 1), (pt 26 0), I 0, (pt 26 1), I 1, (g2 1 0), (.agg #[I 0, I 1, I 1, I 0]), (sl 28 0 1 1), (sl 29 0 2 2), U, U, U]
noncomputable def w7_X7 : Heap := (H [rowW7_4, rowW7_1, (rvar [(.map (.some 9))] 185), (rvar [(sl 8 0 2 2)] 37), rowW7_0, rowW7_6, rowW7_6, (rvar [I 1, I 0] 34), (rvar [I 0, (I (-1))] 187), rowW7_8, rowW7_8, (rvar [I 1, I 0] 34), (rvar [I 0, I 1] 187), (.some (.miter 9 2 [0, 1] 2)), (rvar [I 0, (I (-1))] 187), (rvar [I 1, I 0] 34), rowW7_5, .none, (rvar [I 0, I 1] 187), (rvar [I 1, I 0] 34), rowW7_7, rowW7_2])
theorem w7_e7 : aRun Tryz.prog env0 100000 9 [.ops w7_O 1, .code w7_R] (tput w7_L6 (some 29) (.tuple #[.bool true, (g2 0 1), (g2 1 0)])) (hset w7_X6 21 (some (.miter 9 2 [0, 1] 2))) = some (w7_L7, w7_X7, none) := by kernel_rfl
noncomputable def w7_L8 : List Value := [(sl 8 0 2 2), U, sn, (pt 10 0), U, U, U, (sl 29 0 2 2), (pt 26 0), (pt 27 0), (.map (.some 9)), (sl 8 0 2 2), (.func (.func 149) #[] #[(pt 11 0)]), U, U, U, U, U, U, U, U, U, U, U, U, U, U, (.map (.some 9)), (pt 21 0), (.tuple #[(.bool false)]), (.bool false), (.tuple #[(g2 0 1), (g2 1 0)]), (g2 0 1), (g2 1 0), (g2 1 0), (g2 0 0), (.bool true), (sl 25 0 1 1), (pt 26 0), I 0, (pt 26 1), I 1, (g2 1 0), (.agg #[I 0, I 1, I 1, I 0]), (sl 28 0 1 1), (sl 29 0 2 2), U, U, U]
noncomputable def w7_X8 : Heap := (H [rowW7_4, rowW7_1, (rvar [(.map (.some 9))] 185), (rvar [(sl 8 0 2 2)] 37), rowW7_0, rowW7_6, rowW7_6, (rvar [I 1, I 0] 34), (rvar [I 0, (I (-1))] 187), rowW7_8, rowW7_8, (rvar [I 1, I 0] 34), (rvar [I 0, I 1] 187), (.some (.miter 9 2 [0, 1] 2)), (rvar [I 0, (I (-1))] 187), (rvar [I 1, I 0] 34), rowW7_5, .none, (rvar [I 0, I 1] 187), (rvar [I 1, I 0] 34), rowW7_7, rowW7_2])
theorem w7_o7 : aRun Tryz.prog env0 100000 9 [.ops w7_O 1, .code w7_R, .inLoop w7_B, .inBlock 2] (tput w7_L7 (some 29) (.tuple #[.bool false])) w7_X7 = some (w7_L8, w7_X8, none) := by kernel_rfl
noncomputable def w7_L9 : List Value := [(sl 8 0 2 2), U, sn, (pt 10 0), U, U, U, (sl 29 0 2 2), (pt 26 0), (pt 27 0), (.map (.some 9)), (sl 8 0 2 2), (.func (.func 149) #[] #[(pt 11 0)]), U, U, U, U, U, U, U, U, U, U, U, U, U, U, (.map (.some 9)), (pt 21 0), (.tuple #[(.bool false)]), (.bool false), (.tuple #[(g2 0 1), (g2 1 0)]), (g2 0 1), (g2 1 0), (g2 1 0), (g2 0 0), (.bool true), (sl 25 0 1 1), (pt 26 0), I 0, (pt 26 1), I 1, (g2 1 0), (.agg #[I 0, I 1, I 1, I 0]), (sl 28 0 1 1), (sl 29 0 2 2), (sl 29 0 2 2), U, U]
noncomputable def w7_X9 : Heap := (H [rowW7_4, rowW7_1, (rvar [(.map (.some 9))] 185), (rvar [(sl 8 0 2 2)] 37), rowW7_0, rowW7_6, rowW7_6, (rvar [I 1, I 0] 34), (rvar [I 0, (I (-1))] 187), rowW7_8, rowW7_8, (rvar [I 1, I 0] 34), (rvar [I 0, I 1] 187), (.some (.miter 9 2 [0, 1] 2)), (rvar [I 0, (I (-1))] 187), (rvar [I 1, I 0] 34), rowW7_5, .none, (rvar [I 0, I 1] 187), (rvar [I 1, I 0] 34), rowW7_7, rowW7_2])
theorem w7_t8 : aRun Tryz.prog env0 100000 9 [.code (seqAt 5 (bodyOf 106))] w7_L8 w7_X8 = some (w7_L9, w7_X9, none) := by kernel_rfl
noncomputable def w7_L10 : List Value := [(sl 8 0 2 2), U, (sl 29 0 2 2), (pt 10 0), U, U, U, (sl 29 0 2 2), (pt 26 0), (pt 27 0), (.map (.some 9)), (sl 8 0 2 2), (.func (.func 149) #[] #[(pt 11 0)]), U, U, U, U, U, U, U, U, U, U, U, U, U, U, (.map (.some 9)), (pt 21 0), (.tuple #[(.bool false)]), (.bool false), (.tuple #[(g2 0 1), (g2 1 0)]), (g2 0 1), (g2 1 0), (g2 1 0), (g2 0 0), (.bool true), (sl 25 0 1 1), (pt 26 0), I 0, (pt 26 1), I 1, (g2 1 0), (.agg #[I 0, I 1, I 1, I 0]), (sl 28 0 1 1), (sl 29 0 2 2), (sl 29 0 2 2), U, (sl 29 0 2 2)]
noncomputable def w7_X10 : Heap := (H [rowW7_4, rowW7_1, (rvar [(.map (.some 9))] 185), (rvar [(sl 8 0 2 2)] 37), rowW7_0, rowW7_6, rowW7_6, (rvar [I 1, I 0] 34), (rvar [I 0, (I (-1))] 187), rowW7_8, rowW7_8, (rvar [I 1, I 0] 34), (rvar [I 0, I 1] 187), (.some (.miter 9 2 [0, 1] 2)), (rvar [I 0, (I (-1))] 187), (rvar [I 1, I 0] 34), rowW7_5, .none, (rvar [I 0, I 1] 187), (rvar [I 1, I 0] 34), rowW7_7, rowW7_2])
theorem w7_t9 : aRun Tryz.prog env0 100000 9 [.code (seqAt 6 (bodyOf 106))] w7_L9 w7_X9 = some (w7_L10, w7_X10, none) := by kernel_rfl
noncomputable def w7_LC : List Value := [junk, junk, (.slice (some ⟨9, 0, none⟩) 2 2), junk, junk, junk, junk, junk, junk, junk, junk, junk, junk, junk, junk, junk, junk, junk, junk, junk, junk, junk, junk, junk, junk, junk, junk, junk, junk, junk, (.bool false), junk, junk, junk, junk, junk, (.bool true), junk, junk, junk, junk, junk, junk, junk, junk, junk, junk, junk, junk]
noncomputable def w7_RC : Heap := [rowW7_2]
noncomputable def w7_V : Value := (.slice (some ⟨9, 0, none⟩) 2 2)
theorem w7_c : aRun Tryz.prog env0 100000 9 [.code (dropS 7 (bodyOf 106))] w7_LC (w7_A ++ w7_RC) = some (w7_LC, w7_A ++ w7_RC, some .ret) := by kernel_rfl
theorem w7_end : EndsA Tryz.prog 8 Tryz.f106 w7_A w7_V (w7_A ++ w7_RC) [.code (dropS 7 (bodyOf 106))] w7_LC (w7_A ++ w7_RC) := EndsA.ret prog_ok env0_ok ⟨_, w7_c⟩ rfl (by kernel_rfl)
noncomputable def w7_Y10 : Heap := [rowW7_1, (rvar [(.map (.some 9))] 185), (rvar [(sl 8 0 2 2)] 37), rowW7_0, rowW7_6, rowW7_6, (rvar [I 1, I 0] 34), (rvar [I 0, (I (-1))] 187), rowW7_8, rowW7_8, (rvar [I 1, I 0] 34), (rvar [I 0, I 1] 187), (.some (.miter 9 2 [0, 1] 2)), (rvar [I 0, (I (-1))] 187), (rvar [I 1, I 0] 34), rowW7_5, .none, (rvar [I 0, I 1] 187), (rvar [I 1, I 0] 34), rowW7_7, rowW7_2]
theorem w7_n7 : EndsA Tryz.prog 8 Tryz.f106 w7_A w7_V (w7_A ++ w7_RC) [.code w7_B, .inLoop w7_B, .inBlock 2, .code (dropS 5 (bodyOf 106))] w7_L7 w7_X7 := by
  refine EndsA.mapRound w7_hB (EndsA.over (.tmp 28) (some 29) 21 9 2 2 2 [0, 1] [((g2 0 (-1)), (g2 1 0), 0), ((g2 0 1), (g2 1 0), 1)] (by kernel_rfl) (by kernel_rfl) (by kernel_rfl) (by kernel_rfl) (by kernel_rfl) (by decide) (by kernel_rfl) ?_)
  refine EndsA.run (k := [.ops w7_O 1, .code w7_R, .inLoop w7_B, .inBlock 2]) prog_ok env0_ok ⟨_, w7_o7⟩ ?_
  refine EndsA.drop prog_ok env0_ok (by kernel_rfl) ⟨_, w7_t8⟩ ?_
  refine EndsA.drop prog_ok env0_ok (by kernel_rfl) ⟨_, w7_t9⟩ ?_
  rw [show w7_X10 = w7_A ++ w7_Y10 from by kernel_rfl]
  exact EndsA.renum (ids := [29]) (m := [.no, .no, .ren, .no, .no, .no, .no, .no, .no, .no, .no, .no, .no, .no, .no, .no, .no, .no, .no, .no, .no, .no, .no, .no, .no, .no, .no, .no, .no, .no, .free, .no, .no, .no, .no, .no, .free, .no, .no, .no, .no, .no, .no, .no, .no, .no, .no, .no, .no]) (fs := [(.bool false), (.bool true)]) (by decide) (by decide) (by decide) (by kernel_rfl) (by simp [freeB, atomB]) (RowsBy.cons (i := 29) (by kernel_rfl) (RowBy.plain (by kernel_rfl)) RowsBy.nil) w7_end
theorem w7_n6 : EndsA Tryz.prog 8 Tryz.f106 w7_A w7_V (w7_A ++ w7_RC) [.code w7_B, .inLoop w7_B, .inBlock 2, .code (dropS 5 (bodyOf 106))] w7_L6 w7_X6 := by
  refine EndsA.mapRound w7_hB (EndsA.more (.tmp 28) (some 29) 21 9 2 2 2 [0] [((g2 0 (-1)), (g2 1 0), 0), ((g2 0 1), (g2 1 0), 1)] [((g2 0 1), (g2 1 0), 1)] (by kernel_rfl) (by kernel_rfl) (by kernel_rfl) (by kernel_rfl) (by kernel_rfl) (by decide) (by kernel_rfl) (by kernel_rfl) ?_)
  exact ⟨⟨by kernel_rfl, EndsA.run (k := [.ops w7_O 1, .code w7_R]) prog_ok env0_ok ⟨_, w7_e7⟩ (EndsA.again w7_n7)⟩, trivial⟩
noncomputable def w7_L11 : List Value := [(sl 8 0 2 2), U, sn, (pt 10 0), U, U, U, (sl 25 0 1 1), (pt 22 0), (pt 23 0), (.map (.some 9)), (sl 8 0 2 2), (.func (.func 149) #[] #[(pt 11 0)]), U, U, U, U, U, U, U, U, U, U, U, U, U, U, (.map (.some 9)), (pt 21 0), (.tuple #[(.bool true), (g2 0 1), (g2 1 0)]), (.bool true), (.tuple #[(g2 0 1), (g2 1 0)]), (g2 0 1), (g2 1 0), (g2 1 0), (g2 0 0), (.bool true), sn, (pt 22 0), I 0, (pt 22 1), I 1, (g2 1 0), (.agg #[I 0, I 1, I 1, I 0]), (sl 24 0 1 1), (sl 25 0 1 1), U, U, U]
noncomputable def w7_X11 : Heap := (H [rowW7_4, rowW7_1, (rvar [(.map (.some 9))] 185), (rvar [(sl 8 0 2 2)] 37), rowW7_0, rowW7_6, rowW7_6, (rvar [I 1, I 0] 34), (rvar [I 0, (I (-1))] 187), rowW7_8, rowW7_8, (rvar [I 1, I 0] 34), (rvar [I 0, I 1] 187), (.some (.miter 9 2 [1] 2)), (rvar [I 0, I 1] 187), (rvar [I 1, I 0] 34), rowW7_7, rowW7_7])
theorem w7_e11 : aRun Tryz.prog env0 100000 9 [.ops w7_O 1, .code w7_R] (tput w7_L5 (some 29) (.tuple #[.bool true, (g2 0 1), (g2 1 0)])) (hset w7_X5 21 (some (.miter 9 2 [1] 2))) = some (w7_L11, w7_X11, none) := by kernel_rfl
noncomputable def w7_L12 : List Value := [(sl 8 0 2 2), U, sn, (pt 10 0), U, U, U, (sl 29 0 2 2), (pt 26 0), (pt 27 0), (.map (.some 9)), (sl 8 0 2 2), (.func (.func 149) #[] #[(pt 11 0)]), U, U, U, U, U, U, U, U, U, U, U, U, U, U, (.map (.some 9)), (pt 21 0), (.tuple #[(.bool true), (g2 0 (-1)), (g2 1 0)]), (.bool true), (.tuple #[(g2 0 (-1)), (g2 1 0)]), (g2 0 (-1)), (g2 1 0), (g2 1 0), (g2 0 0), (.bool true), (sl 25 0 1 1), (pt 26 0), I 0, (pt 26 1), (I (-1)), (g2 1 0), (.agg #[I 0, (I (-1)), I 1, I 0]), (sl 28 0 1 1), (sl 29 0 2 2), U, U, U]
noncomputable def w7_X12 : Heap := (H [rowW7_4, rowW7_1, (rvar [(.map (.some 9))] 185), (rvar [(sl 8 0 2 2)] 37), rowW7_0, rowW7_6, rowW7_6, (rvar [I 1, I 0] 34), (rvar [I 0, (I (-1))] 187), rowW7_8, rowW7_8, (rvar [I 1, I 0] 34), (rvar [I 0, I 1] 187), (.some (.miter 9 2 [1, 0] 2)), (rvar [I 0, I 1] 187), (rvar [I 1, I 0] 34), rowW7_7, .none, (rvar [I 0, (I (-1))] 187), (rvar [I 1, I 0] 34), rowW7_5, rowW7_3])
theorem w7_e12 : aRun Tryz.prog env0 100000 9 [.ops w7_O 1, .code w7_R] (tput w7_L11 (some 29) (.tuple #[.bool true, (g2 0 (-1)), (g2 1 0)])) (hset w7_X11 21 (some (.miter 9 2 [1, 0] 2))) = some (w7_L12, w7_X12, none) := by kernel_rfl
noncomputable def w7_L13 : List Value := [(sl 8 0 2 2), U, sn, (pt 10 0), U, U, U, (sl 29 0 2 2), (pt 26 0), (pt 27 0), (.map (.some 9)), (sl 8 0 2 2), (.func (.func 149) #[] #[(pt 11 0)]), U, U, U, U, U, U, U, U, U, U, U, U, U, U, (.map (.some 9)), (pt 21 0), (.tuple #[(.bool false)]), (.bool false), (.tuple #[(g2 0 (-1)), (g2 1 0)]), (g2 0 (-1)), (g2 1 0), (g2 1 0), (g2 0 0), (.bool true), (sl 25 0 1 1), (pt 26 0), I 0, (pt 26 1), (I (-1)), (g2 1 0), (.agg #[I 0, (I (-1)), I 1, I 0]), (sl 28 0 1 1), (sl 29 0 2 2), U, U, U]
noncomputable def w7_X13 : Heap := (H [rowW7_4, rowW7_1, (rvar [(.map (.some 9))] 185), (rvar [(sl 8 0 2 2)] 37), rowW7_0, rowW7_6, rowW7_6, (rvar [I 1, I 0] 34), (rvar [I 0, (I (-1))] 187), rowW7_8, rowW7_8, (rvar [I 1, I 0] 34), (rvar [I 0, I 1] 187), (.some (.miter 9 2 [1, 0] 2)), (rvar [I 0, I 1] 187), (rvar [I 1, I 0] 34), rowW7_7, .none, (rvar [I 0, (I (-1))] 187), (rvar [I 1, I 0] 34), rowW7_5, rowW7_3])
theorem w7_o12 : aRun Tryz.prog env0 100000 9 [.ops w7_O 1, .code w7_R, .inLoop w7_B, .inBlock 2] (tput w7_L12 (some 29) (.tuple #[.bool false])) w7_X12 = some (w7_L13, w7_X13, none) := by kernel_rfl
noncomputable def w7_L14 : List Value := [(sl 8 0 2 2), U, sn, (pt 10 0), U, U, U, (sl 29 0 2 2), (pt 26 0), (pt 27 0), (.map (.some 9)), (sl 8 0 2 2), (.func (.func 149) #[] #[(pt 11 0)]), U, U, U, U, U, U, U, U, U, U, U, U, U, U, (.map (.some 9)), (pt 21 0), (.tuple #[(.bool false)]), (.bool false), (.tuple #[(g2 0 (-1)), (g2 1 0)]), (g2 0 (-1)), (g2 1 0), (g2 1 0), (g2 0 0), (.bool true), (sl 25 0 1 1), (pt 26 0), I 0, (pt 26 1), (I (-1)), (g2 1 0), (.agg #[I 0, (I (-1)), I 1, I 0]), (sl 28 0 1 1), (sl 29 0 2 2), (sl 29 0 2 2), U, U]
noncomputable def w7_X14 : Heap := (H [rowW7_4, rowW7_1, (rvar [(.map (.some 9))] 185), (rvar [(sl 8 0 2 2)] 37), rowW7_0, rowW7_6, rowW7_6, (rvar [I 1, I 0] 34), (rvar [I 0, (I (-1))] 187), rowW7_8, rowW7_8, (rvar [I 1, I 0] 34), (rvar [I 0, I 1] 187), (.some (.miter 9 2 [1, 0] 2)), (rvar [I 0, I 1] 187), (rvar [I 1, I 0] 34), rowW7_7, .none, (rvar [I 0, (I (-1))] 187), (rvar [I 1, I 0] 34), rowW7_5, rowW7_2])
theorem w7_t13 : aRun Tryz.prog env0 100000 9 [.code (seqAt 5 (bodyOf 106))] w7_L13 w7_X13 = some (w7_L14, w7_X14, none) := by kernel_rfl
noncomputable def w7_L15 : List Value := [(sl 8 0 2 2), U, (sl 29 0 2 2), (pt 10 0), U, U, U, (sl 29 0 2 2), (pt 26 0), (pt 27 0), (.map (.some 9)), (sl 8 0 2 2), (.func (.func 149) #[] #[(pt 11 0)]), U, U, U, U, U, U, U, U, U, U, U, U, U, U, (.map (.some 9)), (pt 21 0), (.tuple #[(.bool false)]), (.bool false), (.tuple #[(g2 0 (-1)), (g2 1 0)]), (g2 0 (-1)), (g2 1 0), (g2 1 0), (g2 0 0), (.bool true), (sl 25 0 1 1), (pt 26 0), I 0, (pt 26 1), (I (-1)), (g2 1 0), (.agg #[I 0, (I (-1)), I 1, I 0]), (sl 28 0 1 1), (sl 29 0 2 2), (sl 29 0 2 2), U, (sl 29 0 2 2)]
noncomputable def w7_X15 : Heap := (H [rowW7_4, rowW7_1, (rvar [(.map (.some 9))] 185), (rvar [(sl 8 0 2 2)] 37), rowW7_0, rowW7_6, rowW7_6, (rvar [I 1, I 0] 34), (rvar [I 0, (I (-1))] 187), rowW7_8, rowW7_8, (rvar [I 1, I 0] 34), (rvar [I 0, I 1] 187), (.some (.miter 9 2 [1, 0] 2)), (rvar [I 0, I 1] 187), (rvar [I 1, I 0] 34), rowW7_7, .none, (rvar [I 0, (I (-1))] 187), (rvar [I 1, I 0] 34), rowW7_5, rowW7_2])
theorem w7_t14 : aRun Tryz.prog env0 100000 9 [.code (seqAt 6 (bodyOf 106))] w7_L14 w7_X14 = some (w7_L15, w7_X15, none) := by kernel_rfl
noncomputable def w7_Y15 : Heap := [rowW7_1, (rvar [(.map (.some 9))] 185), (rvar [(sl 8 0 2 2)] 37), rowW7_0, rowW7_6, rowW7_6, (rvar [I 1, I 0] 34), (rvar [I 0, (I (-1))] 187), rowW7_8, rowW7_8, (rvar [I 1, I 0] 34), (rvar [I 0, I 1] 187), (.some (.miter 9 2 [1, 0] 2)), (rvar [I 0, I 1] 187), (rvar [I 1, I 0] 34), rowW7_7, .none, (rvar [I 0, (I (-1))] 187), (rvar [I 1, I 0] 34), rowW7_5, rowW7_2]
theorem w7_n12 : EndsA Tryz.prog 8 Tryz.f106 w7_A w7_V (w7_A ++ w7_RC) [.code w7_B, .inLoop w7_B, .inBlock 2, .code (dropS 5 (bodyOf 106))] w7_L12 w7_X12 := by
  refine EndsA.mapRound w7_hB (EndsA.over (.tmp 28) (some 29) 21 9 2 2 2 [1, 0] [((g2 0 (-1)), (g2 1 0), 0), ((g2 0 1), (g2 1 0), 1)] (by kernel_rfl) (by kernel_rfl) (by kernel_rfl) (by kernel_rfl) (by kernel_rfl) (by decide) (by kernel_rfl) ?_)
  refine EndsA.run (k := [.ops w7_O 1, .code w7_R, .inLoop w7_B, .inBlock 2]) prog_ok env0_ok ⟨_, w7_o12⟩ ?_
  refine EndsA.drop prog_ok env0_ok (by kernel_rfl) ⟨_, w7_t13⟩ ?_
  refine EndsA.drop prog_ok env0_ok (by kernel_rfl) ⟨_, w7_t14⟩ ?_
  rw [show w7_X15 = w7_A ++ w7_Y15 from by kernel_rfl]
  exact EndsA.renum (ids := [29]) (m := [.no, .no, .ren, .no, .no, .no, .no, .no, .no, .no, .no, .no, .no, .no, .no, .no, .no, .no, .no, .no, .no, .no, .no, .no, .no, .no, .no, .no, .no, .no, .free, .no, .no, .no, .no, .no, .free, .no, .no, .no, .no, .no, .no, .no, .no, .no, .no, .no, .no]) (fs := [(.bool false), (.bool true)]) (by decide) (by decide) (by decide) (by kernel_rfl) (by simp [freeB, atomB]) (RowsBy.cons (i := 29) (by kernel_rfl) (RowBy.plain (by kernel_rfl)) RowsBy.nil) w7_end
theorem w7_n11 : EndsA Tryz.prog 8 Tryz.f106 w7_A w7_V (w7_A ++ w7_RC) [.code w7_B, .inLoop w7_B, .inBlock 2, .code (dropS 5 (bodyOf 106))] w7_L11 w7_X11 := by
  refine EndsA.mapRound w7_hB (EndsA.more (.tmp 28) (some 29) 21 9 2 2 2 [1] [((g2 0 (-1)), (g2 1 0), 0), ((g2 0 1), (g2 1 0), 1)] [((g2 0 (-1)), (g2 1 0), 0)] (by kernel_rfl) (by kernel_rfl) (by kernel_rfl) (by kernel_rfl) (by kernel_rfl) (by decide) (by kernel_rfl) (by kernel_rfl) ?_)
  exact ⟨⟨by kernel_rfl, EndsA.run (k := [.ops w7_O 1, .code w7_R]) prog_ok env0_ok ⟨_, w7_e12⟩ (EndsA.again w7_n12)⟩, trivial⟩
theorem w7_n5 : EndsA Tryz.prog 8 Tryz.f106 w7_A w7_V (w7_A ++ w7_RC) [.code w7_B, .inLoop w7_B, .inBlock 2, .code (dropS 5 (bodyOf 106))] w7_L5 w7_X5 := by
  refine EndsA.mapRound w7_hB (EndsA.more (.tmp 28) (some 29) 21 9 2 2 2 [] [((g2 0 (-1)), (g2 1 0), 0), ((g2 0 1), (g2 1 0), 1)] [((g2 0 (-1)), (g2 1 0), 0), ((g2 0 1), (g2 1 0), 1)] (by kernel_rfl) (by kernel_rfl) (by kernel_rfl) (by kernel_rfl) (by kernel_rfl) (by decide) (by kernel_rfl) (by kernel_rfl) ?_)
  exact ⟨⟨by kernel_rfl, EndsA.run (k := [.ops w7_O 1, .code w7_R]) prog_ok env0_ok ⟨_, w7_e6⟩ (EndsA.again w7_n6)⟩, ⟨⟨by kernel_rfl, EndsA.run (k := [.ops w7_O 1, .code w7_R]) prog_ok env0_ok ⟨_, w7_e11⟩ (EndsA.again w7_n11)⟩, trivial⟩⟩
theorem w7_ends : EndsA Tryz.prog 8 Tryz.f106 w7_A w7_V (w7_A ++ w7_RC) [.code (dropS 0 (bodyOf 106))] w7_L0 w7_X0 := by
  refine EndsA.drop prog_ok env0_ok (by kernel_rfl) ⟨_, w7_t0⟩ ?_
  refine EndsA.drop prog_ok env0_ok (by kernel_rfl) ⟨_, w7_t1⟩ ?_
  refine EndsA.drop prog_ok env0_ok (by kernel_rfl) ⟨_, w7_t2⟩ ?_
  refine EndsA.drop prog_ok env0_ok (by kernel_rfl) ⟨_, w7_t3⟩ ?_
  refine EndsA.dropSeq (by kernel_rfl) ?_
  rw [w7_hS]
  exact EndsA.seq (EndsA.run (k := [.code (headS (seqAt 4 (bodyOf 106)))]) prog_ok env0_ok ⟨_, w7_t4⟩ (EndsA.blockLoop w7_hC w7_n5))
theorem w7_says : SaysAt Tryz.prog 8 106 [.slice (some ⟨8, 0, none⟩) 2 2] w7_A w7_V (w7_A ++ w7_RC) :=
  EndsA.says prog_ok Tryz.func106 (c := bodyOf 106) (by kernel_rfl) (by decide) (EndsA.cast (by kernel_rfl) (by kernel_rfl) (by kernel_rfl) w7_ends) (by simp) (fun i hi => by rw [hget_append, if_pos hi]) (by kernel_rfl)
end Go.Proofs.YtpdiaiccnaoaiaaGreatDoor
