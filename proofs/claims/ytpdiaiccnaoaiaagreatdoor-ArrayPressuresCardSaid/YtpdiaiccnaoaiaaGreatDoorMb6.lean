/-
Joined: AwS, AwA, AwB, AwC, AwD, AwZ, Gf, AbU, AbV, AbY, AbZ, AbL, AbG, AbI, AbS, AbX, AbF, Ab29.
-/
import Derived.Test.YtpdiaiccnaoaiaaGreatDoorMb5
import Derived.Test.YtpdiaiccnaoaiaaGreatDoorMb3
import Derived.OpenShut
import Derived.KernelRfl
import Derived.ChangeSlices
import Derived.Test.YtpdiaiccnaoaiaaGreatDoorMb2
import Derived.Lib.LaidTab
import Derived.ReadAgain
import Derived.ChangeCalls
import Derived.RowKit
set_option linter.unusedVariables false
set_option linter.unusedSimpArgs false
set_option linter.unusedSectionVars false
/-
The document's examples, run: the states between the statements of awake.
-/
namespace Go.Proofs.YtpdiaiccnaoaiaaGreatDoor
open Go Go.Abs
noncomputable def rowAwS_0 : Option ARow := (rvar [I 1, I 1, I 1, I 1, I 2, I 0, I 1, (I (-1)), I 1, (I (-1)), I 1, (I (-1)), I 2, I 0, I 1, I 1] 53)
noncomputable def rowAwS_1 : Option ARow := (rrow [I 0, I 0, I 1, I 0, I 1, I 0, I 1, I 0, I 4, I 0, (I (-1)), I 0, I 3, I 0, (I (-1)), I 0] 32)
noncomputable def rowAwS_2 : Option ARow := (rrow [I 0, I 0, I 1, I 0, I 1, I 0, I 1, I 0, I 1, I 0, I 1, I 0, I 2, I 0, I 1, I 0] 32)
noncomputable def rowAwS_3 : Option ARow := (rrow [I 0, I 0, I 1, I 0, I 1, I 0, I 1, I 0, I 4, I 0, I 1, I 0, I 3, I 0, I 1, I 0] 32)
noncomputable def rowAwS_4 : Option ARow := (rrow [I 0, I 0, I 1, I 0, I 1, I 0, I 1, I 0, I 1, I 0, I 1, I 0, I 2, I 0, I 1, I 0] 24)
noncomputable def rowAwS_5 : Option ARow := (rrow [I 0, I 0, I 1, I 0, I 1, I 0, I 2, I 0, I 2, I 0, I 1, I 0] 125)
noncomputable def rowAwS_6 : Option ARow := (rrow [I 0, I 0, I 1, I 0, I 1, I 0, I 2, I 0, I 2, I 0, I 1, I 0] 156)
noncomputable def rowAwS_7 : Option ARow := (rrow [I 0, I 0, I 1, I 0, I 1, I 0, I 2, I 0, I 2, I 0, I 1, I 0] 32)
noncomputable def rowAwS_8 : Option ARow := (rrow [I 0, I 0, I 1, I 0, I 1, I 0, I 2, I 0, I 2, I 0, I 1, I 0] 24)
noncomputable def rowAwS_9 : Option ARow := (rvar [I 6, I 0, I 0, I 2, (I (-2)), I 0, I 0, I 2] 72)
noncomputable def rowAwS_10 : Option ARow := (rrow [I 1, I 0, I 1, I 0, (I (-1)), I 0, I 1, I 0] 32)
noncomputable def rowAwS_11 : Option ARow := (rrow [I 0, I 0, I 1, I 0, I 1, I 0, I 1, I 0] 32)
noncomputable def rowAwS_12 : Option ARow := (rrow [I 0, I 0, I 1, I 0, I 1, I 0, I 1, I 3] 32)
noncomputable def rowAwS_13 : Option ARow := (rrow [I 0, I 0, I 1, I 0, I 1, I 0, I 1, I 3] 24)
noncomputable def rowAwS_14 : Option ARow := (rrow [I 3, I 4, I 5] 3)
noncomputable def L0 : List Value := List.replicate 322 undef
noncomputable def X0 : Heap := heap0
noncomputable def L1 : List Value := ([(.bool false)] ++ us 321)
noncomputable def X1 : Heap := (H [])
noncomputable def L2 : List Value := ([(.bool false), (pt 9 0), I 0, U, U, U, U, U, U, U, U, U, U, U, U, U, U, U, U, U, U, U, U, U, U, U, U, U, U, U, U, U, U, U, U, U, U, U, U, U, (.tuple #[(.agg #[I 1, I 1, I 1, I 1, I 2, I 0, I 1, (I (-1)), I 1, (I (-1)), I 1, (I (-1)), I 2, I 0, I 1, I 1]), I 0]), (sl 8 0 2 2), (.tuple #[(.agg #[I 1, I 1, I 1, I 1, I 2, I 0, I 1, (I (-1)), I 1, (I (-1)), I 1, (I (-1)), I 2, I 0, I 1, I 1]), I 0]), (.agg #[I 1, I 1, I 1, I 1, I 2, I 0, I 1, (I (-1)), I 1, (I (-1)), I 1, (I (-1)), I 2, I 0, I 1, I 1]), I 0] ++ us 277)
noncomputable def X2 : Heap := (H [rowAwS_11, rowAwS_0])
noncomputable def L3 : List Value := ([(.bool false), (pt 9 0), I 0, I 4, I 0, U, U, U, U, U, U, U, U, U, U, U, U, U, U, U, U, U, U, U, U, U, U, U, U, U, U, U, U, U, U, U, U, U, U, U, (.tuple #[(.agg #[I 1, I 1, I 1, I 1, I 2, I 0, I 1, (I (-1)), I 1, (I (-1)), I 1, (I (-1)), I 2, I 0, I 1, I 1]), I 0]), (sl 8 0 2 2), (.tuple #[(.agg #[I 1, I 1, I 1, I 1, I 2, I 0, I 1, (I (-1)), I 1, (I (-1)), I 1, (I (-1)), I 2, I 0, I 1, I 1]), I 0]), (.agg #[I 1, I 1, I 1, I 1, I 2, I 0, I 1, (I (-1)), I 1, (I (-1)), I 1, (I (-1)), I 2, I 0, I 1, I 1]), I 0, (.tuple #[I 4, I 0]), (sl 10 0 2 2), (.tuple #[I 4, I 0]), I 4, I 0] ++ us 272)
noncomputable def X3 : Heap := (H [rowAwS_11, rowAwS_0, rowAwS_11])
noncomputable def L4 : List Value := ([(.bool false), (pt 9 0), I 0, I 4, I 0, (pt 12 0), I 0, U, U, U, U, U, U, U, U, U, U, U, U, U, U, U, U, U, U, U, U, U, U, U, U, U, U, U, U, U, U, U, U, U, (.tuple #[(.agg #[I 1, I 1, I 1, I 1, I 2, I 0, I 1, (I (-1)), I 1, (I (-1)), I 1, (I (-1)), I 2, I 0, I 1, I 1]), I 0]), (sl 8 0 2 2), (.tuple #[(.agg #[I 1, I 1, I 1, I 1, I 2, I 0, I 1, (I (-1)), I 1, (I (-1)), I 1, (I (-1)), I 2, I 0, I 1, I 1]), I 0]), (.agg #[I 1, I 1, I 1, I 1, I 2, I 0, I 1, (I (-1)), I 1, (I (-1)), I 1, (I (-1)), I 2, I 0, I 1, I 1]), I 0, (.tuple #[I 4, I 0]), (sl 10 0 2 2), (.tuple #[I 4, I 0]), I 4, I 0, (.tuple #[(g2 8 5), I 0]), (sl 11 0 2 2), (.tuple #[(g2 8 5), I 0]), (g2 8 5), I 0] ++ us 267)
noncomputable def X4 : Heap := (H [rowAwS_11, rowAwS_0, rowAwS_11, rowAwS_11, (rvar [I 8, I 5] 63)])
noncomputable def L5 : List Value := ([(.bool false), (pt 9 0), I 0, I 4, I 0, (pt 12 0), I 0, (sl 14 0 2 2), I 0, U, U, U, U, U, U, U, U, U, U, U, U, U, U, U, U, U, U, U, U, U, U, U, U, U, U, U, U, U, U, U, (.tuple #[(.agg #[I 1, I 1, I 1, I 1, I 2, I 0, I 1, (I (-1)), I 1, (I (-1)), I 1, (I (-1)), I 2, I 0, I 1, I 1]), I 0]), (sl 8 0 2 2), (.tuple #[(.agg #[I 1, I 1, I 1, I 1, I 2, I 0, I 1, (I (-1)), I 1, (I (-1)), I 1, (I (-1)), I 2, I 0, I 1, I 1]), I 0]), (.agg #[I 1, I 1, I 1, I 1, I 2, I 0, I 1, (I (-1)), I 1, (I (-1)), I 1, (I (-1)), I 2, I 0, I 1, I 1]), I 0, (.tuple #[I 4, I 0]), (sl 10 0 2 2), (.tuple #[I 4, I 0]), I 4, I 0, (.tuple #[(g2 8 5), I 0]), (sl 11 0 2 2), (.tuple #[(g2 8 5), I 0]), (g2 8 5), I 0, (.tuple #[(sl 14 0 2 2), I 0]), (sl 13 0 2 2), (.tuple #[(sl 14 0 2 2), I 0]), (sl 14 0 2 2), I 0] ++ us 262)
noncomputable def X5 : Heap := (H [rowAwS_11, rowAwS_0, rowAwS_11, rowAwS_11, (rvar [I 8, I 5] 63), rowAwS_11, rowAwS_12])
noncomputable def L6 : List Value := ([(.bool false), (pt 9 0), I 0, I 4, I 0, (pt 12 0), I 0, (sl 14 0 2 2), I 0, (sl 17 0 3 3), I 0, U, U, U, U, U, U, U, U, U, U, U, U, U, U, U, U, U, U, U, U, U, U, U, U, U, U, U, U, U, (.tuple #[(.agg #[I 1, I 1, I 1, I 1, I 2, I 0, I 1, (I (-1)), I 1, (I (-1)), I 1, (I (-1)), I 2, I 0, I 1, I 1]), I 0]), (sl 8 0 2 2), (.tuple #[(.agg #[I 1, I 1, I 1, I 1, I 2, I 0, I 1, (I (-1)), I 1, (I (-1)), I 1, (I (-1)), I 2, I 0, I 1, I 1]), I 0]), (.agg #[I 1, I 1, I 1, I 1, I 2, I 0, I 1, (I (-1)), I 1, (I (-1)), I 1, (I (-1)), I 2, I 0, I 1, I 1]), I 0, (.tuple #[I 4, I 0]), (sl 10 0 2 2), (.tuple #[I 4, I 0]), I 4, I 0, (.tuple #[(g2 8 5), I 0]), (sl 11 0 2 2), (.tuple #[(g2 8 5), I 0]), (g2 8 5), I 0, (.tuple #[(sl 14 0 2 2), I 0]), (sl 13 0 2 2), (.tuple #[(sl 14 0 2 2), I 0]), (sl 14 0 2 2), I 0, (.tuple #[(sl 17 0 3 3), I 0]), (sl 15 0 0 0), (sl 14 0 2 2), (sl 16 0 2 2), (.tuple #[(sl 17 0 3 3), I 0]), (sl 17 0 3 3), I 0] ++ us 255)
noncomputable def X6 : Heap := (H [rowAwS_11, rowAwS_0, rowAwS_11, rowAwS_11, (rvar [I 8, I 5] 63), rowAwS_11, rowAwS_12, (.some (.cells [] 32 .emp)), rowAwS_12, rowAwS_14])
noncomputable def L7 : List Value := ([(.bool false), (pt 9 0), I 0, I 4, I 0, (pt 12 0), I 0, (sl 14 0 2 2), I 0, (sl 17 0 3 3), I 0, (sl 19 0 2 2), I 4, I 0, U, U, U, U, U, U, U, U, U, U, U, U, U, U, U, U, U, U, U, U, U, U, U, U, U, U, (.tuple #[(.agg #[I 1, I 1, I 1, I 1, I 2, I 0, I 1, (I (-1)), I 1, (I (-1)), I 1, (I (-1)), I 2, I 0, I 1, I 1]), I 0]), (sl 8 0 2 2), (.tuple #[(.agg #[I 1, I 1, I 1, I 1, I 2, I 0, I 1, (I (-1)), I 1, (I (-1)), I 1, (I (-1)), I 2, I 0, I 1, I 1]), I 0]), (.agg #[I 1, I 1, I 1, I 1, I 2, I 0, I 1, (I (-1)), I 1, (I (-1)), I 1, (I (-1)), I 2, I 0, I 1, I 1]), I 0, (.tuple #[I 4, I 0]), (sl 10 0 2 2), (.tuple #[I 4, I 0]), I 4, I 0, (.tuple #[(g2 8 5), I 0]), (sl 11 0 2 2), (.tuple #[(g2 8 5), I 0]), (g2 8 5), I 0, (.tuple #[(sl 14 0 2 2), I 0]), (sl 13 0 2 2), (.tuple #[(sl 14 0 2 2), I 0]), (sl 14 0 2 2), I 0, (.tuple #[(sl 17 0 3 3), I 0]), (sl 15 0 0 0), (sl 14 0 2 2), (sl 16 0 2 2), (.tuple #[(sl 17 0 3 3), I 0]), (sl 17 0 3 3), I 0, (.tuple #[(sl 19 0 2 2), I 4, I 0]), (sl 18 0 2 2), (.agg #[I 1, I 0, I 0, I 0, (I (-1)), I 0, I 0, I 0]), (.tuple #[(sl 19 0 2 2), I 4, I 0]), (sl 19 0 2 2), I 4, I 0] ++ us 248)
noncomputable def X7 : Heap := (H [rowAwS_11, rowAwS_0, rowAwS_11, rowAwS_11, (rvar [I 8, I 5] 63), rowAwS_11, rowAwS_12, (.some (.cells [] 32 .emp)), rowAwS_12, rowAwS_14, rowAwS_11, rowAwS_12])
noncomputable def L8 : List Value := ([(.bool false), (pt 9 0), I 0, I 4, I 0, (pt 12 0), I 0, (sl 14 0 2 2), I 0, (sl 17 0 3 3), I 0, (sl 19 0 2 2), I 4, I 0, (pt 20 0), I 0, U, U, U, U, U, U, U, U, U, U, U, U, U, U, U, U, U, U, U, U, U, U, U, U, (.tuple #[(.agg #[I 1, I 1, I 1, I 1, I 2, I 0, I 1, (I (-1)), I 1, (I (-1)), I 1, (I (-1)), I 2, I 0, I 1, I 1]), I 0]), (sl 8 0 2 2), (.tuple #[(.agg #[I 1, I 1, I 1, I 1, I 2, I 0, I 1, (I (-1)), I 1, (I (-1)), I 1, (I (-1)), I 2, I 0, I 1, I 1]), I 0]), (.agg #[I 1, I 1, I 1, I 1, I 2, I 0, I 1, (I (-1)), I 1, (I (-1)), I 1, (I (-1)), I 2, I 0, I 1, I 1]), I 0, (.tuple #[I 4, I 0]), (sl 10 0 2 2), (.tuple #[I 4, I 0]), I 4, I 0, (.tuple #[(g2 8 5), I 0]), (sl 11 0 2 2), (.tuple #[(g2 8 5), I 0]), (g2 8 5), I 0, (.tuple #[(sl 14 0 2 2), I 0]), (sl 13 0 2 2), (.tuple #[(sl 14 0 2 2), I 0]), (sl 14 0 2 2), I 0, (.tuple #[(sl 17 0 3 3), I 0]), (sl 15 0 0 0), (sl 14 0 2 2), (sl 16 0 2 2), (.tuple #[(sl 17 0 3 3), I 0]), (sl 17 0 3 3), I 0, (.tuple #[(sl 19 0 2 2), I 4, I 0]), (sl 18 0 2 2), (.agg #[I 1, I 0, I 0, I 0, (I (-1)), I 0, I 0, I 0]), (.tuple #[(sl 19 0 2 2), I 4, I 0]), (sl 19 0 2 2), I 4, I 0, (.tuple #[(.agg #[I 6, I 0, I 0, I 2, (I (-2)), I 0, I 0, I 2]), I 0]), (pt 9 0), (g2 1 1), (pt 9 4), (g2 2 0), (pt 9 8), (g2 1 (-1)), (pt 9 12), (g2 2 0), (.agg #[I 1, I 1, I 2, I 0, I 1, (I (-1)), I 2, I 0]), (.tuple #[(.agg #[I 6, I 0, I 0, I 2, (I (-2)), I 0, I 0, I 2]), I 0]), (.agg #[I 6, I 0, I 0, I 2, (I (-2)), I 0, I 0, I 2]), I 0] ++ us 235)
noncomputable def X8 : Heap := (H [rowAwS_11, rowAwS_0, rowAwS_11, rowAwS_11, (rvar [I 8, I 5] 63), rowAwS_11, rowAwS_12, (.some (.cells [] 32 .emp)), rowAwS_12, rowAwS_14, rowAwS_11, rowAwS_12, rowAwS_9])
noncomputable def L9 : List Value := ([(.bool false), (pt 9 0), I 0, I 4, I 0, (pt 12 0), I 0, (sl 14 0 2 2), I 0, (sl 17 0 3 3), I 0, (sl 19 0 2 2), I 4, I 0, (pt 20 0), I 0, U, U, U, U, U, U, U, U, U, U, U, U, U, U, U, U, U, U, U, U, U, U, U, U, (.tuple #[(.agg #[I 1, I 1, I 1, I 1, I 2, I 0, I 1, (I (-1)), I 1, (I (-1)), I 1, (I (-1)), I 2, I 0, I 1, I 1]), I 0]), (sl 8 0 2 2), (.tuple #[(.agg #[I 1, I 1, I 1, I 1, I 2, I 0, I 1, (I (-1)), I 1, (I (-1)), I 1, (I (-1)), I 2, I 0, I 1, I 1]), I 0]), (.agg #[I 1, I 1, I 1, I 1, I 2, I 0, I 1, (I (-1)), I 1, (I (-1)), I 1, (I (-1)), I 2, I 0, I 1, I 1]), I 0, (.tuple #[I 4, I 0]), (sl 10 0 2 2), (.tuple #[I 4, I 0]), I 4, I 0, (.tuple #[(g2 8 5), I 0]), (sl 11 0 2 2), (.tuple #[(g2 8 5), I 0]), (g2 8 5), I 0, (.tuple #[(sl 14 0 2 2), I 0]), (sl 13 0 2 2), (.tuple #[(sl 14 0 2 2), I 0]), (sl 14 0 2 2), I 0, (.tuple #[(sl 17 0 3 3), I 0]), (sl 15 0 0 0), (sl 14 0 2 2), (sl 16 0 2 2), (.tuple #[(sl 17 0 3 3), I 0]), (sl 17 0 3 3), I 0, (.tuple #[(sl 19 0 2 2), I 4, I 0]), (sl 18 0 2 2), (.agg #[I 1, I 0, I 0, I 0, (I (-1)), I 0, I 0, I 0]), (.tuple #[(sl 19 0 2 2), I 4, I 0]), (sl 19 0 2 2), I 4, I 0, (.tuple #[(.agg #[I 6, I 0, I 0, I 2, (I (-2)), I 0, I 0, I 2]), I 0]), (pt 9 0), (g2 1 1), (pt 9 4), (g2 2 0), (pt 9 8), (g2 1 (-1)), (pt 9 12), (g2 2 0), (.agg #[I 1, I 1, I 2, I 0, I 1, (I (-1)), I 2, I 0]), (.tuple #[(.agg #[I 6, I 0, I 0, I 2, (I (-2)), I 0, I 0, I 2]), I 0]), (.agg #[I 6, I 0, I 0, I 2, (I (-2)), I 0, I 0, I 2]), I 0, I 0, I 0, I 0, I 0, I 0, I 0, I 0, I 0, I 0, I 0, I 0, I 0, I 0, (.bool false), (.bool false), (.agg #[I 1, I 1, I 1, I 1, I 2, I 0, I 1, (I (-1)), I 1, (I (-1)), I 1, (I (-1)), I 2, I 0, I 1, I 1]), (g2 1 1), (g2 1 1), (g2 2 0), (g2 1 (-1)), (g2 1 (-1)), (g2 1 (-1)), (g2 2 0), (g2 1 1), (.agg #[I 1, I 1, I 1, I 1, I 2, I 0, I 1, (I (-1)), I 1, (I (-1)), I 1, (I (-1)), I 2, I 0, I 1, I 1]), (.bool false), (.bool false), (.bool false), I 4, (.bool false), (.bool false), (.bool false), (g2 8 5), (g2 8 5), (.bool false), (.bool false), (.bool false), (sl 14 0 2 2), (sl 21 0 2 2), (.agg #[I 0, I 0, I 1, I 0]), (.agg #[I 1, I 0, I 1, I 3]), (sl 22 0 2 2), (.bool true), (.bool false), (.bool false), (.bool false), (sl 17 0 3 3), (sl 23 0 3 3), (.bool true), (.bool false), (.bool false), (.bool false), (sl 19 0 2 2), (sl 24 0 2 2), (sl 14 0 2 2), (sl 25 0 2 2), (.bool true), (.bool false), (.bool false), (.bool false), I 4, (.bool false), (.bool false), (.bool false), (.agg #[I 6, I 0, I 0, I 2, (I (-2)), I 0, I 0, I 2]), (g2 6 0), (g2 0 2), (g2 (-2) 0), (g2 0 2), (.agg #[I 6, I 0, I 0, I 2, (I (-2)), I 0, I 0, I 2]), (.bool false), (.bool false)] ++ us 163)
noncomputable def X9 : Heap := (H [rowAwS_11, rowAwS_0, rowAwS_11, rowAwS_11, (rvar [I 8, I 5] 63), rowAwS_11, rowAwS_12, (.some (.cells [] 32 .emp)), rowAwS_12, rowAwS_14, rowAwS_11, rowAwS_12, rowAwS_9, rowAwS_13, rowAwS_13, rowAwS_14, rowAwS_13, rowAwS_13])
noncomputable def L10 : List Value := ([(.bool false), (pt 9 0), I 0, I 4, I 0, (pt 12 0), I 0, (sl 14 0 2 2), I 0, (sl 17 0 3 3), I 0, (sl 19 0 2 2), I 4, I 0, (pt 20 0), I 0, (sl 28 0 4 4), I 0, U, U, U, U, U, U, U, U, U, U, U, U, U, U, U, U, U, U, U, U, U, U, (.tuple #[(.agg #[I 1, I 1, I 1, I 1, I 2, I 0, I 1, (I (-1)), I 1, (I (-1)), I 1, (I (-1)), I 2, I 0, I 1, I 1]), I 0]), (sl 8 0 2 2), (.tuple #[(.agg #[I 1, I 1, I 1, I 1, I 2, I 0, I 1, (I (-1)), I 1, (I (-1)), I 1, (I (-1)), I 2, I 0, I 1, I 1]), I 0]), (.agg #[I 1, I 1, I 1, I 1, I 2, I 0, I 1, (I (-1)), I 1, (I (-1)), I 1, (I (-1)), I 2, I 0, I 1, I 1]), I 0, (.tuple #[I 4, I 0]), (sl 10 0 2 2), (.tuple #[I 4, I 0]), I 4, I 0, (.tuple #[(g2 8 5), I 0]), (sl 11 0 2 2), (.tuple #[(g2 8 5), I 0]), (g2 8 5), I 0, (.tuple #[(sl 14 0 2 2), I 0]), (sl 13 0 2 2), (.tuple #[(sl 14 0 2 2), I 0]), (sl 14 0 2 2), I 0, (.tuple #[(sl 17 0 3 3), I 0]), (sl 15 0 0 0), (sl 14 0 2 2), (sl 16 0 2 2), (.tuple #[(sl 17 0 3 3), I 0]), (sl 17 0 3 3), I 0, (.tuple #[(sl 19 0 2 2), I 4, I 0]), (sl 18 0 2 2), (.agg #[I 1, I 0, I 0, I 0, (I (-1)), I 0, I 0, I 0]), (.tuple #[(sl 19 0 2 2), I 4, I 0]), (sl 19 0 2 2), I 4, I 0, (.tuple #[(.agg #[I 6, I 0, I 0, I 2, (I (-2)), I 0, I 0, I 2]), I 0]), (pt 9 0), (g2 1 1), (pt 9 4), (g2 2 0), (pt 9 8), (g2 1 (-1)), (pt 9 12), (g2 2 0), (.agg #[I 1, I 1, I 2, I 0, I 1, (I (-1)), I 2, I 0]), (.tuple #[(.agg #[I 6, I 0, I 0, I 2, (I (-2)), I 0, I 0, I 2]), I 0]), (.agg #[I 6, I 0, I 0, I 2, (I (-2)), I 0, I 0, I 2]), I 0, I 0, I 0, I 0, I 0, I 0, I 0, I 0, I 0, I 0, I 0, I 0, I 0, I 0, (.bool false), (.bool false), (.agg #[I 1, I 1, I 1, I 1, I 2, I 0, I 1, (I (-1)), I 1, (I (-1)), I 1, (I (-1)), I 2, I 0, I 1, I 1]), (g2 1 1), (g2 1 1), (g2 2 0), (g2 1 (-1)), (g2 1 (-1)), (g2 1 (-1)), (g2 2 0), (g2 1 1), (.agg #[I 1, I 1, I 1, I 1, I 2, I 0, I 1, (I (-1)), I 1, (I (-1)), I 1, (I (-1)), I 2, I 0, I 1, I 1]), (.bool false), (.bool false), (.bool false), I 4, (.bool false), (.bool false), (.bool false), (g2 8 5), (g2 8 5), (.bool false), (.bool false), (.bool false), (sl 14 0 2 2), (sl 21 0 2 2), (.agg #[I 0, I 0, I 1, I 0]), (.agg #[I 1, I 0, I 1, I 3]), (sl 22 0 2 2), (.bool true), (.bool false), (.bool false), (.bool false), (sl 17 0 3 3), (sl 23 0 3 3), (.bool true), (.bool false), (.bool false), (.bool false), (sl 19 0 2 2), (sl 24 0 2 2), (sl 14 0 2 2), (sl 25 0 2 2), (.bool true), (.bool false), (.bool false), (.bool false), I 4, (.bool false), (.bool false), (.bool false), (.agg #[I 6, I 0, I 0, I 2, (I (-2)), I 0, I 0, I 2]), (g2 6 0), (g2 0 2), (g2 (-2) 0), (g2 0 2), (.agg #[I 6, I 0, I 0, I 2, (I (-2)), I 0, I 0, I 2]), (.bool false), (.bool false), (.tuple #[(sl 28 0 4 4), I 0]), (sl 26 0 2 2), (sl 27 0 2 2), (.tuple #[(sl 28 0 4 4), I 0]), (sl 28 0 4 4), I 0] ++ us 157)
noncomputable def X10 : Heap := (H [rowAwS_11, rowAwS_0, rowAwS_11, rowAwS_11, (rvar [I 8, I 5] 63), rowAwS_11, rowAwS_12, (.some (.cells [] 32 .emp)), rowAwS_12, rowAwS_14, rowAwS_11, rowAwS_12, rowAwS_9, rowAwS_13, rowAwS_13, rowAwS_14, rowAwS_13, rowAwS_13, rowAwS_11, rowAwS_11, rowAwS_2])
noncomputable def L11 : List Value := ([(.bool false), (pt 9 0), I 0, I 4, I 0, (pt 12 0), I 0, (sl 14 0 2 2), I 0, (sl 17 0 3 3), I 0, (sl 19 0 2 2), I 4, I 0, (pt 20 0), I 0, (sl 28 0 4 4), I 0, (sl 29 0 3 3), I 0, U, U, U, U, U, U, U, U, U, U, U, U, U, U, U, U, U, U, U, U, (.tuple #[(.agg #[I 1, I 1, I 1, I 1, I 2, I 0, I 1, (I (-1)), I 1, (I (-1)), I 1, (I (-1)), I 2, I 0, I 1, I 1]), I 0]), (sl 8 0 2 2), (.tuple #[(.agg #[I 1, I 1, I 1, I 1, I 2, I 0, I 1, (I (-1)), I 1, (I (-1)), I 1, (I (-1)), I 2, I 0, I 1, I 1]), I 0]), (.agg #[I 1, I 1, I 1, I 1, I 2, I 0, I 1, (I (-1)), I 1, (I (-1)), I 1, (I (-1)), I 2, I 0, I 1, I 1]), I 0, (.tuple #[I 4, I 0]), (sl 10 0 2 2), (.tuple #[I 4, I 0]), I 4, I 0, (.tuple #[(g2 8 5), I 0]), (sl 11 0 2 2), (.tuple #[(g2 8 5), I 0]), (g2 8 5), I 0, (.tuple #[(sl 14 0 2 2), I 0]), (sl 13 0 2 2), (.tuple #[(sl 14 0 2 2), I 0]), (sl 14 0 2 2), I 0, (.tuple #[(sl 17 0 3 3), I 0]), (sl 15 0 0 0), (sl 14 0 2 2), (sl 16 0 2 2), (.tuple #[(sl 17 0 3 3), I 0]), (sl 17 0 3 3), I 0, (.tuple #[(sl 19 0 2 2), I 4, I 0]), (sl 18 0 2 2), (.agg #[I 1, I 0, I 0, I 0, (I (-1)), I 0, I 0, I 0]), (.tuple #[(sl 19 0 2 2), I 4, I 0]), (sl 19 0 2 2), I 4, I 0, (.tuple #[(.agg #[I 6, I 0, I 0, I 2, (I (-2)), I 0, I 0, I 2]), I 0]), (pt 9 0), (g2 1 1), (pt 9 4), (g2 2 0), (pt 9 8), (g2 1 (-1)), (pt 9 12), (g2 2 0), (.agg #[I 1, I 1, I 2, I 0, I 1, (I (-1)), I 2, I 0]), (.tuple #[(.agg #[I 6, I 0, I 0, I 2, (I (-2)), I 0, I 0, I 2]), I 0]), (.agg #[I 6, I 0, I 0, I 2, (I (-2)), I 0, I 0, I 2]), I 0, I 0, I 0, I 0, I 0, I 0, I 0, I 0, I 0, I 0, I 0, I 0, I 0, I 0, (.bool false), (.bool false), (.agg #[I 1, I 1, I 1, I 1, I 2, I 0, I 1, (I (-1)), I 1, (I (-1)), I 1, (I (-1)), I 2, I 0, I 1, I 1]), (g2 1 1), (g2 1 1), (g2 2 0), (g2 1 (-1)), (g2 1 (-1)), (g2 1 (-1)), (g2 2 0), (g2 1 1), (.agg #[I 1, I 1, I 1, I 1, I 2, I 0, I 1, (I (-1)), I 1, (I (-1)), I 1, (I (-1)), I 2, I 0, I 1, I 1]), (.bool false), (.bool false), (.bool false), I 4, (.bool false), (.bool false), (.bool false), (g2 8 5), (g2 8 5), (.bool false), (.bool false), (.bool false), (sl 14 0 2 2), (sl 21 0 2 2), (.agg #[I 0, I 0, I 1, I 0]), (.agg #[I 1, I 0, I 1, I 3]), (sl 22 0 2 2), (.bool true), (.bool false), (.bool false), (.bool false), (sl 17 0 3 3), (sl 23 0 3 3), (.bool true), (.bool false), (.bool false), (.bool false), (sl 19 0 2 2), (sl 24 0 2 2), (sl 14 0 2 2), (sl 25 0 2 2), (.bool true), (.bool false), (.bool false), (.bool false), I 4, (.bool false), (.bool false), (.bool false), (.agg #[I 6, I 0, I 0, I 2, (I (-2)), I 0, I 0, I 2]), (g2 6 0), (g2 0 2), (g2 (-2) 0), (g2 0 2), (.agg #[I 6, I 0, I 0, I 2, (I (-2)), I 0, I 0, I 2]), (.bool false), (.bool false), (.tuple #[(sl 28 0 4 4), I 0]), (sl 26 0 2 2), (sl 27 0 2 2), (.tuple #[(sl 28 0 4 4), I 0]), (sl 28 0 4 4), I 0, (.tuple #[(sl 29 0 3 3), I 0]), (.tuple #[(sl 29 0 3 3), I 0]), (sl 29 0 3 3), I 0] ++ us 153)
noncomputable def X11 : Heap := (H [rowAwS_11, rowAwS_0, rowAwS_11, rowAwS_11, (rvar [I 8, I 5] 63), rowAwS_11, rowAwS_12, (.some (.cells [] 32 .emp)), rowAwS_12, rowAwS_14, rowAwS_11, rowAwS_12, rowAwS_9, rowAwS_13, rowAwS_13, rowAwS_14, rowAwS_13, rowAwS_13, rowAwS_11, rowAwS_11, rowAwS_2, rowAwS_7])
noncomputable def L12 : List Value := ([(.bool false), (pt 9 0), I 0, I 4, I 0, (pt 12 0), I 0, (sl 14 0 2 2), I 0, (sl 17 0 3 3), I 0, (sl 19 0 2 2), I 4, I 0, (pt 20 0), I 0, (sl 28 0 4 4), I 0, (sl 29 0 3 3), I 0, (sl 32 0 3 3), I 0, U, U, U, U, U, U, U, U, U, U, U, U, U, U, U, U, U, U, (.tuple #[(.agg #[I 1, I 1, I 1, I 1, I 2, I 0, I 1, (I (-1)), I 1, (I (-1)), I 1, (I (-1)), I 2, I 0, I 1, I 1]), I 0]), (sl 8 0 2 2), (.tuple #[(.agg #[I 1, I 1, I 1, I 1, I 2, I 0, I 1, (I (-1)), I 1, (I (-1)), I 1, (I (-1)), I 2, I 0, I 1, I 1]), I 0]), (.agg #[I 1, I 1, I 1, I 1, I 2, I 0, I 1, (I (-1)), I 1, (I (-1)), I 1, (I (-1)), I 2, I 0, I 1, I 1]), I 0, (.tuple #[I 4, I 0]), (sl 10 0 2 2), (.tuple #[I 4, I 0]), I 4, I 0, (.tuple #[(g2 8 5), I 0]), (sl 11 0 2 2), (.tuple #[(g2 8 5), I 0]), (g2 8 5), I 0, (.tuple #[(sl 14 0 2 2), I 0]), (sl 13 0 2 2), (.tuple #[(sl 14 0 2 2), I 0]), (sl 14 0 2 2), I 0, (.tuple #[(sl 17 0 3 3), I 0]), (sl 15 0 0 0), (sl 14 0 2 2), (sl 16 0 2 2), (.tuple #[(sl 17 0 3 3), I 0]), (sl 17 0 3 3), I 0, (.tuple #[(sl 19 0 2 2), I 4, I 0]), (sl 18 0 2 2), (.agg #[I 1, I 0, I 0, I 0, (I (-1)), I 0, I 0, I 0]), (.tuple #[(sl 19 0 2 2), I 4, I 0]), (sl 19 0 2 2), I 4, I 0, (.tuple #[(.agg #[I 6, I 0, I 0, I 2, (I (-2)), I 0, I 0, I 2]), I 0]), (pt 9 0), (g2 1 1), (pt 9 4), (g2 2 0), (pt 9 8), (g2 1 (-1)), (pt 9 12), (g2 2 0), (.agg #[I 1, I 1, I 2, I 0, I 1, (I (-1)), I 2, I 0]), (.tuple #[(.agg #[I 6, I 0, I 0, I 2, (I (-2)), I 0, I 0, I 2]), I 0]), (.agg #[I 6, I 0, I 0, I 2, (I (-2)), I 0, I 0, I 2]), I 0, I 0, I 0, I 0, I 0, I 0, I 0, I 0, I 0, I 0, I 0, I 0, I 0, I 0, (.bool false), (.bool false), (.agg #[I 1, I 1, I 1, I 1, I 2, I 0, I 1, (I (-1)), I 1, (I (-1)), I 1, (I (-1)), I 2, I 0, I 1, I 1]), (g2 1 1), (g2 1 1), (g2 2 0), (g2 1 (-1)), (g2 1 (-1)), (g2 1 (-1)), (g2 2 0), (g2 1 1), (.agg #[I 1, I 1, I 1, I 1, I 2, I 0, I 1, (I (-1)), I 1, (I (-1)), I 1, (I (-1)), I 2, I 0, I 1, I 1]), (.bool false), (.bool false), (.bool false), I 4, (.bool false), (.bool false), (.bool false), (g2 8 5), (g2 8 5), (.bool false), (.bool false), (.bool false), (sl 14 0 2 2), (sl 21 0 2 2), (.agg #[I 0, I 0, I 1, I 0]), (.agg #[I 1, I 0, I 1, I 3]), (sl 22 0 2 2), (.bool true), (.bool false), (.bool false), (.bool false), (sl 17 0 3 3), (sl 23 0 3 3), (.bool true), (.bool false), (.bool false), (.bool false), (sl 19 0 2 2), (sl 24 0 2 2), (sl 14 0 2 2), (sl 25 0 2 2), (.bool true), (.bool false), (.bool false), (.bool false), I 4, (.bool false), (.bool false), (.bool false), (.agg #[I 6, I 0, I 0, I 2, (I (-2)), I 0, I 0, I 2]), (g2 6 0), (g2 0 2), (g2 (-2) 0), (g2 0 2), (.agg #[I 6, I 0, I 0, I 2, (I (-2)), I 0, I 0, I 2]), (.bool false), (.bool false), (.tuple #[(sl 28 0 4 4), I 0]), (sl 26 0 2 2), (sl 27 0 2 2), (.tuple #[(sl 28 0 4 4), I 0]), (sl 28 0 4 4), I 0, (.tuple #[(sl 29 0 3 3), I 0]), (.tuple #[(sl 29 0 3 3), I 0]), (sl 29 0 3 3), I 0, (.tuple #[(sl 32 0 3 3), I 0]), (sl 30 0 0 0), (sl 28 0 4 4), (sl 31 0 4 4), (.tuple #[(sl 32 0 3 3), I 0]), (sl 32 0 3 3), I 0] ++ us 146)
noncomputable def X12 : Heap := (H [rowAwS_11, rowAwS_0, rowAwS_11, rowAwS_11, (rvar [I 8, I 5] 63), rowAwS_11, rowAwS_12, (.some (.cells [] 32 .emp)), rowAwS_12, rowAwS_14, rowAwS_11, rowAwS_12, rowAwS_9, rowAwS_13, rowAwS_13, rowAwS_14, rowAwS_13, rowAwS_13, rowAwS_11, rowAwS_11, rowAwS_2, rowAwS_7, (.some (.cells [] 32 .emp)), rowAwS_2, rowAwS_5])
noncomputable def L13 : List Value := ([(.bool false), (pt 9 0), I 0, I 4, I 0, (pt 12 0), I 0, (sl 14 0 2 2), I 0, (sl 17 0 3 3), I 0, (sl 19 0 2 2), I 4, I 0, (pt 20 0), I 0, (sl 28 0 4 4), I 0, (sl 29 0 3 3), I 0, (sl 32 0 3 3), I 0, (sl 35 0 3 3), I 0, U, U, U, U, U, U, U, U, U, U, U, U, U, U, U, U, (.tuple #[(.agg #[I 1, I 1, I 1, I 1, I 2, I 0, I 1, (I (-1)), I 1, (I (-1)), I 1, (I (-1)), I 2, I 0, I 1, I 1]), I 0]), (sl 8 0 2 2), (.tuple #[(.agg #[I 1, I 1, I 1, I 1, I 2, I 0, I 1, (I (-1)), I 1, (I (-1)), I 1, (I (-1)), I 2, I 0, I 1, I 1]), I 0]), (.agg #[I 1, I 1, I 1, I 1, I 2, I 0, I 1, (I (-1)), I 1, (I (-1)), I 1, (I (-1)), I 2, I 0, I 1, I 1]), I 0, (.tuple #[I 4, I 0]), (sl 10 0 2 2), (.tuple #[I 4, I 0]), I 4, I 0, (.tuple #[(g2 8 5), I 0]), (sl 11 0 2 2), (.tuple #[(g2 8 5), I 0]), (g2 8 5), I 0, (.tuple #[(sl 14 0 2 2), I 0]), (sl 13 0 2 2), (.tuple #[(sl 14 0 2 2), I 0]), (sl 14 0 2 2), I 0, (.tuple #[(sl 17 0 3 3), I 0]), (sl 15 0 0 0), (sl 14 0 2 2), (sl 16 0 2 2), (.tuple #[(sl 17 0 3 3), I 0]), (sl 17 0 3 3), I 0, (.tuple #[(sl 19 0 2 2), I 4, I 0]), (sl 18 0 2 2), (.agg #[I 1, I 0, I 0, I 0, (I (-1)), I 0, I 0, I 0]), (.tuple #[(sl 19 0 2 2), I 4, I 0]), (sl 19 0 2 2), I 4, I 0, (.tuple #[(.agg #[I 6, I 0, I 0, I 2, (I (-2)), I 0, I 0, I 2]), I 0]), (pt 9 0), (g2 1 1), (pt 9 4), (g2 2 0), (pt 9 8), (g2 1 (-1)), (pt 9 12), (g2 2 0), (.agg #[I 1, I 1, I 2, I 0, I 1, (I (-1)), I 2, I 0]), (.tuple #[(.agg #[I 6, I 0, I 0, I 2, (I (-2)), I 0, I 0, I 2]), I 0]), (.agg #[I 6, I 0, I 0, I 2, (I (-2)), I 0, I 0, I 2]), I 0, I 0, I 0, I 0, I 0, I 0, I 0, I 0, I 0, I 0, I 0, I 0, I 0, I 0, (.bool false), (.bool false), (.agg #[I 1, I 1, I 1, I 1, I 2, I 0, I 1, (I (-1)), I 1, (I (-1)), I 1, (I (-1)), I 2, I 0, I 1, I 1]), (g2 1 1), (g2 1 1), (g2 2 0), (g2 1 (-1)), (g2 1 (-1)), (g2 1 (-1)), (g2 2 0), (g2 1 1), (.agg #[I 1, I 1, I 1, I 1, I 2, I 0, I 1, (I (-1)), I 1, (I (-1)), I 1, (I (-1)), I 2, I 0, I 1, I 1]), (.bool false), (.bool false), (.bool false), I 4, (.bool false), (.bool false), (.bool false), (g2 8 5), (g2 8 5), (.bool false), (.bool false), (.bool false), (sl 14 0 2 2), (sl 21 0 2 2), (.agg #[I 0, I 0, I 1, I 0]), (.agg #[I 1, I 0, I 1, I 3]), (sl 22 0 2 2), (.bool true), (.bool false), (.bool false), (.bool false), (sl 17 0 3 3), (sl 23 0 3 3), (.bool true), (.bool false), (.bool false), (.bool false), (sl 19 0 2 2), (sl 24 0 2 2), (sl 14 0 2 2), (sl 25 0 2 2), (.bool true), (.bool false), (.bool false), (.bool false), I 4, (.bool false), (.bool false), (.bool false), (.agg #[I 6, I 0, I 0, I 2, (I (-2)), I 0, I 0, I 2]), (g2 6 0), (g2 0 2), (g2 (-2) 0), (g2 0 2), (.agg #[I 6, I 0, I 0, I 2, (I (-2)), I 0, I 0, I 2]), (.bool false), (.bool false), (.tuple #[(sl 28 0 4 4), I 0]), (sl 26 0 2 2), (sl 27 0 2 2), (.tuple #[(sl 28 0 4 4), I 0]), (sl 28 0 4 4), I 0, (.tuple #[(sl 29 0 3 3), I 0]), (.tuple #[(sl 29 0 3 3), I 0]), (sl 29 0 3 3), I 0, (.tuple #[(sl 32 0 3 3), I 0]), (sl 30 0 0 0), (sl 28 0 4 4), (sl 31 0 4 4), (.tuple #[(sl 32 0 3 3), I 0]), (sl 32 0 3 3), I 0, (.tuple #[(sl 35 0 3 3), I 0]), (sl 33 0 0 0), (sl 29 0 3 3), (sl 34 0 3 3), (.tuple #[(sl 35 0 3 3), I 0]), (sl 35 0 3 3), I 0] ++ us 139)
noncomputable def X13 : Heap := (H [rowAwS_11, rowAwS_0, rowAwS_11, rowAwS_11, (rvar [I 8, I 5] 63), rowAwS_11, rowAwS_12, (.some (.cells [] 32 .emp)), rowAwS_12, rowAwS_14, rowAwS_11, rowAwS_12, rowAwS_9, rowAwS_13, rowAwS_13, rowAwS_14, rowAwS_13, rowAwS_13, rowAwS_11, rowAwS_11, rowAwS_2, rowAwS_7, (.some (.cells [] 32 .emp)), rowAwS_2, rowAwS_5, (.some (.cells [] 32 .emp)), rowAwS_7, rowAwS_5])
noncomputable def L14 : List Value := ([(.bool false), (pt 9 0), I 0, I 4, I 0, (pt 12 0), I 0, (sl 14 0 2 2), I 0, (sl 17 0 3 3), I 0, (sl 19 0 2 2), I 4, I 0, (pt 20 0), I 0, (sl 28 0 4 4), I 0, (sl 29 0 3 3), I 0, (sl 32 0 3 3), I 0, (sl 35 0 3 3), I 0, (pt 38 0), I 0, U, U, U, U, U, U, U, U, U, U, U, U, U, U, (.tuple #[(.agg #[I 1, I 1, I 1, I 1, I 2, I 0, I 1, (I (-1)), I 1, (I (-1)), I 1, (I (-1)), I 2, I 0, I 1, I 1]), I 0]), (sl 8 0 2 2), (.tuple #[(.agg #[I 1, I 1, I 1, I 1, I 2, I 0, I 1, (I (-1)), I 1, (I (-1)), I 1, (I (-1)), I 2, I 0, I 1, I 1]), I 0]), (.agg #[I 1, I 1, I 1, I 1, I 2, I 0, I 1, (I (-1)), I 1, (I (-1)), I 1, (I (-1)), I 2, I 0, I 1, I 1]), I 0, (.tuple #[I 4, I 0]), (sl 10 0 2 2), (.tuple #[I 4, I 0]), I 4, I 0, (.tuple #[(g2 8 5), I 0]), (sl 11 0 2 2), (.tuple #[(g2 8 5), I 0]), (g2 8 5), I 0, (.tuple #[(sl 14 0 2 2), I 0]), (sl 13 0 2 2), (.tuple #[(sl 14 0 2 2), I 0]), (sl 14 0 2 2), I 0, (.tuple #[(sl 17 0 3 3), I 0]), (sl 15 0 0 0), (sl 14 0 2 2), (sl 16 0 2 2), (.tuple #[(sl 17 0 3 3), I 0]), (sl 17 0 3 3), I 0, (.tuple #[(sl 19 0 2 2), I 4, I 0]), (sl 18 0 2 2), (.agg #[I 1, I 0, I 0, I 0, (I (-1)), I 0, I 0, I 0]), (.tuple #[(sl 19 0 2 2), I 4, I 0]), (sl 19 0 2 2), I 4, I 0, (.tuple #[(.agg #[I 6, I 0, I 0, I 2, (I (-2)), I 0, I 0, I 2]), I 0]), (pt 9 0), (g2 1 1), (pt 9 4), (g2 2 0), (pt 9 8), (g2 1 (-1)), (pt 9 12), (g2 2 0), (.agg #[I 1, I 1, I 2, I 0, I 1, (I (-1)), I 2, I 0]), (.tuple #[(.agg #[I 6, I 0, I 0, I 2, (I (-2)), I 0, I 0, I 2]), I 0]), (.agg #[I 6, I 0, I 0, I 2, (I (-2)), I 0, I 0, I 2]), I 0, I 0, I 0, I 0, I 0, I 0, I 0, I 0, I 0, I 0, I 0, I 0, I 0, I 0, (.bool false), (.bool false), (.agg #[I 1, I 1, I 1, I 1, I 2, I 0, I 1, (I (-1)), I 1, (I (-1)), I 1, (I (-1)), I 2, I 0, I 1, I 1]), (g2 1 1), (g2 1 1), (g2 2 0), (g2 1 (-1)), (g2 1 (-1)), (g2 1 (-1)), (g2 2 0), (g2 1 1), (.agg #[I 1, I 1, I 1, I 1, I 2, I 0, I 1, (I (-1)), I 1, (I (-1)), I 1, (I (-1)), I 2, I 0, I 1, I 1]), (.bool false), (.bool false), (.bool false), I 4, (.bool false), (.bool false), (.bool false), (g2 8 5), (g2 8 5), (.bool false), (.bool false), (.bool false), (sl 14 0 2 2), (sl 21 0 2 2), (.agg #[I 0, I 0, I 1, I 0]), (.agg #[I 1, I 0, I 1, I 3]), (sl 22 0 2 2), (.bool true), (.bool false), (.bool false), (.bool false), (sl 17 0 3 3), (sl 23 0 3 3), (.bool true), (.bool false), (.bool false), (.bool false), (sl 19 0 2 2), (sl 24 0 2 2), (sl 14 0 2 2), (sl 25 0 2 2), (.bool true), (.bool false), (.bool false), (.bool false), I 4, (.bool false), (.bool false), (.bool false), (.agg #[I 6, I 0, I 0, I 2, (I (-2)), I 0, I 0, I 2]), (g2 6 0), (g2 0 2), (g2 (-2) 0), (g2 0 2), (.agg #[I 6, I 0, I 0, I 2, (I (-2)), I 0, I 0, I 2]), (.bool false), (.bool false), (.tuple #[(sl 28 0 4 4), I 0]), (sl 26 0 2 2), (sl 27 0 2 2), (.tuple #[(sl 28 0 4 4), I 0]), (sl 28 0 4 4), I 0, (.tuple #[(sl 29 0 3 3), I 0]), (.tuple #[(sl 29 0 3 3), I 0]), (sl 29 0 3 3), I 0, (.tuple #[(sl 32 0 3 3), I 0]), (sl 30 0 0 0), (sl 28 0 4 4), (sl 31 0 4 4), (.tuple #[(sl 32 0 3 3), I 0]), (sl 32 0 3 3), I 0, (.tuple #[(sl 35 0 3 3), I 0]), (sl 33 0 0 0), (sl 29 0 3 3), (sl 34 0 3 3), (.tuple #[(sl 35 0 3 3), I 0]), (sl 35 0 3 3), I 0, (.tuple #[(g2 0 2), I 0]), (sl 36 0 0 0), (sl 29 0 3 3), (sl 37 0 3 3), (.tuple #[(g2 0 2), I 0]), (g2 0 2), I 0] ++ us 132)
noncomputable def X14 : Heap := (H [rowAwS_11, rowAwS_0, rowAwS_11, rowAwS_11, (rvar [I 8, I 5] 63), rowAwS_11, rowAwS_12, (.some (.cells [] 32 .emp)), rowAwS_12, rowAwS_14, rowAwS_11, rowAwS_12, rowAwS_9, rowAwS_13, rowAwS_13, rowAwS_14, rowAwS_13, rowAwS_13, rowAwS_11, rowAwS_11, rowAwS_2, rowAwS_7, (.some (.cells [] 32 .emp)), rowAwS_2, rowAwS_5, (.some (.cells [] 32 .emp)), rowAwS_7, rowAwS_5, (.some (.cells [] 32 .emp)), rowAwS_7, (rvar [I 0, I 2] 34)])
noncomputable def L15 : List Value := ([(.bool false), (pt 9 0), I 0, I 4, I 0, (pt 12 0), I 0, (sl 14 0 2 2), I 0, (sl 17 0 3 3), I 0, (sl 19 0 2 2), I 4, I 0, (pt 20 0), I 0, (sl 28 0 4 4), I 0, (sl 29 0 3 3), I 0, (sl 32 0 3 3), I 0, (sl 35 0 3 3), I 0, (pt 38 0), I 0, (sl 40 0 4 4), I 0, U, U, U, U, U, U, U, U, U, U, U, U, (.tuple #[(.agg #[I 1, I 1, I 1, I 1, I 2, I 0, I 1, (I (-1)), I 1, (I (-1)), I 1, (I (-1)), I 2, I 0, I 1, I 1]), I 0]), (sl 8 0 2 2), (.tuple #[(.agg #[I 1, I 1, I 1, I 1, I 2, I 0, I 1, (I (-1)), I 1, (I (-1)), I 1, (I (-1)), I 2, I 0, I 1, I 1]), I 0]), (.agg #[I 1, I 1, I 1, I 1, I 2, I 0, I 1, (I (-1)), I 1, (I (-1)), I 1, (I (-1)), I 2, I 0, I 1, I 1]), I 0, (.tuple #[I 4, I 0]), (sl 10 0 2 2), (.tuple #[I 4, I 0]), I 4, I 0, (.tuple #[(g2 8 5), I 0]), (sl 11 0 2 2), (.tuple #[(g2 8 5), I 0]), (g2 8 5), I 0, (.tuple #[(sl 14 0 2 2), I 0]), (sl 13 0 2 2), (.tuple #[(sl 14 0 2 2), I 0]), (sl 14 0 2 2), I 0, (.tuple #[(sl 17 0 3 3), I 0]), (sl 15 0 0 0), (sl 14 0 2 2), (sl 16 0 2 2), (.tuple #[(sl 17 0 3 3), I 0]), (sl 17 0 3 3), I 0, (.tuple #[(sl 19 0 2 2), I 4, I 0]), (sl 18 0 2 2), (.agg #[I 1, I 0, I 0, I 0, (I (-1)), I 0, I 0, I 0]), (.tuple #[(sl 19 0 2 2), I 4, I 0]), (sl 19 0 2 2), I 4, I 0, (.tuple #[(.agg #[I 6, I 0, I 0, I 2, (I (-2)), I 0, I 0, I 2]), I 0]), (pt 9 0), (g2 1 1), (pt 9 4), (g2 2 0), (pt 9 8), (g2 1 (-1)), (pt 9 12), (g2 2 0), (.agg #[I 1, I 1, I 2, I 0, I 1, (I (-1)), I 2, I 0]), (.tuple #[(.agg #[I 6, I 0, I 0, I 2, (I (-2)), I 0, I 0, I 2]), I 0]), (.agg #[I 6, I 0, I 0, I 2, (I (-2)), I 0, I 0, I 2]), I 0, I 0, I 0, I 0, I 0, I 0, I 0, I 0, I 0, I 0, I 0, I 0, I 0, I 0, (.bool false), (.bool false), (.agg #[I 1, I 1, I 1, I 1, I 2, I 0, I 1, (I (-1)), I 1, (I (-1)), I 1, (I (-1)), I 2, I 0, I 1, I 1]), (g2 1 1), (g2 1 1), (g2 2 0), (g2 1 (-1)), (g2 1 (-1)), (g2 1 (-1)), (g2 2 0), (g2 1 1), (.agg #[I 1, I 1, I 1, I 1, I 2, I 0, I 1, (I (-1)), I 1, (I (-1)), I 1, (I (-1)), I 2, I 0, I 1, I 1]), (.bool false), (.bool false), (.bool false), I 4, (.bool false), (.bool false), (.bool false), (g2 8 5), (g2 8 5), (.bool false), (.bool false), (.bool false), (sl 14 0 2 2), (sl 21 0 2 2), (.agg #[I 0, I 0, I 1, I 0]), (.agg #[I 1, I 0, I 1, I 3]), (sl 22 0 2 2), (.bool true), (.bool false), (.bool false), (.bool false), (sl 17 0 3 3), (sl 23 0 3 3), (.bool true), (.bool false), (.bool false), (.bool false), (sl 19 0 2 2), (sl 24 0 2 2), (sl 14 0 2 2), (sl 25 0 2 2), (.bool true), (.bool false), (.bool false), (.bool false), I 4, (.bool false), (.bool false), (.bool false), (.agg #[I 6, I 0, I 0, I 2, (I (-2)), I 0, I 0, I 2]), (g2 6 0), (g2 0 2), (g2 (-2) 0), (g2 0 2), (.agg #[I 6, I 0, I 0, I 2, (I (-2)), I 0, I 0, I 2]), (.bool false), (.bool false), (.tuple #[(sl 28 0 4 4), I 0]), (sl 26 0 2 2), (sl 27 0 2 2), (.tuple #[(sl 28 0 4 4), I 0]), (sl 28 0 4 4), I 0, (.tuple #[(sl 29 0 3 3), I 0]), (.tuple #[(sl 29 0 3 3), I 0]), (sl 29 0 3 3), I 0, (.tuple #[(sl 32 0 3 3), I 0]), (sl 30 0 0 0), (sl 28 0 4 4), (sl 31 0 4 4), (.tuple #[(sl 32 0 3 3), I 0]), (sl 32 0 3 3), I 0, (.tuple #[(sl 35 0 3 3), I 0]), (sl 33 0 0 0), (sl 29 0 3 3), (sl 34 0 3 3), (.tuple #[(sl 35 0 3 3), I 0]), (sl 35 0 3 3), I 0, (.tuple #[(g2 0 2), I 0]), (sl 36 0 0 0), (sl 29 0 3 3), (sl 37 0 3 3), (.tuple #[(g2 0 2), I 0]), (g2 0 2), I 0, (.tuple #[(sl 40 0 4 4), I 0]), (sl 39 0 2 2), (.tuple #[(sl 40 0 4 4), I 0]), (sl 40 0 4 4), I 0] ++ us 127)
noncomputable def X15 : Heap := (H [rowAwS_11, rowAwS_0, rowAwS_11, rowAwS_11, (rvar [I 8, I 5] 63), rowAwS_11, rowAwS_12, (.some (.cells [] 32 .emp)), rowAwS_12, rowAwS_14, rowAwS_11, rowAwS_12, rowAwS_9, rowAwS_13, rowAwS_13, rowAwS_14, rowAwS_13, rowAwS_13, rowAwS_11, rowAwS_11, rowAwS_2, rowAwS_7, (.some (.cells [] 32 .emp)), rowAwS_2, rowAwS_5, (.some (.cells [] 32 .emp)), rowAwS_7, rowAwS_5, (.some (.cells [] 32 .emp)), rowAwS_7, (rvar [I 0, I 2] 34), rowAwS_11, rowAwS_3])
noncomputable def L16 : List Value := ([(.bool false), (pt 9 0), I 0, I 4, I 0, (pt 12 0), I 0, (sl 14 0 2 2), I 0, (sl 17 0 3 3), I 0, (sl 19 0 2 2), I 4, I 0, (pt 20 0), I 0, (sl 28 0 4 4), I 0, (sl 29 0 3 3), I 0, (sl 32 0 3 3), I 0, (sl 35 0 3 3), I 0, (pt 38 0), I 0, (sl 40 0 4 4), I 0, (sl 42 0 4 4), I 0, U, U, U, U, U, U, U, U, U, U, (.tuple #[(.agg #[I 1, I 1, I 1, I 1, I 2, I 0, I 1, (I (-1)), I 1, (I (-1)), I 1, (I (-1)), I 2, I 0, I 1, I 1]), I 0]), (sl 8 0 2 2), (.tuple #[(.agg #[I 1, I 1, I 1, I 1, I 2, I 0, I 1, (I (-1)), I 1, (I (-1)), I 1, (I (-1)), I 2, I 0, I 1, I 1]), I 0]), (.agg #[I 1, I 1, I 1, I 1, I 2, I 0, I 1, (I (-1)), I 1, (I (-1)), I 1, (I (-1)), I 2, I 0, I 1, I 1]), I 0, (.tuple #[I 4, I 0]), (sl 10 0 2 2), (.tuple #[I 4, I 0]), I 4, I 0, (.tuple #[(g2 8 5), I 0]), (sl 11 0 2 2), (.tuple #[(g2 8 5), I 0]), (g2 8 5), I 0, (.tuple #[(sl 14 0 2 2), I 0]), (sl 13 0 2 2), (.tuple #[(sl 14 0 2 2), I 0]), (sl 14 0 2 2), I 0, (.tuple #[(sl 17 0 3 3), I 0]), (sl 15 0 0 0), (sl 14 0 2 2), (sl 16 0 2 2), (.tuple #[(sl 17 0 3 3), I 0]), (sl 17 0 3 3), I 0, (.tuple #[(sl 19 0 2 2), I 4, I 0]), (sl 18 0 2 2), (.agg #[I 1, I 0, I 0, I 0, (I (-1)), I 0, I 0, I 0]), (.tuple #[(sl 19 0 2 2), I 4, I 0]), (sl 19 0 2 2), I 4, I 0, (.tuple #[(.agg #[I 6, I 0, I 0, I 2, (I (-2)), I 0, I 0, I 2]), I 0]), (pt 9 0), (g2 1 1), (pt 9 4), (g2 2 0), (pt 9 8), (g2 1 (-1)), (pt 9 12), (g2 2 0), (.agg #[I 1, I 1, I 2, I 0, I 1, (I (-1)), I 2, I 0]), (.tuple #[(.agg #[I 6, I 0, I 0, I 2, (I (-2)), I 0, I 0, I 2]), I 0]), (.agg #[I 6, I 0, I 0, I 2, (I (-2)), I 0, I 0, I 2]), I 0, I 0, I 0, I 0, I 0, I 0, I 0, I 0, I 0, I 0, I 0, I 0, I 0, I 0, (.bool false), (.bool false), (.agg #[I 1, I 1, I 1, I 1, I 2, I 0, I 1, (I (-1)), I 1, (I (-1)), I 1, (I (-1)), I 2, I 0, I 1, I 1]), (g2 1 1), (g2 1 1), (g2 2 0), (g2 1 (-1)), (g2 1 (-1)), (g2 1 (-1)), (g2 2 0), (g2 1 1), (.agg #[I 1, I 1, I 1, I 1, I 2, I 0, I 1, (I (-1)), I 1, (I (-1)), I 1, (I (-1)), I 2, I 0, I 1, I 1]), (.bool false), (.bool false), (.bool false), I 4, (.bool false), (.bool false), (.bool false), (g2 8 5), (g2 8 5), (.bool false), (.bool false), (.bool false), (sl 14 0 2 2), (sl 21 0 2 2), (.agg #[I 0, I 0, I 1, I 0]), (.agg #[I 1, I 0, I 1, I 3]), (sl 22 0 2 2), (.bool true), (.bool false), (.bool false), (.bool false), (sl 17 0 3 3), (sl 23 0 3 3), (.bool true), (.bool false), (.bool false), (.bool false), (sl 19 0 2 2), (sl 24 0 2 2), (sl 14 0 2 2), (sl 25 0 2 2), (.bool true), (.bool false), (.bool false), (.bool false), I 4, (.bool false), (.bool false), (.bool false), (.agg #[I 6, I 0, I 0, I 2, (I (-2)), I 0, I 0, I 2]), (g2 6 0), (g2 0 2), (g2 (-2) 0), (g2 0 2), (.agg #[I 6, I 0, I 0, I 2, (I (-2)), I 0, I 0, I 2]), (.bool false), (.bool false), (.tuple #[(sl 28 0 4 4), I 0]), (sl 26 0 2 2), (sl 27 0 2 2), (.tuple #[(sl 28 0 4 4), I 0]), (sl 28 0 4 4), I 0, (.tuple #[(sl 29 0 3 3), I 0]), (.tuple #[(sl 29 0 3 3), I 0]), (sl 29 0 3 3), I 0, (.tuple #[(sl 32 0 3 3), I 0]), (sl 30 0 0 0), (sl 28 0 4 4), (sl 31 0 4 4), (.tuple #[(sl 32 0 3 3), I 0]), (sl 32 0 3 3), I 0, (.tuple #[(sl 35 0 3 3), I 0]), (sl 33 0 0 0), (sl 29 0 3 3), (sl 34 0 3 3), (.tuple #[(sl 35 0 3 3), I 0]), (sl 35 0 3 3), I 0, (.tuple #[(g2 0 2), I 0]), (sl 36 0 0 0), (sl 29 0 3 3), (sl 37 0 3 3), (.tuple #[(g2 0 2), I 0]), (g2 0 2), I 0, (.tuple #[(sl 40 0 4 4), I 0]), (sl 39 0 2 2), (.tuple #[(sl 40 0 4 4), I 0]), (sl 40 0 4 4), I 0, (.tuple #[(sl 42 0 4 4), I 0]), (sl 41 0 2 2), (.tuple #[(sl 42 0 4 4), I 0]), (sl 42 0 4 4), I 0] ++ us 122)
noncomputable def X16 : Heap := (H [rowAwS_11, rowAwS_0, rowAwS_11, rowAwS_11, (rvar [I 8, I 5] 63), rowAwS_11, rowAwS_12, (.some (.cells [] 32 .emp)), rowAwS_12, rowAwS_14, rowAwS_11, rowAwS_12, rowAwS_9, rowAwS_13, rowAwS_13, rowAwS_14, rowAwS_13, rowAwS_13, rowAwS_11, rowAwS_11, rowAwS_2, rowAwS_7, (.some (.cells [] 32 .emp)), rowAwS_2, rowAwS_5, (.some (.cells [] 32 .emp)), rowAwS_7, rowAwS_5, (.some (.cells [] 32 .emp)), rowAwS_7, (rvar [I 0, I 2] 34), rowAwS_11, rowAwS_3, rowAwS_11, rowAwS_1])
noncomputable def L17 : List Value := ([(.bool false), (pt 9 0), I 0, I 4, I 0, (pt 12 0), I 0, (sl 14 0 2 2), I 0, (sl 17 0 3 3), I 0, (sl 19 0 2 2), I 4, I 0, (pt 20 0), I 0, (sl 28 0 4 4), I 0, (sl 29 0 3 3), I 0, (sl 32 0 3 3), I 0, (sl 35 0 3 3), I 0, (pt 38 0), I 0, (sl 40 0 4 4), I 0, (sl 42 0 4 4), I 0, (pt 45 0), I 0, U, U, U, U, U, U, U, U, (.tuple #[(.agg #[I 1, I 1, I 1, I 1, I 2, I 0, I 1, (I (-1)), I 1, (I (-1)), I 1, (I (-1)), I 2, I 0, I 1, I 1]), I 0]), (sl 8 0 2 2), (.tuple #[(.agg #[I 1, I 1, I 1, I 1, I 2, I 0, I 1, (I (-1)), I 1, (I (-1)), I 1, (I (-1)), I 2, I 0, I 1, I 1]), I 0]), (.agg #[I 1, I 1, I 1, I 1, I 2, I 0, I 1, (I (-1)), I 1, (I (-1)), I 1, (I (-1)), I 2, I 0, I 1, I 1]), I 0, (.tuple #[I 4, I 0]), (sl 10 0 2 2), (.tuple #[I 4, I 0]), I 4, I 0, (.tuple #[(g2 8 5), I 0]), (sl 11 0 2 2), (.tuple #[(g2 8 5), I 0]), (g2 8 5), I 0, (.tuple #[(sl 14 0 2 2), I 0]), (sl 13 0 2 2), (.tuple #[(sl 14 0 2 2), I 0]), (sl 14 0 2 2), I 0, (.tuple #[(sl 17 0 3 3), I 0]), (sl 15 0 0 0), (sl 14 0 2 2), (sl 16 0 2 2), (.tuple #[(sl 17 0 3 3), I 0]), (sl 17 0 3 3), I 0, (.tuple #[(sl 19 0 2 2), I 4, I 0]), (sl 18 0 2 2), (.agg #[I 1, I 0, I 0, I 0, (I (-1)), I 0, I 0, I 0]), (.tuple #[(sl 19 0 2 2), I 4, I 0]), (sl 19 0 2 2), I 4, I 0, (.tuple #[(.agg #[I 6, I 0, I 0, I 2, (I (-2)), I 0, I 0, I 2]), I 0]), (pt 9 0), (g2 1 1), (pt 9 4), (g2 2 0), (pt 9 8), (g2 1 (-1)), (pt 9 12), (g2 2 0), (.agg #[I 1, I 1, I 2, I 0, I 1, (I (-1)), I 2, I 0]), (.tuple #[(.agg #[I 6, I 0, I 0, I 2, (I (-2)), I 0, I 0, I 2]), I 0]), (.agg #[I 6, I 0, I 0, I 2, (I (-2)), I 0, I 0, I 2]), I 0, I 0, I 0, I 0, I 0, I 0, I 0, I 0, I 0, I 0, I 0, I 0, I 0, I 0, (.bool false), (.bool false), (.agg #[I 1, I 1, I 1, I 1, I 2, I 0, I 1, (I (-1)), I 1, (I (-1)), I 1, (I (-1)), I 2, I 0, I 1, I 1]), (g2 1 1), (g2 1 1), (g2 2 0), (g2 1 (-1)), (g2 1 (-1)), (g2 1 (-1)), (g2 2 0), (g2 1 1), (.agg #[I 1, I 1, I 1, I 1, I 2, I 0, I 1, (I (-1)), I 1, (I (-1)), I 1, (I (-1)), I 2, I 0, I 1, I 1]), (.bool false), (.bool false), (.bool false), I 4, (.bool false), (.bool false), (.bool false), (g2 8 5), (g2 8 5), (.bool false), (.bool false), (.bool false), (sl 14 0 2 2), (sl 21 0 2 2), (.agg #[I 0, I 0, I 1, I 0]), (.agg #[I 1, I 0, I 1, I 3]), (sl 22 0 2 2), (.bool true), (.bool false), (.bool false), (.bool false), (sl 17 0 3 3), (sl 23 0 3 3), (.bool true), (.bool false), (.bool false), (.bool false), (sl 19 0 2 2), (sl 24 0 2 2), (sl 14 0 2 2), (sl 25 0 2 2), (.bool true), (.bool false), (.bool false), (.bool false), I 4, (.bool false), (.bool false), (.bool false), (.agg #[I 6, I 0, I 0, I 2, (I (-2)), I 0, I 0, I 2]), (g2 6 0), (g2 0 2), (g2 (-2) 0), (g2 0 2), (.agg #[I 6, I 0, I 0, I 2, (I (-2)), I 0, I 0, I 2]), (.bool false), (.bool false), (.tuple #[(sl 28 0 4 4), I 0]), (sl 26 0 2 2), (sl 27 0 2 2), (.tuple #[(sl 28 0 4 4), I 0]), (sl 28 0 4 4), I 0, (.tuple #[(sl 29 0 3 3), I 0]), (.tuple #[(sl 29 0 3 3), I 0]), (sl 29 0 3 3), I 0, (.tuple #[(sl 32 0 3 3), I 0]), (sl 30 0 0 0), (sl 28 0 4 4), (sl 31 0 4 4), (.tuple #[(sl 32 0 3 3), I 0]), (sl 32 0 3 3), I 0, (.tuple #[(sl 35 0 3 3), I 0]), (sl 33 0 0 0), (sl 29 0 3 3), (sl 34 0 3 3), (.tuple #[(sl 35 0 3 3), I 0]), (sl 35 0 3 3), I 0, (.tuple #[(g2 0 2), I 0]), (sl 36 0 0 0), (sl 29 0 3 3), (sl 37 0 3 3), (.tuple #[(g2 0 2), I 0]), (g2 0 2), I 0, (.tuple #[(sl 40 0 4 4), I 0]), (sl 39 0 2 2), (.tuple #[(sl 40 0 4 4), I 0]), (sl 40 0 4 4), I 0, (.tuple #[(sl 42 0 4 4), I 0]), (sl 41 0 2 2), (.tuple #[(sl 42 0 4 4), I 0]), (sl 42 0 4 4), I 0, (.tuple #[(g2 4 0), I 0]), (sl 43 0 0 0), (sl 40 0 4 4), (sl 44 0 4 4), (.tuple #[(g2 4 0), I 0]), (g2 4 0), I 0] ++ us 115)
noncomputable def X17 : Heap := (H [rowAwS_11, rowAwS_0, rowAwS_11, rowAwS_11, (rvar [I 8, I 5] 63), rowAwS_11, rowAwS_12, (.some (.cells [] 32 .emp)), rowAwS_12, rowAwS_14, rowAwS_11, rowAwS_12, rowAwS_9, rowAwS_13, rowAwS_13, rowAwS_14, rowAwS_13, rowAwS_13, rowAwS_11, rowAwS_11, rowAwS_2, rowAwS_7, (.some (.cells [] 32 .emp)), rowAwS_2, rowAwS_5, (.some (.cells [] 32 .emp)), rowAwS_7, rowAwS_5, (.some (.cells [] 32 .emp)), rowAwS_7, (rvar [I 0, I 2] 34), rowAwS_11, rowAwS_3, rowAwS_11, rowAwS_1, (.some (.cells [] 32 .emp)), rowAwS_3, (rvar [I 4, I 0] 34)])
noncomputable def L18 : List Value := ([(.bool false), (pt 9 0), I 0, I 4, I 0, (pt 12 0), I 0, (sl 14 0 2 2), I 0, (sl 17 0 3 3), I 0, (sl 19 0 2 2), I 4, I 0, (pt 20 0), I 0, (sl 28 0 4 4), I 0, (sl 29 0 3 3), I 0, (sl 32 0 3 3), I 0, (sl 35 0 3 3), I 0, (pt 38 0), I 0, (sl 40 0 4 4), I 0, (sl 42 0 4 4), I 0, (pt 45 0), I 0, (pt 48 0), I 0, U, U, U, U, U, U, (.tuple #[(.agg #[I 1, I 1, I 1, I 1, I 2, I 0, I 1, (I (-1)), I 1, (I (-1)), I 1, (I (-1)), I 2, I 0, I 1, I 1]), I 0]), (sl 8 0 2 2), (.tuple #[(.agg #[I 1, I 1, I 1, I 1, I 2, I 0, I 1, (I (-1)), I 1, (I (-1)), I 1, (I (-1)), I 2, I 0, I 1, I 1]), I 0]), (.agg #[I 1, I 1, I 1, I 1, I 2, I 0, I 1, (I (-1)), I 1, (I (-1)), I 1, (I (-1)), I 2, I 0, I 1, I 1]), I 0, (.tuple #[I 4, I 0]), (sl 10 0 2 2), (.tuple #[I 4, I 0]), I 4, I 0, (.tuple #[(g2 8 5), I 0]), (sl 11 0 2 2), (.tuple #[(g2 8 5), I 0]), (g2 8 5), I 0, (.tuple #[(sl 14 0 2 2), I 0]), (sl 13 0 2 2), (.tuple #[(sl 14 0 2 2), I 0]), (sl 14 0 2 2), I 0, (.tuple #[(sl 17 0 3 3), I 0]), (sl 15 0 0 0), (sl 14 0 2 2), (sl 16 0 2 2), (.tuple #[(sl 17 0 3 3), I 0]), (sl 17 0 3 3), I 0, (.tuple #[(sl 19 0 2 2), I 4, I 0]), (sl 18 0 2 2), (.agg #[I 1, I 0, I 0, I 0, (I (-1)), I 0, I 0, I 0]), (.tuple #[(sl 19 0 2 2), I 4, I 0]), (sl 19 0 2 2), I 4, I 0, (.tuple #[(.agg #[I 6, I 0, I 0, I 2, (I (-2)), I 0, I 0, I 2]), I 0]), (pt 9 0), (g2 1 1), (pt 9 4), (g2 2 0), (pt 9 8), (g2 1 (-1)), (pt 9 12), (g2 2 0), (.agg #[I 1, I 1, I 2, I 0, I 1, (I (-1)), I 2, I 0]), (.tuple #[(.agg #[I 6, I 0, I 0, I 2, (I (-2)), I 0, I 0, I 2]), I 0]), (.agg #[I 6, I 0, I 0, I 2, (I (-2)), I 0, I 0, I 2]), I 0, I 0, I 0, I 0, I 0, I 0, I 0, I 0, I 0, I 0, I 0, I 0, I 0, I 0, (.bool false), (.bool false), (.agg #[I 1, I 1, I 1, I 1, I 2, I 0, I 1, (I (-1)), I 1, (I (-1)), I 1, (I (-1)), I 2, I 0, I 1, I 1]), (g2 1 1), (g2 1 1), (g2 2 0), (g2 1 (-1)), (g2 1 (-1)), (g2 1 (-1)), (g2 2 0), (g2 1 1), (.agg #[I 1, I 1, I 1, I 1, I 2, I 0, I 1, (I (-1)), I 1, (I (-1)), I 1, (I (-1)), I 2, I 0, I 1, I 1]), (.bool false), (.bool false), (.bool false), I 4, (.bool false), (.bool false), (.bool false), (g2 8 5), (g2 8 5), (.bool false), (.bool false), (.bool false), (sl 14 0 2 2), (sl 21 0 2 2), (.agg #[I 0, I 0, I 1, I 0]), (.agg #[I 1, I 0, I 1, I 3]), (sl 22 0 2 2), (.bool true), (.bool false), (.bool false), (.bool false), (sl 17 0 3 3), (sl 23 0 3 3), (.bool true), (.bool false), (.bool false), (.bool false), (sl 19 0 2 2), (sl 24 0 2 2), (sl 14 0 2 2), (sl 25 0 2 2), (.bool true), (.bool false), (.bool false), (.bool false), I 4, (.bool false), (.bool false), (.bool false), (.agg #[I 6, I 0, I 0, I 2, (I (-2)), I 0, I 0, I 2]), (g2 6 0), (g2 0 2), (g2 (-2) 0), (g2 0 2), (.agg #[I 6, I 0, I 0, I 2, (I (-2)), I 0, I 0, I 2]), (.bool false), (.bool false), (.tuple #[(sl 28 0 4 4), I 0]), (sl 26 0 2 2), (sl 27 0 2 2), (.tuple #[(sl 28 0 4 4), I 0]), (sl 28 0 4 4), I 0, (.tuple #[(sl 29 0 3 3), I 0]), (.tuple #[(sl 29 0 3 3), I 0]), (sl 29 0 3 3), I 0, (.tuple #[(sl 32 0 3 3), I 0]), (sl 30 0 0 0), (sl 28 0 4 4), (sl 31 0 4 4), (.tuple #[(sl 32 0 3 3), I 0]), (sl 32 0 3 3), I 0, (.tuple #[(sl 35 0 3 3), I 0]), (sl 33 0 0 0), (sl 29 0 3 3), (sl 34 0 3 3), (.tuple #[(sl 35 0 3 3), I 0]), (sl 35 0 3 3), I 0, (.tuple #[(g2 0 2), I 0]), (sl 36 0 0 0), (sl 29 0 3 3), (sl 37 0 3 3), (.tuple #[(g2 0 2), I 0]), (g2 0 2), I 0, (.tuple #[(sl 40 0 4 4), I 0]), (sl 39 0 2 2), (.tuple #[(sl 40 0 4 4), I 0]), (sl 40 0 4 4), I 0, (.tuple #[(sl 42 0 4 4), I 0]), (sl 41 0 2 2), (.tuple #[(sl 42 0 4 4), I 0]), (sl 42 0 4 4), I 0, (.tuple #[(g2 4 0), I 0]), (sl 43 0 0 0), (sl 40 0 4 4), (sl 44 0 4 4), (.tuple #[(g2 4 0), I 0]), (g2 4 0), I 0, (.tuple #[(g2 0 0), I 0]), (sl 46 0 0 0), (sl 42 0 4 4), (sl 47 0 4 4), (.tuple #[(g2 0 0), I 0]), (g2 0 0), I 0] ++ us 108)
noncomputable def X18 : Heap := (H [rowAwS_11, rowAwS_0, rowAwS_11, rowAwS_11, (rvar [I 8, I 5] 63), rowAwS_11, rowAwS_12, (.some (.cells [] 32 .emp)), rowAwS_12, rowAwS_14, rowAwS_11, rowAwS_12, rowAwS_9, rowAwS_13, rowAwS_13, rowAwS_14, rowAwS_13, rowAwS_13, rowAwS_11, rowAwS_11, rowAwS_2, rowAwS_7, (.some (.cells [] 32 .emp)), rowAwS_2, rowAwS_5, (.some (.cells [] 32 .emp)), rowAwS_7, rowAwS_5, (.some (.cells [] 32 .emp)), rowAwS_7, (rvar [I 0, I 2] 34), rowAwS_11, rowAwS_3, rowAwS_11, rowAwS_1, (.some (.cells [] 32 .emp)), rowAwS_3, (rvar [I 4, I 0] 34), (.some (.cells [] 32 .emp)), rowAwS_1, (rvar [I 0, I 0] 34)])
noncomputable def L19 : List Value := ([(.bool false), (pt 9 0), I 0, I 4, I 0, (pt 12 0), I 0, (sl 14 0 2 2), I 0, (sl 17 0 3 3), I 0, (sl 19 0 2 2), I 4, I 0, (pt 20 0), I 0, (sl 28 0 4 4), I 0, (sl 29 0 3 3), I 0, (sl 32 0 3 3), I 0, (sl 35 0 3 3), I 0, (pt 38 0), I 0, (sl 40 0 4 4), I 0, (sl 42 0 4 4), I 0, (pt 45 0), I 0, (pt 48 0), I 0, (sl 50 0 1 1), I 0, U, U, U, U, (.tuple #[(.agg #[I 1, I 1, I 1, I 1, I 2, I 0, I 1, (I (-1)), I 1, (I (-1)), I 1, (I (-1)), I 2, I 0, I 1, I 1]), I 0]), (sl 8 0 2 2), (.tuple #[(.agg #[I 1, I 1, I 1, I 1, I 2, I 0, I 1, (I (-1)), I 1, (I (-1)), I 1, (I (-1)), I 2, I 0, I 1, I 1]), I 0]), (.agg #[I 1, I 1, I 1, I 1, I 2, I 0, I 1, (I (-1)), I 1, (I (-1)), I 1, (I (-1)), I 2, I 0, I 1, I 1]), I 0, (.tuple #[I 4, I 0]), (sl 10 0 2 2), (.tuple #[I 4, I 0]), I 4, I 0, (.tuple #[(g2 8 5), I 0]), (sl 11 0 2 2), (.tuple #[(g2 8 5), I 0]), (g2 8 5), I 0, (.tuple #[(sl 14 0 2 2), I 0]), (sl 13 0 2 2), (.tuple #[(sl 14 0 2 2), I 0]), (sl 14 0 2 2), I 0, (.tuple #[(sl 17 0 3 3), I 0]), (sl 15 0 0 0), (sl 14 0 2 2), (sl 16 0 2 2), (.tuple #[(sl 17 0 3 3), I 0]), (sl 17 0 3 3), I 0, (.tuple #[(sl 19 0 2 2), I 4, I 0]), (sl 18 0 2 2), (.agg #[I 1, I 0, I 0, I 0, (I (-1)), I 0, I 0, I 0]), (.tuple #[(sl 19 0 2 2), I 4, I 0]), (sl 19 0 2 2), I 4, I 0, (.tuple #[(.agg #[I 6, I 0, I 0, I 2, (I (-2)), I 0, I 0, I 2]), I 0]), (pt 9 0), (g2 1 1), (pt 9 4), (g2 2 0), (pt 9 8), (g2 1 (-1)), (pt 9 12), (g2 2 0), (.agg #[I 1, I 1, I 2, I 0, I 1, (I (-1)), I 2, I 0]), (.tuple #[(.agg #[I 6, I 0, I 0, I 2, (I (-2)), I 0, I 0, I 2]), I 0]), (.agg #[I 6, I 0, I 0, I 2, (I (-2)), I 0, I 0, I 2]), I 0, I 0, I 0, I 0, I 0, I 0, I 0, I 0, I 0, I 0, I 0, I 0, I 0, I 0, (.bool false), (.bool false), (.agg #[I 1, I 1, I 1, I 1, I 2, I 0, I 1, (I (-1)), I 1, (I (-1)), I 1, (I (-1)), I 2, I 0, I 1, I 1]), (g2 1 1), (g2 1 1), (g2 2 0), (g2 1 (-1)), (g2 1 (-1)), (g2 1 (-1)), (g2 2 0), (g2 1 1), (.agg #[I 1, I 1, I 1, I 1, I 2, I 0, I 1, (I (-1)), I 1, (I (-1)), I 1, (I (-1)), I 2, I 0, I 1, I 1]), (.bool false), (.bool false), (.bool false), I 4, (.bool false), (.bool false), (.bool false), (g2 8 5), (g2 8 5), (.bool false), (.bool false), (.bool false), (sl 14 0 2 2), (sl 21 0 2 2), (.agg #[I 0, I 0, I 1, I 0]), (.agg #[I 1, I 0, I 1, I 3]), (sl 22 0 2 2), (.bool true), (.bool false), (.bool false), (.bool false), (sl 17 0 3 3), (sl 23 0 3 3), (.bool true), (.bool false), (.bool false), (.bool false), (sl 19 0 2 2), (sl 24 0 2 2), (sl 14 0 2 2), (sl 25 0 2 2), (.bool true), (.bool false), (.bool false), (.bool false), I 4, (.bool false), (.bool false), (.bool false), (.agg #[I 6, I 0, I 0, I 2, (I (-2)), I 0, I 0, I 2]), (g2 6 0), (g2 0 2), (g2 (-2) 0), (g2 0 2), (.agg #[I 6, I 0, I 0, I 2, (I (-2)), I 0, I 0, I 2]), (.bool false), (.bool false), (.tuple #[(sl 28 0 4 4), I 0]), (sl 26 0 2 2), (sl 27 0 2 2), (.tuple #[(sl 28 0 4 4), I 0]), (sl 28 0 4 4), I 0, (.tuple #[(sl 29 0 3 3), I 0]), (.tuple #[(sl 29 0 3 3), I 0]), (sl 29 0 3 3), I 0, (.tuple #[(sl 32 0 3 3), I 0]), (sl 30 0 0 0), (sl 28 0 4 4), (sl 31 0 4 4), (.tuple #[(sl 32 0 3 3), I 0]), (sl 32 0 3 3), I 0, (.tuple #[(sl 35 0 3 3), I 0]), (sl 33 0 0 0), (sl 29 0 3 3), (sl 34 0 3 3), (.tuple #[(sl 35 0 3 3), I 0]), (sl 35 0 3 3), I 0, (.tuple #[(g2 0 2), I 0]), (sl 36 0 0 0), (sl 29 0 3 3), (sl 37 0 3 3), (.tuple #[(g2 0 2), I 0]), (g2 0 2), I 0, (.tuple #[(sl 40 0 4 4), I 0]), (sl 39 0 2 2), (.tuple #[(sl 40 0 4 4), I 0]), (sl 40 0 4 4), I 0, (.tuple #[(sl 42 0 4 4), I 0]), (sl 41 0 2 2), (.tuple #[(sl 42 0 4 4), I 0]), (sl 42 0 4 4), I 0, (.tuple #[(g2 4 0), I 0]), (sl 43 0 0 0), (sl 40 0 4 4), (sl 44 0 4 4), (.tuple #[(g2 4 0), I 0]), (g2 4 0), I 0, (.tuple #[(g2 0 0), I 0]), (sl 46 0 0 0), (sl 42 0 4 4), (sl 47 0 4 4), (.tuple #[(g2 0 0), I 0]), (g2 0 0), I 0, (.tuple #[(sl 50 0 1 1), I 0]), (sl 49 0 2 2), (.tuple #[(sl 50 0 1 1), I 0]), (sl 50 0 1 1), I 0] ++ us 103)
noncomputable def X19 : Heap := (H [rowAwS_11, rowAwS_0, rowAwS_11, rowAwS_11, (rvar [I 8, I 5] 63), rowAwS_11, rowAwS_12, (.some (.cells [] 32 .emp)), rowAwS_12, rowAwS_14, rowAwS_11, rowAwS_12, rowAwS_9, rowAwS_13, rowAwS_13, rowAwS_14, rowAwS_13, rowAwS_13, rowAwS_11, rowAwS_11, rowAwS_2, rowAwS_7, (.some (.cells [] 32 .emp)), rowAwS_2, rowAwS_5, (.some (.cells [] 32 .emp)), rowAwS_7, rowAwS_5, (.some (.cells [] 32 .emp)), rowAwS_7, (rvar [I 0, I 2] 34), rowAwS_11, rowAwS_3, rowAwS_11, rowAwS_1, (.some (.cells [] 32 .emp)), rowAwS_3, (rvar [I 4, I 0] 34), (.some (.cells [] 32 .emp)), rowAwS_1, (rvar [I 0, I 0] 34), rowAwS_11, (rrow [I 0] 3)])
noncomputable def L20 : List Value := ([(.bool false), (pt 9 0), I 0, I 4, I 0, (pt 12 0), I 0, (sl 14 0 2 2), I 0, (sl 17 0 3 3), I 0, (sl 19 0 2 2), I 4, I 0, (pt 20 0), I 0, (sl 28 0 4 4), I 0, (sl 29 0 3 3), I 0, (sl 32 0 3 3), I 0, (sl 35 0 3 3), I 0, (pt 38 0), I 0, (sl 40 0 4 4), I 0, (sl 42 0 4 4), I 0, (pt 45 0), I 0, (pt 48 0), I 0, (sl 50 0 1 1), I 0, (sl 52 0 2 2), I 0, U, U, (.tuple #[(.agg #[I 1, I 1, I 1, I 1, I 2, I 0, I 1, (I (-1)), I 1, (I (-1)), I 1, (I (-1)), I 2, I 0, I 1, I 1]), I 0]), (sl 8 0 2 2), (.tuple #[(.agg #[I 1, I 1, I 1, I 1, I 2, I 0, I 1, (I (-1)), I 1, (I (-1)), I 1, (I (-1)), I 2, I 0, I 1, I 1]), I 0]), (.agg #[I 1, I 1, I 1, I 1, I 2, I 0, I 1, (I (-1)), I 1, (I (-1)), I 1, (I (-1)), I 2, I 0, I 1, I 1]), I 0, (.tuple #[I 4, I 0]), (sl 10 0 2 2), (.tuple #[I 4, I 0]), I 4, I 0, (.tuple #[(g2 8 5), I 0]), (sl 11 0 2 2), (.tuple #[(g2 8 5), I 0]), (g2 8 5), I 0, (.tuple #[(sl 14 0 2 2), I 0]), (sl 13 0 2 2), (.tuple #[(sl 14 0 2 2), I 0]), (sl 14 0 2 2), I 0, (.tuple #[(sl 17 0 3 3), I 0]), (sl 15 0 0 0), (sl 14 0 2 2), (sl 16 0 2 2), (.tuple #[(sl 17 0 3 3), I 0]), (sl 17 0 3 3), I 0, (.tuple #[(sl 19 0 2 2), I 4, I 0]), (sl 18 0 2 2), (.agg #[I 1, I 0, I 0, I 0, (I (-1)), I 0, I 0, I 0]), (.tuple #[(sl 19 0 2 2), I 4, I 0]), (sl 19 0 2 2), I 4, I 0, (.tuple #[(.agg #[I 6, I 0, I 0, I 2, (I (-2)), I 0, I 0, I 2]), I 0]), (pt 9 0), (g2 1 1), (pt 9 4), (g2 2 0), (pt 9 8), (g2 1 (-1)), (pt 9 12), (g2 2 0), (.agg #[I 1, I 1, I 2, I 0, I 1, (I (-1)), I 2, I 0]), (.tuple #[(.agg #[I 6, I 0, I 0, I 2, (I (-2)), I 0, I 0, I 2]), I 0]), (.agg #[I 6, I 0, I 0, I 2, (I (-2)), I 0, I 0, I 2]), I 0, I 0, I 0, I 0, I 0, I 0, I 0, I 0, I 0, I 0, I 0, I 0, I 0, I 0, (.bool false), (.bool false), (.agg #[I 1, I 1, I 1, I 1, I 2, I 0, I 1, (I (-1)), I 1, (I (-1)), I 1, (I (-1)), I 2, I 0, I 1, I 1]), (g2 1 1), (g2 1 1), (g2 2 0), (g2 1 (-1)), (g2 1 (-1)), (g2 1 (-1)), (g2 2 0), (g2 1 1), (.agg #[I 1, I 1, I 1, I 1, I 2, I 0, I 1, (I (-1)), I 1, (I (-1)), I 1, (I (-1)), I 2, I 0, I 1, I 1]), (.bool false), (.bool false), (.bool false), I 4, (.bool false), (.bool false), (.bool false), (g2 8 5), (g2 8 5), (.bool false), (.bool false), (.bool false), (sl 14 0 2 2), (sl 21 0 2 2), (.agg #[I 0, I 0, I 1, I 0]), (.agg #[I 1, I 0, I 1, I 3]), (sl 22 0 2 2), (.bool true), (.bool false), (.bool false), (.bool false), (sl 17 0 3 3), (sl 23 0 3 3), (.bool true), (.bool false), (.bool false), (.bool false), (sl 19 0 2 2), (sl 24 0 2 2), (sl 14 0 2 2), (sl 25 0 2 2), (.bool true), (.bool false), (.bool false), (.bool false), I 4, (.bool false), (.bool false), (.bool false), (.agg #[I 6, I 0, I 0, I 2, (I (-2)), I 0, I 0, I 2]), (g2 6 0), (g2 0 2), (g2 (-2) 0), (g2 0 2), (.agg #[I 6, I 0, I 0, I 2, (I (-2)), I 0, I 0, I 2]), (.bool false), (.bool false), (.tuple #[(sl 28 0 4 4), I 0]), (sl 26 0 2 2), (sl 27 0 2 2), (.tuple #[(sl 28 0 4 4), I 0]), (sl 28 0 4 4), I 0, (.tuple #[(sl 29 0 3 3), I 0]), (.tuple #[(sl 29 0 3 3), I 0]), (sl 29 0 3 3), I 0, (.tuple #[(sl 32 0 3 3), I 0]), (sl 30 0 0 0), (sl 28 0 4 4), (sl 31 0 4 4), (.tuple #[(sl 32 0 3 3), I 0]), (sl 32 0 3 3), I 0, (.tuple #[(sl 35 0 3 3), I 0]), (sl 33 0 0 0), (sl 29 0 3 3), (sl 34 0 3 3), (.tuple #[(sl 35 0 3 3), I 0]), (sl 35 0 3 3), I 0, (.tuple #[(g2 0 2), I 0]), (sl 36 0 0 0), (sl 29 0 3 3), (sl 37 0 3 3), (.tuple #[(g2 0 2), I 0]), (g2 0 2), I 0, (.tuple #[(sl 40 0 4 4), I 0]), (sl 39 0 2 2), (.tuple #[(sl 40 0 4 4), I 0]), (sl 40 0 4 4), I 0, (.tuple #[(sl 42 0 4 4), I 0]), (sl 41 0 2 2), (.tuple #[(sl 42 0 4 4), I 0]), (sl 42 0 4 4), I 0, (.tuple #[(g2 4 0), I 0]), (sl 43 0 0 0), (sl 40 0 4 4), (sl 44 0 4 4), (.tuple #[(g2 4 0), I 0]), (g2 4 0), I 0, (.tuple #[(g2 0 0), I 0]), (sl 46 0 0 0), (sl 42 0 4 4), (sl 47 0 4 4), (.tuple #[(g2 0 0), I 0]), (g2 0 0), I 0, (.tuple #[(sl 50 0 1 1), I 0]), (sl 49 0 2 2), (.tuple #[(sl 50 0 1 1), I 0]), (sl 50 0 1 1), I 0, (.tuple #[(sl 52 0 2 2), I 0]), (.agg #[I 1, I 0, I 1, I 0]), (.agg #[(I (-1)), I 0, I 1, I 0]), (sl 51 0 2 2), (.tuple #[(sl 52 0 2 2), I 0]), (sl 52 0 2 2), I 0] ++ us 96)
noncomputable def X20 : Heap := (H [rowAwS_11, rowAwS_0, rowAwS_11, rowAwS_11, (rvar [I 8, I 5] 63), rowAwS_11, rowAwS_12, (.some (.cells [] 32 .emp)), rowAwS_12, rowAwS_14, rowAwS_11, rowAwS_12, rowAwS_9, rowAwS_13, rowAwS_13, rowAwS_14, rowAwS_13, rowAwS_13, rowAwS_11, rowAwS_11, rowAwS_2, rowAwS_7, (.some (.cells [] 32 .emp)), rowAwS_2, rowAwS_5, (.some (.cells [] 32 .emp)), rowAwS_7, rowAwS_5, (.some (.cells [] 32 .emp)), rowAwS_7, (rvar [I 0, I 2] 34), rowAwS_11, rowAwS_3, rowAwS_11, rowAwS_1, (.some (.cells [] 32 .emp)), rowAwS_3, (rvar [I 4, I 0] 34), (.some (.cells [] 32 .emp)), rowAwS_1, (rvar [I 0, I 0] 34), rowAwS_11, (rrow [I 0] 3), rowAwS_10, (rrow [I 0, I 2] 3)])
noncomputable def L21 : List Value := ([(.bool false), (pt 9 0), I 0, I 4, I 0, (pt 12 0), I 0, (sl 14 0 2 2), I 0, (sl 17 0 3 3), I 0, (sl 19 0 2 2), I 4, I 0, (pt 20 0), I 0, (sl 28 0 4 4), I 0, (sl 29 0 3 3), I 0, (sl 32 0 3 3), I 0, (sl 35 0 3 3), I 0, (pt 38 0), I 0, (sl 40 0 4 4), I 0, (sl 42 0 4 4), I 0, (pt 45 0), I 0, (pt 48 0), I 0, (sl 50 0 1 1), I 0, (sl 52 0 2 2), I 0, (.string (ByteArray.mk #[(UInt8.ofNat 115), (UInt8.ofNat 111), (UInt8.ofNat 117), (UInt8.ofNat 114), (UInt8.ofNat 99), (UInt8.ofNat 101), (UInt8.ofNat 32), (UInt8.ofNat 48), (UInt8.ofNat 32), (UInt8.ofNat 48), (UInt8.ofNat 32), (UInt8.ofNat 49), (UInt8.ofNat 32), (UInt8.ofNat 48), (UInt8.ofNat 10), (UInt8.ofNat 115), (UInt8.ofNat 111), (UInt8.ofNat 117), (UInt8.ofNat 114), (UInt8.ofNat 99), (UInt8.ofNat 101), (UInt8.ofNat 32), (UInt8.ofNat 49), (UInt8.ofNat 32), (UInt8.ofNat 48), (UInt8.ofNat 32), (UInt8.ofNat 49), (UInt8.ofNat 32), (UInt8.ofNat 48), (UInt8.ofNat 10)])), I 0, (.tuple #[(.agg #[I 1, I 1, I 1, I 1, I 2, I 0, I 1, (I (-1)), I 1, (I (-1)), I 1, (I (-1)), I 2, I 0, I 1, I 1]), I 0]), (sl 8 0 2 2), (.tuple #[(.agg #[I 1, I 1, I 1, I 1, I 2, I 0, I 1, (I (-1)), I 1, (I (-1)), I 1, (I (-1)), I 2, I 0, I 1, I 1]), I 0]), (.agg #[I 1, I 1, I 1, I 1, I 2, I 0, I 1, (I (-1)), I 1, (I (-1)), I 1, (I (-1)), I 2, I 0, I 1, I 1]), I 0, (.tuple #[I 4, I 0]), (sl 10 0 2 2), (.tuple #[I 4, I 0]), I 4, I 0, (.tuple #[(g2 8 5), I 0]), (sl 11 0 2 2), (.tuple #[(g2 8 5), I 0]), (g2 8 5), I 0, (.tuple #[(sl 14 0 2 2), I 0]), (sl 13 0 2 2), (.tuple #[(sl 14 0 2 2), I 0]), (sl 14 0 2 2), I 0, (.tuple #[(sl 17 0 3 3), I 0]), (sl 15 0 0 0), (sl 14 0 2 2), (sl 16 0 2 2), (.tuple #[(sl 17 0 3 3), I 0]), (sl 17 0 3 3), I 0, (.tuple #[(sl 19 0 2 2), I 4, I 0]), (sl 18 0 2 2), (.agg #[I 1, I 0, I 0, I 0, (I (-1)), I 0, I 0, I 0]), (.tuple #[(sl 19 0 2 2), I 4, I 0]), (sl 19 0 2 2), I 4, I 0, (.tuple #[(.agg #[I 6, I 0, I 0, I 2, (I (-2)), I 0, I 0, I 2]), I 0]), (pt 9 0), (g2 1 1), (pt 9 4), (g2 2 0), (pt 9 8), (g2 1 (-1)), (pt 9 12), (g2 2 0), (.agg #[I 1, I 1, I 2, I 0, I 1, (I (-1)), I 2, I 0]), (.tuple #[(.agg #[I 6, I 0, I 0, I 2, (I (-2)), I 0, I 0, I 2]), I 0]), (.agg #[I 6, I 0, I 0, I 2, (I (-2)), I 0, I 0, I 2]), I 0, I 0, I 0, I 0, I 0, I 0, I 0, I 0, I 0, I 0, I 0, I 0, I 0, I 0, (.bool false), (.bool false), (.agg #[I 1, I 1, I 1, I 1, I 2, I 0, I 1, (I (-1)), I 1, (I (-1)), I 1, (I (-1)), I 2, I 0, I 1, I 1]), (g2 1 1), (g2 1 1), (g2 2 0), (g2 1 (-1)), (g2 1 (-1)), (g2 1 (-1)), (g2 2 0), (g2 1 1), (.agg #[I 1, I 1, I 1, I 1, I 2, I 0, I 1, (I (-1)), I 1, (I (-1)), I 1, (I (-1)), I 2, I 0, I 1, I 1]), (.bool false), (.bool false), (.bool false), I 4, (.bool false), (.bool false), (.bool false), (g2 8 5), (g2 8 5), (.bool false), (.bool false), (.bool false), (sl 14 0 2 2), (sl 21 0 2 2), (.agg #[I 0, I 0, I 1, I 0]), (.agg #[I 1, I 0, I 1, I 3]), (sl 22 0 2 2), (.bool true), (.bool false), (.bool false), (.bool false), (sl 17 0 3 3), (sl 23 0 3 3), (.bool true), (.bool false), (.bool false), (.bool false), (sl 19 0 2 2), (sl 24 0 2 2), (sl 14 0 2 2), (sl 25 0 2 2), (.bool true), (.bool false), (.bool false), (.bool false), I 4, (.bool false), (.bool false), (.bool false), (.agg #[I 6, I 0, I 0, I 2, (I (-2)), I 0, I 0, I 2]), (g2 6 0), (g2 0 2), (g2 (-2) 0), (g2 0 2), (.agg #[I 6, I 0, I 0, I 2, (I (-2)), I 0, I 0, I 2]), (.bool false), (.bool false), (.tuple #[(sl 28 0 4 4), I 0]), (sl 26 0 2 2), (sl 27 0 2 2), (.tuple #[(sl 28 0 4 4), I 0]), (sl 28 0 4 4), I 0, (.tuple #[(sl 29 0 3 3), I 0]), (.tuple #[(sl 29 0 3 3), I 0]), (sl 29 0 3 3), I 0, (.tuple #[(sl 32 0 3 3), I 0]), (sl 30 0 0 0), (sl 28 0 4 4), (sl 31 0 4 4), (.tuple #[(sl 32 0 3 3), I 0]), (sl 32 0 3 3), I 0, (.tuple #[(sl 35 0 3 3), I 0]), (sl 33 0 0 0), (sl 29 0 3 3), (sl 34 0 3 3), (.tuple #[(sl 35 0 3 3), I 0]), (sl 35 0 3 3), I 0, (.tuple #[(g2 0 2), I 0]), (sl 36 0 0 0), (sl 29 0 3 3), (sl 37 0 3 3), (.tuple #[(g2 0 2), I 0]), (g2 0 2), I 0, (.tuple #[(sl 40 0 4 4), I 0]), (sl 39 0 2 2), (.tuple #[(sl 40 0 4 4), I 0]), (sl 40 0 4 4), I 0, (.tuple #[(sl 42 0 4 4), I 0]), (sl 41 0 2 2), (.tuple #[(sl 42 0 4 4), I 0]), (sl 42 0 4 4), I 0, (.tuple #[(g2 4 0), I 0]), (sl 43 0 0 0), (sl 40 0 4 4), (sl 44 0 4 4), (.tuple #[(g2 4 0), I 0]), (g2 4 0), I 0, (.tuple #[(g2 0 0), I 0]), (sl 46 0 0 0), (sl 42 0 4 4), (sl 47 0 4 4), (.tuple #[(g2 0 0), I 0]), (g2 0 0), I 0, (.tuple #[(sl 50 0 1 1), I 0]), (sl 49 0 2 2), (.tuple #[(sl 50 0 1 1), I 0]), (sl 50 0 1 1), I 0, (.tuple #[(sl 52 0 2 2), I 0]), (.agg #[I 1, I 0, I 1, I 0]), (.agg #[(I (-1)), I 0, I 1, I 0]), (sl 51 0 2 2), (.tuple #[(sl 52 0 2 2), I 0]), (sl 52 0 2 2), I 0, (.tuple #[(.string (ByteArray.mk #[(UInt8.ofNat 115), (UInt8.ofNat 111), (UInt8.ofNat 117), (UInt8.ofNat 114), (UInt8.ofNat 99), (UInt8.ofNat 101), (UInt8.ofNat 32), (UInt8.ofNat 48), (UInt8.ofNat 32), (UInt8.ofNat 48), (UInt8.ofNat 32), (UInt8.ofNat 49), (UInt8.ofNat 32), (UInt8.ofNat 48), (UInt8.ofNat 10), (UInt8.ofNat 115), (UInt8.ofNat 111), (UInt8.ofNat 117), (UInt8.ofNat 114), (UInt8.ofNat 99), (UInt8.ofNat 101), (UInt8.ofNat 32), (UInt8.ofNat 49), (UInt8.ofNat 32), (UInt8.ofNat 48), (UInt8.ofNat 32), (UInt8.ofNat 49), (UInt8.ofNat 32), (UInt8.ofNat 48), (UInt8.ofNat 10)])), I 0]), (sl 53 0 2 2), (.tuple #[(.string (ByteArray.mk #[(UInt8.ofNat 115), (UInt8.ofNat 111), (UInt8.ofNat 117), (UInt8.ofNat 114), (UInt8.ofNat 99), (UInt8.ofNat 101), (UInt8.ofNat 32), (UInt8.ofNat 48), (UInt8.ofNat 32), (UInt8.ofNat 48), (UInt8.ofNat 32), (UInt8.ofNat 49), (UInt8.ofNat 32), (UInt8.ofNat 48), (UInt8.ofNat 10), (UInt8.ofNat 115), (UInt8.ofNat 111), (UInt8.ofNat 117), (UInt8.ofNat 114), (UInt8.ofNat 99), (UInt8.ofNat 101), (UInt8.ofNat 32), (UInt8.ofNat 49), (UInt8.ofNat 32), (UInt8.ofNat 48), (UInt8.ofNat 32), (UInt8.ofNat 49), (UInt8.ofNat 32), (UInt8.ofNat 48), (UInt8.ofNat 10)])), I 0]), (.string (ByteArray.mk #[(UInt8.ofNat 115), (UInt8.ofNat 111), (UInt8.ofNat 117), (UInt8.ofNat 114), (UInt8.ofNat 99), (UInt8.ofNat 101), (UInt8.ofNat 32), (UInt8.ofNat 48), (UInt8.ofNat 32), (UInt8.ofNat 48), (UInt8.ofNat 32), (UInt8.ofNat 49), (UInt8.ofNat 32), (UInt8.ofNat 48), (UInt8.ofNat 10), (UInt8.ofNat 115), (UInt8.ofNat 111), (UInt8.ofNat 117), (UInt8.ofNat 114), (UInt8.ofNat 99), (UInt8.ofNat 101), (UInt8.ofNat 32), (UInt8.ofNat 49), (UInt8.ofNat 32), (UInt8.ofNat 48), (UInt8.ofNat 32), (UInt8.ofNat 49), (UInt8.ofNat 32), (UInt8.ofNat 48), (UInt8.ofNat 10)])), I 0] ++ us 91)
noncomputable def X21 : Heap := (H [rowAwS_11, rowAwS_0, rowAwS_11, rowAwS_11, (rvar [I 8, I 5] 63), rowAwS_11, rowAwS_12, (.some (.cells [] 32 .emp)), rowAwS_12, rowAwS_14, rowAwS_11, rowAwS_12, rowAwS_9, rowAwS_13, rowAwS_13, rowAwS_14, rowAwS_13, rowAwS_13, rowAwS_11, rowAwS_11, rowAwS_2, rowAwS_7, (.some (.cells [] 32 .emp)), rowAwS_2, rowAwS_5, (.some (.cells [] 32 .emp)), rowAwS_7, rowAwS_5, (.some (.cells [] 32 .emp)), rowAwS_7, (rvar [I 0, I 2] 34), rowAwS_11, rowAwS_3, rowAwS_11, rowAwS_1, (.some (.cells [] 32 .emp)), rowAwS_3, (rvar [I 4, I 0] 34), (.some (.cells [] 32 .emp)), rowAwS_1, (rvar [I 0, I 0] 34), rowAwS_11, (rrow [I 0] 3), rowAwS_10, (rrow [I 0, I 2] 3), rowAwS_11])
noncomputable def L22 : List Value := [(.bool true), (pt 9 0), I 0, I 4, I 0, (pt 12 0), I 0, (sl 14 0 2 2), I 0, (sl 17 0 3 3), I 0, (sl 19 0 2 2), I 4, I 0, (pt 20 0), I 0, (sl 28 0 4 4), I 0, (sl 29 0 3 3), I 0, (sl 32 0 3 3), I 0, (sl 35 0 3 3), I 0, (pt 38 0), I 0, (sl 40 0 4 4), I 0, (sl 42 0 4 4), I 0, (pt 45 0), I 0, (pt 48 0), I 0, (sl 50 0 1 1), I 0, (sl 52 0 2 2), I 0, (.string (ByteArray.mk #[(UInt8.ofNat 115), (UInt8.ofNat 111), (UInt8.ofNat 117), (UInt8.ofNat 114), (UInt8.ofNat 99), (UInt8.ofNat 101), (UInt8.ofNat 32), (UInt8.ofNat 48), (UInt8.ofNat 32), (UInt8.ofNat 48), (UInt8.ofNat 32), (UInt8.ofNat 49), (UInt8.ofNat 32), (UInt8.ofNat 48), (UInt8.ofNat 10), (UInt8.ofNat 115), (UInt8.ofNat 111), (UInt8.ofNat 117), (UInt8.ofNat 114), (UInt8.ofNat 99), (UInt8.ofNat 101), (UInt8.ofNat 32), (UInt8.ofNat 49), (UInt8.ofNat 32), (UInt8.ofNat 48), (UInt8.ofNat 32), (UInt8.ofNat 49), (UInt8.ofNat 32), (UInt8.ofNat 48), (UInt8.ofNat 10)])), I 0, (.tuple #[(.agg #[I 1, I 1, I 1, I 1, I 2, I 0, I 1, (I (-1)), I 1, (I (-1)), I 1, (I (-1)), I 2, I 0, I 1, I 1]), I 0]), (sl 8 0 2 2), (.tuple #[(.agg #[I 1, I 1, I 1, I 1, I 2, I 0, I 1, (I (-1)), I 1, (I (-1)), I 1, (I (-1)), I 2, I 0, I 1, I 1]), I 0]), (.agg #[I 1, I 1, I 1, I 1, I 2, I 0, I 1, (I (-1)), I 1, (I (-1)), I 1, (I (-1)), I 2, I 0, I 1, I 1]), I 0, (.tuple #[I 4, I 0]), (sl 10 0 2 2), (.tuple #[I 4, I 0]), I 4, I 0, (.tuple #[(g2 8 5), I 0]), (sl 11 0 2 2), (.tuple #[(g2 8 5), I 0]), (g2 8 5), I 0, (.tuple #[(sl 14 0 2 2), I 0]), (sl 13 0 2 2), (.tuple #[(sl 14 0 2 2), I 0]), (sl 14 0 2 2), I 0, (.tuple #[(sl 17 0 3 3), I 0]), (sl 15 0 0 0), (sl 14 0 2 2), (sl 16 0 2 2), (.tuple #[(sl 17 0 3 3), I 0]), (sl 17 0 3 3), I 0, (.tuple #[(sl 19 0 2 2), I 4, I 0]), (sl 18 0 2 2), (.agg #[I 1, I 0, I 0, I 0, (I (-1)), I 0, I 0, I 0]), (.tuple #[(sl 19 0 2 2), I 4, I 0]), (sl 19 0 2 2), I 4, I 0, (.tuple #[(.agg #[I 6, I 0, I 0, I 2, (I (-2)), I 0, I 0, I 2]), I 0]), (pt 9 0), (g2 1 1), (pt 9 4), (g2 2 0), (pt 9 8), (g2 1 (-1)), (pt 9 12), (g2 2 0), (.agg #[I 1, I 1, I 2, I 0, I 1, (I (-1)), I 2, I 0]), (.tuple #[(.agg #[I 6, I 0, I 0, I 2, (I (-2)), I 0, I 0, I 2]), I 0]), (.agg #[I 6, I 0, I 0, I 2, (I (-2)), I 0, I 0, I 2]), I 0, I 0, I 0, I 0, I 0, I 0, I 0, I 0, I 0, I 0, I 0, I 0, I 0, I 0, (.bool false), (.bool false), (.agg #[I 1, I 1, I 1, I 1, I 2, I 0, I 1, (I (-1)), I 1, (I (-1)), I 1, (I (-1)), I 2, I 0, I 1, I 1]), (g2 1 1), (g2 1 1), (g2 2 0), (g2 1 (-1)), (g2 1 (-1)), (g2 1 (-1)), (g2 2 0), (g2 1 1), (.agg #[I 1, I 1, I 1, I 1, I 2, I 0, I 1, (I (-1)), I 1, (I (-1)), I 1, (I (-1)), I 2, I 0, I 1, I 1]), (.bool false), (.bool false), (.bool false), I 4, (.bool false), (.bool false), (.bool false), (g2 8 5), (g2 8 5), (.bool false), (.bool false), (.bool false), (sl 14 0 2 2), (sl 21 0 2 2), (.agg #[I 0, I 0, I 1, I 0]), (.agg #[I 1, I 0, I 1, I 3]), (sl 22 0 2 2), (.bool true), (.bool false), (.bool false), (.bool false), (sl 17 0 3 3), (sl 23 0 3 3), (.bool true), (.bool false), (.bool false), (.bool false), (sl 19 0 2 2), (sl 24 0 2 2), (sl 14 0 2 2), (sl 25 0 2 2), (.bool true), (.bool false), (.bool false), (.bool false), I 4, (.bool false), (.bool false), (.bool false), (.agg #[I 6, I 0, I 0, I 2, (I (-2)), I 0, I 0, I 2]), (g2 6 0), (g2 0 2), (g2 (-2) 0), (g2 0 2), (.agg #[I 6, I 0, I 0, I 2, (I (-2)), I 0, I 0, I 2]), (.bool false), (.bool false), (.tuple #[(sl 28 0 4 4), I 0]), (sl 26 0 2 2), (sl 27 0 2 2), (.tuple #[(sl 28 0 4 4), I 0]), (sl 28 0 4 4), I 0, (.tuple #[(sl 29 0 3 3), I 0]), (.tuple #[(sl 29 0 3 3), I 0]), (sl 29 0 3 3), I 0, (.tuple #[(sl 32 0 3 3), I 0]), (sl 30 0 0 0), (sl 28 0 4 4), (sl 31 0 4 4), (.tuple #[(sl 32 0 3 3), I 0]), (sl 32 0 3 3), I 0, (.tuple #[(sl 35 0 3 3), I 0]), (sl 33 0 0 0), (sl 29 0 3 3), (sl 34 0 3 3), (.tuple #[(sl 35 0 3 3), I 0]), (sl 35 0 3 3), I 0, (.tuple #[(g2 0 2), I 0]), (sl 36 0 0 0), (sl 29 0 3 3), (sl 37 0 3 3), (.tuple #[(g2 0 2), I 0]), (g2 0 2), I 0, (.tuple #[(sl 40 0 4 4), I 0]), (sl 39 0 2 2), (.tuple #[(sl 40 0 4 4), I 0]), (sl 40 0 4 4), I 0, (.tuple #[(sl 42 0 4 4), I 0]), (sl 41 0 2 2), (.tuple #[(sl 42 0 4 4), I 0]), (sl 42 0 4 4), I 0, (.tuple #[(g2 4 0), I 0]), (sl 43 0 0 0), (sl 40 0 4 4), (sl 44 0 4 4), (.tuple #[(g2 4 0), I 0]), (g2 4 0), I 0, (.tuple #[(g2 0 0), I 0]), (sl 46 0 0 0), (sl 42 0 4 4), (sl 47 0 4 4), (.tuple #[(g2 0 0), I 0]), (g2 0 0), I 0, (.tuple #[(sl 50 0 1 1), I 0]), (sl 49 0 2 2), (.tuple #[(sl 50 0 1 1), I 0]), (sl 50 0 1 1), I 0, (.tuple #[(sl 52 0 2 2), I 0]), (.agg #[I 1, I 0, I 1, I 0]), (.agg #[(I (-1)), I 0, I 1, I 0]), (sl 51 0 2 2), (.tuple #[(sl 52 0 2 2), I 0]), (sl 52 0 2 2), I 0, (.tuple #[(.string (ByteArray.mk #[(UInt8.ofNat 115), (UInt8.ofNat 111), (UInt8.ofNat 117), (UInt8.ofNat 114), (UInt8.ofNat 99), (UInt8.ofNat 101), (UInt8.ofNat 32), (UInt8.ofNat 48), (UInt8.ofNat 32), (UInt8.ofNat 48), (UInt8.ofNat 32), (UInt8.ofNat 49), (UInt8.ofNat 32), (UInt8.ofNat 48), (UInt8.ofNat 10), (UInt8.ofNat 115), (UInt8.ofNat 111), (UInt8.ofNat 117), (UInt8.ofNat 114), (UInt8.ofNat 99), (UInt8.ofNat 101), (UInt8.ofNat 32), (UInt8.ofNat 49), (UInt8.ofNat 32), (UInt8.ofNat 48), (UInt8.ofNat 32), (UInt8.ofNat 49), (UInt8.ofNat 32), (UInt8.ofNat 48), (UInt8.ofNat 10)])), I 0]), (sl 53 0 2 2), (.tuple #[(.string (ByteArray.mk #[(UInt8.ofNat 115), (UInt8.ofNat 111), (UInt8.ofNat 117), (UInt8.ofNat 114), (UInt8.ofNat 99), (UInt8.ofNat 101), (UInt8.ofNat 32), (UInt8.ofNat 48), (UInt8.ofNat 32), (UInt8.ofNat 48), (UInt8.ofNat 32), (UInt8.ofNat 49), (UInt8.ofNat 32), (UInt8.ofNat 48), (UInt8.ofNat 10), (UInt8.ofNat 115), (UInt8.ofNat 111), (UInt8.ofNat 117), (UInt8.ofNat 114), (UInt8.ofNat 99), (UInt8.ofNat 101), (UInt8.ofNat 32), (UInt8.ofNat 49), (UInt8.ofNat 32), (UInt8.ofNat 48), (UInt8.ofNat 32), (UInt8.ofNat 49), (UInt8.ofNat 32), (UInt8.ofNat 48), (UInt8.ofNat 10)])), I 0]), (.string (ByteArray.mk #[(UInt8.ofNat 115), (UInt8.ofNat 111), (UInt8.ofNat 117), (UInt8.ofNat 114), (UInt8.ofNat 99), (UInt8.ofNat 101), (UInt8.ofNat 32), (UInt8.ofNat 48), (UInt8.ofNat 32), (UInt8.ofNat 48), (UInt8.ofNat 32), (UInt8.ofNat 49), (UInt8.ofNat 32), (UInt8.ofNat 48), (UInt8.ofNat 10), (UInt8.ofNat 115), (UInt8.ofNat 111), (UInt8.ofNat 117), (UInt8.ofNat 114), (UInt8.ofNat 99), (UInt8.ofNat 101), (UInt8.ofNat 32), (UInt8.ofNat 49), (UInt8.ofNat 32), (UInt8.ofNat 48), (UInt8.ofNat 32), (UInt8.ofNat 49), (UInt8.ofNat 32), (UInt8.ofNat 48), (UInt8.ofNat 10)])), I 0, I 0, I 0, I 0, I 0, I 0, I 0, I 0, I 0, I 0, I 0, I 0, I 0, I 0, I 0, I 0, I 0, I 0, I 0, I 0, I 0, I 0, I 0, I 0, (.bool true), (.bool true), (sl 28 0 4 4), (sl 54 0 4 4), (.agg #[I 0, I 0, I 1, I 0]), (.agg #[I 1, I 0, I 1, I 0]), (.agg #[I 1, I 0, I 1, I 0]), (.agg #[I 2, I 0, I 1, I 0]), (sl 55 0 4 4), (.bool true), (.bool true), (.bool true), (sl 29 0 3 3), (sl 56 0 3 3), (.agg #[I 0, I 0, I 1, I 0]), (.agg #[I 1, I 0, I 2, I 0]), (.agg #[I 2, I 0, I 1, I 0]), (sl 57 0 3 3), (.bool true), (.bool true), (.bool true), (sl 32 0 3 3), (sl 58 0 3 3), (sl 35 0 3 3), (sl 59 0 3 3), (.bool true), (.bool true), (.bool true), (g2 0 2), (g2 0 2), (.bool true), (.bool true), (.bool true), (sl 40 0 4 4), I 4, (.bool true), (.bool true), (.bool true), (sl 40 0 4 4), (pt 40 8), (.agg #[I 4, I 0, I 1, I 0]), (.agg #[I 4, I 0, I 1, I 0]), (.bool true), (.bool true), (.bool true), (g2 4 0), (g2 4 0), (.bool true), (.bool true), (.bool true), (g2 0 0), (g2 0 0), (.bool true), (.bool true), (.bool true), (sl 50 0 1 1), (sl 60 0 1 1), (.bool true), (.bool true), (.bool true), (sl 52 0 2 2), (sl 61 0 2 2), (.bool true), (.bool true), (.bool true), (.string (ByteArray.mk #[(UInt8.ofNat 115), (UInt8.ofNat 111), (UInt8.ofNat 117), (UInt8.ofNat 114), (UInt8.ofNat 99), (UInt8.ofNat 101), (UInt8.ofNat 32), (UInt8.ofNat 48), (UInt8.ofNat 32), (UInt8.ofNat 48), (UInt8.ofNat 32), (UInt8.ofNat 49), (UInt8.ofNat 32), (UInt8.ofNat 48), (UInt8.ofNat 10), (UInt8.ofNat 115), (UInt8.ofNat 111), (UInt8.ofNat 117), (UInt8.ofNat 114), (UInt8.ofNat 99), (UInt8.ofNat 101), (UInt8.ofNat 32), (UInt8.ofNat 49), (UInt8.ofNat 32), (UInt8.ofNat 48), (UInt8.ofNat 32), (UInt8.ofNat 49), (UInt8.ofNat 32), (UInt8.ofNat 48), (UInt8.ofNat 10)])), (.bool true), (.bool true)]
noncomputable def X22 : Heap := (H [rowAwS_11, rowAwS_0, rowAwS_11, rowAwS_11, (rvar [I 8, I 5] 63), rowAwS_11, rowAwS_12, (.some (.cells [] 32 .emp)), rowAwS_12, rowAwS_14, rowAwS_11, rowAwS_12, rowAwS_9, rowAwS_13, rowAwS_13, rowAwS_14, rowAwS_13, rowAwS_13, rowAwS_11, rowAwS_11, rowAwS_2, rowAwS_7, (.some (.cells [] 32 .emp)), rowAwS_2, rowAwS_5, (.some (.cells [] 32 .emp)), rowAwS_7, rowAwS_5, (.some (.cells [] 32 .emp)), rowAwS_7, (rvar [I 0, I 2] 34), rowAwS_11, rowAwS_3, rowAwS_11, rowAwS_1, (.some (.cells [] 32 .emp)), rowAwS_3, (rvar [I 4, I 0] 34), (.some (.cells [] 32 .emp)), rowAwS_1, (rvar [I 0, I 0] 34), rowAwS_11, (rrow [I 0] 3), rowAwS_10, (rrow [I 0, I 2] 3), rowAwS_11, rowAwS_4, rowAwS_4, rowAwS_8, rowAwS_8, rowAwS_6, rowAwS_6, (rrow [I 0] 3), (rrow [I 0, I 2] 3)])
noncomputable def L23 : List Value := [(.bool true), (pt 9 0), I 0, I 4, I 0, (pt 12 0), I 0, (sl 14 0 2 2), I 0, (sl 17 0 3 3), I 0, (sl 19 0 2 2), I 4, I 0, (pt 20 0), I 0, (sl 28 0 4 4), I 0, (sl 29 0 3 3), I 0, (sl 32 0 3 3), I 0, (sl 35 0 3 3), I 0, (pt 38 0), I 0, (sl 40 0 4 4), I 0, (sl 42 0 4 4), I 0, (pt 45 0), I 0, (pt 48 0), I 0, (sl 50 0 1 1), I 0, (sl 52 0 2 2), I 0, (.string (ByteArray.mk #[(UInt8.ofNat 115), (UInt8.ofNat 111), (UInt8.ofNat 117), (UInt8.ofNat 114), (UInt8.ofNat 99), (UInt8.ofNat 101), (UInt8.ofNat 32), (UInt8.ofNat 48), (UInt8.ofNat 32), (UInt8.ofNat 48), (UInt8.ofNat 32), (UInt8.ofNat 49), (UInt8.ofNat 32), (UInt8.ofNat 48), (UInt8.ofNat 10), (UInt8.ofNat 115), (UInt8.ofNat 111), (UInt8.ofNat 117), (UInt8.ofNat 114), (UInt8.ofNat 99), (UInt8.ofNat 101), (UInt8.ofNat 32), (UInt8.ofNat 49), (UInt8.ofNat 32), (UInt8.ofNat 48), (UInt8.ofNat 32), (UInt8.ofNat 49), (UInt8.ofNat 32), (UInt8.ofNat 48), (UInt8.ofNat 10)])), I 0, (.tuple #[(.agg #[I 1, I 1, I 1, I 1, I 2, I 0, I 1, (I (-1)), I 1, (I (-1)), I 1, (I (-1)), I 2, I 0, I 1, I 1]), I 0]), (sl 8 0 2 2), (.tuple #[(.agg #[I 1, I 1, I 1, I 1, I 2, I 0, I 1, (I (-1)), I 1, (I (-1)), I 1, (I (-1)), I 2, I 0, I 1, I 1]), I 0]), (.agg #[I 1, I 1, I 1, I 1, I 2, I 0, I 1, (I (-1)), I 1, (I (-1)), I 1, (I (-1)), I 2, I 0, I 1, I 1]), I 0, (.tuple #[I 4, I 0]), (sl 10 0 2 2), (.tuple #[I 4, I 0]), I 4, I 0, (.tuple #[(g2 8 5), I 0]), (sl 11 0 2 2), (.tuple #[(g2 8 5), I 0]), (g2 8 5), I 0, (.tuple #[(sl 14 0 2 2), I 0]), (sl 13 0 2 2), (.tuple #[(sl 14 0 2 2), I 0]), (sl 14 0 2 2), I 0, (.tuple #[(sl 17 0 3 3), I 0]), (sl 15 0 0 0), (sl 14 0 2 2), (sl 16 0 2 2), (.tuple #[(sl 17 0 3 3), I 0]), (sl 17 0 3 3), I 0, (.tuple #[(sl 19 0 2 2), I 4, I 0]), (sl 18 0 2 2), (.agg #[I 1, I 0, I 0, I 0, (I (-1)), I 0, I 0, I 0]), (.tuple #[(sl 19 0 2 2), I 4, I 0]), (sl 19 0 2 2), I 4, I 0, (.tuple #[(.agg #[I 6, I 0, I 0, I 2, (I (-2)), I 0, I 0, I 2]), I 0]), (pt 9 0), (g2 1 1), (pt 9 4), (g2 2 0), (pt 9 8), (g2 1 (-1)), (pt 9 12), (g2 2 0), (.agg #[I 1, I 1, I 2, I 0, I 1, (I (-1)), I 2, I 0]), (.tuple #[(.agg #[I 6, I 0, I 0, I 2, (I (-2)), I 0, I 0, I 2]), I 0]), (.agg #[I 6, I 0, I 0, I 2, (I (-2)), I 0, I 0, I 2]), I 0, I 0, I 0, I 0, I 0, I 0, I 0, I 0, I 0, I 0, I 0, I 0, I 0, I 0, (.bool false), (.bool false), (.agg #[I 1, I 1, I 1, I 1, I 2, I 0, I 1, (I (-1)), I 1, (I (-1)), I 1, (I (-1)), I 2, I 0, I 1, I 1]), (g2 1 1), (g2 1 1), (g2 2 0), (g2 1 (-1)), (g2 1 (-1)), (g2 1 (-1)), (g2 2 0), (g2 1 1), (.agg #[I 1, I 1, I 1, I 1, I 2, I 0, I 1, (I (-1)), I 1, (I (-1)), I 1, (I (-1)), I 2, I 0, I 1, I 1]), (.bool false), (.bool false), (.bool false), I 4, (.bool false), (.bool false), (.bool false), (g2 8 5), (g2 8 5), (.bool false), (.bool false), (.bool false), (sl 14 0 2 2), (sl 21 0 2 2), (.agg #[I 0, I 0, I 1, I 0]), (.agg #[I 1, I 0, I 1, I 3]), (sl 22 0 2 2), (.bool true), (.bool false), (.bool false), (.bool false), (sl 17 0 3 3), (sl 23 0 3 3), (.bool true), (.bool false), (.bool false), (.bool false), (sl 19 0 2 2), (sl 24 0 2 2), (sl 14 0 2 2), (sl 25 0 2 2), (.bool true), (.bool false), (.bool false), (.bool false), I 4, (.bool false), (.bool false), (.bool false), (.agg #[I 6, I 0, I 0, I 2, (I (-2)), I 0, I 0, I 2]), (g2 6 0), (g2 0 2), (g2 (-2) 0), (g2 0 2), (.agg #[I 6, I 0, I 0, I 2, (I (-2)), I 0, I 0, I 2]), (.bool false), (.bool false), (.tuple #[(sl 28 0 4 4), I 0]), (sl 26 0 2 2), (sl 27 0 2 2), (.tuple #[(sl 28 0 4 4), I 0]), (sl 28 0 4 4), I 0, (.tuple #[(sl 29 0 3 3), I 0]), (.tuple #[(sl 29 0 3 3), I 0]), (sl 29 0 3 3), I 0, (.tuple #[(sl 32 0 3 3), I 0]), (sl 30 0 0 0), (sl 28 0 4 4), (sl 31 0 4 4), (.tuple #[(sl 32 0 3 3), I 0]), (sl 32 0 3 3), I 0, (.tuple #[(sl 35 0 3 3), I 0]), (sl 33 0 0 0), (sl 29 0 3 3), (sl 34 0 3 3), (.tuple #[(sl 35 0 3 3), I 0]), (sl 35 0 3 3), I 0, (.tuple #[(g2 0 2), I 0]), (sl 36 0 0 0), (sl 29 0 3 3), (sl 37 0 3 3), (.tuple #[(g2 0 2), I 0]), (g2 0 2), I 0, (.tuple #[(sl 40 0 4 4), I 0]), (sl 39 0 2 2), (.tuple #[(sl 40 0 4 4), I 0]), (sl 40 0 4 4), I 0, (.tuple #[(sl 42 0 4 4), I 0]), (sl 41 0 2 2), (.tuple #[(sl 42 0 4 4), I 0]), (sl 42 0 4 4), I 0, (.tuple #[(g2 4 0), I 0]), (sl 43 0 0 0), (sl 40 0 4 4), (sl 44 0 4 4), (.tuple #[(g2 4 0), I 0]), (g2 4 0), I 0, (.tuple #[(g2 0 0), I 0]), (sl 46 0 0 0), (sl 42 0 4 4), (sl 47 0 4 4), (.tuple #[(g2 0 0), I 0]), (g2 0 0), I 0, (.tuple #[(sl 50 0 1 1), I 0]), (sl 49 0 2 2), (.tuple #[(sl 50 0 1 1), I 0]), (sl 50 0 1 1), I 0, (.tuple #[(sl 52 0 2 2), I 0]), (.agg #[I 1, I 0, I 1, I 0]), (.agg #[(I (-1)), I 0, I 1, I 0]), (sl 51 0 2 2), (.tuple #[(sl 52 0 2 2), I 0]), (sl 52 0 2 2), I 0, (.tuple #[(.string (ByteArray.mk #[(UInt8.ofNat 115), (UInt8.ofNat 111), (UInt8.ofNat 117), (UInt8.ofNat 114), (UInt8.ofNat 99), (UInt8.ofNat 101), (UInt8.ofNat 32), (UInt8.ofNat 48), (UInt8.ofNat 32), (UInt8.ofNat 48), (UInt8.ofNat 32), (UInt8.ofNat 49), (UInt8.ofNat 32), (UInt8.ofNat 48), (UInt8.ofNat 10), (UInt8.ofNat 115), (UInt8.ofNat 111), (UInt8.ofNat 117), (UInt8.ofNat 114), (UInt8.ofNat 99), (UInt8.ofNat 101), (UInt8.ofNat 32), (UInt8.ofNat 49), (UInt8.ofNat 32), (UInt8.ofNat 48), (UInt8.ofNat 32), (UInt8.ofNat 49), (UInt8.ofNat 32), (UInt8.ofNat 48), (UInt8.ofNat 10)])), I 0]), (sl 53 0 2 2), (.tuple #[(.string (ByteArray.mk #[(UInt8.ofNat 115), (UInt8.ofNat 111), (UInt8.ofNat 117), (UInt8.ofNat 114), (UInt8.ofNat 99), (UInt8.ofNat 101), (UInt8.ofNat 32), (UInt8.ofNat 48), (UInt8.ofNat 32), (UInt8.ofNat 48), (UInt8.ofNat 32), (UInt8.ofNat 49), (UInt8.ofNat 32), (UInt8.ofNat 48), (UInt8.ofNat 10), (UInt8.ofNat 115), (UInt8.ofNat 111), (UInt8.ofNat 117), (UInt8.ofNat 114), (UInt8.ofNat 99), (UInt8.ofNat 101), (UInt8.ofNat 32), (UInt8.ofNat 49), (UInt8.ofNat 32), (UInt8.ofNat 48), (UInt8.ofNat 32), (UInt8.ofNat 49), (UInt8.ofNat 32), (UInt8.ofNat 48), (UInt8.ofNat 10)])), I 0]), (.string (ByteArray.mk #[(UInt8.ofNat 115), (UInt8.ofNat 111), (UInt8.ofNat 117), (UInt8.ofNat 114), (UInt8.ofNat 99), (UInt8.ofNat 101), (UInt8.ofNat 32), (UInt8.ofNat 48), (UInt8.ofNat 32), (UInt8.ofNat 48), (UInt8.ofNat 32), (UInt8.ofNat 49), (UInt8.ofNat 32), (UInt8.ofNat 48), (UInt8.ofNat 10), (UInt8.ofNat 115), (UInt8.ofNat 111), (UInt8.ofNat 117), (UInt8.ofNat 114), (UInt8.ofNat 99), (UInt8.ofNat 101), (UInt8.ofNat 32), (UInt8.ofNat 49), (UInt8.ofNat 32), (UInt8.ofNat 48), (UInt8.ofNat 32), (UInt8.ofNat 49), (UInt8.ofNat 32), (UInt8.ofNat 48), (UInt8.ofNat 10)])), I 0, I 0, I 0, I 0, I 0, I 0, I 0, I 0, I 0, I 0, I 0, I 0, I 0, I 0, I 0, I 0, I 0, I 0, I 0, I 0, I 0, I 0, I 0, I 0, (.bool true), (.bool true), (sl 28 0 4 4), (sl 54 0 4 4), (.agg #[I 0, I 0, I 1, I 0]), (.agg #[I 1, I 0, I 1, I 0]), (.agg #[I 1, I 0, I 1, I 0]), (.agg #[I 2, I 0, I 1, I 0]), (sl 55 0 4 4), (.bool true), (.bool true), (.bool true), (sl 29 0 3 3), (sl 56 0 3 3), (.agg #[I 0, I 0, I 1, I 0]), (.agg #[I 1, I 0, I 2, I 0]), (.agg #[I 2, I 0, I 1, I 0]), (sl 57 0 3 3), (.bool true), (.bool true), (.bool true), (sl 32 0 3 3), (sl 58 0 3 3), (sl 35 0 3 3), (sl 59 0 3 3), (.bool true), (.bool true), (.bool true), (g2 0 2), (g2 0 2), (.bool true), (.bool true), (.bool true), (sl 40 0 4 4), I 4, (.bool true), (.bool true), (.bool true), (sl 40 0 4 4), (pt 40 8), (.agg #[I 4, I 0, I 1, I 0]), (.agg #[I 4, I 0, I 1, I 0]), (.bool true), (.bool true), (.bool true), (g2 4 0), (g2 4 0), (.bool true), (.bool true), (.bool true), (g2 0 0), (g2 0 0), (.bool true), (.bool true), (.bool true), (sl 50 0 1 1), (sl 60 0 1 1), (.bool true), (.bool true), (.bool true), (sl 52 0 2 2), (sl 61 0 2 2), (.bool true), (.bool true), (.bool true), (.string (ByteArray.mk #[(UInt8.ofNat 115), (UInt8.ofNat 111), (UInt8.ofNat 117), (UInt8.ofNat 114), (UInt8.ofNat 99), (UInt8.ofNat 101), (UInt8.ofNat 32), (UInt8.ofNat 48), (UInt8.ofNat 32), (UInt8.ofNat 48), (UInt8.ofNat 32), (UInt8.ofNat 49), (UInt8.ofNat 32), (UInt8.ofNat 48), (UInt8.ofNat 10), (UInt8.ofNat 115), (UInt8.ofNat 111), (UInt8.ofNat 117), (UInt8.ofNat 114), (UInt8.ofNat 99), (UInt8.ofNat 101), (UInt8.ofNat 32), (UInt8.ofNat 49), (UInt8.ofNat 32), (UInt8.ofNat 48), (UInt8.ofNat 32), (UInt8.ofNat 49), (UInt8.ofNat 32), (UInt8.ofNat 48), (UInt8.ofNat 10)])), (.bool true), (.bool true)]
noncomputable def X23 : Heap := (H [rowAwS_11, rowAwS_0, rowAwS_11, rowAwS_11, (rvar [I 8, I 5] 63), rowAwS_11, rowAwS_12, (.some (.cells [] 32 .emp)), rowAwS_12, rowAwS_14, rowAwS_11, rowAwS_12, rowAwS_9, rowAwS_13, rowAwS_13, rowAwS_14, rowAwS_13, rowAwS_13, rowAwS_11, rowAwS_11, rowAwS_2, rowAwS_7, (.some (.cells [] 32 .emp)), rowAwS_2, rowAwS_5, (.some (.cells [] 32 .emp)), rowAwS_7, rowAwS_5, (.some (.cells [] 32 .emp)), rowAwS_7, (rvar [I 0, I 2] 34), rowAwS_11, rowAwS_3, rowAwS_11, rowAwS_1, (.some (.cells [] 32 .emp)), rowAwS_3, (rvar [I 4, I 0] 34), (.some (.cells [] 32 .emp)), rowAwS_1, (rvar [I 0, I 0] 34), rowAwS_11, (rrow [I 0] 3), rowAwS_10, (rrow [I 0, I 2] 3), rowAwS_11, rowAwS_4, rowAwS_4, rowAwS_8, rowAwS_8, rowAwS_6, rowAwS_6, (rrow [I 0] 3), (rrow [I 0, I 2] 3)])
end Go.Proofs.YtpdiaiccnaoaiaaGreatDoor
/-
The document's examples, run: statements 0 to 5 of awake.
-/
namespace Go.Proofs.YtpdiaiccnaoaiaaGreatDoor
open Go Go.Abs
theorem c0 : aRun Tryz.prog envGa 100000 8 [.code (seqAt 0 (bodyOf 15))] L0 X0 = some (L1, X1, none) := by kernel_rfl
theorem c1 : aRun Tryz.prog envGa 100000 8 [.code (seqAt 1 (bodyOf 15))] L1 X1 = some (L2, X2, none) := by kernel_rfl
theorem c2 : aRun Tryz.prog envGa 100000 8 [.code (seqAt 2 (bodyOf 15))] L2 X2 = some (L3, X3, none) := by kernel_rfl
theorem c3 : aRun Tryz.prog envGa 100000 8 [.code (seqAt 3 (bodyOf 15))] L3 X3 = some (L4, X4, none) := by kernel_rfl
theorem c4 : aRun Tryz.prog envGa 100000 8 [.code (seqAt 4 (bodyOf 15))] L4 X4 = some (L5, X5, none) := by kernel_rfl
theorem c5 : aRun Tryz.prog envGa 100000 8 [.code (seqAt 5 (bodyOf 15))] L5 X5 = some (L6, X6, none) := by kernel_rfl
end Go.Proofs.YtpdiaiccnaoaiaaGreatDoor
/-
The document's examples, run: statements 6 to 6 of awake.
-/
namespace Go.Proofs.YtpdiaiccnaoaiaaGreatDoor
open Go Go.Abs
theorem c6 : aRun Tryz.prog envGa 100000 8 [.code (seqAt 6 (bodyOf 15))] L6 X6 = some (L7, X7, none) := by kernel_rfl
end Go.Proofs.YtpdiaiccnaoaiaaGreatDoor
/-
The document's examples, run: statements 7 to 13 of awake.
-/
namespace Go.Proofs.YtpdiaiccnaoaiaaGreatDoor
open Go Go.Abs
theorem c7 : aRun Tryz.prog envGa 100000 8 [.code (seqAt 7 (bodyOf 15))] L7 X7 = some (L8, X8, none) := by kernel_rfl
theorem c8 : aRun Tryz.prog envGa 100000 8 [.code (seqAt 8 (bodyOf 15))] L8 X8 = some (L9, X9, none) := by kernel_rfl
theorem c9 : aRun Tryz.prog envGa 100000 8 [.code (seqAt 9 (bodyOf 15))] L9 X9 = some (L10, X10, none) := by kernel_rfl
theorem c10 : aRun Tryz.prog envGa 100000 8 [.code (seqAt 10 (bodyOf 15))] L10 X10 = some (L11, X11, none) := by kernel_rfl
theorem c11 : aRun Tryz.prog envGa 100000 8 [.code (seqAt 11 (bodyOf 15))] L11 X11 = some (L12, X12, none) := by kernel_rfl
theorem c12 : aRun Tryz.prog envGa 100000 8 [.code (seqAt 12 (bodyOf 15))] L12 X12 = some (L13, X13, none) := by kernel_rfl
theorem c13 : aRun Tryz.prog envGa 100000 8 [.code (seqAt 13 (bodyOf 15))] L13 X13 = some (L14, X14, none) := by kernel_rfl
end Go.Proofs.YtpdiaiccnaoaiaaGreatDoor
/-
The document's examples, run: statements 14 to 22 of awake.
-/
namespace Go.Proofs.YtpdiaiccnaoaiaaGreatDoor
open Go Go.Abs
theorem c14 : aRun Tryz.prog envGa 100000 8 [.code (seqAt 14 (bodyOf 15))] L14 X14 = some (L15, X15, none) := by kernel_rfl
theorem c15 : aRun Tryz.prog envGa 100000 8 [.code (seqAt 15 (bodyOf 15))] L15 X15 = some (L16, X16, none) := by kernel_rfl
theorem c16 : aRun Tryz.prog envGa 100000 8 [.code (seqAt 16 (bodyOf 15))] L16 X16 = some (L17, X17, none) := by kernel_rfl
theorem c17 : aRun Tryz.prog envGa 100000 8 [.code (seqAt 17 (bodyOf 15))] L17 X17 = some (L18, X18, none) := by kernel_rfl
theorem c18 : aRun Tryz.prog envGa 100000 8 [.code (seqAt 18 (bodyOf 15))] L18 X18 = some (L19, X19, none) := by kernel_rfl
theorem c19 : aRun Tryz.prog envGa 100000 8 [.code (seqAt 19 (bodyOf 15))] L19 X19 = some (L20, X20, none) := by kernel_rfl
theorem c20 : aRun Tryz.prog envGa 100000 8 [.code (seqAt 20 (bodyOf 15))] L20 X20 = some (L21, X21, none) := by kernel_rfl
theorem c21 : aRun Tryz.prog envGa 100000 8 [.code (seqAt 21 (bodyOf 15))] L21 X21 = some (L22, X22, none) := by kernel_rfl
theorem c22 : aRun Tryz.prog envGa 100000 8 [.code (seqAt 22 (bodyOf 15))] L22 X22 = some (L23, X23, some .ret) := by kernel_rfl
end Go.Proofs.YtpdiaiccnaoaiaaGreatDoor
/-
The document's examples, run: awake gives true, and is known from here on.
-/
namespace Go.Proofs.YtpdiaiccnaoaiaaGreatDoor
open Go Go.Abs
theorem awake_runs : Runs Tryz.prog envGa 8 [.code (dropS 0 (bodyOf 15))] L0 X0 (L23, X23, some .ret) := by
  refine runs_drop (by kernel_rfl) ⟨_, c0⟩ ?_
  refine runs_drop (by kernel_rfl) ⟨_, c1⟩ ?_
  refine runs_drop (by kernel_rfl) ⟨_, c2⟩ ?_
  refine runs_drop (by kernel_rfl) ⟨_, c3⟩ ?_
  refine runs_drop (by kernel_rfl) ⟨_, c4⟩ ?_
  refine runs_drop (by kernel_rfl) ⟨_, c5⟩ ?_
  refine runs_drop (by kernel_rfl) ⟨_, c6⟩ ?_
  refine runs_drop (by kernel_rfl) ⟨_, c7⟩ ?_
  refine runs_drop (by kernel_rfl) ⟨_, c8⟩ ?_
  refine runs_drop (by kernel_rfl) ⟨_, c9⟩ ?_
  refine runs_drop (by kernel_rfl) ⟨_, c10⟩ ?_
  refine runs_drop (by kernel_rfl) ⟨_, c11⟩ ?_
  refine runs_drop (by kernel_rfl) ⟨_, c12⟩ ?_
  refine runs_drop (by kernel_rfl) ⟨_, c13⟩ ?_
  refine runs_drop (by kernel_rfl) ⟨_, c14⟩ ?_
  refine runs_drop (by kernel_rfl) ⟨_, c15⟩ ?_
  refine runs_drop (by kernel_rfl) ⟨_, c16⟩ ?_
  refine runs_drop (by kernel_rfl) ⟨_, c17⟩ ?_
  refine runs_drop (by kernel_rfl) ⟨_, c18⟩ ?_
  refine runs_drop (by kernel_rfl) ⟨_, c19⟩ ?_
  refine runs_drop (by kernel_rfl) ⟨_, c20⟩ ?_
  refine runs_drop (by kernel_rfl) ⟨_, c21⟩ ?_
  exact runs_last (by kernel_rfl) ⟨_, c22⟩
/-- The examples are as the document says. -/
theorem awake_gives : Gives Tryz.prog envGa 0 15 [] heap0 (.bool true, heap0) :=
  Gives.of_body (c := bodyOf 15) (j := some .ret) (v := .bool true) (l1 := L23) (A1 := X23) (fun _ _ => by kernel_rfl) Tryz.func15 (by kernel_rfl) (by kernel_rfl) (by kernel_rfl) (runs_eq awake_runs (by kernel_rfl) (by kernel_rfl) (by kernel_rfl) (by kernel_rfl)) rfl (by kernel_rfl)
theorem awake_says : SaysAt Tryz.prog 8 15 [] heap0 (.bool true) heap0 := SaysAt.of_gives prog_ok envGa_ok awake_gives
end Go.Proofs.YtpdiaiccnaoaiaaGreatDoor
/-
Awake is known.
-/
namespace Go.Proofs.YtpdiaiccnaoaiaaGreatDoor
open Go Go.Abs
def BA (f : FuncId) (args : List Value) : Option (Heap × Value) :=
  if f == 15 then
    match args with
    | [] => some (heap0, .bool true)
    | _ => none
  else none
noncomputable def envL : Env := envGa.with (baseKnown BA)
theorem envL_ok : EnvOK Tryz.prog 8 envL := env_base' envGa_ok fun f args H v h => by
  unfold BA at h
  split at h
  · rename_i hf
    have hf : f = 15 := by simpa using hf
    subst hf
    split at h
    · cases h; exact ⟨by decide, by decide, awake_says⟩
    · cases h
  · cases h
end Go.Proofs.YtpdiaiccnaoaiaaGreatDoor
/-
Loops over lists: blocks, rounds, elements of rows, maps; the rest of a call whose own rows get other numbers while rows of the caller are written.
-/
namespace Go.Abs
open Go
def findBlk (id : Nat) : Code → Option Code
  | .block i b => if i == id then some (.block i b) else findBlk id b
  | .seq a b => match findBlk id a with
    | some c => some c
    | none => findBlk id b
  | .cond _ a b => match findBlk id a with
    | some c => some c
    | none => findBlk id b
  | .loop b => findBlk id b
  | .scope b => findBlk id b
  | _ => none
def blk (id : Nat) (c : Code) : Code := (findBlk id c).getD .skip
def bodyB : Code → Code
  | .block _ b => b
  | c => c
def bodyL : Code → Code
  | .loop b => b
  | c => c
/-- The round of the loop in a block. -/
def round (id : Nat) (c : Code) : Code := bodyL (bodyB (blk id c))
theorem Runs.loopAgain {P : Program} {E : Env} {lim : Nat} {c : Code} {k : List It} {l l1 : List Value} {A A1 : Heap} {r : List Value × Heap × Option Code} (h : Runs P E lim [.code c] l A (l1, A1, none)) (h2 : Runs P E lim (.inLoop c :: k) l1 A1 r) : Runs P E lim (.inLoop c :: k) l A r :=
  Runs.inLoop (h.app h2)
/-- Numbers, as cells. -/
def ints (l : List Int) : List Value := l.map (.int .i64)
theorem ints_get {l : List Int} {k : Nat} (h : k < l.length) : (ints l)[k]? = some (.int .i64 (l.getD k 0)) := by
  simp [ints, h]
theorem ints_len (l : List Int) : (ints l).length = l.length := by simp [ints]
theorem ints_atoms (l : List Int) : (ints l).all atomB = true := by
  rw [List.all_eq_true]
  intro v hv
  obtain ⟨x, _, rfl⟩ := List.mem_map.1 hv
  rfl
theorem w_id {n : Int} (h1 : -9223372036854775808 ≤ n) (h2 : n ≤ 9223372036854775807) : IntKind.i64.wrap n = n := by
  simp [IntKind.wrap, IntKind.bits, IntKind.signed]
  omega
/-- What is known of a type. -/
theorem info_of {P : Program} {t m b : Nat} {z : Option Value} (h : (P.info? t).map (fun i => (i.size, i.zero, i.bytes)) = some (m, z, b)) : ∃ ti, P.info? t = some ti ∧ ti.size = m ∧ ti.zero = z ∧ ti.bytes = b := by
  obtain ⟨ti, h1, h2⟩ := Option.map_eq_some_iff.1 h
  injection h2 with h2 h3
  injection h3 with h3 h4
  exact ⟨ti, h1, h2, h3, h4⟩
/-- Elements of m cells each. -/
theorem fm_len {α : Type} {f : α → List Value} {m : Nat} (hm : ∀ a, (f a).length = m) : ∀ l : List α, (l.flatMap f).length = l.length * m
  | [] => by simp
  | a :: l => by
    rw [List.flatMap_cons, List.length_append, hm, fm_len hm l, List.length_cons, Nat.succ_mul]; omega
theorem fm_drop {α : Type} {f : α → List Value} {m : Nat} (hm : ∀ a, (f a).length = m) : ∀ (l : List α) (k : Nat), (l.flatMap f).drop (k * m) = (l.drop k).flatMap f
  | l, 0 => by simp
  | [], k + 1 => by simp
  | a :: l, k + 1 => by
    rw [List.flatMap_cons, List.drop_succ_cons, ← fm_drop hm l k, Nat.succ_mul, Nat.add_comm, ← List.drop_drop]
    rw [List.drop_append, hm, Nat.sub_self, List.drop_eq_nil_of_le (show (f a).length ≤ m by rw [hm]; exact Nat.le_refl _), List.nil_append, List.drop_zero]
theorem fm_elem {α : Type} {f : α → List Value} {m : Nat} (hm : ∀ a, (f a).length = m) {l : List α} {k : Nat} {a : α} (h : l[k]? = some a) : ((l.flatMap f).drop (k * m)).take m = f a := by
  rw [fm_drop hm]
  have hk := (List.getElem?_eq_some_iff.1 h)
  obtain ⟨hlt, he⟩ := hk
  rw [List.drop_eq_getElem_cons hlt, List.flatMap_cons, he, List.take_append_of_le_length (by rw [hm]; exact Nat.le_refl _), List.take_of_length_le (by rw [hm]; exact Nat.le_refl _)]
theorem fm_atoms {α : Type} {f : α → List Value} (hf : ∀ a, (f a).all atomB = true) (l : List α) : (l.flatMap f).all atomB = true := by
  rw [List.all_eq_true]
  intro v hv
  obtain ⟨a, _, h⟩ := List.mem_flatMap.1 hv
  exact List.all_eq_true.1 (hf a) v h
section
variable {P : Program} {t e : TypeId} {ti : TypeInfo} {m : Nat}
/-- The address of an element. -/
theorem idx_el (ht : P.underlying t = some (.slice e)) (hi : P.info? e = some ti) (hs : ti.size = m) {r n c : Nat} {i : Int} (h0 : 0 ≤ i) (h1 : i < n) : aIndexAddr P t (.slice (some ⟨r, 0, none⟩) n c) (.int .i64 i) = some (.pointer (some ⟨r, i.toNat * m, none⟩)) := by
  subst hs
  simp [aIndexAddr, ht, hi, h0, h1]
theorem ld_int (ht : P.underlying t = some (.int .i64)) {A : Heap} {r k : Nat} {e : Nat} {u : Use} {l : List Int} (hr : hget A r = some (.cells (ints l) e u)) (hk : k < l.length) : aLoad P t (.pointer (some ⟨r, k, none⟩)) A = some (.int .i64 (l.getD k 0)) := by
  simp only [aLoad, hr, aPart, ht, descAgg, Bool.false_eq_true, if_false]
  exact ints_get hk
/-- An element that is a struct is loaded. -/
theorem ld_agg {α : Type} {f : α → List Value} (hm : ∀ a, (f a).length = m) {d : TypeDesc} (ht : P.underlying t = some d) (hd : descAgg d = true) (hi : P.info? t = some ti) (hs : ti.size = m) {A : Heap} {r k : Nat} {e : Nat} {u : Use} {l : List α} {a : α}
    (hr : hget A r = some (.cells (l.flatMap f) e u)) (hk : l[k]? = some a) : aLoad P t (.pointer (some ⟨r, k * m, none⟩)) A = some (.agg (f a).toArray) := by
  subst hs
  have hlt := (List.getElem?_eq_some_iff.1 hk).1
  have hle : k * ti.size + ti.size ≤ l.length * ti.size := by rw [← Nat.succ_mul]; exact Nat.mul_le_mul_right _ hlt
  simp only [aLoad, hr, aPart, ht, hd, hi, if_true, fm_len hm, hle, fm_elem hm hk]
/-- One element is appended to a row of elements. -/
theorem app_one {lim r q n c c' : Nat} {A : Heap} {cs new : List Value} {e' : Nat} {u : Use} {z : Value} {b : Nat} (ht : P.underlying t = some (.slice e)) (hi : P.info? e = some ti) (hs : ti.size = m) (hz : ti.zero = some z) (hb : ti.bytes = b)
    (hzf : freeB z = true) (hzl : z.cells.toList.length = m) (hr : hget A r = some (.cells cs e .row)) (hq : hget A q = some (.cells new e' u)) (hcs : cs.length = n * m) (hnew : new.length = m) (hone : new.all oneC = true) (hlim : lim ≤ r) (hsz : (n + 1) * b ≤ 70368744177664) (hn : n + 1 ≤ 1099511627776) (hel : P.underlying t = some (.slice e)) :
    aAppend P lim #[t, t] (.slice (some ⟨r, 0, none⟩) n c) (.slice (some ⟨q, 0, none⟩) 1 c') A = some (.slice (some ⟨A.length, 0, none⟩) (n + 1) (n + 1), hset A r none ++ [some (.cells (cs ++ new) e .row)]) := by
  subst hs; subst hb
  have hc : aCellsOf ti.size (.slice (some ⟨q, 0, none⟩) 1 c') A = some (1, new) := by
    simp only [aCellsOf, hq, Nat.one_mul, Nat.zero_add, hnew, Nat.le_refl, if_true, List.drop_zero]
    rw [List.take_of_length_le (by rw [hnew]; exact Nat.le_refl _)]
  simp only [aAppend, List.getElem?_toArray, List.getElem?_cons_zero, List.getElem?_cons_succ, ht, hi, hz, aSource, if_true]
  rw [hc]
  simp only [hone, hr, if_true]
  rw [if_pos (by exact ⟨rfl, hzf, hzl⟩), if_pos (by refine ⟨hlim, trivial, by omega, hsz, hn⟩), ← hcs, List.take_length]
end
section
variable {P : Program} {kt : TypeId} {d : TypeDesc} {α : Type} {kv : α → Value}
end

section
variable {P : Program} {G : Nat} {E : Env} {fn : Func} {A0 A1 A A2 : Heap} {v : Value} {l l1 l2 : List Value} {lim : Nat}
/-- A call that writes rows of its caller. -/
theorem EndsA.saysImp (hP : ProgOK P G) {f : FuncId} {c : Code} {args : List Value} (hf : P.funcs[f]? = some fn) (hb : fn.body = some c) (hnt : ¬ fn.ntmps < args.length) (h : EndsA P G fn A v A1 [.code c] (padTo fn.ntmps args) A) : SaysAt P G f args A v A1 := by
  intro ρ w args' hargs hG hR
  have hne : ¬ fn.name = "runtime.NumGoroutine" := by simpa using hP.name f fn hf
  refine .inr ⟨by simp [callFunc, hf, hne, hb], ?_⟩
  intro cs
  let b : Frame := { (default : Frame) with fn := f, kind := .normal }
  have hal := hargs.1
  have henter : Frame.enter P f args'.toArray .normal = b.at { tmps := args'.toArray ++ Array.replicate (fn.ntmps - args'.toArray.size) undef, defers := [] } [.code c] := by
    simp [Frame.enter, Frame.at, hf, hb, b]
  have hS : StR ρ fn.ntmps (padTo fn.ntmps args) { tmps := args'.toArray ++ Array.replicate (fn.ntmps - args'.toArray.size) undef, defers := [] } := by
    refine ⟨by simp; omega, fun t => ?_⟩
    rw [tget_pad, tget_eq]
    by_cases ht : t < args.length
    · have ht' : t < args'.length := by omega
      have := hargs.2 t args[t] args'[t] (List.getElem?_eq_getElem ht) (List.getElem?_eq_getElem ht')
      simpa [Array.getD_eq_getD_getElem?, Array.getElem?_append_left, ht, ht', List.getElem?_eq_getElem] using this
    · have ht' : ¬ t < args'.length := by omega
      have h1 : args[t]? = none := List.getElem?_eq_none (by omega)
      rw [h1]
      have h2 : ((args'.toArray ++ Array.replicate (fn.ntmps - args'.toArray.size) undef).getD t undef) = undef := by
        rw [Array.getD_eq_getD_getElem?, Array.getElem?_append_right (by simp; omega)]
        rw [Array.getElem?_replicate]
        split <;> rfl
      simp only [Option.getD_none]
      rw [h2]
      exact VR.undef ρ
  obtain ⟨ρ', a', w', td, j, l', rs', hsteps0, hleft, hj, hS', hres, hR1, hM1, hmk, hrs⟩ := h (by simp [okIt, hP.code f fn c hf hb]) ρ ρ w w _ b cs [] (fun r hr => by cases hr) hG hR hS hR (Moves.refl _ _ _) ⟨rfl, List.nodup_nil, fun r hr => by cases hr⟩ (fun r hr => by cases hr)
  have hb0 : b.roundOf = none := rfl
  have hsteps : Steps P _ (lone { b.at a' td with mode := .returning } cs w') := hsteps0.trans (.one (by
    rw [← Frame.atR_of_none hb0]
    cases j with
    | none => simp only [Left] at hleft; subst hleft; exact stepR_end hb0
    | some c' =>
      cases c' with
      | ret => obtain ⟨k', rfl⟩ := hleft; exact stepR_ret hb0
      | _ => simp [retB] at hj))
  rw [Frame.atR_of_none hb0] at hsteps
  obtain ⟨w2, hsteps2, hR', hM⟩ := marks_run rs' { b.at a' td with mode := .returning } cs w' a'.defers hmk (fun r hr => hrs r hr) (by simp) rfl hR1 hM1
  obtain ⟨v', hv', hvr⟩ := results_run hS' hR' hres
  refine ⟨.returned v', w2, { { b.at a' td with mode := .returning } with defers := [] }, ⟨v', ρ', rfl, hvr, hR', hM⟩, ?_, rfl, rfl, rfl, rfl, fn, hf, hv'⟩
  rw [henter]
  exact hsteps.trans hsteps2

/-- What becomes of a row of the caller: it is as it was at the begin, it has been written, it is given up. -/
def BaseBy (g : Nat → Option Nat) (x a b : Option ARow) : Prop := (a = x ∧ b = x) ∨ (∃ r r2, a = some r ∧ b = some r2 ∧ RowBy g r r2) ∨ b = none
theorem EndsA.renumB {todo : List It} {A B R : Heap} {ids : List Nat} {m : List Keep} {fs : List Value} (hB : B.length = A0.length) (hbase : ∀ i, i < A0.length → BaseBy (inNum A0.length ids) (hget A0 i) (hget A i) (hget B i)) (hids : ∀ i ∈ ids, A0.length ≤ i) (hnd : nodupB ids = true) (hm : fn.ntmps ≤ m.length) (hl : slotsTo (inNum A0.length ids) m l = some (l2, fs)) (hfs : ∀ v ∈ fs, freeB v = true) (hrows : RowsBy (inNum A0.length ids) A ids R)
    (h : EndsA P G fn A0 v A1 todo l2 (B ++ R)) : EndsA P G fn A0 v A1 todo l A := by
  intro hok ρ0 ρ w0 w a b cs rs hro hG0 hR0 hS hR hM hmk hrs
  let ρ2 : Loc := fun i => if i < A0.length then ρ i else match ids[i - A0.length]? with | some j => ρ j | none => none
  have a1 : ∀ i, i < A0.length → ρ2 i = ρ i := fun i hi => by simp [ρ2, hi]
  have a2 : ∀ k j, ids[k]? = some j → ρ2 (A0.length + k) = ρ j := fun k j hk => by
    have : ¬ A0.length + k < A0.length := by omega
    simp only [ρ2, if_neg this, Nat.add_sub_cancel_left, hk]
  have hin : ∀ i j, inNum A0.length ids i = some j → ρ2 j = ρ i := by
    intro i j h
    unfold inNum at h
    split at h
    · rename_i hi; cases h; exact a1 _ hi
    · cases hp : place i ids with
      | none => rw [hp] at h; cases h
      | some k => rw [hp] at h; cases h; exact a2 k i (place_get hp)
  have hRl := hrows.length
  have trans : ∀ {x x1 x2 : Value}, VR ρ0 x x1 → VR ρ x x2 → VR ρ2 x x2 := fun h1 h2 => VR.transfer (fun i L hi => a1 i (by
    rcases Nat.lt_or_ge i A0.length with h | h
    · exact h
    · rw [hR0.sup i h] at hi; cases hi)) h1 h2
  have getA : ∀ i r, hget (B ++ R) i = some r → (i < A0.length ∧ hget A0 i = some r ∧ hget A i = some r) ∨ (∃ k j r0, i = A0.length + k ∧ ids[k]? = some j ∧ hget A j = some r0 ∧ RowBy (inNum A0.length ids) r0 r) ∨ (∃ r0, i < A0.length ∧ hget A i = some r0 ∧ RowBy (inNum A0.length ids) r0 r) := by
    intro i r hi
    rw [hget_append] at hi
    split at hi
    · rename_i hlt
      rw [hB] at hlt
      rcases hbase i hlt with ⟨h1, h2⟩ | ⟨r0, r2, h1, h2, h3⟩ | h1
      · rw [h2] at hi; rw [hi] at h1; exact .inl ⟨hlt, hi, h1⟩
      · rw [h2] at hi; cases hi; exact .inr (.inr ⟨r0, hlt, h1, h3⟩)
      · rw [h1] at hi; cases hi
    · rename_i hge
      obtain ⟨j, r0, h1, h2, h3⟩ := hrows.get hi
      rw [hB] at h1 hge
      exact .inr (.inl ⟨i - A0.length, j, r0, by omega, h1, h2, h3⟩)
  have hS2 : StR ρ2 fn.ntmps l2 a := by
    obtain ⟨hlen, hget⟩ := slotsTo_get hl hfs
    refine ⟨hS.size, fun t => ?_⟩
    by_cases ht : t < m.length
    · exact (hget t ht).sound hin (hS.tmps t)
    · have h1 : tget l2 t = undef := by rw [tget_eq, List.getElem?_eq_none (by omega)]; rfl
      have h2 : a.tmps.getD t undef = undef := by
        rw [Array.getD_eq_getD_getElem?, Array.getElem?_eq_none (by rw [hS.size]; omega)]; rfl
      rw [h1, h2]
      exact VR.undef _
  have ge : ∀ {k j : Nat}, ids[k]? = some j → A0.length ≤ j := fun h => hids _ (List.mem_of_getElem? h)
  -- a row's number in A
  have src : ∀ i r L, hget (B ++ R) i = some r → ρ2 i = some L → ∃ j r0, hget A j = some r0 ∧ ρ j = some L ∧ r.isOwn = r0.isOwn ∧ ((i < A0.length ∧ j = i) ∨ ∃ k, i = A0.length + k ∧ ids[k]? = some j) := by
    intro i r L hi hL
    rcases getA i r hi with ⟨hlt, h1, h2⟩ | ⟨k, j, r0, rfl, hj, hg, hby⟩ | ⟨r0, hlt, hg, hby⟩
    · exact ⟨i, r, h2, by rw [← a1 i hlt]; exact hL, rfl, .inl ⟨hlt, rfl⟩⟩
    · exact ⟨j, r0, hg, by rw [← a2 k j hj]; exact hL, hby.own, .inr ⟨k, rfl, hj⟩⟩
    · exact ⟨i, r0, hg, by rw [← a1 i hlt]; exact hL, hby.own, .inl ⟨hlt, rfl⟩⟩
  have hR2 : Rel P ρ2 (B ++ R) w := by
    refine ⟨fun i hi => ?_, fun i r hi => ?_, fun i r L hi hL => ?_, fun i j r q L M hi hj hL hM' hne hr => ?_⟩
    · simp only [List.length_append, hRl, hB] at hi
      have h1 : ¬ i < A0.length := by omega
      have h2 : ids[i - A0.length]? = none := List.getElem?_eq_none (by omega)
      simp only [ρ2, if_neg h1, h2]
    · rcases getA i r hi with ⟨hlt, _, h2⟩ | ⟨k, j, r0, rfl, hj, hg, _⟩ | ⟨r0, hlt, hg, _⟩
      · rw [a1 i hlt]; exact hR.has i r h2
      · rw [a2 k j hj]; exact hR.has j r0 hg
      · rw [a1 i hlt]; exact hR.has i r0 hg
    · rcases getA i r hi with ⟨hlt, h1, h2⟩ | ⟨k, j, r0, rfl, hj, hg, hby⟩ | ⟨r0, hlt, hg, hby⟩
      · rw [a1 i hlt] at hL
        have hr2 := hR.row i r L h2 hL
        obtain ⟨L1, hL1, hr1⟩ := hR0.found h1
        cases r with
        | cells cs e use =>
          obtain ⟨cs', e', fz, b1, b2, b3, b4⟩ := hr2
          obtain ⟨ds', d', dz, c1, c2, c3, c4⟩ := hr1
          exact ⟨cs', e', fz, b1, fun o x hx => let ⟨x2, y1, y2⟩ := b2 o x hx; let ⟨x1, _, z2⟩ := c2 o x hx; ⟨x2, y1, trans z2 y2⟩, b3, b4⟩
        | iter s p => exact hr2
        | loop =>
          obtain ⟨t2, f2, d2, b1, b2, b3⟩ := hr2
          obtain ⟨t1, f1, d1, c1, c2, _⟩ := hr1
          exact ⟨t2, f2, d2, b1, fun k => trans (c2 k) (b2 k), b3⟩
        | map =>
          obtain ⟨es2, b1, b2, b3⟩ := hr2
          obtain ⟨es1, c1, c2, c3⟩ := hr1
          exact ⟨es2, b1, b2, fun k key val born hk => let ⟨e2, y1, y2, y3, y4⟩ := b3 k key val born hk; let ⟨e1, _, _, _, z4⟩ := c3 k key val born hk; ⟨e2, y1, y2, y3, trans z4 y4⟩⟩
        | miter =>
          obtain ⟨o2, M2, b1, b2⟩ := hr2
          obtain ⟨_, M1, c1, _⟩ := hr1
          obtain ⟨L3, hL3, he⟩ := (trans (VR.ptr (o := 0) c1) (VR.ptr (o := 0) b1)).ptr_inv
          have he' : M2.blk = L3.blk := by simp only [Value.pointer.injEq, Option.some.injEq, Addr.mk.injEq] at he; exact he.1
          exact ⟨o2, L3, hL3, by rw [← he']; exact b2⟩
      · rw [a2 k j hj] at hL
        exact hby.ok hin (hR.row j r0 L hg hL)
      · rw [a1 i hlt] at hL
        exact hby.ok hin (hR.row i r0 L hg hL)
    · obtain ⟨i', r0, h1, h2, h3, h4⟩ := src i r L hi hL
      obtain ⟨j', q0, g1, g2, g3, g4⟩ := src j q M hj hM'
      refine hR.sep i' j' r0 q0 L M h1 g1 h2 g2 ?_ (h3 ▸ hr)
      intro e
      apply hne
      rcases h4 with ⟨x1, x2⟩ | ⟨k, x1, x2⟩ <;> rcases g4 with ⟨y1, y2⟩ | ⟨k', y1, y2⟩
      · rw [← x2, ← y2]; exact e
      · have := ge y2; omega
      · have := ge x2; omega
      · subst e
        have := nodup_get hnd k k' i' x2 y2
        omega
  have hM2 : Moves ρ0 A0 w0 ρ2 (B ++ R) w := by
    refine ⟨fun i L hi => ?_, by simp [hB], fun i hi => (a1 i hi).trans (hM.same i hi), hM.size, hM.frame, fun i r L hi hL => ?_, hM.out, hM.loops⟩
    · have hlt : i < A0.length := by
        rcases Nat.lt_or_ge i A0.length with h | h
        · exact h
        · rw [hR0.sup i h] at hi; cases hi
      rw [a1 i hlt]; exact hM.pre i L hi
    · obtain ⟨j, r0, h1, h2, h3, h4⟩ := src i r L hi hL
      rcases hM.rows j r0 L h1 h2 with ⟨hlt, r', g1, g2⟩ | h5 | h5
      · rcases h4 with ⟨x1, rfl⟩ | ⟨k, _, x2⟩
        · exact .inl ⟨x1, r', g1, fun ho => g2 (h3 ▸ ho)⟩
        · have := ge x2; omega
      · exact .inr (.inl h5)
      · exact .inr (.inr h5)
  exact h hok ρ0 ρ2 w0 w a b cs rs hro hG0 hR0 hS2 hR2 hM2 hmk hrs
end
/-- Slots, one by one. -/
inductive SlotsTo (g : Nat → Option Nat) : List Keep → List Value → List Value → List Value → Prop
  | nil : SlotsTo g [] [] [] []
  | no {v : Value} {m : List Keep} {l l2 fs : List Value} (h : boolB v = false) (t : SlotsTo g m l l2 fs) : SlotsTo g (.no :: m) (v :: l) (junk :: l2) fs
  | ren {v x : Value} {m : List Keep} {l l2 fs : List Value} (h : vBy g 6 v = some x) (t : SlotsTo g m l l2 fs) : SlotsTo g (.ren :: m) (v :: l) (x :: l2) fs
  | free {v : Value} {m : List Keep} {l l2 fs : List Value} (h : freeB v = true) (t : SlotsTo g m l l2 fs) : SlotsTo g (.free :: m) (v :: l) (v :: l2) (v :: fs)
theorem SlotsTo.eq {g : Nat → Option Nat} {m : List Keep} {l l2 fs : List Value} (h : SlotsTo g m l l2 fs) : slotsTo g m l = some (l2, fs) ∧ ∀ v ∈ fs, freeB v = true := by
  induction h with
  | nil => exact ⟨rfl, fun v hv => by cases hv⟩
  | no h _ ih => exact ⟨by simp only [slotsTo, List.headD_cons, List.tail_cons, h, ih.1], ih.2⟩
  | ren h _ ih => exact ⟨by simp only [slotsTo, List.headD_cons, List.tail_cons, h, ih.1], ih.2⟩
  | free h _ ih => exact ⟨by simp only [slotsTo, List.headD_cons, List.tail_cons, ih.1], fun v hv => by
      rcases List.mem_cons.1 hv with rfl | hv
      · exact h
      · exact ih.2 v hv⟩
theorem EndsA.renumS {P : Program} {G : Nat} {fn : Func} {A0 A1 A : Heap} {v : Value} {l l2 : List Value} {todo : List It} {B R : Heap} {ids : List Nat} {m : List Keep} {fs : List Value} (hB : B.length = A0.length) (hbase : ∀ i, i < A0.length → BaseBy (inNum A0.length ids) (hget A0 i) (hget A i) (hget B i)) (hids : ∀ i ∈ ids, A0.length ≤ i) (hnd : nodupB ids = true) (hm : fn.ntmps ≤ m.length)
    (hrows : RowsBy (inNum A0.length ids) A ids R) (hl : SlotsTo (inNum A0.length ids) m l l2 fs) (h : EndsA P G fn A0 v A1 todo l2 (B ++ R)) : EndsA P G fn A0 v A1 todo l A :=
  EndsA.renumB hB hbase hids hnd hm hl.eq.1 hl.eq.2 hrows h
/-- No row of the caller has been written. -/
theorem base_same {g : Nat → Option Nat} {A0 X : Heap} : ∀ i, i < A0.length → BaseBy g (hget A0 i) (hget (A0 ++ X) i) (hget A0 i) := fun i hi => .inl ⟨by rw [hget_append, if_pos hi], rfl⟩
section
variable {P : Program} {G : Nat} {E : Env} {fn : Func} {A0 A A2 : Heap} {v : Value} {l l1 l2 : List Value} {lim : Nat}
end
/-- A range over a function, from what the call of the function gives. -/
theorem Runs.rangeFunc {P : Program} {E : Env} {lim f : Nat} {g : Operand} {ps : Array Tmp} {asg bo : Code} {l tm : List Value} {A A' : Heap} {first cap : Array Value} {v : Value} {ps' : Array Tmp} {asg' bo' : Code} {st : LoopState} (hg : ev l g = .func (.func f) first cap)
    (hc : Gives P E lim f (first.toList ++ [.func (.yield A.length) #[] #[]] ++ cap.toList) (A ++ [some (.loop l ps asg bo .ready none)]) (v, A')) (hr : hget A' A.length = some (.loop tm ps' asg' bo' st none)) (hst : st ≠ .busy) :
    Runs P E lim [.code (.rangeFunc g ps asg bo)] l A (l, hset A' A.length (some (.loop tm ps' asg' bo' .exhausted none)), none) := by
  obtain ⟨n, hn⟩ := hc
  refine ⟨n + 2, ?_⟩
  have hn' : aCallBy P E (aRun P E (n + 1)) lim f (first.toList ++ [.func (.yield A.length) #[] #[]] ++ cap.toList) (A ++ [some (.loop l ps asg bo .ready none)]) = some (v, A') := aCall_mono (Nat.le_succ n) _ _ _ _ _ hn
  show aStep P _ _ lim _ _ l A = _
  simp only [aStep, aRangeFunc, hg, hn', hr, hst, ne_eq, not_false_eq_true, if_true]
  rfl
end Go.Abs
/-
Contracts of a whole family of calls: over rows of their arguments, or at exact rows that they write.
-/
namespace Go.Abs
open Go
theorem known_gives {P : Program} {E : Env} {lim : Nat} {f : FuncId} {args : List Value} {A : Heap} {r : Value × Heap} (h : E.known lim f args A = some r) : Gives P E lim f args A r := ⟨0, by simp only [aCall, aCallBy, h]⟩
theorem ints_inj : ∀ {l m : List Int}, ints l = ints m → l = m
  | [], [], _ => rfl
  | [], _ :: _, h => by simp [ints] at h
  | _ :: _, [], h => by simp [ints] at h
  | a :: l, b :: m, h => by
    simp only [ints, List.map_cons, List.cons.injEq, Value.int.injEq, true_and] at h
    rw [h.1, ints_inj (l := l) (m := m) h.2]
/-- A family of calls over rows of their arguments: what belongs to whom. -/
structure Fam where
  ι : Type
  ok : ι → Prop
  args : ι → List Value
  rows : ι → Heap
  val : ι → Value
  new : ι → Heap
  one : ∀ i j, ok i → ok j → args i = args j → rows i = rows j → val i = val j ∧ new i = new j
open Classical in
noncomputable def Fam.B (F : Fam) (T : Heap) : RowsB := fun _ args R => if h : ∃ i, F.ok i ∧ args = F.args i ∧ R = F.rows i then some (T, F.val (Classical.choose h), F.new (Classical.choose h)) else none
theorem Fam.B_of (F : Fam) (T : Heap) {f : FuncId} (i : F.ι) (hi : F.ok i) : F.B T f (F.args i) (F.rows i) = some (T, F.val i, F.new i) := by
  have he : ∃ j, F.ok j ∧ F.args i = F.args j ∧ F.rows i = F.rows j := ⟨i, hi, rfl, rfl⟩
  unfold Fam.B
  rw [dif_pos he]
  obtain ⟨h1, h2, h3⟩ := Classical.choose_spec he
  obtain ⟨g1, g2⟩ := F.one _ _ hi h1 h2 h3
  rw [← g1, ← g2]
theorem Fam.B_inv (F : Fam) {T T' : Heap} {f : FuncId} {args : List Value} {R R1 : Heap} {v : Value} (h : F.B T f args R = some (T', v, R1)) : ∃ i, F.ok i ∧ args = F.args i ∧ R = F.rows i ∧ T' = T ∧ v = F.val i ∧ R1 = F.new i := by
  unfold Fam.B at h
  by_cases he : ∃ i, F.ok i ∧ args = F.args i ∧ R = F.rows i
  · rw [dif_pos he] at h
    obtain ⟨h1, h2, h3⟩ := Classical.choose_spec he
    cases h
    exact ⟨_, h1, h2, h3, rfl, rfl, rfl⟩
  · rw [dif_neg he] at h; cases h
/-- E, with a family of calls of f0. -/
noncomputable def Env.fam (E : Env) (G : Nat) (T : Heap) (f0 : FuncId) (F : Fam) : Env := E.with fun lim f args A => if f == f0 then rowsKnown G (F.B T) lim f args A else none
theorem Env.fam_ok {P : Program} {G : Nat} {E : Env} {T : Heap} {f0 : FuncId} {F : Fam} (hE : EnvOK P G E) (hT : T.length = G) (hT2 : T.all tableRow = true) (hs : ∀ i, F.ok i → SaysAt P G f0 (F.args i) (T ++ F.rows i) (F.val i) (T ++ F.rows i ++ F.new i)) : EnvOK P G (E.fam G T f0 F) := by
  refine env_says hE fun lim f args A v A' h => ?_
  by_cases hf : (f == f0) = true
  · rw [if_pos hf] at h
    obtain rfl : f = f0 := eq_of_beq hf
    unfold rowsKnown at h
    simp only at h
    split at h
    · rename_i args0 R0 h1 h2
      split at h
      · rename_i T' v0 R1 h3
        obtain ⟨i, hi, rfl, rfl, rfl, rfl, rfl⟩ := F.B_inv h3
        split at h
        · rename_i hc
          simp only [Bool.and_eq_true, List.all_eq_true, decide_eq_true_eq] at hc
          obtain ⟨⟨⟨g1, g2⟩, g3⟩, g4⟩ := hc
          cases hv : valBy (outNum G (dedup (args.flatMap (argIds G))) A.length) (F.val i) with
          | none => rw [hv] at h; cases h
          | some v1 =>
            rw [hv] at h
            cases h
            exact ⟨fun ρ w args' hargs hG hR => rows_says hT hT2 g1 g4 g3 h2 h1 (by simpa [List.all_eq_true] using g2) hv (hs i hi) hargs hG hR, by simp, fun i _ hi => by rw [hget_append, if_pos hi]⟩
        · cases h
      · cases h
    · cases h
  · rw [if_neg hf] at h; cases h
theorem Env.fam_skip {E : Env} {G : Nat} {T : Heap} {f0 f lim : Nat} {F : Fam} {args : List Value} {A : Heap} (h : (f == f0) = false) : (E.fam G T f0 F).known lim f args A = E.known lim f args A := by
  simp only [Env.fam, Env.with, h, Bool.false_eq_true, if_false]
theorem Env.fam_here {E : Env} {G : Nat} {T : Heap} {f0 lim : Nat} {F : Fam} {args : List Value} {A : Heap} {ids : List Nat} {v' : Value} (i : F.ι) (hi : F.ok i) (h0 : dedup (args.flatMap (argIds G)) = ids) (h1 : listRen (valBy (inNum G ids)) args = some (F.args i)) (h2 : rowsAt A ids = some (F.rows i)) (hs : startsB T A = true) (h5 : nodupB ids = true) (h6 : (ids.all fun i => decide (G ≤ i)) = true) (h7 : valBy (outNum G ids A.length) (F.val i) = some v') (h8 : (F.new i).all plainRow = true) :
    (E.fam G T f0 F).known lim f0 args A = some (v', A ++ F.new i) := by
  simp only [Env.fam, Env.with, beq_self_eq_true, if_true, rowsKnown, h0, h1, h2, F.B_of T i hi, hs, h5, h6, h7, h8, Bool.and_self, Option.map_some]
/-- A family of calls at exact rows, some of which they write. -/
structure FamX where
  ι : Type
  ok : ι → Prop
  args : ι → List Value
  rows : ι → Heap
  val : ι → Value
  out : ι → Heap
  one : ∀ i j, ok i → ok j → args i = args j → rows i = rows j → val i = val j ∧ out i = out j
open Classical in
noncomputable def FamX.K (F : FamX) (L : Nat) : Nat → List Value → Heap → Option (Value × Heap) := fun lim args A => if h : ∃ i, F.ok i ∧ args = F.args i ∧ A = F.rows i ∧ lim ≤ L then some (F.val (Classical.choose h), F.out (Classical.choose h)) else none
noncomputable def Env.famX (E : Env) (f0 : FuncId) (L : Nat) (F : FamX) : Env := E.with fun lim f args A => if f == f0 then F.K L lim args A else none
theorem Env.famX_ok {P : Program} {G : Nat} {E : Env} {f0 L : Nat} {F : FamX} (hE : EnvOK P G E) (hs : ∀ i, F.ok i → SaysAt P G f0 (F.args i) (F.rows i) (F.val i) (F.out i) ∧ Keeps L (F.rows i) (F.out i)) : EnvOK P G (E.famX f0 L F) := by
  refine env_says hE fun lim f args A v A' h => ?_
  by_cases hf : (f == f0) = true
  · rw [if_pos hf] at h
    obtain rfl : f = f0 := eq_of_beq hf
    unfold FamX.K at h
    by_cases he : ∃ i, F.ok i ∧ args = F.args i ∧ A = F.rows i ∧ lim ≤ L
    · rw [dif_pos he] at h
      obtain ⟨h1, h2, h3, h4⟩ := Classical.choose_spec he
      cases h
      obtain ⟨s1, s2, s3⟩ := hs _ h1
      rw [← h2, ← h3] at s1
      rw [← h3] at s2 s3
      exact ⟨s1, s2, fun i hi hl => s3 i (by omega) hl⟩
    · rw [dif_neg he] at h; cases h
  · rw [if_neg hf] at h; cases h
theorem Env.famX_here {E : Env} {f0 L lim : Nat} {F : FamX} (i : F.ι) (hi : F.ok i) (hl : lim ≤ L) : (E.famX f0 L F).known lim f0 (F.args i) (F.rows i) = some (F.val i, F.out i) := by
  have he : ∃ j, F.ok j ∧ F.args i = F.args j ∧ F.rows i = F.rows j ∧ lim ≤ L := ⟨i, hi, rfl, rfl, hl⟩
  have h : F.K L lim (F.args i) (F.rows i) = some (F.val i, F.out i) := by
    unfold FamX.K
    rw [dif_pos he]
    obtain ⟨h1, h2, h3, _⟩ := Classical.choose_spec he
    obtain ⟨g1, g2⟩ := F.one _ _ hi h1 h2 h3
    rw [← g1, ← g2]
  simp only [Env.famX, Env.with, beq_self_eq_true, if_true, h]
end Go.Abs
/-
The rest of a call, with a slot that holds a round of a range over a function.
-/
namespace Go.Abs
open Go
/-- A slot may hold a round of a range over a function, too. -/
def SlotByY (g : Nat → Option Nat) (x y : Value) : Prop := SlotBy g x y ∨ ∃ i j, g i = some j ∧ x = .func (.yield i) #[] #[] ∧ y = .func (.yield j) #[] #[]
theorem SlotByY.sound {ρ ρ' : Loc} {g : Nat → Option Nat} {x y c : Value} (h : SlotByY g x y) (hg : ∀ i j, g i = some j → ρ' j = ρ i) (hv : VR ρ x c) : VR ρ' y c := by
  rcases h with h | ⟨i, j, h, rfl, rfl⟩
  · exact h.sound hg hv
  · cases hv with
    | atom ha => simp [atomB] at ha
    | func hy => simp [Fn.notYield] at hy
    | yield hL => exact .yield (by rw [hg i j h]; exact hL)
inductive SlotsY (g : Nat → Option Nat) : List Value → List Value → Prop
  | nil : SlotsY g [] []
  | no {v : Value} {l l2 : List Value} (h : boolB v = false) (t : SlotsY g l l2) : SlotsY g (v :: l) (junk :: l2)
  | ren {v x : Value} {l l2 : List Value} (h : vBy g 6 v = some x) (t : SlotsY g l l2) : SlotsY g (v :: l) (x :: l2)
  | free {v : Value} {l l2 : List Value} (h : freeB v = true) (t : SlotsY g l l2) : SlotsY g (v :: l) (v :: l2)
  | yld {i j : Nat} {l l2 : List Value} (h : g i = some j) (t : SlotsY g l l2) : SlotsY g (.func (.yield i) #[] #[] :: l) (.func (.yield j) #[] #[] :: l2)
theorem tget_cons_zero (v : Value) (l : List Value) : tget (v :: l) 0 = v := by rw [tget_eq]; rfl
theorem tget_cons_succ (v : Value) (l : List Value) (t : Nat) : tget (v :: l) (t + 1) = tget l t := by rw [tget_eq, tget_eq, List.getElem?_cons_succ]
theorem SlotsY.get {g : Nat → Option Nat} {l l2 : List Value} (h : SlotsY g l l2) : l2.length = l.length ∧ ∀ t, t < l2.length → SlotByY g (tget l t) (tget l2 t) := by
  induction h with
  | nil => exact ⟨rfl, fun t ht => by simp at ht⟩
  | no h _ ih => exact ⟨by simp [ih.1], fun t ht => by
      cases t with
      | zero => rw [tget_cons_zero, tget_cons_zero]; exact .inl (.inl ⟨rfl, h⟩)
      | succ t => rw [tget_cons_succ, tget_cons_succ]; exact ih.2 t (by simpa using ht)⟩
  | ren h _ ih => exact ⟨by simp [ih.1], fun t ht => by
      cases t with
      | zero => rw [tget_cons_zero, tget_cons_zero]; exact .inl (.inr (.inl h))
      | succ t => rw [tget_cons_succ, tget_cons_succ]; exact ih.2 t (by simpa using ht)⟩
  | free h _ ih => exact ⟨by simp [ih.1], fun t ht => by
      cases t with
      | zero => rw [tget_cons_zero, tget_cons_zero]; exact .inl (.inr (.inr ⟨rfl, h⟩))
      | succ t => rw [tget_cons_succ, tget_cons_succ]; exact ih.2 t (by simpa using ht)⟩
  | yld h _ ih => exact ⟨by simp [ih.1], fun t ht => by
      cases t with
      | zero => rw [tget_cons_zero, tget_cons_zero]; exact .inr ⟨_, _, h, rfl, rfl⟩
      | succ t => rw [tget_cons_succ, tget_cons_succ]; exact ih.2 t (by simpa using ht)⟩
theorem EndsA.renumC {P : Program} {G : Nat} {fn : Func} {A0 A1 : Heap} {v : Value} {l l2 : List Value} {todo : List It} {A B R : Heap} {ids : List Nat} (hB : B.length = A0.length) (hbase : ∀ i, i < A0.length → BaseBy (inNum A0.length ids) (hget A0 i) (hget A i) (hget B i)) (hids : ∀ i ∈ ids, A0.length ≤ i) (hnd : nodupB ids = true) (hl : SlotsY (inNum A0.length ids) l l2) (hrows : RowsBy (inNum A0.length ids) A ids R) (hm : fn.ntmps ≤ l2.length)
    (h : EndsA P G fn A0 v A1 todo l2 (B ++ R)) : EndsA P G fn A0 v A1 todo l A := by
  intro hok ρ0 ρ w0 w a b cs rs hro hG0 hR0 hS hR hM hmk hrs
  let ρ2 : Loc := fun i => if i < A0.length then ρ i else match ids[i - A0.length]? with | some j => ρ j | none => none
  have a1 : ∀ i, i < A0.length → ρ2 i = ρ i := fun i hi => by simp [ρ2, hi]
  have a2 : ∀ k j, ids[k]? = some j → ρ2 (A0.length + k) = ρ j := fun k j hk => by
    have : ¬ A0.length + k < A0.length := by omega
    simp only [ρ2, if_neg this, Nat.add_sub_cancel_left, hk]
  have hin : ∀ i j, inNum A0.length ids i = some j → ρ2 j = ρ i := by
    intro i j h
    unfold inNum at h
    split at h
    · rename_i hi; cases h; exact a1 _ hi
    · cases hp : place i ids with
      | none => rw [hp] at h; cases h
      | some k => rw [hp] at h; cases h; exact a2 k i (place_get hp)
  have hRl := hrows.length
  have trans : ∀ {x x1 x2 : Value}, VR ρ0 x x1 → VR ρ x x2 → VR ρ2 x x2 := fun h1 h2 => VR.transfer (fun i L hi => a1 i (by
    rcases Nat.lt_or_ge i A0.length with h | h
    · exact h
    · rw [hR0.sup i h] at hi; cases hi)) h1 h2
  have getA : ∀ i r, hget (B ++ R) i = some r → (i < A0.length ∧ hget A0 i = some r ∧ hget A i = some r) ∨ (∃ k j r0, i = A0.length + k ∧ ids[k]? = some j ∧ hget A j = some r0 ∧ RowBy (inNum A0.length ids) r0 r) ∨ (∃ r0, i < A0.length ∧ hget A i = some r0 ∧ RowBy (inNum A0.length ids) r0 r) := by
    intro i r hi
    rw [hget_append] at hi
    split at hi
    · rename_i hlt
      rw [hB] at hlt
      rcases hbase i hlt with ⟨h1, h2⟩ | ⟨r0, r2, h1, h2, h3⟩ | h1
      · rw [h2] at hi; rw [hi] at h1; exact .inl ⟨hlt, hi, h1⟩
      · rw [h2] at hi; cases hi; exact .inr (.inr ⟨r0, hlt, h1, h3⟩)
      · rw [h1] at hi; cases hi
    · rename_i hge
      obtain ⟨j, r0, h1, h2, h3⟩ := hrows.get hi
      rw [hB] at h1 hge
      exact .inr (.inl ⟨i - A0.length, j, r0, by omega, h1, h2, h3⟩)
  have hS2 : StR ρ2 fn.ntmps l2 a := by
    obtain ⟨hlen, hget⟩ := hl.get
    refine ⟨hS.size, fun t => ?_⟩
    by_cases ht : t < l2.length
    · exact (hget t ht).sound hin (hS.tmps t)
    · have h1 : tget l2 t = undef := by rw [tget_eq, List.getElem?_eq_none (by omega)]; rfl
      have h2 : a.tmps.getD t undef = undef := by
        rw [Array.getD_eq_getD_getElem?, Array.getElem?_eq_none (by rw [hS.size]; omega)]; rfl
      rw [h1, h2]
      exact VR.undef _
  have ge : ∀ {k j : Nat}, ids[k]? = some j → A0.length ≤ j := fun h => hids _ (List.mem_of_getElem? h)
  -- a row's number in A
  have src : ∀ i r L, hget (B ++ R) i = some r → ρ2 i = some L → ∃ j r0, hget A j = some r0 ∧ ρ j = some L ∧ r.isOwn = r0.isOwn ∧ ((i < A0.length ∧ j = i) ∨ ∃ k, i = A0.length + k ∧ ids[k]? = some j) := by
    intro i r L hi hL
    rcases getA i r hi with ⟨hlt, h1, h2⟩ | ⟨k, j, r0, rfl, hj, hg, hby⟩ | ⟨r0, hlt, hg, hby⟩
    · exact ⟨i, r, h2, by rw [← a1 i hlt]; exact hL, rfl, .inl ⟨hlt, rfl⟩⟩
    · exact ⟨j, r0, hg, by rw [← a2 k j hj]; exact hL, hby.own, .inr ⟨k, rfl, hj⟩⟩
    · exact ⟨i, r0, hg, by rw [← a1 i hlt]; exact hL, hby.own, .inl ⟨hlt, rfl⟩⟩
  have hR2 : Rel P ρ2 (B ++ R) w := by
    refine ⟨fun i hi => ?_, fun i r hi => ?_, fun i r L hi hL => ?_, fun i j r q L M hi hj hL hM' hne hr => ?_⟩
    · simp only [List.length_append, hRl, hB] at hi
      have h1 : ¬ i < A0.length := by omega
      have h2 : ids[i - A0.length]? = none := List.getElem?_eq_none (by omega)
      simp only [ρ2, if_neg h1, h2]
    · rcases getA i r hi with ⟨hlt, _, h2⟩ | ⟨k, j, r0, rfl, hj, hg, _⟩ | ⟨r0, hlt, hg, _⟩
      · rw [a1 i hlt]; exact hR.has i r h2
      · rw [a2 k j hj]; exact hR.has j r0 hg
      · rw [a1 i hlt]; exact hR.has i r0 hg
    · rcases getA i r hi with ⟨hlt, h1, h2⟩ | ⟨k, j, r0, rfl, hj, hg, hby⟩ | ⟨r0, hlt, hg, hby⟩
      · rw [a1 i hlt] at hL
        have hr2 := hR.row i r L h2 hL
        obtain ⟨L1, hL1, hr1⟩ := hR0.found h1
        cases r with
        | cells cs e use =>
          obtain ⟨cs', e', fz, b1, b2, b3, b4⟩ := hr2
          obtain ⟨ds', d', dz, c1, c2, c3, c4⟩ := hr1
          exact ⟨cs', e', fz, b1, fun o x hx => let ⟨x2, y1, y2⟩ := b2 o x hx; let ⟨x1, _, z2⟩ := c2 o x hx; ⟨x2, y1, trans z2 y2⟩, b3, b4⟩
        | iter s p => exact hr2
        | loop =>
          obtain ⟨t2, f2, d2, b1, b2, b3⟩ := hr2
          obtain ⟨t1, f1, d1, c1, c2, _⟩ := hr1
          exact ⟨t2, f2, d2, b1, fun k => trans (c2 k) (b2 k), b3⟩
        | map =>
          obtain ⟨es2, b1, b2, b3⟩ := hr2
          obtain ⟨es1, c1, c2, c3⟩ := hr1
          exact ⟨es2, b1, b2, fun k key val born hk => let ⟨e2, y1, y2, y3, y4⟩ := b3 k key val born hk; let ⟨e1, _, _, _, z4⟩ := c3 k key val born hk; ⟨e2, y1, y2, y3, trans z4 y4⟩⟩
        | miter =>
          obtain ⟨o2, M2, b1, b2⟩ := hr2
          obtain ⟨_, M1, c1, _⟩ := hr1
          obtain ⟨L3, hL3, he⟩ := (trans (VR.ptr (o := 0) c1) (VR.ptr (o := 0) b1)).ptr_inv
          have he' : M2.blk = L3.blk := by simp only [Value.pointer.injEq, Option.some.injEq, Addr.mk.injEq] at he; exact he.1
          exact ⟨o2, L3, hL3, by rw [← he']; exact b2⟩
      · rw [a2 k j hj] at hL
        exact hby.ok hin (hR.row j r0 L hg hL)
      · rw [a1 i hlt] at hL
        exact hby.ok hin (hR.row i r0 L hg hL)
    · obtain ⟨i', r0, h1, h2, h3, h4⟩ := src i r L hi hL
      obtain ⟨j', q0, g1, g2, g3, g4⟩ := src j q M hj hM'
      refine hR.sep i' j' r0 q0 L M h1 g1 h2 g2 ?_ (h3 ▸ hr)
      intro e
      apply hne
      rcases h4 with ⟨x1, x2⟩ | ⟨k, x1, x2⟩ <;> rcases g4 with ⟨y1, y2⟩ | ⟨k', y1, y2⟩
      · rw [← x2, ← y2]; exact e
      · have := ge y2; omega
      · have := ge x2; omega
      · subst e
        have := nodup_get hnd k k' i' x2 y2
        omega
  have hM2 : Moves ρ0 A0 w0 ρ2 (B ++ R) w := by
    refine ⟨fun i L hi => ?_, by simp [hB], fun i hi => (a1 i hi).trans (hM.same i hi), hM.size, hM.frame, fun i r L hi hL => ?_, hM.out, hM.loops⟩
    · have hlt : i < A0.length := by
        rcases Nat.lt_or_ge i A0.length with h | h
        · exact h
        · rw [hR0.sup i h] at hi; cases hi
      rw [a1 i hlt]; exact hM.pre i L hi
    · obtain ⟨j, r0, h1, h2, h3, h4⟩ := src i r L hi hL
      rcases hM.rows j r0 L h1 h2 with ⟨hlt, r', g1, g2⟩ | h5 | h5
      · rcases h4 with ⟨x1, rfl⟩ | ⟨k, _, x2⟩
        · exact .inl ⟨x1, r', g1, fun ho => g2 (h3 ▸ ho)⟩
        · have := ge x2; omega
      · exact .inr (.inl h5)
      · exact .inr (.inr h5)
  exact h hok ρ0 ρ2 w0 w a b cs rs hro hG0 hR0 hS2 hR2 hM2 hmk hrs
theorem Runs.nil {P : Program} {E : Env} {lim : Nat} {l : List Value} {A : Heap} : Runs P E lim [] l A (l, A, none) := ⟨1, rfl⟩
end Go.Abs
/-
Loops whose rounds are known: counted, and searching.
-/
namespace Go.Abs
open Go
section
variable {P : Program} {E : Env} {lim id : Nat} {c : Code} {n : Nat}
/-- A loop of n rounds. -/
theorem loop_seq (S : Nat → List Value → Heap → Prop) (T : List Value → Heap → Prop)
    (hA : ∀ i, i < n → ∀ l A, S i l A → ∃ l' A', S (i + 1) l' A' ∧ Runs P E lim [.code c] l A (l', A', none))
    (hC : ∀ l A, S n l A → ∃ l' A', T l' A' ∧ Runs P E lim [.code c, .inLoop c, .inBlock id] l A (l', A', none)) :
    ∀ d i, i + d = n → ∀ l A, S i l A → ∃ l' A', T l' A' ∧ Runs P E lim [.inLoop c, .inBlock id] l A (l', A', none)
  | 0, i, hi, l, A, h => by
    obtain rfl : i = n := hi
    obtain ⟨l', A', h1, h2⟩ := hC l A h
    exact ⟨l', A', h1, Runs.inLoop h2⟩
  | d + 1, i, hi, l, A, h => by
    obtain ⟨l1, A1, h1, h2⟩ := hA i (by omega) l A h
    obtain ⟨l2, A2, h3, h4⟩ := loop_seq S T hA hC d (i + 1) (by omega) l1 A1 h1
    exact ⟨l2, A2, h3, Runs.loopAgain h2 h4⟩
/-- A loop that is left at the first round with a property, by a return. -/
theorem loop_find (p : Nat → Bool) (S R : Nat → List Value → Heap → Prop) (T : List Value → Heap → Prop)
    (hA : ∀ i, i < n → p i = false → ∀ l A, S i l A → ∃ l' A', S (i + 1) l' A' ∧ Runs P E lim [.code c] l A (l', A', none))
    (hB : ∀ i, i < n → p i = true → ∀ l A, S i l A → ∃ l' A', R i l' A' ∧ Runs P E lim [.code c, .inLoop c, .inBlock id] l A (l', A', some .ret))
    (hC : ∀ l A, S n l A → ∃ l' A', T l' A' ∧ Runs P E lim [.code c, .inLoop c, .inBlock id] l A (l', A', none)) :
    ∀ d i, i + d = n → ∀ l A, S i l A →
      (∃ k l' A', i ≤ k ∧ k < n ∧ (∀ j, i ≤ j → j < k → p j = false) ∧ p k = true ∧ R k l' A' ∧ Runs P E lim [.inLoop c, .inBlock id] l A (l', A', some .ret)) ∨
      ((∀ j, i ≤ j → j < n → p j = false) ∧ ∃ l' A', T l' A' ∧ Runs P E lim [.inLoop c, .inBlock id] l A (l', A', none))
  | 0, i, hi, l, A, h => by
    obtain rfl : i = n := hi
    obtain ⟨l', A', h1, h2⟩ := hC l A h
    exact .inr ⟨fun j h1 h2 => by omega, l', A', h1, Runs.inLoop h2⟩
  | d + 1, i, hi, l, A, h => by
    cases hp : p i with
    | true =>
      obtain ⟨l', A', h1, h2⟩ := hB i (by omega) hp l A h
      exact .inl ⟨i, l', A', Nat.le_refl _, by omega, fun j h3 h4 => by omega, hp, h1, Runs.inLoop h2⟩
    | false =>
      obtain ⟨l1, A1, h1, h2⟩ := hA i (by omega) hp l A h
      rcases loop_find p S R T hA hB hC d (i + 1) (by omega) l1 A1 h1 with ⟨k, l', A', k1, k2, k3, k4, k5, k6⟩ | ⟨k1, l', A', k2, k3⟩
      · exact .inl ⟨k, l', A', by omega, k2, fun j j1 j2 => by
          by_cases hj : j = i
          · subst hj; exact hp
          · exact k3 j (by omega) j2, k4, k5, Runs.loopAgain h2 k6⟩
      · exact .inr ⟨fun j j1 j2 => by
          by_cases hj : j = i
          · subst hj; exact hp
          · exact k1 j (by omega) j2, l', A', k2, Runs.loopAgain h2 k3⟩
end
end Go.Abs
namespace Go.Abs
open Go
/-- The first number from i on, of d, with a property. -/
def firstP (p : Nat → Bool) : Nat → Nat → Option Nat
  | _, 0 => none
  | i, d + 1 => if p i then some i else firstP p (i + 1) d
theorem firstP_congr {p q : Nat → Bool} : ∀ {d i : Nat}, (∀ j, i ≤ j → j < i + d → p j = q j) → firstP p i d = firstP q i d
  | 0, _, _ => rfl
  | d + 1, i, h => by
    simp only [firstP]
    rw [h i (Nat.le_refl _) (by omega), firstP_congr (d := d) (i := i + 1) fun j h1 h2 => h j (by omega) (by omega)]
theorem firstP_some {p : Nat → Bool} : ∀ {d i k : Nat}, firstP p i d = some k → i ≤ k ∧ k < i + d ∧ p k = true ∧ ∀ j, i ≤ j → j < k → p j = false
  | 0, _, _, h => by cases h
  | d + 1, i, k, h => by
    simp only [firstP] at h
    cases hp : p i with
    | true => rw [hp] at h; cases h; exact ⟨Nat.le_refl _, by omega, hp, fun j h1 h2 => by omega⟩
    | false =>
      rw [hp] at h
      obtain ⟨h1, h2, h3, h4⟩ := firstP_some (by simpa using h)
      exact ⟨by omega, by omega, h3, fun j j1 j2 => by
        by_cases hj : j = i
        · subst hj; exact hp
        · exact h4 j (by omega) j2⟩
theorem firstP_none {p : Nat → Bool} : ∀ {d i : Nat}, firstP p i d = none → ∀ j, i ≤ j → j < i + d → p j = false
  | 0, _, _, _, _, _ => by omega
  | d + 1, i, h, j, j1, j2 => by
    simp only [firstP] at h
    cases hp : p i with
    | true => rw [hp] at h; cases h
    | false =>
      rw [hp] at h
      by_cases hj : j = i
      · subst hj; exact hp
      · exact firstP_none (d := d) (i := i + 1) (by simpa using h) j (by omega) (by omega)
section
variable {P : Program} {E : Env} {lim id : Nat} {c : Code} {n : Nat}
end
end Go.Abs
/-
Loops that are left at the first round with a property, however they are left.
-/
namespace Go.Abs
open Go
end Go.Abs
/-
The rest of a call, by what is kept of its result.
-/
namespace Go.Abs
open Go
def isSeqC : Code → Bool
  | .seq _ _ => true
  | _ => false
def codeL : Code → Code
  | .seq a _ => a
  | c => c
def codeR : Code → Code
  | .seq _ b => b
  | c => c
theorem isSeqC_eq {c : Code} (h : isSeqC c = true) : c = .seq (codeL c) (codeR c) := by
  cases c <;> first | rfl | cases h
/-- What is kept of a result. -/
def Kept (A0 : Heap) (v : Value) (A1 : Heap) (v' : Value) (A' : Heap) : Prop := A0.length ≤ A1.length ∧ (∀ i, i < A0.length → hget A1 i = hget A0 i) ∧ aGC A0 v A1 = (v', A')
theorem Kept.mk' {A0 X A' : Heap} {v v' : Value} (h : aGC A0 v (A0 ++ X) = (v', A')) : Kept A0 v (A0 ++ X) v' A' := ⟨by simp, fun i hi => by rw [hget_append, if_pos hi], h⟩
/-- THE REST OF A CALL, by what is kept of its result: v' and the rows A'. -/
def EndsG (P : Program) (G : Nat) (fn : Func) (A0 : Heap) (v' : Value) (A' : Heap) (todo : List It) (l : List Value) (A : Heap) : Prop := ∃ v A1, Kept A0 v A1 v' A' ∧ EndsA P G fn A0 v A1 todo l A
section
variable {P : Program} {G : Nat} {E : Env} {fn : Func} {A0 A A' A2 : Heap} {v' : Value} {l l1 l2 : List Value} {lim : Nat}
theorem EndsG.run (hP : ProgOK P G) (hE : EnvOK P G E) {k kk : List It} (h1 : Runs P E lim k l A (l2, A2, none)) (h2 : EndsG P G fn A0 v' A' kk l2 A2) : EndsG P G fn A0 v' A' (k ++ kk) l A := let ⟨v, A1, g, h⟩ := h2; ⟨v, A1, g, EndsA.run hP hE h1 h⟩
theorem EndsG.ret (hP : ProgOK P G) (hE : EnvOK P G E) {k : List It} {X : Heap} {v : Value} {j : Option Code} (h1 : Runs P E lim k l A (l1, A0 ++ X, j)) (hj : retB j = true) (hres : aResults P fn l1 (A0 ++ X) = some v) (hgc : aGC A0 v (A0 ++ X) = (v', A')) : EndsG P G fn A0 v' A' k l A := ⟨v, A0 ++ X, Kept.mk' hgc, EndsA.ret hP hE h1 hj hres⟩
theorem EndsG.out (hP : ProgOK P G) (hE : EnvOK P G E) {k kk : List It} {X : Heap} {v : Value} (h1 : Runs P E lim k l A (l1, A0 ++ X, some .ret)) (hres : aResults P fn l1 (A0 ++ X) = some v) (hgc : aGC A0 v (A0 ++ X) = (v', A')) : EndsG P G fn A0 v' A' (k ++ kk) l A := ⟨v, A0 ++ X, Kept.mk' hgc, EndsA.out hP hE h1 hres⟩
theorem EndsG.round (hP : ProgOK P G) (hE : EnvOK P G E) {c : Code} {k : List It} (h1 : Runs P E lim [.code c] l A (l2, A2, none)) (h2 : EndsG P G fn A0 v' A' (.code c :: .inLoop c :: k) l2 A2) : EndsG P G fn A0 v' A' (.code c :: .inLoop c :: k) l A := let ⟨v, A1, g, h⟩ := h2; ⟨v, A1, g, EndsA.round hP hE h1 h⟩
theorem EndsG.seqO {c : Code} {k : List It} (h0 : isSeqC c = true) (h : EndsG P G fn A0 v' A' (.code (codeL c) :: .code (codeR c) :: k) l A) : EndsG P G fn A0 v' A' (.code c :: k) l A := by
  obtain ⟨v, A1, g, h⟩ := h
  refine ⟨v, A1, g, ?_⟩
  rw [isSeqC_eq h0]
  exact EndsA.seq h
theorem EndsG.blockLoop {C B : Code} {id : Nat} {k : List It} (hC : C = .block id (.loop B)) (h : EndsG P G fn A0 v' A' (.code B :: .inLoop B :: .inBlock id :: k) l A) : EndsG P G fn A0 v' A' (.code C :: k) l A := let ⟨v, A1, g, h⟩ := h; ⟨v, A1, g, EndsA.blockLoop hC h⟩
theorem EndsG.renumS {todo : List It} {X R : Heap} {ids : List Nat} {m : List Keep} {fs : List Value} (hids : (ids.all fun i => decide (A0.length ≤ i)) = true) (hnd : nodupB ids = true) (hm : decide (fn.ntmps ≤ m.length) = true)
    (hrows : RowsBy (inNum A0.length ids) (A0 ++ X) ids R) (hl : SlotsTo (inNum A0.length ids) m l l2 fs) (h : EndsG P G fn A0 v' A' todo l2 (A0 ++ R)) : EndsG P G fn A0 v' A' todo l (A0 ++ X) := by
  obtain ⟨v, A1, g, h⟩ := h
  refine ⟨v, A1, g, EndsA.renumS (B := A0) rfl base_same (fun i hi => ?_) hnd (of_decide_eq_true hm) hrows hl h⟩
  have := List.all_eq_true.1 hids i hi
  simpa using this
theorem EndsG.says (hP : ProgOK P G) {f : FuncId} {c : Code} {args : List Value} (hf : P.funcs[f]? = some fn) (hb : fn.body = some c) (hnt : decide (fn.ntmps < args.length) = false) (h : EndsG P G fn A v' A' [.code c] (padTo fn.ntmps args) A) : SaysAt P G f args A v' A' := by
  obtain ⟨v, A1, ⟨g1, g2, g3⟩, h⟩ := h
  exact EndsA.says hP hf hb (of_decide_eq_false hnt) h g1 g2 g3
end
theorem firstP_hit {p : Nat → Bool} {i d : Nat} (h : p i = true) : firstP p i (d + 1) = some i := by simp only [firstP, h, if_true]
theorem firstP_miss {p : Nat → Bool} {i d : Nat} (h : p i = false) : firstP p i (d + 1) = firstP p (i + 1) d := by simp only [firstP, h, Bool.false_eq_true, if_false]
theorem gc_of {A A' : Heap} {v v' : Value} {ids : List Nat} {r : Option ARow} {R : Heap} (h1 : valIds A.length v = ids) (h2 : valRen A.length ids v = some v') (h3 : keptRows A' ids = some (r :: R)) (h4 : nodupB ids = true) : aGC A v A' = (v', A ++ (r :: R)) := by
  unfold aGC
  rw [h1, h2, h3]
  simp [h4]
/-- Kept rows, said otherwise. -/
theorem EndsG.rows {P : Program} {G : Nat} {fn : Func} {A0 A' : Heap} {v' : Value} {todo : List It} {l : List Value} {R R' : Heap} (e : R' = R) (h : EndsG P G fn A0 v' A' todo l (A0 ++ R')) : EndsG P G fn A0 v' A' todo l (A0 ++ R) := e ▸ h
/-- The value at the round at which a loop is left, or the one at its end. -/
def ofP (o : Option Nat) (f : Nat → Value) (v : Value) : Value := match o with
  | some k => f k
  | none => v
/-- A slot's kind: it may hold a bool, or it never does. -/
def JB (bs : List Nat) (k : Nat) : Bool := bs.elem k
/-- Slots of which nothing is known but where bools may be. -/
def JF (bs : List Nat) (f : Nat → Value) : Prop := ∀ k, (JB bs k = true → freeB (f k) = true) ∧ (JB bs k = false → boolB (f k) = false)
inductive JL (bs : List Nat) : Nat → List Value → Prop
  | nil {k : Nat} : JL bs k []
  | bo {k : Nat} {v : Value} {l : List Value} (hb : JB bs k = true) (h : freeB v = true) (t : JL bs (k + 1) l) : JL bs k (v :: l)
  | no {k : Nat} {v : Value} {l : List Value} (hb : JB bs k = false) (h : boolB v = false) (t : JL bs (k + 1) l) : JL bs k (v :: l)
theorem JL.get {bs : List Nat} {d : Value} (hd : atomB d = true) (hd' : boolB d = false) {k : Nat} {l : List Value} (h : JL bs k l) : ∀ i, (JB bs (k + i) = true → freeB (l.getD i d) = true) ∧ (JB bs (k + i) = false → boolB (l.getD i d) = false) := by
  induction h with
  | nil =>
    intro i
    simp only [List.getD_nil]
    exact ⟨fun _ => by cases d <;> simp_all [freeB, atomB], fun _ => hd'⟩
  | @bo k v l hb hv _ ih =>
    intro i
    cases i with
    | zero => exact ⟨fun _ => hv, fun h => (by rw [Nat.add_zero, hb] at h; cases h)⟩
    | succ i => have := ih i; rw [show k + 1 + i = k + (i + 1) by omega] at this; exact this
  | @no k v l hb hv _ ih =>
    intro i
    cases i with
    | zero => exact ⟨fun h => (by rw [Nat.add_zero, hb] at h; cases h), fun _ => hv⟩
    | succ i => have := ih i; rw [show k + 1 + i = k + (i + 1) by omega] at this; exact this
theorem JL.fn {bs : List Nat} {l : List Value} (h : JL bs 0 l) : JF bs (fun k => l.getD k (.int .i64 0)) := fun k => by
  have := h.get (d := .int .i64 0) rfl rfl k
  rwa [Nat.zero_add] at this
end Go.Abs
/-
Rows of a caller, one by one; ranges over functions.
-/
namespace Go.Abs
open Go
/-- Rows of the caller, one by one. -/
inductive BasesBy (g : Nat → Option Nat) : Heap → Heap → Heap → Prop
  | nil {A : Heap} : BasesBy g [] A []
  | cons {x y z : Option ARow} {X Y Z : Heap} (h : BaseBy g x y z) (t : BasesBy g X Y Z) : BasesBy g (x :: X) (y :: Y) (z :: Z)
theorem BasesBy.get {g : Nat → Option Nat} {X Y Z : Heap} (h : BasesBy g X Y Z) : ∀ i, i < X.length → BaseBy g (hget X i) (hget Y i) (hget Z i) := by
  induction h with
  | nil => intro i hi; simp at hi
  | cons h _ ih =>
    intro i hi
    cases i with
    | zero => exact h
    | succ i => exact ih i (by simpa using hi)
/-- The rounds of a range over a function. -/
def rfA : Code → Code
  | .rangeFunc _ _ x _ => x
  | c => c
def rfB : Code → Code
  | .rangeFunc _ _ _ x => x
  | c => c
theorem Runs.blockRF {P : Program} {E : Env} {lim id f : Nat} {g : Operand} {ps : Array Tmp} {asg bo C : Code} {l tm : List Value} {A A' : Heap} {first cap : Array Value} {v : Value} {ps' : Array Tmp} {asg' bo' : Code} {st : LoopState} (hC : C = .block id (.rangeFunc g ps asg bo)) (hg : ev l g = .func (.func f) first cap)
    (hc : Gives P E lim f (first.toList ++ [.func (.yield A.length) #[] #[]] ++ cap.toList) (A ++ [some (.loop l ps asg bo .ready none)]) (v, A')) (hr : hget A' A.length = some (.loop tm ps' asg' bo' st none)) (hst : st ≠ .busy) :
    Runs P E lim [.code C] l A (l, hset A' A.length (some (.loop tm ps' asg' bo' .exhausted none)), none) := by
  subst hC
  exact Runs.block ((Runs.rangeFunc hg hc hr hst).app (kk := [.inBlock id]) ⟨2, rfl⟩)
section
variable {P : Program} {G : Nat} {fn : Func} {A0 A1 A : Heap} {v : Value} {l : List Value}
theorem EndsA.seqO {c : Code} {k : List It} (h0 : isSeqC c = true) (h : EndsA P G fn A0 v A1 (.code (codeL c) :: .code (codeR c) :: k) l A) : EndsA P G fn A0 v A1 (.code c :: k) l A := by
  rw [isSeqC_eq h0]
  exact EndsA.seq h
end
end Go.Abs
/-
Arguments of numbers, bools, strings, and slices of rows of them: cell by cell, and the first rows that they make.
-/
namespace Go.Abs
open Go

/-- The kind of a cell without an address. -/
inductive AK where
  | int (k : IntKind) | bool | str
inductive AtomAs : AK → Value → Prop
  | int {k : IntKind} {a : Int} (h : (Lit.int k a).wf = true) : AtomAs (.int k) (.int k a)
  | bool {b : Bool} : AtomAs .bool (.bool b)
  | str {s : ByteArray} (h : s.size ≤ maxLen) : AtomAs .str (.string s)
theorem AtomAs.atom {k : AK} {v : Value} (h : AtomAs k v) : atomB v = true := by cases h <;> rfl
inductive AtomsAs : List AK → List Value → Prop
  | nil : AtomsAs [] []
  | cons {k : AK} {v : Value} {ks : List AK} {cs : List Value} (h : AtomAs k v) (t : AtomsAs ks cs) : AtomsAs (k :: ks) (v :: cs)
theorem AtomsAs.len {ks : List AK} {cs : List Value} (h : AtomsAs ks cs) : cs.length = ks.length := by
  induction h with
  | nil => rfl
  | cons _ _ ih => simp [ih]
theorem AtomsAs.all {ks : List AK} {cs : List Value} (h : AtomsAs ks cs) : cs.all atomB = true := by
  induction h with
  | nil => rfl
  | cons h _ ih => simp [h.atom, ih]
theorem AtomsAs.int_inv {k : IntKind} {ks : List AK} {cs : List Value} (h : AtomsAs (.int k :: ks) cs) : ∃ a cs', cs = .int k a :: cs' ∧ (Lit.int k a).wf = true ∧ AtomsAs ks cs' := by
  cases h with
  | cons h t => cases h with
    | int h => exact ⟨_, _, rfl, h, t⟩
theorem AtomsAs.end {cs : List Value} (h : AtomsAs [] cs) : cs = [] := by cases h; rfl

/-- The kind of an argument's cell: without an address, or a slice of elements of such cells. -/
inductive ArgK where
  | atom (a : AK) | list (e : TypeId) (l : List AK)
def atomsOf : List ArgK → Option (List AK)
  | [] => some []
  | .atom a :: ks => (atomsOf ks).map (a :: ·)
  | .list .. :: _ => none

/-- n elements of these cells, from an address on. -/
def ListAt (w : World) (a : Addr) (l : List AK) (n : Nat) (cs : List Value) : Prop :=
  cs.length = n * l.length ∧ (∀ i, i < n * l.length → w.cell? (a.add i) = cs[i]?) ∧ ∀ i, i < n → AtomsAs l ((cs.drop (i * l.length)).take l.length)
inductive CellsAs (w : World) : List ArgK → List Value → Prop
  | nil : CellsAs w [] []
  | atom {a : AK} {v : Value} {ks : List ArgK} {cs : List Value} (h : AtomAs a v) (t : CellsAs w ks cs) : CellsAs w (.atom a :: ks) (v :: cs)
  | none {e : TypeId} {l : List AK} {ks : List ArgK} {cs : List Value} (t : CellsAs w ks cs) : CellsAs w (.list e l :: ks) (.slice none 0 0 :: cs)
  | list {e : TypeId} {l : List AK} {ks : List ArgK} {cs rows : List Value} {a : Addr} {n c : Nat} (hn : n ≤ c) (h : ListAt w a l n rows) (hc : c ≠ 0 → ∃ v, w.cell? a = some v) (hl : 0 < l.length) (t : CellsAs w ks cs) : CellsAs w (.list e l :: ks) (.slice (some a) n c :: cs)
theorem CellsAs.append {w : World} {ks ls : List ArgK} {cs ds : List Value} (h : CellsAs w ks cs) (h' : CellsAs w ls ds) : CellsAs w (ks ++ ls) (cs ++ ds) := by
  induction h with
  | nil => exact h'
  | atom h _ ih => exact .atom h ih
  | none _ ih => exact .none ih
  | list hn h hc hl _ ih => exact .list hn h hc hl ih
theorem CellsAs.atoms {w : World} {ks : List ArgK} {cs : List Value} (h : CellsAs w ks cs) : ∀ {l : List AK}, atomsOf ks = some l → AtomsAs l cs := by
  induction h with
  | nil => intro l h; cases h; exact .nil
  | atom h _ ih =>
    intro l hl
    simp only [atomsOf, Option.map_eq_some_iff] at hl
    obtain ⟨r, hr, rfl⟩ := hl
    exact .cons h (ih hr)
  | none _ _ => intro l hl; cases hl
  | list _ _ _ _ _ _ => intro l hl; cases hl
theorem CellsAs.int_inv {w : World} {k : IntKind} {ks : List ArgK} {cs : List Value} (h : CellsAs w (.atom (.int k) :: ks) cs) : ∃ a cs', cs = .int k a :: cs' ∧ (Lit.int k a).wf = true ∧ CellsAs w ks cs' := by
  cases h with
  | atom h t => cases h with
    | int h => exact ⟨_, _, rfl, h, t⟩
theorem CellsAs.end {w : World} {cs : List Value} (h : CellsAs w [] cs) : cs = [] := by cases h; rfl

def argRow (F : TypeId → Option (List ArgK)) (P : Program) : List Field → Nat → Option (List ArgK)
  | [], _ => some []
  | f :: fs, off => match F f.type with
    | some l => if f.offset == off && P.cellsOf f.type == l.length then (argRow F P fs (off + l.length)).map (l ++ ·) else none
    | none => none
/-- The kinds of the cells of an argument's type. -/
def argKinds (P : Program) : Nat → TypeId → Option (List ArgK)
  | 0, _ => none
  | n + 1, t => match P.underlying t with
    | some (.int k) => some [.atom (.int k)]
    | some .bool => some [.atom .bool]
    | some .string => some [.atom .str]
    | some (.slice e) => match argKinds P n e with
      | some ks => match atomsOf ks with
        | some l => if P.cellsOf e == l.length && decide (0 < l.length) then some [.list e l] else none
        | none => none
      | none => none
    | some (.struct fs) => match argRow (argKinds P n) P fs.toList 0 with
      | some l => if P.cellsOf t == l.length then some l else none
      | none => none
    | some (.array m e) => match argKinds P n e with
      | some l => if P.cellsOf e == l.length && P.cellsOf t == m * l.length then some (List.replicate m l).flatten else none
      | none => none
    | _ => none

theorem add_add (a : Addr) (x j : Nat) : (a.add x).add j = a.add (x + j) := by
  unfold Addr.add
  by_cases hj : j = 0
  · subst hj; simp
  · by_cases hx : x = 0
    · subst hx; simp [hj]
    · have : x + j ≠ 0 := by omega
      simp [hj, hx, Nat.add_assoc]

section
variable {H : Type} {enc : TypeId × Value → H} {P : Program} {w : World} {base : Nat} {held : Bool}
theorem argRow_of {F : TypeId → Option (List ArgK)} {T : TypeId → List Value → Prop} (hT : ∀ t l c, F t = some l → T t c → CellsAs w l c) :
    ∀ (fs : List Field) (off : Nat) (ks : List ArgK) (cs : List Value), argRow F P fs off = some ks → (∀ f ∈ fs, T f.type ((cs.drop f.offset).take (P.cellsOf f.type))) → off + ks.length = cs.length → CellsAs w ks (cs.drop off)
  | [], off, ks, cs, h, _, hl => by
    cases h
    simp at hl
    rw [List.drop_eq_nil_of_le (by omega)]
    exact .nil
  | f :: fs, off, ks, cs, h, hf, hl => by
    unfold argRow at h
    split at h
    · rename_i l hF
      split at h
      · rename_i hc
        simp only [Bool.and_eq_true, beq_iff_eq] at hc
        simp only [Option.map_eq_some_iff] at h
        obtain ⟨r, hr, rfl⟩ := h
        simp only [List.length_append] at hl
        have g1 := argRow_of hT fs (off + l.length) r cs hr (fun f hm => hf f (List.mem_cons_of_mem _ hm)) (by omega)
        have g3 := hT _ _ _ hF (hf f (by simp))
        rw [hc.1, hc.2] at g3
        have := g3.append g1
        rwa [← List.drop_drop, List.take_append_drop] at this
      · cases h
    · cases h
theorem argArr_of {l : List ArgK} {n : Nat} {cs : List Value} (hlen : cs.length = n * l.length) (hT : ∀ i, i < n → CellsAs w l ((cs.drop (i * l.length)).take l.length)) :
    ∀ (m k : Nat), k + m = n → CellsAs w (List.replicate m l).flatten (cs.drop (k * l.length))
  | 0, k, h => by
    have : k = n := by omega
    subst this
    rw [List.drop_eq_nil_of_le (by omega)]
    exact .nil
  | m + 1, k, h => by
    have h2 := hT k (by omega)
    have g1 := argArr_of hlen hT m (k + 1) (by omega)
    rw [List.replicate_succ, List.flatten_cons]
    have := h2.append g1
    rwa [Nat.succ_mul, ← List.drop_drop, List.take_append_drop] at this
/-- WHAT IS READ AS SUCH A TYPE. -/
theorem args_of : ∀ (n : Nat) (t : TypeId) (ks : List ArgK) (fuel : Nat) (cs : List Value) (x : DataW H × List MemPlace), argKinds P n t = some ks → DataW.trod enc P w base (fun _ => true) held fuel t cs = some x → CellsAs w ks cs
  | 0, t, ks, fuel, cs, x, h, _ => by cases h
  | n + 1, t, ks, fuel, cs, x, h, hx => by
    have ih := fun t ks fuel cs x => args_of n t ks fuel cs x
    unfold argKinds at h
    split at h
    · rename_i k ht
      cases h
      obtain ⟨a, rfl, rfl, hw⟩ := DataW.trod_int ht hx
      exact .atom (.int hw) .nil
    · rename_i ht
      cases h
      obtain ⟨b, rfl, rfl⟩ := DataW.trod_bool ht hx
      exact .atom .bool .nil
    · rename_i ht
      cases h
      obtain ⟨s, rfl, rfl, hs⟩ := DataW.trod_string ht hx
      exact .atom (.str hs) .nil
    · rename_i e ht
      split at h
      · rename_i ks' hks
        split at h
        · rename_i l hl
          split at h
          · rename_i hc
            cases h
            simp only [Bool.and_eq_true, beq_iff_eq, decide_eq_true_eq] at hc
            obtain ⟨hc, hpos⟩ := hc
            rcases DataW.trod_slice ht hx with ⟨rfl, _⟩ | ⟨a, len, cap, elems, rest, m, rfl, rfl, rfl, hb, hlc, hm, hlen, hel, hsp, _⟩
            · exact .none .nil
            · obtain ⟨hrl, hrest⟩ := hsp rfl
              rw [hc] at hel hrest
              have one : ∀ (i : Nat) (y : DataW H × List MemPlace), (w.cells? base (a.add (i * l.length)) l.length).bind (DataW.trod enc P w base (fun _ => true) held m e) = some y → ∃ ci, AtomsAs l ci ∧ ∀ r, r < l.length → w.cell? (a.add (i * l.length + r)) = ci[r]? := by
                intro i y hy
                obtain ⟨ci, h1, h2⟩ := Option.bind_eq_some_iff.1 hy
                obtain ⟨_, _, h3⟩ := World.cells?_some h1
                refine ⟨ci, (ih e ks' m ci y hks h2).atoms hl, fun r hr => ?_⟩
                rw [← add_add]
                exact h3 r hr
              have each : ∀ i, i < len → ∃ ci, AtomsAs l ci ∧ ∀ r, r < l.length → w.cell? (a.add (i * l.length + r)) = ci[r]? := by
                intro i hi
                have := hel i hi
                have hi' : i < elems.length := by omega
                rw [List.getElem?_eq_getElem hi'] at this
                exact one i _ this
              let rows : List Value := (List.range (len * l.length)).map fun j => (w.cell? (a.add j)).getD undef
              have hat : ∀ j, j < len * l.length → w.cell? (a.add j) = rows[j]? := by
                intro j hj
                have hi : j / l.length < len := Nat.div_lt_of_lt_mul (by rwa [Nat.mul_comm])
                have hr : j % l.length < l.length := Nat.mod_lt _ hpos
                obtain ⟨ci, h1, h2⟩ := each (j / l.length) hi
                have h3 := h2 (j % l.length) hr
                have e1 : j / l.length * l.length + j % l.length = j := by rw [Nat.mul_comm]; exact Nat.div_add_mod j l.length
                rw [e1] at h3
                have hlt : j % l.length < ci.length := by rw [h1.len]; exact hr
                rw [List.getElem?_eq_getElem hlt] at h3
                simp only [rows, List.getElem?_map, List.getElem?_range hj, Option.map_some, h3, Option.getD_some]
              refine .list hlc (rows := rows) ⟨by simp [rows], hat, fun i hi => ?_⟩ (fun hcap => ?_) hpos .nil
              · obtain ⟨ci, h1, h2⟩ := each i hi
                have : (rows.drop (i * l.length)).take l.length = ci := by
                  apply List.ext_getElem?
                  intro r
                  rw [List.getElem?_take]
                  split
                  · rename_i hr
                    rw [List.getElem?_drop, ← hat _ (by
                      have : (i + 1) * l.length ≤ len * l.length := Nat.mul_le_mul_right _ hi
                      rw [Nat.succ_mul] at this
                      omega), h2 r hr]
                  · rename_i hr
                    rw [List.getElem?_eq_none (by rw [h1.len]; omega)]
                rw [this]; exact h1
              · have e0 : a.add (0 * l.length + 0) = a := by simp [Addr.add]
                have fin : ∀ ci, AtomsAs l ci → (∀ r, r < l.length → w.cell? (a.add (0 * l.length + r)) = ci[r]?) → ∃ v, w.cell? a = some v := by
                  intro ci h1 h2
                  have h3 := h2 0 hpos
                  rw [e0, List.getElem?_eq_getElem (by rw [h1.len]; exact hpos)] at h3
                  exact ⟨_, h3⟩
                by_cases h0 : 0 < len
                · obtain ⟨ci, h1, h2⟩ := each 0 h0
                  exact fin ci h1 h2
                · have hlen0 : len = 0 := by omega
                  subst hlen0
                  have h1 := hrest 0 (by omega)
                  rw [Nat.zero_add] at h1
                  have h2 : 0 < rest.length := by omega
                  rw [List.getElem?_eq_getElem h2] at h1
                  obtain ⟨ci, h3, h4⟩ := one 0 _ h1
                  exact fin ci h3 h4
          · cases h
        · cases h
      · cases h
    · rename_i fs ht
      split at h
      · rename_i l hl
        split at h
        · rename_i hc
          cases h
          have hc : P.cellsOf t = ks.length := by simpa using hc
          obtain ⟨xs, m, rfl, _, h1, h2, h3⟩ := DataW.trod_struct ht hx
          have := argRow_of (w := w) (T := fun t c => ∃ x, DataW.trod enc P w base (fun _ => true) held m t c = some x) (fun t l c hl hx => hx.elim fun x hx => ih t l m c x hl hx) fs.toList 0 ks cs hl (fun f hf => by
            obtain ⟨i, hi⟩ := List.getElem?_of_mem hf
            have h4 := h3 i f (by simpa using hi)
            have hi' : i < xs.length := by
              have := (List.getElem?_eq_some_iff.1 hi).1
              rw [h2]; simpa using this
            rw [List.getElem?_eq_getElem hi'] at h4
            exact ⟨_, h4⟩) (by omega)
          simpa using this
        · cases h
      · cases h
    · rename_i m e ht
      split at h
      · rename_i l hl
        split at h
        · rename_i hc
          cases h
          simp only [Bool.and_eq_true, beq_iff_eq] at hc
          obtain ⟨xs, f', hf, _, h1, h2, h3⟩ := DataW.trod_array ht hx
          have := argArr_of (w := w) (l := l) (n := m) (cs := cs) (by rw [h1, hc.2]) (fun i hi => by
            have h4 := h3 i hi
            have hi' : i < xs.length := by omega
            rw [List.getElem?_eq_getElem hi'] at h4
            have := ih _ _ _ _ _ hl h4
            rwa [hc.1] at this) m 0 (by omega)
          simpa using this
        · cases h
      · cases h
    · cases h
end

/-- A row that is read alone comes to rows of which none is own. -/
theorem Rel.putRo {P : Program} {ρ : Loc} {A : Heap} {w : World} (hR : Rel P ρ A w) (hn : noOwn A = true) {cs : List Value} {e : TypeId} {L : L4} (hrow : RowOK P (ρ.put A.length L) w L (.cells cs e .ro)) : Rel P (ρ.put A.length L) (A ++ [some (.cells cs e .ro)]) w := by
  have h0 : ρ A.length = none := hR.sup _ (Nat.le_refl _)
  have hx := Ext.put (L := L) h0
  have get : ∀ i r, hget (A ++ [some (.cells cs e .ro)]) i = some r → (i < A.length ∧ hget A i = some r) ∨ (i = A.length ∧ r = .cells cs e .ro) := by
    intro i r hi
    rw [hget_append] at hi
    split at hi
    · exact .inl ⟨‹_›, hi⟩
    · rename_i hge
      have hlt : i - A.length < 1 := by simpa using hget_lt hi
      have : i - A.length = 0 := by omega
      rw [this] at hi
      simp at hi
      exact .inr ⟨by omega, hi.symm⟩
  have old : ∀ i, i < A.length → ρ.put A.length L i = ρ i := fun i hi => by simp [Loc.put, Nat.ne_of_lt hi]
  refine ⟨fun i hi => ?_, fun i r hi => ?_, fun i r M hi hM => ?_, fun i j r s M N hi _ _ _ _ ho => ?_⟩
  · simp at hi
    have : i ≠ A.length := by omega
    simp only [Loc.put, if_neg this]
    exact hR.sup i (by omega)
  · rcases get i r hi with ⟨hlt, h1⟩ | ⟨rfl, _⟩
    · rw [old i hlt]; exact hR.has i r h1
    · exact ⟨L, by simp⟩
  · rcases get i r hi with ⟨hlt, h1⟩ | ⟨rfl, rfl⟩
    · rw [old i hlt] at hM
      exact (hR.row i r M h1 hM).move hx rfl
    · simp at hM
      subst hM
      exact hrow
  · rcases get i r hi with ⟨hlt, h1⟩ | ⟨rfl, rfl⟩
    · exfalso
      obtain ⟨M', hM'⟩ := hR.has i r h1
      exact noOwn_spec hn ⟨i, r, M', h1, hM', ho, rfl⟩
    · cases ho
theorem noOwn_put {A : Heap} (hn : noOwn A = true) {cs : List Value} {e : TypeId} : noOwn (A ++ [some (.cells cs e .ro)]) = true := by
  unfold noOwn at hn ⊢
  rw [List.all_append, hn]
  rfl
/-- The value of a slice among the arguments: nil, or that of the row i with n elements. -/
def sval (b : Bool) (i n : Nat) : Value := if b then .slice (some ⟨i, 0, none⟩) n n else .slice none 0 0
/-- n elements of these cells. -/
def ListOf (l : List AK) (n : Nat) (rows : List Value) : Prop := rows.length = n * l.length ∧ ∀ i, i < n → AtomsAs l ((rows.drop (i * l.length)).take l.length)
/-- A slice among the arguments makes a row. -/
theorem CellsAs.list_inv {P : Program} {ρ : Loc} {A : Heap} {w : World} {e : TypeId} {l : List AK} {ks : List ArgK} {cs : List Value} (h : CellsAs w (.list e l :: ks) cs) (hR : Rel P ρ A w) (hn : noOwn A = true) (hz : ∃ i cs e u, hget A i = some (.cells cs e u)) :
    ∃ v cs' b n rows ρ', cs = v :: cs' ∧ CellsAs w ks cs' ∧ ListOf l n rows ∧ (b = false → n = 0) ∧ VR ρ' (sval b A.length n) v ∧ Ext ρ ρ' ∧ Rel P ρ' (A ++ [some (.cells rows e .ro)]) w ∧ noOwn (A ++ [some (.cells rows e .ro)]) = true := by
  have h0 : ρ A.length = Option.none := hR.sup _ (Nat.le_refl _)
  -- a row of nothing
  have none_row : ∃ L : L4, L.esz = 0 ∧ ∀ ρ', RowOK P ρ' w L (.cells [] e .ro) := by
    obtain ⟨i, cs0, e0, u0, hi⟩ := hz
    obtain ⟨L, hL⟩ := hR.has i _ hi
    obtain ⟨cs', e', fz, b1, _⟩ := hR.row i _ L hi hL
    exact ⟨⟨L.blk, L.off, 0, L.fin⟩, rfl, fun ρ' => ⟨cs', e', fz, b1, fun o v hv => by simp at hv, fun _ _ => rfl, fun h => absurd rfl h⟩⟩
  cases h with
  | none t =>
    obtain ⟨L, _, hrow⟩ := none_row
    exact ⟨_, _, false, 0, [], ρ.put A.length L, rfl, t, ⟨by simp, fun i hi => by omega⟩, fun _ => rfl, .atom rfl, Ext.put h0 L, hR.putRo hn (hrow _), noOwn_put hn⟩
  | list hnc h hc hl t =>
    rename_i cs' rows a n c
    by_cases hc0 : c = 0
    · have hn0 : n = 0 := by omega
      subst hn0
      obtain ⟨L, hL0, hrow⟩ := none_row
      obtain ⟨h1, _, _⟩ := h
      have hr : rows = [] := List.length_eq_zero_iff.1 (by simpa using h1)
      subst hr
      refine ⟨_, _, true, 0, [], ρ.put A.length L, rfl, t, ⟨by simp, fun i hi => by omega⟩, (by intro h; cases h), ?_, Ext.put h0 L, hR.putRo hn (hrow _), noOwn_put hn⟩
      exact .slice (L := L) (Loc.put_self ρ A.length L) hnc (.inl hc0) (fun h => absurd hL0 h)
    · obtain ⟨v, hv⟩ := hc hc0
      obtain ⟨h1, h2, h3⟩ := h
      have hspot : a.spot = Option.none := by
        unfold World.cell? at hv
        split at hv
        · split at hv
          · cases hv
          · rename_i hs; simpa using hs
        · cases hv
      have ha : a = ⟨a.block, a.off, Option.none⟩ := by
        obtain ⟨b, o, s⟩ := a
        cases hspot
        rfl
      have hblk : ∃ cs' e' fz, w.heap[a.block]? = some (.cells cs' e' fz) := by
        unfold World.cell? at hv
        split at hv
        · rename_i c t fr hw; exact ⟨c, t, fr, hw⟩
        · cases hv
      obtain ⟨ds, e', fz, hw⟩ := hblk
      have cell : ∀ i v, w.cell? (a.add i) = some v → ds[a.off + i]? = some v := by
        intro i v hv
        unfold World.cell? at hv
        have hb : (a.add i).block = a.block := by unfold Addr.add; split <;> rfl
        have ho : (a.add i).off = a.off + i := by
          unfold Addr.add
          split
          · rename_i h0; rw [h0]; rfl
          · rfl
        rw [hb, hw] at hv
        simp only at hv
        split at hv
        · cases hv
        · rw [ho] at hv; exact hv
      let L : L4 := ⟨a.block, a.off, 0, 0⟩
      have hatoms : ∀ (o : Nat) (v : Value), rows[o]? = some v → atomB v = true := by
        intro o v hv
        have ho : o < rows.length := (List.getElem?_eq_some_iff.1 hv).1
        rw [h1] at ho
        have hi : o / l.length < n := Nat.div_lt_of_lt_mul (by rwa [Nat.mul_comm])
        have hall := (h3 _ hi).all
        have hm : ((rows.drop (o / l.length * l.length)).take l.length)[o % l.length]? = some v := by
          rw [List.getElem?_take, if_pos (Nat.mod_lt _ hl), List.getElem?_drop]
          have e1 : o / l.length * l.length + o % l.length = o := by rw [Nat.mul_comm]; exact Nat.div_add_mod o l.length
          rw [e1]; exact hv
        exact List.all_eq_true.1 hall v (List.mem_of_getElem? hm)
      have hrow : RowOK P (ρ.put A.length L) w L (.cells rows e .ro) := by
        refine ⟨ds, e', fz, hw, fun o v hv => ⟨v, ?_, .atom (hatoms o v hv)⟩, fun _ _ => rfl, fun h => absurd rfl h⟩
        have ho : o < n * l.length := by rw [← h1]; exact (List.getElem?_eq_some_iff.1 hv).1
        exact cell o v (by rw [h2 o ho]; exact hv)
      refine ⟨_, _, true, n, rows, ρ.put A.length L, rfl, t, ⟨h1, h3⟩, (by intro h; cases h), ?_, Ext.put h0 L, hR.putRo hn hrow, noOwn_put hn⟩
      exact .slice (L := L) (Loc.put_self ρ A.length L) hnc (.inr (by rw [ha]; rfl)) (fun h => absurd rfl h)
end Go.Abs
/-
Slices among the arguments, whatever rows there are: nil, without room, or a row.
-/
namespace Go.Abs
open Go
end Go.Abs
/-
Arguments of whole numbers alone: structs and arrays of them, cell by cell.
-/
namespace Go.Abs
open Go

/-- Cells that are whole numbers of these kinds. -/
inductive IntsAs : List IntKind → List Value → Prop
  | nil : IntsAs [] []
  | cons {k : IntKind} {a : Int} {ks : List IntKind} {cs : List Value} (h : (Lit.int k a).wf = true) (t : IntsAs ks cs) : IntsAs (k :: ks) (.int k a :: cs)
section
variable {H : Type} {enc : TypeId × Value → H} {P : Program} {w : World} {base : Nat} {spare : Nat → Bool} {held : Bool}
end
end Go.Abs
/-
The abstract machine: the tables that a row lists, as rows of the first heap; and behind a call that leaves all old blocks, what a row asks.
-/
namespace Go.Abs
open Go

/-- Where the parts begin. -/
def offs (ls : List (List Value)) : List Nat := (List.range ls.length).map fun i => (ls.take i).flatten.length
/-- The cells of a datum of plain parts, in their order. -/
def flatRow {H : Type} (P : Program) : Nat → TypeId → DataW H → Option (List Value)
  | 0, _, _ => none
  | fuel + 1, t, d =>
    match P.underlying t, d with
    | some .bool, .lit (.bool b) => some [.bool b]
    | some (.int k), .lit (.int k' n) => if k' = k then some [.int k n] else none
    | some (.array n e), .agg ds => (ds.mapM fun d => flatRow P fuel e d).bind fun ls => if ds.length = n ∧ offs ls = (List.range n).map (· * P.cellsOf e) then some ls.flatten else none
    | some (.struct fs), .agg ds => ((fs.toList.zip ds).mapM fun x => flatRow P fuel x.1.type x.2).bind fun ls => if ds.length = fs.size ∧ offs ls = fs.toList.map (·.offset) then some ls.flatten else none
    | _, _ => none

theorem flat_get : ∀ {ls : List (List Value)} {o : Nat} {v : Value}, ls.flatten[o]? = some v → ∃ (i : Nat) (a : List Value) (j : Nat), ls[i]? = some a ∧ a[j]? = some v ∧ o = (ls.take i).flatten.length + j
  | [], o, v, h => by simp at h
  | a :: ls, o, v, h => by
    rw [List.flatten_cons, List.getElem?_append] at h
    split at h
    · exact ⟨0, a, o, rfl, h, by simp⟩
    · rename_i hn
      obtain ⟨i, b, j, h1, h2, h3⟩ := flat_get h
      refine ⟨i + 1, b, j, by simpa using h1, h2, ?_⟩
      simp only [List.take_succ_cons, List.flatten_cons, List.length_append]
      omega
theorem offs_at {ls : List (List Value)} {i : Nat} {a : List Value} (h : ls[i]? = some a) : (offs ls)[i]? = some (ls.take i).flatten.length := by
  have hi : i < ls.length := (List.getElem?_eq_some_iff.1 h).1
  simp [offs, hi]
theorem mapM_back {α β : Type} {f : α → Option β} {l : List α} {r : List β} (h : l.mapM f = some r) {i : Nat} {b : β} (hb : r[i]? = some b) : ∃ a, l[i]? = some a ∧ f a = some b := by
  have hi : i < r.length := (List.getElem?_eq_some_iff.1 hb).1
  have hl : i < l.length := by rw [← Lib.mapM_length h]; exact hi
  obtain ⟨b', h1, h2⟩ := Lib.mapM_at h i l[i] (List.getElem?_eq_getElem hl)
  rw [hb] at h1
  cases h1
  exact ⟨l[i], List.getElem?_eq_getElem hl, h2⟩
theorem cut_get {cs : List Value} {o n j : Nat} {v : Value} (h : ((cs.drop o).take n)[j]? = some v) : cs[o + j]? = some v := by
  rw [List.getElem?_take] at h
  split at h
  · simpa [List.getElem?_drop] using h
  · cases h

theorem flatRow_spec {H : Type} {enc : TypeId × Value → H} {P : Program} {w : World} {base : Nat} {sp : Nat → Bool} {hd : Bool} : ∀ (n m : Nat) (t : TypeId) (d : DataW H) (l cs : List Value) (p : List MemPlace), flatRow P n t d = some l →
    DataW.trod enc P w base sp hd m t cs = some (d, p) → ∀ (o : Nat) (v : Value), l[o]? = some v → cs[o]? = some v
  | 0, _, _, _, _, _, _, h, _ => by cases h
  | n + 1, m, t, d, l, cs, p, h, ht => by
    intro o v ho
    unfold flatRow at h
    split at h
    · rename_i hu
      obtain ⟨b, rfl, e⟩ := DataW.trod_bool hu ht
      cases e; cases h; exact ho
    · rename_i k k' z hu
      obtain ⟨b, rfl, e, _⟩ := DataW.trod_int hu ht
      cases e
      simp only [if_true, Option.some.injEq] at h
      subst h; exact ho
    · rename_i na e ds hu
      obtain ⟨xs, m', rfl, ex, hlen, hxl, hx⟩ := DataW.trod_array hu ht
      obtain ⟨ls, hls, h⟩ := Option.bind_eq_some_iff.1 h
      split at h
      · rename_i hc
        cases h
        obtain ⟨i, a, j, h1, h2, rfl⟩ := flat_get ho
        obtain ⟨d', hd', hf⟩ := mapM_back hls h1
        cases ex
        simp only [List.getElem?_map, Option.map_eq_some_iff] at hd'
        obtain ⟨x, hx1, rfl⟩ := hd'
        have hi : i < na := by rw [← hxl]; exact (List.getElem?_eq_some_iff.1 hx1).1
        have hr := hx i hi
        rw [hx1] at hr
        have := flatRow_spec n m' e x.1 a _ x.2 hf hr j v h2
        have ho' := offs_at h1
        rw [hc.2] at ho'
        simp only [List.getElem?_map, List.getElem?_range hi, Option.map_some, Option.some.injEq] at ho'
        rw [← ho']
        exact cut_get this
      · cases h
    · rename_i fs ds hu
      obtain ⟨xs, m', rfl, ex, hlen, hxl, hx⟩ := DataW.trod_struct hu ht
      obtain ⟨ls, hls, h⟩ := Option.bind_eq_some_iff.1 h
      split at h
      · rename_i hc
        cases h
        obtain ⟨i, a, j, h1, h2, rfl⟩ := flat_get ho
        obtain ⟨fd, hd', hf⟩ := mapM_back hls h1
        cases ex
        obtain ⟨hf1, hd1⟩ := List.getElem?_zip_eq_some.1 hd'
        simp only [List.getElem?_map, Option.map_eq_some_iff] at hd1
        obtain ⟨x, hx1, hx2⟩ := hd1
        have hr := hx i fd.1 (by simpa using hf1)
        rw [hx1] at hr
        rw [← hx2] at hf
        have := flatRow_spec n m' fd.1.type x.1 a _ x.2 hf hr j v h2
        have ho' := offs_at h1
        rw [hc.2] at ho'
        simp only [List.getElem?_map, hf1, Option.map_some, Option.some.injEq] at ho'
        rw [← ho']
        exact cut_get this
      · cases h
    · cases h

/-- The tables of the list, as rows; other variables have none. -/
def tabRow (P : Program) (laid : List (String × DataW Unit)) (g : Nat) : Option ARow :=
  laid.findSome? fun x => if P.globalNamed x.1 = some g then (P.globals[g]?).bind fun v => (flatRow P 9 v.type x.2).bind fun cs => if cs.all atomB = true then some (.cells cs 0 .ro) else none else none
def tabRows (P : Program) (laid : List (String × DataW Unit)) (G : Nat) : Heap := (List.range G).map (tabRow P laid)
def tabLoc (G : Nat) : Loc := fun i => if i < G then some ⟨i, 0, 0, 0⟩ else none
theorem tabLoc_globs (G : Nat) : Globs (tabLoc G) G := fun g hg => ⟨0, 0, by simp [tabLoc, hg]⟩

theorem laidVars_mem {P : Program} {w : World} : ∀ {l : List (String × DataW Unit)} {ps : List MemPlace}, DataW.LaidVars P w l ps → ∀ x ∈ l, ∃ g t cs fuel p, P.globalNamed x.1 = some g ∧ (P.globals[g]?).map (·.type) = some t ∧ w.var? P x.1 = some cs ∧
    DataW.trod (fun _ => ()) P w 0 (fun _ => true) false fuel t cs.toList = some (x.2, p)
  | [], _, _, x, hx => by cases hx
  | y :: l, _, ⟨g, t, cs, fuel, p, q, h1, h2, h3, h4, h5, _⟩, x, hx => by
    rcases List.mem_cons.1 hx with rfl | hx
    · exact ⟨g, t, cs, fuel, p, h1, h2, h3, h4⟩
    · exact laidVars_mem h5 x hx

theorem tabRows_rel {P : Program} {laid : List (String × DataW Unit)} {G : Nat} {w : World} (h : laidMet P laid w) : Rel P (tabLoc G) (tabRows P laid G) w := by
  have get : ∀ i r, hget (tabRows P laid G) i = some r → i < G ∧ tabRow P laid i = some r := by
    intro i r hi
    rw [hget_eq] at hi
    simp only [tabRows, List.getElem?_map, Option.map_eq_some_iff] at hi
    obtain ⟨j, hj, hr⟩ := hi
    have hlt : i < G := by have := (List.getElem?_eq_some_iff.1 hj).1; simpa using this
    simp [hlt] at hj
    subst hj
    exact ⟨hlt, hr⟩
  have row : ∀ i r, tabRow P laid i = some r → ∃ cs, r = .cells cs 0 .ro ∧ ∃ cs' e' fz, w.heap[i]? = some (.cells cs' e' fz) ∧ cs.all atomB = true ∧ ∀ (o : Nat) (v : Value), cs[o]? = some v → cs'[o]? = some v := by
    intro i r hr
    obtain ⟨x, hx, hr⟩ := List.exists_of_findSome?_eq_some hr
    split at hr
    · rename_i hn
      obtain ⟨v, hv, hr⟩ := Option.bind_eq_some_iff.1 hr
      obtain ⟨cs, hcs, hr⟩ := Option.bind_eq_some_iff.1 hr
      by_cases hat : cs.all atomB = true
      case neg => rw [if_neg hat] at hr; cases hr
      rw [if_pos hat] at hr; cases hr
      obtain ⟨ps, hl, _⟩ := h
      obtain ⟨g, t, cs', fuel, p, h1, h2, h3, h4⟩ := laidVars_mem hl x hx
      rw [hn] at h1; cases h1
      rw [hv] at h2; cases h2
      refine ⟨cs, rfl, ?_⟩
      simp only [World.var?, hn, Option.bind_some] at h3
      split at h3
      · rename_i c e fz hw
        cases h3
        exact ⟨_, _, _, hw, hat, fun o v ho => by simpa using flatRow_spec 9 fuel _ _ cs _ p hcs h4 o v ho⟩
      · cases h3
    · cases hr
  have loc : ∀ i, i < G → tabLoc G i = some ⟨i, 0, 0, 0⟩ := fun i hi => by simp [tabLoc, hi]
  refine ⟨fun i hi => ?_, fun i r hi => ⟨_, loc i (get i r hi).1⟩, fun i r L hi hL => ?_, fun i j r s L M hi hj hL hM _ ho => ?_⟩
  · simp [tabRows] at hi
    simp [tabLoc, Nat.not_lt.2 hi]
  · obtain ⟨hlt, hr⟩ := get i r hi
    rw [loc i hlt] at hL; cases hL
    obtain ⟨cs, rfl, cs', e', fz, hw, hat, hc⟩ := row i r hr
    refine ⟨cs', e', fz, hw, fun o v hv => ⟨v, by simpa using hc o v hv, ?_⟩, fun _ _ => rfl, fun h => absurd rfl h⟩
    exact .atom (List.all_eq_true.1 hat v (List.mem_of_getElem? hv))
  · obtain ⟨hlt, hr⟩ := get i r hi
    obtain ⟨cs, rfl, _⟩ := row i r hr
    cases ho

open Go.ChangeShapes in
theorem post_of_still {H : Type} {enc : TypeId × Value → H} {P : Program} {f : Func} {s : ChangeSpec} {apart fresh handsOn again : Bool} {W W' : World} {args : Array Value} {v : Value} {ds gs : List (DataW H)} {before pa pv : List MemPlace}
    (hW : DataW.Whole enc P f.params.toList s.vars apart W args.toList ds gs before)
    (hres : ∀ (b : Nat) (sp : Nat → Bool) (hd : Bool), DataW.TrodAll enc P W' b sp hd f.resultTypes.toList (v.resultList f.resultTypes.size) (s.fn H (ds ++ gs)).results [])
    (hargs : ∀ sp : Nat → Bool, (∀ p ∈ before, sp p.block = true) → DataW.TrodAll enc P W' 0 sp true f.params.toList args.toList (s.fn H (ds ++ gs)).args pa)
    (hvars : ∀ sp : Nat → Bool, (∀ p ∈ before, sp p.block = true) → DataW.TrodVars enc P W' sp s.vars (s.fn H (ds ++ gs)).vars pv)
    (hps : before = pa ++ pv) (ho : W'.os = W.os ∧ W'.output = W.output) (hb : ∀ b, b < W.heap.size → W'.heap[b]? = W.heap[b]?)
    (hok : ∀ (j : Nat) (t : TypeId) (r : Value), f.resultTypes[j]? = some t → (v.resultList f.resultTypes.size)[j]? = some r → Value.okWide P W' .any 0 t r) :
    s.post enc P f apart fresh handsOn again W args v W' := by
  have hlt := hW.lt
  have hold : ∀ p ∈ before, (fun b => decide (b < W.heap.size)) p.block = true := fun p hp => by simpa using hlt p hp
  refine ⟨ds, gs, before, [], pa, pv, hW, hres _ _ _, hargs _ hold, hvars _ hold, kept_of_same ho hb _, fun _ => ?_⟩
  obtain ⟨_, _, _, _, _, hz, hn⟩ := hW
  refine ⟨hok, _, _, ([] ++ pa) ++ pv, ⟨[] ++ pa, pv, trodAll_append (hargs _ (fun _ _ => rfl)) (hres _ _ _), hvars _ (fun _ _ => rfl), rfl, ?_, ?_⟩, ?_⟩
  · intro b off hp
    have hp' : MemPlace.cell b off ∈ before := by rw [hps]; simpa using hp
    rw [frozen_of_same hb (hlt _ hp')]
    exact hz b off hp'
  · intro ha
    have := hn ha
    rw [hps] at this
    simpa using this
  · intro p hp _
    rw [hps]
    simpa using hp

/-- Behind a call that leaves all old blocks the arguments read as before. -/
theorem trodAll_still {H : Type} {enc : TypeId × Value → H} {P : Program} {W W' : World} (hb : ∀ b, b < W.heap.size → W'.heap[b]? = W.heap[b]?) : ∀ {ts : List TypeId} {vs : List Value} {ds : List (DataW H)} {ps : List MemPlace} {sp : Nat → Bool} {hd : Bool}, (∀ p ∈ ps, p.block < W.heap.size) → DataW.TrodAll enc P W 0 sp hd ts vs ds ps → DataW.TrodAll enc P W' 0 sp hd ts vs ds ps
  | [], [], [], _, _, _, _, h => h
  | _ :: _, _ :: _, _ :: _, _, _, _, hl, ⟨p, q, ⟨n, h1⟩, h2, e⟩ => ⟨p, q, ⟨n, DataW.trod_carry n _ _ _ h1 fun x hx => by
      have := hl x (by rw [e]; exact List.mem_append_left _ hx)
      cases x with
      | cell b off => simp only [World.sameAt, World.cell?, hb b this]
      | map b => exact hb b this⟩, trodAll_still hb (fun x hx => hl x (by rw [e]; exact List.mem_append_right _ hx)) h2, e⟩
  | [], _ :: _, _, _, _, _, _, h => h.elim
  | [], [], _ :: _, _, _, _, _, h => h.elim
  | _ :: _, [], _, _, _, _, _, h => h.elim
  | _ :: _, _ :: _, [], _, _, _, _, h => h.elim

/-- What is asked of the program's types, that arguments read again. -/
structure Reads (P : Program) : Prop where
  out : laidOutB P = true
  maps : mapsRowed P = true
  full : ((List.range P.types.size).all fun t => match P.underlying t with | some (.slice e) => decide (0 < P.cellsOf e) | _ => true) = true

open Go.ChangeShapes Go.RowKit in
/-- WHAT A LAW's ROW ASKS: true came back, all old blocks are as they were. -/
theorem law_post {H : Type} {enc : TypeId × Value → H} {P : Program} (hP : Reads P) {f : Func} {s : ChangeSpec} {apart fresh handsOn again : Bool} {W W' : World} {args : Array Value} {ds gs : List (DataW H)} {before : List MemPlace} {bt : TypeId}
    (hv : s.vars = []) (hfn : ∀ ds : List (DataW H), ds.length = f.params.size → s.fn H ds = { results := [.lit (.bool true)], args := ds }) (hr : f.resultTypes = #[bt]) (hu : P.underlying bt = some .bool) (hts : f.params.toList.all (fun t => decide (t < P.types.size)) = true)
    (hW : DataW.Whole enc P f.params.toList s.vars apart W args.toList ds gs before) (ho : W'.os = W.os ∧ W'.output = W.output) (hb : ∀ b, b < W.heap.size → W'.heap[b]? = W.heap[b]?) :
    s.post enc P f apart fresh handsOn again W args (.bool true) W' := by
  have hW0 := hW
  have hlt := hW.lt
  obtain ⟨p, q, hA, hV, rfl, hz, hn⟩ := hW
  rw [hv] at hV
  obtain ⟨rfl, rfl⟩ : gs = [] ∧ q = [] := by
    cases gs with
    | nil => exact ⟨rfl, hV⟩
    | cons => exact hV.elim
  have hlen : ds.length = f.params.size := by simpa using (Go.trodAll_length hA).2
  have hf := hfn ds hlen
  refine post_of_still (pa := p) (pv := []) hW0 (fun b sp hd => ?_) (fun sp hs => ?_) (fun sp _ => ?_) rfl ho hb ?_
  · rw [List.append_nil, hf, hr]
    exact trodAll_cons_mk (shut_bool hu true) trodAll_mk0
  · rw [List.append_nil, hf]
    refine trodAll_still hb (fun x hx => hlt x (by simpa using hx)) ?_
    exact DataW.TrodAll.respare (kids_rows hP.out hP.maps) (fun t e ht => slices_full_of P hP.full t e ht) (fun t ht => by simpa using List.all_eq_true.1 hts t ht) hA (fun x hx => hs x (by simpa using hx))
  · rw [List.append_nil, hf, hv]
    exact rfl
  · exact ok_one hr rfl (okWide_bool_mk hu true)
end Go.Abs
