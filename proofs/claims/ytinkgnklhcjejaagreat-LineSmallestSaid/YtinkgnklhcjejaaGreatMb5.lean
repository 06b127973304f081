/-
Joined: AwS, AwA, AwB, AwC, AwD, AwE, AwF, AwG, AwZ, AbS, AbX, AbF, Ab29.
-/
import Derived.Test.YtinkgnklhcjejaaGreatMb4
import Derived.Test.YtinkgnklhcjejaaGreatMb3
import Derived.OpenShut
import Derived.KernelRfl
import Derived.ChangeSlices
import Derived.Lib.LaidTab
import Derived.ReadAgain
import Derived.ChangeCalls
import Derived.RowKit
set_option linter.unusedVariables false
set_option linter.unusedSimpArgs false
set_option linter.unusedSectionVars false
/-
The document's examples, run: the states between the statements of awake.
-/
namespace Go.Proofs.YtinkgnklhcjejaaGreat
open Go Go.Abs
noncomputable def rowAwS_0 : Option ARow := (rrow [(.string (ByteArray.mk #[(UInt8.ofNat 97)])), (sl 14 0 2 2), (.string (ByteArray.mk #[(UInt8.ofNat 98)])), (sl 15 0 2 2), (.string (ByteArray.mk #[(UInt8.ofNat 99)])), (sl 16 0 2 2), (.string (ByteArray.mk #[(UInt8.ofNat 100)])), (sl 17 0 2 2)] 54)
noncomputable def rowAwS_1 : Option ARow := (rrow [(.string (ByteArray.mk #[(UInt8.ofNat 97)])), (sl 20 0 2 2), (.string (ByteArray.mk #[(UInt8.ofNat 98)])), (sl 21 0 2 2), (.string (ByteArray.mk #[(UInt8.ofNat 99)])), (sl 22 0 2 2), (.string (ByteArray.mk #[(UInt8.ofNat 100)])), (sl 23 0 2 2)] 54)
noncomputable def rowAwS_2 : Option ARow := (rrow [(.string (ByteArray.mk #[(UInt8.ofNat 97)])), (sl 30 0 2 2), (.string (ByteArray.mk #[(UInt8.ofNat 98)])), (sl 31 0 2 2), (.string (ByteArray.mk #[(UInt8.ofNat 99)])), (sl 32 0 2 2), (.string (ByteArray.mk #[(UInt8.ofNat 100)])), (sl 33 0 2 2)] 54)
noncomputable def rowAwS_3 : Option ARow := (rrow [(.string (ByteArray.mk #[(UInt8.ofNat 97)])), (sl 54 0 2 2), (.string (ByteArray.mk #[(UInt8.ofNat 98)])), (sl 55 0 2 2), (.string (ByteArray.mk #[(UInt8.ofNat 99)])), (sl 56 0 2 2), (.string (ByteArray.mk #[(UInt8.ofNat 100)])), (sl 57 0 2 2)] 54)
noncomputable def rowAwS_4 : Option ARow := (rrow [(.string (ByteArray.mk #[(UInt8.ofNat 97)])), (sl 60 0 2 2), (.string (ByteArray.mk #[(UInt8.ofNat 98)])), (sl 61 0 2 2), (.string (ByteArray.mk #[(UInt8.ofNat 99)])), (sl 62 0 2 2), (.string (ByteArray.mk #[(UInt8.ofNat 100)])), (sl 63 0 2 2)] 54)
noncomputable def rowAwS_5 : Option ARow := (rrow [(.string (ByteArray.mk #[(UInt8.ofNat 97)])), (sl 65 0 2 2), (.string (ByteArray.mk #[(UInt8.ofNat 98)])), (sl 66 0 2 2), (.string (ByteArray.mk #[(UInt8.ofNat 99)])), (sl 67 0 2 2), (.string (ByteArray.mk #[(UInt8.ofNat 100)])), (sl 68 0 2 2)] 54)
noncomputable def rowAwS_6 : Option ARow := (rrow [(.string (ByteArray.mk #[(UInt8.ofNat 97)])), (sl 70 0 2 2), (.string (ByteArray.mk #[(UInt8.ofNat 98)])), (sl 71 0 2 2), (.string (ByteArray.mk #[(UInt8.ofNat 99)])), (sl 72 0 2 2), (.string (ByteArray.mk #[(UInt8.ofNat 100)])), (sl 73 0 2 2)] 54)
noncomputable def rowAwS_7 : Option ARow := (rrow [(.string (ByteArray.mk #[(UInt8.ofNat 97)])), (sl 75 0 2 2), (.string (ByteArray.mk #[(UInt8.ofNat 98)])), (sl 76 0 2 2), (.string (ByteArray.mk #[(UInt8.ofNat 99)])), (sl 77 0 2 2), (.string (ByteArray.mk #[(UInt8.ofNat 100)])), (sl 78 0 2 2)] 54)
noncomputable def rowAwS_8 : Option ARow := (rrow [(.string (ByteArray.mk #[(UInt8.ofNat 97)])), (sl 80 0 2 2), (.string (ByteArray.mk #[(UInt8.ofNat 98)])), (sl 81 0 2 2), (.string (ByteArray.mk #[(UInt8.ofNat 99)])), (sl 82 0 2 2), (.string (ByteArray.mk #[(UInt8.ofNat 100)])), (sl 83 0 2 2)] 54)
noncomputable def rowAwS_9 : Option ARow := (rrow [(.string (ByteArray.mk #[(UInt8.ofNat 97)])), (sl 8 0 2 2), (.string (ByteArray.mk #[(UInt8.ofNat 98)])), (sl 9 0 2 2), (.string (ByteArray.mk #[(UInt8.ofNat 99)])), (sl 10 0 2 2), (.string (ByteArray.mk #[(UInt8.ofNat 100)])), (sl 11 0 2 2)] 54)
noncomputable def rowAwS_10 : Option ARow := (rrow [(.string (ByteArray.mk #[(UInt8.ofNat 97)])), (sl 0 0 2 2), (.string (ByteArray.mk #[(UInt8.ofNat 98)])), (sl 1 0 2 2), (.string (ByteArray.mk #[(UInt8.ofNat 99)])), (sl 2 0 2 2), (.string (ByteArray.mk #[(UInt8.ofNat 100)])), (sl 3 0 2 2)] 54)
noncomputable def rowAwS_11 : Option ARow := (rrow [I 3, I 3, I 2, I 2, I 2] 3)
noncomputable def rowAwS_12 : Option ARow := (rrow [I 0, I 0, I 1, I 1, I 1] 3)
noncomputable def rowAwS_13 : Option ARow := (rrow [I 0, I 1, I 0, I 1, I 2] 3)
noncomputable def rowAwS_14 : Option ARow := (rvar [(sl 26 0 2 2), (sl 27 0 2 2)] 30)
noncomputable def rowAwS_15 : Option ARow := (rvar [(sl 5 0 2 2), (sl 6 0 2 2)] 30)
noncomputable def rowAwS_16 : Option ARow := (rvar [I 0, I 1, I 1, I 6] 75)
noncomputable def rowAwS_17 : Option ARow := (rrow [I 0, I 2, I 1, I 3] 26)
noncomputable def rowAwS_18 : Option ARow := (rvar [I 4, I 2, I 0] 74)
noncomputable def L0 : List Value := List.replicate 359 undef
noncomputable def X0 : Heap := heap0
noncomputable def L1 : List Value := ([(.bool false)] ++ us 358)
noncomputable def X1 : Heap := []
noncomputable def L2 : List Value := ([(.bool false), (pt 7 0), I 0, U, U, U, U, U, U, U, U, U, U, U, U, U, U, U, U, U, U, U, U, U, U, U, U, U, U, U, U, U, U, U, U, U, U, U, U, U, U, U, U, U, U, U, U, U, U, U, U, (.tuple #[(.agg #[(sl 5 0 2 2), (sl 6 0 2 2)]), I 0]), (sl 4 0 4 4), (sl 4 0 2 2), (.tuple #[(.agg #[(sl 5 0 2 2), (sl 6 0 2 2)]), I 0]), (.agg #[(sl 5 0 2 2), (sl 6 0 2 2)]), I 0] ++ us 302)
noncomputable def X2 : Heap := [(rrow [I 10, I 20] 3), (rrow [I 12, I 20] 3), (rrow [I 11, I 26] 3), (rrow [I 30, I 20] 3), rowAwS_10, (rrow [I 9, I 19] 3), (rrow [I 13, I 21] 3), rowAwS_15]
noncomputable def L3 : List Value := ([(.bool false), (pt 7 0), I 0, (sl 13 0 1 1), I 0, U, U, U, U, U, U, U, U, U, U, U, U, U, U, U, U, U, U, U, U, U, U, U, U, U, U, U, U, U, U, U, U, U, U, U, U, U, U, U, U, U, U, U, U, U, U, (.tuple #[(.agg #[(sl 5 0 2 2), (sl 6 0 2 2)]), I 0]), (sl 4 0 4 4), (sl 4 0 2 2), (.tuple #[(.agg #[(sl 5 0 2 2), (sl 6 0 2 2)]), I 0]), (.agg #[(sl 5 0 2 2), (sl 6 0 2 2)]), I 0, (.tuple #[(sl 13 0 1 1), I 0]), (.agg #[(sl 5 0 2 2), (sl 6 0 2 2)]), (sl 12 0 4 4), (pt 12 4), (.agg #[(.string (ByteArray.mk #[(UInt8.ofNat 99)])), (sl 10 0 2 2)]), (.tuple #[(sl 13 0 1 1), I 0]), (sl 13 0 1 1), I 0] ++ us 294)
noncomputable def X3 : Heap := [(rrow [I 10, I 20] 3), (rrow [I 12, I 20] 3), (rrow [I 11, I 26] 3), (rrow [I 30, I 20] 3), rowAwS_10, (rrow [I 9, I 19] 3), (rrow [I 13, I 21] 3), rowAwS_15, (rrow [I 10, I 20] 3), (rrow [I 12, I 20] 3), (rrow [I 11, I 26] 3), (rrow [I 30, I 20] 3), rowAwS_9, (rrow [I 1] 3)]
noncomputable def L4 : List Value := ([(.bool false), (pt 7 0), I 0, (sl 13 0 1 1), I 0, (sl 19 0 1 1), I 0, U, U, U, U, U, U, U, U, U, U, U, U, U, U, U, U, U, U, U, U, U, U, U, U, U, U, U, U, U, U, U, U, U, U, U, U, U, U, U, U, U, U, U, U, (.tuple #[(.agg #[(sl 5 0 2 2), (sl 6 0 2 2)]), I 0]), (sl 4 0 4 4), (sl 4 0 2 2), (.tuple #[(.agg #[(sl 5 0 2 2), (sl 6 0 2 2)]), I 0]), (.agg #[(sl 5 0 2 2), (sl 6 0 2 2)]), I 0, (.tuple #[(sl 13 0 1 1), I 0]), (.agg #[(sl 5 0 2 2), (sl 6 0 2 2)]), (sl 12 0 4 4), (pt 12 4), (.agg #[(.string (ByteArray.mk #[(UInt8.ofNat 99)])), (sl 10 0 2 2)]), (.tuple #[(sl 13 0 1 1), I 0]), (sl 13 0 1 1), I 0, (.tuple #[(sl 19 0 1 1), I 0]), (.agg #[(sl 5 0 2 2), (sl 6 0 2 2)]), (sl 18 0 4 4), (pt 18 6), (.agg #[(.string (ByteArray.mk #[(UInt8.ofNat 100)])), (sl 17 0 2 2)]), (.tuple #[(sl 19 0 1 1), I 0]), (sl 19 0 1 1), I 0] ++ us 286)
noncomputable def X4 : Heap := [(rrow [I 10, I 20] 3), (rrow [I 12, I 20] 3), (rrow [I 11, I 26] 3), (rrow [I 30, I 20] 3), rowAwS_10, (rrow [I 9, I 19] 3), (rrow [I 13, I 21] 3), rowAwS_15, (rrow [I 10, I 20] 3), (rrow [I 12, I 20] 3), (rrow [I 11, I 26] 3), (rrow [I 30, I 20] 3), rowAwS_9, (rrow [I 1] 3), (rrow [I 10, I 20] 3), (rrow [I 12, I 20] 3), (rrow [I 11, I 26] 3), (rrow [I 30, I 20] 3), rowAwS_0, (rrow [I 0] 3)]
noncomputable def L5 : List Value := ([(.bool false), (pt 7 0), I 0, (sl 13 0 1 1), I 0, (sl 19 0 1 1), I 0, (pt 25 0), I 0, U, U, U, U, U, U, U, U, U, U, U, U, U, U, U, U, U, U, U, U, U, U, U, U, U, U, U, U, U, U, U, U, U, U, U, U, U, U, U, U, U, U, (.tuple #[(.agg #[(sl 5 0 2 2), (sl 6 0 2 2)]), I 0]), (sl 4 0 4 4), (sl 4 0 2 2), (.tuple #[(.agg #[(sl 5 0 2 2), (sl 6 0 2 2)]), I 0]), (.agg #[(sl 5 0 2 2), (sl 6 0 2 2)]), I 0, (.tuple #[(sl 13 0 1 1), I 0]), (.agg #[(sl 5 0 2 2), (sl 6 0 2 2)]), (sl 12 0 4 4), (pt 12 4), (.agg #[(.string (ByteArray.mk #[(UInt8.ofNat 99)])), (sl 10 0 2 2)]), (.tuple #[(sl 13 0 1 1), I 0]), (sl 13 0 1 1), I 0, (.tuple #[(sl 19 0 1 1), I 0]), (.agg #[(sl 5 0 2 2), (sl 6 0 2 2)]), (sl 18 0 4 4), (pt 18 6), (.agg #[(.string (ByteArray.mk #[(UInt8.ofNat 100)])), (sl 17 0 2 2)]), (.tuple #[(sl 19 0 1 1), I 0]), (sl 19 0 1 1), I 0, (.tuple #[(g2 1 2), I 0]), (.agg #[(sl 5 0 2 2), (sl 6 0 2 2)]), (sl 24 0 4 4), (.tuple #[(g2 1 2), I 0]), (g2 1 2), I 0] ++ us 280)
noncomputable def X5 : Heap := [(rrow [I 10, I 20] 3), (rrow [I 12, I 20] 3), (rrow [I 11, I 26] 3), (rrow [I 30, I 20] 3), rowAwS_10, (rrow [I 9, I 19] 3), (rrow [I 13, I 21] 3), rowAwS_15, (rrow [I 10, I 20] 3), (rrow [I 12, I 20] 3), (rrow [I 11, I 26] 3), (rrow [I 30, I 20] 3), rowAwS_9, (rrow [I 1] 3), (rrow [I 10, I 20] 3), (rrow [I 12, I 20] 3), (rrow [I 11, I 26] 3), (rrow [I 30, I 20] 3), rowAwS_0, (rrow [I 0] 3), (rrow [I 10, I 20] 3), (rrow [I 12, I 20] 3), (rrow [I 11, I 26] 3), (rrow [I 30, I 20] 3), rowAwS_1, (rvar [I 1, I 2] 59)]
noncomputable def L6 : List Value := ([(.bool false), (pt 7 0), I 0, (sl 13 0 1 1), I 0, (sl 19 0 1 1), I 0, (pt 25 0), I 0, (pt 28 0), I 0, U, U, U, U, U, U, U, U, U, U, U, U, U, U, U, U, U, U, U, U, U, U, U, U, U, U, U, U, U, U, U, U, U, U, U, U, U, U, U, U, (.tuple #[(.agg #[(sl 5 0 2 2), (sl 6 0 2 2)]), I 0]), (sl 4 0 4 4), (sl 4 0 2 2), (.tuple #[(.agg #[(sl 5 0 2 2), (sl 6 0 2 2)]), I 0]), (.agg #[(sl 5 0 2 2), (sl 6 0 2 2)]), I 0, (.tuple #[(sl 13 0 1 1), I 0]), (.agg #[(sl 5 0 2 2), (sl 6 0 2 2)]), (sl 12 0 4 4), (pt 12 4), (.agg #[(.string (ByteArray.mk #[(UInt8.ofNat 99)])), (sl 10 0 2 2)]), (.tuple #[(sl 13 0 1 1), I 0]), (sl 13 0 1 1), I 0, (.tuple #[(sl 19 0 1 1), I 0]), (.agg #[(sl 5 0 2 2), (sl 6 0 2 2)]), (sl 18 0 4 4), (pt 18 6), (.agg #[(.string (ByteArray.mk #[(UInt8.ofNat 100)])), (sl 17 0 2 2)]), (.tuple #[(sl 19 0 1 1), I 0]), (sl 19 0 1 1), I 0, (.tuple #[(g2 1 2), I 0]), (.agg #[(sl 5 0 2 2), (sl 6 0 2 2)]), (sl 24 0 4 4), (.tuple #[(g2 1 2), I 0]), (g2 1 2), I 0, (.tuple #[(.agg #[(sl 26 0 2 2), (sl 27 0 2 2)]), I 0]), (.agg #[(sl 5 0 2 2), (sl 6 0 2 2)]), (.tuple #[(.agg #[(sl 26 0 2 2), (sl 27 0 2 2)]), I 0]), (.agg #[(sl 26 0 2 2), (sl 27 0 2 2)]), I 0] ++ us 275)
noncomputable def X6 : Heap := [(rrow [I 10, I 20] 3), (rrow [I 12, I 20] 3), (rrow [I 11, I 26] 3), (rrow [I 30, I 20] 3), rowAwS_10, (rrow [I 9, I 19] 3), (rrow [I 13, I 21] 3), rowAwS_15, (rrow [I 10, I 20] 3), (rrow [I 12, I 20] 3), (rrow [I 11, I 26] 3), (rrow [I 30, I 20] 3), rowAwS_9, (rrow [I 1] 3), (rrow [I 10, I 20] 3), (rrow [I 12, I 20] 3), (rrow [I 11, I 26] 3), (rrow [I 30, I 20] 3), rowAwS_0, (rrow [I 0] 3), (rrow [I 10, I 20] 3), (rrow [I 12, I 20] 3), (rrow [I 11, I 26] 3), (rrow [I 30, I 20] 3), rowAwS_1, (rvar [I 1, I 2] 59), (rrow [I 10, I 20] 3), (rrow [I 12, I 20] 3), rowAwS_14]
noncomputable def L7 : List Value := ([(.bool false), (pt 7 0), I 0, (sl 13 0 1 1), I 0, (sl 19 0 1 1), I 0, (pt 25 0), I 0, (pt 28 0), I 0, (pt 29 0), I 24, U, U, U, U, U, U, U, U, U, U, U, U, U, U, U, U, U, U, U, U, U, U, U, U, U, U, U, U, U, U, U, U, U, U, U, U, U, U, (.tuple #[(.agg #[(sl 5 0 2 2), (sl 6 0 2 2)]), I 0]), (sl 4 0 4 4), (sl 4 0 2 2), (.tuple #[(.agg #[(sl 5 0 2 2), (sl 6 0 2 2)]), I 0]), (.agg #[(sl 5 0 2 2), (sl 6 0 2 2)]), I 0, (.tuple #[(sl 13 0 1 1), I 0]), (.agg #[(sl 5 0 2 2), (sl 6 0 2 2)]), (sl 12 0 4 4), (pt 12 4), (.agg #[(.string (ByteArray.mk #[(UInt8.ofNat 99)])), (sl 10 0 2 2)]), (.tuple #[(sl 13 0 1 1), I 0]), (sl 13 0 1 1), I 0, (.tuple #[(sl 19 0 1 1), I 0]), (.agg #[(sl 5 0 2 2), (sl 6 0 2 2)]), (sl 18 0 4 4), (pt 18 6), (.agg #[(.string (ByteArray.mk #[(UInt8.ofNat 100)])), (sl 17 0 2 2)]), (.tuple #[(sl 19 0 1 1), I 0]), (sl 19 0 1 1), I 0, (.tuple #[(g2 1 2), I 0]), (.agg #[(sl 5 0 2 2), (sl 6 0 2 2)]), (sl 24 0 4 4), (.tuple #[(g2 1 2), I 0]), (g2 1 2), I 0, (.tuple #[(.agg #[(sl 26 0 2 2), (sl 27 0 2 2)]), I 0]), (.agg #[(sl 5 0 2 2), (sl 6 0 2 2)]), (.tuple #[(.agg #[(sl 26 0 2 2), (sl 27 0 2 2)]), I 0]), (.agg #[(sl 26 0 2 2), (sl 27 0 2 2)]), I 0, (.tuple #[(.agg #[sn, sn]), I 24]), (.agg #[(sl 5 0 2 2), (sl 6 0 2 2)]), (.tuple #[(.agg #[sn, sn]), I 24]), (.agg #[sn, sn]), I 24] ++ us 270)
noncomputable def X7 : Heap := [(rrow [I 10, I 20] 3), (rrow [I 12, I 20] 3), (rrow [I 11, I 26] 3), (rrow [I 30, I 20] 3), rowAwS_10, (rrow [I 9, I 19] 3), (rrow [I 13, I 21] 3), rowAwS_15, (rrow [I 10, I 20] 3), (rrow [I 12, I 20] 3), (rrow [I 11, I 26] 3), (rrow [I 30, I 20] 3), rowAwS_9, (rrow [I 1] 3), (rrow [I 10, I 20] 3), (rrow [I 12, I 20] 3), (rrow [I 11, I 26] 3), (rrow [I 30, I 20] 3), rowAwS_0, (rrow [I 0] 3), (rrow [I 10, I 20] 3), (rrow [I 12, I 20] 3), (rrow [I 11, I 26] 3), (rrow [I 30, I 20] 3), rowAwS_1, (rvar [I 1, I 2] 59), (rrow [I 10, I 20] 3), (rrow [I 12, I 20] 3), rowAwS_14, (rvar [sn, sn] 30)]
noncomputable def L8 : List Value := ([(.bool false), (pt 7 0), I 0, (sl 13 0 1 1), I 0, (sl 19 0 1 1), I 0, (pt 25 0), I 0, (pt 28 0), I 0, (pt 29 0), I 24, I 1, I 0, U, U, U, U, U, U, U, U, U, U, U, U, U, U, U, U, U, U, U, U, U, U, U, U, U, U, U, U, U, U, U, U, U, U, U, U, (.tuple #[(.agg #[(sl 5 0 2 2), (sl 6 0 2 2)]), I 0]), (sl 4 0 4 4), (sl 4 0 2 2), (.tuple #[(.agg #[(sl 5 0 2 2), (sl 6 0 2 2)]), I 0]), (.agg #[(sl 5 0 2 2), (sl 6 0 2 2)]), I 0, (.tuple #[(sl 13 0 1 1), I 0]), (.agg #[(sl 5 0 2 2), (sl 6 0 2 2)]), (sl 12 0 4 4), (pt 12 4), (.agg #[(.string (ByteArray.mk #[(UInt8.ofNat 99)])), (sl 10 0 2 2)]), (.tuple #[(sl 13 0 1 1), I 0]), (sl 13 0 1 1), I 0, (.tuple #[(sl 19 0 1 1), I 0]), (.agg #[(sl 5 0 2 2), (sl 6 0 2 2)]), (sl 18 0 4 4), (pt 18 6), (.agg #[(.string (ByteArray.mk #[(UInt8.ofNat 100)])), (sl 17 0 2 2)]), (.tuple #[(sl 19 0 1 1), I 0]), (sl 19 0 1 1), I 0, (.tuple #[(g2 1 2), I 0]), (.agg #[(sl 5 0 2 2), (sl 6 0 2 2)]), (sl 24 0 4 4), (.tuple #[(g2 1 2), I 0]), (g2 1 2), I 0, (.tuple #[(.agg #[(sl 26 0 2 2), (sl 27 0 2 2)]), I 0]), (.agg #[(sl 5 0 2 2), (sl 6 0 2 2)]), (.tuple #[(.agg #[(sl 26 0 2 2), (sl 27 0 2 2)]), I 0]), (.agg #[(sl 26 0 2 2), (sl 27 0 2 2)]), I 0, (.tuple #[(.agg #[sn, sn]), I 24]), (.agg #[(sl 5 0 2 2), (sl 6 0 2 2)]), (.tuple #[(.agg #[sn, sn]), I 24]), (.agg #[sn, sn]), I 24, (.tuple #[I 1, I 0]), (.agg #[(sl 5 0 2 2), (sl 6 0 2 2)]), (sl 34 0 4 4), (pt 34 0), (.agg #[(.string (ByteArray.mk #[(UInt8.ofNat 97)])), (sl 30 0 2 2)]), (.tuple #[I 1, I 0]), I 1, I 0] ++ us 262)
noncomputable def X8 : Heap := [(rrow [I 10, I 20] 3), (rrow [I 12, I 20] 3), (rrow [I 11, I 26] 3), (rrow [I 30, I 20] 3), rowAwS_10, (rrow [I 9, I 19] 3), (rrow [I 13, I 21] 3), rowAwS_15, (rrow [I 10, I 20] 3), (rrow [I 12, I 20] 3), (rrow [I 11, I 26] 3), (rrow [I 30, I 20] 3), rowAwS_9, (rrow [I 1] 3), (rrow [I 10, I 20] 3), (rrow [I 12, I 20] 3), (rrow [I 11, I 26] 3), (rrow [I 30, I 20] 3), rowAwS_0, (rrow [I 0] 3), (rrow [I 10, I 20] 3), (rrow [I 12, I 20] 3), (rrow [I 11, I 26] 3), (rrow [I 30, I 20] 3), rowAwS_1, (rvar [I 1, I 2] 59), (rrow [I 10, I 20] 3), (rrow [I 12, I 20] 3), rowAwS_14, (rvar [sn, sn] 30), (rrow [I 10, I 20] 3), (rrow [I 12, I 20] 3), (rrow [I 11, I 26] 3), (rrow [I 30, I 20] 3), rowAwS_2]
noncomputable def L9 : List Value := ([(.bool false), (pt 7 0), I 0, (sl 13 0 1 1), I 0, (sl 19 0 1 1), I 0, (pt 25 0), I 0, (pt 28 0), I 0, (pt 29 0), I 24, I 1, I 0, U, U, U, U, U, U, U, U, U, U, U, U, U, U, U, U, U, U, U, U, U, U, U, U, U, U, U, U, U, U, U, U, U, U, U, U, (.tuple #[(.agg #[(sl 5 0 2 2), (sl 6 0 2 2)]), I 0]), (sl 4 0 4 4), (sl 4 0 2 2), (.tuple #[(.agg #[(sl 5 0 2 2), (sl 6 0 2 2)]), I 0]), (.agg #[(sl 5 0 2 2), (sl 6 0 2 2)]), I 0, (.tuple #[(sl 13 0 1 1), I 0]), (.agg #[(sl 5 0 2 2), (sl 6 0 2 2)]), (sl 12 0 4 4), (pt 12 4), (.agg #[(.string (ByteArray.mk #[(UInt8.ofNat 99)])), (sl 10 0 2 2)]), (.tuple #[(sl 13 0 1 1), I 0]), (sl 13 0 1 1), I 0, (.tuple #[(sl 19 0 1 1), I 0]), (.agg #[(sl 5 0 2 2), (sl 6 0 2 2)]), (sl 18 0 4 4), (pt 18 6), (.agg #[(.string (ByteArray.mk #[(UInt8.ofNat 100)])), (sl 17 0 2 2)]), (.tuple #[(sl 19 0 1 1), I 0]), (sl 19 0 1 1), I 0, (.tuple #[(g2 1 2), I 0]), (.agg #[(sl 5 0 2 2), (sl 6 0 2 2)]), (sl 24 0 4 4), (.tuple #[(g2 1 2), I 0]), (g2 1 2), I 0, (.tuple #[(.agg #[(sl 26 0 2 2), (sl 27 0 2 2)]), I 0]), (.agg #[(sl 5 0 2 2), (sl 6 0 2 2)]), (.tuple #[(.agg #[(sl 26 0 2 2), (sl 27 0 2 2)]), I 0]), (.agg #[(sl 26 0 2 2), (sl 27 0 2 2)]), I 0, (.tuple #[(.agg #[sn, sn]), I 24]), (.agg #[(sl 5 0 2 2), (sl 6 0 2 2)]), (.tuple #[(.agg #[sn, sn]), I 24]), (.agg #[sn, sn]), I 24, (.tuple #[I 1, I 0]), (.agg #[(sl 5 0 2 2), (sl 6 0 2 2)]), (sl 34 0 4 4), (pt 34 0), (.agg #[(.string (ByteArray.mk #[(UInt8.ofNat 97)])), (sl 30 0 2 2)]), (.tuple #[I 1, I 0]), I 1, I 0, I 0, I 0, I 0, I 0, I 0, I 0, I 0, I 0, I 0, I 0, I 0, (.bool false), (.bool false), I 24, (.bool false), (.bool false), (.bool false), (.agg #[(sl 5 0 2 2), (sl 6 0 2 2)]), (sl 35 0 2 2), (sl 36 0 2 2), (.agg #[(sl 35 0 2 2), (sl 36 0 2 2)]), (.bool true), (.bool false), (.bool false), (.bool false), (sl 13 0 1 1), (sl 37 0 1 1), (.bool true), (.bool false), (.bool false), (.bool false), (sl 19 0 1 1), (sl 38 0 1 1), (.bool true), (.bool false), (.bool false), (.bool false), (g2 1 2), (g2 1 2), (.bool false), (.bool false), (.bool false), (.agg #[(sl 26 0 2 2), (sl 27 0 2 2)]), (sl 39 0 2 2), (sl 40 0 2 2), (.agg #[(sl 39 0 2 2), (sl 40 0 2 2)]), (.bool true), (.bool false), (.bool false), (.bool false), I 1, (.bool false), (.bool false)] ++ us 209)
noncomputable def X9 : Heap := [(rrow [I 10, I 20] 3), (rrow [I 12, I 20] 3), (rrow [I 11, I 26] 3), (rrow [I 30, I 20] 3), rowAwS_10, (rrow [I 9, I 19] 3), (rrow [I 13, I 21] 3), rowAwS_15, (rrow [I 10, I 20] 3), (rrow [I 12, I 20] 3), (rrow [I 11, I 26] 3), (rrow [I 30, I 20] 3), rowAwS_9, (rrow [I 1] 3), (rrow [I 10, I 20] 3), (rrow [I 12, I 20] 3), (rrow [I 11, I 26] 3), (rrow [I 30, I 20] 3), rowAwS_0, (rrow [I 0] 3), (rrow [I 10, I 20] 3), (rrow [I 12, I 20] 3), (rrow [I 11, I 26] 3), (rrow [I 30, I 20] 3), rowAwS_1, (rvar [I 1, I 2] 59), (rrow [I 10, I 20] 3), (rrow [I 12, I 20] 3), rowAwS_14, (rvar [sn, sn] 30), (rrow [I 10, I 20] 3), (rrow [I 12, I 20] 3), (rrow [I 11, I 26] 3), (rrow [I 30, I 20] 3), rowAwS_2, (rrow [I 9, I 19] 3), (rrow [I 13, I 21] 3), (rrow [I 1] 3), (rrow [I 0] 3), (rrow [I 10, I 20] 3), (rrow [I 12, I 20] 3)]
noncomputable def L10 : List Value := ([(.bool false), (pt 7 0), I 0, (sl 13 0 1 1), I 0, (sl 19 0 1 1), I 0, (pt 25 0), I 0, (pt 28 0), I 0, (pt 29 0), I 24, I 1, I 0, (pt 41 0), U, U, U, U, U, U, U, U, U, U, U, U, U, U, U, U, U, U, U, U, U, U, U, U, U, U, U, U, U, U, U, U, U, U, U, (.tuple #[(.agg #[(sl 5 0 2 2), (sl 6 0 2 2)]), I 0]), (sl 4 0 4 4), (sl 4 0 2 2), (.tuple #[(.agg #[(sl 5 0 2 2), (sl 6 0 2 2)]), I 0]), (.agg #[(sl 5 0 2 2), (sl 6 0 2 2)]), I 0, (.tuple #[(sl 13 0 1 1), I 0]), (.agg #[(sl 5 0 2 2), (sl 6 0 2 2)]), (sl 12 0 4 4), (pt 12 4), (.agg #[(.string (ByteArray.mk #[(UInt8.ofNat 99)])), (sl 10 0 2 2)]), (.tuple #[(sl 13 0 1 1), I 0]), (sl 13 0 1 1), I 0, (.tuple #[(sl 19 0 1 1), I 0]), (.agg #[(sl 5 0 2 2), (sl 6 0 2 2)]), (sl 18 0 4 4), (pt 18 6), (.agg #[(.string (ByteArray.mk #[(UInt8.ofNat 100)])), (sl 17 0 2 2)]), (.tuple #[(sl 19 0 1 1), I 0]), (sl 19 0 1 1), I 0, (.tuple #[(g2 1 2), I 0]), (.agg #[(sl 5 0 2 2), (sl 6 0 2 2)]), (sl 24 0 4 4), (.tuple #[(g2 1 2), I 0]), (g2 1 2), I 0, (.tuple #[(.agg #[(sl 26 0 2 2), (sl 27 0 2 2)]), I 0]), (.agg #[(sl 5 0 2 2), (sl 6 0 2 2)]), (.tuple #[(.agg #[(sl 26 0 2 2), (sl 27 0 2 2)]), I 0]), (.agg #[(sl 26 0 2 2), (sl 27 0 2 2)]), I 0, (.tuple #[(.agg #[sn, sn]), I 24]), (.agg #[(sl 5 0 2 2), (sl 6 0 2 2)]), (.tuple #[(.agg #[sn, sn]), I 24]), (.agg #[sn, sn]), I 24, (.tuple #[I 1, I 0]), (.agg #[(sl 5 0 2 2), (sl 6 0 2 2)]), (sl 34 0 4 4), (pt 34 0), (.agg #[(.string (ByteArray.mk #[(UInt8.ofNat 97)])), (sl 30 0 2 2)]), (.tuple #[I 1, I 0]), I 1, I 0, I 0, I 0, I 0, I 0, I 0, I 0, I 0, I 0, I 0, I 0, I 0, (.bool false), (.bool false), I 24, (.bool false), (.bool false), (.bool false), (.agg #[(sl 5 0 2 2), (sl 6 0 2 2)]), (sl 35 0 2 2), (sl 36 0 2 2), (.agg #[(sl 35 0 2 2), (sl 36 0 2 2)]), (.bool true), (.bool false), (.bool false), (.bool false), (sl 13 0 1 1), (sl 37 0 1 1), (.bool true), (.bool false), (.bool false), (.bool false), (sl 19 0 1 1), (sl 38 0 1 1), (.bool true), (.bool false), (.bool false), (.bool false), (g2 1 2), (g2 1 2), (.bool false), (.bool false), (.bool false), (.agg #[(sl 26 0 2 2), (sl 27 0 2 2)]), (sl 39 0 2 2), (sl 40 0 2 2), (.agg #[(sl 39 0 2 2), (sl 40 0 2 2)]), (.bool true), (.bool false), (.bool false), (.bool false), I 1, (.bool false), (.bool false), (.agg #[I 4, I 2, I 0])] ++ us 208)
noncomputable def X10 : Heap := [(rrow [I 10, I 20] 3), (rrow [I 12, I 20] 3), (rrow [I 11, I 26] 3), (rrow [I 30, I 20] 3), rowAwS_10, (rrow [I 9, I 19] 3), (rrow [I 13, I 21] 3), rowAwS_15, (rrow [I 10, I 20] 3), (rrow [I 12, I 20] 3), (rrow [I 11, I 26] 3), (rrow [I 30, I 20] 3), rowAwS_9, (rrow [I 1] 3), (rrow [I 10, I 20] 3), (rrow [I 12, I 20] 3), (rrow [I 11, I 26] 3), (rrow [I 30, I 20] 3), rowAwS_0, (rrow [I 0] 3), (rrow [I 10, I 20] 3), (rrow [I 12, I 20] 3), (rrow [I 11, I 26] 3), (rrow [I 30, I 20] 3), rowAwS_1, (rvar [I 1, I 2] 59), (rrow [I 10, I 20] 3), (rrow [I 12, I 20] 3), rowAwS_14, (rvar [sn, sn] 30), (rrow [I 10, I 20] 3), (rrow [I 12, I 20] 3), (rrow [I 11, I 26] 3), (rrow [I 30, I 20] 3), rowAwS_2, (rrow [I 9, I 19] 3), (rrow [I 13, I 21] 3), (rrow [I 1] 3), (rrow [I 0] 3), (rrow [I 10, I 20] 3), (rrow [I 12, I 20] 3), rowAwS_18]
noncomputable def L11 : List Value := ([(.bool false), (pt 7 0), I 0, (sl 13 0 1 1), I 0, (sl 19 0 1 1), I 0, (pt 25 0), I 0, (pt 28 0), I 0, (pt 29 0), I 24, I 1, I 0, (pt 41 0), (pt 42 0), I 0, U, U, U, U, U, U, U, U, U, U, U, U, U, U, U, U, U, U, U, U, U, U, U, U, U, U, U, U, U, U, U, U, U, (.tuple #[(.agg #[(sl 5 0 2 2), (sl 6 0 2 2)]), I 0]), (sl 4 0 4 4), (sl 4 0 2 2), (.tuple #[(.agg #[(sl 5 0 2 2), (sl 6 0 2 2)]), I 0]), (.agg #[(sl 5 0 2 2), (sl 6 0 2 2)]), I 0, (.tuple #[(sl 13 0 1 1), I 0]), (.agg #[(sl 5 0 2 2), (sl 6 0 2 2)]), (sl 12 0 4 4), (pt 12 4), (.agg #[(.string (ByteArray.mk #[(UInt8.ofNat 99)])), (sl 10 0 2 2)]), (.tuple #[(sl 13 0 1 1), I 0]), (sl 13 0 1 1), I 0, (.tuple #[(sl 19 0 1 1), I 0]), (.agg #[(sl 5 0 2 2), (sl 6 0 2 2)]), (sl 18 0 4 4), (pt 18 6), (.agg #[(.string (ByteArray.mk #[(UInt8.ofNat 100)])), (sl 17 0 2 2)]), (.tuple #[(sl 19 0 1 1), I 0]), (sl 19 0 1 1), I 0, (.tuple #[(g2 1 2), I 0]), (.agg #[(sl 5 0 2 2), (sl 6 0 2 2)]), (sl 24 0 4 4), (.tuple #[(g2 1 2), I 0]), (g2 1 2), I 0, (.tuple #[(.agg #[(sl 26 0 2 2), (sl 27 0 2 2)]), I 0]), (.agg #[(sl 5 0 2 2), (sl 6 0 2 2)]), (.tuple #[(.agg #[(sl 26 0 2 2), (sl 27 0 2 2)]), I 0]), (.agg #[(sl 26 0 2 2), (sl 27 0 2 2)]), I 0, (.tuple #[(.agg #[sn, sn]), I 24]), (.agg #[(sl 5 0 2 2), (sl 6 0 2 2)]), (.tuple #[(.agg #[sn, sn]), I 24]), (.agg #[sn, sn]), I 24, (.tuple #[I 1, I 0]), (.agg #[(sl 5 0 2 2), (sl 6 0 2 2)]), (sl 34 0 4 4), (pt 34 0), (.agg #[(.string (ByteArray.mk #[(UInt8.ofNat 97)])), (sl 30 0 2 2)]), (.tuple #[I 1, I 0]), I 1, I 0, I 0, I 0, I 0, I 0, I 0, I 0, I 0, I 0, I 0, I 0, I 0, (.bool false), (.bool false), I 24, (.bool false), (.bool false), (.bool false), (.agg #[(sl 5 0 2 2), (sl 6 0 2 2)]), (sl 35 0 2 2), (sl 36 0 2 2), (.agg #[(sl 35 0 2 2), (sl 36 0 2 2)]), (.bool true), (.bool false), (.bool false), (.bool false), (sl 13 0 1 1), (sl 37 0 1 1), (.bool true), (.bool false), (.bool false), (.bool false), (sl 19 0 1 1), (sl 38 0 1 1), (.bool true), (.bool false), (.bool false), (.bool false), (g2 1 2), (g2 1 2), (.bool false), (.bool false), (.bool false), (.agg #[(sl 26 0 2 2), (sl 27 0 2 2)]), (sl 39 0 2 2), (sl 40 0 2 2), (.agg #[(sl 39 0 2 2), (sl 40 0 2 2)]), (.bool true), (.bool false), (.bool false), (.bool false), I 1, (.bool false), (.bool false), (.agg #[I 4, I 2, I 0]), (.tuple #[(g2 1 2), I 0]), (.agg #[I 4, I 2, I 0]), (.tuple #[(g2 1 2), I 0]), (g2 1 2), I 0] ++ us 203)
noncomputable def X11 : Heap := [(rrow [I 10, I 20] 3), (rrow [I 12, I 20] 3), (rrow [I 11, I 26] 3), (rrow [I 30, I 20] 3), rowAwS_10, (rrow [I 9, I 19] 3), (rrow [I 13, I 21] 3), rowAwS_15, (rrow [I 10, I 20] 3), (rrow [I 12, I 20] 3), (rrow [I 11, I 26] 3), (rrow [I 30, I 20] 3), rowAwS_9, (rrow [I 1] 3), (rrow [I 10, I 20] 3), (rrow [I 12, I 20] 3), (rrow [I 11, I 26] 3), (rrow [I 30, I 20] 3), rowAwS_0, (rrow [I 0] 3), (rrow [I 10, I 20] 3), (rrow [I 12, I 20] 3), (rrow [I 11, I 26] 3), (rrow [I 30, I 20] 3), rowAwS_1, (rvar [I 1, I 2] 59), (rrow [I 10, I 20] 3), (rrow [I 12, I 20] 3), rowAwS_14, (rvar [sn, sn] 30), (rrow [I 10, I 20] 3), (rrow [I 12, I 20] 3), (rrow [I 11, I 26] 3), (rrow [I 30, I 20] 3), rowAwS_2, (rrow [I 9, I 19] 3), (rrow [I 13, I 21] 3), (rrow [I 1] 3), (rrow [I 0] 3), (rrow [I 10, I 20] 3), (rrow [I 12, I 20] 3), rowAwS_18, (rvar [I 1, I 2] 59)]
noncomputable def L12 : List Value := ([(.bool false), (pt 7 0), I 0, (sl 13 0 1 1), I 0, (sl 19 0 1 1), I 0, (pt 25 0), I 0, (pt 28 0), I 0, (pt 29 0), I 24, I 1, I 0, (pt 41 0), (pt 42 0), I 0, (pt 43 0), I 0, U, U, U, U, U, U, U, U, U, U, U, U, U, U, U, U, U, U, U, U, U, U, U, U, U, U, U, U, U, U, U, (.tuple #[(.agg #[(sl 5 0 2 2), (sl 6 0 2 2)]), I 0]), (sl 4 0 4 4), (sl 4 0 2 2), (.tuple #[(.agg #[(sl 5 0 2 2), (sl 6 0 2 2)]), I 0]), (.agg #[(sl 5 0 2 2), (sl 6 0 2 2)]), I 0, (.tuple #[(sl 13 0 1 1), I 0]), (.agg #[(sl 5 0 2 2), (sl 6 0 2 2)]), (sl 12 0 4 4), (pt 12 4), (.agg #[(.string (ByteArray.mk #[(UInt8.ofNat 99)])), (sl 10 0 2 2)]), (.tuple #[(sl 13 0 1 1), I 0]), (sl 13 0 1 1), I 0, (.tuple #[(sl 19 0 1 1), I 0]), (.agg #[(sl 5 0 2 2), (sl 6 0 2 2)]), (sl 18 0 4 4), (pt 18 6), (.agg #[(.string (ByteArray.mk #[(UInt8.ofNat 100)])), (sl 17 0 2 2)]), (.tuple #[(sl 19 0 1 1), I 0]), (sl 19 0 1 1), I 0, (.tuple #[(g2 1 2), I 0]), (.agg #[(sl 5 0 2 2), (sl 6 0 2 2)]), (sl 24 0 4 4), (.tuple #[(g2 1 2), I 0]), (g2 1 2), I 0, (.tuple #[(.agg #[(sl 26 0 2 2), (sl 27 0 2 2)]), I 0]), (.agg #[(sl 5 0 2 2), (sl 6 0 2 2)]), (.tuple #[(.agg #[(sl 26 0 2 2), (sl 27 0 2 2)]), I 0]), (.agg #[(sl 26 0 2 2), (sl 27 0 2 2)]), I 0, (.tuple #[(.agg #[sn, sn]), I 24]), (.agg #[(sl 5 0 2 2), (sl 6 0 2 2)]), (.tuple #[(.agg #[sn, sn]), I 24]), (.agg #[sn, sn]), I 24, (.tuple #[I 1, I 0]), (.agg #[(sl 5 0 2 2), (sl 6 0 2 2)]), (sl 34 0 4 4), (pt 34 0), (.agg #[(.string (ByteArray.mk #[(UInt8.ofNat 97)])), (sl 30 0 2 2)]), (.tuple #[I 1, I 0]), I 1, I 0, I 0, I 0, I 0, I 0, I 0, I 0, I 0, I 0, I 0, I 0, I 0, (.bool false), (.bool false), I 24, (.bool false), (.bool false), (.bool false), (.agg #[(sl 5 0 2 2), (sl 6 0 2 2)]), (sl 35 0 2 2), (sl 36 0 2 2), (.agg #[(sl 35 0 2 2), (sl 36 0 2 2)]), (.bool true), (.bool false), (.bool false), (.bool false), (sl 13 0 1 1), (sl 37 0 1 1), (.bool true), (.bool false), (.bool false), (.bool false), (sl 19 0 1 1), (sl 38 0 1 1), (.bool true), (.bool false), (.bool false), (.bool false), (g2 1 2), (g2 1 2), (.bool false), (.bool false), (.bool false), (.agg #[(sl 26 0 2 2), (sl 27 0 2 2)]), (sl 39 0 2 2), (sl 40 0 2 2), (.agg #[(sl 39 0 2 2), (sl 40 0 2 2)]), (.bool true), (.bool false), (.bool false), (.bool false), I 1, (.bool false), (.bool false), (.agg #[I 4, I 2, I 0]), (.tuple #[(g2 1 2), I 0]), (.agg #[I 4, I 2, I 0]), (.tuple #[(g2 1 2), I 0]), (g2 1 2), I 0, (.tuple #[(g2 1 6), I 0]), (.agg #[I 4, I 2, I 0]), (.tuple #[(g2 1 6), I 0]), (g2 1 6), I 0] ++ us 198)
noncomputable def X12 : Heap := [(rrow [I 10, I 20] 3), (rrow [I 12, I 20] 3), (rrow [I 11, I 26] 3), (rrow [I 30, I 20] 3), rowAwS_10, (rrow [I 9, I 19] 3), (rrow [I 13, I 21] 3), rowAwS_15, (rrow [I 10, I 20] 3), (rrow [I 12, I 20] 3), (rrow [I 11, I 26] 3), (rrow [I 30, I 20] 3), rowAwS_9, (rrow [I 1] 3), (rrow [I 10, I 20] 3), (rrow [I 12, I 20] 3), (rrow [I 11, I 26] 3), (rrow [I 30, I 20] 3), rowAwS_0, (rrow [I 0] 3), (rrow [I 10, I 20] 3), (rrow [I 12, I 20] 3), (rrow [I 11, I 26] 3), (rrow [I 30, I 20] 3), rowAwS_1, (rvar [I 1, I 2] 59), (rrow [I 10, I 20] 3), (rrow [I 12, I 20] 3), rowAwS_14, (rvar [sn, sn] 30), (rrow [I 10, I 20] 3), (rrow [I 12, I 20] 3), (rrow [I 11, I 26] 3), (rrow [I 30, I 20] 3), rowAwS_2, (rrow [I 9, I 19] 3), (rrow [I 13, I 21] 3), (rrow [I 1] 3), (rrow [I 0] 3), (rrow [I 10, I 20] 3), (rrow [I 12, I 20] 3), rowAwS_18, (rvar [I 1, I 2] 59), (rvar [I 1, I 6] 59)]
noncomputable def L13 : List Value := ([(.bool false), (pt 7 0), I 0, (sl 13 0 1 1), I 0, (sl 19 0 1 1), I 0, (pt 25 0), I 0, (pt 28 0), I 0, (pt 29 0), I 24, I 1, I 0, (pt 41 0), (pt 42 0), I 0, (pt 43 0), I 0, (pt 44 0), I 0, U, U, U, U, U, U, U, U, U, U, U, U, U, U, U, U, U, U, U, U, U, U, U, U, U, U, U, U, U, (.tuple #[(.agg #[(sl 5 0 2 2), (sl 6 0 2 2)]), I 0]), (sl 4 0 4 4), (sl 4 0 2 2), (.tuple #[(.agg #[(sl 5 0 2 2), (sl 6 0 2 2)]), I 0]), (.agg #[(sl 5 0 2 2), (sl 6 0 2 2)]), I 0, (.tuple #[(sl 13 0 1 1), I 0]), (.agg #[(sl 5 0 2 2), (sl 6 0 2 2)]), (sl 12 0 4 4), (pt 12 4), (.agg #[(.string (ByteArray.mk #[(UInt8.ofNat 99)])), (sl 10 0 2 2)]), (.tuple #[(sl 13 0 1 1), I 0]), (sl 13 0 1 1), I 0, (.tuple #[(sl 19 0 1 1), I 0]), (.agg #[(sl 5 0 2 2), (sl 6 0 2 2)]), (sl 18 0 4 4), (pt 18 6), (.agg #[(.string (ByteArray.mk #[(UInt8.ofNat 100)])), (sl 17 0 2 2)]), (.tuple #[(sl 19 0 1 1), I 0]), (sl 19 0 1 1), I 0, (.tuple #[(g2 1 2), I 0]), (.agg #[(sl 5 0 2 2), (sl 6 0 2 2)]), (sl 24 0 4 4), (.tuple #[(g2 1 2), I 0]), (g2 1 2), I 0, (.tuple #[(.agg #[(sl 26 0 2 2), (sl 27 0 2 2)]), I 0]), (.agg #[(sl 5 0 2 2), (sl 6 0 2 2)]), (.tuple #[(.agg #[(sl 26 0 2 2), (sl 27 0 2 2)]), I 0]), (.agg #[(sl 26 0 2 2), (sl 27 0 2 2)]), I 0, (.tuple #[(.agg #[sn, sn]), I 24]), (.agg #[(sl 5 0 2 2), (sl 6 0 2 2)]), (.tuple #[(.agg #[sn, sn]), I 24]), (.agg #[sn, sn]), I 24, (.tuple #[I 1, I 0]), (.agg #[(sl 5 0 2 2), (sl 6 0 2 2)]), (sl 34 0 4 4), (pt 34 0), (.agg #[(.string (ByteArray.mk #[(UInt8.ofNat 97)])), (sl 30 0 2 2)]), (.tuple #[I 1, I 0]), I 1, I 0, I 0, I 0, I 0, I 0, I 0, I 0, I 0, I 0, I 0, I 0, I 0, (.bool false), (.bool false), I 24, (.bool false), (.bool false), (.bool false), (.agg #[(sl 5 0 2 2), (sl 6 0 2 2)]), (sl 35 0 2 2), (sl 36 0 2 2), (.agg #[(sl 35 0 2 2), (sl 36 0 2 2)]), (.bool true), (.bool false), (.bool false), (.bool false), (sl 13 0 1 1), (sl 37 0 1 1), (.bool true), (.bool false), (.bool false), (.bool false), (sl 19 0 1 1), (sl 38 0 1 1), (.bool true), (.bool false), (.bool false), (.bool false), (g2 1 2), (g2 1 2), (.bool false), (.bool false), (.bool false), (.agg #[(sl 26 0 2 2), (sl 27 0 2 2)]), (sl 39 0 2 2), (sl 40 0 2 2), (.agg #[(sl 39 0 2 2), (sl 40 0 2 2)]), (.bool true), (.bool false), (.bool false), (.bool false), I 1, (.bool false), (.bool false), (.agg #[I 4, I 2, I 0]), (.tuple #[(g2 1 2), I 0]), (.agg #[I 4, I 2, I 0]), (.tuple #[(g2 1 2), I 0]), (g2 1 2), I 0, (.tuple #[(g2 1 6), I 0]), (.agg #[I 4, I 2, I 0]), (.tuple #[(g2 1 6), I 0]), (g2 1 6), I 0, (.tuple #[(.agg #[I 0, I 1, I 1, I 6]), I 0]), (.agg #[I 4, I 2, I 0]), (.tuple #[(.agg #[I 0, I 1, I 1, I 6]), I 0]), (.agg #[I 0, I 1, I 1, I 6]), I 0] ++ us 193)
noncomputable def X13 : Heap := [(rrow [I 10, I 20] 3), (rrow [I 12, I 20] 3), (rrow [I 11, I 26] 3), (rrow [I 30, I 20] 3), rowAwS_10, (rrow [I 9, I 19] 3), (rrow [I 13, I 21] 3), rowAwS_15, (rrow [I 10, I 20] 3), (rrow [I 12, I 20] 3), (rrow [I 11, I 26] 3), (rrow [I 30, I 20] 3), rowAwS_9, (rrow [I 1] 3), (rrow [I 10, I 20] 3), (rrow [I 12, I 20] 3), (rrow [I 11, I 26] 3), (rrow [I 30, I 20] 3), rowAwS_0, (rrow [I 0] 3), (rrow [I 10, I 20] 3), (rrow [I 12, I 20] 3), (rrow [I 11, I 26] 3), (rrow [I 30, I 20] 3), rowAwS_1, (rvar [I 1, I 2] 59), (rrow [I 10, I 20] 3), (rrow [I 12, I 20] 3), rowAwS_14, (rvar [sn, sn] 30), (rrow [I 10, I 20] 3), (rrow [I 12, I 20] 3), (rrow [I 11, I 26] 3), (rrow [I 30, I 20] 3), rowAwS_2, (rrow [I 9, I 19] 3), (rrow [I 13, I 21] 3), (rrow [I 1] 3), (rrow [I 0] 3), (rrow [I 10, I 20] 3), (rrow [I 12, I 20] 3), rowAwS_18, (rvar [I 1, I 2] 59), (rvar [I 1, I 6] 59), rowAwS_16]
noncomputable def L14 : List Value := ([(.bool false), (pt 7 0), I 0, (sl 13 0 1 1), I 0, (sl 19 0 1 1), I 0, (pt 25 0), I 0, (pt 28 0), I 0, (pt 29 0), I 24, I 1, I 0, (pt 41 0), (pt 42 0), I 0, (pt 43 0), I 0, (pt 44 0), I 0, (pt 45 0), I 0, U, U, U, U, U, U, U, U, U, U, U, U, U, U, U, U, U, U, U, U, U, U, U, U, U, U, U, (.tuple #[(.agg #[(sl 5 0 2 2), (sl 6 0 2 2)]), I 0]), (sl 4 0 4 4), (sl 4 0 2 2), (.tuple #[(.agg #[(sl 5 0 2 2), (sl 6 0 2 2)]), I 0]), (.agg #[(sl 5 0 2 2), (sl 6 0 2 2)]), I 0, (.tuple #[(sl 13 0 1 1), I 0]), (.agg #[(sl 5 0 2 2), (sl 6 0 2 2)]), (sl 12 0 4 4), (pt 12 4), (.agg #[(.string (ByteArray.mk #[(UInt8.ofNat 99)])), (sl 10 0 2 2)]), (.tuple #[(sl 13 0 1 1), I 0]), (sl 13 0 1 1), I 0, (.tuple #[(sl 19 0 1 1), I 0]), (.agg #[(sl 5 0 2 2), (sl 6 0 2 2)]), (sl 18 0 4 4), (pt 18 6), (.agg #[(.string (ByteArray.mk #[(UInt8.ofNat 100)])), (sl 17 0 2 2)]), (.tuple #[(sl 19 0 1 1), I 0]), (sl 19 0 1 1), I 0, (.tuple #[(g2 1 2), I 0]), (.agg #[(sl 5 0 2 2), (sl 6 0 2 2)]), (sl 24 0 4 4), (.tuple #[(g2 1 2), I 0]), (g2 1 2), I 0, (.tuple #[(.agg #[(sl 26 0 2 2), (sl 27 0 2 2)]), I 0]), (.agg #[(sl 5 0 2 2), (sl 6 0 2 2)]), (.tuple #[(.agg #[(sl 26 0 2 2), (sl 27 0 2 2)]), I 0]), (.agg #[(sl 26 0 2 2), (sl 27 0 2 2)]), I 0, (.tuple #[(.agg #[sn, sn]), I 24]), (.agg #[(sl 5 0 2 2), (sl 6 0 2 2)]), (.tuple #[(.agg #[sn, sn]), I 24]), (.agg #[sn, sn]), I 24, (.tuple #[I 1, I 0]), (.agg #[(sl 5 0 2 2), (sl 6 0 2 2)]), (sl 34 0 4 4), (pt 34 0), (.agg #[(.string (ByteArray.mk #[(UInt8.ofNat 97)])), (sl 30 0 2 2)]), (.tuple #[I 1, I 0]), I 1, I 0, I 0, I 0, I 0, I 0, I 0, I 0, I 0, I 0, I 0, I 0, I 0, (.bool false), (.bool false), I 24, (.bool false), (.bool false), (.bool false), (.agg #[(sl 5 0 2 2), (sl 6 0 2 2)]), (sl 35 0 2 2), (sl 36 0 2 2), (.agg #[(sl 35 0 2 2), (sl 36 0 2 2)]), (.bool true), (.bool false), (.bool false), (.bool false), (sl 13 0 1 1), (sl 37 0 1 1), (.bool true), (.bool false), (.bool false), (.bool false), (sl 19 0 1 1), (sl 38 0 1 1), (.bool true), (.bool false), (.bool false), (.bool false), (g2 1 2), (g2 1 2), (.bool false), (.bool false), (.bool false), (.agg #[(sl 26 0 2 2), (sl 27 0 2 2)]), (sl 39 0 2 2), (sl 40 0 2 2), (.agg #[(sl 39 0 2 2), (sl 40 0 2 2)]), (.bool true), (.bool false), (.bool false), (.bool false), I 1, (.bool false), (.bool false), (.agg #[I 4, I 2, I 0]), (.tuple #[(g2 1 2), I 0]), (.agg #[I 4, I 2, I 0]), (.tuple #[(g2 1 2), I 0]), (g2 1 2), I 0, (.tuple #[(g2 1 6), I 0]), (.agg #[I 4, I 2, I 0]), (.tuple #[(g2 1 6), I 0]), (g2 1 6), I 0, (.tuple #[(.agg #[I 0, I 1, I 1, I 6]), I 0]), (.agg #[I 4, I 2, I 0]), (.tuple #[(.agg #[I 0, I 1, I 1, I 6]), I 0]), (.agg #[I 0, I 1, I 1, I 6]), I 0, (.tuple #[(.agg #[I 4, I 2, I 0]), I 0]), (g2 1 2), (g2 1 6), (.agg #[I 1, I 2, I 1, I 6]), (.tuple #[(.agg #[I 4, I 2, I 0]), I 0]), (.agg #[I 4, I 2, I 0]), I 0] ++ us 186)
noncomputable def X14 : Heap := [(rrow [I 10, I 20] 3), (rrow [I 12, I 20] 3), (rrow [I 11, I 26] 3), (rrow [I 30, I 20] 3), rowAwS_10, (rrow [I 9, I 19] 3), (rrow [I 13, I 21] 3), rowAwS_15, (rrow [I 10, I 20] 3), (rrow [I 12, I 20] 3), (rrow [I 11, I 26] 3), (rrow [I 30, I 20] 3), rowAwS_9, (rrow [I 1] 3), (rrow [I 10, I 20] 3), (rrow [I 12, I 20] 3), (rrow [I 11, I 26] 3), (rrow [I 30, I 20] 3), rowAwS_0, (rrow [I 0] 3), (rrow [I 10, I 20] 3), (rrow [I 12, I 20] 3), (rrow [I 11, I 26] 3), (rrow [I 30, I 20] 3), rowAwS_1, (rvar [I 1, I 2] 59), (rrow [I 10, I 20] 3), (rrow [I 12, I 20] 3), rowAwS_14, (rvar [sn, sn] 30), (rrow [I 10, I 20] 3), (rrow [I 12, I 20] 3), (rrow [I 11, I 26] 3), (rrow [I 30, I 20] 3), rowAwS_2, (rrow [I 9, I 19] 3), (rrow [I 13, I 21] 3), (rrow [I 1] 3), (rrow [I 0] 3), (rrow [I 10, I 20] 3), (rrow [I 12, I 20] 3), rowAwS_18, (rvar [I 1, I 2] 59), (rvar [I 1, I 6] 59), rowAwS_16, rowAwS_18]
noncomputable def L15 : List Value := ([(.bool false), (pt 7 0), I 0, (sl 13 0 1 1), I 0, (sl 19 0 1 1), I 0, (pt 25 0), I 0, (pt 28 0), I 0, (pt 29 0), I 24, I 1, I 0, (pt 41 0), (pt 42 0), I 0, (pt 43 0), I 0, (pt 44 0), I 0, (pt 45 0), I 0, (.bool true), I 2, I 0, U, U, U, U, U, U, U, U, U, U, U, U, U, U, U, U, U, U, U, U, U, U, U, U, (.tuple #[(.agg #[(sl 5 0 2 2), (sl 6 0 2 2)]), I 0]), (sl 4 0 4 4), (sl 4 0 2 2), (.tuple #[(.agg #[(sl 5 0 2 2), (sl 6 0 2 2)]), I 0]), (.agg #[(sl 5 0 2 2), (sl 6 0 2 2)]), I 0, (.tuple #[(sl 13 0 1 1), I 0]), (.agg #[(sl 5 0 2 2), (sl 6 0 2 2)]), (sl 12 0 4 4), (pt 12 4), (.agg #[(.string (ByteArray.mk #[(UInt8.ofNat 99)])), (sl 10 0 2 2)]), (.tuple #[(sl 13 0 1 1), I 0]), (sl 13 0 1 1), I 0, (.tuple #[(sl 19 0 1 1), I 0]), (.agg #[(sl 5 0 2 2), (sl 6 0 2 2)]), (sl 18 0 4 4), (pt 18 6), (.agg #[(.string (ByteArray.mk #[(UInt8.ofNat 100)])), (sl 17 0 2 2)]), (.tuple #[(sl 19 0 1 1), I 0]), (sl 19 0 1 1), I 0, (.tuple #[(g2 1 2), I 0]), (.agg #[(sl 5 0 2 2), (sl 6 0 2 2)]), (sl 24 0 4 4), (.tuple #[(g2 1 2), I 0]), (g2 1 2), I 0, (.tuple #[(.agg #[(sl 26 0 2 2), (sl 27 0 2 2)]), I 0]), (.agg #[(sl 5 0 2 2), (sl 6 0 2 2)]), (.tuple #[(.agg #[(sl 26 0 2 2), (sl 27 0 2 2)]), I 0]), (.agg #[(sl 26 0 2 2), (sl 27 0 2 2)]), I 0, (.tuple #[(.agg #[sn, sn]), I 24]), (.agg #[(sl 5 0 2 2), (sl 6 0 2 2)]), (.tuple #[(.agg #[sn, sn]), I 24]), (.agg #[sn, sn]), I 24, (.tuple #[I 1, I 0]), (.agg #[(sl 5 0 2 2), (sl 6 0 2 2)]), (sl 34 0 4 4), (pt 34 0), (.agg #[(.string (ByteArray.mk #[(UInt8.ofNat 97)])), (sl 30 0 2 2)]), (.tuple #[I 1, I 0]), I 1, I 0, I 0, I 0, I 0, I 0, I 0, I 0, I 0, I 0, I 0, I 0, I 0, (.bool false), (.bool false), I 24, (.bool false), (.bool false), (.bool false), (.agg #[(sl 5 0 2 2), (sl 6 0 2 2)]), (sl 35 0 2 2), (sl 36 0 2 2), (.agg #[(sl 35 0 2 2), (sl 36 0 2 2)]), (.bool true), (.bool false), (.bool false), (.bool false), (sl 13 0 1 1), (sl 37 0 1 1), (.bool true), (.bool false), (.bool false), (.bool false), (sl 19 0 1 1), (sl 38 0 1 1), (.bool true), (.bool false), (.bool false), (.bool false), (g2 1 2), (g2 1 2), (.bool false), (.bool false), (.bool false), (.agg #[(sl 26 0 2 2), (sl 27 0 2 2)]), (sl 39 0 2 2), (sl 40 0 2 2), (.agg #[(sl 39 0 2 2), (sl 40 0 2 2)]), (.bool true), (.bool false), (.bool false), (.bool false), I 1, (.bool false), (.bool false), (.agg #[I 4, I 2, I 0]), (.tuple #[(g2 1 2), I 0]), (.agg #[I 4, I 2, I 0]), (.tuple #[(g2 1 2), I 0]), (g2 1 2), I 0, (.tuple #[(g2 1 6), I 0]), (.agg #[I 4, I 2, I 0]), (.tuple #[(g2 1 6), I 0]), (g2 1 6), I 0, (.tuple #[(.agg #[I 0, I 1, I 1, I 6]), I 0]), (.agg #[I 4, I 2, I 0]), (.tuple #[(.agg #[I 0, I 1, I 1, I 6]), I 0]), (.agg #[I 0, I 1, I 1, I 6]), I 0, (.tuple #[(.agg #[I 4, I 2, I 0]), I 0]), (g2 1 2), (g2 1 6), (.agg #[I 1, I 2, I 1, I 6]), (.tuple #[(.agg #[I 4, I 2, I 0]), I 0]), (.agg #[I 4, I 2, I 0]), I 0, (.tuple #[(.bool true), I 2, I 0]), (.agg #[I 4, I 2, I 0]), (sl 46 0 2 2), (.tuple #[(.bool true), I 2, I 0]), (.bool true), I 2, I 0] ++ us 179)
noncomputable def X15 : Heap := [(rrow [I 10, I 20] 3), (rrow [I 12, I 20] 3), (rrow [I 11, I 26] 3), (rrow [I 30, I 20] 3), rowAwS_10, (rrow [I 9, I 19] 3), (rrow [I 13, I 21] 3), rowAwS_15, (rrow [I 10, I 20] 3), (rrow [I 12, I 20] 3), (rrow [I 11, I 26] 3), (rrow [I 30, I 20] 3), rowAwS_9, (rrow [I 1] 3), (rrow [I 10, I 20] 3), (rrow [I 12, I 20] 3), (rrow [I 11, I 26] 3), (rrow [I 30, I 20] 3), rowAwS_0, (rrow [I 0] 3), (rrow [I 10, I 20] 3), (rrow [I 12, I 20] 3), (rrow [I 11, I 26] 3), (rrow [I 30, I 20] 3), rowAwS_1, (rvar [I 1, I 2] 59), (rrow [I 10, I 20] 3), (rrow [I 12, I 20] 3), rowAwS_14, (rvar [sn, sn] 30), (rrow [I 10, I 20] 3), (rrow [I 12, I 20] 3), (rrow [I 11, I 26] 3), (rrow [I 30, I 20] 3), rowAwS_2, (rrow [I 9, I 19] 3), (rrow [I 13, I 21] 3), (rrow [I 1] 3), (rrow [I 0] 3), (rrow [I 10, I 20] 3), (rrow [I 12, I 20] 3), rowAwS_18, (rvar [I 1, I 2] 59), (rvar [I 1, I 6] 59), rowAwS_16, rowAwS_18, (rrow [(.bool false), (.bool false)] 4)]
noncomputable def L16 : List Value := ([(.bool false), (pt 7 0), I 0, (sl 13 0 1 1), I 0, (sl 19 0 1 1), I 0, (pt 25 0), I 0, (pt 28 0), I 0, (pt 29 0), I 24, I 1, I 0, (pt 41 0), (pt 42 0), I 0, (pt 43 0), I 0, (pt 44 0), I 0, (pt 45 0), I 0, (.bool true), I 2, I 0, (.bool false), I 1, I 0, U, U, U, U, U, U, U, U, U, U, U, U, U, U, U, U, U, U, U, U, U, (.tuple #[(.agg #[(sl 5 0 2 2), (sl 6 0 2 2)]), I 0]), (sl 4 0 4 4), (sl 4 0 2 2), (.tuple #[(.agg #[(sl 5 0 2 2), (sl 6 0 2 2)]), I 0]), (.agg #[(sl 5 0 2 2), (sl 6 0 2 2)]), I 0, (.tuple #[(sl 13 0 1 1), I 0]), (.agg #[(sl 5 0 2 2), (sl 6 0 2 2)]), (sl 12 0 4 4), (pt 12 4), (.agg #[(.string (ByteArray.mk #[(UInt8.ofNat 99)])), (sl 10 0 2 2)]), (.tuple #[(sl 13 0 1 1), I 0]), (sl 13 0 1 1), I 0, (.tuple #[(sl 19 0 1 1), I 0]), (.agg #[(sl 5 0 2 2), (sl 6 0 2 2)]), (sl 18 0 4 4), (pt 18 6), (.agg #[(.string (ByteArray.mk #[(UInt8.ofNat 100)])), (sl 17 0 2 2)]), (.tuple #[(sl 19 0 1 1), I 0]), (sl 19 0 1 1), I 0, (.tuple #[(g2 1 2), I 0]), (.agg #[(sl 5 0 2 2), (sl 6 0 2 2)]), (sl 24 0 4 4), (.tuple #[(g2 1 2), I 0]), (g2 1 2), I 0, (.tuple #[(.agg #[(sl 26 0 2 2), (sl 27 0 2 2)]), I 0]), (.agg #[(sl 5 0 2 2), (sl 6 0 2 2)]), (.tuple #[(.agg #[(sl 26 0 2 2), (sl 27 0 2 2)]), I 0]), (.agg #[(sl 26 0 2 2), (sl 27 0 2 2)]), I 0, (.tuple #[(.agg #[sn, sn]), I 24]), (.agg #[(sl 5 0 2 2), (sl 6 0 2 2)]), (.tuple #[(.agg #[sn, sn]), I 24]), (.agg #[sn, sn]), I 24, (.tuple #[I 1, I 0]), (.agg #[(sl 5 0 2 2), (sl 6 0 2 2)]), (sl 34 0 4 4), (pt 34 0), (.agg #[(.string (ByteArray.mk #[(UInt8.ofNat 97)])), (sl 30 0 2 2)]), (.tuple #[I 1, I 0]), I 1, I 0, I 0, I 0, I 0, I 0, I 0, I 0, I 0, I 0, I 0, I 0, I 0, (.bool false), (.bool false), I 24, (.bool false), (.bool false), (.bool false), (.agg #[(sl 5 0 2 2), (sl 6 0 2 2)]), (sl 35 0 2 2), (sl 36 0 2 2), (.agg #[(sl 35 0 2 2), (sl 36 0 2 2)]), (.bool true), (.bool false), (.bool false), (.bool false), (sl 13 0 1 1), (sl 37 0 1 1), (.bool true), (.bool false), (.bool false), (.bool false), (sl 19 0 1 1), (sl 38 0 1 1), (.bool true), (.bool false), (.bool false), (.bool false), (g2 1 2), (g2 1 2), (.bool false), (.bool false), (.bool false), (.agg #[(sl 26 0 2 2), (sl 27 0 2 2)]), (sl 39 0 2 2), (sl 40 0 2 2), (.agg #[(sl 39 0 2 2), (sl 40 0 2 2)]), (.bool true), (.bool false), (.bool false), (.bool false), I 1, (.bool false), (.bool false), (.agg #[I 4, I 2, I 0]), (.tuple #[(g2 1 2), I 0]), (.agg #[I 4, I 2, I 0]), (.tuple #[(g2 1 2), I 0]), (g2 1 2), I 0, (.tuple #[(g2 1 6), I 0]), (.agg #[I 4, I 2, I 0]), (.tuple #[(g2 1 6), I 0]), (g2 1 6), I 0, (.tuple #[(.agg #[I 0, I 1, I 1, I 6]), I 0]), (.agg #[I 4, I 2, I 0]), (.tuple #[(.agg #[I 0, I 1, I 1, I 6]), I 0]), (.agg #[I 0, I 1, I 1, I 6]), I 0, (.tuple #[(.agg #[I 4, I 2, I 0]), I 0]), (g2 1 2), (g2 1 6), (.agg #[I 1, I 2, I 1, I 6]), (.tuple #[(.agg #[I 4, I 2, I 0]), I 0]), (.agg #[I 4, I 2, I 0]), I 0, (.tuple #[(.bool true), I 2, I 0]), (.agg #[I 4, I 2, I 0]), (sl 46 0 2 2), (.tuple #[(.bool true), I 2, I 0]), (.bool true), I 2, I 0, (.tuple #[(.bool false), I 1, I 0]), (.agg #[I 4, I 2, I 0]), (sl 47 0 1 1), (.tuple #[(.bool false), I 1, I 0]), (.bool false), I 1, I 0] ++ us 172)
noncomputable def X16 : Heap := [(rrow [I 10, I 20] 3), (rrow [I 12, I 20] 3), (rrow [I 11, I 26] 3), (rrow [I 30, I 20] 3), rowAwS_10, (rrow [I 9, I 19] 3), (rrow [I 13, I 21] 3), rowAwS_15, (rrow [I 10, I 20] 3), (rrow [I 12, I 20] 3), (rrow [I 11, I 26] 3), (rrow [I 30, I 20] 3), rowAwS_9, (rrow [I 1] 3), (rrow [I 10, I 20] 3), (rrow [I 12, I 20] 3), (rrow [I 11, I 26] 3), (rrow [I 30, I 20] 3), rowAwS_0, (rrow [I 0] 3), (rrow [I 10, I 20] 3), (rrow [I 12, I 20] 3), (rrow [I 11, I 26] 3), (rrow [I 30, I 20] 3), rowAwS_1, (rvar [I 1, I 2] 59), (rrow [I 10, I 20] 3), (rrow [I 12, I 20] 3), rowAwS_14, (rvar [sn, sn] 30), (rrow [I 10, I 20] 3), (rrow [I 12, I 20] 3), (rrow [I 11, I 26] 3), (rrow [I 30, I 20] 3), rowAwS_2, (rrow [I 9, I 19] 3), (rrow [I 13, I 21] 3), (rrow [I 1] 3), (rrow [I 0] 3), (rrow [I 10, I 20] 3), (rrow [I 12, I 20] 3), rowAwS_18, (rvar [I 1, I 2] 59), (rvar [I 1, I 6] 59), rowAwS_16, rowAwS_18, (rrow [(.bool false), (.bool false)] 4), (rrow [(.bool true)] 4)]
noncomputable def L17 : List Value := ([(.bool false), (pt 7 0), I 0, (sl 13 0 1 1), I 0, (sl 19 0 1 1), I 0, (pt 25 0), I 0, (pt 28 0), I 0, (pt 29 0), I 24, I 1, I 0, (pt 41 0), (pt 42 0), I 0, (pt 43 0), I 0, (pt 44 0), I 0, (pt 45 0), I 0, (.bool true), I 2, I 0, (.bool false), I 1, I 0, U, U, U, U, U, U, U, U, U, U, U, U, U, U, U, U, U, U, U, U, U, (.tuple #[(.agg #[(sl 5 0 2 2), (sl 6 0 2 2)]), I 0]), (sl 4 0 4 4), (sl 4 0 2 2), (.tuple #[(.agg #[(sl 5 0 2 2), (sl 6 0 2 2)]), I 0]), (.agg #[(sl 5 0 2 2), (sl 6 0 2 2)]), I 0, (.tuple #[(sl 13 0 1 1), I 0]), (.agg #[(sl 5 0 2 2), (sl 6 0 2 2)]), (sl 12 0 4 4), (pt 12 4), (.agg #[(.string (ByteArray.mk #[(UInt8.ofNat 99)])), (sl 10 0 2 2)]), (.tuple #[(sl 13 0 1 1), I 0]), (sl 13 0 1 1), I 0, (.tuple #[(sl 19 0 1 1), I 0]), (.agg #[(sl 5 0 2 2), (sl 6 0 2 2)]), (sl 18 0 4 4), (pt 18 6), (.agg #[(.string (ByteArray.mk #[(UInt8.ofNat 100)])), (sl 17 0 2 2)]), (.tuple #[(sl 19 0 1 1), I 0]), (sl 19 0 1 1), I 0, (.tuple #[(g2 1 2), I 0]), (.agg #[(sl 5 0 2 2), (sl 6 0 2 2)]), (sl 24 0 4 4), (.tuple #[(g2 1 2), I 0]), (g2 1 2), I 0, (.tuple #[(.agg #[(sl 26 0 2 2), (sl 27 0 2 2)]), I 0]), (.agg #[(sl 5 0 2 2), (sl 6 0 2 2)]), (.tuple #[(.agg #[(sl 26 0 2 2), (sl 27 0 2 2)]), I 0]), (.agg #[(sl 26 0 2 2), (sl 27 0 2 2)]), I 0, (.tuple #[(.agg #[sn, sn]), I 24]), (.agg #[(sl 5 0 2 2), (sl 6 0 2 2)]), (.tuple #[(.agg #[sn, sn]), I 24]), (.agg #[sn, sn]), I 24, (.tuple #[I 1, I 0]), (.agg #[(sl 5 0 2 2), (sl 6 0 2 2)]), (sl 34 0 4 4), (pt 34 0), (.agg #[(.string (ByteArray.mk #[(UInt8.ofNat 97)])), (sl 30 0 2 2)]), (.tuple #[I 1, I 0]), I 1, I 0, I 0, I 0, I 0, I 0, I 0, I 0, I 0, I 0, I 0, I 0, I 0, (.bool false), (.bool false), I 24, (.bool false), (.bool false), (.bool false), (.agg #[(sl 5 0 2 2), (sl 6 0 2 2)]), (sl 35 0 2 2), (sl 36 0 2 2), (.agg #[(sl 35 0 2 2), (sl 36 0 2 2)]), (.bool true), (.bool false), (.bool false), (.bool false), (sl 13 0 1 1), (sl 37 0 1 1), (.bool true), (.bool false), (.bool false), (.bool false), (sl 19 0 1 1), (sl 38 0 1 1), (.bool true), (.bool false), (.bool false), (.bool false), (g2 1 2), (g2 1 2), (.bool false), (.bool false), (.bool false), (.agg #[(sl 26 0 2 2), (sl 27 0 2 2)]), (sl 39 0 2 2), (sl 40 0 2 2), (.agg #[(sl 39 0 2 2), (sl 40 0 2 2)]), (.bool true), (.bool false), (.bool false), (.bool false), I 1, (.bool false), (.bool false), (.agg #[I 4, I 2, I 0]), (.tuple #[(g2 1 2), I 0]), (.agg #[I 4, I 2, I 0]), (.tuple #[(g2 1 2), I 0]), (g2 1 2), I 0, (.tuple #[(g2 1 6), I 0]), (.agg #[I 4, I 2, I 0]), (.tuple #[(g2 1 6), I 0]), (g2 1 6), I 0, (.tuple #[(.agg #[I 0, I 1, I 1, I 6]), I 0]), (.agg #[I 4, I 2, I 0]), (.tuple #[(.agg #[I 0, I 1, I 1, I 6]), I 0]), (.agg #[I 0, I 1, I 1, I 6]), I 0, (.tuple #[(.agg #[I 4, I 2, I 0]), I 0]), (g2 1 2), (g2 1 6), (.agg #[I 1, I 2, I 1, I 6]), (.tuple #[(.agg #[I 4, I 2, I 0]), I 0]), (.agg #[I 4, I 2, I 0]), I 0, (.tuple #[(.bool true), I 2, I 0]), (.agg #[I 4, I 2, I 0]), (sl 46 0 2 2), (.tuple #[(.bool true), I 2, I 0]), (.bool true), I 2, I 0, (.tuple #[(.bool false), I 1, I 0]), (.agg #[I 4, I 2, I 0]), (sl 47 0 1 1), (.tuple #[(.bool false), I 1, I 0]), (.bool false), I 1, I 0, I 0, I 0, I 0, I 0, I 0, I 0, I 0, I 0, I 0, I 0, I 0, (.bool false), (.bool false), (g2 1 2), (g2 1 2), (.bool false), (.bool false), (.bool false), (g2 1 6), (g2 1 6), (.bool false), (.bool false), (.bool false), (.agg #[I 0, I 1, I 1, I 6]), (g2 0 1), (g2 1 6), (.agg #[I 0, I 1, I 1, I 6]), (.bool false), (.bool false), (.bool false), (.agg #[I 4, I 2, I 0]), (.agg #[I 4, I 2, I 0]), (.bool false), (.bool false), (.bool false), (.bool true), (.bool false), (.bool false), (.bool false), I 2, (.bool false), (.bool false), (.bool false), (.bool false), (.bool false), (.bool false), I 1, (.bool false), (.bool false)] ++ us 123)
noncomputable def X17 : Heap := [(rrow [I 10, I 20] 3), (rrow [I 12, I 20] 3), (rrow [I 11, I 26] 3), (rrow [I 30, I 20] 3), rowAwS_10, (rrow [I 9, I 19] 3), (rrow [I 13, I 21] 3), rowAwS_15, (rrow [I 10, I 20] 3), (rrow [I 12, I 20] 3), (rrow [I 11, I 26] 3), (rrow [I 30, I 20] 3), rowAwS_9, (rrow [I 1] 3), (rrow [I 10, I 20] 3), (rrow [I 12, I 20] 3), (rrow [I 11, I 26] 3), (rrow [I 30, I 20] 3), rowAwS_0, (rrow [I 0] 3), (rrow [I 10, I 20] 3), (rrow [I 12, I 20] 3), (rrow [I 11, I 26] 3), (rrow [I 30, I 20] 3), rowAwS_1, (rvar [I 1, I 2] 59), (rrow [I 10, I 20] 3), (rrow [I 12, I 20] 3), rowAwS_14, (rvar [sn, sn] 30), (rrow [I 10, I 20] 3), (rrow [I 12, I 20] 3), (rrow [I 11, I 26] 3), (rrow [I 30, I 20] 3), rowAwS_2, (rrow [I 9, I 19] 3), (rrow [I 13, I 21] 3), (rrow [I 1] 3), (rrow [I 0] 3), (rrow [I 10, I 20] 3), (rrow [I 12, I 20] 3), rowAwS_18, (rvar [I 1, I 2] 59), (rvar [I 1, I 6] 59), rowAwS_16, rowAwS_18, (rrow [(.bool false), (.bool false)] 4), (rrow [(.bool true)] 4)]
noncomputable def L18 : List Value := ([(.bool false), (pt 7 0), I 0, (sl 13 0 1 1), I 0, (sl 19 0 1 1), I 0, (pt 25 0), I 0, (pt 28 0), I 0, (pt 29 0), I 24, I 1, I 0, (pt 41 0), (pt 42 0), I 0, (pt 43 0), I 0, (pt 44 0), I 0, (pt 45 0), I 0, (.bool true), I 2, I 0, (.bool false), I 1, I 0, (sl 49 0 5 5), I 6, I 0, U, U, U, U, U, U, U, U, U, U, U, U, U, U, U, U, U, U, (.tuple #[(.agg #[(sl 5 0 2 2), (sl 6 0 2 2)]), I 0]), (sl 4 0 4 4), (sl 4 0 2 2), (.tuple #[(.agg #[(sl 5 0 2 2), (sl 6 0 2 2)]), I 0]), (.agg #[(sl 5 0 2 2), (sl 6 0 2 2)]), I 0, (.tuple #[(sl 13 0 1 1), I 0]), (.agg #[(sl 5 0 2 2), (sl 6 0 2 2)]), (sl 12 0 4 4), (pt 12 4), (.agg #[(.string (ByteArray.mk #[(UInt8.ofNat 99)])), (sl 10 0 2 2)]), (.tuple #[(sl 13 0 1 1), I 0]), (sl 13 0 1 1), I 0, (.tuple #[(sl 19 0 1 1), I 0]), (.agg #[(sl 5 0 2 2), (sl 6 0 2 2)]), (sl 18 0 4 4), (pt 18 6), (.agg #[(.string (ByteArray.mk #[(UInt8.ofNat 100)])), (sl 17 0 2 2)]), (.tuple #[(sl 19 0 1 1), I 0]), (sl 19 0 1 1), I 0, (.tuple #[(g2 1 2), I 0]), (.agg #[(sl 5 0 2 2), (sl 6 0 2 2)]), (sl 24 0 4 4), (.tuple #[(g2 1 2), I 0]), (g2 1 2), I 0, (.tuple #[(.agg #[(sl 26 0 2 2), (sl 27 0 2 2)]), I 0]), (.agg #[(sl 5 0 2 2), (sl 6 0 2 2)]), (.tuple #[(.agg #[(sl 26 0 2 2), (sl 27 0 2 2)]), I 0]), (.agg #[(sl 26 0 2 2), (sl 27 0 2 2)]), I 0, (.tuple #[(.agg #[sn, sn]), I 24]), (.agg #[(sl 5 0 2 2), (sl 6 0 2 2)]), (.tuple #[(.agg #[sn, sn]), I 24]), (.agg #[sn, sn]), I 24, (.tuple #[I 1, I 0]), (.agg #[(sl 5 0 2 2), (sl 6 0 2 2)]), (sl 34 0 4 4), (pt 34 0), (.agg #[(.string (ByteArray.mk #[(UInt8.ofNat 97)])), (sl 30 0 2 2)]), (.tuple #[I 1, I 0]), I 1, I 0, I 0, I 0, I 0, I 0, I 0, I 0, I 0, I 0, I 0, I 0, I 0, (.bool false), (.bool false), I 24, (.bool false), (.bool false), (.bool false), (.agg #[(sl 5 0 2 2), (sl 6 0 2 2)]), (sl 35 0 2 2), (sl 36 0 2 2), (.agg #[(sl 35 0 2 2), (sl 36 0 2 2)]), (.bool true), (.bool false), (.bool false), (.bool false), (sl 13 0 1 1), (sl 37 0 1 1), (.bool true), (.bool false), (.bool false), (.bool false), (sl 19 0 1 1), (sl 38 0 1 1), (.bool true), (.bool false), (.bool false), (.bool false), (g2 1 2), (g2 1 2), (.bool false), (.bool false), (.bool false), (.agg #[(sl 26 0 2 2), (sl 27 0 2 2)]), (sl 39 0 2 2), (sl 40 0 2 2), (.agg #[(sl 39 0 2 2), (sl 40 0 2 2)]), (.bool true), (.bool false), (.bool false), (.bool false), I 1, (.bool false), (.bool false), (.agg #[I 4, I 2, I 0]), (.tuple #[(g2 1 2), I 0]), (.agg #[I 4, I 2, I 0]), (.tuple #[(g2 1 2), I 0]), (g2 1 2), I 0, (.tuple #[(g2 1 6), I 0]), (.agg #[I 4, I 2, I 0]), (.tuple #[(g2 1 6), I 0]), (g2 1 6), I 0, (.tuple #[(.agg #[I 0, I 1, I 1, I 6]), I 0]), (.agg #[I 4, I 2, I 0]), (.tuple #[(.agg #[I 0, I 1, I 1, I 6]), I 0]), (.agg #[I 0, I 1, I 1, I 6]), I 0, (.tuple #[(.agg #[I 4, I 2, I 0]), I 0]), (g2 1 2), (g2 1 6), (.agg #[I 1, I 2, I 1, I 6]), (.tuple #[(.agg #[I 4, I 2, I 0]), I 0]), (.agg #[I 4, I 2, I 0]), I 0, (.tuple #[(.bool true), I 2, I 0]), (.agg #[I 4, I 2, I 0]), (sl 46 0 2 2), (.tuple #[(.bool true), I 2, I 0]), (.bool true), I 2, I 0, (.tuple #[(.bool false), I 1, I 0]), (.agg #[I 4, I 2, I 0]), (sl 47 0 1 1), (.tuple #[(.bool false), I 1, I 0]), (.bool false), I 1, I 0, I 0, I 0, I 0, I 0, I 0, I 0, I 0, I 0, I 0, I 0, I 0, (.bool false), (.bool false), (g2 1 2), (g2 1 2), (.bool false), (.bool false), (.bool false), (g2 1 6), (g2 1 6), (.bool false), (.bool false), (.bool false), (.agg #[I 0, I 1, I 1, I 6]), (g2 0 1), (g2 1 6), (.agg #[I 0, I 1, I 1, I 6]), (.bool false), (.bool false), (.bool false), (.agg #[I 4, I 2, I 0]), (.agg #[I 4, I 2, I 0]), (.bool false), (.bool false), (.bool false), (.bool true), (.bool false), (.bool false), (.bool false), I 2, (.bool false), (.bool false), (.bool false), (.bool false), (.bool false), (.bool false), I 1, (.bool false), (.bool false), (.tuple #[(sl 49 0 5 5), I 6, I 0]), (sl 48 0 5 5), (.tuple #[(sl 49 0 5 5), I 6, I 0]), (sl 49 0 5 5), I 6, I 0] ++ us 117)
noncomputable def X18 : Heap := [(rrow [I 10, I 20] 3), (rrow [I 12, I 20] 3), (rrow [I 11, I 26] 3), (rrow [I 30, I 20] 3), rowAwS_10, (rrow [I 9, I 19] 3), (rrow [I 13, I 21] 3), rowAwS_15, (rrow [I 10, I 20] 3), (rrow [I 12, I 20] 3), (rrow [I 11, I 26] 3), (rrow [I 30, I 20] 3), rowAwS_9, (rrow [I 1] 3), (rrow [I 10, I 20] 3), (rrow [I 12, I 20] 3), (rrow [I 11, I 26] 3), (rrow [I 30, I 20] 3), rowAwS_0, (rrow [I 0] 3), (rrow [I 10, I 20] 3), (rrow [I 12, I 20] 3), (rrow [I 11, I 26] 3), (rrow [I 30, I 20] 3), rowAwS_1, (rvar [I 1, I 2] 59), (rrow [I 10, I 20] 3), (rrow [I 12, I 20] 3), rowAwS_14, (rvar [sn, sn] 30), (rrow [I 10, I 20] 3), (rrow [I 12, I 20] 3), (rrow [I 11, I 26] 3), (rrow [I 30, I 20] 3), rowAwS_2, (rrow [I 9, I 19] 3), (rrow [I 13, I 21] 3), (rrow [I 1] 3), (rrow [I 0] 3), (rrow [I 10, I 20] 3), (rrow [I 12, I 20] 3), rowAwS_18, (rvar [I 1, I 2] 59), (rvar [I 1, I 6] 59), rowAwS_16, rowAwS_18, (rrow [(.bool false), (.bool false)] 4), (rrow [(.bool true)] 4), rowAwS_11, rowAwS_12]
noncomputable def L19 : List Value := ([(.bool false), (pt 7 0), I 0, (sl 13 0 1 1), I 0, (sl 19 0 1 1), I 0, (pt 25 0), I 0, (pt 28 0), I 0, (pt 29 0), I 24, I 1, I 0, (pt 41 0), (pt 42 0), I 0, (pt 43 0), I 0, (pt 44 0), I 0, (pt 45 0), I 0, (.bool true), I 2, I 0, (.bool false), I 1, I 0, (sl 49 0 5 5), I 6, I 0, (sl 51 0 5 5), I 5, I 0, U, U, U, U, U, U, U, U, U, U, U, U, U, U, U, (.tuple #[(.agg #[(sl 5 0 2 2), (sl 6 0 2 2)]), I 0]), (sl 4 0 4 4), (sl 4 0 2 2), (.tuple #[(.agg #[(sl 5 0 2 2), (sl 6 0 2 2)]), I 0]), (.agg #[(sl 5 0 2 2), (sl 6 0 2 2)]), I 0, (.tuple #[(sl 13 0 1 1), I 0]), (.agg #[(sl 5 0 2 2), (sl 6 0 2 2)]), (sl 12 0 4 4), (pt 12 4), (.agg #[(.string (ByteArray.mk #[(UInt8.ofNat 99)])), (sl 10 0 2 2)]), (.tuple #[(sl 13 0 1 1), I 0]), (sl 13 0 1 1), I 0, (.tuple #[(sl 19 0 1 1), I 0]), (.agg #[(sl 5 0 2 2), (sl 6 0 2 2)]), (sl 18 0 4 4), (pt 18 6), (.agg #[(.string (ByteArray.mk #[(UInt8.ofNat 100)])), (sl 17 0 2 2)]), (.tuple #[(sl 19 0 1 1), I 0]), (sl 19 0 1 1), I 0, (.tuple #[(g2 1 2), I 0]), (.agg #[(sl 5 0 2 2), (sl 6 0 2 2)]), (sl 24 0 4 4), (.tuple #[(g2 1 2), I 0]), (g2 1 2), I 0, (.tuple #[(.agg #[(sl 26 0 2 2), (sl 27 0 2 2)]), I 0]), (.agg #[(sl 5 0 2 2), (sl 6 0 2 2)]), (.tuple #[(.agg #[(sl 26 0 2 2), (sl 27 0 2 2)]), I 0]), (.agg #[(sl 26 0 2 2), (sl 27 0 2 2)]), I 0, (.tuple #[(.agg #[sn, sn]), I 24]), (.agg #[(sl 5 0 2 2), (sl 6 0 2 2)]), (.tuple #[(.agg #[sn, sn]), I 24]), (.agg #[sn, sn]), I 24, (.tuple #[I 1, I 0]), (.agg #[(sl 5 0 2 2), (sl 6 0 2 2)]), (sl 34 0 4 4), (pt 34 0), (.agg #[(.string (ByteArray.mk #[(UInt8.ofNat 97)])), (sl 30 0 2 2)]), (.tuple #[I 1, I 0]), I 1, I 0, I 0, I 0, I 0, I 0, I 0, I 0, I 0, I 0, I 0, I 0, I 0, (.bool false), (.bool false), I 24, (.bool false), (.bool false), (.bool false), (.agg #[(sl 5 0 2 2), (sl 6 0 2 2)]), (sl 35 0 2 2), (sl 36 0 2 2), (.agg #[(sl 35 0 2 2), (sl 36 0 2 2)]), (.bool true), (.bool false), (.bool false), (.bool false), (sl 13 0 1 1), (sl 37 0 1 1), (.bool true), (.bool false), (.bool false), (.bool false), (sl 19 0 1 1), (sl 38 0 1 1), (.bool true), (.bool false), (.bool false), (.bool false), (g2 1 2), (g2 1 2), (.bool false), (.bool false), (.bool false), (.agg #[(sl 26 0 2 2), (sl 27 0 2 2)]), (sl 39 0 2 2), (sl 40 0 2 2), (.agg #[(sl 39 0 2 2), (sl 40 0 2 2)]), (.bool true), (.bool false), (.bool false), (.bool false), I 1, (.bool false), (.bool false), (.agg #[I 4, I 2, I 0]), (.tuple #[(g2 1 2), I 0]), (.agg #[I 4, I 2, I 0]), (.tuple #[(g2 1 2), I 0]), (g2 1 2), I 0, (.tuple #[(g2 1 6), I 0]), (.agg #[I 4, I 2, I 0]), (.tuple #[(g2 1 6), I 0]), (g2 1 6), I 0, (.tuple #[(.agg #[I 0, I 1, I 1, I 6]), I 0]), (.agg #[I 4, I 2, I 0]), (.tuple #[(.agg #[I 0, I 1, I 1, I 6]), I 0]), (.agg #[I 0, I 1, I 1, I 6]), I 0, (.tuple #[(.agg #[I 4, I 2, I 0]), I 0]), (g2 1 2), (g2 1 6), (.agg #[I 1, I 2, I 1, I 6]), (.tuple #[(.agg #[I 4, I 2, I 0]), I 0]), (.agg #[I 4, I 2, I 0]), I 0, (.tuple #[(.bool true), I 2, I 0]), (.agg #[I 4, I 2, I 0]), (sl 46 0 2 2), (.tuple #[(.bool true), I 2, I 0]), (.bool true), I 2, I 0, (.tuple #[(.bool false), I 1, I 0]), (.agg #[I 4, I 2, I 0]), (sl 47 0 1 1), (.tuple #[(.bool false), I 1, I 0]), (.bool false), I 1, I 0, I 0, I 0, I 0, I 0, I 0, I 0, I 0, I 0, I 0, I 0, I 0, (.bool false), (.bool false), (g2 1 2), (g2 1 2), (.bool false), (.bool false), (.bool false), (g2 1 6), (g2 1 6), (.bool false), (.bool false), (.bool false), (.agg #[I 0, I 1, I 1, I 6]), (g2 0 1), (g2 1 6), (.agg #[I 0, I 1, I 1, I 6]), (.bool false), (.bool false), (.bool false), (.agg #[I 4, I 2, I 0]), (.agg #[I 4, I 2, I 0]), (.bool false), (.bool false), (.bool false), (.bool true), (.bool false), (.bool false), (.bool false), I 2, (.bool false), (.bool false), (.bool false), (.bool false), (.bool false), (.bool false), I 1, (.bool false), (.bool false), (.tuple #[(sl 49 0 5 5), I 6, I 0]), (sl 48 0 5 5), (.tuple #[(sl 49 0 5 5), I 6, I 0]), (sl 49 0 5 5), I 6, I 0, (.tuple #[(sl 51 0 5 5), I 5, I 0]), (sl 50 0 5 5), (.tuple #[(sl 51 0 5 5), I 5, I 0]), (sl 51 0 5 5), I 5, I 0] ++ us 111)
noncomputable def X19 : Heap := [(rrow [I 10, I 20] 3), (rrow [I 12, I 20] 3), (rrow [I 11, I 26] 3), (rrow [I 30, I 20] 3), rowAwS_10, (rrow [I 9, I 19] 3), (rrow [I 13, I 21] 3), rowAwS_15, (rrow [I 10, I 20] 3), (rrow [I 12, I 20] 3), (rrow [I 11, I 26] 3), (rrow [I 30, I 20] 3), rowAwS_9, (rrow [I 1] 3), (rrow [I 10, I 20] 3), (rrow [I 12, I 20] 3), (rrow [I 11, I 26] 3), (rrow [I 30, I 20] 3), rowAwS_0, (rrow [I 0] 3), (rrow [I 10, I 20] 3), (rrow [I 12, I 20] 3), (rrow [I 11, I 26] 3), (rrow [I 30, I 20] 3), rowAwS_1, (rvar [I 1, I 2] 59), (rrow [I 10, I 20] 3), (rrow [I 12, I 20] 3), rowAwS_14, (rvar [sn, sn] 30), (rrow [I 10, I 20] 3), (rrow [I 12, I 20] 3), (rrow [I 11, I 26] 3), (rrow [I 30, I 20] 3), rowAwS_2, (rrow [I 9, I 19] 3), (rrow [I 13, I 21] 3), (rrow [I 1] 3), (rrow [I 0] 3), (rrow [I 10, I 20] 3), (rrow [I 12, I 20] 3), rowAwS_18, (rvar [I 1, I 2] 59), (rvar [I 1, I 6] 59), rowAwS_16, rowAwS_18, (rrow [(.bool false), (.bool false)] 4), (rrow [(.bool true)] 4), rowAwS_11, rowAwS_12, rowAwS_11, rowAwS_13]
noncomputable def L20 : List Value := ([(.bool false), (pt 7 0), I 0, (sl 13 0 1 1), I 0, (sl 19 0 1 1), I 0, (pt 25 0), I 0, (pt 28 0), I 0, (pt 29 0), I 24, I 1, I 0, (pt 41 0), (pt 42 0), I 0, (pt 43 0), I 0, (pt 44 0), I 0, (pt 45 0), I 0, (.bool true), I 2, I 0, (.bool false), I 1, I 0, (sl 49 0 5 5), I 6, I 0, (sl 51 0 5 5), I 5, I 0, I 6, I 0, U, U, U, U, U, U, U, U, U, U, U, U, U, (.tuple #[(.agg #[(sl 5 0 2 2), (sl 6 0 2 2)]), I 0]), (sl 4 0 4 4), (sl 4 0 2 2), (.tuple #[(.agg #[(sl 5 0 2 2), (sl 6 0 2 2)]), I 0]), (.agg #[(sl 5 0 2 2), (sl 6 0 2 2)]), I 0, (.tuple #[(sl 13 0 1 1), I 0]), (.agg #[(sl 5 0 2 2), (sl 6 0 2 2)]), (sl 12 0 4 4), (pt 12 4), (.agg #[(.string (ByteArray.mk #[(UInt8.ofNat 99)])), (sl 10 0 2 2)]), (.tuple #[(sl 13 0 1 1), I 0]), (sl 13 0 1 1), I 0, (.tuple #[(sl 19 0 1 1), I 0]), (.agg #[(sl 5 0 2 2), (sl 6 0 2 2)]), (sl 18 0 4 4), (pt 18 6), (.agg #[(.string (ByteArray.mk #[(UInt8.ofNat 100)])), (sl 17 0 2 2)]), (.tuple #[(sl 19 0 1 1), I 0]), (sl 19 0 1 1), I 0, (.tuple #[(g2 1 2), I 0]), (.agg #[(sl 5 0 2 2), (sl 6 0 2 2)]), (sl 24 0 4 4), (.tuple #[(g2 1 2), I 0]), (g2 1 2), I 0, (.tuple #[(.agg #[(sl 26 0 2 2), (sl 27 0 2 2)]), I 0]), (.agg #[(sl 5 0 2 2), (sl 6 0 2 2)]), (.tuple #[(.agg #[(sl 26 0 2 2), (sl 27 0 2 2)]), I 0]), (.agg #[(sl 26 0 2 2), (sl 27 0 2 2)]), I 0, (.tuple #[(.agg #[sn, sn]), I 24]), (.agg #[(sl 5 0 2 2), (sl 6 0 2 2)]), (.tuple #[(.agg #[sn, sn]), I 24]), (.agg #[sn, sn]), I 24, (.tuple #[I 1, I 0]), (.agg #[(sl 5 0 2 2), (sl 6 0 2 2)]), (sl 34 0 4 4), (pt 34 0), (.agg #[(.string (ByteArray.mk #[(UInt8.ofNat 97)])), (sl 30 0 2 2)]), (.tuple #[I 1, I 0]), I 1, I 0, I 0, I 0, I 0, I 0, I 0, I 0, I 0, I 0, I 0, I 0, I 0, (.bool false), (.bool false), I 24, (.bool false), (.bool false), (.bool false), (.agg #[(sl 5 0 2 2), (sl 6 0 2 2)]), (sl 35 0 2 2), (sl 36 0 2 2), (.agg #[(sl 35 0 2 2), (sl 36 0 2 2)]), (.bool true), (.bool false), (.bool false), (.bool false), (sl 13 0 1 1), (sl 37 0 1 1), (.bool true), (.bool false), (.bool false), (.bool false), (sl 19 0 1 1), (sl 38 0 1 1), (.bool true), (.bool false), (.bool false), (.bool false), (g2 1 2), (g2 1 2), (.bool false), (.bool false), (.bool false), (.agg #[(sl 26 0 2 2), (sl 27 0 2 2)]), (sl 39 0 2 2), (sl 40 0 2 2), (.agg #[(sl 39 0 2 2), (sl 40 0 2 2)]), (.bool true), (.bool false), (.bool false), (.bool false), I 1, (.bool false), (.bool false), (.agg #[I 4, I 2, I 0]), (.tuple #[(g2 1 2), I 0]), (.agg #[I 4, I 2, I 0]), (.tuple #[(g2 1 2), I 0]), (g2 1 2), I 0, (.tuple #[(g2 1 6), I 0]), (.agg #[I 4, I 2, I 0]), (.tuple #[(g2 1 6), I 0]), (g2 1 6), I 0, (.tuple #[(.agg #[I 0, I 1, I 1, I 6]), I 0]), (.agg #[I 4, I 2, I 0]), (.tuple #[(.agg #[I 0, I 1, I 1, I 6]), I 0]), (.agg #[I 0, I 1, I 1, I 6]), I 0, (.tuple #[(.agg #[I 4, I 2, I 0]), I 0]), (g2 1 2), (g2 1 6), (.agg #[I 1, I 2, I 1, I 6]), (.tuple #[(.agg #[I 4, I 2, I 0]), I 0]), (.agg #[I 4, I 2, I 0]), I 0, (.tuple #[(.bool true), I 2, I 0]), (.agg #[I 4, I 2, I 0]), (sl 46 0 2 2), (.tuple #[(.bool true), I 2, I 0]), (.bool true), I 2, I 0, (.tuple #[(.bool false), I 1, I 0]), (.agg #[I 4, I 2, I 0]), (sl 47 0 1 1), (.tuple #[(.bool false), I 1, I 0]), (.bool false), I 1, I 0, I 0, I 0, I 0, I 0, I 0, I 0, I 0, I 0, I 0, I 0, I 0, (.bool false), (.bool false), (g2 1 2), (g2 1 2), (.bool false), (.bool false), (.bool false), (g2 1 6), (g2 1 6), (.bool false), (.bool false), (.bool false), (.agg #[I 0, I 1, I 1, I 6]), (g2 0 1), (g2 1 6), (.agg #[I 0, I 1, I 1, I 6]), (.bool false), (.bool false), (.bool false), (.agg #[I 4, I 2, I 0]), (.agg #[I 4, I 2, I 0]), (.bool false), (.bool false), (.bool false), (.bool true), (.bool false), (.bool false), (.bool false), I 2, (.bool false), (.bool false), (.bool false), (.bool false), (.bool false), (.bool false), I 1, (.bool false), (.bool false), (.tuple #[(sl 49 0 5 5), I 6, I 0]), (sl 48 0 5 5), (.tuple #[(sl 49 0 5 5), I 6, I 0]), (sl 49 0 5 5), I 6, I 0, (.tuple #[(sl 51 0 5 5), I 5, I 0]), (sl 50 0 5 5), (.tuple #[(sl 51 0 5 5), I 5, I 0]), (sl 51 0 5 5), I 5, I 0, (.tuple #[I 6, I 0]), (sl 52 0 5 5), (.tuple #[I 6, I 0]), I 6, I 0] ++ us 106)
noncomputable def X20 : Heap := [(rrow [I 10, I 20] 3), (rrow [I 12, I 20] 3), (rrow [I 11, I 26] 3), (rrow [I 30, I 20] 3), rowAwS_10, (rrow [I 9, I 19] 3), (rrow [I 13, I 21] 3), rowAwS_15, (rrow [I 10, I 20] 3), (rrow [I 12, I 20] 3), (rrow [I 11, I 26] 3), (rrow [I 30, I 20] 3), rowAwS_9, (rrow [I 1] 3), (rrow [I 10, I 20] 3), (rrow [I 12, I 20] 3), (rrow [I 11, I 26] 3), (rrow [I 30, I 20] 3), rowAwS_0, (rrow [I 0] 3), (rrow [I 10, I 20] 3), (rrow [I 12, I 20] 3), (rrow [I 11, I 26] 3), (rrow [I 30, I 20] 3), rowAwS_1, (rvar [I 1, I 2] 59), (rrow [I 10, I 20] 3), (rrow [I 12, I 20] 3), rowAwS_14, (rvar [sn, sn] 30), (rrow [I 10, I 20] 3), (rrow [I 12, I 20] 3), (rrow [I 11, I 26] 3), (rrow [I 30, I 20] 3), rowAwS_2, (rrow [I 9, I 19] 3), (rrow [I 13, I 21] 3), (rrow [I 1] 3), (rrow [I 0] 3), (rrow [I 10, I 20] 3), (rrow [I 12, I 20] 3), rowAwS_18, (rvar [I 1, I 2] 59), (rvar [I 1, I 6] 59), rowAwS_16, rowAwS_18, (rrow [(.bool false), (.bool false)] 4), (rrow [(.bool true)] 4), rowAwS_11, rowAwS_12, rowAwS_11, rowAwS_13, rowAwS_11]
noncomputable def L21 : List Value := ([(.bool false), (pt 7 0), I 0, (sl 13 0 1 1), I 0, (sl 19 0 1 1), I 0, (pt 25 0), I 0, (pt 28 0), I 0, (pt 29 0), I 24, I 1, I 0, (pt 41 0), (pt 42 0), I 0, (pt 43 0), I 0, (pt 44 0), I 0, (pt 45 0), I 0, (.bool true), I 2, I 0, (.bool false), I 1, I 0, (sl 49 0 5 5), I 6, I 0, (sl 51 0 5 5), I 5, I 0, I 6, I 0, I 4, I 0, U, U, U, U, U, U, U, U, U, U, U, (.tuple #[(.agg #[(sl 5 0 2 2), (sl 6 0 2 2)]), I 0]), (sl 4 0 4 4), (sl 4 0 2 2), (.tuple #[(.agg #[(sl 5 0 2 2), (sl 6 0 2 2)]), I 0]), (.agg #[(sl 5 0 2 2), (sl 6 0 2 2)]), I 0, (.tuple #[(sl 13 0 1 1), I 0]), (.agg #[(sl 5 0 2 2), (sl 6 0 2 2)]), (sl 12 0 4 4), (pt 12 4), (.agg #[(.string (ByteArray.mk #[(UInt8.ofNat 99)])), (sl 10 0 2 2)]), (.tuple #[(sl 13 0 1 1), I 0]), (sl 13 0 1 1), I 0, (.tuple #[(sl 19 0 1 1), I 0]), (.agg #[(sl 5 0 2 2), (sl 6 0 2 2)]), (sl 18 0 4 4), (pt 18 6), (.agg #[(.string (ByteArray.mk #[(UInt8.ofNat 100)])), (sl 17 0 2 2)]), (.tuple #[(sl 19 0 1 1), I 0]), (sl 19 0 1 1), I 0, (.tuple #[(g2 1 2), I 0]), (.agg #[(sl 5 0 2 2), (sl 6 0 2 2)]), (sl 24 0 4 4), (.tuple #[(g2 1 2), I 0]), (g2 1 2), I 0, (.tuple #[(.agg #[(sl 26 0 2 2), (sl 27 0 2 2)]), I 0]), (.agg #[(sl 5 0 2 2), (sl 6 0 2 2)]), (.tuple #[(.agg #[(sl 26 0 2 2), (sl 27 0 2 2)]), I 0]), (.agg #[(sl 26 0 2 2), (sl 27 0 2 2)]), I 0, (.tuple #[(.agg #[sn, sn]), I 24]), (.agg #[(sl 5 0 2 2), (sl 6 0 2 2)]), (.tuple #[(.agg #[sn, sn]), I 24]), (.agg #[sn, sn]), I 24, (.tuple #[I 1, I 0]), (.agg #[(sl 5 0 2 2), (sl 6 0 2 2)]), (sl 34 0 4 4), (pt 34 0), (.agg #[(.string (ByteArray.mk #[(UInt8.ofNat 97)])), (sl 30 0 2 2)]), (.tuple #[I 1, I 0]), I 1, I 0, I 0, I 0, I 0, I 0, I 0, I 0, I 0, I 0, I 0, I 0, I 0, (.bool false), (.bool false), I 24, (.bool false), (.bool false), (.bool false), (.agg #[(sl 5 0 2 2), (sl 6 0 2 2)]), (sl 35 0 2 2), (sl 36 0 2 2), (.agg #[(sl 35 0 2 2), (sl 36 0 2 2)]), (.bool true), (.bool false), (.bool false), (.bool false), (sl 13 0 1 1), (sl 37 0 1 1), (.bool true), (.bool false), (.bool false), (.bool false), (sl 19 0 1 1), (sl 38 0 1 1), (.bool true), (.bool false), (.bool false), (.bool false), (g2 1 2), (g2 1 2), (.bool false), (.bool false), (.bool false), (.agg #[(sl 26 0 2 2), (sl 27 0 2 2)]), (sl 39 0 2 2), (sl 40 0 2 2), (.agg #[(sl 39 0 2 2), (sl 40 0 2 2)]), (.bool true), (.bool false), (.bool false), (.bool false), I 1, (.bool false), (.bool false), (.agg #[I 4, I 2, I 0]), (.tuple #[(g2 1 2), I 0]), (.agg #[I 4, I 2, I 0]), (.tuple #[(g2 1 2), I 0]), (g2 1 2), I 0, (.tuple #[(g2 1 6), I 0]), (.agg #[I 4, I 2, I 0]), (.tuple #[(g2 1 6), I 0]), (g2 1 6), I 0, (.tuple #[(.agg #[I 0, I 1, I 1, I 6]), I 0]), (.agg #[I 4, I 2, I 0]), (.tuple #[(.agg #[I 0, I 1, I 1, I 6]), I 0]), (.agg #[I 0, I 1, I 1, I 6]), I 0, (.tuple #[(.agg #[I 4, I 2, I 0]), I 0]), (g2 1 2), (g2 1 6), (.agg #[I 1, I 2, I 1, I 6]), (.tuple #[(.agg #[I 4, I 2, I 0]), I 0]), (.agg #[I 4, I 2, I 0]), I 0, (.tuple #[(.bool true), I 2, I 0]), (.agg #[I 4, I 2, I 0]), (sl 46 0 2 2), (.tuple #[(.bool true), I 2, I 0]), (.bool true), I 2, I 0, (.tuple #[(.bool false), I 1, I 0]), (.agg #[I 4, I 2, I 0]), (sl 47 0 1 1), (.tuple #[(.bool false), I 1, I 0]), (.bool false), I 1, I 0, I 0, I 0, I 0, I 0, I 0, I 0, I 0, I 0, I 0, I 0, I 0, (.bool false), (.bool false), (g2 1 2), (g2 1 2), (.bool false), (.bool false), (.bool false), (g2 1 6), (g2 1 6), (.bool false), (.bool false), (.bool false), (.agg #[I 0, I 1, I 1, I 6]), (g2 0 1), (g2 1 6), (.agg #[I 0, I 1, I 1, I 6]), (.bool false), (.bool false), (.bool false), (.agg #[I 4, I 2, I 0]), (.agg #[I 4, I 2, I 0]), (.bool false), (.bool false), (.bool false), (.bool true), (.bool false), (.bool false), (.bool false), I 2, (.bool false), (.bool false), (.bool false), (.bool false), (.bool false), (.bool false), I 1, (.bool false), (.bool false), (.tuple #[(sl 49 0 5 5), I 6, I 0]), (sl 48 0 5 5), (.tuple #[(sl 49 0 5 5), I 6, I 0]), (sl 49 0 5 5), I 6, I 0, (.tuple #[(sl 51 0 5 5), I 5, I 0]), (sl 50 0 5 5), (.tuple #[(sl 51 0 5 5), I 5, I 0]), (sl 51 0 5 5), I 5, I 0, (.tuple #[I 6, I 0]), (sl 52 0 5 5), (.tuple #[I 6, I 0]), I 6, I 0, (.tuple #[I 4, I 0]), (sl 53 0 5 5), (.tuple #[I 4, I 0]), I 4, I 0] ++ us 101)
noncomputable def X21 : Heap := [(rrow [I 10, I 20] 3), (rrow [I 12, I 20] 3), (rrow [I 11, I 26] 3), (rrow [I 30, I 20] 3), rowAwS_10, (rrow [I 9, I 19] 3), (rrow [I 13, I 21] 3), rowAwS_15, (rrow [I 10, I 20] 3), (rrow [I 12, I 20] 3), (rrow [I 11, I 26] 3), (rrow [I 30, I 20] 3), rowAwS_9, (rrow [I 1] 3), (rrow [I 10, I 20] 3), (rrow [I 12, I 20] 3), (rrow [I 11, I 26] 3), (rrow [I 30, I 20] 3), rowAwS_0, (rrow [I 0] 3), (rrow [I 10, I 20] 3), (rrow [I 12, I 20] 3), (rrow [I 11, I 26] 3), (rrow [I 30, I 20] 3), rowAwS_1, (rvar [I 1, I 2] 59), (rrow [I 10, I 20] 3), (rrow [I 12, I 20] 3), rowAwS_14, (rvar [sn, sn] 30), (rrow [I 10, I 20] 3), (rrow [I 12, I 20] 3), (rrow [I 11, I 26] 3), (rrow [I 30, I 20] 3), rowAwS_2, (rrow [I 9, I 19] 3), (rrow [I 13, I 21] 3), (rrow [I 1] 3), (rrow [I 0] 3), (rrow [I 10, I 20] 3), (rrow [I 12, I 20] 3), rowAwS_18, (rvar [I 1, I 2] 59), (rvar [I 1, I 6] 59), rowAwS_16, rowAwS_18, (rrow [(.bool false), (.bool false)] 4), (rrow [(.bool true)] 4), rowAwS_11, rowAwS_12, rowAwS_11, rowAwS_13, rowAwS_11, rowAwS_11]
noncomputable def L22 : List Value := ([(.bool false), (pt 7 0), I 0, (sl 13 0 1 1), I 0, (sl 19 0 1 1), I 0, (pt 25 0), I 0, (pt 28 0), I 0, (pt 29 0), I 24, I 1, I 0, (pt 41 0), (pt 42 0), I 0, (pt 43 0), I 0, (pt 44 0), I 0, (pt 45 0), I 0, (.bool true), I 2, I 0, (.bool false), I 1, I 0, (sl 49 0 5 5), I 6, I 0, (sl 51 0 5 5), I 5, I 0, I 6, I 0, I 4, I 0, (sl 59 0 2 2), I 18, I 0, U, U, U, U, U, U, U, U, (.tuple #[(.agg #[(sl 5 0 2 2), (sl 6 0 2 2)]), I 0]), (sl 4 0 4 4), (sl 4 0 2 2), (.tuple #[(.agg #[(sl 5 0 2 2), (sl 6 0 2 2)]), I 0]), (.agg #[(sl 5 0 2 2), (sl 6 0 2 2)]), I 0, (.tuple #[(sl 13 0 1 1), I 0]), (.agg #[(sl 5 0 2 2), (sl 6 0 2 2)]), (sl 12 0 4 4), (pt 12 4), (.agg #[(.string (ByteArray.mk #[(UInt8.ofNat 99)])), (sl 10 0 2 2)]), (.tuple #[(sl 13 0 1 1), I 0]), (sl 13 0 1 1), I 0, (.tuple #[(sl 19 0 1 1), I 0]), (.agg #[(sl 5 0 2 2), (sl 6 0 2 2)]), (sl 18 0 4 4), (pt 18 6), (.agg #[(.string (ByteArray.mk #[(UInt8.ofNat 100)])), (sl 17 0 2 2)]), (.tuple #[(sl 19 0 1 1), I 0]), (sl 19 0 1 1), I 0, (.tuple #[(g2 1 2), I 0]), (.agg #[(sl 5 0 2 2), (sl 6 0 2 2)]), (sl 24 0 4 4), (.tuple #[(g2 1 2), I 0]), (g2 1 2), I 0, (.tuple #[(.agg #[(sl 26 0 2 2), (sl 27 0 2 2)]), I 0]), (.agg #[(sl 5 0 2 2), (sl 6 0 2 2)]), (.tuple #[(.agg #[(sl 26 0 2 2), (sl 27 0 2 2)]), I 0]), (.agg #[(sl 26 0 2 2), (sl 27 0 2 2)]), I 0, (.tuple #[(.agg #[sn, sn]), I 24]), (.agg #[(sl 5 0 2 2), (sl 6 0 2 2)]), (.tuple #[(.agg #[sn, sn]), I 24]), (.agg #[sn, sn]), I 24, (.tuple #[I 1, I 0]), (.agg #[(sl 5 0 2 2), (sl 6 0 2 2)]), (sl 34 0 4 4), (pt 34 0), (.agg #[(.string (ByteArray.mk #[(UInt8.ofNat 97)])), (sl 30 0 2 2)]), (.tuple #[I 1, I 0]), I 1, I 0, I 0, I 0, I 0, I 0, I 0, I 0, I 0, I 0, I 0, I 0, I 0, (.bool false), (.bool false), I 24, (.bool false), (.bool false), (.bool false), (.agg #[(sl 5 0 2 2), (sl 6 0 2 2)]), (sl 35 0 2 2), (sl 36 0 2 2), (.agg #[(sl 35 0 2 2), (sl 36 0 2 2)]), (.bool true), (.bool false), (.bool false), (.bool false), (sl 13 0 1 1), (sl 37 0 1 1), (.bool true), (.bool false), (.bool false), (.bool false), (sl 19 0 1 1), (sl 38 0 1 1), (.bool true), (.bool false), (.bool false), (.bool false), (g2 1 2), (g2 1 2), (.bool false), (.bool false), (.bool false), (.agg #[(sl 26 0 2 2), (sl 27 0 2 2)]), (sl 39 0 2 2), (sl 40 0 2 2), (.agg #[(sl 39 0 2 2), (sl 40 0 2 2)]), (.bool true), (.bool false), (.bool false), (.bool false), I 1, (.bool false), (.bool false), (.agg #[I 4, I 2, I 0]), (.tuple #[(g2 1 2), I 0]), (.agg #[I 4, I 2, I 0]), (.tuple #[(g2 1 2), I 0]), (g2 1 2), I 0, (.tuple #[(g2 1 6), I 0]), (.agg #[I 4, I 2, I 0]), (.tuple #[(g2 1 6), I 0]), (g2 1 6), I 0, (.tuple #[(.agg #[I 0, I 1, I 1, I 6]), I 0]), (.agg #[I 4, I 2, I 0]), (.tuple #[(.agg #[I 0, I 1, I 1, I 6]), I 0]), (.agg #[I 0, I 1, I 1, I 6]), I 0, (.tuple #[(.agg #[I 4, I 2, I 0]), I 0]), (g2 1 2), (g2 1 6), (.agg #[I 1, I 2, I 1, I 6]), (.tuple #[(.agg #[I 4, I 2, I 0]), I 0]), (.agg #[I 4, I 2, I 0]), I 0, (.tuple #[(.bool true), I 2, I 0]), (.agg #[I 4, I 2, I 0]), (sl 46 0 2 2), (.tuple #[(.bool true), I 2, I 0]), (.bool true), I 2, I 0, (.tuple #[(.bool false), I 1, I 0]), (.agg #[I 4, I 2, I 0]), (sl 47 0 1 1), (.tuple #[(.bool false), I 1, I 0]), (.bool false), I 1, I 0, I 0, I 0, I 0, I 0, I 0, I 0, I 0, I 0, I 0, I 0, I 0, (.bool false), (.bool false), (g2 1 2), (g2 1 2), (.bool false), (.bool false), (.bool false), (g2 1 6), (g2 1 6), (.bool false), (.bool false), (.bool false), (.agg #[I 0, I 1, I 1, I 6]), (g2 0 1), (g2 1 6), (.agg #[I 0, I 1, I 1, I 6]), (.bool false), (.bool false), (.bool false), (.agg #[I 4, I 2, I 0]), (.agg #[I 4, I 2, I 0]), (.bool false), (.bool false), (.bool false), (.bool true), (.bool false), (.bool false), (.bool false), I 2, (.bool false), (.bool false), (.bool false), (.bool false), (.bool false), (.bool false), I 1, (.bool false), (.bool false), (.tuple #[(sl 49 0 5 5), I 6, I 0]), (sl 48 0 5 5), (.tuple #[(sl 49 0 5 5), I 6, I 0]), (sl 49 0 5 5), I 6, I 0, (.tuple #[(sl 51 0 5 5), I 5, I 0]), (sl 50 0 5 5), (.tuple #[(sl 51 0 5 5), I 5, I 0]), (sl 51 0 5 5), I 5, I 0, (.tuple #[I 6, I 0]), (sl 52 0 5 5), (.tuple #[I 6, I 0]), I 6, I 0, (.tuple #[I 4, I 0]), (sl 53 0 5 5), (.tuple #[I 4, I 0]), I 4, I 0, (.tuple #[(sl 59 0 2 2), I 18, I 0]), (sl 58 0 4 4), (.tuple #[(sl 59 0 2 2), I 18, I 0]), (sl 59 0 2 2), I 18, I 0] ++ us 95)
noncomputable def X22 : Heap := [(rrow [I 10, I 20] 3), (rrow [I 12, I 20] 3), (rrow [I 11, I 26] 3), (rrow [I 30, I 20] 3), rowAwS_10, (rrow [I 9, I 19] 3), (rrow [I 13, I 21] 3), rowAwS_15, (rrow [I 10, I 20] 3), (rrow [I 12, I 20] 3), (rrow [I 11, I 26] 3), (rrow [I 30, I 20] 3), rowAwS_9, (rrow [I 1] 3), (rrow [I 10, I 20] 3), (rrow [I 12, I 20] 3), (rrow [I 11, I 26] 3), (rrow [I 30, I 20] 3), rowAwS_0, (rrow [I 0] 3), (rrow [I 10, I 20] 3), (rrow [I 12, I 20] 3), (rrow [I 11, I 26] 3), (rrow [I 30, I 20] 3), rowAwS_1, (rvar [I 1, I 2] 59), (rrow [I 10, I 20] 3), (rrow [I 12, I 20] 3), rowAwS_14, (rvar [sn, sn] 30), (rrow [I 10, I 20] 3), (rrow [I 12, I 20] 3), (rrow [I 11, I 26] 3), (rrow [I 30, I 20] 3), rowAwS_2, (rrow [I 9, I 19] 3), (rrow [I 13, I 21] 3), (rrow [I 1] 3), (rrow [I 0] 3), (rrow [I 10, I 20] 3), (rrow [I 12, I 20] 3), rowAwS_18, (rvar [I 1, I 2] 59), (rvar [I 1, I 6] 59), rowAwS_16, rowAwS_18, (rrow [(.bool false), (.bool false)] 4), (rrow [(.bool true)] 4), rowAwS_11, rowAwS_12, rowAwS_11, rowAwS_13, rowAwS_11, rowAwS_11, (rrow [I 10, I 20] 3), (rrow [I 12, I 20] 3), (rrow [I 11, I 26] 3), (rrow [I 30, I 20] 3), rowAwS_3, rowAwS_17]
noncomputable def L23 : List Value := ([(.bool false), (pt 7 0), I 0, (sl 13 0 1 1), I 0, (sl 19 0 1 1), I 0, (pt 25 0), I 0, (pt 28 0), I 0, (pt 29 0), I 24, I 1, I 0, (pt 41 0), (pt 42 0), I 0, (pt 43 0), I 0, (pt 44 0), I 0, (pt 45 0), I 0, (.bool true), I 2, I 0, (.bool false), I 1, I 0, (sl 49 0 5 5), I 6, I 0, (sl 51 0 5 5), I 5, I 0, I 6, I 0, I 4, I 0, (sl 59 0 2 2), I 18, I 0, sn, I 0, U, U, U, U, U, U, (.tuple #[(.agg #[(sl 5 0 2 2), (sl 6 0 2 2)]), I 0]), (sl 4 0 4 4), (sl 4 0 2 2), (.tuple #[(.agg #[(sl 5 0 2 2), (sl 6 0 2 2)]), I 0]), (.agg #[(sl 5 0 2 2), (sl 6 0 2 2)]), I 0, (.tuple #[(sl 13 0 1 1), I 0]), (.agg #[(sl 5 0 2 2), (sl 6 0 2 2)]), (sl 12 0 4 4), (pt 12 4), (.agg #[(.string (ByteArray.mk #[(UInt8.ofNat 99)])), (sl 10 0 2 2)]), (.tuple #[(sl 13 0 1 1), I 0]), (sl 13 0 1 1), I 0, (.tuple #[(sl 19 0 1 1), I 0]), (.agg #[(sl 5 0 2 2), (sl 6 0 2 2)]), (sl 18 0 4 4), (pt 18 6), (.agg #[(.string (ByteArray.mk #[(UInt8.ofNat 100)])), (sl 17 0 2 2)]), (.tuple #[(sl 19 0 1 1), I 0]), (sl 19 0 1 1), I 0, (.tuple #[(g2 1 2), I 0]), (.agg #[(sl 5 0 2 2), (sl 6 0 2 2)]), (sl 24 0 4 4), (.tuple #[(g2 1 2), I 0]), (g2 1 2), I 0, (.tuple #[(.agg #[(sl 26 0 2 2), (sl 27 0 2 2)]), I 0]), (.agg #[(sl 5 0 2 2), (sl 6 0 2 2)]), (.tuple #[(.agg #[(sl 26 0 2 2), (sl 27 0 2 2)]), I 0]), (.agg #[(sl 26 0 2 2), (sl 27 0 2 2)]), I 0, (.tuple #[(.agg #[sn, sn]), I 24]), (.agg #[(sl 5 0 2 2), (sl 6 0 2 2)]), (.tuple #[(.agg #[sn, sn]), I 24]), (.agg #[sn, sn]), I 24, (.tuple #[I 1, I 0]), (.agg #[(sl 5 0 2 2), (sl 6 0 2 2)]), (sl 34 0 4 4), (pt 34 0), (.agg #[(.string (ByteArray.mk #[(UInt8.ofNat 97)])), (sl 30 0 2 2)]), (.tuple #[I 1, I 0]), I 1, I 0, I 0, I 0, I 0, I 0, I 0, I 0, I 0, I 0, I 0, I 0, I 0, (.bool false), (.bool false), I 24, (.bool false), (.bool false), (.bool false), (.agg #[(sl 5 0 2 2), (sl 6 0 2 2)]), (sl 35 0 2 2), (sl 36 0 2 2), (.agg #[(sl 35 0 2 2), (sl 36 0 2 2)]), (.bool true), (.bool false), (.bool false), (.bool false), (sl 13 0 1 1), (sl 37 0 1 1), (.bool true), (.bool false), (.bool false), (.bool false), (sl 19 0 1 1), (sl 38 0 1 1), (.bool true), (.bool false), (.bool false), (.bool false), (g2 1 2), (g2 1 2), (.bool false), (.bool false), (.bool false), (.agg #[(sl 26 0 2 2), (sl 27 0 2 2)]), (sl 39 0 2 2), (sl 40 0 2 2), (.agg #[(sl 39 0 2 2), (sl 40 0 2 2)]), (.bool true), (.bool false), (.bool false), (.bool false), I 1, (.bool false), (.bool false), (.agg #[I 4, I 2, I 0]), (.tuple #[(g2 1 2), I 0]), (.agg #[I 4, I 2, I 0]), (.tuple #[(g2 1 2), I 0]), (g2 1 2), I 0, (.tuple #[(g2 1 6), I 0]), (.agg #[I 4, I 2, I 0]), (.tuple #[(g2 1 6), I 0]), (g2 1 6), I 0, (.tuple #[(.agg #[I 0, I 1, I 1, I 6]), I 0]), (.agg #[I 4, I 2, I 0]), (.tuple #[(.agg #[I 0, I 1, I 1, I 6]), I 0]), (.agg #[I 0, I 1, I 1, I 6]), I 0, (.tuple #[(.agg #[I 4, I 2, I 0]), I 0]), (g2 1 2), (g2 1 6), (.agg #[I 1, I 2, I 1, I 6]), (.tuple #[(.agg #[I 4, I 2, I 0]), I 0]), (.agg #[I 4, I 2, I 0]), I 0, (.tuple #[(.bool true), I 2, I 0]), (.agg #[I 4, I 2, I 0]), (sl 46 0 2 2), (.tuple #[(.bool true), I 2, I 0]), (.bool true), I 2, I 0, (.tuple #[(.bool false), I 1, I 0]), (.agg #[I 4, I 2, I 0]), (sl 47 0 1 1), (.tuple #[(.bool false), I 1, I 0]), (.bool false), I 1, I 0, I 0, I 0, I 0, I 0, I 0, I 0, I 0, I 0, I 0, I 0, I 0, (.bool false), (.bool false), (g2 1 2), (g2 1 2), (.bool false), (.bool false), (.bool false), (g2 1 6), (g2 1 6), (.bool false), (.bool false), (.bool false), (.agg #[I 0, I 1, I 1, I 6]), (g2 0 1), (g2 1 6), (.agg #[I 0, I 1, I 1, I 6]), (.bool false), (.bool false), (.bool false), (.agg #[I 4, I 2, I 0]), (.agg #[I 4, I 2, I 0]), (.bool false), (.bool false), (.bool false), (.bool true), (.bool false), (.bool false), (.bool false), I 2, (.bool false), (.bool false), (.bool false), (.bool false), (.bool false), (.bool false), I 1, (.bool false), (.bool false), (.tuple #[(sl 49 0 5 5), I 6, I 0]), (sl 48 0 5 5), (.tuple #[(sl 49 0 5 5), I 6, I 0]), (sl 49 0 5 5), I 6, I 0, (.tuple #[(sl 51 0 5 5), I 5, I 0]), (sl 50 0 5 5), (.tuple #[(sl 51 0 5 5), I 5, I 0]), (sl 51 0 5 5), I 5, I 0, (.tuple #[I 6, I 0]), (sl 52 0 5 5), (.tuple #[I 6, I 0]), I 6, I 0, (.tuple #[I 4, I 0]), (sl 53 0 5 5), (.tuple #[I 4, I 0]), I 4, I 0, (.tuple #[(sl 59 0 2 2), I 18, I 0]), (sl 58 0 4 4), (.tuple #[(sl 59 0 2 2), I 18, I 0]), (sl 59 0 2 2), I 18, I 0, (.tuple #[sn, I 0]), (sl 64 0 4 4), (.tuple #[sn, I 0]), sn, I 0] ++ us 90)
noncomputable def X23 : Heap := [(rrow [I 10, I 20] 3), (rrow [I 12, I 20] 3), (rrow [I 11, I 26] 3), (rrow [I 30, I 20] 3), rowAwS_10, (rrow [I 9, I 19] 3), (rrow [I 13, I 21] 3), rowAwS_15, (rrow [I 10, I 20] 3), (rrow [I 12, I 20] 3), (rrow [I 11, I 26] 3), (rrow [I 30, I 20] 3), rowAwS_9, (rrow [I 1] 3), (rrow [I 10, I 20] 3), (rrow [I 12, I 20] 3), (rrow [I 11, I 26] 3), (rrow [I 30, I 20] 3), rowAwS_0, (rrow [I 0] 3), (rrow [I 10, I 20] 3), (rrow [I 12, I 20] 3), (rrow [I 11, I 26] 3), (rrow [I 30, I 20] 3), rowAwS_1, (rvar [I 1, I 2] 59), (rrow [I 10, I 20] 3), (rrow [I 12, I 20] 3), rowAwS_14, (rvar [sn, sn] 30), (rrow [I 10, I 20] 3), (rrow [I 12, I 20] 3), (rrow [I 11, I 26] 3), (rrow [I 30, I 20] 3), rowAwS_2, (rrow [I 9, I 19] 3), (rrow [I 13, I 21] 3), (rrow [I 1] 3), (rrow [I 0] 3), (rrow [I 10, I 20] 3), (rrow [I 12, I 20] 3), rowAwS_18, (rvar [I 1, I 2] 59), (rvar [I 1, I 6] 59), rowAwS_16, rowAwS_18, (rrow [(.bool false), (.bool false)] 4), (rrow [(.bool true)] 4), rowAwS_11, rowAwS_12, rowAwS_11, rowAwS_13, rowAwS_11, rowAwS_11, (rrow [I 10, I 20] 3), (rrow [I 12, I 20] 3), (rrow [I 11, I 26] 3), (rrow [I 30, I 20] 3), rowAwS_3, rowAwS_17, (rrow [I 10, I 20] 3), (rrow [I 12, I 20] 3), (rrow [I 11, I 26] 3), (rrow [I 30, I 20] 3), rowAwS_4]
noncomputable def L24 : List Value := ([(.bool false), (pt 7 0), I 0, (sl 13 0 1 1), I 0, (sl 19 0 1 1), I 0, (pt 25 0), I 0, (pt 28 0), I 0, (pt 29 0), I 24, I 1, I 0, (pt 41 0), (pt 42 0), I 0, (pt 43 0), I 0, (pt 44 0), I 0, (pt 45 0), I 0, (.bool true), I 2, I 0, (.bool false), I 1, I 0, (sl 49 0 5 5), I 6, I 0, (sl 51 0 5 5), I 5, I 0, I 6, I 0, I 4, I 0, (sl 59 0 2 2), I 18, I 0, sn, I 0, sn, I 7, U, U, U, U, (.tuple #[(.agg #[(sl 5 0 2 2), (sl 6 0 2 2)]), I 0]), (sl 4 0 4 4), (sl 4 0 2 2), (.tuple #[(.agg #[(sl 5 0 2 2), (sl 6 0 2 2)]), I 0]), (.agg #[(sl 5 0 2 2), (sl 6 0 2 2)]), I 0, (.tuple #[(sl 13 0 1 1), I 0]), (.agg #[(sl 5 0 2 2), (sl 6 0 2 2)]), (sl 12 0 4 4), (pt 12 4), (.agg #[(.string (ByteArray.mk #[(UInt8.ofNat 99)])), (sl 10 0 2 2)]), (.tuple #[(sl 13 0 1 1), I 0]), (sl 13 0 1 1), I 0, (.tuple #[(sl 19 0 1 1), I 0]), (.agg #[(sl 5 0 2 2), (sl 6 0 2 2)]), (sl 18 0 4 4), (pt 18 6), (.agg #[(.string (ByteArray.mk #[(UInt8.ofNat 100)])), (sl 17 0 2 2)]), (.tuple #[(sl 19 0 1 1), I 0]), (sl 19 0 1 1), I 0, (.tuple #[(g2 1 2), I 0]), (.agg #[(sl 5 0 2 2), (sl 6 0 2 2)]), (sl 24 0 4 4), (.tuple #[(g2 1 2), I 0]), (g2 1 2), I 0, (.tuple #[(.agg #[(sl 26 0 2 2), (sl 27 0 2 2)]), I 0]), (.agg #[(sl 5 0 2 2), (sl 6 0 2 2)]), (.tuple #[(.agg #[(sl 26 0 2 2), (sl 27 0 2 2)]), I 0]), (.agg #[(sl 26 0 2 2), (sl 27 0 2 2)]), I 0, (.tuple #[(.agg #[sn, sn]), I 24]), (.agg #[(sl 5 0 2 2), (sl 6 0 2 2)]), (.tuple #[(.agg #[sn, sn]), I 24]), (.agg #[sn, sn]), I 24, (.tuple #[I 1, I 0]), (.agg #[(sl 5 0 2 2), (sl 6 0 2 2)]), (sl 34 0 4 4), (pt 34 0), (.agg #[(.string (ByteArray.mk #[(UInt8.ofNat 97)])), (sl 30 0 2 2)]), (.tuple #[I 1, I 0]), I 1, I 0, I 0, I 0, I 0, I 0, I 0, I 0, I 0, I 0, I 0, I 0, I 0, (.bool false), (.bool false), I 24, (.bool false), (.bool false), (.bool false), (.agg #[(sl 5 0 2 2), (sl 6 0 2 2)]), (sl 35 0 2 2), (sl 36 0 2 2), (.agg #[(sl 35 0 2 2), (sl 36 0 2 2)]), (.bool true), (.bool false), (.bool false), (.bool false), (sl 13 0 1 1), (sl 37 0 1 1), (.bool true), (.bool false), (.bool false), (.bool false), (sl 19 0 1 1), (sl 38 0 1 1), (.bool true), (.bool false), (.bool false), (.bool false), (g2 1 2), (g2 1 2), (.bool false), (.bool false), (.bool false), (.agg #[(sl 26 0 2 2), (sl 27 0 2 2)]), (sl 39 0 2 2), (sl 40 0 2 2), (.agg #[(sl 39 0 2 2), (sl 40 0 2 2)]), (.bool true), (.bool false), (.bool false), (.bool false), I 1, (.bool false), (.bool false), (.agg #[I 4, I 2, I 0]), (.tuple #[(g2 1 2), I 0]), (.agg #[I 4, I 2, I 0]), (.tuple #[(g2 1 2), I 0]), (g2 1 2), I 0, (.tuple #[(g2 1 6), I 0]), (.agg #[I 4, I 2, I 0]), (.tuple #[(g2 1 6), I 0]), (g2 1 6), I 0, (.tuple #[(.agg #[I 0, I 1, I 1, I 6]), I 0]), (.agg #[I 4, I 2, I 0]), (.tuple #[(.agg #[I 0, I 1, I 1, I 6]), I 0]), (.agg #[I 0, I 1, I 1, I 6]), I 0, (.tuple #[(.agg #[I 4, I 2, I 0]), I 0]), (g2 1 2), (g2 1 6), (.agg #[I 1, I 2, I 1, I 6]), (.tuple #[(.agg #[I 4, I 2, I 0]), I 0]), (.agg #[I 4, I 2, I 0]), I 0, (.tuple #[(.bool true), I 2, I 0]), (.agg #[I 4, I 2, I 0]), (sl 46 0 2 2), (.tuple #[(.bool true), I 2, I 0]), (.bool true), I 2, I 0, (.tuple #[(.bool false), I 1, I 0]), (.agg #[I 4, I 2, I 0]), (sl 47 0 1 1), (.tuple #[(.bool false), I 1, I 0]), (.bool false), I 1, I 0, I 0, I 0, I 0, I 0, I 0, I 0, I 0, I 0, I 0, I 0, I 0, (.bool false), (.bool false), (g2 1 2), (g2 1 2), (.bool false), (.bool false), (.bool false), (g2 1 6), (g2 1 6), (.bool false), (.bool false), (.bool false), (.agg #[I 0, I 1, I 1, I 6]), (g2 0 1), (g2 1 6), (.agg #[I 0, I 1, I 1, I 6]), (.bool false), (.bool false), (.bool false), (.agg #[I 4, I 2, I 0]), (.agg #[I 4, I 2, I 0]), (.bool false), (.bool false), (.bool false), (.bool true), (.bool false), (.bool false), (.bool false), I 2, (.bool false), (.bool false), (.bool false), (.bool false), (.bool false), (.bool false), I 1, (.bool false), (.bool false), (.tuple #[(sl 49 0 5 5), I 6, I 0]), (sl 48 0 5 5), (.tuple #[(sl 49 0 5 5), I 6, I 0]), (sl 49 0 5 5), I 6, I 0, (.tuple #[(sl 51 0 5 5), I 5, I 0]), (sl 50 0 5 5), (.tuple #[(sl 51 0 5 5), I 5, I 0]), (sl 51 0 5 5), I 5, I 0, (.tuple #[I 6, I 0]), (sl 52 0 5 5), (.tuple #[I 6, I 0]), I 6, I 0, (.tuple #[I 4, I 0]), (sl 53 0 5 5), (.tuple #[I 4, I 0]), I 4, I 0, (.tuple #[(sl 59 0 2 2), I 18, I 0]), (sl 58 0 4 4), (.tuple #[(sl 59 0 2 2), I 18, I 0]), (sl 59 0 2 2), I 18, I 0, (.tuple #[sn, I 0]), (sl 64 0 4 4), (.tuple #[sn, I 0]), sn, I 0, (.tuple #[sn, I 7]), (sl 69 0 4 4), (.tuple #[sn, I 7]), sn, I 7] ++ us 85)
noncomputable def X24 : Heap := [(rrow [I 10, I 20] 3), (rrow [I 12, I 20] 3), (rrow [I 11, I 26] 3), (rrow [I 30, I 20] 3), rowAwS_10, (rrow [I 9, I 19] 3), (rrow [I 13, I 21] 3), rowAwS_15, (rrow [I 10, I 20] 3), (rrow [I 12, I 20] 3), (rrow [I 11, I 26] 3), (rrow [I 30, I 20] 3), rowAwS_9, (rrow [I 1] 3), (rrow [I 10, I 20] 3), (rrow [I 12, I 20] 3), (rrow [I 11, I 26] 3), (rrow [I 30, I 20] 3), rowAwS_0, (rrow [I 0] 3), (rrow [I 10, I 20] 3), (rrow [I 12, I 20] 3), (rrow [I 11, I 26] 3), (rrow [I 30, I 20] 3), rowAwS_1, (rvar [I 1, I 2] 59), (rrow [I 10, I 20] 3), (rrow [I 12, I 20] 3), rowAwS_14, (rvar [sn, sn] 30), (rrow [I 10, I 20] 3), (rrow [I 12, I 20] 3), (rrow [I 11, I 26] 3), (rrow [I 30, I 20] 3), rowAwS_2, (rrow [I 9, I 19] 3), (rrow [I 13, I 21] 3), (rrow [I 1] 3), (rrow [I 0] 3), (rrow [I 10, I 20] 3), (rrow [I 12, I 20] 3), rowAwS_18, (rvar [I 1, I 2] 59), (rvar [I 1, I 6] 59), rowAwS_16, rowAwS_18, (rrow [(.bool false), (.bool false)] 4), (rrow [(.bool true)] 4), rowAwS_11, rowAwS_12, rowAwS_11, rowAwS_13, rowAwS_11, rowAwS_11, (rrow [I 10, I 20] 3), (rrow [I 12, I 20] 3), (rrow [I 11, I 26] 3), (rrow [I 30, I 20] 3), rowAwS_3, rowAwS_17, (rrow [I 10, I 20] 3), (rrow [I 12, I 20] 3), (rrow [I 11, I 26] 3), (rrow [I 30, I 20] 3), rowAwS_4, (rrow [I 10, I 20] 3), (rrow [I 12, I 20] 3), (rrow [I 11, I 26] 3), (rrow [I 30, I 20] 3), rowAwS_5]
noncomputable def L25 : List Value := ([(.bool false), (pt 7 0), I 0, (sl 13 0 1 1), I 0, (sl 19 0 1 1), I 0, (pt 25 0), I 0, (pt 28 0), I 0, (pt 29 0), I 24, I 1, I 0, (pt 41 0), (pt 42 0), I 0, (pt 43 0), I 0, (pt 44 0), I 0, (pt 45 0), I 0, (.bool true), I 2, I 0, (.bool false), I 1, I 0, (sl 49 0 5 5), I 6, I 0, (sl 51 0 5 5), I 5, I 0, I 6, I 0, I 4, I 0, (sl 59 0 2 2), I 18, I 0, sn, I 0, sn, I 7, I 1, I 0, U, U, (.tuple #[(.agg #[(sl 5 0 2 2), (sl 6 0 2 2)]), I 0]), (sl 4 0 4 4), (sl 4 0 2 2), (.tuple #[(.agg #[(sl 5 0 2 2), (sl 6 0 2 2)]), I 0]), (.agg #[(sl 5 0 2 2), (sl 6 0 2 2)]), I 0, (.tuple #[(sl 13 0 1 1), I 0]), (.agg #[(sl 5 0 2 2), (sl 6 0 2 2)]), (sl 12 0 4 4), (pt 12 4), (.agg #[(.string (ByteArray.mk #[(UInt8.ofNat 99)])), (sl 10 0 2 2)]), (.tuple #[(sl 13 0 1 1), I 0]), (sl 13 0 1 1), I 0, (.tuple #[(sl 19 0 1 1), I 0]), (.agg #[(sl 5 0 2 2), (sl 6 0 2 2)]), (sl 18 0 4 4), (pt 18 6), (.agg #[(.string (ByteArray.mk #[(UInt8.ofNat 100)])), (sl 17 0 2 2)]), (.tuple #[(sl 19 0 1 1), I 0]), (sl 19 0 1 1), I 0, (.tuple #[(g2 1 2), I 0]), (.agg #[(sl 5 0 2 2), (sl 6 0 2 2)]), (sl 24 0 4 4), (.tuple #[(g2 1 2), I 0]), (g2 1 2), I 0, (.tuple #[(.agg #[(sl 26 0 2 2), (sl 27 0 2 2)]), I 0]), (.agg #[(sl 5 0 2 2), (sl 6 0 2 2)]), (.tuple #[(.agg #[(sl 26 0 2 2), (sl 27 0 2 2)]), I 0]), (.agg #[(sl 26 0 2 2), (sl 27 0 2 2)]), I 0, (.tuple #[(.agg #[sn, sn]), I 24]), (.agg #[(sl 5 0 2 2), (sl 6 0 2 2)]), (.tuple #[(.agg #[sn, sn]), I 24]), (.agg #[sn, sn]), I 24, (.tuple #[I 1, I 0]), (.agg #[(sl 5 0 2 2), (sl 6 0 2 2)]), (sl 34 0 4 4), (pt 34 0), (.agg #[(.string (ByteArray.mk #[(UInt8.ofNat 97)])), (sl 30 0 2 2)]), (.tuple #[I 1, I 0]), I 1, I 0, I 0, I 0, I 0, I 0, I 0, I 0, I 0, I 0, I 0, I 0, I 0, (.bool false), (.bool false), I 24, (.bool false), (.bool false), (.bool false), (.agg #[(sl 5 0 2 2), (sl 6 0 2 2)]), (sl 35 0 2 2), (sl 36 0 2 2), (.agg #[(sl 35 0 2 2), (sl 36 0 2 2)]), (.bool true), (.bool false), (.bool false), (.bool false), (sl 13 0 1 1), (sl 37 0 1 1), (.bool true), (.bool false), (.bool false), (.bool false), (sl 19 0 1 1), (sl 38 0 1 1), (.bool true), (.bool false), (.bool false), (.bool false), (g2 1 2), (g2 1 2), (.bool false), (.bool false), (.bool false), (.agg #[(sl 26 0 2 2), (sl 27 0 2 2)]), (sl 39 0 2 2), (sl 40 0 2 2), (.agg #[(sl 39 0 2 2), (sl 40 0 2 2)]), (.bool true), (.bool false), (.bool false), (.bool false), I 1, (.bool false), (.bool false), (.agg #[I 4, I 2, I 0]), (.tuple #[(g2 1 2), I 0]), (.agg #[I 4, I 2, I 0]), (.tuple #[(g2 1 2), I 0]), (g2 1 2), I 0, (.tuple #[(g2 1 6), I 0]), (.agg #[I 4, I 2, I 0]), (.tuple #[(g2 1 6), I 0]), (g2 1 6), I 0, (.tuple #[(.agg #[I 0, I 1, I 1, I 6]), I 0]), (.agg #[I 4, I 2, I 0]), (.tuple #[(.agg #[I 0, I 1, I 1, I 6]), I 0]), (.agg #[I 0, I 1, I 1, I 6]), I 0, (.tuple #[(.agg #[I 4, I 2, I 0]), I 0]), (g2 1 2), (g2 1 6), (.agg #[I 1, I 2, I 1, I 6]), (.tuple #[(.agg #[I 4, I 2, I 0]), I 0]), (.agg #[I 4, I 2, I 0]), I 0, (.tuple #[(.bool true), I 2, I 0]), (.agg #[I 4, I 2, I 0]), (sl 46 0 2 2), (.tuple #[(.bool true), I 2, I 0]), (.bool true), I 2, I 0, (.tuple #[(.bool false), I 1, I 0]), (.agg #[I 4, I 2, I 0]), (sl 47 0 1 1), (.tuple #[(.bool false), I 1, I 0]), (.bool false), I 1, I 0, I 0, I 0, I 0, I 0, I 0, I 0, I 0, I 0, I 0, I 0, I 0, (.bool false), (.bool false), (g2 1 2), (g2 1 2), (.bool false), (.bool false), (.bool false), (g2 1 6), (g2 1 6), (.bool false), (.bool false), (.bool false), (.agg #[I 0, I 1, I 1, I 6]), (g2 0 1), (g2 1 6), (.agg #[I 0, I 1, I 1, I 6]), (.bool false), (.bool false), (.bool false), (.agg #[I 4, I 2, I 0]), (.agg #[I 4, I 2, I 0]), (.bool false), (.bool false), (.bool false), (.bool true), (.bool false), (.bool false), (.bool false), I 2, (.bool false), (.bool false), (.bool false), (.bool false), (.bool false), (.bool false), I 1, (.bool false), (.bool false), (.tuple #[(sl 49 0 5 5), I 6, I 0]), (sl 48 0 5 5), (.tuple #[(sl 49 0 5 5), I 6, I 0]), (sl 49 0 5 5), I 6, I 0, (.tuple #[(sl 51 0 5 5), I 5, I 0]), (sl 50 0 5 5), (.tuple #[(sl 51 0 5 5), I 5, I 0]), (sl 51 0 5 5), I 5, I 0, (.tuple #[I 6, I 0]), (sl 52 0 5 5), (.tuple #[I 6, I 0]), I 6, I 0, (.tuple #[I 4, I 0]), (sl 53 0 5 5), (.tuple #[I 4, I 0]), I 4, I 0, (.tuple #[(sl 59 0 2 2), I 18, I 0]), (sl 58 0 4 4), (.tuple #[(sl 59 0 2 2), I 18, I 0]), (sl 59 0 2 2), I 18, I 0, (.tuple #[sn, I 0]), (sl 64 0 4 4), (.tuple #[sn, I 0]), sn, I 0, (.tuple #[sn, I 7]), (sl 69 0 4 4), (.tuple #[sn, I 7]), sn, I 7, (.tuple #[I 1, I 0]), (sl 74 0 4 4), (.tuple #[I 1, I 0]), I 1, I 0] ++ us 80)
noncomputable def X25 : Heap := [(rrow [I 10, I 20] 3), (rrow [I 12, I 20] 3), (rrow [I 11, I 26] 3), (rrow [I 30, I 20] 3), rowAwS_10, (rrow [I 9, I 19] 3), (rrow [I 13, I 21] 3), rowAwS_15, (rrow [I 10, I 20] 3), (rrow [I 12, I 20] 3), (rrow [I 11, I 26] 3), (rrow [I 30, I 20] 3), rowAwS_9, (rrow [I 1] 3), (rrow [I 10, I 20] 3), (rrow [I 12, I 20] 3), (rrow [I 11, I 26] 3), (rrow [I 30, I 20] 3), rowAwS_0, (rrow [I 0] 3), (rrow [I 10, I 20] 3), (rrow [I 12, I 20] 3), (rrow [I 11, I 26] 3), (rrow [I 30, I 20] 3), rowAwS_1, (rvar [I 1, I 2] 59), (rrow [I 10, I 20] 3), (rrow [I 12, I 20] 3), rowAwS_14, (rvar [sn, sn] 30), (rrow [I 10, I 20] 3), (rrow [I 12, I 20] 3), (rrow [I 11, I 26] 3), (rrow [I 30, I 20] 3), rowAwS_2, (rrow [I 9, I 19] 3), (rrow [I 13, I 21] 3), (rrow [I 1] 3), (rrow [I 0] 3), (rrow [I 10, I 20] 3), (rrow [I 12, I 20] 3), rowAwS_18, (rvar [I 1, I 2] 59), (rvar [I 1, I 6] 59), rowAwS_16, rowAwS_18, (rrow [(.bool false), (.bool false)] 4), (rrow [(.bool true)] 4), rowAwS_11, rowAwS_12, rowAwS_11, rowAwS_13, rowAwS_11, rowAwS_11, (rrow [I 10, I 20] 3), (rrow [I 12, I 20] 3), (rrow [I 11, I 26] 3), (rrow [I 30, I 20] 3), rowAwS_3, rowAwS_17, (rrow [I 10, I 20] 3), (rrow [I 12, I 20] 3), (rrow [I 11, I 26] 3), (rrow [I 30, I 20] 3), rowAwS_4, (rrow [I 10, I 20] 3), (rrow [I 12, I 20] 3), (rrow [I 11, I 26] 3), (rrow [I 30, I 20] 3), rowAwS_5, (rrow [I 10, I 20] 3), (rrow [I 12, I 20] 3), (rrow [I 11, I 26] 3), (rrow [I 30, I 20] 3), rowAwS_6]
noncomputable def L26 : List Value := ([(.bool false), (pt 7 0), I 0, (sl 13 0 1 1), I 0, (sl 19 0 1 1), I 0, (pt 25 0), I 0, (pt 28 0), I 0, (pt 29 0), I 24, I 1, I 0, (pt 41 0), (pt 42 0), I 0, (pt 43 0), I 0, (pt 44 0), I 0, (pt 45 0), I 0, (.bool true), I 2, I 0, (.bool false), I 1, I 0, (sl 49 0 5 5), I 6, I 0, (sl 51 0 5 5), I 5, I 0, I 6, I 0, I 4, I 0, (sl 59 0 2 2), I 18, I 0, sn, I 0, sn, I 7, I 1, I 0, I 18, I 0, (.tuple #[(.agg #[(sl 5 0 2 2), (sl 6 0 2 2)]), I 0]), (sl 4 0 4 4), (sl 4 0 2 2), (.tuple #[(.agg #[(sl 5 0 2 2), (sl 6 0 2 2)]), I 0]), (.agg #[(sl 5 0 2 2), (sl 6 0 2 2)]), I 0, (.tuple #[(sl 13 0 1 1), I 0]), (.agg #[(sl 5 0 2 2), (sl 6 0 2 2)]), (sl 12 0 4 4), (pt 12 4), (.agg #[(.string (ByteArray.mk #[(UInt8.ofNat 99)])), (sl 10 0 2 2)]), (.tuple #[(sl 13 0 1 1), I 0]), (sl 13 0 1 1), I 0, (.tuple #[(sl 19 0 1 1), I 0]), (.agg #[(sl 5 0 2 2), (sl 6 0 2 2)]), (sl 18 0 4 4), (pt 18 6), (.agg #[(.string (ByteArray.mk #[(UInt8.ofNat 100)])), (sl 17 0 2 2)]), (.tuple #[(sl 19 0 1 1), I 0]), (sl 19 0 1 1), I 0, (.tuple #[(g2 1 2), I 0]), (.agg #[(sl 5 0 2 2), (sl 6 0 2 2)]), (sl 24 0 4 4), (.tuple #[(g2 1 2), I 0]), (g2 1 2), I 0, (.tuple #[(.agg #[(sl 26 0 2 2), (sl 27 0 2 2)]), I 0]), (.agg #[(sl 5 0 2 2), (sl 6 0 2 2)]), (.tuple #[(.agg #[(sl 26 0 2 2), (sl 27 0 2 2)]), I 0]), (.agg #[(sl 26 0 2 2), (sl 27 0 2 2)]), I 0, (.tuple #[(.agg #[sn, sn]), I 24]), (.agg #[(sl 5 0 2 2), (sl 6 0 2 2)]), (.tuple #[(.agg #[sn, sn]), I 24]), (.agg #[sn, sn]), I 24, (.tuple #[I 1, I 0]), (.agg #[(sl 5 0 2 2), (sl 6 0 2 2)]), (sl 34 0 4 4), (pt 34 0), (.agg #[(.string (ByteArray.mk #[(UInt8.ofNat 97)])), (sl 30 0 2 2)]), (.tuple #[I 1, I 0]), I 1, I 0, I 0, I 0, I 0, I 0, I 0, I 0, I 0, I 0, I 0, I 0, I 0, (.bool false), (.bool false), I 24, (.bool false), (.bool false), (.bool false), (.agg #[(sl 5 0 2 2), (sl 6 0 2 2)]), (sl 35 0 2 2), (sl 36 0 2 2), (.agg #[(sl 35 0 2 2), (sl 36 0 2 2)]), (.bool true), (.bool false), (.bool false), (.bool false), (sl 13 0 1 1), (sl 37 0 1 1), (.bool true), (.bool false), (.bool false), (.bool false), (sl 19 0 1 1), (sl 38 0 1 1), (.bool true), (.bool false), (.bool false), (.bool false), (g2 1 2), (g2 1 2), (.bool false), (.bool false), (.bool false), (.agg #[(sl 26 0 2 2), (sl 27 0 2 2)]), (sl 39 0 2 2), (sl 40 0 2 2), (.agg #[(sl 39 0 2 2), (sl 40 0 2 2)]), (.bool true), (.bool false), (.bool false), (.bool false), I 1, (.bool false), (.bool false), (.agg #[I 4, I 2, I 0]), (.tuple #[(g2 1 2), I 0]), (.agg #[I 4, I 2, I 0]), (.tuple #[(g2 1 2), I 0]), (g2 1 2), I 0, (.tuple #[(g2 1 6), I 0]), (.agg #[I 4, I 2, I 0]), (.tuple #[(g2 1 6), I 0]), (g2 1 6), I 0, (.tuple #[(.agg #[I 0, I 1, I 1, I 6]), I 0]), (.agg #[I 4, I 2, I 0]), (.tuple #[(.agg #[I 0, I 1, I 1, I 6]), I 0]), (.agg #[I 0, I 1, I 1, I 6]), I 0, (.tuple #[(.agg #[I 4, I 2, I 0]), I 0]), (g2 1 2), (g2 1 6), (.agg #[I 1, I 2, I 1, I 6]), (.tuple #[(.agg #[I 4, I 2, I 0]), I 0]), (.agg #[I 4, I 2, I 0]), I 0, (.tuple #[(.bool true), I 2, I 0]), (.agg #[I 4, I 2, I 0]), (sl 46 0 2 2), (.tuple #[(.bool true), I 2, I 0]), (.bool true), I 2, I 0, (.tuple #[(.bool false), I 1, I 0]), (.agg #[I 4, I 2, I 0]), (sl 47 0 1 1), (.tuple #[(.bool false), I 1, I 0]), (.bool false), I 1, I 0, I 0, I 0, I 0, I 0, I 0, I 0, I 0, I 0, I 0, I 0, I 0, (.bool false), (.bool false), (g2 1 2), (g2 1 2), (.bool false), (.bool false), (.bool false), (g2 1 6), (g2 1 6), (.bool false), (.bool false), (.bool false), (.agg #[I 0, I 1, I 1, I 6]), (g2 0 1), (g2 1 6), (.agg #[I 0, I 1, I 1, I 6]), (.bool false), (.bool false), (.bool false), (.agg #[I 4, I 2, I 0]), (.agg #[I 4, I 2, I 0]), (.bool false), (.bool false), (.bool false), (.bool true), (.bool false), (.bool false), (.bool false), I 2, (.bool false), (.bool false), (.bool false), (.bool false), (.bool false), (.bool false), I 1, (.bool false), (.bool false), (.tuple #[(sl 49 0 5 5), I 6, I 0]), (sl 48 0 5 5), (.tuple #[(sl 49 0 5 5), I 6, I 0]), (sl 49 0 5 5), I 6, I 0, (.tuple #[(sl 51 0 5 5), I 5, I 0]), (sl 50 0 5 5), (.tuple #[(sl 51 0 5 5), I 5, I 0]), (sl 51 0 5 5), I 5, I 0, (.tuple #[I 6, I 0]), (sl 52 0 5 5), (.tuple #[I 6, I 0]), I 6, I 0, (.tuple #[I 4, I 0]), (sl 53 0 5 5), (.tuple #[I 4, I 0]), I 4, I 0, (.tuple #[(sl 59 0 2 2), I 18, I 0]), (sl 58 0 4 4), (.tuple #[(sl 59 0 2 2), I 18, I 0]), (sl 59 0 2 2), I 18, I 0, (.tuple #[sn, I 0]), (sl 64 0 4 4), (.tuple #[sn, I 0]), sn, I 0, (.tuple #[sn, I 7]), (sl 69 0 4 4), (.tuple #[sn, I 7]), sn, I 7, (.tuple #[I 1, I 0]), (sl 74 0 4 4), (.tuple #[I 1, I 0]), I 1, I 0, (.tuple #[I 18, I 0]), (sl 79 0 4 4), (pt 79 2), (.agg #[(.string (ByteArray.mk #[(UInt8.ofNat 98)])), (sl 76 0 2 2)]), (sl 84 0 4 4), (pt 84 6), (.agg #[(.string (ByteArray.mk #[(UInt8.ofNat 100)])), (sl 83 0 2 2)]), (.tuple #[I 18, I 0]), I 18, I 0] ++ us 70)
noncomputable def X26 : Heap := [(rrow [I 10, I 20] 3), (rrow [I 12, I 20] 3), (rrow [I 11, I 26] 3), (rrow [I 30, I 20] 3), rowAwS_10, (rrow [I 9, I 19] 3), (rrow [I 13, I 21] 3), rowAwS_15, (rrow [I 10, I 20] 3), (rrow [I 12, I 20] 3), (rrow [I 11, I 26] 3), (rrow [I 30, I 20] 3), rowAwS_9, (rrow [I 1] 3), (rrow [I 10, I 20] 3), (rrow [I 12, I 20] 3), (rrow [I 11, I 26] 3), (rrow [I 30, I 20] 3), rowAwS_0, (rrow [I 0] 3), (rrow [I 10, I 20] 3), (rrow [I 12, I 20] 3), (rrow [I 11, I 26] 3), (rrow [I 30, I 20] 3), rowAwS_1, (rvar [I 1, I 2] 59), (rrow [I 10, I 20] 3), (rrow [I 12, I 20] 3), rowAwS_14, (rvar [sn, sn] 30), (rrow [I 10, I 20] 3), (rrow [I 12, I 20] 3), (rrow [I 11, I 26] 3), (rrow [I 30, I 20] 3), rowAwS_2, (rrow [I 9, I 19] 3), (rrow [I 13, I 21] 3), (rrow [I 1] 3), (rrow [I 0] 3), (rrow [I 10, I 20] 3), (rrow [I 12, I 20] 3), rowAwS_18, (rvar [I 1, I 2] 59), (rvar [I 1, I 6] 59), rowAwS_16, rowAwS_18, (rrow [(.bool false), (.bool false)] 4), (rrow [(.bool true)] 4), rowAwS_11, rowAwS_12, rowAwS_11, rowAwS_13, rowAwS_11, rowAwS_11, (rrow [I 10, I 20] 3), (rrow [I 12, I 20] 3), (rrow [I 11, I 26] 3), (rrow [I 30, I 20] 3), rowAwS_3, rowAwS_17, (rrow [I 10, I 20] 3), (rrow [I 12, I 20] 3), (rrow [I 11, I 26] 3), (rrow [I 30, I 20] 3), rowAwS_4, (rrow [I 10, I 20] 3), (rrow [I 12, I 20] 3), (rrow [I 11, I 26] 3), (rrow [I 30, I 20] 3), rowAwS_5, (rrow [I 10, I 20] 3), (rrow [I 12, I 20] 3), (rrow [I 11, I 26] 3), (rrow [I 30, I 20] 3), rowAwS_6, (rrow [I 10, I 20] 3), (rrow [I 12, I 20] 3), (rrow [I 11, I 26] 3), (rrow [I 30, I 20] 3), rowAwS_7, (rrow [I 10, I 20] 3), (rrow [I 12, I 20] 3), (rrow [I 11, I 26] 3), (rrow [I 30, I 20] 3), rowAwS_8]
noncomputable def L27 : List Value := [(.bool true), (pt 7 0), I 0, (sl 13 0 1 1), I 0, (sl 19 0 1 1), I 0, (pt 25 0), I 0, (pt 28 0), I 0, (pt 29 0), I 24, I 1, I 0, (pt 41 0), (pt 42 0), I 0, (pt 43 0), I 0, (pt 44 0), I 0, (pt 45 0), I 0, (.bool true), I 2, I 0, (.bool false), I 1, I 0, (sl 49 0 5 5), I 6, I 0, (sl 51 0 5 5), I 5, I 0, I 6, I 0, I 4, I 0, (sl 59 0 2 2), I 18, I 0, sn, I 0, sn, I 7, I 1, I 0, I 18, I 0, (.tuple #[(.agg #[(sl 5 0 2 2), (sl 6 0 2 2)]), I 0]), (sl 4 0 4 4), (sl 4 0 2 2), (.tuple #[(.agg #[(sl 5 0 2 2), (sl 6 0 2 2)]), I 0]), (.agg #[(sl 5 0 2 2), (sl 6 0 2 2)]), I 0, (.tuple #[(sl 13 0 1 1), I 0]), (.agg #[(sl 5 0 2 2), (sl 6 0 2 2)]), (sl 12 0 4 4), (pt 12 4), (.agg #[(.string (ByteArray.mk #[(UInt8.ofNat 99)])), (sl 10 0 2 2)]), (.tuple #[(sl 13 0 1 1), I 0]), (sl 13 0 1 1), I 0, (.tuple #[(sl 19 0 1 1), I 0]), (.agg #[(sl 5 0 2 2), (sl 6 0 2 2)]), (sl 18 0 4 4), (pt 18 6), (.agg #[(.string (ByteArray.mk #[(UInt8.ofNat 100)])), (sl 17 0 2 2)]), (.tuple #[(sl 19 0 1 1), I 0]), (sl 19 0 1 1), I 0, (.tuple #[(g2 1 2), I 0]), (.agg #[(sl 5 0 2 2), (sl 6 0 2 2)]), (sl 24 0 4 4), (.tuple #[(g2 1 2), I 0]), (g2 1 2), I 0, (.tuple #[(.agg #[(sl 26 0 2 2), (sl 27 0 2 2)]), I 0]), (.agg #[(sl 5 0 2 2), (sl 6 0 2 2)]), (.tuple #[(.agg #[(sl 26 0 2 2), (sl 27 0 2 2)]), I 0]), (.agg #[(sl 26 0 2 2), (sl 27 0 2 2)]), I 0, (.tuple #[(.agg #[sn, sn]), I 24]), (.agg #[(sl 5 0 2 2), (sl 6 0 2 2)]), (.tuple #[(.agg #[sn, sn]), I 24]), (.agg #[sn, sn]), I 24, (.tuple #[I 1, I 0]), (.agg #[(sl 5 0 2 2), (sl 6 0 2 2)]), (sl 34 0 4 4), (pt 34 0), (.agg #[(.string (ByteArray.mk #[(UInt8.ofNat 97)])), (sl 30 0 2 2)]), (.tuple #[I 1, I 0]), I 1, I 0, I 0, I 0, I 0, I 0, I 0, I 0, I 0, I 0, I 0, I 0, I 0, (.bool false), (.bool false), I 24, (.bool false), (.bool false), (.bool false), (.agg #[(sl 5 0 2 2), (sl 6 0 2 2)]), (sl 35 0 2 2), (sl 36 0 2 2), (.agg #[(sl 35 0 2 2), (sl 36 0 2 2)]), (.bool true), (.bool false), (.bool false), (.bool false), (sl 13 0 1 1), (sl 37 0 1 1), (.bool true), (.bool false), (.bool false), (.bool false), (sl 19 0 1 1), (sl 38 0 1 1), (.bool true), (.bool false), (.bool false), (.bool false), (g2 1 2), (g2 1 2), (.bool false), (.bool false), (.bool false), (.agg #[(sl 26 0 2 2), (sl 27 0 2 2)]), (sl 39 0 2 2), (sl 40 0 2 2), (.agg #[(sl 39 0 2 2), (sl 40 0 2 2)]), (.bool true), (.bool false), (.bool false), (.bool false), I 1, (.bool false), (.bool false), (.agg #[I 4, I 2, I 0]), (.tuple #[(g2 1 2), I 0]), (.agg #[I 4, I 2, I 0]), (.tuple #[(g2 1 2), I 0]), (g2 1 2), I 0, (.tuple #[(g2 1 6), I 0]), (.agg #[I 4, I 2, I 0]), (.tuple #[(g2 1 6), I 0]), (g2 1 6), I 0, (.tuple #[(.agg #[I 0, I 1, I 1, I 6]), I 0]), (.agg #[I 4, I 2, I 0]), (.tuple #[(.agg #[I 0, I 1, I 1, I 6]), I 0]), (.agg #[I 0, I 1, I 1, I 6]), I 0, (.tuple #[(.agg #[I 4, I 2, I 0]), I 0]), (g2 1 2), (g2 1 6), (.agg #[I 1, I 2, I 1, I 6]), (.tuple #[(.agg #[I 4, I 2, I 0]), I 0]), (.agg #[I 4, I 2, I 0]), I 0, (.tuple #[(.bool true), I 2, I 0]), (.agg #[I 4, I 2, I 0]), (sl 46 0 2 2), (.tuple #[(.bool true), I 2, I 0]), (.bool true), I 2, I 0, (.tuple #[(.bool false), I 1, I 0]), (.agg #[I 4, I 2, I 0]), (sl 47 0 1 1), (.tuple #[(.bool false), I 1, I 0]), (.bool false), I 1, I 0, I 0, I 0, I 0, I 0, I 0, I 0, I 0, I 0, I 0, I 0, I 0, (.bool false), (.bool false), (g2 1 2), (g2 1 2), (.bool false), (.bool false), (.bool false), (g2 1 6), (g2 1 6), (.bool false), (.bool false), (.bool false), (.agg #[I 0, I 1, I 1, I 6]), (g2 0 1), (g2 1 6), (.agg #[I 0, I 1, I 1, I 6]), (.bool false), (.bool false), (.bool false), (.agg #[I 4, I 2, I 0]), (.agg #[I 4, I 2, I 0]), (.bool false), (.bool false), (.bool false), (.bool true), (.bool false), (.bool false), (.bool false), I 2, (.bool false), (.bool false), (.bool false), (.bool false), (.bool false), (.bool false), I 1, (.bool false), (.bool false), (.tuple #[(sl 49 0 5 5), I 6, I 0]), (sl 48 0 5 5), (.tuple #[(sl 49 0 5 5), I 6, I 0]), (sl 49 0 5 5), I 6, I 0, (.tuple #[(sl 51 0 5 5), I 5, I 0]), (sl 50 0 5 5), (.tuple #[(sl 51 0 5 5), I 5, I 0]), (sl 51 0 5 5), I 5, I 0, (.tuple #[I 6, I 0]), (sl 52 0 5 5), (.tuple #[I 6, I 0]), I 6, I 0, (.tuple #[I 4, I 0]), (sl 53 0 5 5), (.tuple #[I 4, I 0]), I 4, I 0, (.tuple #[(sl 59 0 2 2), I 18, I 0]), (sl 58 0 4 4), (.tuple #[(sl 59 0 2 2), I 18, I 0]), (sl 59 0 2 2), I 18, I 0, (.tuple #[sn, I 0]), (sl 64 0 4 4), (.tuple #[sn, I 0]), sn, I 0, (.tuple #[sn, I 7]), (sl 69 0 4 4), (.tuple #[sn, I 7]), sn, I 7, (.tuple #[I 1, I 0]), (sl 74 0 4 4), (.tuple #[I 1, I 0]), I 1, I 0, (.tuple #[I 18, I 0]), (sl 79 0 4 4), (pt 79 2), (.agg #[(.string (ByteArray.mk #[(UInt8.ofNat 98)])), (sl 76 0 2 2)]), (sl 84 0 4 4), (pt 84 6), (.agg #[(.string (ByteArray.mk #[(UInt8.ofNat 100)])), (sl 83 0 2 2)]), (.tuple #[I 18, I 0]), I 18, I 0, I 0, I 0, I 0, I 0, I 0, I 0, I 0, I 0, I 0, I 0, I 0, I 0, I 0, I 0, I 0, (.bool true), (.bool true), I 7, (.bool true), (.bool true), (.bool true), (sl 49 0 5 5), (sl 85 0 5 5), (.bool true), (.bool true), (.bool true), I 6, (.bool true), (.bool true), (.bool true), (sl 51 0 5 5), (sl 86 0 5 5), (.bool true), (.bool true), (.bool true), I 5, (.bool true), (.bool true), (.bool true), I 6, (.bool true), (.bool true), (.bool true), I 4, (.bool true), (.bool true), (.bool true), (sl 59 0 2 2), (g2 0 2), (g2 1 3), (sl 87 0 2 2), (.bool true), (.bool true), (.bool true), I 18, (.bool true), (.bool true), (.bool true), sn, I 0, (.bool true), (.bool true), (.bool true), I 1, (.bool true), (.bool true), (.bool true), I 18, (.bool true), (.bool true)]
noncomputable def X27 : Heap := [(rrow [I 10, I 20] 3), (rrow [I 12, I 20] 3), (rrow [I 11, I 26] 3), (rrow [I 30, I 20] 3), rowAwS_10, (rrow [I 9, I 19] 3), (rrow [I 13, I 21] 3), rowAwS_15, (rrow [I 10, I 20] 3), (rrow [I 12, I 20] 3), (rrow [I 11, I 26] 3), (rrow [I 30, I 20] 3), rowAwS_9, (rrow [I 1] 3), (rrow [I 10, I 20] 3), (rrow [I 12, I 20] 3), (rrow [I 11, I 26] 3), (rrow [I 30, I 20] 3), rowAwS_0, (rrow [I 0] 3), (rrow [I 10, I 20] 3), (rrow [I 12, I 20] 3), (rrow [I 11, I 26] 3), (rrow [I 30, I 20] 3), rowAwS_1, (rvar [I 1, I 2] 59), (rrow [I 10, I 20] 3), (rrow [I 12, I 20] 3), rowAwS_14, (rvar [sn, sn] 30), (rrow [I 10, I 20] 3), (rrow [I 12, I 20] 3), (rrow [I 11, I 26] 3), (rrow [I 30, I 20] 3), rowAwS_2, (rrow [I 9, I 19] 3), (rrow [I 13, I 21] 3), (rrow [I 1] 3), (rrow [I 0] 3), (rrow [I 10, I 20] 3), (rrow [I 12, I 20] 3), rowAwS_18, (rvar [I 1, I 2] 59), (rvar [I 1, I 6] 59), rowAwS_16, rowAwS_18, (rrow [(.bool false), (.bool false)] 4), (rrow [(.bool true)] 4), rowAwS_11, rowAwS_12, rowAwS_11, rowAwS_13, rowAwS_11, rowAwS_11, (rrow [I 10, I 20] 3), (rrow [I 12, I 20] 3), (rrow [I 11, I 26] 3), (rrow [I 30, I 20] 3), rowAwS_3, rowAwS_17, (rrow [I 10, I 20] 3), (rrow [I 12, I 20] 3), (rrow [I 11, I 26] 3), (rrow [I 30, I 20] 3), rowAwS_4, (rrow [I 10, I 20] 3), (rrow [I 12, I 20] 3), (rrow [I 11, I 26] 3), (rrow [I 30, I 20] 3), rowAwS_5, (rrow [I 10, I 20] 3), (rrow [I 12, I 20] 3), (rrow [I 11, I 26] 3), (rrow [I 30, I 20] 3), rowAwS_6, (rrow [I 10, I 20] 3), (rrow [I 12, I 20] 3), (rrow [I 11, I 26] 3), (rrow [I 30, I 20] 3), rowAwS_7, (rrow [I 10, I 20] 3), (rrow [I 12, I 20] 3), (rrow [I 11, I 26] 3), (rrow [I 30, I 20] 3), rowAwS_8, rowAwS_12, rowAwS_13, rowAwS_17]
noncomputable def L28 : List Value := [(.bool true), (pt 7 0), I 0, (sl 13 0 1 1), I 0, (sl 19 0 1 1), I 0, (pt 25 0), I 0, (pt 28 0), I 0, (pt 29 0), I 24, I 1, I 0, (pt 41 0), (pt 42 0), I 0, (pt 43 0), I 0, (pt 44 0), I 0, (pt 45 0), I 0, (.bool true), I 2, I 0, (.bool false), I 1, I 0, (sl 49 0 5 5), I 6, I 0, (sl 51 0 5 5), I 5, I 0, I 6, I 0, I 4, I 0, (sl 59 0 2 2), I 18, I 0, sn, I 0, sn, I 7, I 1, I 0, I 18, I 0, (.tuple #[(.agg #[(sl 5 0 2 2), (sl 6 0 2 2)]), I 0]), (sl 4 0 4 4), (sl 4 0 2 2), (.tuple #[(.agg #[(sl 5 0 2 2), (sl 6 0 2 2)]), I 0]), (.agg #[(sl 5 0 2 2), (sl 6 0 2 2)]), I 0, (.tuple #[(sl 13 0 1 1), I 0]), (.agg #[(sl 5 0 2 2), (sl 6 0 2 2)]), (sl 12 0 4 4), (pt 12 4), (.agg #[(.string (ByteArray.mk #[(UInt8.ofNat 99)])), (sl 10 0 2 2)]), (.tuple #[(sl 13 0 1 1), I 0]), (sl 13 0 1 1), I 0, (.tuple #[(sl 19 0 1 1), I 0]), (.agg #[(sl 5 0 2 2), (sl 6 0 2 2)]), (sl 18 0 4 4), (pt 18 6), (.agg #[(.string (ByteArray.mk #[(UInt8.ofNat 100)])), (sl 17 0 2 2)]), (.tuple #[(sl 19 0 1 1), I 0]), (sl 19 0 1 1), I 0, (.tuple #[(g2 1 2), I 0]), (.agg #[(sl 5 0 2 2), (sl 6 0 2 2)]), (sl 24 0 4 4), (.tuple #[(g2 1 2), I 0]), (g2 1 2), I 0, (.tuple #[(.agg #[(sl 26 0 2 2), (sl 27 0 2 2)]), I 0]), (.agg #[(sl 5 0 2 2), (sl 6 0 2 2)]), (.tuple #[(.agg #[(sl 26 0 2 2), (sl 27 0 2 2)]), I 0]), (.agg #[(sl 26 0 2 2), (sl 27 0 2 2)]), I 0, (.tuple #[(.agg #[sn, sn]), I 24]), (.agg #[(sl 5 0 2 2), (sl 6 0 2 2)]), (.tuple #[(.agg #[sn, sn]), I 24]), (.agg #[sn, sn]), I 24, (.tuple #[I 1, I 0]), (.agg #[(sl 5 0 2 2), (sl 6 0 2 2)]), (sl 34 0 4 4), (pt 34 0), (.agg #[(.string (ByteArray.mk #[(UInt8.ofNat 97)])), (sl 30 0 2 2)]), (.tuple #[I 1, I 0]), I 1, I 0, I 0, I 0, I 0, I 0, I 0, I 0, I 0, I 0, I 0, I 0, I 0, (.bool false), (.bool false), I 24, (.bool false), (.bool false), (.bool false), (.agg #[(sl 5 0 2 2), (sl 6 0 2 2)]), (sl 35 0 2 2), (sl 36 0 2 2), (.agg #[(sl 35 0 2 2), (sl 36 0 2 2)]), (.bool true), (.bool false), (.bool false), (.bool false), (sl 13 0 1 1), (sl 37 0 1 1), (.bool true), (.bool false), (.bool false), (.bool false), (sl 19 0 1 1), (sl 38 0 1 1), (.bool true), (.bool false), (.bool false), (.bool false), (g2 1 2), (g2 1 2), (.bool false), (.bool false), (.bool false), (.agg #[(sl 26 0 2 2), (sl 27 0 2 2)]), (sl 39 0 2 2), (sl 40 0 2 2), (.agg #[(sl 39 0 2 2), (sl 40 0 2 2)]), (.bool true), (.bool false), (.bool false), (.bool false), I 1, (.bool false), (.bool false), (.agg #[I 4, I 2, I 0]), (.tuple #[(g2 1 2), I 0]), (.agg #[I 4, I 2, I 0]), (.tuple #[(g2 1 2), I 0]), (g2 1 2), I 0, (.tuple #[(g2 1 6), I 0]), (.agg #[I 4, I 2, I 0]), (.tuple #[(g2 1 6), I 0]), (g2 1 6), I 0, (.tuple #[(.agg #[I 0, I 1, I 1, I 6]), I 0]), (.agg #[I 4, I 2, I 0]), (.tuple #[(.agg #[I 0, I 1, I 1, I 6]), I 0]), (.agg #[I 0, I 1, I 1, I 6]), I 0, (.tuple #[(.agg #[I 4, I 2, I 0]), I 0]), (g2 1 2), (g2 1 6), (.agg #[I 1, I 2, I 1, I 6]), (.tuple #[(.agg #[I 4, I 2, I 0]), I 0]), (.agg #[I 4, I 2, I 0]), I 0, (.tuple #[(.bool true), I 2, I 0]), (.agg #[I 4, I 2, I 0]), (sl 46 0 2 2), (.tuple #[(.bool true), I 2, I 0]), (.bool true), I 2, I 0, (.tuple #[(.bool false), I 1, I 0]), (.agg #[I 4, I 2, I 0]), (sl 47 0 1 1), (.tuple #[(.bool false), I 1, I 0]), (.bool false), I 1, I 0, I 0, I 0, I 0, I 0, I 0, I 0, I 0, I 0, I 0, I 0, I 0, (.bool false), (.bool false), (g2 1 2), (g2 1 2), (.bool false), (.bool false), (.bool false), (g2 1 6), (g2 1 6), (.bool false), (.bool false), (.bool false), (.agg #[I 0, I 1, I 1, I 6]), (g2 0 1), (g2 1 6), (.agg #[I 0, I 1, I 1, I 6]), (.bool false), (.bool false), (.bool false), (.agg #[I 4, I 2, I 0]), (.agg #[I 4, I 2, I 0]), (.bool false), (.bool false), (.bool false), (.bool true), (.bool false), (.bool false), (.bool false), I 2, (.bool false), (.bool false), (.bool false), (.bool false), (.bool false), (.bool false), I 1, (.bool false), (.bool false), (.tuple #[(sl 49 0 5 5), I 6, I 0]), (sl 48 0 5 5), (.tuple #[(sl 49 0 5 5), I 6, I 0]), (sl 49 0 5 5), I 6, I 0, (.tuple #[(sl 51 0 5 5), I 5, I 0]), (sl 50 0 5 5), (.tuple #[(sl 51 0 5 5), I 5, I 0]), (sl 51 0 5 5), I 5, I 0, (.tuple #[I 6, I 0]), (sl 52 0 5 5), (.tuple #[I 6, I 0]), I 6, I 0, (.tuple #[I 4, I 0]), (sl 53 0 5 5), (.tuple #[I 4, I 0]), I 4, I 0, (.tuple #[(sl 59 0 2 2), I 18, I 0]), (sl 58 0 4 4), (.tuple #[(sl 59 0 2 2), I 18, I 0]), (sl 59 0 2 2), I 18, I 0, (.tuple #[sn, I 0]), (sl 64 0 4 4), (.tuple #[sn, I 0]), sn, I 0, (.tuple #[sn, I 7]), (sl 69 0 4 4), (.tuple #[sn, I 7]), sn, I 7, (.tuple #[I 1, I 0]), (sl 74 0 4 4), (.tuple #[I 1, I 0]), I 1, I 0, (.tuple #[I 18, I 0]), (sl 79 0 4 4), (pt 79 2), (.agg #[(.string (ByteArray.mk #[(UInt8.ofNat 98)])), (sl 76 0 2 2)]), (sl 84 0 4 4), (pt 84 6), (.agg #[(.string (ByteArray.mk #[(UInt8.ofNat 100)])), (sl 83 0 2 2)]), (.tuple #[I 18, I 0]), I 18, I 0, I 0, I 0, I 0, I 0, I 0, I 0, I 0, I 0, I 0, I 0, I 0, I 0, I 0, I 0, I 0, (.bool true), (.bool true), I 7, (.bool true), (.bool true), (.bool true), (sl 49 0 5 5), (sl 85 0 5 5), (.bool true), (.bool true), (.bool true), I 6, (.bool true), (.bool true), (.bool true), (sl 51 0 5 5), (sl 86 0 5 5), (.bool true), (.bool true), (.bool true), I 5, (.bool true), (.bool true), (.bool true), I 6, (.bool true), (.bool true), (.bool true), I 4, (.bool true), (.bool true), (.bool true), (sl 59 0 2 2), (g2 0 2), (g2 1 3), (sl 87 0 2 2), (.bool true), (.bool true), (.bool true), I 18, (.bool true), (.bool true), (.bool true), sn, I 0, (.bool true), (.bool true), (.bool true), I 1, (.bool true), (.bool true), (.bool true), I 18, (.bool true), (.bool true)]
noncomputable def X28 : Heap := [(rrow [I 10, I 20] 3), (rrow [I 12, I 20] 3), (rrow [I 11, I 26] 3), (rrow [I 30, I 20] 3), rowAwS_10, (rrow [I 9, I 19] 3), (rrow [I 13, I 21] 3), rowAwS_15, (rrow [I 10, I 20] 3), (rrow [I 12, I 20] 3), (rrow [I 11, I 26] 3), (rrow [I 30, I 20] 3), rowAwS_9, (rrow [I 1] 3), (rrow [I 10, I 20] 3), (rrow [I 12, I 20] 3), (rrow [I 11, I 26] 3), (rrow [I 30, I 20] 3), rowAwS_0, (rrow [I 0] 3), (rrow [I 10, I 20] 3), (rrow [I 12, I 20] 3), (rrow [I 11, I 26] 3), (rrow [I 30, I 20] 3), rowAwS_1, (rvar [I 1, I 2] 59), (rrow [I 10, I 20] 3), (rrow [I 12, I 20] 3), rowAwS_14, (rvar [sn, sn] 30), (rrow [I 10, I 20] 3), (rrow [I 12, I 20] 3), (rrow [I 11, I 26] 3), (rrow [I 30, I 20] 3), rowAwS_2, (rrow [I 9, I 19] 3), (rrow [I 13, I 21] 3), (rrow [I 1] 3), (rrow [I 0] 3), (rrow [I 10, I 20] 3), (rrow [I 12, I 20] 3), rowAwS_18, (rvar [I 1, I 2] 59), (rvar [I 1, I 6] 59), rowAwS_16, rowAwS_18, (rrow [(.bool false), (.bool false)] 4), (rrow [(.bool true)] 4), rowAwS_11, rowAwS_12, rowAwS_11, rowAwS_13, rowAwS_11, rowAwS_11, (rrow [I 10, I 20] 3), (rrow [I 12, I 20] 3), (rrow [I 11, I 26] 3), (rrow [I 30, I 20] 3), rowAwS_3, rowAwS_17, (rrow [I 10, I 20] 3), (rrow [I 12, I 20] 3), (rrow [I 11, I 26] 3), (rrow [I 30, I 20] 3), rowAwS_4, (rrow [I 10, I 20] 3), (rrow [I 12, I 20] 3), (rrow [I 11, I 26] 3), (rrow [I 30, I 20] 3), rowAwS_5, (rrow [I 10, I 20] 3), (rrow [I 12, I 20] 3), (rrow [I 11, I 26] 3), (rrow [I 30, I 20] 3), rowAwS_6, (rrow [I 10, I 20] 3), (rrow [I 12, I 20] 3), (rrow [I 11, I 26] 3), (rrow [I 30, I 20] 3), rowAwS_7, (rrow [I 10, I 20] 3), (rrow [I 12, I 20] 3), (rrow [I 11, I 26] 3), (rrow [I 30, I 20] 3), rowAwS_8, rowAwS_12, rowAwS_13, rowAwS_17]
end Go.Proofs.YtinkgnklhcjejaaGreat
/-
The document's examples, run: statements 0 to 9 of awake.
-/
namespace Go.Proofs.YtinkgnklhcjejaaGreat
open Go Go.Abs
theorem c0 : aRun Tryz.prog envJ 100000 0 [.code (seqAt 0 (bodyOf 14))] L0 X0 = some (L1, X1, none) := by kernel_rfl
theorem c1 : aRun Tryz.prog envJ 100000 0 [.code (seqAt 1 (bodyOf 14))] L1 X1 = some (L2, X2, none) := by kernel_rfl
theorem c2 : aRun Tryz.prog envJ 100000 0 [.code (seqAt 2 (bodyOf 14))] L2 X2 = some (L3, X3, none) := by kernel_rfl
theorem c3 : aRun Tryz.prog envJ 100000 0 [.code (seqAt 3 (bodyOf 14))] L3 X3 = some (L4, X4, none) := by kernel_rfl
theorem c4 : aRun Tryz.prog envJ 100000 0 [.code (seqAt 4 (bodyOf 14))] L4 X4 = some (L5, X5, none) := by kernel_rfl
theorem c5 : aRun Tryz.prog envJ 100000 0 [.code (seqAt 5 (bodyOf 14))] L5 X5 = some (L6, X6, none) := by kernel_rfl
theorem c6 : aRun Tryz.prog envJ 100000 0 [.code (seqAt 6 (bodyOf 14))] L6 X6 = some (L7, X7, none) := by kernel_rfl
theorem c7 : aRun Tryz.prog envJ 100000 0 [.code (seqAt 7 (bodyOf 14))] L7 X7 = some (L8, X8, none) := by kernel_rfl
theorem c8 : aRun Tryz.prog envJ 100000 0 [.code (seqAt 8 (bodyOf 14))] L8 X8 = some (L9, X9, none) := by kernel_rfl
theorem c9 : aRun Tryz.prog envJ 100000 0 [.code (seqAt 9 (bodyOf 14))] L9 X9 = some (L10, X10, none) := by kernel_rfl
end Go.Proofs.YtinkgnklhcjejaaGreat
/-
The document's examples, run: statements 10 to 13 of awake.
-/
namespace Go.Proofs.YtinkgnklhcjejaaGreat
open Go Go.Abs
theorem c10 : aRun Tryz.prog envJ 100000 0 [.code (seqAt 10 (bodyOf 14))] L10 X10 = some (L11, X11, none) := by kernel_rfl
theorem c11 : aRun Tryz.prog envJ 100000 0 [.code (seqAt 11 (bodyOf 14))] L11 X11 = some (L12, X12, none) := by kernel_rfl
theorem c12 : aRun Tryz.prog envJ 100000 0 [.code (seqAt 12 (bodyOf 14))] L12 X12 = some (L13, X13, none) := by kernel_rfl
theorem c13 : aRun Tryz.prog envJ 100000 0 [.code (seqAt 13 (bodyOf 14))] L13 X13 = some (L14, X14, none) := by kernel_rfl
end Go.Proofs.YtinkgnklhcjejaaGreat
/-
The document's examples, run: statements 14 to 16 of awake.
-/
namespace Go.Proofs.YtinkgnklhcjejaaGreat
open Go Go.Abs
theorem c14 : aRun Tryz.prog envJ 100000 0 [.code (seqAt 14 (bodyOf 14))] L14 X14 = some (L15, X15, none) := by kernel_rfl
theorem c15 : aRun Tryz.prog envJ 100000 0 [.code (seqAt 15 (bodyOf 14))] L15 X15 = some (L16, X16, none) := by kernel_rfl
theorem c16 : aRun Tryz.prog envJ 100000 0 [.code (seqAt 16 (bodyOf 14))] L16 X16 = some (L17, X17, none) := by kernel_rfl
end Go.Proofs.YtinkgnklhcjejaaGreat
/-
The document's examples, run: statements 17 to 17 of awake.
-/
namespace Go.Proofs.YtinkgnklhcjejaaGreat
open Go Go.Abs
theorem c17 : aRun Tryz.prog envJ 100000 0 [.code (seqAt 17 (bodyOf 14))] L17 X17 = some (L18, X18, none) := by kernel_rfl
end Go.Proofs.YtinkgnklhcjejaaGreat
/-
The document's examples, run: statements 18 to 20 of awake.
-/
namespace Go.Proofs.YtinkgnklhcjejaaGreat
open Go Go.Abs
theorem c18 : aRun Tryz.prog envJ 100000 0 [.code (seqAt 18 (bodyOf 14))] L18 X18 = some (L19, X19, none) := by kernel_rfl
theorem c19 : aRun Tryz.prog envJ 100000 0 [.code (seqAt 19 (bodyOf 14))] L19 X19 = some (L20, X20, none) := by kernel_rfl
theorem c20 : aRun Tryz.prog envJ 100000 0 [.code (seqAt 20 (bodyOf 14))] L20 X20 = some (L21, X21, none) := by kernel_rfl
end Go.Proofs.YtinkgnklhcjejaaGreat
/-
The document's examples, run: statements 21 to 22 of awake.
-/
namespace Go.Proofs.YtinkgnklhcjejaaGreat
open Go Go.Abs
theorem c21 : aRun Tryz.prog envJ 100000 0 [.code (seqAt 21 (bodyOf 14))] L21 X21 = some (L22, X22, none) := by kernel_rfl
theorem c22 : aRun Tryz.prog envJ 100000 0 [.code (seqAt 22 (bodyOf 14))] L22 X22 = some (L23, X23, none) := by kernel_rfl
end Go.Proofs.YtinkgnklhcjejaaGreat
/-
The document's examples, run: statements 23 to 27 of awake.
-/
namespace Go.Proofs.YtinkgnklhcjejaaGreat
open Go Go.Abs
theorem c23 : aRun Tryz.prog envJ 100000 0 [.code (seqAt 23 (bodyOf 14))] L23 X23 = some (L24, X24, none) := by kernel_rfl
theorem c24 : aRun Tryz.prog envJ 100000 0 [.code (seqAt 24 (bodyOf 14))] L24 X24 = some (L25, X25, none) := by kernel_rfl
theorem c25 : aRun Tryz.prog envJ 100000 0 [.code (seqAt 25 (bodyOf 14))] L25 X25 = some (L26, X26, none) := by kernel_rfl
theorem c26 : aRun Tryz.prog envJ 100000 0 [.code (seqAt 26 (bodyOf 14))] L26 X26 = some (L27, X27, none) := by kernel_rfl
theorem c27 : aRun Tryz.prog envJ 100000 0 [.code (seqAt 27 (bodyOf 14))] L27 X27 = some (L28, X28, some .ret) := by kernel_rfl
end Go.Proofs.YtinkgnklhcjejaaGreat
/-
The document's examples, run: awake gives true, and is known from here on.
-/
namespace Go.Proofs.YtinkgnklhcjejaaGreat
open Go Go.Abs
theorem awake_runs : Runs Tryz.prog envJ 0 [.code (dropS 0 (bodyOf 14))] L0 X0 (L28, X28, some .ret) := by
  refine runs_drop (by kernel_rfl) ⟨_, c0⟩ ?_
  refine runs_drop (by kernel_rfl) ⟨_, c1⟩ ?_
  refine runs_drop (by kernel_rfl) ⟨_, c2⟩ ?_
  refine runs_drop (by kernel_rfl) ⟨_, c3⟩ ?_
  refine runs_drop (by kernel_rfl) ⟨_, c4⟩ ?_
  refine runs_drop (by kernel_rfl) ⟨_, c5⟩ ?_
  refine runs_drop (by kernel_rfl) ⟨_, c6⟩ ?_
  refine runs_drop (by kernel_rfl) ⟨_, c7⟩ ?_
  refine runs_drop (by kernel_rfl) ⟨_, c8⟩ ?_
  refine runs_drop (by kernel_rfl) ⟨_, c9⟩ ?_
  refine runs_drop (by kernel_rfl) ⟨_, c10⟩ ?_
  refine runs_drop (by kernel_rfl) ⟨_, c11⟩ ?_
  refine runs_drop (by kernel_rfl) ⟨_, c12⟩ ?_
  refine runs_drop (by kernel_rfl) ⟨_, c13⟩ ?_
  refine runs_drop (by kernel_rfl) ⟨_, c14⟩ ?_
  refine runs_drop (by kernel_rfl) ⟨_, c15⟩ ?_
  refine runs_drop (by kernel_rfl) ⟨_, c16⟩ ?_
  refine runs_drop (by kernel_rfl) ⟨_, c17⟩ ?_
  refine runs_drop (by kernel_rfl) ⟨_, c18⟩ ?_
  refine runs_drop (by kernel_rfl) ⟨_, c19⟩ ?_
  refine runs_drop (by kernel_rfl) ⟨_, c20⟩ ?_
  refine runs_drop (by kernel_rfl) ⟨_, c21⟩ ?_
  refine runs_drop (by kernel_rfl) ⟨_, c22⟩ ?_
  refine runs_drop (by kernel_rfl) ⟨_, c23⟩ ?_
  refine runs_drop (by kernel_rfl) ⟨_, c24⟩ ?_
  refine runs_drop (by kernel_rfl) ⟨_, c25⟩ ?_
  refine runs_drop (by kernel_rfl) ⟨_, c26⟩ ?_
  exact runs_last (by kernel_rfl) ⟨_, c27⟩
/-- The examples are as the document says. -/
theorem awake_gives : Gives Tryz.prog envJ 0 14 [] heap0 (.bool true, heap0) :=
  Gives.of_body (c := bodyOf 14) (j := some .ret) (v := .bool true) (l1 := L28) (A1 := X28) (fun _ _ => by kernel_rfl) Tryz.func14 (by kernel_rfl) (by kernel_rfl) (by kernel_rfl) (runs_eq awake_runs (by kernel_rfl) (by kernel_rfl) (by kernel_rfl) (by kernel_rfl)) rfl (by kernel_rfl)
theorem awake_says : SaysAt Tryz.prog 0 14 [] heap0 (.bool true) heap0 := SaysAt.of_gives prog_ok envJ_ok awake_gives
end Go.Proofs.YtinkgnklhcjejaaGreat
/-
Arguments of numbers, bools, strings, and slices of rows of them: cell by cell, and the first rows that they make.
-/
namespace Go.Abs
open Go

/-- The kind of a cell without an address. -/
inductive AK where
  | int (k : IntKind) | bool | str
inductive AtomAs : AK → Value → Prop
  | int {k : IntKind} {a : Int} (h : (Lit.int k a).wf = true) : AtomAs (.int k) (.int k a)
  | bool {b : Bool} : AtomAs .bool (.bool b)
  | str {s : ByteArray} (h : s.size ≤ maxLen) : AtomAs .str (.string s)
theorem AtomAs.atom {k : AK} {v : Value} (h : AtomAs k v) : atomB v = true := by cases h <;> rfl
inductive AtomsAs : List AK → List Value → Prop
  | nil : AtomsAs [] []
  | cons {k : AK} {v : Value} {ks : List AK} {cs : List Value} (h : AtomAs k v) (t : AtomsAs ks cs) : AtomsAs (k :: ks) (v :: cs)
theorem AtomsAs.len {ks : List AK} {cs : List Value} (h : AtomsAs ks cs) : cs.length = ks.length := by
  induction h with
  | nil => rfl
  | cons _ _ ih => simp [ih]
theorem AtomsAs.all {ks : List AK} {cs : List Value} (h : AtomsAs ks cs) : cs.all atomB = true := by
  induction h with
  | nil => rfl
  | cons h _ ih => simp [h.atom, ih]
theorem AtomsAs.int_inv {k : IntKind} {ks : List AK} {cs : List Value} (h : AtomsAs (.int k :: ks) cs) : ∃ a cs', cs = .int k a :: cs' ∧ (Lit.int k a).wf = true ∧ AtomsAs ks cs' := by
  cases h with
  | cons h t => cases h with
    | int h => exact ⟨_, _, rfl, h, t⟩
theorem AtomsAs.bool_inv {ks : List AK} {cs : List Value} (h : AtomsAs (.bool :: ks) cs) : ∃ a cs', cs = .bool a :: cs' ∧ AtomsAs ks cs' := by
  cases h with
  | cons h t => cases h with
    | bool => exact ⟨_, _, rfl, t⟩
theorem AtomsAs.str_inv {ks : List AK} {cs : List Value} (h : AtomsAs (.str :: ks) cs) : ∃ a cs', cs = .string a :: cs' ∧ a.size ≤ maxLen ∧ AtomsAs ks cs' := by
  cases h with
  | cons h t => cases h with
    | str h => exact ⟨_, _, rfl, h, t⟩
theorem AtomsAs.end {cs : List Value} (h : AtomsAs [] cs) : cs = [] := by cases h; rfl

/-- The kind of an argument's cell: without an address, or a slice of elements of such cells. -/
inductive ArgK where
  | atom (a : AK) | list (e : TypeId) (l : List AK)
def atomsOf : List ArgK → Option (List AK)
  | [] => some []
  | .atom a :: ks => (atomsOf ks).map (a :: ·)
  | .list .. :: _ => none

/-- n elements of these cells, from an address on. -/
def ListAt (w : World) (a : Addr) (l : List AK) (n : Nat) (cs : List Value) : Prop :=
  cs.length = n * l.length ∧ (∀ i, i < n * l.length → w.cell? (a.add i) = cs[i]?) ∧ ∀ i, i < n → AtomsAs l ((cs.drop (i * l.length)).take l.length)
inductive CellsAs (w : World) : List ArgK → List Value → Prop
  | nil : CellsAs w [] []
  | atom {a : AK} {v : Value} {ks : List ArgK} {cs : List Value} (h : AtomAs a v) (t : CellsAs w ks cs) : CellsAs w (.atom a :: ks) (v :: cs)
  | none {e : TypeId} {l : List AK} {ks : List ArgK} {cs : List Value} (t : CellsAs w ks cs) : CellsAs w (.list e l :: ks) (.slice none 0 0 :: cs)
  | list {e : TypeId} {l : List AK} {ks : List ArgK} {cs rows : List Value} {a : Addr} {n c : Nat} (hn : n ≤ c) (h : ListAt w a l n rows) (hc : c ≠ 0 → ∃ v, w.cell? a = some v) (hl : 0 < l.length) (t : CellsAs w ks cs) : CellsAs w (.list e l :: ks) (.slice (some a) n c :: cs)
theorem CellsAs.append {w : World} {ks ls : List ArgK} {cs ds : List Value} (h : CellsAs w ks cs) (h' : CellsAs w ls ds) : CellsAs w (ks ++ ls) (cs ++ ds) := by
  induction h with
  | nil => exact h'
  | atom h _ ih => exact .atom h ih
  | none _ ih => exact .none ih
  | list hn h hc hl _ ih => exact .list hn h hc hl ih
theorem CellsAs.atoms {w : World} {ks : List ArgK} {cs : List Value} (h : CellsAs w ks cs) : ∀ {l : List AK}, atomsOf ks = some l → AtomsAs l cs := by
  induction h with
  | nil => intro l h; cases h; exact .nil
  | atom h _ ih =>
    intro l hl
    simp only [atomsOf, Option.map_eq_some_iff] at hl
    obtain ⟨r, hr, rfl⟩ := hl
    exact .cons h (ih hr)
  | none _ _ => intro l hl; cases hl
  | list _ _ _ _ _ _ => intro l hl; cases hl
theorem CellsAs.int_inv {w : World} {k : IntKind} {ks : List ArgK} {cs : List Value} (h : CellsAs w (.atom (.int k) :: ks) cs) : ∃ a cs', cs = .int k a :: cs' ∧ (Lit.int k a).wf = true ∧ CellsAs w ks cs' := by
  cases h with
  | atom h t => cases h with
    | int h => exact ⟨_, _, rfl, h, t⟩
theorem CellsAs.bool_inv {w : World} {ks : List ArgK} {cs : List Value} (h : CellsAs w (.atom .bool :: ks) cs) : ∃ a cs', cs = .bool a :: cs' ∧ CellsAs w ks cs' := by
  cases h with
  | atom h t => cases h with
    | bool => exact ⟨_, _, rfl, t⟩
theorem CellsAs.str_inv {w : World} {ks : List ArgK} {cs : List Value} (h : CellsAs w (.atom .str :: ks) cs) : ∃ a cs', cs = .string a :: cs' ∧ a.size ≤ maxLen ∧ CellsAs w ks cs' := by
  cases h with
  | atom h t => cases h with
    | str h => exact ⟨_, _, rfl, h, t⟩
theorem CellsAs.end {w : World} {cs : List Value} (h : CellsAs w [] cs) : cs = [] := by cases h; rfl

def argRow (F : TypeId → Option (List ArgK)) (P : Program) : List Field → Nat → Option (List ArgK)
  | [], _ => some []
  | f :: fs, off => match F f.type with
    | some l => if f.offset == off && P.cellsOf f.type == l.length then (argRow F P fs (off + l.length)).map (l ++ ·) else none
    | none => none
/-- The kinds of the cells of an argument's type. -/
def argKinds (P : Program) : Nat → TypeId → Option (List ArgK)
  | 0, _ => none
  | n + 1, t => match P.underlying t with
    | some (.int k) => some [.atom (.int k)]
    | some .bool => some [.atom .bool]
    | some .string => some [.atom .str]
    | some (.slice e) => match argKinds P n e with
      | some ks => match atomsOf ks with
        | some l => if P.cellsOf e == l.length && decide (0 < l.length) then some [.list e l] else none
        | none => none
      | none => none
    | some (.struct fs) => match argRow (argKinds P n) P fs.toList 0 with
      | some l => if P.cellsOf t == l.length then some l else none
      | none => none
    | some (.array m e) => match argKinds P n e with
      | some l => if P.cellsOf e == l.length && P.cellsOf t == m * l.length then some (List.replicate m l).flatten else none
      | none => none
    | _ => none

theorem add_add (a : Addr) (x j : Nat) : (a.add x).add j = a.add (x + j) := by
  unfold Addr.add
  by_cases hj : j = 0
  · subst hj; simp
  · by_cases hx : x = 0
    · subst hx; simp [hj]
    · have : x + j ≠ 0 := by omega
      simp [hj, hx, Nat.add_assoc]

section
variable {H : Type} {enc : TypeId × Value → H} {P : Program} {w : World} {base : Nat} {held : Bool}
theorem argRow_of {F : TypeId → Option (List ArgK)} {T : TypeId → List Value → Prop} (hT : ∀ t l c, F t = some l → T t c → CellsAs w l c) :
    ∀ (fs : List Field) (off : Nat) (ks : List ArgK) (cs : List Value), argRow F P fs off = some ks → (∀ f ∈ fs, T f.type ((cs.drop f.offset).take (P.cellsOf f.type))) → off + ks.length = cs.length → CellsAs w ks (cs.drop off)
  | [], off, ks, cs, h, _, hl => by
    cases h
    simp at hl
    rw [List.drop_eq_nil_of_le (by omega)]
    exact .nil
  | f :: fs, off, ks, cs, h, hf, hl => by
    unfold argRow at h
    split at h
    · rename_i l hF
      split at h
      · rename_i hc
        simp only [Bool.and_eq_true, beq_iff_eq] at hc
        simp only [Option.map_eq_some_iff] at h
        obtain ⟨r, hr, rfl⟩ := h
        simp only [List.length_append] at hl
        have g1 := argRow_of hT fs (off + l.length) r cs hr (fun f hm => hf f (List.mem_cons_of_mem _ hm)) (by omega)
        have g3 := hT _ _ _ hF (hf f (by simp))
        rw [hc.1, hc.2] at g3
        have := g3.append g1
        rwa [← List.drop_drop, List.take_append_drop] at this
      · cases h
    · cases h
theorem argArr_of {l : List ArgK} {n : Nat} {cs : List Value} (hlen : cs.length = n * l.length) (hT : ∀ i, i < n → CellsAs w l ((cs.drop (i * l.length)).take l.length)) :
    ∀ (m k : Nat), k + m = n → CellsAs w (List.replicate m l).flatten (cs.drop (k * l.length))
  | 0, k, h => by
    have : k = n := by omega
    subst this
    rw [List.drop_eq_nil_of_le (by omega)]
    exact .nil
  | m + 1, k, h => by
    have h2 := hT k (by omega)
    have g1 := argArr_of hlen hT m (k + 1) (by omega)
    rw [List.replicate_succ, List.flatten_cons]
    have := h2.append g1
    rwa [Nat.succ_mul, ← List.drop_drop, List.take_append_drop] at this
/-- WHAT IS READ AS SUCH A TYPE. -/
theorem args_of : ∀ (n : Nat) (t : TypeId) (ks : List ArgK) (fuel : Nat) (cs : List Value) (x : DataW H × List MemPlace), argKinds P n t = some ks → DataW.trod enc P w base (fun _ => true) held fuel t cs = some x → CellsAs w ks cs
  | 0, t, ks, fuel, cs, x, h, _ => by cases h
  | n + 1, t, ks, fuel, cs, x, h, hx => by
    have ih := fun t ks fuel cs x => args_of n t ks fuel cs x
    unfold argKinds at h
    split at h
    · rename_i k ht
      cases h
      obtain ⟨a, rfl, rfl, hw⟩ := DataW.trod_int ht hx
      exact .atom (.int hw) .nil
    · rename_i ht
      cases h
      obtain ⟨b, rfl, rfl⟩ := DataW.trod_bool ht hx
      exact .atom .bool .nil
    · rename_i ht
      cases h
      obtain ⟨s, rfl, rfl, hs⟩ := DataW.trod_string ht hx
      exact .atom (.str hs) .nil
    · rename_i e ht
      split at h
      · rename_i ks' hks
        split at h
        · rename_i l hl
          split at h
          · rename_i hc
            cases h
            simp only [Bool.and_eq_true, beq_iff_eq, decide_eq_true_eq] at hc
            obtain ⟨hc, hpos⟩ := hc
            rcases DataW.trod_slice ht hx with ⟨rfl, _⟩ | ⟨a, len, cap, elems, rest, m, rfl, rfl, rfl, hb, hlc, hm, hlen, hel, hsp, _⟩
            · exact .none .nil
            · obtain ⟨hrl, hrest⟩ := hsp rfl
              rw [hc] at hel hrest
              have one : ∀ (i : Nat) (y : DataW H × List MemPlace), (w.cells? base (a.add (i * l.length)) l.length).bind (DataW.trod enc P w base (fun _ => true) held m e) = some y → ∃ ci, AtomsAs l ci ∧ ∀ r, r < l.length → w.cell? (a.add (i * l.length + r)) = ci[r]? := by
                intro i y hy
                obtain ⟨ci, h1, h2⟩ := Option.bind_eq_some_iff.1 hy
                obtain ⟨_, _, h3⟩ := World.cells?_some h1
                refine ⟨ci, (ih e ks' m ci y hks h2).atoms hl, fun r hr => ?_⟩
                rw [← add_add]
                exact h3 r hr
              have each : ∀ i, i < len → ∃ ci, AtomsAs l ci ∧ ∀ r, r < l.length → w.cell? (a.add (i * l.length + r)) = ci[r]? := by
                intro i hi
                have := hel i hi
                have hi' : i < elems.length := by omega
                rw [List.getElem?_eq_getElem hi'] at this
                exact one i _ this
              let rows : List Value := (List.range (len * l.length)).map fun j => (w.cell? (a.add j)).getD undef
              have hat : ∀ j, j < len * l.length → w.cell? (a.add j) = rows[j]? := by
                intro j hj
                have hi : j / l.length < len := Nat.div_lt_of_lt_mul (by rwa [Nat.mul_comm])
                have hr : j % l.length < l.length := Nat.mod_lt _ hpos
                obtain ⟨ci, h1, h2⟩ := each (j / l.length) hi
                have h3 := h2 (j % l.length) hr
                have e1 : j / l.length * l.length + j % l.length = j := by rw [Nat.mul_comm]; exact Nat.div_add_mod j l.length
                rw [e1] at h3
                have hlt : j % l.length < ci.length := by rw [h1.len]; exact hr
                rw [List.getElem?_eq_getElem hlt] at h3
                simp only [rows, List.getElem?_map, List.getElem?_range hj, Option.map_some, h3, Option.getD_some]
              refine .list hlc (rows := rows) ⟨by simp [rows], hat, fun i hi => ?_⟩ (fun hcap => ?_) hpos .nil
              · obtain ⟨ci, h1, h2⟩ := each i hi
                have : (rows.drop (i * l.length)).take l.length = ci := by
                  apply List.ext_getElem?
                  intro r
                  rw [List.getElem?_take]
                  split
                  · rename_i hr
                    rw [List.getElem?_drop, ← hat _ (by
                      have : (i + 1) * l.length ≤ len * l.length := Nat.mul_le_mul_right _ hi
                      rw [Nat.succ_mul] at this
                      omega), h2 r hr]
                  · rename_i hr
                    rw [List.getElem?_eq_none (by rw [h1.len]; omega)]
                rw [this]; exact h1
              · have e0 : a.add (0 * l.length + 0) = a := by simp [Addr.add]
                have fin : ∀ ci, AtomsAs l ci → (∀ r, r < l.length → w.cell? (a.add (0 * l.length + r)) = ci[r]?) → ∃ v, w.cell? a = some v := by
                  intro ci h1 h2
                  have h3 := h2 0 hpos
                  rw [e0, List.getElem?_eq_getElem (by rw [h1.len]; exact hpos)] at h3
                  exact ⟨_, h3⟩
                by_cases h0 : 0 < len
                · obtain ⟨ci, h1, h2⟩ := each 0 h0
                  exact fin ci h1 h2
                · have hlen0 : len = 0 := by omega
                  subst hlen0
                  have h1 := hrest 0 (by omega)
                  rw [Nat.zero_add] at h1
                  have h2 : 0 < rest.length := by omega
                  rw [List.getElem?_eq_getElem h2] at h1
                  obtain ⟨ci, h3, h4⟩ := one 0 _ h1
                  exact fin ci h3 h4
          · cases h
        · cases h
      · cases h
    · rename_i fs ht
      split at h
      · rename_i l hl
        split at h
        · rename_i hc
          cases h
          have hc : P.cellsOf t = ks.length := by simpa using hc
          obtain ⟨xs, m, rfl, _, h1, h2, h3⟩ := DataW.trod_struct ht hx
          have := argRow_of (w := w) (T := fun t c => ∃ x, DataW.trod enc P w base (fun _ => true) held m t c = some x) (fun t l c hl hx => hx.elim fun x hx => ih t l m c x hl hx) fs.toList 0 ks cs hl (fun f hf => by
            obtain ⟨i, hi⟩ := List.getElem?_of_mem hf
            have h4 := h3 i f (by simpa using hi)
            have hi' : i < xs.length := by
              have := (List.getElem?_eq_some_iff.1 hi).1
              rw [h2]; simpa using this
            rw [List.getElem?_eq_getElem hi'] at h4
            exact ⟨_, h4⟩) (by omega)
          simpa using this
        · cases h
      · cases h
    · rename_i m e ht
      split at h
      · rename_i l hl
        split at h
        · rename_i hc
          cases h
          simp only [Bool.and_eq_true, beq_iff_eq] at hc
          obtain ⟨xs, f', hf, _, h1, h2, h3⟩ := DataW.trod_array ht hx
          have := argArr_of (w := w) (l := l) (n := m) (cs := cs) (by rw [h1, hc.2]) (fun i hi => by
            have h4 := h3 i hi
            have hi' : i < xs.length := by omega
            rw [List.getElem?_eq_getElem hi'] at h4
            have := ih _ _ _ _ _ hl h4
            rwa [hc.1] at this) m 0 (by omega)
          simpa using this
        · cases h
      · cases h
    · cases h
end

/-- A row that is read alone comes to rows of which none is own. -/
theorem Rel.putRo {P : Program} {ρ : Loc} {A : Heap} {w : World} (hR : Rel P ρ A w) (hn : noOwn A = true) {cs : List Value} {e : TypeId} {L : L4} (hrow : RowOK P (ρ.put A.length L) w L (.cells cs e .ro)) : Rel P (ρ.put A.length L) (A ++ [some (.cells cs e .ro)]) w := by
  have h0 : ρ A.length = none := hR.sup _ (Nat.le_refl _)
  have hx := Ext.put (L := L) h0
  have get : ∀ i r, hget (A ++ [some (.cells cs e .ro)]) i = some r → (i < A.length ∧ hget A i = some r) ∨ (i = A.length ∧ r = .cells cs e .ro) := by
    intro i r hi
    rw [hget_append] at hi
    split at hi
    · exact .inl ⟨‹_›, hi⟩
    · rename_i hge
      have hlt : i - A.length < 1 := by simpa using hget_lt hi
      have : i - A.length = 0 := by omega
      rw [this] at hi
      simp at hi
      exact .inr ⟨by omega, hi.symm⟩
  have old : ∀ i, i < A.length → ρ.put A.length L i = ρ i := fun i hi => by simp [Loc.put, Nat.ne_of_lt hi]
  refine ⟨fun i hi => ?_, fun i r hi => ?_, fun i r M hi hM => ?_, fun i j r s M N hi _ _ _ _ ho => ?_⟩
  · simp at hi
    have : i ≠ A.length := by omega
    simp only [Loc.put, if_neg this]
    exact hR.sup i (by omega)
  · rcases get i r hi with ⟨hlt, h1⟩ | ⟨rfl, _⟩
    · rw [old i hlt]; exact hR.has i r h1
    · exact ⟨L, by simp⟩
  · rcases get i r hi with ⟨hlt, h1⟩ | ⟨rfl, rfl⟩
    · rw [old i hlt] at hM
      exact (hR.row i r M h1 hM).move hx rfl
    · simp at hM
      subst hM
      exact hrow
  · rcases get i r hi with ⟨hlt, h1⟩ | ⟨rfl, rfl⟩
    · exfalso
      obtain ⟨M', hM'⟩ := hR.has i r h1
      exact noOwn_spec hn ⟨i, r, M', h1, hM', ho, rfl⟩
    · cases ho
theorem noOwn_put {A : Heap} (hn : noOwn A = true) {cs : List Value} {e : TypeId} : noOwn (A ++ [some (.cells cs e .ro)]) = true := by
  unfold noOwn at hn ⊢
  rw [List.all_append, hn]
  rfl
/-- The value of a slice among the arguments: nil, or that of the row i with n elements. -/
def sval (b : Bool) (i n : Nat) : Value := if b then .slice (some ⟨i, 0, none⟩) n n else .slice none 0 0
/-- n elements of these cells. -/
def ListOf (l : List AK) (n : Nat) (rows : List Value) : Prop := rows.length = n * l.length ∧ ∀ i, i < n → AtomsAs l ((rows.drop (i * l.length)).take l.length)
/-- A slice among the arguments makes a row. -/
theorem CellsAs.list_inv {P : Program} {ρ : Loc} {A : Heap} {w : World} {e : TypeId} {l : List AK} {ks : List ArgK} {cs : List Value} (h : CellsAs w (.list e l :: ks) cs) (hR : Rel P ρ A w) (hn : noOwn A = true) (hz : ∃ i cs e u, hget A i = some (.cells cs e u)) :
    ∃ v cs' b n rows ρ', cs = v :: cs' ∧ CellsAs w ks cs' ∧ ListOf l n rows ∧ (b = false → n = 0) ∧ VR ρ' (sval b A.length n) v ∧ Ext ρ ρ' ∧ Rel P ρ' (A ++ [some (.cells rows e .ro)]) w ∧ noOwn (A ++ [some (.cells rows e .ro)]) = true := by
  have h0 : ρ A.length = Option.none := hR.sup _ (Nat.le_refl _)
  -- a row of nothing
  have none_row : ∃ L : L4, L.esz = 0 ∧ ∀ ρ', RowOK P ρ' w L (.cells [] e .ro) := by
    obtain ⟨i, cs0, e0, u0, hi⟩ := hz
    obtain ⟨L, hL⟩ := hR.has i _ hi
    obtain ⟨cs', e', fz, b1, _⟩ := hR.row i _ L hi hL
    exact ⟨⟨L.blk, L.off, 0, L.fin⟩, rfl, fun ρ' => ⟨cs', e', fz, b1, fun o v hv => by simp at hv, fun _ _ => rfl, fun h => absurd rfl h⟩⟩
  cases h with
  | none t =>
    obtain ⟨L, _, hrow⟩ := none_row
    exact ⟨_, _, false, 0, [], ρ.put A.length L, rfl, t, ⟨by simp, fun i hi => by omega⟩, fun _ => rfl, .atom rfl, Ext.put h0 L, hR.putRo hn (hrow _), noOwn_put hn⟩
  | list hnc h hc hl t =>
    rename_i cs' rows a n c
    by_cases hc0 : c = 0
    · have hn0 : n = 0 := by omega
      subst hn0
      obtain ⟨L, hL0, hrow⟩ := none_row
      obtain ⟨h1, _, _⟩ := h
      have hr : rows = [] := List.length_eq_zero_iff.1 (by simpa using h1)
      subst hr
      refine ⟨_, _, true, 0, [], ρ.put A.length L, rfl, t, ⟨by simp, fun i hi => by omega⟩, (by intro h; cases h), ?_, Ext.put h0 L, hR.putRo hn (hrow _), noOwn_put hn⟩
      exact .slice (L := L) (Loc.put_self ρ A.length L) hnc (.inl hc0) (fun h => absurd hL0 h)
    · obtain ⟨v, hv⟩ := hc hc0
      obtain ⟨h1, h2, h3⟩ := h
      have hspot : a.spot = Option.none := by
        unfold World.cell? at hv
        split at hv
        · split at hv
          · cases hv
          · rename_i hs; simpa using hs
        · cases hv
      have ha : a = ⟨a.block, a.off, Option.none⟩ := by
        obtain ⟨b, o, s⟩ := a
        cases hspot
        rfl
      have hblk : ∃ cs' e' fz, w.heap[a.block]? = some (.cells cs' e' fz) := by
        unfold World.cell? at hv
        split at hv
        · rename_i c t fr hw; exact ⟨c, t, fr, hw⟩
        · cases hv
      obtain ⟨ds, e', fz, hw⟩ := hblk
      have cell : ∀ i v, w.cell? (a.add i) = some v → ds[a.off + i]? = some v := by
        intro i v hv
        unfold World.cell? at hv
        have hb : (a.add i).block = a.block := by unfold Addr.add; split <;> rfl
        have ho : (a.add i).off = a.off + i := by
          unfold Addr.add
          split
          · rename_i h0; rw [h0]; rfl
          · rfl
        rw [hb, hw] at hv
        simp only at hv
        split at hv
        · cases hv
        · rw [ho] at hv; exact hv
      let L : L4 := ⟨a.block, a.off, 0, 0⟩
      have hatoms : ∀ (o : Nat) (v : Value), rows[o]? = some v → atomB v = true := by
        intro o v hv
        have ho : o < rows.length := (List.getElem?_eq_some_iff.1 hv).1
        rw [h1] at ho
        have hi : o / l.length < n := Nat.div_lt_of_lt_mul (by rwa [Nat.mul_comm])
        have hall := (h3 _ hi).all
        have hm : ((rows.drop (o / l.length * l.length)).take l.length)[o % l.length]? = some v := by
          rw [List.getElem?_take, if_pos (Nat.mod_lt _ hl), List.getElem?_drop]
          have e1 : o / l.length * l.length + o % l.length = o := by rw [Nat.mul_comm]; exact Nat.div_add_mod o l.length
          rw [e1]; exact hv
        exact List.all_eq_true.1 hall v (List.mem_of_getElem? hm)
      have hrow : RowOK P (ρ.put A.length L) w L (.cells rows e .ro) := by
        refine ⟨ds, e', fz, hw, fun o v hv => ⟨v, ?_, .atom (hatoms o v hv)⟩, fun _ _ => rfl, fun h => absurd rfl h⟩
        have ho : o < n * l.length := by rw [← h1]; exact (List.getElem?_eq_some_iff.1 hv).1
        exact cell o v (by rw [h2 o ho]; exact hv)
      refine ⟨_, _, true, n, rows, ρ.put A.length L, rfl, t, ⟨h1, h3⟩, (by intro h; cases h), ?_, Ext.put h0 L, hR.putRo hn hrow, noOwn_put hn⟩
      exact .slice (L := L) (Loc.put_self ρ A.length L) hnc (.inr (by rw [ha]; rfl)) (fun h => absurd rfl h)
/-- Whole numbers in a row. -/
theorem ListOf.ints {k : IntKind} {n : Nat} {rows : List Value} (h : ListOf [.int k] n rows) : ∃ zs : List Int, zs.length = n ∧ rows = zs.map (.int k) ∧ ∀ z ∈ zs, (Lit.int k z).wf = true := by
  obtain ⟨h1, h2⟩ := h
  simp at h1
  have each : ∀ v ∈ rows, ∃ z, v = .int k z ∧ (Lit.int k z).wf = true := by
    intro v hv
    obtain ⟨i, hi⟩ := List.getElem?_of_mem hv
    have hlt : i < n := by rw [← h1]; exact (List.getElem?_eq_some_iff.1 hi).1
    have := h2 i hlt
    have e : (rows.drop (i * [AK.int k].length)).take [AK.int k].length = [v] := by
      simp only [List.length_cons, List.length_nil, Nat.zero_add, Nat.mul_one]
      apply List.ext_getElem?
      intro j
      cases j with
      | zero => simp [hi]
      | succ j => simp [List.getElem?_take]
    rw [e] at this
    obtain ⟨a, cs', hh, hw, _⟩ := this.int_inv
    cases hh
    exact ⟨a, rfl, hw⟩
  clear h2
  induction rows generalizing n with
  | nil => exact ⟨[], by simpa using h1, rfl, fun z hz => by simp at hz⟩
  | cons v rows ih =>
    obtain ⟨z, rfl, hz⟩ := each v (by simp)
    obtain ⟨zs, g1, g2, g3⟩ := ih (n := n - 1) (by simp at h1; omega) (fun v hv => each v (List.mem_cons_of_mem _ hv))
    refine ⟨z :: zs, by simp at h1 ⊢; omega, by simp [g2], fun y hy => ?_⟩
    rcases List.mem_cons.1 hy with rfl | hy
    · exact hz
    · exact g3 y hy
theorem VR.aggL {ρ : Loc} {l l' : List Value} (h : VRs ρ l l') : VR ρ (.agg l.toArray) (.agg l'.toArray) := .agg (by simpa using h.1) (by simpa using h.2)
end Go.Abs
/-
Slices among the arguments, whatever rows there are: nil, without room, or a row.
-/
namespace Go.Abs
open Go
theorem Rel.putNone {P : Program} {ρ : Loc} {A : Heap} {w : World} (hR : Rel P ρ A w) {L : L4} : Rel P (ρ.put A.length L) (A ++ [none]) w := by
  have h0 : ρ A.length = none := hR.sup _ (Nat.le_refl _)
  have hx := Ext.put (L := L) h0
  have get : ∀ i r, hget (A ++ [none]) i = some r → i < A.length ∧ hget A i = some r := by
    intro i r hi
    rw [hget_append] at hi
    split at hi
    · exact ⟨‹_›, hi⟩
    · rename_i hge
      have hlt : i - A.length < 1 := by simpa using hget_lt hi
      have : i - A.length = 0 := by omega
      rw [this] at hi
      simp at hi
  have old : ∀ i, i < A.length → ρ.put A.length L i = ρ i := fun i hi => by simp [Loc.put, Nat.ne_of_lt hi]
  refine ⟨fun i hi => ?_, fun i r hi => ?_, fun i r M hi hM => ?_, fun i j r s M N hi hj hM hN hne ho => ?_⟩
  · simp at hi
    have : i ≠ A.length := by omega
    simp only [Loc.put, if_neg this]
    exact hR.sup i (by omega)
  · obtain ⟨hlt, h1⟩ := get i r hi
    rw [old i hlt]; exact hR.has i r h1
  · obtain ⟨hlt, h1⟩ := get i r hi
    rw [old i hlt] at hM
    exact (hR.row i r M h1 hM).move hx rfl
  · obtain ⟨hlt, h1⟩ := get i r hi
    obtain ⟨hlt', h2⟩ := get j s hj
    rw [old i hlt] at hM
    rw [old j hlt'] at hN
    exact hR.sep i j r s M N h1 h2 hM hN hne ho
theorem noOwn_putNone {A : Heap} (hn : noOwn A = true) : noOwn (A ++ [none]) = true := by
  unfold noOwn at hn ⊢
  rw [List.all_append, hn]
  rfl
/-- A slice among the arguments: nil; without room; with a row. -/
theorem CellsAs.list_cases {P : Program} {ρ : Loc} {A : Heap} {w : World} {e : TypeId} {l : List AK} {ks : List ArgK} {cs : List Value} (h : CellsAs w (.list e l :: ks) cs) (hR : Rel P ρ A w) (hn : noOwn A = true) :
    (∃ cs', cs = .slice Option.none 0 0 :: cs' ∧ CellsAs w ks cs') ∨
    (∃ v cs' ρ', cs = v :: cs' ∧ CellsAs w ks cs' ∧ VR ρ' (.slice (some ⟨A.length, 0, Option.none⟩) 0 0) v ∧ Ext ρ ρ' ∧ Rel P ρ' (A ++ [Option.none]) w ∧ noOwn (A ++ [Option.none]) = true) ∨
    (∃ v cs' n rows ρ', cs = v :: cs' ∧ CellsAs w ks cs' ∧ ListOf l n rows ∧ VR ρ' (.slice (some ⟨A.length, 0, Option.none⟩) n n) v ∧ Ext ρ ρ' ∧ Rel P ρ' (A ++ [some (.cells rows e .ro)]) w ∧ noOwn (A ++ [some (.cells rows e .ro)]) = true) := by
  have h0 : ρ A.length = Option.none := hR.sup _ (Nat.le_refl _)
  cases h with
  | none t => exact .inl ⟨_, rfl, t⟩
  | list hnc h hc hl t =>
    rename_i cs' rows a n c
    by_cases hc0 : c = 0
    · have hn0 : n = 0 := by omega
      subst hn0
      refine .inr (.inl ⟨_, _, ρ.put A.length ⟨0, 0, 0, 0⟩, rfl, t, ?_, Ext.put h0 _, hR.putNone, noOwn_putNone hn⟩)
      exact .slice (L := ⟨0, 0, 0, 0⟩) (Loc.put_self ρ A.length _) hnc (.inl hc0) (fun h => absurd rfl h)
    · obtain ⟨v, hv⟩ := hc hc0
      obtain ⟨h1, h2, h3⟩ := h
      have hspot : a.spot = Option.none := by
        unfold World.cell? at hv
        split at hv
        · split at hv
          · cases hv
          · rename_i hs; simpa using hs
        · cases hv
      have ha : a = ⟨a.block, a.off, Option.none⟩ := by
        obtain ⟨b, o, s⟩ := a
        cases hspot
        rfl
      have hblk : ∃ cs' e' fz, w.heap[a.block]? = some (.cells cs' e' fz) := by
        unfold World.cell? at hv
        split at hv
        · rename_i c t fr hw; exact ⟨c, t, fr, hw⟩
        · cases hv
      obtain ⟨ds, e', fz, hw⟩ := hblk
      have cell : ∀ i v, w.cell? (a.add i) = some v → ds[a.off + i]? = some v := by
        intro i v hv
        unfold World.cell? at hv
        have hb : (a.add i).block = a.block := by unfold Addr.add; split <;> rfl
        have ho : (a.add i).off = a.off + i := by
          unfold Addr.add
          split
          · rename_i h0; rw [h0]; rfl
          · rfl
        rw [hb, hw] at hv
        simp only at hv
        split at hv
        · cases hv
        · rw [ho] at hv; exact hv
      let L : L4 := ⟨a.block, a.off, 0, 0⟩
      have hatoms : ∀ (o : Nat) (v : Value), rows[o]? = some v → atomB v = true := by
        intro o v hv
        have ho : o < rows.length := (List.getElem?_eq_some_iff.1 hv).1
        rw [h1] at ho
        have hi : o / l.length < n := Nat.div_lt_of_lt_mul (by rwa [Nat.mul_comm])
        have hall := (h3 _ hi).all
        have hm : ((rows.drop (o / l.length * l.length)).take l.length)[o % l.length]? = some v := by
          rw [List.getElem?_take, if_pos (Nat.mod_lt _ hl), List.getElem?_drop]
          have e1 : o / l.length * l.length + o % l.length = o := by rw [Nat.mul_comm]; exact Nat.div_add_mod o l.length
          rw [e1]; exact hv
        exact List.all_eq_true.1 hall v (List.mem_of_getElem? hm)
      have hrow : RowOK P (ρ.put A.length L) w L (.cells rows e .ro) := by
        refine ⟨ds, e', fz, hw, fun o v hv => ⟨v, ?_, .atom (hatoms o v hv)⟩, fun _ _ => rfl, fun h => absurd rfl h⟩
        have ho : o < n * l.length := by rw [← h1]; exact (List.getElem?_eq_some_iff.1 hv).1
        exact cell o v (by rw [h2 o ho]; exact hv)
      refine .inr (.inr ⟨_, _, n, rows, ρ.put A.length L, rfl, t, ⟨h1, h3⟩, ?_, Ext.put h0 L, hR.putRo hn hrow, noOwn_put hn⟩)
      exact .slice (L := L) (Loc.put_self ρ A.length L) hnc (.inr (by rw [ha]; rfl)) (fun h => absurd rfl h)
/-- Bools in a row. -/
theorem ListOf.bools {n : Nat} {rows : List Value} (h : ListOf [.bool] n rows) : ∃ zs : List Bool, zs.length = n ∧ rows = zs.map .bool := by
  obtain ⟨h1, h2⟩ := h
  simp at h1
  have each : ∀ v ∈ rows, ∃ z, v = .bool z := by
    intro v hv
    obtain ⟨i, hi⟩ := List.getElem?_of_mem hv
    have hlt : i < n := by rw [← h1]; exact (List.getElem?_eq_some_iff.1 hi).1
    have := h2 i hlt
    have e : (rows.drop (i * [AK.bool].length)).take [AK.bool].length = [v] := by
      simp only [List.length_cons, List.length_nil, Nat.zero_add, Nat.mul_one]
      apply List.ext_getElem?
      intro j
      cases j with
      | zero => simp [hi]
      | succ j => simp [List.getElem?_take]
    rw [e] at this
    obtain ⟨a, cs', hh, _⟩ := this.bool_inv
    cases hh
    exact ⟨a, rfl⟩
  clear h2
  induction rows generalizing n with
  | nil => exact ⟨[], by simpa using h1, rfl⟩
  | cons v rows ih =>
    obtain ⟨z, rfl⟩ := each v (by simp)
    obtain ⟨zs, g1, g2⟩ := ih (n := n - 1) (by simp at h1; omega) (fun v hv => each v (List.mem_cons_of_mem _ hv))
    exact ⟨z :: zs, by simp at h1 ⊢; omega, by simp [g2]⟩
end Go.Abs
/-
Arguments of whole numbers alone: structs and arrays of them, cell by cell.
-/
namespace Go.Abs
open Go

/-- Cells that are whole numbers of these kinds. -/
inductive IntsAs : List IntKind → List Value → Prop
  | nil : IntsAs [] []
  | cons {k : IntKind} {a : Int} {ks : List IntKind} {cs : List Value} (h : (Lit.int k a).wf = true) (t : IntsAs ks cs) : IntsAs (k :: ks) (.int k a :: cs)
theorem IntsAs.append {ks ls : List IntKind} {cs ds : List Value} (h : IntsAs ks cs) (h' : IntsAs ls ds) : IntsAs (ks ++ ls) (cs ++ ds) := by
  induction h with
  | nil => exact h'
  | cons h _ ih => exact .cons h ih
theorem IntsAs.inv {k : IntKind} {ks : List IntKind} {cs : List Value} (h : IntsAs (k :: ks) cs) : ∃ a cs', cs = .int k a :: cs' ∧ (Lit.int k a).wf = true ∧ IntsAs ks cs' := by
  cases h with
  | cons h t => exact ⟨_, _, rfl, h, t⟩
theorem IntsAs.end {cs : List Value} (h : IntsAs [] cs) : cs = [] := by cases h; rfl

def flatKinds (F : TypeId → Option (List IntKind)) (P : Program) : List Field → Nat → Option (List IntKind)
  | [], _ => some []
  | f :: fs, off => match F f.type with
    | some l => if f.offset == off && P.cellsOf f.type == l.length then (flatKinds F P fs (off + l.length)).map (l ++ ·) else none
    | none => none
/-- The kinds of the cells of a type that has whole numbers alone. -/
def flatInts (P : Program) : Nat → TypeId → Option (List IntKind)
  | 0, _ => none
  | n + 1, t => match P.underlying t with
    | some (.int k) => some [k]
    | some (.struct fs) => match flatKinds (flatInts P n) P fs.toList 0 with
      | some l => if P.cellsOf t == l.length then some l else none
      | none => none
    | some (.array m e) => match flatInts P n e with
      | some l => if P.cellsOf e == l.length && P.cellsOf t == m * l.length then some (List.replicate m l).flatten else none
      | none => none
    | _ => none

section
variable {H : Type} {enc : TypeId × Value → H} {P : Program} {w : World} {base : Nat} {spare : Nat → Bool} {held : Bool}
theorem flat_row {F : TypeId → Option (List IntKind)} {T : TypeId → List Value → Option (DataW H × List MemPlace)} (hT : ∀ t l c x, F t = some l → T t c = some x → IntsAs l c ∧ x.2 = []) :
    ∀ (fs : List Field) (off : Nat) (ks : List IntKind) (cs : List Value) (xs : List (DataW H × List MemPlace)), flatKinds F P fs off = some ks → fs.mapM (fun f => T f.type ((cs.drop f.offset).take (P.cellsOf f.type))) = some xs → off + ks.length = cs.length →
      IntsAs ks (cs.drop off) ∧ xs.flatMap (·.2) = []
  | [], off, ks, cs, xs, h, hm, hl => by
    cases h
    simp at hm hl
    subst hm
    rw [List.drop_eq_nil_of_le (by omega)]
    exact ⟨.nil, rfl⟩
  | f :: fs, off, ks, cs, xs, h, hm, hl => by
    unfold flatKinds at h
    split at h
    · rename_i l hF
      split at h
      · rename_i hc
        simp only [Bool.and_eq_true, beq_iff_eq] at hc
        cases hr : flatKinds F P fs (off + l.length) with
        | none => rw [hr] at h; cases h
        | some r =>
          rw [hr] at h
          simp only [Option.map_some, Option.some.injEq] at h
          subst h
          rw [List.mapM_cons] at hm
          cases h1 : T f.type ((cs.drop f.offset).take (P.cellsOf f.type)) with
          | none => rw [h1] at hm; simp at hm
          | some x =>
            cases h2 : fs.mapM (fun f => T f.type ((cs.drop f.offset).take (P.cellsOf f.type))) with
            | none => rw [h1, h2] at hm; simp at hm
            | some ys =>
              rw [h1, h2] at hm
              simp at hm
              subst hm
              simp only [List.length_append] at hl
              obtain ⟨g1, g2⟩ := flat_row hT fs (off + l.length) r cs ys hr h2 (by omega)
              obtain ⟨g3, g4⟩ := hT _ _ _ _ hF h1
              rw [hc.1, hc.2] at g3
              refine ⟨?_, by simp [g4, g2]⟩
              have := g3.append g1
              rwa [← List.drop_drop, List.take_append_drop] at this
      · cases h
    · cases h
theorem flat_arr {l : List IntKind} {n : Nat} {cs : List Value} {xs : List (DataW H × List MemPlace)} (hlen : cs.length = n * l.length) (hx : xs.length = n)
    (hT : ∀ i, i < n → ∃ x, xs[i]? = some x ∧ IntsAs l ((cs.drop (i * l.length)).take l.length) ∧ x.2 = []) : ∀ (m k : Nat), k + m = n → IntsAs (List.replicate m l).flatten (cs.drop (k * l.length)) ∧ (xs.drop k).flatMap (·.2) = []
  | 0, k, h => by
    have : k = n := by omega
    subst this
    rw [List.drop_eq_nil_of_le (by omega), List.drop_eq_nil_of_le (by omega)]
    exact ⟨.nil, rfl⟩
  | m + 1, k, h => by
    obtain ⟨x, h1, h2, h3⟩ := hT k (by omega)
    obtain ⟨g1, g2⟩ := flat_arr hlen hx hT m (k + 1) (by omega)
    constructor
    · rw [List.replicate_succ, List.flatten_cons]
      have := h2.append g1
      rwa [Nat.succ_mul, ← List.drop_drop, List.take_append_drop] at this
    · have hk : k < xs.length := by omega
      rw [List.getElem?_eq_getElem hk] at h1
      cases h1
      rw [List.drop_eq_getElem_cons hk, List.flatMap_cons, h3]
      exact g2
/-- WHAT IS READ AS SUCH A TYPE: whole numbers, and no place in memory. -/
theorem flat_of : ∀ (n : Nat) (t : TypeId) (ks : List IntKind) (fuel : Nat) (cs : List Value) (x : DataW H × List MemPlace), flatInts P n t = some ks → DataW.trod enc P w base spare held fuel t cs = some x → IntsAs ks cs ∧ x.2 = []
  | 0, t, ks, fuel, cs, x, h, _ => by cases h
  | n + 1, t, ks, 0, cs, x, h, hx => by simp [DataW.trod] at hx
  | n + 1, t, ks, fuel + 1, cs, x, h, hx => by
    have ih := fun t ks cs x => flat_of n t ks fuel cs x
    unfold flatInts at h
    split at h
    · rename_i k ht
      cases h
      obtain ⟨a, rfl, rfl, hw⟩ := DataW.trod_int ht hx
      exact ⟨.cons hw .nil, rfl⟩
    · rename_i fs ht
      split at h
      · rename_i l hl
        split at h
        · rename_i hc
          cases h
          have hc : P.cellsOf t = ks.length := by simpa using hc
          unfold DataW.trod at hx
          rw [ht] at hx
          have hx' : (if cs.length = P.cellsOf t then (fs.toList.mapM fun f => DataW.trod enc P w base spare held fuel f.type ((cs.drop f.offset).take (P.cellsOf f.type))).map fun xs => ((.agg (xs.map (·.1)), xs.flatMap (·.2)) : DataW H × List MemPlace) else none) = some x := by
            split at hx <;> simp_all
          split at hx'
          · rename_i hcs
            cases hm : fs.toList.mapM fun f => DataW.trod enc P w base spare held fuel f.type ((cs.drop f.offset).take (P.cellsOf f.type)) with
            | none => rw [hm] at hx'; cases hx'
            | some xs =>
              rw [hm] at hx'
              cases hx'
              have := flat_row (T := DataW.trod enc P w base spare held fuel) ih fs.toList 0 ks cs xs hl hm (by omega)
              simpa using this
          · cases hx'
        · cases h
      · cases h
    · rename_i m e ht
      split at h
      · rename_i l hl
        split at h
        · rename_i hc
          cases h
          simp only [Bool.and_eq_true, beq_iff_eq] at hc
          obtain ⟨xs, f', hf, rfl, h1, h2, h3⟩ := DataW.trod_array ht hx
          cases hf
          have := flat_arr (l := l) (n := m) (cs := cs) (xs := xs) (by rw [h1, hc.2]) h2 (fun i hi => by
            have h4 := h3 i hi
            have hi' : i < xs.length := by omega
            rw [List.getElem?_eq_getElem hi'] at h4
            obtain ⟨g1, g2⟩ := ih _ _ _ _ hl h4
            rw [hc.1] at g1
            exact ⟨_, List.getElem?_eq_getElem hi', g1, g2⟩) m 0 (by omega)
          simpa using this
        · cases h
      · cases h
    · cases h
end
end Go.Abs
/-
The abstract machine: the tables that a row lists, as rows of the first heap; and behind a call that leaves all old blocks, what a row asks.
-/
namespace Go.Abs
open Go

/-- Where the parts begin. -/
def offs (ls : List (List Value)) : List Nat := (List.range ls.length).map fun i => (ls.take i).flatten.length
/-- The cells of a datum of plain parts, in their order. -/
def flatRow {H : Type} (P : Program) : Nat → TypeId → DataW H → Option (List Value)
  | 0, _, _ => none
  | fuel + 1, t, d =>
    match P.underlying t, d with
    | some .bool, .lit (.bool b) => some [.bool b]
    | some (.int k), .lit (.int k' n) => if k' = k then some [.int k n] else none
    | some (.array n e), .agg ds => (ds.mapM fun d => flatRow P fuel e d).bind fun ls => if ds.length = n ∧ offs ls = (List.range n).map (· * P.cellsOf e) then some ls.flatten else none
    | some (.struct fs), .agg ds => ((fs.toList.zip ds).mapM fun x => flatRow P fuel x.1.type x.2).bind fun ls => if ds.length = fs.size ∧ offs ls = fs.toList.map (·.offset) then some ls.flatten else none
    | _, _ => none

theorem flat_get : ∀ {ls : List (List Value)} {o : Nat} {v : Value}, ls.flatten[o]? = some v → ∃ (i : Nat) (a : List Value) (j : Nat), ls[i]? = some a ∧ a[j]? = some v ∧ o = (ls.take i).flatten.length + j
  | [], o, v, h => by simp at h
  | a :: ls, o, v, h => by
    rw [List.flatten_cons, List.getElem?_append] at h
    split at h
    · exact ⟨0, a, o, rfl, h, by simp⟩
    · rename_i hn
      obtain ⟨i, b, j, h1, h2, h3⟩ := flat_get h
      refine ⟨i + 1, b, j, by simpa using h1, h2, ?_⟩
      simp only [List.take_succ_cons, List.flatten_cons, List.length_append]
      omega
theorem offs_at {ls : List (List Value)} {i : Nat} {a : List Value} (h : ls[i]? = some a) : (offs ls)[i]? = some (ls.take i).flatten.length := by
  have hi : i < ls.length := (List.getElem?_eq_some_iff.1 h).1
  simp [offs, hi]
theorem mapM_back {α β : Type} {f : α → Option β} {l : List α} {r : List β} (h : l.mapM f = some r) {i : Nat} {b : β} (hb : r[i]? = some b) : ∃ a, l[i]? = some a ∧ f a = some b := by
  have hi : i < r.length := (List.getElem?_eq_some_iff.1 hb).1
  have hl : i < l.length := by rw [← Lib.mapM_length h]; exact hi
  obtain ⟨b', h1, h2⟩ := Lib.mapM_at h i l[i] (List.getElem?_eq_getElem hl)
  rw [hb] at h1
  cases h1
  exact ⟨l[i], List.getElem?_eq_getElem hl, h2⟩
theorem cut_get {cs : List Value} {o n j : Nat} {v : Value} (h : ((cs.drop o).take n)[j]? = some v) : cs[o + j]? = some v := by
  rw [List.getElem?_take] at h
  split at h
  · simpa [List.getElem?_drop] using h
  · cases h

theorem flatRow_spec {H : Type} {enc : TypeId × Value → H} {P : Program} {w : World} {base : Nat} {sp : Nat → Bool} {hd : Bool} : ∀ (n m : Nat) (t : TypeId) (d : DataW H) (l cs : List Value) (p : List MemPlace), flatRow P n t d = some l →
    DataW.trod enc P w base sp hd m t cs = some (d, p) → ∀ (o : Nat) (v : Value), l[o]? = some v → cs[o]? = some v
  | 0, _, _, _, _, _, _, h, _ => by cases h
  | n + 1, m, t, d, l, cs, p, h, ht => by
    intro o v ho
    unfold flatRow at h
    split at h
    · rename_i hu
      obtain ⟨b, rfl, e⟩ := DataW.trod_bool hu ht
      cases e; cases h; exact ho
    · rename_i k k' z hu
      obtain ⟨b, rfl, e, _⟩ := DataW.trod_int hu ht
      cases e
      simp only [if_true, Option.some.injEq] at h
      subst h; exact ho
    · rename_i na e ds hu
      obtain ⟨xs, m', rfl, ex, hlen, hxl, hx⟩ := DataW.trod_array hu ht
      obtain ⟨ls, hls, h⟩ := Option.bind_eq_some_iff.1 h
      split at h
      · rename_i hc
        cases h
        obtain ⟨i, a, j, h1, h2, rfl⟩ := flat_get ho
        obtain ⟨d', hd', hf⟩ := mapM_back hls h1
        cases ex
        simp only [List.getElem?_map, Option.map_eq_some_iff] at hd'
        obtain ⟨x, hx1, rfl⟩ := hd'
        have hi : i < na := by rw [← hxl]; exact (List.getElem?_eq_some_iff.1 hx1).1
        have hr := hx i hi
        rw [hx1] at hr
        have := flatRow_spec n m' e x.1 a _ x.2 hf hr j v h2
        have ho' := offs_at h1
        rw [hc.2] at ho'
        simp only [List.getElem?_map, List.getElem?_range hi, Option.map_some, Option.some.injEq] at ho'
        rw [← ho']
        exact cut_get this
      · cases h
    · rename_i fs ds hu
      obtain ⟨xs, m', rfl, ex, hlen, hxl, hx⟩ := DataW.trod_struct hu ht
      obtain ⟨ls, hls, h⟩ := Option.bind_eq_some_iff.1 h
      split at h
      · rename_i hc
        cases h
        obtain ⟨i, a, j, h1, h2, rfl⟩ := flat_get ho
        obtain ⟨fd, hd', hf⟩ := mapM_back hls h1
        cases ex
        obtain ⟨hf1, hd1⟩ := List.getElem?_zip_eq_some.1 hd'
        simp only [List.getElem?_map, Option.map_eq_some_iff] at hd1
        obtain ⟨x, hx1, hx2⟩ := hd1
        have hr := hx i fd.1 (by simpa using hf1)
        rw [hx1] at hr
        rw [← hx2] at hf
        have := flatRow_spec n m' fd.1.type x.1 a _ x.2 hf hr j v h2
        have ho' := offs_at h1
        rw [hc.2] at ho'
        simp only [List.getElem?_map, hf1, Option.map_some, Option.some.injEq] at ho'
        rw [← ho']
        exact cut_get this
      · cases h
    · cases h

/-- The tables of the list, as rows; other variables have none. -/
def tabRow (P : Program) (laid : List (String × DataW Unit)) (g : Nat) : Option ARow :=
  laid.findSome? fun x => if P.globalNamed x.1 = some g then (P.globals[g]?).bind fun v => (flatRow P 9 v.type x.2).bind fun cs => if cs.all atomB = true then some (.cells cs 0 .ro) else none else none
def tabRows (P : Program) (laid : List (String × DataW Unit)) (G : Nat) : Heap := (List.range G).map (tabRow P laid)
def tabLoc (G : Nat) : Loc := fun i => if i < G then some ⟨i, 0, 0, 0⟩ else none
theorem tabLoc_globs (G : Nat) : Globs (tabLoc G) G := fun g hg => ⟨0, 0, by simp [tabLoc, hg]⟩

theorem laidVars_mem {P : Program} {w : World} : ∀ {l : List (String × DataW Unit)} {ps : List MemPlace}, DataW.LaidVars P w l ps → ∀ x ∈ l, ∃ g t cs fuel p, P.globalNamed x.1 = some g ∧ (P.globals[g]?).map (·.type) = some t ∧ w.var? P x.1 = some cs ∧
    DataW.trod (fun _ => ()) P w 0 (fun _ => true) false fuel t cs.toList = some (x.2, p)
  | [], _, _, x, hx => by cases hx
  | y :: l, _, ⟨g, t, cs, fuel, p, q, h1, h2, h3, h4, h5, _⟩, x, hx => by
    rcases List.mem_cons.1 hx with rfl | hx
    · exact ⟨g, t, cs, fuel, p, h1, h2, h3, h4⟩
    · exact laidVars_mem h5 x hx

theorem tabRows_rel {P : Program} {laid : List (String × DataW Unit)} {G : Nat} {w : World} (h : laidMet P laid w) : Rel P (tabLoc G) (tabRows P laid G) w := by
  have get : ∀ i r, hget (tabRows P laid G) i = some r → i < G ∧ tabRow P laid i = some r := by
    intro i r hi
    rw [hget_eq] at hi
    simp only [tabRows, List.getElem?_map, Option.map_eq_some_iff] at hi
    obtain ⟨j, hj, hr⟩ := hi
    have hlt : i < G := by have := (List.getElem?_eq_some_iff.1 hj).1; simpa using this
    simp [hlt] at hj
    subst hj
    exact ⟨hlt, hr⟩
  have row : ∀ i r, tabRow P laid i = some r → ∃ cs, r = .cells cs 0 .ro ∧ ∃ cs' e' fz, w.heap[i]? = some (.cells cs' e' fz) ∧ cs.all atomB = true ∧ ∀ (o : Nat) (v : Value), cs[o]? = some v → cs'[o]? = some v := by
    intro i r hr
    obtain ⟨x, hx, hr⟩ := List.exists_of_findSome?_eq_some hr
    split at hr
    · rename_i hn
      obtain ⟨v, hv, hr⟩ := Option.bind_eq_some_iff.1 hr
      obtain ⟨cs, hcs, hr⟩ := Option.bind_eq_some_iff.1 hr
      by_cases hat : cs.all atomB = true
      case neg => rw [if_neg hat] at hr; cases hr
      rw [if_pos hat] at hr; cases hr
      obtain ⟨ps, hl, _⟩ := h
      obtain ⟨g, t, cs', fuel, p, h1, h2, h3, h4⟩ := laidVars_mem hl x hx
      rw [hn] at h1; cases h1
      rw [hv] at h2; cases h2
      refine ⟨cs, rfl, ?_⟩
      simp only [World.var?, hn, Option.bind_some] at h3
      split at h3
      · rename_i c e fz hw
        cases h3
        exact ⟨_, _, _, hw, hat, fun o v ho => by simpa using flatRow_spec 9 fuel _ _ cs _ p hcs h4 o v ho⟩
      · cases h3
    · cases hr
  have loc : ∀ i, i < G → tabLoc G i = some ⟨i, 0, 0, 0⟩ := fun i hi => by simp [tabLoc, hi]
  refine ⟨fun i hi => ?_, fun i r hi => ⟨_, loc i (get i r hi).1⟩, fun i r L hi hL => ?_, fun i j r s L M hi hj hL hM _ ho => ?_⟩
  · simp [tabRows] at hi
    simp [tabLoc, Nat.not_lt.2 hi]
  · obtain ⟨hlt, hr⟩ := get i r hi
    rw [loc i hlt] at hL; cases hL
    obtain ⟨cs, rfl, cs', e', fz, hw, hat, hc⟩ := row i r hr
    refine ⟨cs', e', fz, hw, fun o v hv => ⟨v, by simpa using hc o v hv, ?_⟩, fun _ _ => rfl, fun h => absurd rfl h⟩
    exact .atom (List.all_eq_true.1 hat v (List.mem_of_getElem? hv))
  · obtain ⟨hlt, hr⟩ := get i r hi
    obtain ⟨cs, rfl, _⟩ := row i r hr
    cases ho

open Go.ChangeShapes in
theorem post_of_still {H : Type} {enc : TypeId × Value → H} {P : Program} {f : Func} {s : ChangeSpec} {apart fresh handsOn again : Bool} {W W' : World} {args : Array Value} {v : Value} {ds gs : List (DataW H)} {before pa pv : List MemPlace}
    (hW : DataW.Whole enc P f.params.toList s.vars apart W args.toList ds gs before)
    (hres : ∀ (b : Nat) (sp : Nat → Bool) (hd : Bool), DataW.TrodAll enc P W' b sp hd f.resultTypes.toList (v.resultList f.resultTypes.size) (s.fn H (ds ++ gs)).results [])
    (hargs : ∀ sp : Nat → Bool, (∀ p ∈ before, sp p.block = true) → DataW.TrodAll enc P W' 0 sp true f.params.toList args.toList (s.fn H (ds ++ gs)).args pa)
    (hvars : ∀ sp : Nat → Bool, (∀ p ∈ before, sp p.block = true) → DataW.TrodVars enc P W' sp s.vars (s.fn H (ds ++ gs)).vars pv)
    (hps : before = pa ++ pv) (ho : W'.os = W.os ∧ W'.output = W.output) (hb : ∀ b, b < W.heap.size → W'.heap[b]? = W.heap[b]?)
    (hok : ∀ (j : Nat) (t : TypeId) (r : Value), f.resultTypes[j]? = some t → (v.resultList f.resultTypes.size)[j]? = some r → Value.okWide P W' .any 0 t r) :
    s.post enc P f apart fresh handsOn again W args v W' := by
  have hlt := hW.lt
  have hold : ∀ p ∈ before, (fun b => decide (b < W.heap.size)) p.block = true := fun p hp => by simpa using hlt p hp
  refine ⟨ds, gs, before, [], pa, pv, hW, hres _ _ _, hargs _ hold, hvars _ hold, kept_of_same ho hb _, fun _ => ?_⟩
  obtain ⟨_, _, _, _, _, hz, hn⟩ := hW
  refine ⟨hok, _, _, ([] ++ pa) ++ pv, ⟨[] ++ pa, pv, trodAll_append (hargs _ (fun _ _ => rfl)) (hres _ _ _), hvars _ (fun _ _ => rfl), rfl, ?_, ?_⟩, ?_⟩
  · intro b off hp
    have hp' : MemPlace.cell b off ∈ before := by rw [hps]; simpa using hp
    rw [frozen_of_same hb (hlt _ hp')]
    exact hz b off hp'
  · intro ha
    have := hn ha
    rw [hps] at this
    simpa using this
  · intro p hp _
    rw [hps]
    simpa using hp

/-- Behind a call that leaves all old blocks the arguments read as before. -/
theorem trodAll_still {H : Type} {enc : TypeId × Value → H} {P : Program} {W W' : World} (hb : ∀ b, b < W.heap.size → W'.heap[b]? = W.heap[b]?) : ∀ {ts : List TypeId} {vs : List Value} {ds : List (DataW H)} {ps : List MemPlace} {sp : Nat → Bool} {hd : Bool}, (∀ p ∈ ps, p.block < W.heap.size) → DataW.TrodAll enc P W 0 sp hd ts vs ds ps → DataW.TrodAll enc P W' 0 sp hd ts vs ds ps
  | [], [], [], _, _, _, _, h => h
  | _ :: _, _ :: _, _ :: _, _, _, _, hl, ⟨p, q, ⟨n, h1⟩, h2, e⟩ => ⟨p, q, ⟨n, DataW.trod_carry n _ _ _ h1 fun x hx => by
      have := hl x (by rw [e]; exact List.mem_append_left _ hx)
      cases x with
      | cell b off => simp only [World.sameAt, World.cell?, hb b this]
      | map b => exact hb b this⟩, trodAll_still hb (fun x hx => hl x (by rw [e]; exact List.mem_append_right _ hx)) h2, e⟩
  | [], _ :: _, _, _, _, _, _, h => h.elim
  | [], [], _ :: _, _, _, _, _, h => h.elim
  | _ :: _, [], _, _, _, _, _, h => h.elim
  | _ :: _, _ :: _, [], _, _, _, _, h => h.elim

/-- What is asked of the program's types, that arguments read again. -/
structure Reads (P : Program) : Prop where
  out : laidOutB P = true
  maps : mapsRowed P = true
  full : ((List.range P.types.size).all fun t => match P.underlying t with | some (.slice e) => decide (0 < P.cellsOf e) | _ => true) = true

open Go.ChangeShapes Go.RowKit in
/-- WHAT A LAW's ROW ASKS: true came back, all old blocks are as they were. -/
theorem law_post {H : Type} {enc : TypeId × Value → H} {P : Program} (hP : Reads P) {f : Func} {s : ChangeSpec} {apart fresh handsOn again : Bool} {W W' : World} {args : Array Value} {ds gs : List (DataW H)} {before : List MemPlace} {bt : TypeId}
    (hv : s.vars = []) (hfn : ∀ ds : List (DataW H), ds.length = f.params.size → s.fn H ds = { results := [.lit (.bool true)], args := ds }) (hr : f.resultTypes = #[bt]) (hu : P.underlying bt = some .bool) (hts : f.params.toList.all (fun t => decide (t < P.types.size)) = true)
    (hW : DataW.Whole enc P f.params.toList s.vars apart W args.toList ds gs before) (ho : W'.os = W.os ∧ W'.output = W.output) (hb : ∀ b, b < W.heap.size → W'.heap[b]? = W.heap[b]?) :
    s.post enc P f apart fresh handsOn again W args (.bool true) W' := by
  have hW0 := hW
  have hlt := hW.lt
  obtain ⟨p, q, hA, hV, rfl, hz, hn⟩ := hW
  rw [hv] at hV
  obtain ⟨rfl, rfl⟩ : gs = [] ∧ q = [] := by
    cases gs with
    | nil => exact ⟨rfl, hV⟩
    | cons => exact hV.elim
  have hlen : ds.length = f.params.size := by simpa using (Go.trodAll_length hA).2
  have hf := hfn ds hlen
  refine post_of_still (pa := p) (pv := []) hW0 (fun b sp hd => ?_) (fun sp hs => ?_) (fun sp _ => ?_) rfl ho hb ?_
  · rw [List.append_nil, hf, hr]
    exact trodAll_cons_mk (shut_bool hu true) trodAll_mk0
  · rw [List.append_nil, hf]
    refine trodAll_still hb (fun x hx => hlt x (by simpa using hx)) ?_
    exact DataW.TrodAll.respare (kids_rows hP.out hP.maps) (fun t e ht => slices_full_of P hP.full t e ht) (fun t ht => by simpa using List.all_eq_true.1 hts t ht) hA (fun x hx => hs x (by simpa using hx))
  · rw [List.append_nil, hf, hv]
    exact rfl
  · exact ok_one hr rfl (okWide_bool_mk hu true)
end Go.Abs
