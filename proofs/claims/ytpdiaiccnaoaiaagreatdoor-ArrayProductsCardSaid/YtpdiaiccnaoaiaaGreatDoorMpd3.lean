/-
ArrayProducts of the package wooferlaw06 returns true for every input, whatever the world: proved for all arguments, under the conditions that the row and its card name (the package-level tables as laid).
-/
import Derived.Test.YtpdiaiccnaoaiaaGreatDoorMpd2
import Derived.Test.YtpdiaiccnaoaiaaGreatDoorMpd1
import Derived.Test.YtpdiaiccnaoaiaaGreatDoorMb5
import Derived.Test.YtpdiaiccnaoaiaaGreatDoorCards
import Derived.Test.YtpdiaiccnaoaiaaGreatDoorTie
import Derived.WalkKit
import Derived.ProofKit
import Derived.OpenShut
import Derived.Deep.DeepHandedRow
import Derived.Lib.LaidTab
import Derived.MakeChecks
set_option linter.unusedVariables false
set_option linter.unusedSimpArgs false
set_option linter.unusedSectionVars false
/-
Calls at further rows are known.
-/
namespace Go.Proofs.YtpdiaiccnaoaiaaGreatDoor
open Go Go.Abs
theorem kenvM_29_11 (i : fam29I) (hi : fam29.ok i) (lim : Nat) (A : Heap) (hA : [hget A 11] = fam29.rows i) : Gives Tryz.prog envM lim 29 [sl 11 0 i.xs.length i.c] A (I (chkP i.xs), A) := by
  have hA : hget A 11 = _ := (List.cons.inj hA).1
  have hlen := hget_lt hA
  have h := Env.fam_here (E := (((((((((envB.fam 8 heapN 20 fam20).fam 8 heapN 90 fam90).fam 8 heapN 84 fam84).fam 8 heapN 25 fam25).fam 8 heapN 16 fam16).fam 8 heapN 23 fam23).fam 8 heapN 28 fam28).fam 8 heap0 87 fam87).with (baseKnown B_envC1))) (G := 8) (T := heapN) (f0 := 29) (lim := lim) (F := fam29) (args := [sl 11 0 i.xs.length i.c]) (A := A) (ids := [11]) (v' := I (chkP i.xs)) i hi rfl rfl (rowsS hA) (starts8 (by omega)) rfl rfl rfl rfl
  rw [show A ++ fam29.new i = A from List.append_nil A] at h
  exact known_gives ((Env.fam_skip rfl).trans ((Env.fam_skip rfl).trans ((kn_skip rfl).trans h)))
theorem kenvM_29_13 (i : fam29I) (hi : fam29.ok i) (lim : Nat) (A : Heap) (hA : [hget A 13] = fam29.rows i) : Gives Tryz.prog envM lim 29 [sl 13 0 i.xs.length i.c] A (I (chkP i.xs), A) := by
  have hA : hget A 13 = _ := (List.cons.inj hA).1
  have hlen := hget_lt hA
  have h := Env.fam_here (E := (((((((((envB.fam 8 heapN 20 fam20).fam 8 heapN 90 fam90).fam 8 heapN 84 fam84).fam 8 heapN 25 fam25).fam 8 heapN 16 fam16).fam 8 heapN 23 fam23).fam 8 heapN 28 fam28).fam 8 heap0 87 fam87).with (baseKnown B_envC1))) (G := 8) (T := heapN) (f0 := 29) (lim := lim) (F := fam29) (args := [sl 13 0 i.xs.length i.c]) (A := A) (ids := [13]) (v' := I (chkP i.xs)) i hi rfl rfl (rowsS hA) (starts8 (by omega)) rfl rfl rfl rfl
  rw [show A ++ fam29.new i = A from List.append_nil A] at h
  exact known_gives ((Env.fam_skip rfl).trans ((Env.fam_skip rfl).trans ((kn_skip rfl).trans h)))
theorem kenvM_29_15 (i : fam29I) (hi : fam29.ok i) (lim : Nat) (A : Heap) (hA : [hget A 15] = fam29.rows i) : Gives Tryz.prog envM lim 29 [sl 15 0 i.xs.length i.c] A (I (chkP i.xs), A) := by
  have hA : hget A 15 = _ := (List.cons.inj hA).1
  have hlen := hget_lt hA
  have h := Env.fam_here (E := (((((((((envB.fam 8 heapN 20 fam20).fam 8 heapN 90 fam90).fam 8 heapN 84 fam84).fam 8 heapN 25 fam25).fam 8 heapN 16 fam16).fam 8 heapN 23 fam23).fam 8 heapN 28 fam28).fam 8 heap0 87 fam87).with (baseKnown B_envC1))) (G := 8) (T := heapN) (f0 := 29) (lim := lim) (F := fam29) (args := [sl 15 0 i.xs.length i.c]) (A := A) (ids := [15]) (v' := I (chkP i.xs)) i hi rfl rfl (rowsS hA) (starts8 (by omega)) rfl rfl rfl rfl
  rw [show A ++ fam29.new i = A from List.append_nil A] at h
  exact known_gives ((Env.fam_skip rfl).trans ((Env.fam_skip rfl).trans ((kn_skip rfl).trans h)))
theorem kenvM_29_17 (i : fam29I) (hi : fam29.ok i) (lim : Nat) (A : Heap) (hA : [hget A 17] = fam29.rows i) : Gives Tryz.prog envM lim 29 [sl 17 0 i.xs.length i.c] A (I (chkP i.xs), A) := by
  have hA : hget A 17 = _ := (List.cons.inj hA).1
  have hlen := hget_lt hA
  have h := Env.fam_here (E := (((((((((envB.fam 8 heapN 20 fam20).fam 8 heapN 90 fam90).fam 8 heapN 84 fam84).fam 8 heapN 25 fam25).fam 8 heapN 16 fam16).fam 8 heapN 23 fam23).fam 8 heapN 28 fam28).fam 8 heap0 87 fam87).with (baseKnown B_envC1))) (G := 8) (T := heapN) (f0 := 29) (lim := lim) (F := fam29) (args := [sl 17 0 i.xs.length i.c]) (A := A) (ids := [17]) (v' := I (chkP i.xs)) i hi rfl rfl (rowsS hA) (starts8 (by omega)) rfl rfl rfl rfl
  rw [show A ++ fam29.new i = A from List.append_nil A] at h
  exact known_gives ((Env.fam_skip rfl).trans ((Env.fam_skip rfl).trans ((kn_skip rfl).trans h)))
theorem kenvM_29_19 (i : fam29I) (hi : fam29.ok i) (lim : Nat) (A : Heap) (hA : [hget A 19] = fam29.rows i) : Gives Tryz.prog envM lim 29 [sl 19 0 i.xs.length i.c] A (I (chkP i.xs), A) := by
  have hA : hget A 19 = _ := (List.cons.inj hA).1
  have hlen := hget_lt hA
  have h := Env.fam_here (E := (((((((((envB.fam 8 heapN 20 fam20).fam 8 heapN 90 fam90).fam 8 heapN 84 fam84).fam 8 heapN 25 fam25).fam 8 heapN 16 fam16).fam 8 heapN 23 fam23).fam 8 heapN 28 fam28).fam 8 heap0 87 fam87).with (baseKnown B_envC1))) (G := 8) (T := heapN) (f0 := 29) (lim := lim) (F := fam29) (args := [sl 19 0 i.xs.length i.c]) (A := A) (ids := [19]) (v' := I (chkP i.xs)) i hi rfl rfl (rowsS hA) (starts8 (by omega)) rfl rfl rfl rfl
  rw [show A ++ fam29.new i = A from List.append_nil A] at h
  exact known_gives ((Env.fam_skip rfl).trans ((Env.fam_skip rfl).trans ((kn_skip rfl).trans h)))
theorem kenvM_29_21 (i : fam29I) (hi : fam29.ok i) (lim : Nat) (A : Heap) (hA : [hget A 21] = fam29.rows i) : Gives Tryz.prog envM lim 29 [sl 21 0 i.xs.length i.c] A (I (chkP i.xs), A) := by
  have hA : hget A 21 = _ := (List.cons.inj hA).1
  have hlen := hget_lt hA
  have h := Env.fam_here (E := (((((((((envB.fam 8 heapN 20 fam20).fam 8 heapN 90 fam90).fam 8 heapN 84 fam84).fam 8 heapN 25 fam25).fam 8 heapN 16 fam16).fam 8 heapN 23 fam23).fam 8 heapN 28 fam28).fam 8 heap0 87 fam87).with (baseKnown B_envC1))) (G := 8) (T := heapN) (f0 := 29) (lim := lim) (F := fam29) (args := [sl 21 0 i.xs.length i.c]) (A := A) (ids := [21]) (v' := I (chkP i.xs)) i hi rfl rfl (rowsS hA) (starts8 (by omega)) rfl rfl rfl rfl
  rw [show A ++ fam29.new i = A from List.append_nil A] at h
  exact known_gives ((Env.fam_skip rfl).trans ((Env.fam_skip rfl).trans ((kn_skip rfl).trans h)))
theorem kenvM_29_23 (i : fam29I) (hi : fam29.ok i) (lim : Nat) (A : Heap) (hA : [hget A 23] = fam29.rows i) : Gives Tryz.prog envM lim 29 [sl 23 0 i.xs.length i.c] A (I (chkP i.xs), A) := by
  have hA : hget A 23 = _ := (List.cons.inj hA).1
  have hlen := hget_lt hA
  have h := Env.fam_here (E := (((((((((envB.fam 8 heapN 20 fam20).fam 8 heapN 90 fam90).fam 8 heapN 84 fam84).fam 8 heapN 25 fam25).fam 8 heapN 16 fam16).fam 8 heapN 23 fam23).fam 8 heapN 28 fam28).fam 8 heap0 87 fam87).with (baseKnown B_envC1))) (G := 8) (T := heapN) (f0 := 29) (lim := lim) (F := fam29) (args := [sl 23 0 i.xs.length i.c]) (A := A) (ids := [23]) (v' := I (chkP i.xs)) i hi rfl rfl (rowsS hA) (starts8 (by omega)) rfl rfl rfl rfl
  rw [show A ++ fam29.new i = A from List.append_nil A] at h
  exact known_gives ((Env.fam_skip rfl).trans ((Env.fam_skip rfl).trans ((kn_skip rfl).trans h)))
theorem kenvM_29_25 (i : fam29I) (hi : fam29.ok i) (lim : Nat) (A : Heap) (hA : [hget A 25] = fam29.rows i) : Gives Tryz.prog envM lim 29 [sl 25 0 i.xs.length i.c] A (I (chkP i.xs), A) := by
  have hA : hget A 25 = _ := (List.cons.inj hA).1
  have hlen := hget_lt hA
  have h := Env.fam_here (E := (((((((((envB.fam 8 heapN 20 fam20).fam 8 heapN 90 fam90).fam 8 heapN 84 fam84).fam 8 heapN 25 fam25).fam 8 heapN 16 fam16).fam 8 heapN 23 fam23).fam 8 heapN 28 fam28).fam 8 heap0 87 fam87).with (baseKnown B_envC1))) (G := 8) (T := heapN) (f0 := 29) (lim := lim) (F := fam29) (args := [sl 25 0 i.xs.length i.c]) (A := A) (ids := [25]) (v' := I (chkP i.xs)) i hi rfl rfl (rowsS hA) (starts8 (by omega)) rfl rfl rfl rfl
  rw [show A ++ fam29.new i = A from List.append_nil A] at h
  exact known_gives ((Env.fam_skip rfl).trans ((Env.fam_skip rfl).trans ((kn_skip rfl).trans h)))
theorem kenvM_29_27 (i : fam29I) (hi : fam29.ok i) (lim : Nat) (A : Heap) (hA : [hget A 27] = fam29.rows i) : Gives Tryz.prog envM lim 29 [sl 27 0 i.xs.length i.c] A (I (chkP i.xs), A) := by
  have hA : hget A 27 = _ := (List.cons.inj hA).1
  have hlen := hget_lt hA
  have h := Env.fam_here (E := (((((((((envB.fam 8 heapN 20 fam20).fam 8 heapN 90 fam90).fam 8 heapN 84 fam84).fam 8 heapN 25 fam25).fam 8 heapN 16 fam16).fam 8 heapN 23 fam23).fam 8 heapN 28 fam28).fam 8 heap0 87 fam87).with (baseKnown B_envC1))) (G := 8) (T := heapN) (f0 := 29) (lim := lim) (F := fam29) (args := [sl 27 0 i.xs.length i.c]) (A := A) (ids := [27]) (v' := I (chkP i.xs)) i hi rfl rfl (rowsS hA) (starts8 (by omega)) rfl rfl rfl rfl
  rw [show A ++ fam29.new i = A from List.append_nil A] at h
  exact known_gives ((Env.fam_skip rfl).trans ((Env.fam_skip rfl).trans ((kn_skip rfl).trans h)))
theorem kenvM_23_8 (i : fam23I) (hi : fam23.ok i) (lim : Nat) (A : Heap) (hA : [hget A 8] = fam23.rows i) : Gives Tryz.prog envM lim 23 [sl 8 0 i.xs.length i.c] A (I (fstI i.xs), A) := by
  have hA : hget A 8 = _ := (List.cons.inj hA).1
  have hlen := hget_lt hA
  have h := Env.fam_here (E := (((((envB.fam 8 heapN 20 fam20).fam 8 heapN 90 fam90).fam 8 heapN 84 fam84).fam 8 heapN 25 fam25).fam 8 heapN 16 fam16)) (G := 8) (T := heapN) (f0 := 23) (lim := lim) (F := fam23) (args := [sl 8 0 i.xs.length i.c]) (A := A) (ids := [8]) (v' := I (fstI i.xs)) i hi rfl rfl (rowsI hA) (starts8 (by omega)) rfl rfl rfl rfl
  rw [show A ++ fam23.new i = A from List.append_nil A] at h
  exact known_gives ((Env.fam_skip rfl).trans ((Env.fam_skip rfl).trans ((kn_skip rfl).trans ((Env.fam_skip rfl).trans ((kn_skip rfl).trans ((Env.fam_skip rfl).trans ((Env.fam_skip rfl).trans h)))))))
theorem kenvM_99_8 (i : fam99I) (hi : fam99.ok i) (lim : Nat) (A : Heap) (hA : [hget A 8] = fam99.rows i) : Gives Tryz.prog envM lim 99 [sl 8 0 i.xs.length i.xs.length] A (I (cplE i.xs), A) := by
  have hA : hget A 8 = _ := (List.cons.inj hA).1
  have hlen := hget_lt hA
  have h := Env.fam_here (E := (((((((((((envB.fam 8 heapN 20 fam20).fam 8 heapN 90 fam90).fam 8 heapN 84 fam84).fam 8 heapN 25 fam25).fam 8 heapN 16 fam16).fam 8 heapN 23 fam23).fam 8 heapN 28 fam28).fam 8 heap0 87 fam87).with (baseKnown B_envC1)).fam 8 heapN 29 fam29).with (baseKnown B_envM1))) (G := 8) (T := heapN) (f0 := 99) (lim := lim) (F := fam99) (args := [sl 8 0 i.xs.length i.xs.length]) (A := A) (ids := [8]) (v' := I (cplE i.xs)) i hi rfl rfl (rowsI hA) (starts8 (by omega)) rfl rfl rfl rfl
  rw [show A ++ fam99.new i = A from List.append_nil A] at h
  exact known_gives ((Env.fam_skip rfl).trans h)
/-
ArrayRepeats: rows of binomial numbers.
-/
theorem cpl0 {x y : Int} (hx : cpl50_r0 x = 0) (hy : cpl50_r0 y = 0) : fstI [0, cplE [x, y]] = 0 ∧ fstI [0, cpl50_r0 x, cpl50_r0 y] = 0 := by
  rw [cpl2_eq, hx, hy]; exact ⟨rfl, rfl⟩
/-
ArrayProducts: the program's binomial rows.
-/
theorem okI (a b g p : Int) (h : -100 ≤ a ∧ a ≤ 100 ∧ -100 ≤ b ∧ b ≤ 100 ∧ -100 ≤ g ∧ g ≤ 100 ∧ 0 ≤ p ∧ p ≤ 3) : okS ⟨a, b, g, p⟩ := h
theorem cpl11 {x : Int} (h : -11 ≤ x ∧ x ≤ 11) : cpl50_r0 x = 0 := by rw [cpl_eq]; exact if_pos (by omega)
theorem zs_1 (x y : Int) : zsR x y 0 (binR 1) = [⟨0 * x, 0 * y, 1, 0⟩] := rfl
theorem s56_1 {x y : Int} (hx : -11 ≤ x ∧ x ≤ 11) (hy : -11 ≤ y ∧ y ≤ 11) : chkR (zsR x y 0 (binR 1)) = 0 ∧ SaysAt Tryz.prog 8 56 [I 1, I x, I y] heapN (.tuple #[sl 8 0 1 1, I 0]) (heapN ++ [rS (zsR x y 0 (binR 1)) 32 .row]) := by
  have hk : chkR (zsR x y 0 (binR 1)) = 0 := chk_of (Nat.le_of_ble_eq_true rfl) (by rw [zs_1]; exact fc ⟨okI _ _ _ _ (by omega), fN⟩)
  refine ⟨hk, ?_⟩
  rw [zs_1] at hk ⊢
  have hz : ([⟨W (0 * x), W (0 * y), 1, 0⟩] : List Sr) = [⟨0 * x, 0 * y, 1, 0⟩] := by rw [show W (0 * x) = 0 * x from wS (by omega) (by omega), show W (0 * y) = 0 * y from wS (by omega) (by omega)]
  rw [← hz] at hk ⊢
  let zs : List Sr := [⟨W (0 * x), W (0 * y), 1, 0⟩]
  exact SaysAt.of_gives prog_ok envM_ok (b56_1o_p0 x y (cplE [x, y]) (fstI [0, cplE [x, y]]) (chkR zs) (fun lim A hA => kenvM_99_8 ⟨[x, y]⟩ (.inr rfl) lim A (by rw [hA]; rfl)) (fun lim A hA => kenvM_84_9 ⟨[0, cplE [x, y]], 2, 27, .row⟩ (show (2 : Nat) ≤ 1000 by decide) lim A (by rw [hA]; rfl)) (fun lim A hA => chk_eq zs ▸ kenvM_29_11 ⟨zs, 1, 32, .row⟩ (show (1 : Nat) ≤ 1000 by decide) lim A (by rw [hA]; rfl)) (by rw [(cpl0 (cpl11 hx) (cpl11 hy)).1]; rfl) (by show (chkR [⟨W (0 * x), W (0 * y), 1, 0⟩] != 0) = false; rw [hk]; rfl))
theorem zs_2 (x y : Int) : zsR x y 0 (binR 2) = [⟨0 * x, 0 * y, 1, 0⟩, ⟨1 * x, 1 * y, 1, 0⟩] := rfl
theorem s56_2 {x y : Int} (hx : -11 ≤ x ∧ x ≤ 11) (hy : -11 ≤ y ∧ y ≤ 11) : chkR (zsR x y 0 (binR 2)) = 0 ∧ SaysAt Tryz.prog 8 56 [I 2, I x, I y] heapN (.tuple #[sl 8 0 2 2, I 0]) (heapN ++ [rS (zsR x y 0 (binR 2)) 32 .row]) := by
  have hk : chkR (zsR x y 0 (binR 2)) = 0 := chk_of (Nat.le_of_ble_eq_true rfl) (by rw [zs_2]; exact fc ⟨okI _ _ _ _ (by omega), fc ⟨okI _ _ _ _ (by omega), fN⟩⟩)
  refine ⟨hk, ?_⟩
  rw [zs_2] at hk ⊢
  have hz : ([⟨W (0 * x), W (0 * y), 1, 0⟩, ⟨W (1 * x), W (1 * y), 1, 0⟩] : List Sr) = [⟨0 * x, 0 * y, 1, 0⟩, ⟨1 * x, 1 * y, 1, 0⟩] := by rw [show W (0 * x) = 0 * x from wS (by omega) (by omega), show W (0 * y) = 0 * y from wS (by omega) (by omega), show W (1 * x) = 1 * x from wS (by omega) (by omega), show W (1 * y) = 1 * y from wS (by omega) (by omega)]
  rw [← hz] at hk ⊢
  let zs : List Sr := [⟨W (0 * x), W (0 * y), 1, 0⟩, ⟨W (1 * x), W (1 * y), 1, 0⟩]
  exact SaysAt.of_gives prog_ok envM_ok (b56_2o_p0 x y (cplE [x, y]) (fstI [0, cplE [x, y]]) (chkR zs) (fun lim A hA => kenvM_99_8 ⟨[x, y]⟩ (.inr rfl) lim A (by rw [hA]; rfl)) (fun lim A hA => kenvM_84_9 ⟨[0, cplE [x, y]], 2, 27, .row⟩ (show (2 : Nat) ≤ 1000 by decide) lim A (by rw [hA]; rfl)) (fun lim A hA => chk_eq zs ▸ kenvM_29_13 ⟨zs, 2, 32, .row⟩ (show (2 : Nat) ≤ 1000 by decide) lim A (by rw [hA]; rfl)) (by rw [(cpl0 (cpl11 hx) (cpl11 hy)).1]; rfl) (by show (chkR [⟨W (0 * x), W (0 * y), 1, 0⟩, ⟨W (1 * x), W (1 * y), 1, 0⟩] != 0) = false; rw [hk]; rfl))
theorem zs_3 (x y : Int) : zsR x y 0 (binR 3) = [⟨0 * x, 0 * y, 1, 0⟩, ⟨1 * x, 1 * y, 2, 0⟩, ⟨2 * x, 2 * y, 1, 0⟩] := rfl
theorem s56_3 {x y : Int} (hx : -11 ≤ x ∧ x ≤ 11) (hy : -11 ≤ y ∧ y ≤ 11) : chkR (zsR x y 0 (binR 3)) = 0 ∧ SaysAt Tryz.prog 8 56 [I 3, I x, I y] heapN (.tuple #[sl 8 0 3 3, I 0]) (heapN ++ [rS (zsR x y 0 (binR 3)) 32 .row]) := by
  have hk : chkR (zsR x y 0 (binR 3)) = 0 := chk_of (Nat.le_of_ble_eq_true rfl) (by rw [zs_3]; exact fc ⟨okI _ _ _ _ (by omega), fc ⟨okI _ _ _ _ (by omega), fc ⟨okI _ _ _ _ (by omega), fN⟩⟩⟩)
  refine ⟨hk, ?_⟩
  rw [zs_3] at hk ⊢
  have hz : ([⟨W (0 * x), W (0 * y), 1, 0⟩, ⟨W (1 * x), W (1 * y), 2, 0⟩, ⟨W (2 * x), W (2 * y), 1, 0⟩] : List Sr) = [⟨0 * x, 0 * y, 1, 0⟩, ⟨1 * x, 1 * y, 2, 0⟩, ⟨2 * x, 2 * y, 1, 0⟩] := by rw [show W (0 * x) = 0 * x from wS (by omega) (by omega), show W (0 * y) = 0 * y from wS (by omega) (by omega), show W (1 * x) = 1 * x from wS (by omega) (by omega), show W (1 * y) = 1 * y from wS (by omega) (by omega), show W (2 * x) = 2 * x from wS (by omega) (by omega), show W (2 * y) = 2 * y from wS (by omega) (by omega)]
  rw [← hz] at hk ⊢
  let zs : List Sr := [⟨W (0 * x), W (0 * y), 1, 0⟩, ⟨W (1 * x), W (1 * y), 2, 0⟩, ⟨W (2 * x), W (2 * y), 1, 0⟩]
  exact SaysAt.of_gives prog_ok envM_ok (b56_3o_p0 x y (cplE [x, y]) (fstI [0, cplE [x, y]]) (chkR zs) (fun lim A hA => kenvM_99_8 ⟨[x, y]⟩ (.inr rfl) lim A (by rw [hA]; rfl)) (fun lim A hA => kenvM_84_9 ⟨[0, cplE [x, y]], 2, 27, .row⟩ (show (2 : Nat) ≤ 1000 by decide) lim A (by rw [hA]; rfl)) (fun lim A hA => chk_eq zs ▸ kenvM_29_15 ⟨zs, 3, 32, .row⟩ (show (3 : Nat) ≤ 1000 by decide) lim A (by rw [hA]; rfl)) (by rw [(cpl0 (cpl11 hx) (cpl11 hy)).1]; rfl) (by show (chkR [⟨W (0 * x), W (0 * y), 1, 0⟩, ⟨W (1 * x), W (1 * y), 2, 0⟩, ⟨W (2 * x), W (2 * y), 1, 0⟩] != 0) = false; rw [hk]; rfl))
theorem zs_4 (x y : Int) : zsR x y 0 (binR 4) = [⟨0 * x, 0 * y, 1, 0⟩, ⟨1 * x, 1 * y, 3, 0⟩, ⟨2 * x, 2 * y, 3, 0⟩, ⟨3 * x, 3 * y, 1, 0⟩] := rfl
theorem s56_4 {x y : Int} (hx : -11 ≤ x ∧ x ≤ 11) (hy : -11 ≤ y ∧ y ≤ 11) : chkR (zsR x y 0 (binR 4)) = 0 ∧ SaysAt Tryz.prog 8 56 [I 4, I x, I y] heapN (.tuple #[sl 8 0 4 4, I 0]) (heapN ++ [rS (zsR x y 0 (binR 4)) 32 .row]) := by
  have hk : chkR (zsR x y 0 (binR 4)) = 0 := chk_of (Nat.le_of_ble_eq_true rfl) (by rw [zs_4]; exact fc ⟨okI _ _ _ _ (by omega), fc ⟨okI _ _ _ _ (by omega), fc ⟨okI _ _ _ _ (by omega), fc ⟨okI _ _ _ _ (by omega), fN⟩⟩⟩⟩)
  refine ⟨hk, ?_⟩
  rw [zs_4] at hk ⊢
  have hz : ([⟨W (0 * x), W (0 * y), 1, 0⟩, ⟨W (1 * x), W (1 * y), 3, 0⟩, ⟨W (2 * x), W (2 * y), 3, 0⟩, ⟨W (3 * x), W (3 * y), 1, 0⟩] : List Sr) = [⟨0 * x, 0 * y, 1, 0⟩, ⟨1 * x, 1 * y, 3, 0⟩, ⟨2 * x, 2 * y, 3, 0⟩, ⟨3 * x, 3 * y, 1, 0⟩] := by rw [show W (0 * x) = 0 * x from wS (by omega) (by omega), show W (0 * y) = 0 * y from wS (by omega) (by omega), show W (1 * x) = 1 * x from wS (by omega) (by omega), show W (1 * y) = 1 * y from wS (by omega) (by omega), show W (2 * x) = 2 * x from wS (by omega) (by omega), show W (2 * y) = 2 * y from wS (by omega) (by omega), show W (3 * x) = 3 * x from wS (by omega) (by omega), show W (3 * y) = 3 * y from wS (by omega) (by omega)]
  rw [← hz] at hk ⊢
  let zs : List Sr := [⟨W (0 * x), W (0 * y), 1, 0⟩, ⟨W (1 * x), W (1 * y), 3, 0⟩, ⟨W (2 * x), W (2 * y), 3, 0⟩, ⟨W (3 * x), W (3 * y), 1, 0⟩]
  exact SaysAt.of_gives prog_ok envM_ok (b56_4o_p0 x y (cplE [x, y]) (fstI [0, cplE [x, y]]) (chkR zs) (fun lim A hA => kenvM_99_8 ⟨[x, y]⟩ (.inr rfl) lim A (by rw [hA]; rfl)) (fun lim A hA => kenvM_84_9 ⟨[0, cplE [x, y]], 2, 27, .row⟩ (show (2 : Nat) ≤ 1000 by decide) lim A (by rw [hA]; rfl)) (fun lim A hA => chk_eq zs ▸ kenvM_29_17 ⟨zs, 4, 32, .row⟩ (show (4 : Nat) ≤ 1000 by decide) lim A (by rw [hA]; rfl)) (by rw [(cpl0 (cpl11 hx) (cpl11 hy)).1]; rfl) (by show (chkR [⟨W (0 * x), W (0 * y), 1, 0⟩, ⟨W (1 * x), W (1 * y), 3, 0⟩, ⟨W (2 * x), W (2 * y), 3, 0⟩, ⟨W (3 * x), W (3 * y), 1, 0⟩] != 0) = false; rw [hk]; rfl))
theorem zs_5 (x y : Int) : zsR x y 0 (binR 5) = [⟨0 * x, 0 * y, 1, 0⟩, ⟨1 * x, 1 * y, 4, 0⟩, ⟨2 * x, 2 * y, 6, 0⟩, ⟨3 * x, 3 * y, 4, 0⟩, ⟨4 * x, 4 * y, 1, 0⟩] := rfl
theorem s56_5 {x y : Int} (hx : -11 ≤ x ∧ x ≤ 11) (hy : -11 ≤ y ∧ y ≤ 11) : chkR (zsR x y 0 (binR 5)) = 0 ∧ SaysAt Tryz.prog 8 56 [I 5, I x, I y] heapN (.tuple #[sl 8 0 5 5, I 0]) (heapN ++ [rS (zsR x y 0 (binR 5)) 32 .row]) := by
  have hk : chkR (zsR x y 0 (binR 5)) = 0 := chk_of (Nat.le_of_ble_eq_true rfl) (by rw [zs_5]; exact fc ⟨okI _ _ _ _ (by omega), fc ⟨okI _ _ _ _ (by omega), fc ⟨okI _ _ _ _ (by omega), fc ⟨okI _ _ _ _ (by omega), fc ⟨okI _ _ _ _ (by omega), fN⟩⟩⟩⟩⟩)
  refine ⟨hk, ?_⟩
  rw [zs_5] at hk ⊢
  have hz : ([⟨W (0 * x), W (0 * y), 1, 0⟩, ⟨W (1 * x), W (1 * y), 4, 0⟩, ⟨W (2 * x), W (2 * y), 6, 0⟩, ⟨W (3 * x), W (3 * y), 4, 0⟩, ⟨W (4 * x), W (4 * y), 1, 0⟩] : List Sr) = [⟨0 * x, 0 * y, 1, 0⟩, ⟨1 * x, 1 * y, 4, 0⟩, ⟨2 * x, 2 * y, 6, 0⟩, ⟨3 * x, 3 * y, 4, 0⟩, ⟨4 * x, 4 * y, 1, 0⟩] := by rw [show W (0 * x) = 0 * x from wS (by omega) (by omega), show W (0 * y) = 0 * y from wS (by omega) (by omega), show W (1 * x) = 1 * x from wS (by omega) (by omega), show W (1 * y) = 1 * y from wS (by omega) (by omega), show W (2 * x) = 2 * x from wS (by omega) (by omega), show W (2 * y) = 2 * y from wS (by omega) (by omega), show W (3 * x) = 3 * x from wS (by omega) (by omega), show W (3 * y) = 3 * y from wS (by omega) (by omega), show W (4 * x) = 4 * x from wS (by omega) (by omega), show W (4 * y) = 4 * y from wS (by omega) (by omega)]
  rw [← hz] at hk ⊢
  let zs : List Sr := [⟨W (0 * x), W (0 * y), 1, 0⟩, ⟨W (1 * x), W (1 * y), 4, 0⟩, ⟨W (2 * x), W (2 * y), 6, 0⟩, ⟨W (3 * x), W (3 * y), 4, 0⟩, ⟨W (4 * x), W (4 * y), 1, 0⟩]
  exact SaysAt.of_gives prog_ok envM_ok (b56_5o_p0 x y (cplE [x, y]) (fstI [0, cplE [x, y]]) (chkR zs) (fun lim A hA => kenvM_99_8 ⟨[x, y]⟩ (.inr rfl) lim A (by rw [hA]; rfl)) (fun lim A hA => kenvM_84_9 ⟨[0, cplE [x, y]], 2, 27, .row⟩ (show (2 : Nat) ≤ 1000 by decide) lim A (by rw [hA]; rfl)) (fun lim A hA => chk_eq zs ▸ kenvM_29_19 ⟨zs, 5, 32, .row⟩ (show (5 : Nat) ≤ 1000 by decide) lim A (by rw [hA]; rfl)) (by rw [(cpl0 (cpl11 hx) (cpl11 hy)).1]; rfl) (by show (chkR [⟨W (0 * x), W (0 * y), 1, 0⟩, ⟨W (1 * x), W (1 * y), 4, 0⟩, ⟨W (2 * x), W (2 * y), 6, 0⟩, ⟨W (3 * x), W (3 * y), 4, 0⟩, ⟨W (4 * x), W (4 * y), 1, 0⟩] != 0) = false; rw [hk]; rfl))
theorem zs_6 (x y : Int) : zsR x y 0 (binR 6) = [⟨0 * x, 0 * y, 1, 0⟩, ⟨1 * x, 1 * y, 5, 0⟩, ⟨2 * x, 2 * y, 10, 0⟩, ⟨3 * x, 3 * y, 10, 0⟩, ⟨4 * x, 4 * y, 5, 0⟩, ⟨5 * x, 5 * y, 1, 0⟩] := rfl
theorem s56_6 {x y : Int} (hx : -11 ≤ x ∧ x ≤ 11) (hy : -11 ≤ y ∧ y ≤ 11) : chkR (zsR x y 0 (binR 6)) = 0 ∧ SaysAt Tryz.prog 8 56 [I 6, I x, I y] heapN (.tuple #[sl 8 0 6 6, I 0]) (heapN ++ [rS (zsR x y 0 (binR 6)) 32 .row]) := by
  have hk : chkR (zsR x y 0 (binR 6)) = 0 := chk_of (Nat.le_of_ble_eq_true rfl) (by rw [zs_6]; exact fc ⟨okI _ _ _ _ (by omega), fc ⟨okI _ _ _ _ (by omega), fc ⟨okI _ _ _ _ (by omega), fc ⟨okI _ _ _ _ (by omega), fc ⟨okI _ _ _ _ (by omega), fc ⟨okI _ _ _ _ (by omega), fN⟩⟩⟩⟩⟩⟩)
  refine ⟨hk, ?_⟩
  rw [zs_6] at hk ⊢
  have hz : ([⟨W (0 * x), W (0 * y), 1, 0⟩, ⟨W (1 * x), W (1 * y), 5, 0⟩, ⟨W (2 * x), W (2 * y), 10, 0⟩, ⟨W (3 * x), W (3 * y), 10, 0⟩, ⟨W (4 * x), W (4 * y), 5, 0⟩, ⟨W (5 * x), W (5 * y), 1, 0⟩] : List Sr) = [⟨0 * x, 0 * y, 1, 0⟩, ⟨1 * x, 1 * y, 5, 0⟩, ⟨2 * x, 2 * y, 10, 0⟩, ⟨3 * x, 3 * y, 10, 0⟩, ⟨4 * x, 4 * y, 5, 0⟩, ⟨5 * x, 5 * y, 1, 0⟩] := by rw [show W (0 * x) = 0 * x from wS (by omega) (by omega), show W (0 * y) = 0 * y from wS (by omega) (by omega), show W (1 * x) = 1 * x from wS (by omega) (by omega), show W (1 * y) = 1 * y from wS (by omega) (by omega), show W (2 * x) = 2 * x from wS (by omega) (by omega), show W (2 * y) = 2 * y from wS (by omega) (by omega), show W (3 * x) = 3 * x from wS (by omega) (by omega), show W (3 * y) = 3 * y from wS (by omega) (by omega), show W (4 * x) = 4 * x from wS (by omega) (by omega), show W (4 * y) = 4 * y from wS (by omega) (by omega), show W (5 * x) = 5 * x from wS (by omega) (by omega), show W (5 * y) = 5 * y from wS (by omega) (by omega)]
  rw [← hz] at hk ⊢
  let zs : List Sr := [⟨W (0 * x), W (0 * y), 1, 0⟩, ⟨W (1 * x), W (1 * y), 5, 0⟩, ⟨W (2 * x), W (2 * y), 10, 0⟩, ⟨W (3 * x), W (3 * y), 10, 0⟩, ⟨W (4 * x), W (4 * y), 5, 0⟩, ⟨W (5 * x), W (5 * y), 1, 0⟩]
  exact SaysAt.of_gives prog_ok envM_ok (b56_6o_p0 x y (cplE [x, y]) (fstI [0, cplE [x, y]]) (chkR zs) (fun lim A hA => kenvM_99_8 ⟨[x, y]⟩ (.inr rfl) lim A (by rw [hA]; rfl)) (fun lim A hA => kenvM_84_9 ⟨[0, cplE [x, y]], 2, 27, .row⟩ (show (2 : Nat) ≤ 1000 by decide) lim A (by rw [hA]; rfl)) (fun lim A hA => chk_eq zs ▸ kenvM_29_21 ⟨zs, 6, 32, .row⟩ (show (6 : Nat) ≤ 1000 by decide) lim A (by rw [hA]; rfl)) (by rw [(cpl0 (cpl11 hx) (cpl11 hy)).1]; rfl) (by show (chkR [⟨W (0 * x), W (0 * y), 1, 0⟩, ⟨W (1 * x), W (1 * y), 5, 0⟩, ⟨W (2 * x), W (2 * y), 10, 0⟩, ⟨W (3 * x), W (3 * y), 10, 0⟩, ⟨W (4 * x), W (4 * y), 5, 0⟩, ⟨W (5 * x), W (5 * y), 1, 0⟩] != 0) = false; rw [hk]; rfl))
theorem zs_7 (x y : Int) : zsR x y 0 (binR 7) = [⟨0 * x, 0 * y, 1, 0⟩, ⟨1 * x, 1 * y, 6, 0⟩, ⟨2 * x, 2 * y, 15, 0⟩, ⟨3 * x, 3 * y, 20, 0⟩, ⟨4 * x, 4 * y, 15, 0⟩, ⟨5 * x, 5 * y, 6, 0⟩, ⟨6 * x, 6 * y, 1, 0⟩] := rfl
theorem s56_7 {x y : Int} (hx : -11 ≤ x ∧ x ≤ 11) (hy : -11 ≤ y ∧ y ≤ 11) : chkR (zsR x y 0 (binR 7)) = 0 ∧ SaysAt Tryz.prog 8 56 [I 7, I x, I y] heapN (.tuple #[sl 8 0 7 7, I 0]) (heapN ++ [rS (zsR x y 0 (binR 7)) 32 .row]) := by
  have hk : chkR (zsR x y 0 (binR 7)) = 0 := chk_of (Nat.le_of_ble_eq_true rfl) (by rw [zs_7]; exact fc ⟨okI _ _ _ _ (by omega), fc ⟨okI _ _ _ _ (by omega), fc ⟨okI _ _ _ _ (by omega), fc ⟨okI _ _ _ _ (by omega), fc ⟨okI _ _ _ _ (by omega), fc ⟨okI _ _ _ _ (by omega), fc ⟨okI _ _ _ _ (by omega), fN⟩⟩⟩⟩⟩⟩⟩)
  refine ⟨hk, ?_⟩
  rw [zs_7] at hk ⊢
  have hz : ([⟨W (0 * x), W (0 * y), 1, 0⟩, ⟨W (1 * x), W (1 * y), 6, 0⟩, ⟨W (2 * x), W (2 * y), 15, 0⟩, ⟨W (3 * x), W (3 * y), 20, 0⟩, ⟨W (4 * x), W (4 * y), 15, 0⟩, ⟨W (5 * x), W (5 * y), 6, 0⟩, ⟨W (6 * x), W (6 * y), 1, 0⟩] : List Sr) = [⟨0 * x, 0 * y, 1, 0⟩, ⟨1 * x, 1 * y, 6, 0⟩, ⟨2 * x, 2 * y, 15, 0⟩, ⟨3 * x, 3 * y, 20, 0⟩, ⟨4 * x, 4 * y, 15, 0⟩, ⟨5 * x, 5 * y, 6, 0⟩, ⟨6 * x, 6 * y, 1, 0⟩] := by rw [show W (0 * x) = 0 * x from wS (by omega) (by omega), show W (0 * y) = 0 * y from wS (by omega) (by omega), show W (1 * x) = 1 * x from wS (by omega) (by omega), show W (1 * y) = 1 * y from wS (by omega) (by omega), show W (2 * x) = 2 * x from wS (by omega) (by omega), show W (2 * y) = 2 * y from wS (by omega) (by omega), show W (3 * x) = 3 * x from wS (by omega) (by omega), show W (3 * y) = 3 * y from wS (by omega) (by omega), show W (4 * x) = 4 * x from wS (by omega) (by omega), show W (4 * y) = 4 * y from wS (by omega) (by omega), show W (5 * x) = 5 * x from wS (by omega) (by omega), show W (5 * y) = 5 * y from wS (by omega) (by omega), show W (6 * x) = 6 * x from wS (by omega) (by omega), show W (6 * y) = 6 * y from wS (by omega) (by omega)]
  rw [← hz] at hk ⊢
  let zs : List Sr := [⟨W (0 * x), W (0 * y), 1, 0⟩, ⟨W (1 * x), W (1 * y), 6, 0⟩, ⟨W (2 * x), W (2 * y), 15, 0⟩, ⟨W (3 * x), W (3 * y), 20, 0⟩, ⟨W (4 * x), W (4 * y), 15, 0⟩, ⟨W (5 * x), W (5 * y), 6, 0⟩, ⟨W (6 * x), W (6 * y), 1, 0⟩]
  exact SaysAt.of_gives prog_ok envM_ok (b56_7o_p0 x y (cplE [x, y]) (fstI [0, cplE [x, y]]) (chkR zs) (fun lim A hA => kenvM_99_8 ⟨[x, y]⟩ (.inr rfl) lim A (by rw [hA]; rfl)) (fun lim A hA => kenvM_84_9 ⟨[0, cplE [x, y]], 2, 27, .row⟩ (show (2 : Nat) ≤ 1000 by decide) lim A (by rw [hA]; rfl)) (fun lim A hA => chk_eq zs ▸ kenvM_29_23 ⟨zs, 7, 32, .row⟩ (show (7 : Nat) ≤ 1000 by decide) lim A (by rw [hA]; rfl)) (by rw [(cpl0 (cpl11 hx) (cpl11 hy)).1]; rfl) (by show (chkR [⟨W (0 * x), W (0 * y), 1, 0⟩, ⟨W (1 * x), W (1 * y), 6, 0⟩, ⟨W (2 * x), W (2 * y), 15, 0⟩, ⟨W (3 * x), W (3 * y), 20, 0⟩, ⟨W (4 * x), W (4 * y), 15, 0⟩, ⟨W (5 * x), W (5 * y), 6, 0⟩, ⟨W (6 * x), W (6 * y), 1, 0⟩] != 0) = false; rw [hk]; rfl))
theorem zs_8 (x y : Int) : zsR x y 0 (binR 8) = [⟨0 * x, 0 * y, 1, 0⟩, ⟨1 * x, 1 * y, 7, 0⟩, ⟨2 * x, 2 * y, 21, 0⟩, ⟨3 * x, 3 * y, 35, 0⟩, ⟨4 * x, 4 * y, 35, 0⟩, ⟨5 * x, 5 * y, 21, 0⟩, ⟨6 * x, 6 * y, 7, 0⟩, ⟨7 * x, 7 * y, 1, 0⟩] := rfl
theorem s56_8 {x y : Int} (hx : -11 ≤ x ∧ x ≤ 11) (hy : -11 ≤ y ∧ y ≤ 11) : chkR (zsR x y 0 (binR 8)) = 0 ∧ SaysAt Tryz.prog 8 56 [I 8, I x, I y] heapN (.tuple #[sl 8 0 8 8, I 0]) (heapN ++ [rS (zsR x y 0 (binR 8)) 32 .row]) := by
  have hk : chkR (zsR x y 0 (binR 8)) = 0 := chk_of (Nat.le_of_ble_eq_true rfl) (by rw [zs_8]; exact fc ⟨okI _ _ _ _ (by omega), fc ⟨okI _ _ _ _ (by omega), fc ⟨okI _ _ _ _ (by omega), fc ⟨okI _ _ _ _ (by omega), fc ⟨okI _ _ _ _ (by omega), fc ⟨okI _ _ _ _ (by omega), fc ⟨okI _ _ _ _ (by omega), fc ⟨okI _ _ _ _ (by omega), fN⟩⟩⟩⟩⟩⟩⟩⟩)
  refine ⟨hk, ?_⟩
  rw [zs_8] at hk ⊢
  have hz : ([⟨W (0 * x), W (0 * y), 1, 0⟩, ⟨W (1 * x), W (1 * y), 7, 0⟩, ⟨W (2 * x), W (2 * y), 21, 0⟩, ⟨W (3 * x), W (3 * y), 35, 0⟩, ⟨W (4 * x), W (4 * y), 35, 0⟩, ⟨W (5 * x), W (5 * y), 21, 0⟩, ⟨W (6 * x), W (6 * y), 7, 0⟩, ⟨W (7 * x), W (7 * y), 1, 0⟩] : List Sr) = [⟨0 * x, 0 * y, 1, 0⟩, ⟨1 * x, 1 * y, 7, 0⟩, ⟨2 * x, 2 * y, 21, 0⟩, ⟨3 * x, 3 * y, 35, 0⟩, ⟨4 * x, 4 * y, 35, 0⟩, ⟨5 * x, 5 * y, 21, 0⟩, ⟨6 * x, 6 * y, 7, 0⟩, ⟨7 * x, 7 * y, 1, 0⟩] := by rw [show W (0 * x) = 0 * x from wS (by omega) (by omega), show W (0 * y) = 0 * y from wS (by omega) (by omega), show W (1 * x) = 1 * x from wS (by omega) (by omega), show W (1 * y) = 1 * y from wS (by omega) (by omega), show W (2 * x) = 2 * x from wS (by omega) (by omega), show W (2 * y) = 2 * y from wS (by omega) (by omega), show W (3 * x) = 3 * x from wS (by omega) (by omega), show W (3 * y) = 3 * y from wS (by omega) (by omega), show W (4 * x) = 4 * x from wS (by omega) (by omega), show W (4 * y) = 4 * y from wS (by omega) (by omega), show W (5 * x) = 5 * x from wS (by omega) (by omega), show W (5 * y) = 5 * y from wS (by omega) (by omega), show W (6 * x) = 6 * x from wS (by omega) (by omega), show W (6 * y) = 6 * y from wS (by omega) (by omega), show W (7 * x) = 7 * x from wS (by omega) (by omega), show W (7 * y) = 7 * y from wS (by omega) (by omega)]
  rw [← hz] at hk ⊢
  let zs : List Sr := [⟨W (0 * x), W (0 * y), 1, 0⟩, ⟨W (1 * x), W (1 * y), 7, 0⟩, ⟨W (2 * x), W (2 * y), 21, 0⟩, ⟨W (3 * x), W (3 * y), 35, 0⟩, ⟨W (4 * x), W (4 * y), 35, 0⟩, ⟨W (5 * x), W (5 * y), 21, 0⟩, ⟨W (6 * x), W (6 * y), 7, 0⟩, ⟨W (7 * x), W (7 * y), 1, 0⟩]
  exact SaysAt.of_gives prog_ok envM_ok (b56_8o_p0 x y (cplE [x, y]) (fstI [0, cplE [x, y]]) (chkR zs) (fun lim A hA => kenvM_99_8 ⟨[x, y]⟩ (.inr rfl) lim A (by rw [hA]; rfl)) (fun lim A hA => kenvM_84_9 ⟨[0, cplE [x, y]], 2, 27, .row⟩ (show (2 : Nat) ≤ 1000 by decide) lim A (by rw [hA]; rfl)) (fun lim A hA => chk_eq zs ▸ kenvM_29_25 ⟨zs, 8, 32, .row⟩ (show (8 : Nat) ≤ 1000 by decide) lim A (by rw [hA]; rfl)) (by rw [(cpl0 (cpl11 hx) (cpl11 hy)).1]; rfl) (by show (chkR [⟨W (0 * x), W (0 * y), 1, 0⟩, ⟨W (1 * x), W (1 * y), 7, 0⟩, ⟨W (2 * x), W (2 * y), 21, 0⟩, ⟨W (3 * x), W (3 * y), 35, 0⟩, ⟨W (4 * x), W (4 * y), 35, 0⟩, ⟨W (5 * x), W (5 * y), 21, 0⟩, ⟨W (6 * x), W (6 * y), 7, 0⟩, ⟨W (7 * x), W (7 * y), 1, 0⟩] != 0) = false; rw [hk]; rfl))
theorem zs_9 (x y : Int) : zsR x y 0 (binR 9) = [⟨0 * x, 0 * y, 1, 0⟩, ⟨1 * x, 1 * y, 8, 0⟩, ⟨2 * x, 2 * y, 28, 0⟩, ⟨3 * x, 3 * y, 56, 0⟩, ⟨4 * x, 4 * y, 70, 0⟩, ⟨5 * x, 5 * y, 56, 0⟩, ⟨6 * x, 6 * y, 28, 0⟩, ⟨7 * x, 7 * y, 8, 0⟩, ⟨8 * x, 8 * y, 1, 0⟩] := rfl
theorem s56_9 {x y : Int} (hx : -11 ≤ x ∧ x ≤ 11) (hy : -11 ≤ y ∧ y ≤ 11) : chkR (zsR x y 0 (binR 9)) = 0 ∧ SaysAt Tryz.prog 8 56 [I 9, I x, I y] heapN (.tuple #[sl 8 0 9 9, I 0]) (heapN ++ [rS (zsR x y 0 (binR 9)) 32 .row]) := by
  have hk : chkR (zsR x y 0 (binR 9)) = 0 := chk_of (Nat.le_of_ble_eq_true rfl) (by rw [zs_9]; exact fc ⟨okI _ _ _ _ (by omega), fc ⟨okI _ _ _ _ (by omega), fc ⟨okI _ _ _ _ (by omega), fc ⟨okI _ _ _ _ (by omega), fc ⟨okI _ _ _ _ (by omega), fc ⟨okI _ _ _ _ (by omega), fc ⟨okI _ _ _ _ (by omega), fc ⟨okI _ _ _ _ (by omega), fc ⟨okI _ _ _ _ (by omega), fN⟩⟩⟩⟩⟩⟩⟩⟩⟩)
  refine ⟨hk, ?_⟩
  rw [zs_9] at hk ⊢
  have hz : ([⟨W (0 * x), W (0 * y), 1, 0⟩, ⟨W (1 * x), W (1 * y), 8, 0⟩, ⟨W (2 * x), W (2 * y), 28, 0⟩, ⟨W (3 * x), W (3 * y), 56, 0⟩, ⟨W (4 * x), W (4 * y), 70, 0⟩, ⟨W (5 * x), W (5 * y), 56, 0⟩, ⟨W (6 * x), W (6 * y), 28, 0⟩, ⟨W (7 * x), W (7 * y), 8, 0⟩, ⟨W (8 * x), W (8 * y), 1, 0⟩] : List Sr) = [⟨0 * x, 0 * y, 1, 0⟩, ⟨1 * x, 1 * y, 8, 0⟩, ⟨2 * x, 2 * y, 28, 0⟩, ⟨3 * x, 3 * y, 56, 0⟩, ⟨4 * x, 4 * y, 70, 0⟩, ⟨5 * x, 5 * y, 56, 0⟩, ⟨6 * x, 6 * y, 28, 0⟩, ⟨7 * x, 7 * y, 8, 0⟩, ⟨8 * x, 8 * y, 1, 0⟩] := by rw [show W (0 * x) = 0 * x from wS (by omega) (by omega), show W (0 * y) = 0 * y from wS (by omega) (by omega), show W (1 * x) = 1 * x from wS (by omega) (by omega), show W (1 * y) = 1 * y from wS (by omega) (by omega), show W (2 * x) = 2 * x from wS (by omega) (by omega), show W (2 * y) = 2 * y from wS (by omega) (by omega), show W (3 * x) = 3 * x from wS (by omega) (by omega), show W (3 * y) = 3 * y from wS (by omega) (by omega), show W (4 * x) = 4 * x from wS (by omega) (by omega), show W (4 * y) = 4 * y from wS (by omega) (by omega), show W (5 * x) = 5 * x from wS (by omega) (by omega), show W (5 * y) = 5 * y from wS (by omega) (by omega), show W (6 * x) = 6 * x from wS (by omega) (by omega), show W (6 * y) = 6 * y from wS (by omega) (by omega), show W (7 * x) = 7 * x from wS (by omega) (by omega), show W (7 * y) = 7 * y from wS (by omega) (by omega), show W (8 * x) = 8 * x from wS (by omega) (by omega), show W (8 * y) = 8 * y from wS (by omega) (by omega)]
  rw [← hz] at hk ⊢
  let zs : List Sr := [⟨W (0 * x), W (0 * y), 1, 0⟩, ⟨W (1 * x), W (1 * y), 8, 0⟩, ⟨W (2 * x), W (2 * y), 28, 0⟩, ⟨W (3 * x), W (3 * y), 56, 0⟩, ⟨W (4 * x), W (4 * y), 70, 0⟩, ⟨W (5 * x), W (5 * y), 56, 0⟩, ⟨W (6 * x), W (6 * y), 28, 0⟩, ⟨W (7 * x), W (7 * y), 8, 0⟩, ⟨W (8 * x), W (8 * y), 1, 0⟩]
  exact SaysAt.of_gives prog_ok envM_ok (b56_9o_p0 x y (cplE [x, y]) (fstI [0, cplE [x, y]]) (chkR zs) (fun lim A hA => kenvM_99_8 ⟨[x, y]⟩ (.inr rfl) lim A (by rw [hA]; rfl)) (fun lim A hA => kenvM_84_9 ⟨[0, cplE [x, y]], 2, 27, .row⟩ (show (2 : Nat) ≤ 1000 by decide) lim A (by rw [hA]; rfl)) (fun lim A hA => chk_eq zs ▸ kenvM_29_27 ⟨zs, 9, 32, .row⟩ (show (9 : Nat) ≤ 1000 by decide) lim A (by rw [hA]; rfl)) (by rw [(cpl0 (cpl11 hx) (cpl11 hy)).1]; rfl) (by show (chkR [⟨W (0 * x), W (0 * y), 1, 0⟩, ⟨W (1 * x), W (1 * y), 8, 0⟩, ⟨W (2 * x), W (2 * y), 28, 0⟩, ⟨W (3 * x), W (3 * y), 56, 0⟩, ⟨W (4 * x), W (4 * y), 70, 0⟩, ⟨W (5 * x), W (5 * y), 56, 0⟩, ⟨W (6 * x), W (6 * y), 28, 0⟩, ⟨W (7 * x), W (7 * y), 8, 0⟩, ⟨W (8 * x), W (8 * y), 1, 0⟩] != 0) = false; rw [hk]; rfl))
theorem s56_at {x y : Int} (hx : -11 ≤ x ∧ x ≤ 11) (hy : -11 ≤ y ∧ y ≤ 11) {m : Nat} (h1 : 1 ≤ m) (h9 : m ≤ 9) : chkR (zsR x y 0 (binR m)) = 0 ∧ (zsR x y 0 (binR m)).length = m ∧ ∀ A p, startsB heap0 A = true → A.length = p → SaysAt Tryz.prog 8 56 [I (m : Int), I x, I y] A (.tuple #[sl p 0 m m, I 0]) (A ++ [rS (zsR x y 0 (binR m)) 32 .row]) := by
  have go : ∀ m : Nat, (chkR (zsR x y 0 (binR m)) = 0 ∧ SaysAt Tryz.prog 8 56 [I (m : Int), I x, I y] heapN (.tuple #[sl 8 0 m m, I 0]) (heapN ++ [rS (zsR x y 0 (binR m)) 32 .row])) → (zsR x y 0 (binR m)).length = m → chkR (zsR x y 0 (binR m)) = 0 ∧ (zsR x y 0 (binR m)).length = m ∧ ∀ A p, startsB heap0 A = true → A.length = p → SaysAt Tryz.prog 8 56 [I (m : Int), I x, I y] A (.tuple #[sl p 0 m m, I 0]) (A ++ [rS (zsR x y 0 (binR m)) 32 .row]) := fun m h hl =>
    ⟨h.1, hl, fun A p h0 hp => SaysAt.rows (T := heapN) (R0 := []) (R1 := [rS (zsR x y 0 (binR m)) 32 .row]) [] h.2 rfl rfl (sN h0) rfl rfl rfl rfl (plainS _ _ _) (by rw [hp]; rfl)⟩
  rcases (show m = 1 ∨ m = 2 ∨ m = 3 ∨ m = 4 ∨ m = 5 ∨ m = 6 ∨ m = 7 ∨ m = 8 ∨ m = 9 by omega) with rfl | rfl | rfl | rfl | rfl | rfl | rfl | rfl | rfl
  · exact go 1 (s56_1 hx hy) rfl
  · exact go 2 (s56_2 hx hy) rfl
  · exact go 3 (s56_3 hx hy) rfl
  · exact go 4 (s56_4 hx hy) rfl
  · exact go 5 (s56_5 hx hy) rfl
  · exact go 6 (s56_6 hx hy) rfl
  · exact go 7 (s56_7 hx hy) rfl
  · exact go 8 (s56_8 hx hy) rfl
  · exact go 9 (s56_9 hx hy) rfl
/-
ArrayProducts: the comparisons, and what happens to arguments.
-/
theorem mul2000 {a b : Int} (ha : -2000 ≤ a ∧ a ≤ 2000) (hb : -2000 ≤ b ∧ b ≤ 2000) : -4000000 ≤ a * b ∧ a * b ≤ 4000000 := by
  have e1 : 0 ≤ (2000 - a) * (2000 + b) := Int.mul_nonneg (by omega) (by omega)
  have e2 : 0 ≤ (2000 + a) * (2000 - b) := Int.mul_nonneg (by omega) (by omega)
  have e3 : 0 ≤ (2000 - a) * (2000 - b) := Int.mul_nonneg (by omega) (by omega)
  have e4 : 0 ≤ (2000 + a) * (2000 + b) := Int.mul_nonneg (by omega) (by omega)
  constructor <;> grind
/-- A comparison with a product that holds. -/
theorem qOK {z0 z1 x0 x1 y0 y1 : Int} (h : z0 = x0 * y0 - x1 * y1 ∧ z1 = x0 * y1 + x1 * y0) (bx : (-2000 ≤ x0 ∧ x0 ≤ 2000) ∧ (-2000 ≤ x1 ∧ x1 ≤ 2000)) (bY : (-2000 ≤ y0 ∧ y0 ≤ 2000) ∧ (-2000 ≤ y1 ∧ y1 ≤ 2000)) :
    (!(z0 == W (W (x0 * y0) - W (x1 * y1)) && (z1 == W (W (x0 * y1) + W (x1 * y0)) && true))) = false := by
  obtain ⟨rfl, rfl⟩ := h
  have m1 := mul2000 bx.1 bY.1
  have m2 := mul2000 bx.2 bY.2
  have m3 := mul2000 bx.1 bY.2
  have m4 := mul2000 bx.2 bY.1
  rw [show W (x0 * y0) = x0 * y0 from wSmall (by omega) (by omega), show W (x1 * y1) = x1 * y1 from wSmall (by omega) (by omega), show W (x0 * y1) = x0 * y1 from wSmall (by omega) (by omega), show W (x1 * y0) = x1 * y0 from wSmall (by omega) (by omega), show W (x0 * y0 - x1 * y1) = x0 * y0 - x1 * y1 from wSmall (by omega) (by omega), show W (x0 * y1 + x1 * y0) = x0 * y1 + x1 * y0 from wSmall (by omega) (by omega)]
  simp
theorem pg_b {xs : List Sr} {d : Int} (h : chkR xs = 0) (hd : okD d = true) : (-2000 ≤ pgX xs d ∧ pgX xs d ≤ 2000) ∧ (-2000 ≤ pgY xs d ∧ pgY xs d ≤ 2000) := by
  obtain ⟨h1, h2⟩ := pg_sum h hd
  have hb := sum_b (dX d) (dY d) xs fun s hs => by
    have := okS_mem h s hs
    exact ⟨this.2.2.2.2.1, this.2.2.2.2.2.1⟩
  have := chk16 h
  rw [h1, h2]
  omega
/-- The pattern of a repetition, as it is compared. -/
theorem q_rep {xs ys : List Sr} (hx : chkR xs = 0) (hy : chkR ys = 0) (hz : chkR (reL reP xs ys xs.length) = 0) (d : Int) (hd : okD d = true) :
    (!(pgX (reL reP xs ys xs.length) d == W (W (pgX xs d * pgX ys d) - W (pgY xs d * pgY ys d)) && (pgY (reL reP xs ys xs.length) d == W (W (pgX xs d * pgY ys d) + W (pgY xs d * pgX ys d)) && true))) = false :=
  qOK (pg_mul hx hy hz hd) (pg_b hx hd) (pg_b hy hd)
/-- The pattern of a binomial row, as it is compared. -/
theorem q_bin {x y : Int} (hx : -11 ≤ x ∧ x ≤ 11) (hy : -11 ≤ y ∧ y ≤ 11) {m : Nat} (h1 : 1 ≤ m) (h8 : m ≤ 8) (d : Int) (hd : okD d = true) :
    (!(pgX (zsR x y 0 (binR (m + 1))) d == W (W (pgX (zsR x y 0 (binR m)) d * pgX (zsR x y 0 (binR 2)) d) - W (pgY (zsR x y 0 (binR m)) d * pgY (zsR x y 0 (binR 2)) d)) && (pgY (zsR x y 0 (binR (m + 1))) d == W (W (pgX (zsR x y 0 (binR m)) d * pgY (zsR x y 0 (binR 2)) d) + W (pgY (zsR x y 0 (binR m)) d * pgX (zsR x y 0 (binR 2)) d)) && true))) = false := by
  have k1 := (s56_at hx hy (m := m + 1) (by omega) (by omega)).1
  have k2 := (s56_at hx hy (m := m) h1 (by omega)).1
  have k3 := (s56_at hx hy (m := 2) (by omega) (by omega)).1
  refine qOK ?_ (pg_b k2 hd) (pg_b k3 hd)
  obtain ⟨a1, a2⟩ := pg_sum k1 hd
  obtain ⟨b1, b2⟩ := pg_sum k2 hd
  obtain ⟨c1, c2⟩ := pg_sum k3 hd
  rw [a1, a2, b1, b2, c1, c2]
  exact sum_bin _ _ x y m h1 h8
/-- Copies at any place. -/
theorem own_at {r : Nat} (hr : 8 ≤ r) (xs : List Sr) (c e : Nat) (u : Use) (hb : xs.length ≤ 1000) {A : Heap} {p : Nat} (h0 : startsB heap0 A = true) (hA : hget A r = rS xs e u) (hl : A.length = p) : SaysAt Tryz.prog 8 20 [.slice (some ⟨r, 0, none⟩) xs.length c] A (svA p xs.length) (A ++ [rwA 32 xs.length (srs xs)]) := by
  cases xs with
  | nil =>
    have h2 : SaysAt Tryz.prog 8 20 [.slice (some ⟨r, 0, none⟩) 0 c] A (.slice none 0 0) (A ++ []) :=
      SaysAt.rows (T := heap0) (R0 := [some (.cells [] e u)]) (R1 := []) [r] (SaysAt.of_gives prog_ok envB_ok (e20_p0 c (some (.cells [] e u)))) rfl rfl h0 (by simp [hr]) rfl (rows0 hA) (args1 hr) rfl rfl
    rw [List.append_nil] at h2
    exact h2.addNone
  | cons z l =>
    exact SaysAt.rows (T := heapN) (R0 := [rS (z :: l) e u]) (R1 := [rS (z :: l) 32 .row]) [r] (ow_says (z :: l) c e u hb (by simp)) rfl rfl (sN h0) (by simp [hr]) rfl (rowsS hA) (args1 hr) (plainS _ _ _) (by rw [hl]; rfl)
/-- A copy of a list that is there. -/
theorem app_emp37 {lim r k : Nat} {A : Heap} {c e : Nat} {u : Use} {xs : List Sr} (hk : hget A k = some (.cells [] 32 .emp)) (hr : hget A r = some (.cells (srs xs) e u)) (h1 : 1 ≤ xs.length) (hb : xs.length ≤ 1000) :
    aAppend Tryz.prog lim #[37, 37] (.slice (some ⟨k, 0, none⟩) 0 0) (.slice (some ⟨r, 0, none⟩) xs.length c) A = some (.slice (some ⟨A.length, 0, none⟩) xs.length xs.length, A ++ [rS xs 32 .row]) := by
  obtain ⟨ti, h, hs, hz, hby⟩ := info_of i32'
  obtain ⟨m, hm⟩ : ∃ m, xs.length = m + 1 := ⟨xs.length - 1, by omega⟩
  have hc : aCellsOf 4 (.slice (some ⟨r, 0, none⟩) xs.length c) A = some (m + 1, srs xs) := by
    simp only [aCellsOf, hr, srs_len, Nat.zero_add, Nat.le_refl, if_true, List.drop_zero]
    rw [List.take_of_length_le (by rw [srs_len]; exact Nat.le_refl _), hm]
  simp only [aAppend, List.getElem?_toArray, List.getElem?_cons_zero, List.getElem?_cons_succ, u37, h, hz, hs, hby, aSource, if_true]
  rw [hc]
  simp only [srs_one', hk, if_true]
  rw [if_pos (by exact ⟨rfl, rfl, rfl⟩), if_pos (by refine ⟨trivial, by decide, trivial, by omega, by omega⟩), hm]
/-
ArrayProducts: not asked.
-/
theorem apW1_p0 (L : List CallC) (n0 n1 n2 nl ml k1 k2 : Int) (vL vB : Value) (r8 r9 : Option ARow) (hl1 : aLen Tryz.prog #[22] vL = some (I nl)) (g1 : decide (nl > 4) = true) : Gives Tryz.prog (envM.calls [20, 25, 32, 55, 56, 76, 77] L) 0 12 [vL, vB, .agg #[.int .u8 n0, .int .u8 n1, .int .u8 n2]] (H [r8, r9]) ((.bool true), (H [r8, r9])) :=
  Gives.by (n := 1000) (os := [.opw 12 43 (I nl) (H [r8, r9, (.some (.cells [(.int .u8 n0), (.int .u8 n1), (.int .u8 n2)] 126 .var))]), .br 12 92 true, .br 12 92 true, .br 12 92 true, .br 12 101 true]) (os' := []) (by kernel_rfl) (ObsOK.sl (A := (H [r8, r9, (.some (.cells [(.int .u8 n0), (.int .u8 n1), (.int .u8 n2)] 126 .var))])) hl1 (ObsOK.cond g1 (ObsOK.cond g1 (ObsOK.cond g1 (ObsOK.cond g1 (ObsOK.nil))))))
theorem apW2_p0 (L : List CallC) (n0 n1 n2 nl ml k1 k2 : Int) (vL vB : Value) (r8 r9 : Option ARow) (hl1 : aLen Tryz.prog #[22] vL = some (I nl)) (g1 : decide (nl > 4) = false) (hl2 : aLen Tryz.prog #[22] vB = some (I ml)) (g2 : decide (ml > 4) = true) : Gives Tryz.prog (envM.calls [20, 25, 32, 55, 56, 76, 77] L) 0 12 [vL, vB, .agg #[.int .u8 n0, .int .u8 n1, .int .u8 n2]] (H [r8, r9]) ((.bool true), (H [r8, r9])) :=
  Gives.by (n := 1000) (os := [.opw 12 43 (I nl) (H [r8, r9, (.some (.cells [(.int .u8 n0), (.int .u8 n1), (.int .u8 n2)] 126 .var))]), .br 12 92 false, .br 12 92 false, .opw 12 48 (I ml) (H [r8, r9, (.some (.cells [(.int .u8 n0), (.int .u8 n1), (.int .u8 n2)] 126 .var))]), .br 12 92 false, .br 12 101 false, .br 12 102 true, .br 12 102 true, .br 12 102 true, .br 12 111 true]) (os' := []) (by kernel_rfl) (ObsOK.sl (A := (H [r8, r9, (.some (.cells [(.int .u8 n0), (.int .u8 n1), (.int .u8 n2)] 126 .var))])) hl1 (ObsOK.cond g1 (ObsOK.cond g1 (ObsOK.sl (A := (H [r8, r9, (.some (.cells [(.int .u8 n0), (.int .u8 n1), (.int .u8 n2)] 126 .var))])) hl2 (ObsOK.cond g1 (ObsOK.cond g1 (ObsOK.cond g2 (ObsOK.cond g2 (ObsOK.cond g2 (ObsOK.cond g2 (ObsOK.nil)))))))))))
theorem apW3_p0 (L : List CallC) (n0 n1 n2 nl ml k1 k2 : Int) (vL vB : Value) (r8 r9 : Option ARow) (hl1 : aLen Tryz.prog #[22] vL = some (I nl)) (g1 : decide (nl > 4) = false) (hl2 : aLen Tryz.prog #[22] vB = some (I ml)) (g2 : decide (ml > 4) = false) (h25a : ∀ (lim : Nat) (A : Heap), A = (H [r8, r9, some (.cells [.int .u8 n0, .int .u8 n1, .int .u8 n2] 126 .var)]) → Gives Tryz.prog (envM.calls [20, 25, 32, 55, 56, 76, 77] L) lim 25 [vL] A (I k1, A)) (f1 : (k1 != 0) = true) : Gives Tryz.prog (envM.calls [20, 25, 32, 55, 56, 76, 77] L) 0 12 [vL, vB, .agg #[.int .u8 n0, .int .u8 n1, .int .u8 n2]] (H [r8, r9]) ((.bool true), (H [r8, r9])) :=
  Gives.by (n := 1000) (os := [.opw 12 43 (I nl) (H [r8, r9, (.some (.cells [(.int .u8 n0), (.int .u8 n1), (.int .u8 n2)] 126 .var))]), .br 12 92 false, .br 12 92 false, .opw 12 48 (I ml) (H [r8, r9, (.some (.cells [(.int .u8 n0), (.int .u8 n1), (.int .u8 n2)] 126 .var))]), .br 12 92 false, .br 12 101 false, .br 12 102 false, .br 12 102 false, .opw 12 53 (I k1) (H [r8, r9, (.some (.cells [(.int .u8 n0), (.int .u8 n1), (.int .u8 n2)] 126 .var))]), .br 12 102 false, .br 12 111 false, .br 12 112 true, .br 12 112 true, .br 12 112 true, .br 12 121 true]) (os' := []) (by kernel_rfl) (ObsOK.sl (A := (H [r8, r9, (.some (.cells [(.int .u8 n0), (.int .u8 n1), (.int .u8 n2)] 126 .var))])) hl1 (ObsOK.cond g1 (ObsOK.cond g1 (ObsOK.sl (A := (H [r8, r9, (.some (.cells [(.int .u8 n0), (.int .u8 n1), (.int .u8 n2)] 126 .var))])) hl2 (ObsOK.cond g1 (ObsOK.cond g1 (ObsOK.cond g2 (ObsOK.cond g2 (ObsOK.call (h25a 10 (H [r8, r9, (.some (.cells [(.int .u8 n0), (.int .u8 n1), (.int .u8 n2)] 126 .var))]) (by kernel_rfl)) (ObsOK.cond g2 (ObsOK.cond g2 (ObsOK.cond f1 (ObsOK.cond f1 (ObsOK.cond f1 (ObsOK.cond f1 (ObsOK.nil))))))))))))))))
theorem apW4_p0 (L : List CallC) (n0 n1 n2 nl ml k1 k2 : Int) (vL vB : Value) (r8 r9 : Option ARow) (hl1 : aLen Tryz.prog #[22] vL = some (I nl)) (g1 : decide (nl > 4) = false) (hl2 : aLen Tryz.prog #[22] vB = some (I ml)) (g2 : decide (ml > 4) = false) (h25a : ∀ (lim : Nat) (A : Heap), A = (H [r8, r9, some (.cells [.int .u8 n0, .int .u8 n1, .int .u8 n2] 126 .var)]) → Gives Tryz.prog (envM.calls [20, 25, 32, 55, 56, 76, 77] L) lim 25 [vL] A (I 0, A)) (h25b : ∀ (lim : Nat) (A : Heap), A = (H [r8, r9, some (.cells [.int .u8 n0, .int .u8 n1, .int .u8 n2] 126 .var)]) → Gives Tryz.prog (envM.calls [20, 25, 32, 55, 56, 76, 77] L) lim 25 [vB] A (I k2, A)) (f1 : (k2 != 0) = true) : Gives Tryz.prog (envM.calls [20, 25, 32, 55, 56, 76, 77] L) 0 12 [vL, vB, .agg #[.int .u8 n0, .int .u8 n1, .int .u8 n2]] (H [r8, r9]) ((.bool true), (H [r8, r9])) :=
  Gives.by (n := 1000) (os := [.opw 12 43 (I nl) (H [r8, r9, (.some (.cells [(.int .u8 n0), (.int .u8 n1), (.int .u8 n2)] 126 .var))]), .br 12 92 false, .br 12 92 false, .opw 12 48 (I ml) (H [r8, r9, (.some (.cells [(.int .u8 n0), (.int .u8 n1), (.int .u8 n2)] 126 .var))]), .br 12 92 false, .br 12 101 false, .br 12 102 false, .br 12 102 false, .opw 12 53 (I 0) (H [r8, r9, (.some (.cells [(.int .u8 n0), (.int .u8 n1), (.int .u8 n2)] 126 .var))]), .br 12 102 false, .br 12 111 false, .opw 12 58 (I k2) (H [r8, r9, (.some (.cells [(.int .u8 n0), (.int .u8 n1), (.int .u8 n2)] 126 .var))]), .br 12 120 true]) (os' := []) (by kernel_rfl) (ObsOK.sl (A := (H [r8, r9, (.some (.cells [(.int .u8 n0), (.int .u8 n1), (.int .u8 n2)] 126 .var))])) hl1 (ObsOK.cond g1 (ObsOK.cond g1 (ObsOK.sl (A := (H [r8, r9, (.some (.cells [(.int .u8 n0), (.int .u8 n1), (.int .u8 n2)] 126 .var))])) hl2 (ObsOK.cond g1 (ObsOK.cond g1 (ObsOK.cond g2 (ObsOK.cond g2 (ObsOK.call (h25a 10 (H [r8, r9, (.some (.cells [(.int .u8 n0), (.int .u8 n1), (.int .u8 n2)] 126 .var))]) (by kernel_rfl)) (ObsOK.cond g2 (ObsOK.cond g2 (ObsOK.call (h25b 10 (H [r8, r9, (.some (.cells [(.int .u8 n0), (.int .u8 n1), (.int .u8 n2)] 126 .var))]) (by kernel_rfl)) (ObsOK.cond f1 (ObsOK.nil))))))))))))))
/-
ArrayProducts: without sources.
-/
theorem pat32n_p0  : Gives Tryz.prog envB 0 32 [.slice none 0 0] heap0 ((.tuple #[(.agg #[(I 0), (I 0), (I 0), (I 0), (I 0), (I 0), (I 0), (I 0), (I 0), (I 0), (I 0), (I 0), (I 0), (I 0), (I 0), (I 0)]), (I 0)]), heap0) :=
  Gives.by (n := 1000) (os := []) (os' := []) (by kernel_rfl) (ObsOK.nil)
theorem n77_p0  : Gives Tryz.prog envB 0 77 [.slice none 0 0] heap0 ((.slice .none 0 0), heap0) :=
  Gives.by (n := 1000) (os := []) (os' := []) (by kernel_rfl) (ObsOK.nil)
theorem n76n_p0  : Gives Tryz.prog envB 0 76 [.slice none 0 0, .slice none 0 0] heap0 ((.bool true), heap0) :=
  Gives.by (n := 1000) (os := []) (os' := []) (by kernel_rfl) (ObsOK.nil)
theorem n76e_p0 (c : Nat) (r8 : Option ARow) : Gives Tryz.prog envB 0 76 [.slice none 0 0, sl 8 0 0 c] (H [r8]) ((.bool true), (H [r8])) :=
  Gives.by (n := 1000) (os := []) (os' := []) (by kernel_rfl) (ObsOK.nil)
/-
ArrayProducts: the law from its parts.
-/
theorem s55_ok {i j p : Nat} (hi : 8 ≤ i) (hj : 8 ≤ j) (hne : i ≠ j) {xs ys : List Sr} (kx : chkR xs = 0) (ky : chkR ys = 0) (hz : chkR (reL reP xs ys xs.length) = 0) (A : Heap) (h0 : startsB heap0 A = true) (h1 : hget A i = rwA 32 xs.length (srs xs)) (h2 : hget A j = rwA 32 ys.length (srs ys)) (hl : A.length = p) :
    SaysAt Tryz.prog 8 55 [svA i xs.length, svA j ys.length] A (.tuple #[svA p (reL reP xs ys xs.length).length, I 0]) (A ++ [rwA 32 (reL reP xs ys xs.length).length (srs (reL reP xs ys xs.length))]) := by
  have h := s55_at hi hj hne xs ys (chk16 kx) (chk16 ky) (by rw [kx, ky]; rfl) A h0 h1 h2 hl
  simpa only [reV, reW, hz, bne_self_eq_false, Bool.false_eq_true, if_false] using h
theorem s55_bad {i j p : Nat} (hi : 8 ≤ i) (hj : 8 ≤ j) (hne : i ≠ j) {xs ys : List Sr} (kx : chkR xs = 0) (ky : chkR ys = 0) (hz : chkR (reL reP xs ys xs.length) = 3) (A : Heap) (h0 : startsB heap0 A = true) (h1 : hget A i = rwA 32 xs.length (srs xs)) (h2 : hget A j = rwA 32 ys.length (srs ys)) (hl : A.length = p) :
    SaysAt Tryz.prog 8 55 [svA i xs.length, svA j ys.length] A (.tuple #[.slice none 0 0, I 3]) (A ++ [none]) := by
  have h := s55_at hi hj hne xs ys (chk16 kx) (chk16 ky) (by rw [kx, ky]; rfl) A h0 h1 h2 hl
  have e : ((3 : Int) != 0) = true := rfl
  simpa only [reV, reW, hz, e, if_true] using h
theorem s32_sv {i : Nat} (hi : 8 ≤ i) {xs : List Sr} (kx : chkR xs = 0) (A : Heap) (h0 : startsB heap0 A = true) (h1 : hget A i = rwA 32 xs.length (srs xs)) : SaysAt Tryz.prog 8 32 [svA i xs.length] A (.tuple #[gA (patF xs), I 0]) (A ++ []) := by
  have hl := chk16 kx
  cases xs with
  | nil => exact SaysAt.rows (T := heap0) (R0 := []) (R1 := []) [] (SaysAt.of_gives prog_ok envB_ok pat32n_p0) rfl rfl h0 rfl rfl rfl rfl rfl rfl
  | cons z l => exact s32_at hi (z :: l) (l.length + 1) 32 .row (by omega) kx A h0 h1
theorem to_at {i p : Nat} (hi : 8 ≤ i) (xs : List Sr) (hb : xs.length ≤ 1000) (A : Heap) (h0 : startsB heap0 A = true) (h1 : hget A i = rwA 32 xs.length (srs xs)) (hl : A.length = p) : SaysAt Tryz.prog 8 77 [svA i xs.length] A (svA p xs.length) (A ++ [rwA 24 xs.length (srs xs)]) := by
  cases xs with
  | nil =>
    have h2 := SaysAt.rows (T := heap0) (R0 := []) (R1 := []) (A := A) (args := [.slice none 0 0]) (v := .slice none 0 0) [] (SaysAt.of_gives prog_ok envB_ok n77_p0) rfl rfl h0 rfl rfl rfl rfl rfl rfl
    rw [List.append_nil] at h2
    exact h2.addNone
  | cons z l => exact SaysAt.rows (T := heapN) (R0 := [rS (z :: l) 32 .row]) (R1 := [rS (z :: l) 24 .row]) [i] (to_says (z :: l) (l.length + 1) 32 .row hb (by simp)) rfl rfl (sN h0) (by simp [hi]) rfl (rowsS h1) (args1 hi) (plainS _ _ _) (by rw [hl]; rfl)
theorem gA_comm {xs ys : List Sr} (kx : chkR xs = 0) (ky : chkR ys = 0) (hz : chkR (reL reP xs ys xs.length) = 0) (hw : chkR (reL reP ys xs ys.length) = 0) : gA (patF (reL reP ys xs ys.length)) = gA (patF (reL reP xs ys xs.length)) := by
  have c : ∀ d : Int, okD d = true → pgX (reL reP ys xs ys.length) d = pgX (reL reP xs ys xs.length) d ∧ pgY (reL reP ys xs ys.length) d = pgY (reL reP xs ys xs.length) d := fun d hd => pg_comm ky kx hw hz hd
  have hX : ∀ k, k < 16 → patF (reL reP ys xs ys.length) k = patF (reL reP xs ys xs.length) k := fun k hk => by
    have hd : okD ((k / 2 : Nat) : Int) = true := by unfold okD; simp; omega
    unfold patF
    rw [(c _ hd).1, (c _ hd).2]
  unfold gA
  rw [hX 0 (by omega), hX 1 (by omega), hX 2 (by omega), hX 3 (by omega), hX 4 (by omega), hX 5 (by omega), hX 6 (by omega), hX 7 (by omega), hX 8 (by omega), hX 9 (by omega), hX 10 (by omega), hX 11 (by omega), hX 12 (by omega), hX 13 (by omega), hX 14 (by omega), hX 15 (by omega)]
theorem chk_one : chkR [⟨0, 0, 1, 0⟩] = 0 := chk_of (by decide) (fc ⟨okI _ _ _ _ (by decide), fN⟩)
def fsP : List FuncId := [20, 25, 32, 55, 56, 76, 77]
theorem pA {L : List CallC} (one : ∀ c ∈ L, ∀ d ∈ L, c.f = d.f → c.args = d.args → c.A = d.A → c.v = d.v ∧ c.R = d.R) (i : Nat) {f : FuncId} {args : List Value} {X : Heap} {v : Value} {t : Option ARow} (h : L[i]? = some ⟨f, args, X, v, [t]⟩) (hf : fsP.contains f = true := by rfl) : FpA L X f args v t :=
  fun lim A hA => by subst hA; exact calls_here2 (E := envM) (fs := fsP) (lim := lim) one _ (List.mem_of_getElem? h) hf
theorem pN {L : List CallC} (one : ∀ c ∈ L, ∀ d ∈ L, c.f = d.f → c.args = d.args → c.A = d.A → c.v = d.v ∧ c.R = d.R) (i : Nat) {f : FuncId} {args : List Value} {X : Heap} {v : Value} (h : L[i]? = some ⟨f, args, X, v, []⟩) (hf : fsP.contains f = true := by rfl) : FpN L X f args v :=
  fun lim A hA => by subst hA; have h := calls_here2 (E := envM) (fs := fsP) (lim := lim) one _ (List.mem_of_getElem? h) hf; rw [List.append_nil] at h; exact h
theorem lz16 {xs ys : List Sr} (_ : chkR xs = 0) (_ : chkR ys = 0) (lx : xs.length ≤ 4) (ly : ys.length ≤ 4) : xs.length * ys.length ≤ 16 := Nat.le_trans (Nat.mul_le_mul lx ly) (by decide)
theorem app_sv {lim r k : Nat} {A : Heap} {xs ys : List Sr} (hk : hget A k = some (.cells [] 32 .emp)) (hr : hget A r = rwA 32 (reL reP xs ys xs.length).length (srs (reL reP xs ys xs.length))) (h1 : reL reP xs ys xs.length ≠ []) (hb : xs.length * ys.length ≤ 16) :
    aAppend Tryz.prog lim #[37, 37] (.slice (some ⟨k, 0, none⟩) 0 0) (svA r (reL reP xs ys xs.length).length) A = some (sl A.length 0 (reL reP xs ys xs.length).length (reL reP xs ys xs.length).length, A ++ [rS (reL reP xs ys xs.length) 32 .row]) := by
  have hl : (reL reP xs ys xs.length).length ≤ 16 := by rw [reL_len]; exact hb
  revert hr h1 hl
  generalize reL reP xs ys xs.length = zs
  intro hr h1 hl
  cases zs with
  | nil => exact absurd rfl h1
  | cons z l => exact app_emp37 (xs := z :: l) (c := l.length + 1) hk hr (by simp) (by omega)
theorem app_nil {lim r k : Nat} {A : Heap} {zs : List Sr} (hz : zs = []) (h : aAppend Tryz.prog lim #[37, 37] (.slice (some ⟨k, 0, none⟩) 0 0) (.slice none 0 0) A = some (.slice (some ⟨k, 0, none⟩) 0 0, A)) :
    aAppend Tryz.prog lim #[37, 37] (.slice (some ⟨k, 0, none⟩) 0 0) (svA r zs.length) A = some (.slice (some ⟨k, 0, none⟩) 0 0, A) := by subst hz; exact h
theorem patE {zs : List Sr} (h : zs = []) : patF [] = patF zs := by rw [h]
theorem app_bin {x y : Int} (hx : -11 ≤ x ∧ x ≤ 11) (hy : -11 ≤ y ∧ y ≤ 11) {m : Nat} (h1 : 1 ≤ m) (h9 : m ≤ 9) {lim r k : Nat} {A : Heap} (hk : hget A k = some (.cells [] 32 .emp)) (hr : hget A r = rS (zsR x y 0 (binR m)) 32 .row) :
    aAppend Tryz.prog lim #[37, 37] (.slice (some ⟨k, 0, none⟩) 0 0) (sl r 0 m m) A = some (sl A.length 0 m m, A ++ [rS (zsR x y 0 (binR m)) 32 .row]) := by
  have hl := (s56_at hx hy h1 h9).2.1
  have h := app_emp37 (lim := lim) (c := m) hk hr (by omega) (by omega)
  rw [hl] at h
  exact h
theorem s32_bin {x y : Int} (hx : -11 ≤ x ∧ x ≤ 11) (hy : -11 ≤ y ∧ y ≤ 11) {m : Nat} (h1 : 1 ≤ m) (h9 : m ≤ 9) {i : Nat} (hi : 8 ≤ i) (A : Heap) (h0 : startsB heap0 A = true) (hr : hget A i = rS (zsR x y 0 (binR m)) 32 .row) : SaysAt Tryz.prog 8 32 [sl i 0 m m] A (.tuple #[gA (patF (zsR x y 0 (binR m))), I 0]) (A ++ []) := by
  have hl := (s56_at hx hy h1 h9).2.1
  have h := s32_at hi (zsR x y 0 (binR m)) m 32 .row (by omega) (s56_at hx hy h1 h9).1 A h0 hr
  rw [hl] at h
  exact h
theorem s55_one {i j p : Nat} (hi : 8 ≤ i) (hj : 8 ≤ j) (hne : i ≠ j) {xs : List Sr} (kx : chkR xs = 0) (A : Heap) (h0 : startsB heap0 A = true) (h1 : hget A i = rwA 32 xs.length (srs xs)) (h2 : hget A j = w1) (hl : A.length = p) :
    SaysAt Tryz.prog 8 55 [svA i xs.length, sl j 0 1 1] A (.tuple #[svA p xs.length, I 0]) (A ++ [rwA 32 xs.length (srs xs)]) := by
  have e : reL reP xs [⟨0, 0, 1, 0⟩] xs.length = xs := by rw [reL_one (okS_mem kx) _ (Nat.le_refl _), List.take_length]
  have h := s55_ok hi hj hne kx chk_one (by rw [e]; exact kx) A h0 h1 h2 hl
  rw [e] at h
  exact h
theorem prod_2 {vL vB : Value} {r8 r9 : Option ARow} {xs ys : List Sr} {n0 n1 n2 x y : Int} {m : Nat} (hl1 : aLen Tryz.prog #[22] vL = some (I (xs.length : Int))) (hl2 : aLen Tryz.prog #[22] vB = some (I (ys.length : Int))) (lx : xs.length ≤ 4) (ly : ys.length ≤ 4) (kx : chkR xs = 0) (ky : chkR ys = 0)
    (cL : ∀ A, startsB heap0 A = true → hget A 8 = r8 → hget A 9 = r9 → SaysAt Tryz.prog 8 25 [vL] A (I 0) (A ++ [])) (cB : ∀ A, startsB heap0 A = true → hget A 8 = r8 → hget A 9 = r9 → SaysAt Tryz.prog 8 25 [vB] A (I 0) (A ++ []))
    (oL : ∀ A p, startsB heap0 A = true → hget A 8 = r8 → hget A 9 = r9 → A.length = p → SaysAt Tryz.prog 8 20 [vL] A (svA p xs.length) (A ++ [rwA 32 xs.length (srs xs)])) (oB : ∀ A p, startsB heap0 A = true → hget A 8 = r8 → hget A 9 = r9 → A.length = p → SaysAt Tryz.prog 8 20 [vB] A (svA p ys.length) (A ++ [rwA 32 ys.length (srs ys)]))
    (sm : ∀ A p, 10 ≤ p → startsB heap0 A = true → hget A 8 = r8 → hget A 9 = r9 → hget A p = rwA 24 xs.length (srs xs) → SaysAt Tryz.prog 8 76 [svA p xs.length, vL] A (.bool true) (A ++ []))
    (hM : mM n0 = (m : Int)) (hX : mX n1 = x) (hY : mX n2 = y) (h1 : 1 ≤ m) (h8 : m ≤ 8) (hx : -11 ≤ x ∧ x ≤ 11) (hy : -11 ≤ y ∧ y ≤ 11)
    (hz : chkR (reL reP xs ys xs.length) = 3) : LawS 12 [vL, vB, .agg #[.int .u8 n0, .int .u8 n1, .int .u8 n2]] (H [r8, r9]) := by
  have hw : chkR (reL reP ys xs ys.length) = 3 := by rw [← chk_comm (okS_mem kx) (okS_mem ky) (lz16 kx ky lx ly)]; exact hz
  have g1 : decide ((xs.length : Int) > 4) = false := decide_eq_false (by omega)
  have g2 : decide ((ys.length : Int) > 4) = false := decide_eq_false (by omega)
  have hM1 : mM1 n0 = ((m + 1 : Nat) : Int) := by unfold mM1; rw [hM]; exact wS (by omega) (by omega)
  have g3 : (mM1 n0 != mM1 n0) = false := by simp
  have hl3 : aLen Tryz.prog #[37] (sl 26 0 (m + 1) (m + 1)) = some (I (mM1 n0)) := by rw [hM1]; kernel_rfl
  let L1 : List CallC := [⟨25, [vL], (H [r8, r9, wB n0 n1 n2]), I 0, []⟩, ⟨20, [vL], (H [r8, r9, wB n0 n1 n2]), svA 11 xs.length, [rwA 32 xs.length (srs xs)]⟩, ⟨20, [vB], (H [r8, r9, wB n0 n1 n2, rwA 32 xs.length (srs xs)]), svA 12 ys.length, [rwA 32 ys.length (srs ys)]⟩, ⟨55, [svA 11 xs.length, svA 12 ys.length], (H [r8, r9, wB n0 n1 n2, rwA 32 xs.length (srs xs), rwA 32 ys.length (srs ys)]), .tuple #[.slice none 0 0, I 3], [none]⟩, ⟨20, [vB], (H [r8, r9, wB n0 n1 n2, rwA 32 xs.length (srs xs), rwA 32 ys.length (srs ys), none]), svA 14 ys.length, [rwA 32 ys.length (srs ys)]⟩, ⟨20, [vL], (H [r8, r9, wB n0 n1 n2, rwA 32 xs.length (srs xs), rwA 32 ys.length (srs ys), none, rwA 32 ys.length (srs ys)]), svA 15 xs.length, [rwA 32 xs.length (srs xs)]⟩, ⟨55, [svA 14 ys.length, svA 15 xs.length], (H [r8, r9, wB n0 n1 n2, rwA 32 xs.length (srs xs), rwA 32 ys.length (srs ys), none, rwA 32 ys.length (srs ys), rwA 32 xs.length (srs xs)]), .tuple #[.slice none 0 0, I 3], [none]⟩, ⟨20, [vL], (H [r8, r9, wB n0 n1 n2, rwA 32 xs.length (srs xs), rwA 32 ys.length (srs ys), none, rwA 32 ys.length (srs ys), rwA 32 xs.length (srs xs), none]), svA 17 xs.length, [rwA 32 xs.length (srs xs)]⟩, ⟨32, [svA 17 xs.length], (H [r8, r9, wB n0 n1 n2, rwA 32 xs.length (srs xs), rwA 32 ys.length (srs ys), none, rwA 32 ys.length (srs ys), rwA 32 xs.length (srs xs), none, rwA 32 xs.length (srs xs)]), .tuple #[gA (patF xs), I 0], []⟩, ⟨20, [vB], (H [r8, r9, wB n0 n1 n2, rwA 32 xs.length (srs xs), rwA 32 ys.length (srs ys), none, rwA 32 ys.length (srs ys), rwA 32 xs.length (srs xs), none, rwA 32 xs.length (srs xs), wA (patF xs)]), svA 19 ys.length, [rwA 32 ys.length (srs ys)]⟩, ⟨32, [svA 19 ys.length], (H [r8, r9, wB n0 n1 n2, rwA 32 xs.length (srs xs), rwA 32 ys.length (srs ys), none, rwA 32 ys.length (srs ys), rwA 32 xs.length (srs xs), none, rwA 32 xs.length (srs xs), wA (patF xs), rwA 32 ys.length (srs ys)]), .tuple #[gA (patF ys), I 0], []⟩, ⟨20, [vL], (H [r8, r9, wB n0 n1 n2, rwA 32 xs.length (srs xs), rwA 32 ys.length (srs ys), none, rwA 32 ys.length (srs ys), rwA 32 xs.length (srs xs), none, rwA 32 xs.length (srs xs), wA (patF xs), rwA 32 ys.length (srs ys), wA (patF ys)]), svA 21 xs.length, [rwA 32 xs.length (srs xs)]⟩, ⟨55, [svA 21 xs.length, sl 22 0 1 1], (H [r8, r9, wB n0 n1 n2, rwA 32 xs.length (srs xs), rwA 32 ys.length (srs ys), none, rwA 32 ys.length (srs ys), rwA 32 xs.length (srs xs), none, rwA 32 xs.length (srs xs), wA (patF xs), rwA 32 ys.length (srs ys), wA (patF ys), rwA 32 xs.length (srs xs), w1]), .tuple #[svA 23 xs.length, I 0], [rwA 32 xs.length (srs xs)]⟩, ⟨77, [svA 23 xs.length], (H [r8, r9, wB n0 n1 n2, rwA 32 xs.length (srs xs), rwA 32 ys.length (srs ys), none, rwA 32 ys.length (srs ys), rwA 32 xs.length (srs xs), none, rwA 32 xs.length (srs xs), wA (patF xs), rwA 32 ys.length (srs ys), wA (patF ys), rwA 32 xs.length (srs xs), w1, rwA 32 xs.length (srs xs)]), svA 24 xs.length, [rwA 24 xs.length (srs xs)]⟩, ⟨76, [svA 24 xs.length, vL], (H [r8, r9, wB n0 n1 n2, rwA 32 xs.length (srs xs), rwA 32 ys.length (srs ys), none, rwA 32 ys.length (srs ys), rwA 32 xs.length (srs xs), none, rwA 32 xs.length (srs xs), wA (patF xs), rwA 32 ys.length (srs ys), wA (patF ys), rwA 32 xs.length (srs xs), w1, rwA 32 xs.length (srs xs), rwA 24 xs.length (srs xs)]), .bool true, []⟩, ⟨56, [I (mM n0), I (mX n1), I (mX n2)], (H [r8, r9, wB n0 n1 n2, rwA 32 xs.length (srs xs), rwA 32 ys.length (srs ys), none, rwA 32 ys.length (srs ys), rwA 32 xs.length (srs xs), none, rwA 32 xs.length (srs xs), wA (patF xs), rwA 32 ys.length (srs ys), wA (patF ys), rwA 32 xs.length (srs xs), w1, rwA 32 xs.length (srs xs), rwA 24 xs.length (srs xs)]), .tuple #[sl 25 0 m m, I 0], [rS (zsR x y 0 (binR m)) 32 .row]⟩, ⟨56, [I (mM1 n0), I (mX n1), I (mX n2)], (H [r8, r9, wB n0 n1 n2, rwA 32 xs.length (srs xs), rwA 32 ys.length (srs ys), none, rwA 32 ys.length (srs ys), rwA 32 xs.length (srs xs), none, rwA 32 xs.length (srs xs), wA (patF xs), rwA 32 ys.length (srs ys), wA (patF ys), rwA 32 xs.length (srs xs), w1, rwA 32 xs.length (srs xs), rwA 24 xs.length (srs xs), rS (zsR x y 0 (binR m)) 32 .row]), .tuple #[sl 26 0 (m + 1) (m + 1), I 0], [rS (zsR x y 0 (binR (m + 1))) 32 .row]⟩, ⟨56, [I 2, I (mX n1), I (mX n2)], (H [r8, r9, wB n0 n1 n2, rwA 32 xs.length (srs xs), rwA 32 ys.length (srs ys), none, rwA 32 ys.length (srs ys), rwA 32 xs.length (srs xs), none, rwA 32 xs.length (srs xs), wA (patF xs), rwA 32 ys.length (srs ys), wA (patF ys), rwA 32 xs.length (srs xs), w1, rwA 32 xs.length (srs xs), rwA 24 xs.length (srs xs), rS (zsR x y 0 (binR m)) 32 .row, rS (zsR x y 0 (binR (m + 1))) 32 .row]), .tuple #[sl 27 0 2 2, I 0], [rS (zsR x y 0 (binR 2)) 32 .row]⟩, ⟨32, [sl 29 0 m m], (H [r8, r9, wB n0 n1 n2, rwA 32 xs.length (srs xs), rwA 32 ys.length (srs ys), none, rwA 32 ys.length (srs ys), rwA 32 xs.length (srs xs), none, rwA 32 xs.length (srs xs), wA (patF xs), rwA 32 ys.length (srs ys), wA (patF ys), rwA 32 xs.length (srs xs), w1, rwA 32 xs.length (srs xs), rwA 24 xs.length (srs xs), rS (zsR x y 0 (binR m)) 32 .row, rS (zsR x y 0 (binR (m + 1))) 32 .row, rS (zsR x y 0 (binR 2)) 32 .row, wE, rS (zsR x y 0 (binR m)) 32 .row]), .tuple #[gA (patF (zsR x y 0 (binR m))), I 0], []⟩, ⟨32, [sl 32 0 (m + 1) (m + 1)], (H [r8, r9, wB n0 n1 n2, rwA 32 xs.length (srs xs), rwA 32 ys.length (srs ys), none, rwA 32 ys.length (srs ys), rwA 32 xs.length (srs xs), none, rwA 32 xs.length (srs xs), wA (patF xs), rwA 32 ys.length (srs ys), wA (patF ys), rwA 32 xs.length (srs xs), w1, rwA 32 xs.length (srs xs), rwA 24 xs.length (srs xs), rS (zsR x y 0 (binR m)) 32 .row, rS (zsR x y 0 (binR (m + 1))) 32 .row, rS (zsR x y 0 (binR 2)) 32 .row, wE, rS (zsR x y 0 (binR m)) 32 .row, wA (patF (zsR x y 0 (binR m))), wE, rS (zsR x y 0 (binR (m + 1))) 32 .row]), .tuple #[gA (patF (zsR x y 0 (binR (m + 1)))), I 0], []⟩, ⟨32, [sl 35 0 2 2], (H [r8, r9, wB n0 n1 n2, rwA 32 xs.length (srs xs), rwA 32 ys.length (srs ys), none, rwA 32 ys.length (srs ys), rwA 32 xs.length (srs xs), none, rwA 32 xs.length (srs xs), wA (patF xs), rwA 32 ys.length (srs ys), wA (patF ys), rwA 32 xs.length (srs xs), w1, rwA 32 xs.length (srs xs), rwA 24 xs.length (srs xs), rS (zsR x y 0 (binR m)) 32 .row, rS (zsR x y 0 (binR (m + 1))) 32 .row, rS (zsR x y 0 (binR 2)) 32 .row, wE, rS (zsR x y 0 (binR m)) 32 .row, wA (patF (zsR x y 0 (binR m))), wE, rS (zsR x y 0 (binR (m + 1))) 32 .row, wA (patF (zsR x y 0 (binR (m + 1)))), wE, rS (zsR x y 0 (binR 2)) 32 .row]), .tuple #[gA (patF (zsR x y 0 (binR 2))), I 0], []⟩]
  let X : List CallC := [⟨25, [vB], (H [r8, r9, wB n0 n1 n2]), I 0, []⟩]
  have one := calls_two (L1 := L1) (X := X) rfl (fc ⟨List.forall_mem_append.2 ⟨fc ⟨fun _ _ => ⟨rfl, rfl⟩, fc ⟨fun h => ne_f rfl h, fc ⟨fun h => ne_f rfl h, fc ⟨fun h => ne_f rfl h, fc ⟨fun h => ne_f rfl h, fc ⟨fun h => ne_f rfl h, fc ⟨fun h => ne_f rfl h, fc ⟨fun h => ne_f rfl h, fc ⟨fun h => ne_f rfl h, fc ⟨fun h => ne_f rfl h, fc ⟨fun h => ne_f rfl h, fc ⟨fun h => ne_f rfl h, fc ⟨fun h => ne_f rfl h, fc ⟨fun h => ne_f rfl h, fc ⟨fun h => ne_f rfl h, fc ⟨fun h => ne_f rfl h, fc ⟨fun h => ne_f rfl h, fc ⟨fun h => ne_f rfl h, fc ⟨fun h => ne_f rfl h, fc ⟨fun h => ne_f rfl h, fc ⟨fun h => ne_f rfl h, fN⟩⟩⟩⟩⟩⟩⟩⟩⟩⟩⟩⟩⟩⟩⟩⟩⟩⟩⟩⟩⟩, fc ⟨fun _ _ => ⟨rfl, rfl⟩, fN⟩⟩, fN⟩)
  have ok : EnvOK Tryz.prog 8 (eP (L1 ++ X)) := Env.calls_ok envM_ok (List.forall_mem_append.2 ⟨fc ⟨cL _ (startsH _) rfl rfl, fc ⟨oL _ 11 (startsH _) rfl rfl rfl, fc ⟨oB _ 12 (startsH _) rfl rfl rfl, fc ⟨s55_bad (by decide) (by decide) (by decide) kx ky hz _ (startsH _) rfl rfl rfl, fc ⟨oB _ 14 (startsH _) rfl rfl rfl, fc ⟨oL _ 15 (startsH _) rfl rfl rfl, fc ⟨s55_bad (by decide) (by decide) (by decide) ky kx hw _ (startsH _) rfl rfl rfl, fc ⟨oL _ 17 (startsH _) rfl rfl rfl, fc ⟨s32_sv (by decide) kx _ (startsH _) rfl, fc ⟨oB _ 19 (startsH _) rfl rfl rfl, fc ⟨s32_sv (by decide) ky _ (startsH _) rfl, fc ⟨oL _ 21 (startsH _) rfl rfl rfl, fc ⟨s55_one (by decide) (by decide) (by decide) kx _ (startsH _) rfl rfl rfl, fc ⟨to_at (by decide) xs (by omega) _ (startsH _) rfl rfl, fc ⟨sm _ 24 (by decide) (startsH _) rfl rfl rfl, fc ⟨(by rw [hM, hX, hY]; exact (s56_at hx hy h1 (by omega)).2.2 _ _ (startsH _) rfl), fc ⟨(by rw [hM1, hX, hY]; exact (s56_at hx hy (m := m + 1) (by omega) (by omega)).2.2 _ _ (startsH _) rfl), fc ⟨(by rw [hX, hY]; exact (s56_at hx hy (m := 2) (by decide) (by decide)).2.2 _ _ (startsH _) rfl), fc ⟨s32_bin hx hy (m := m) h1 (by omega) (by decide) _ (startsH _) rfl, fc ⟨s32_bin hx hy (m := (m + 1)) (by omega) (by omega) (by decide) _ (startsH _) rfl, fc ⟨s32_bin hx hy (m := 2) (by decide) (by decide) (by decide) _ (startsH _) rfl, fN⟩⟩⟩⟩⟩⟩⟩⟩⟩⟩⟩⟩⟩⟩⟩⟩⟩⟩⟩⟩⟩, fc ⟨cB _ (startsH _) rfl rfl, fN⟩⟩)
  exact ⟨_, ok, ap2_p0 _ n0 n1 n2 _ _ (patF xs) (patF ys) (patF (zsR x y 0 (binR m))) (patF (zsR x y 0 (binR (m + 1)))) (patF (zsR x y 0 (binR 2))) (vL) (vB) (svA 11 xs.length) (svA 12 ys.length) (.slice none 0 0) (svA 14 ys.length) (svA 15 xs.length) (.slice none 0 0) (svA 17 xs.length) (svA 19 ys.length) (vL) (vL) (svA 21 xs.length) (svA 23 xs.length) (svA 24 xs.length) (sl 25 0 m m) (sl 26 0 (m + 1) (m + 1)) (sl 27 0 2 2) (sl 29 0 m m) (sl 32 0 (m + 1) (m + 1)) (sl 35 0 2 2) (r8) (r9) (rwA 32 xs.length (srs xs)) (rwA 32 ys.length (srs ys)) (none) (rwA 32 ys.length (srs ys)) (rwA 32 xs.length (srs xs)) (none) (rwA 32 xs.length (srs xs)) (rwA 32 ys.length (srs ys)) (none) (none) (rwA 32 xs.length (srs xs)) (rwA 32 xs.length (srs xs)) (rwA 24 xs.length (srs xs)) (rS (zsR x y 0 (binR m)) 32 .row) (rS (zsR x y 0 (binR (m + 1))) 32 .row) (rS (zsR x y 0 (binR 2)) 32 .row) (rS (zsR x y 0 (binR m)) 32 .row) (rS (zsR x y 0 (binR (m + 1))) 32 .row) (rS (zsR x y 0 (binR 2)) 32 .row) hl1 g1 hl2 g2 (pN one 0 rfl) (pN one 21 rfl) (pA one 1 rfl) (pA one 2 rfl) (pA one 3 rfl) (pA one 4 rfl) (pA one 5 rfl) (pA one 6 rfl) (pA one 7 rfl) (pN one 8 rfl) (pA one 9 rfl) (pN one 10 rfl) (pA one 11 rfl) (pA one 12 rfl) (pA one 13 rfl) (pN one 14 rfl) (pA one 15 rfl) (pA one 16 rfl) (pA one 17 rfl) (app_bin hx hy (m := m) h1 (by omega) (lim := 10) (k := 28) (r := 25) (A := (H [r8, r9, wB n0 n1 n2, rwA 32 xs.length (srs xs), rwA 32 ys.length (srs ys), none, rwA 32 ys.length (srs ys), rwA 32 xs.length (srs xs), none, rwA 32 xs.length (srs xs), wA (patF xs), rwA 32 ys.length (srs ys), wA (patF ys), rwA 32 xs.length (srs xs), w1, rwA 32 xs.length (srs xs), rwA 24 xs.length (srs xs), rS (zsR x y 0 (binR m)) 32 .row, rS (zsR x y 0 (binR (m + 1))) 32 .row, rS (zsR x y 0 (binR 2)) 32 .row, wE])) rfl rfl) (pN one 18 rfl) (app_bin hx hy (m := (m + 1)) (by omega) (by omega) (lim := 10) (k := 31) (r := 26) (A := (H [r8, r9, wB n0 n1 n2, rwA 32 xs.length (srs xs), rwA 32 ys.length (srs ys), none, rwA 32 ys.length (srs ys), rwA 32 xs.length (srs xs), none, rwA 32 xs.length (srs xs), wA (patF xs), rwA 32 ys.length (srs ys), wA (patF ys), rwA 32 xs.length (srs xs), w1, rwA 32 xs.length (srs xs), rwA 24 xs.length (srs xs), rS (zsR x y 0 (binR m)) 32 .row, rS (zsR x y 0 (binR (m + 1))) 32 .row, rS (zsR x y 0 (binR 2)) 32 .row, wE, rS (zsR x y 0 (binR m)) 32 .row, wA (patF (zsR x y 0 (binR m))), wE])) rfl rfl) (pN one 19 rfl) (app_bin hx hy (m := 2) (by decide) (by decide) (lim := 10) (k := 34) (r := 27) (A := (H [r8, r9, wB n0 n1 n2, rwA 32 xs.length (srs xs), rwA 32 ys.length (srs ys), none, rwA 32 ys.length (srs ys), rwA 32 xs.length (srs xs), none, rwA 32 xs.length (srs xs), wA (patF xs), rwA 32 ys.length (srs ys), wA (patF ys), rwA 32 xs.length (srs xs), w1, rwA 32 xs.length (srs xs), rwA 24 xs.length (srs xs), rS (zsR x y 0 (binR m)) 32 .row, rS (zsR x y 0 (binR (m + 1))) 32 .row, rS (zsR x y 0 (binR 2)) 32 .row, wE, rS (zsR x y 0 (binR m)) 32 .row, wA (patF (zsR x y 0 (binR m))), wE, rS (zsR x y 0 (binR (m + 1))) 32 .row, wA (patF (zsR x y 0 (binR (m + 1)))), wE])) rfl rfl) (pN one 20 rfl) g3 hl3 (q_bin hx hy h1 h8 0 rfl) (q_bin hx hy h1 h8 1 rfl) (q_bin hx hy h1 h8 2 rfl) (q_bin hx hy h1 h8 3 rfl) (q_bin hx hy h1 h8 4 rfl) (q_bin hx hy h1 h8 5 rfl) (q_bin hx hy h1 h8 6 rfl) (q_bin hx hy h1 h8 7 rfl)⟩
/-
ArrayProducts: the law from its parts, the products being valid.
-/
theorem prod_1 {vL vB : Value} {r8 r9 : Option ARow} {xs ys : List Sr} {n0 n1 n2 x y : Int} {m : Nat} (hl1 : aLen Tryz.prog #[22] vL = some (I (xs.length : Int))) (hl2 : aLen Tryz.prog #[22] vB = some (I (ys.length : Int))) (lx : xs.length ≤ 4) (ly : ys.length ≤ 4) (kx : chkR xs = 0) (ky : chkR ys = 0)
    (cL : ∀ A, startsB heap0 A = true → hget A 8 = r8 → hget A 9 = r9 → SaysAt Tryz.prog 8 25 [vL] A (I 0) (A ++ [])) (cB : ∀ A, startsB heap0 A = true → hget A 8 = r8 → hget A 9 = r9 → SaysAt Tryz.prog 8 25 [vB] A (I 0) (A ++ []))
    (oL : ∀ A p, startsB heap0 A = true → hget A 8 = r8 → hget A 9 = r9 → A.length = p → SaysAt Tryz.prog 8 20 [vL] A (svA p xs.length) (A ++ [rwA 32 xs.length (srs xs)])) (oB : ∀ A p, startsB heap0 A = true → hget A 8 = r8 → hget A 9 = r9 → A.length = p → SaysAt Tryz.prog 8 20 [vB] A (svA p ys.length) (A ++ [rwA 32 ys.length (srs ys)]))
    (sm : ∀ A p, 10 ≤ p → startsB heap0 A = true → hget A 8 = r8 → hget A 9 = r9 → hget A p = rwA 24 xs.length (srs xs) → SaysAt Tryz.prog 8 76 [svA p xs.length, vL] A (.bool true) (A ++ []))
    (hM : mM n0 = (m : Int)) (hX : mX n1 = x) (hY : mX n2 = y) (h1 : 1 ≤ m) (h8 : m ≤ 8) (hx : -11 ≤ x ∧ x ≤ 11) (hy : -11 ≤ y ∧ y ≤ 11)
    (hz : chkR (reL reP xs ys xs.length) = 0) (ez : reL reP xs ys xs.length = []) (ew : reL reP ys xs ys.length = []) : LawS 12 [vL, vB, .agg #[.int .u8 n0, .int .u8 n1, .int .u8 n2]] (H [r8, r9]) := by
  have hw : chkR (reL reP ys xs ys.length) = 0 := by rw [← chk_comm (okS_mem kx) (okS_mem ky) (lz16 kx ky lx ly)]; exact hz
  have g1 : decide ((xs.length : Int) > 4) = false := decide_eq_false (by omega)
  have g2 : decide ((ys.length : Int) > 4) = false := decide_eq_false (by omega)
  have hM1 : mM1 n0 = ((m + 1 : Nat) : Int) := by unfold mM1; rw [hM]; exact wS (by omega) (by omega)
  have g3 : (mM1 n0 != mM1 n0) = false := by simp
  have hl3 : aLen Tryz.prog #[37] (sl 30 0 (m + 1) (m + 1)) = some (I (mM1 n0)) := by rw [hM1]; kernel_rfl
  let L1 : List CallC := [⟨25, [vL], (H [r8, r9, wB n0 n1 n2]), I 0, []⟩, ⟨20, [vL], (H [r8, r9, wB n0 n1 n2]), svA 11 xs.length, [rwA 32 xs.length (srs xs)]⟩, ⟨20, [vB], (H [r8, r9, wB n0 n1 n2, rwA 32 xs.length (srs xs)]), svA 12 ys.length, [rwA 32 ys.length (srs ys)]⟩, ⟨55, [svA 11 xs.length, svA 12 ys.length], (H [r8, r9, wB n0 n1 n2, rwA 32 xs.length (srs xs), rwA 32 ys.length (srs ys)]), .tuple #[svA 13 (reL reP xs ys xs.length).length, I 0], [rwA 32 (reL reP xs ys xs.length).length (srs (reL reP xs ys xs.length))]⟩, ⟨20, [vB], (H [r8, r9, wB n0 n1 n2, rwA 32 xs.length (srs xs), rwA 32 ys.length (srs ys), rwA 32 (reL reP xs ys xs.length).length (srs (reL reP xs ys xs.length))]), svA 14 ys.length, [rwA 32 ys.length (srs ys)]⟩, ⟨20, [vL], (H [r8, r9, wB n0 n1 n2, rwA 32 xs.length (srs xs), rwA 32 ys.length (srs ys), rwA 32 (reL reP xs ys xs.length).length (srs (reL reP xs ys xs.length)), rwA 32 ys.length (srs ys)]), svA 15 xs.length, [rwA 32 xs.length (srs xs)]⟩, ⟨55, [svA 14 ys.length, svA 15 xs.length], (H [r8, r9, wB n0 n1 n2, rwA 32 xs.length (srs xs), rwA 32 ys.length (srs ys), rwA 32 (reL reP xs ys xs.length).length (srs (reL reP xs ys xs.length)), rwA 32 ys.length (srs ys), rwA 32 xs.length (srs xs)]), .tuple #[svA 16 (reL reP ys xs ys.length).length, I 0], [rwA 32 (reL reP ys xs ys.length).length (srs (reL reP ys xs ys.length))]⟩, ⟨20, [vL], (H [r8, r9, wB n0 n1 n2, rwA 32 xs.length (srs xs), rwA 32 ys.length (srs ys), rwA 32 (reL reP xs ys xs.length).length (srs (reL reP xs ys xs.length)), rwA 32 ys.length (srs ys), rwA 32 xs.length (srs xs), rwA 32 (reL reP ys xs ys.length).length (srs (reL reP ys xs ys.length))]), svA 17 xs.length, [rwA 32 xs.length (srs xs)]⟩, ⟨32, [svA 17 xs.length], (H [r8, r9, wB n0 n1 n2, rwA 32 xs.length (srs xs), rwA 32 ys.length (srs ys), rwA 32 (reL reP xs ys xs.length).length (srs (reL reP xs ys xs.length)), rwA 32 ys.length (srs ys), rwA 32 xs.length (srs xs), rwA 32 (reL reP ys xs ys.length).length (srs (reL reP ys xs ys.length)), rwA 32 xs.length (srs xs)]), .tuple #[gA (patF xs), I 0], []⟩, ⟨20, [vB], (H [r8, r9, wB n0 n1 n2, rwA 32 xs.length (srs xs), rwA 32 ys.length (srs ys), rwA 32 (reL reP xs ys xs.length).length (srs (reL reP xs ys xs.length)), rwA 32 ys.length (srs ys), rwA 32 xs.length (srs xs), rwA 32 (reL reP ys xs ys.length).length (srs (reL reP ys xs ys.length)), rwA 32 xs.length (srs xs), wA (patF xs)]), svA 19 ys.length, [rwA 32 ys.length (srs ys)]⟩, ⟨32, [svA 19 ys.length], (H [r8, r9, wB n0 n1 n2, rwA 32 xs.length (srs xs), rwA 32 ys.length (srs ys), rwA 32 (reL reP xs ys xs.length).length (srs (reL reP xs ys xs.length)), rwA 32 ys.length (srs ys), rwA 32 xs.length (srs xs), rwA 32 (reL reP ys xs ys.length).length (srs (reL reP ys xs ys.length)), rwA 32 xs.length (srs xs), wA (patF xs), rwA 32 ys.length (srs ys)]), .tuple #[gA (patF ys), I 0], []⟩, ⟨32, [sl 21 0 0 0], (H [r8, r9, wB n0 n1 n2, rwA 32 xs.length (srs xs), rwA 32 ys.length (srs ys), rwA 32 (reL reP xs ys xs.length).length (srs (reL reP xs ys xs.length)), rwA 32 ys.length (srs ys), rwA 32 xs.length (srs xs), rwA 32 (reL reP ys xs ys.length).length (srs (reL reP ys xs ys.length)), rwA 32 xs.length (srs xs), wA (patF xs), rwA 32 ys.length (srs ys), wA (patF ys), wE]), .tuple #[gA (patF (reL reP xs ys xs.length)), I 0], []⟩, ⟨32, [sl 23 0 0 0], (H [r8, r9, wB n0 n1 n2, rwA 32 xs.length (srs xs), rwA 32 ys.length (srs ys), rwA 32 (reL reP xs ys xs.length).length (srs (reL reP xs ys xs.length)), rwA 32 ys.length (srs ys), rwA 32 xs.length (srs xs), rwA 32 (reL reP ys xs ys.length).length (srs (reL reP ys xs ys.length)), rwA 32 xs.length (srs xs), wA (patF xs), rwA 32 ys.length (srs ys), wA (patF ys), wE, wA (patF (reL reP xs ys xs.length)), wE]), .tuple #[gA (patF (reL reP xs ys xs.length)), I 0], []⟩, ⟨20, [vL], (H [r8, r9, wB n0 n1 n2, rwA 32 xs.length (srs xs), rwA 32 ys.length (srs ys), rwA 32 (reL reP xs ys xs.length).length (srs (reL reP xs ys xs.length)), rwA 32 ys.length (srs ys), rwA 32 xs.length (srs xs), rwA 32 (reL reP ys xs ys.length).length (srs (reL reP ys xs ys.length)), rwA 32 xs.length (srs xs), wA (patF xs), rwA 32 ys.length (srs ys), wA (patF ys), wE, wA (patF (reL reP xs ys xs.length)), wE, wA (patF (reL reP xs ys xs.length))]), svA 25 xs.length, [rwA 32 xs.length (srs xs)]⟩, ⟨55, [svA 25 xs.length, sl 26 0 1 1], (H [r8, r9, wB n0 n1 n2, rwA 32 xs.length (srs xs), rwA 32 ys.length (srs ys), rwA 32 (reL reP xs ys xs.length).length (srs (reL reP xs ys xs.length)), rwA 32 ys.length (srs ys), rwA 32 xs.length (srs xs), rwA 32 (reL reP ys xs ys.length).length (srs (reL reP ys xs ys.length)), rwA 32 xs.length (srs xs), wA (patF xs), rwA 32 ys.length (srs ys), wA (patF ys), wE, wA (patF (reL reP xs ys xs.length)), wE, wA (patF (reL reP xs ys xs.length)), rwA 32 xs.length (srs xs), w1]), .tuple #[svA 27 xs.length, I 0], [rwA 32 xs.length (srs xs)]⟩, ⟨77, [svA 27 xs.length], (H [r8, r9, wB n0 n1 n2, rwA 32 xs.length (srs xs), rwA 32 ys.length (srs ys), rwA 32 (reL reP xs ys xs.length).length (srs (reL reP xs ys xs.length)), rwA 32 ys.length (srs ys), rwA 32 xs.length (srs xs), rwA 32 (reL reP ys xs ys.length).length (srs (reL reP ys xs ys.length)), rwA 32 xs.length (srs xs), wA (patF xs), rwA 32 ys.length (srs ys), wA (patF ys), wE, wA (patF (reL reP xs ys xs.length)), wE, wA (patF (reL reP xs ys xs.length)), rwA 32 xs.length (srs xs), w1, rwA 32 xs.length (srs xs)]), svA 28 xs.length, [rwA 24 xs.length (srs xs)]⟩, ⟨76, [svA 28 xs.length, vL], (H [r8, r9, wB n0 n1 n2, rwA 32 xs.length (srs xs), rwA 32 ys.length (srs ys), rwA 32 (reL reP xs ys xs.length).length (srs (reL reP xs ys xs.length)), rwA 32 ys.length (srs ys), rwA 32 xs.length (srs xs), rwA 32 (reL reP ys xs ys.length).length (srs (reL reP ys xs ys.length)), rwA 32 xs.length (srs xs), wA (patF xs), rwA 32 ys.length (srs ys), wA (patF ys), wE, wA (patF (reL reP xs ys xs.length)), wE, wA (patF (reL reP xs ys xs.length)), rwA 32 xs.length (srs xs), w1, rwA 32 xs.length (srs xs), rwA 24 xs.length (srs xs)]), .bool true, []⟩, ⟨56, [I (mM n0), I (mX n1), I (mX n2)], (H [r8, r9, wB n0 n1 n2, rwA 32 xs.length (srs xs), rwA 32 ys.length (srs ys), rwA 32 (reL reP xs ys xs.length).length (srs (reL reP xs ys xs.length)), rwA 32 ys.length (srs ys), rwA 32 xs.length (srs xs), rwA 32 (reL reP ys xs ys.length).length (srs (reL reP ys xs ys.length)), rwA 32 xs.length (srs xs), wA (patF xs), rwA 32 ys.length (srs ys), wA (patF ys), wE, wA (patF (reL reP xs ys xs.length)), wE, wA (patF (reL reP xs ys xs.length)), rwA 32 xs.length (srs xs), w1, rwA 32 xs.length (srs xs), rwA 24 xs.length (srs xs)]), .tuple #[sl 29 0 m m, I 0], [rS (zsR x y 0 (binR m)) 32 .row]⟩, ⟨56, [I (mM1 n0), I (mX n1), I (mX n2)], (H [r8, r9, wB n0 n1 n2, rwA 32 xs.length (srs xs), rwA 32 ys.length (srs ys), rwA 32 (reL reP xs ys xs.length).length (srs (reL reP xs ys xs.length)), rwA 32 ys.length (srs ys), rwA 32 xs.length (srs xs), rwA 32 (reL reP ys xs ys.length).length (srs (reL reP ys xs ys.length)), rwA 32 xs.length (srs xs), wA (patF xs), rwA 32 ys.length (srs ys), wA (patF ys), wE, wA (patF (reL reP xs ys xs.length)), wE, wA (patF (reL reP xs ys xs.length)), rwA 32 xs.length (srs xs), w1, rwA 32 xs.length (srs xs), rwA 24 xs.length (srs xs), rS (zsR x y 0 (binR m)) 32 .row]), .tuple #[sl 30 0 (m + 1) (m + 1), I 0], [rS (zsR x y 0 (binR (m + 1))) 32 .row]⟩, ⟨56, [I 2, I (mX n1), I (mX n2)], (H [r8, r9, wB n0 n1 n2, rwA 32 xs.length (srs xs), rwA 32 ys.length (srs ys), rwA 32 (reL reP xs ys xs.length).length (srs (reL reP xs ys xs.length)), rwA 32 ys.length (srs ys), rwA 32 xs.length (srs xs), rwA 32 (reL reP ys xs ys.length).length (srs (reL reP ys xs ys.length)), rwA 32 xs.length (srs xs), wA (patF xs), rwA 32 ys.length (srs ys), wA (patF ys), wE, wA (patF (reL reP xs ys xs.length)), wE, wA (patF (reL reP xs ys xs.length)), rwA 32 xs.length (srs xs), w1, rwA 32 xs.length (srs xs), rwA 24 xs.length (srs xs), rS (zsR x y 0 (binR m)) 32 .row, rS (zsR x y 0 (binR (m + 1))) 32 .row]), .tuple #[sl 31 0 2 2, I 0], [rS (zsR x y 0 (binR 2)) 32 .row]⟩, ⟨32, [sl 33 0 m m], (H [r8, r9, wB n0 n1 n2, rwA 32 xs.length (srs xs), rwA 32 ys.length (srs ys), rwA 32 (reL reP xs ys xs.length).length (srs (reL reP xs ys xs.length)), rwA 32 ys.length (srs ys), rwA 32 xs.length (srs xs), rwA 32 (reL reP ys xs ys.length).length (srs (reL reP ys xs ys.length)), rwA 32 xs.length (srs xs), wA (patF xs), rwA 32 ys.length (srs ys), wA (patF ys), wE, wA (patF (reL reP xs ys xs.length)), wE, wA (patF (reL reP xs ys xs.length)), rwA 32 xs.length (srs xs), w1, rwA 32 xs.length (srs xs), rwA 24 xs.length (srs xs), rS (zsR x y 0 (binR m)) 32 .row, rS (zsR x y 0 (binR (m + 1))) 32 .row, rS (zsR x y 0 (binR 2)) 32 .row, wE, rS (zsR x y 0 (binR m)) 32 .row]), .tuple #[gA (patF (zsR x y 0 (binR m))), I 0], []⟩, ⟨32, [sl 36 0 (m + 1) (m + 1)], (H [r8, r9, wB n0 n1 n2, rwA 32 xs.length (srs xs), rwA 32 ys.length (srs ys), rwA 32 (reL reP xs ys xs.length).length (srs (reL reP xs ys xs.length)), rwA 32 ys.length (srs ys), rwA 32 xs.length (srs xs), rwA 32 (reL reP ys xs ys.length).length (srs (reL reP ys xs ys.length)), rwA 32 xs.length (srs xs), wA (patF xs), rwA 32 ys.length (srs ys), wA (patF ys), wE, wA (patF (reL reP xs ys xs.length)), wE, wA (patF (reL reP xs ys xs.length)), rwA 32 xs.length (srs xs), w1, rwA 32 xs.length (srs xs), rwA 24 xs.length (srs xs), rS (zsR x y 0 (binR m)) 32 .row, rS (zsR x y 0 (binR (m + 1))) 32 .row, rS (zsR x y 0 (binR 2)) 32 .row, wE, rS (zsR x y 0 (binR m)) 32 .row, wA (patF (zsR x y 0 (binR m))), wE, rS (zsR x y 0 (binR (m + 1))) 32 .row]), .tuple #[gA (patF (zsR x y 0 (binR (m + 1)))), I 0], []⟩, ⟨32, [sl 39 0 2 2], (H [r8, r9, wB n0 n1 n2, rwA 32 xs.length (srs xs), rwA 32 ys.length (srs ys), rwA 32 (reL reP xs ys xs.length).length (srs (reL reP xs ys xs.length)), rwA 32 ys.length (srs ys), rwA 32 xs.length (srs xs), rwA 32 (reL reP ys xs ys.length).length (srs (reL reP ys xs ys.length)), rwA 32 xs.length (srs xs), wA (patF xs), rwA 32 ys.length (srs ys), wA (patF ys), wE, wA (patF (reL reP xs ys xs.length)), wE, wA (patF (reL reP xs ys xs.length)), rwA 32 xs.length (srs xs), w1, rwA 32 xs.length (srs xs), rwA 24 xs.length (srs xs), rS (zsR x y 0 (binR m)) 32 .row, rS (zsR x y 0 (binR (m + 1))) 32 .row, rS (zsR x y 0 (binR 2)) 32 .row, wE, rS (zsR x y 0 (binR m)) 32 .row, wA (patF (zsR x y 0 (binR m))), wE, rS (zsR x y 0 (binR (m + 1))) 32 .row, wA (patF (zsR x y 0 (binR (m + 1)))), wE, rS (zsR x y 0 (binR 2)) 32 .row]), .tuple #[gA (patF (zsR x y 0 (binR 2))), I 0], []⟩]
  let X : List CallC := [⟨25, [vB], (H [r8, r9, wB n0 n1 n2]), I 0, []⟩]
  have one := calls_two (L1 := L1) (X := X) rfl (fc ⟨List.forall_mem_append.2 ⟨fc ⟨fun _ _ => ⟨rfl, rfl⟩, fc ⟨fun h => ne_f rfl h, fc ⟨fun h => ne_f rfl h, fc ⟨fun h => ne_f rfl h, fc ⟨fun h => ne_f rfl h, fc ⟨fun h => ne_f rfl h, fc ⟨fun h => ne_f rfl h, fc ⟨fun h => ne_f rfl h, fc ⟨fun h => ne_f rfl h, fc ⟨fun h => ne_f rfl h, fc ⟨fun h => ne_f rfl h, fc ⟨fun h => ne_f rfl h, fc ⟨fun h => ne_f rfl h, fc ⟨fun h => ne_f rfl h, fc ⟨fun h => ne_f rfl h, fc ⟨fun h => ne_f rfl h, fc ⟨fun h => ne_f rfl h, fc ⟨fun h => ne_f rfl h, fc ⟨fun h => ne_f rfl h, fc ⟨fun h => ne_f rfl h, fc ⟨fun h => ne_f rfl h, fc ⟨fun h => ne_f rfl h, fc ⟨fun h => ne_f rfl h, fN⟩⟩⟩⟩⟩⟩⟩⟩⟩⟩⟩⟩⟩⟩⟩⟩⟩⟩⟩⟩⟩⟩⟩, fc ⟨fun _ _ => ⟨rfl, rfl⟩, fN⟩⟩, fN⟩)
  have ok : EnvOK Tryz.prog 8 (eP (L1 ++ X)) := Env.calls_ok envM_ok (List.forall_mem_append.2 ⟨fc ⟨cL _ (startsH _) rfl rfl, fc ⟨oL _ 11 (startsH _) rfl rfl rfl, fc ⟨oB _ 12 (startsH _) rfl rfl rfl, fc ⟨s55_ok (by decide) (by decide) (by decide) kx ky hz _ (startsH _) rfl rfl rfl, fc ⟨oB _ 14 (startsH _) rfl rfl rfl, fc ⟨oL _ 15 (startsH _) rfl rfl rfl, fc ⟨s55_ok (by decide) (by decide) (by decide) ky kx hw _ (startsH _) rfl rfl rfl, fc ⟨oL _ 17 (startsH _) rfl rfl rfl, fc ⟨s32_sv (by decide) kx _ (startsH _) rfl, fc ⟨oB _ 19 (startsH _) rfl rfl rfl, fc ⟨s32_sv (by decide) ky _ (startsH _) rfl, fc ⟨(patE ez ▸ s32_at (by decide) [] 0 32 .emp (by decide) rfl _ (startsH _) rfl), fc ⟨(patE ez ▸ s32_at (by decide) [] 0 32 .emp (by decide) rfl _ (startsH _) rfl), fc ⟨oL _ 25 (startsH _) rfl rfl rfl, fc ⟨s55_one (by decide) (by decide) (by decide) kx _ (startsH _) rfl rfl rfl, fc ⟨to_at (by decide) xs (by omega) _ (startsH _) rfl rfl, fc ⟨sm _ 28 (by decide) (startsH _) rfl rfl rfl, fc ⟨(by rw [hM, hX, hY]; exact (s56_at hx hy h1 (by omega)).2.2 _ _ (startsH _) rfl), fc ⟨(by rw [hM1, hX, hY]; exact (s56_at hx hy (m := m + 1) (by omega) (by omega)).2.2 _ _ (startsH _) rfl), fc ⟨(by rw [hX, hY]; exact (s56_at hx hy (m := 2) (by decide) (by decide)).2.2 _ _ (startsH _) rfl), fc ⟨s32_bin hx hy (m := m) h1 (by omega) (by decide) _ (startsH _) rfl, fc ⟨s32_bin hx hy (m := (m + 1)) (by omega) (by omega) (by decide) _ (startsH _) rfl, fc ⟨s32_bin hx hy (m := 2) (by decide) (by decide) (by decide) _ (startsH _) rfl, fN⟩⟩⟩⟩⟩⟩⟩⟩⟩⟩⟩⟩⟩⟩⟩⟩⟩⟩⟩⟩⟩⟩⟩, fc ⟨cB _ (startsH _) rfl rfl, fN⟩⟩)
  exact ⟨_, ok, ap1_p0 _ n0 n1 n2 _ _ (patF xs) (patF ys) (patF (reL reP xs ys xs.length)) (patF (zsR x y 0 (binR m))) (patF (zsR x y 0 (binR (m + 1)))) (patF (zsR x y 0 (binR 2))) (vL) (vB) (svA 11 xs.length) (svA 12 ys.length) (svA 13 (reL reP xs ys xs.length).length) (svA 14 ys.length) (svA 15 xs.length) (svA 16 (reL reP ys xs ys.length).length) (svA 17 xs.length) (svA 19 ys.length) (vL) (vL) (svA 25 xs.length) (svA 27 xs.length) (svA 28 xs.length) (sl 29 0 m m) (sl 30 0 (m + 1) (m + 1)) (sl 31 0 2 2) (sl 33 0 m m) (sl 36 0 (m + 1) (m + 1)) (sl 39 0 2 2) (r8) (r9) (rwA 32 xs.length (srs xs)) (rwA 32 ys.length (srs ys)) (rwA 32 (reL reP xs ys xs.length).length (srs (reL reP xs ys xs.length))) (rwA 32 ys.length (srs ys)) (rwA 32 xs.length (srs xs)) (rwA 32 (reL reP ys xs ys.length).length (srs (reL reP ys xs ys.length))) (rwA 32 xs.length (srs xs)) (rwA 32 ys.length (srs ys)) (none) (none) (rwA 32 xs.length (srs xs)) (rwA 32 xs.length (srs xs)) (rwA 24 xs.length (srs xs)) (rS (zsR x y 0 (binR m)) 32 .row) (rS (zsR x y 0 (binR (m + 1))) 32 .row) (rS (zsR x y 0 (binR 2)) 32 .row) (rS (zsR x y 0 (binR m)) 32 .row) (rS (zsR x y 0 (binR (m + 1))) 32 .row) (rS (zsR x y 0 (binR 2)) 32 .row) hl1 g1 hl2 g2 (pN one 0 rfl) (pN one 23 rfl) (pA one 1 rfl) (pA one 2 rfl) (pA one 3 rfl) (pA one 4 rfl) (pA one 5 rfl) (pA one 6 rfl) (pA one 7 rfl) (pN one 8 rfl) (pA one 9 rfl) (pN one 10 rfl) (app_nil (lim := 10) (k := 21) (r := 13) (A := (H [r8, r9, wB n0 n1 n2, rwA 32 xs.length (srs xs), rwA 32 ys.length (srs ys), rwA 32 (reL reP xs ys xs.length).length (srs (reL reP xs ys xs.length)), rwA 32 ys.length (srs ys), rwA 32 xs.length (srs xs), rwA 32 (reL reP ys xs ys.length).length (srs (reL reP ys xs ys.length)), rwA 32 xs.length (srs xs), wA (patF xs), rwA 32 ys.length (srs ys), wA (patF ys), wE])) ez (by kernel_rfl)) (pN one 11 rfl) (app_nil (lim := 10) (k := 23) (r := 16) (A := (H [r8, r9, wB n0 n1 n2, rwA 32 xs.length (srs xs), rwA 32 ys.length (srs ys), rwA 32 (reL reP xs ys xs.length).length (srs (reL reP xs ys xs.length)), rwA 32 ys.length (srs ys), rwA 32 xs.length (srs xs), rwA 32 (reL reP ys xs ys.length).length (srs (reL reP ys xs ys.length)), rwA 32 xs.length (srs xs), wA (patF xs), rwA 32 ys.length (srs ys), wA (patF ys), wE, wA (patF (reL reP xs ys xs.length)), wE])) ew (by kernel_rfl)) (pN one 12 rfl) (pA one 13 rfl) (pA one 14 rfl) (pA one 15 rfl) (pN one 16 rfl) (pA one 17 rfl) (pA one 18 rfl) (pA one 19 rfl) (app_bin hx hy (m := m) h1 (by omega) (lim := 10) (k := 32) (r := 29) (A := (H [r8, r9, wB n0 n1 n2, rwA 32 xs.length (srs xs), rwA 32 ys.length (srs ys), rwA 32 (reL reP xs ys xs.length).length (srs (reL reP xs ys xs.length)), rwA 32 ys.length (srs ys), rwA 32 xs.length (srs xs), rwA 32 (reL reP ys xs ys.length).length (srs (reL reP ys xs ys.length)), rwA 32 xs.length (srs xs), wA (patF xs), rwA 32 ys.length (srs ys), wA (patF ys), wE, wA (patF (reL reP xs ys xs.length)), wE, wA (patF (reL reP xs ys xs.length)), rwA 32 xs.length (srs xs), w1, rwA 32 xs.length (srs xs), rwA 24 xs.length (srs xs), rS (zsR x y 0 (binR m)) 32 .row, rS (zsR x y 0 (binR (m + 1))) 32 .row, rS (zsR x y 0 (binR 2)) 32 .row, wE])) rfl rfl) (pN one 20 rfl) (app_bin hx hy (m := (m + 1)) (by omega) (by omega) (lim := 10) (k := 35) (r := 30) (A := (H [r8, r9, wB n0 n1 n2, rwA 32 xs.length (srs xs), rwA 32 ys.length (srs ys), rwA 32 (reL reP xs ys xs.length).length (srs (reL reP xs ys xs.length)), rwA 32 ys.length (srs ys), rwA 32 xs.length (srs xs), rwA 32 (reL reP ys xs ys.length).length (srs (reL reP ys xs ys.length)), rwA 32 xs.length (srs xs), wA (patF xs), rwA 32 ys.length (srs ys), wA (patF ys), wE, wA (patF (reL reP xs ys xs.length)), wE, wA (patF (reL reP xs ys xs.length)), rwA 32 xs.length (srs xs), w1, rwA 32 xs.length (srs xs), rwA 24 xs.length (srs xs), rS (zsR x y 0 (binR m)) 32 .row, rS (zsR x y 0 (binR (m + 1))) 32 .row, rS (zsR x y 0 (binR 2)) 32 .row, wE, rS (zsR x y 0 (binR m)) 32 .row, wA (patF (zsR x y 0 (binR m))), wE])) rfl rfl) (pN one 21 rfl) (app_bin hx hy (m := 2) (by decide) (by decide) (lim := 10) (k := 38) (r := 31) (A := (H [r8, r9, wB n0 n1 n2, rwA 32 xs.length (srs xs), rwA 32 ys.length (srs ys), rwA 32 (reL reP xs ys xs.length).length (srs (reL reP xs ys xs.length)), rwA 32 ys.length (srs ys), rwA 32 xs.length (srs xs), rwA 32 (reL reP ys xs ys.length).length (srs (reL reP ys xs ys.length)), rwA 32 xs.length (srs xs), wA (patF xs), rwA 32 ys.length (srs ys), wA (patF ys), wE, wA (patF (reL reP xs ys xs.length)), wE, wA (patF (reL reP xs ys xs.length)), rwA 32 xs.length (srs xs), w1, rwA 32 xs.length (srs xs), rwA 24 xs.length (srs xs), rS (zsR x y 0 (binR m)) 32 .row, rS (zsR x y 0 (binR (m + 1))) 32 .row, rS (zsR x y 0 (binR 2)) 32 .row, wE, rS (zsR x y 0 (binR m)) 32 .row, wA (patF (zsR x y 0 (binR m))), wE, rS (zsR x y 0 (binR (m + 1))) 32 .row, wA (patF (zsR x y 0 (binR (m + 1)))), wE])) rfl rfl) (pN one 22 rfl) g3 hl3 (by simp) (q_rep kx ky hz 0 rfl) (q_rep kx ky hz 1 rfl) (q_rep kx ky hz 2 rfl) (q_rep kx ky hz 3 rfl) (q_rep kx ky hz 4 rfl) (q_rep kx ky hz 5 rfl) (q_rep kx ky hz 6 rfl) (q_rep kx ky hz 7 rfl) (q_bin hx hy h1 h8 0 rfl) (q_bin hx hy h1 h8 1 rfl) (q_bin hx hy h1 h8 2 rfl) (q_bin hx hy h1 h8 3 rfl) (q_bin hx hy h1 h8 4 rfl) (q_bin hx hy h1 h8 5 rfl) (q_bin hx hy h1 h8 6 rfl) (q_bin hx hy h1 h8 7 rfl)⟩
theorem prod_0 {vL vB : Value} {r8 r9 : Option ARow} {xs ys : List Sr} {n0 n1 n2 x y : Int} {m : Nat} (hl1 : aLen Tryz.prog #[22] vL = some (I (xs.length : Int))) (hl2 : aLen Tryz.prog #[22] vB = some (I (ys.length : Int))) (lx : xs.length ≤ 4) (ly : ys.length ≤ 4) (kx : chkR xs = 0) (ky : chkR ys = 0)
    (cL : ∀ A, startsB heap0 A = true → hget A 8 = r8 → hget A 9 = r9 → SaysAt Tryz.prog 8 25 [vL] A (I 0) (A ++ [])) (cB : ∀ A, startsB heap0 A = true → hget A 8 = r8 → hget A 9 = r9 → SaysAt Tryz.prog 8 25 [vB] A (I 0) (A ++ []))
    (oL : ∀ A p, startsB heap0 A = true → hget A 8 = r8 → hget A 9 = r9 → A.length = p → SaysAt Tryz.prog 8 20 [vL] A (svA p xs.length) (A ++ [rwA 32 xs.length (srs xs)])) (oB : ∀ A p, startsB heap0 A = true → hget A 8 = r8 → hget A 9 = r9 → A.length = p → SaysAt Tryz.prog 8 20 [vB] A (svA p ys.length) (A ++ [rwA 32 ys.length (srs ys)]))
    (sm : ∀ A p, 10 ≤ p → startsB heap0 A = true → hget A 8 = r8 → hget A 9 = r9 → hget A p = rwA 24 xs.length (srs xs) → SaysAt Tryz.prog 8 76 [svA p xs.length, vL] A (.bool true) (A ++ []))
    (hM : mM n0 = (m : Int)) (hX : mX n1 = x) (hY : mX n2 = y) (h1 : 1 ≤ m) (h8 : m ≤ 8) (hx : -11 ≤ x ∧ x ≤ 11) (hy : -11 ≤ y ∧ y ≤ 11)
    (hz : chkR (reL reP xs ys xs.length) = 0) (nz : reL reP xs ys xs.length ≠ []) (nw : reL reP ys xs ys.length ≠ []) : LawS 12 [vL, vB, .agg #[.int .u8 n0, .int .u8 n1, .int .u8 n2]] (H [r8, r9]) := by
  have hw : chkR (reL reP ys xs ys.length) = 0 := by rw [← chk_comm (okS_mem kx) (okS_mem ky) (lz16 kx ky lx ly)]; exact hz
  have g1 : decide ((xs.length : Int) > 4) = false := decide_eq_false (by omega)
  have g2 : decide ((ys.length : Int) > 4) = false := decide_eq_false (by omega)
  have hM1 : mM1 n0 = ((m + 1 : Nat) : Int) := by unfold mM1; rw [hM]; exact wS (by omega) (by omega)
  have g3 : (mM1 n0 != mM1 n0) = false := by simp
  have hl3 : aLen Tryz.prog #[37] (sl 32 0 (m + 1) (m + 1)) = some (I (mM1 n0)) := by rw [hM1]; kernel_rfl
  let L1 : List CallC := [⟨25, [vL], (H [r8, r9, wB n0 n1 n2]), I 0, []⟩, ⟨20, [vL], (H [r8, r9, wB n0 n1 n2]), svA 11 xs.length, [rwA 32 xs.length (srs xs)]⟩, ⟨20, [vB], (H [r8, r9, wB n0 n1 n2, rwA 32 xs.length (srs xs)]), svA 12 ys.length, [rwA 32 ys.length (srs ys)]⟩, ⟨55, [svA 11 xs.length, svA 12 ys.length], (H [r8, r9, wB n0 n1 n2, rwA 32 xs.length (srs xs), rwA 32 ys.length (srs ys)]), .tuple #[svA 13 (reL reP xs ys xs.length).length, I 0], [rwA 32 (reL reP xs ys xs.length).length (srs (reL reP xs ys xs.length))]⟩, ⟨20, [vB], (H [r8, r9, wB n0 n1 n2, rwA 32 xs.length (srs xs), rwA 32 ys.length (srs ys), rwA 32 (reL reP xs ys xs.length).length (srs (reL reP xs ys xs.length))]), svA 14 ys.length, [rwA 32 ys.length (srs ys)]⟩, ⟨20, [vL], (H [r8, r9, wB n0 n1 n2, rwA 32 xs.length (srs xs), rwA 32 ys.length (srs ys), rwA 32 (reL reP xs ys xs.length).length (srs (reL reP xs ys xs.length)), rwA 32 ys.length (srs ys)]), svA 15 xs.length, [rwA 32 xs.length (srs xs)]⟩, ⟨55, [svA 14 ys.length, svA 15 xs.length], (H [r8, r9, wB n0 n1 n2, rwA 32 xs.length (srs xs), rwA 32 ys.length (srs ys), rwA 32 (reL reP xs ys xs.length).length (srs (reL reP xs ys xs.length)), rwA 32 ys.length (srs ys), rwA 32 xs.length (srs xs)]), .tuple #[svA 16 (reL reP ys xs ys.length).length, I 0], [rwA 32 (reL reP ys xs ys.length).length (srs (reL reP ys xs ys.length))]⟩, ⟨20, [vL], (H [r8, r9, wB n0 n1 n2, rwA 32 xs.length (srs xs), rwA 32 ys.length (srs ys), rwA 32 (reL reP xs ys xs.length).length (srs (reL reP xs ys xs.length)), rwA 32 ys.length (srs ys), rwA 32 xs.length (srs xs), rwA 32 (reL reP ys xs ys.length).length (srs (reL reP ys xs ys.length))]), svA 17 xs.length, [rwA 32 xs.length (srs xs)]⟩, ⟨32, [svA 17 xs.length], (H [r8, r9, wB n0 n1 n2, rwA 32 xs.length (srs xs), rwA 32 ys.length (srs ys), rwA 32 (reL reP xs ys xs.length).length (srs (reL reP xs ys xs.length)), rwA 32 ys.length (srs ys), rwA 32 xs.length (srs xs), rwA 32 (reL reP ys xs ys.length).length (srs (reL reP ys xs ys.length)), rwA 32 xs.length (srs xs)]), .tuple #[gA (patF xs), I 0], []⟩, ⟨20, [vB], (H [r8, r9, wB n0 n1 n2, rwA 32 xs.length (srs xs), rwA 32 ys.length (srs ys), rwA 32 (reL reP xs ys xs.length).length (srs (reL reP xs ys xs.length)), rwA 32 ys.length (srs ys), rwA 32 xs.length (srs xs), rwA 32 (reL reP ys xs ys.length).length (srs (reL reP ys xs ys.length)), rwA 32 xs.length (srs xs), wA (patF xs)]), svA 19 ys.length, [rwA 32 ys.length (srs ys)]⟩, ⟨32, [svA 19 ys.length], (H [r8, r9, wB n0 n1 n2, rwA 32 xs.length (srs xs), rwA 32 ys.length (srs ys), rwA 32 (reL reP xs ys xs.length).length (srs (reL reP xs ys xs.length)), rwA 32 ys.length (srs ys), rwA 32 xs.length (srs xs), rwA 32 (reL reP ys xs ys.length).length (srs (reL reP ys xs ys.length)), rwA 32 xs.length (srs xs), wA (patF xs), rwA 32 ys.length (srs ys)]), .tuple #[gA (patF ys), I 0], []⟩, ⟨32, [sl 22 0 (reL reP xs ys xs.length).length (reL reP xs ys xs.length).length], (H [r8, r9, wB n0 n1 n2, rwA 32 xs.length (srs xs), rwA 32 ys.length (srs ys), rwA 32 (reL reP xs ys xs.length).length (srs (reL reP xs ys xs.length)), rwA 32 ys.length (srs ys), rwA 32 xs.length (srs xs), rwA 32 (reL reP ys xs ys.length).length (srs (reL reP ys xs ys.length)), rwA 32 xs.length (srs xs), wA (patF xs), rwA 32 ys.length (srs ys), wA (patF ys), wE, rS (reL reP xs ys xs.length) 32 .row]), .tuple #[gA (patF (reL reP xs ys xs.length)), I 0], []⟩, ⟨32, [sl 25 0 (reL reP ys xs ys.length).length (reL reP ys xs ys.length).length], (H [r8, r9, wB n0 n1 n2, rwA 32 xs.length (srs xs), rwA 32 ys.length (srs ys), rwA 32 (reL reP xs ys xs.length).length (srs (reL reP xs ys xs.length)), rwA 32 ys.length (srs ys), rwA 32 xs.length (srs xs), rwA 32 (reL reP ys xs ys.length).length (srs (reL reP ys xs ys.length)), rwA 32 xs.length (srs xs), wA (patF xs), rwA 32 ys.length (srs ys), wA (patF ys), wE, rS (reL reP xs ys xs.length) 32 .row, wA (patF (reL reP xs ys xs.length)), wE, rS (reL reP ys xs ys.length) 32 .row]), .tuple #[gA (patF (reL reP xs ys xs.length)), I 0], []⟩, ⟨20, [vL], (H [r8, r9, wB n0 n1 n2, rwA 32 xs.length (srs xs), rwA 32 ys.length (srs ys), rwA 32 (reL reP xs ys xs.length).length (srs (reL reP xs ys xs.length)), rwA 32 ys.length (srs ys), rwA 32 xs.length (srs xs), rwA 32 (reL reP ys xs ys.length).length (srs (reL reP ys xs ys.length)), rwA 32 xs.length (srs xs), wA (patF xs), rwA 32 ys.length (srs ys), wA (patF ys), wE, rS (reL reP xs ys xs.length) 32 .row, wA (patF (reL reP xs ys xs.length)), wE, rS (reL reP ys xs ys.length) 32 .row, wA (patF (reL reP xs ys xs.length))]), svA 27 xs.length, [rwA 32 xs.length (srs xs)]⟩, ⟨55, [svA 27 xs.length, sl 28 0 1 1], (H [r8, r9, wB n0 n1 n2, rwA 32 xs.length (srs xs), rwA 32 ys.length (srs ys), rwA 32 (reL reP xs ys xs.length).length (srs (reL reP xs ys xs.length)), rwA 32 ys.length (srs ys), rwA 32 xs.length (srs xs), rwA 32 (reL reP ys xs ys.length).length (srs (reL reP ys xs ys.length)), rwA 32 xs.length (srs xs), wA (patF xs), rwA 32 ys.length (srs ys), wA (patF ys), wE, rS (reL reP xs ys xs.length) 32 .row, wA (patF (reL reP xs ys xs.length)), wE, rS (reL reP ys xs ys.length) 32 .row, wA (patF (reL reP xs ys xs.length)), rwA 32 xs.length (srs xs), w1]), .tuple #[svA 29 xs.length, I 0], [rwA 32 xs.length (srs xs)]⟩, ⟨77, [svA 29 xs.length], (H [r8, r9, wB n0 n1 n2, rwA 32 xs.length (srs xs), rwA 32 ys.length (srs ys), rwA 32 (reL reP xs ys xs.length).length (srs (reL reP xs ys xs.length)), rwA 32 ys.length (srs ys), rwA 32 xs.length (srs xs), rwA 32 (reL reP ys xs ys.length).length (srs (reL reP ys xs ys.length)), rwA 32 xs.length (srs xs), wA (patF xs), rwA 32 ys.length (srs ys), wA (patF ys), wE, rS (reL reP xs ys xs.length) 32 .row, wA (patF (reL reP xs ys xs.length)), wE, rS (reL reP ys xs ys.length) 32 .row, wA (patF (reL reP xs ys xs.length)), rwA 32 xs.length (srs xs), w1, rwA 32 xs.length (srs xs)]), svA 30 xs.length, [rwA 24 xs.length (srs xs)]⟩, ⟨76, [svA 30 xs.length, vL], (H [r8, r9, wB n0 n1 n2, rwA 32 xs.length (srs xs), rwA 32 ys.length (srs ys), rwA 32 (reL reP xs ys xs.length).length (srs (reL reP xs ys xs.length)), rwA 32 ys.length (srs ys), rwA 32 xs.length (srs xs), rwA 32 (reL reP ys xs ys.length).length (srs (reL reP ys xs ys.length)), rwA 32 xs.length (srs xs), wA (patF xs), rwA 32 ys.length (srs ys), wA (patF ys), wE, rS (reL reP xs ys xs.length) 32 .row, wA (patF (reL reP xs ys xs.length)), wE, rS (reL reP ys xs ys.length) 32 .row, wA (patF (reL reP xs ys xs.length)), rwA 32 xs.length (srs xs), w1, rwA 32 xs.length (srs xs), rwA 24 xs.length (srs xs)]), .bool true, []⟩, ⟨56, [I (mM n0), I (mX n1), I (mX n2)], (H [r8, r9, wB n0 n1 n2, rwA 32 xs.length (srs xs), rwA 32 ys.length (srs ys), rwA 32 (reL reP xs ys xs.length).length (srs (reL reP xs ys xs.length)), rwA 32 ys.length (srs ys), rwA 32 xs.length (srs xs), rwA 32 (reL reP ys xs ys.length).length (srs (reL reP ys xs ys.length)), rwA 32 xs.length (srs xs), wA (patF xs), rwA 32 ys.length (srs ys), wA (patF ys), wE, rS (reL reP xs ys xs.length) 32 .row, wA (patF (reL reP xs ys xs.length)), wE, rS (reL reP ys xs ys.length) 32 .row, wA (patF (reL reP xs ys xs.length)), rwA 32 xs.length (srs xs), w1, rwA 32 xs.length (srs xs), rwA 24 xs.length (srs xs)]), .tuple #[sl 31 0 m m, I 0], [rS (zsR x y 0 (binR m)) 32 .row]⟩, ⟨56, [I (mM1 n0), I (mX n1), I (mX n2)], (H [r8, r9, wB n0 n1 n2, rwA 32 xs.length (srs xs), rwA 32 ys.length (srs ys), rwA 32 (reL reP xs ys xs.length).length (srs (reL reP xs ys xs.length)), rwA 32 ys.length (srs ys), rwA 32 xs.length (srs xs), rwA 32 (reL reP ys xs ys.length).length (srs (reL reP ys xs ys.length)), rwA 32 xs.length (srs xs), wA (patF xs), rwA 32 ys.length (srs ys), wA (patF ys), wE, rS (reL reP xs ys xs.length) 32 .row, wA (patF (reL reP xs ys xs.length)), wE, rS (reL reP ys xs ys.length) 32 .row, wA (patF (reL reP xs ys xs.length)), rwA 32 xs.length (srs xs), w1, rwA 32 xs.length (srs xs), rwA 24 xs.length (srs xs), rS (zsR x y 0 (binR m)) 32 .row]), .tuple #[sl 32 0 (m + 1) (m + 1), I 0], [rS (zsR x y 0 (binR (m + 1))) 32 .row]⟩, ⟨56, [I 2, I (mX n1), I (mX n2)], (H [r8, r9, wB n0 n1 n2, rwA 32 xs.length (srs xs), rwA 32 ys.length (srs ys), rwA 32 (reL reP xs ys xs.length).length (srs (reL reP xs ys xs.length)), rwA 32 ys.length (srs ys), rwA 32 xs.length (srs xs), rwA 32 (reL reP ys xs ys.length).length (srs (reL reP ys xs ys.length)), rwA 32 xs.length (srs xs), wA (patF xs), rwA 32 ys.length (srs ys), wA (patF ys), wE, rS (reL reP xs ys xs.length) 32 .row, wA (patF (reL reP xs ys xs.length)), wE, rS (reL reP ys xs ys.length) 32 .row, wA (patF (reL reP xs ys xs.length)), rwA 32 xs.length (srs xs), w1, rwA 32 xs.length (srs xs), rwA 24 xs.length (srs xs), rS (zsR x y 0 (binR m)) 32 .row, rS (zsR x y 0 (binR (m + 1))) 32 .row]), .tuple #[sl 33 0 2 2, I 0], [rS (zsR x y 0 (binR 2)) 32 .row]⟩, ⟨32, [sl 35 0 m m], (H [r8, r9, wB n0 n1 n2, rwA 32 xs.length (srs xs), rwA 32 ys.length (srs ys), rwA 32 (reL reP xs ys xs.length).length (srs (reL reP xs ys xs.length)), rwA 32 ys.length (srs ys), rwA 32 xs.length (srs xs), rwA 32 (reL reP ys xs ys.length).length (srs (reL reP ys xs ys.length)), rwA 32 xs.length (srs xs), wA (patF xs), rwA 32 ys.length (srs ys), wA (patF ys), wE, rS (reL reP xs ys xs.length) 32 .row, wA (patF (reL reP xs ys xs.length)), wE, rS (reL reP ys xs ys.length) 32 .row, wA (patF (reL reP xs ys xs.length)), rwA 32 xs.length (srs xs), w1, rwA 32 xs.length (srs xs), rwA 24 xs.length (srs xs), rS (zsR x y 0 (binR m)) 32 .row, rS (zsR x y 0 (binR (m + 1))) 32 .row, rS (zsR x y 0 (binR 2)) 32 .row, wE, rS (zsR x y 0 (binR m)) 32 .row]), .tuple #[gA (patF (zsR x y 0 (binR m))), I 0], []⟩, ⟨32, [sl 38 0 (m + 1) (m + 1)], (H [r8, r9, wB n0 n1 n2, rwA 32 xs.length (srs xs), rwA 32 ys.length (srs ys), rwA 32 (reL reP xs ys xs.length).length (srs (reL reP xs ys xs.length)), rwA 32 ys.length (srs ys), rwA 32 xs.length (srs xs), rwA 32 (reL reP ys xs ys.length).length (srs (reL reP ys xs ys.length)), rwA 32 xs.length (srs xs), wA (patF xs), rwA 32 ys.length (srs ys), wA (patF ys), wE, rS (reL reP xs ys xs.length) 32 .row, wA (patF (reL reP xs ys xs.length)), wE, rS (reL reP ys xs ys.length) 32 .row, wA (patF (reL reP xs ys xs.length)), rwA 32 xs.length (srs xs), w1, rwA 32 xs.length (srs xs), rwA 24 xs.length (srs xs), rS (zsR x y 0 (binR m)) 32 .row, rS (zsR x y 0 (binR (m + 1))) 32 .row, rS (zsR x y 0 (binR 2)) 32 .row, wE, rS (zsR x y 0 (binR m)) 32 .row, wA (patF (zsR x y 0 (binR m))), wE, rS (zsR x y 0 (binR (m + 1))) 32 .row]), .tuple #[gA (patF (zsR x y 0 (binR (m + 1)))), I 0], []⟩, ⟨32, [sl 41 0 2 2], (H [r8, r9, wB n0 n1 n2, rwA 32 xs.length (srs xs), rwA 32 ys.length (srs ys), rwA 32 (reL reP xs ys xs.length).length (srs (reL reP xs ys xs.length)), rwA 32 ys.length (srs ys), rwA 32 xs.length (srs xs), rwA 32 (reL reP ys xs ys.length).length (srs (reL reP ys xs ys.length)), rwA 32 xs.length (srs xs), wA (patF xs), rwA 32 ys.length (srs ys), wA (patF ys), wE, rS (reL reP xs ys xs.length) 32 .row, wA (patF (reL reP xs ys xs.length)), wE, rS (reL reP ys xs ys.length) 32 .row, wA (patF (reL reP xs ys xs.length)), rwA 32 xs.length (srs xs), w1, rwA 32 xs.length (srs xs), rwA 24 xs.length (srs xs), rS (zsR x y 0 (binR m)) 32 .row, rS (zsR x y 0 (binR (m + 1))) 32 .row, rS (zsR x y 0 (binR 2)) 32 .row, wE, rS (zsR x y 0 (binR m)) 32 .row, wA (patF (zsR x y 0 (binR m))), wE, rS (zsR x y 0 (binR (m + 1))) 32 .row, wA (patF (zsR x y 0 (binR (m + 1)))), wE, rS (zsR x y 0 (binR 2)) 32 .row]), .tuple #[gA (patF (zsR x y 0 (binR 2))), I 0], []⟩]
  let X : List CallC := [⟨25, [vB], (H [r8, r9, wB n0 n1 n2]), I 0, []⟩]
  have one := calls_two (L1 := L1) (X := X) rfl (fc ⟨List.forall_mem_append.2 ⟨fc ⟨fun _ _ => ⟨rfl, rfl⟩, fc ⟨fun h => ne_f rfl h, fc ⟨fun h => ne_f rfl h, fc ⟨fun h => ne_f rfl h, fc ⟨fun h => ne_f rfl h, fc ⟨fun h => ne_f rfl h, fc ⟨fun h => ne_f rfl h, fc ⟨fun h => ne_f rfl h, fc ⟨fun h => ne_f rfl h, fc ⟨fun h => ne_f rfl h, fc ⟨fun h => ne_f rfl h, fc ⟨fun h => ne_f rfl h, fc ⟨fun h => ne_f rfl h, fc ⟨fun h => ne_f rfl h, fc ⟨fun h => ne_f rfl h, fc ⟨fun h => ne_f rfl h, fc ⟨fun h => ne_f rfl h, fc ⟨fun h => ne_f rfl h, fc ⟨fun h => ne_f rfl h, fc ⟨fun h => ne_f rfl h, fc ⟨fun h => ne_f rfl h, fc ⟨fun h => ne_f rfl h, fc ⟨fun h => ne_f rfl h, fN⟩⟩⟩⟩⟩⟩⟩⟩⟩⟩⟩⟩⟩⟩⟩⟩⟩⟩⟩⟩⟩⟩⟩, fc ⟨fun _ _ => ⟨rfl, rfl⟩, fN⟩⟩, fN⟩)
  have ok : EnvOK Tryz.prog 8 (eP (L1 ++ X)) := Env.calls_ok envM_ok (List.forall_mem_append.2 ⟨fc ⟨cL _ (startsH _) rfl rfl, fc ⟨oL _ 11 (startsH _) rfl rfl rfl, fc ⟨oB _ 12 (startsH _) rfl rfl rfl, fc ⟨s55_ok (by decide) (by decide) (by decide) kx ky hz _ (startsH _) rfl rfl rfl, fc ⟨oB _ 14 (startsH _) rfl rfl rfl, fc ⟨oL _ 15 (startsH _) rfl rfl rfl, fc ⟨s55_ok (by decide) (by decide) (by decide) ky kx hw _ (startsH _) rfl rfl rfl, fc ⟨oL _ 17 (startsH _) rfl rfl rfl, fc ⟨s32_sv (by decide) kx _ (startsH _) rfl, fc ⟨oB _ 19 (startsH _) rfl rfl rfl, fc ⟨s32_sv (by decide) ky _ (startsH _) rfl, fc ⟨s32_at (by decide) _ _ 32 .row (by have := chk16 hz; omega) hz _ (startsH _) rfl, fc ⟨(gA_comm kx ky hz hw ▸ s32_at (by decide) _ _ 32 .row (by have := chk16 hw; omega) hw _ (startsH _) rfl), fc ⟨oL _ 27 (startsH _) rfl rfl rfl, fc ⟨s55_one (by decide) (by decide) (by decide) kx _ (startsH _) rfl rfl rfl, fc ⟨to_at (by decide) xs (by omega) _ (startsH _) rfl rfl, fc ⟨sm _ 30 (by decide) (startsH _) rfl rfl rfl, fc ⟨(by rw [hM, hX, hY]; exact (s56_at hx hy h1 (by omega)).2.2 _ _ (startsH _) rfl), fc ⟨(by rw [hM1, hX, hY]; exact (s56_at hx hy (m := m + 1) (by omega) (by omega)).2.2 _ _ (startsH _) rfl), fc ⟨(by rw [hX, hY]; exact (s56_at hx hy (m := 2) (by decide) (by decide)).2.2 _ _ (startsH _) rfl), fc ⟨s32_bin hx hy (m := m) h1 (by omega) (by decide) _ (startsH _) rfl, fc ⟨s32_bin hx hy (m := (m + 1)) (by omega) (by omega) (by decide) _ (startsH _) rfl, fc ⟨s32_bin hx hy (m := 2) (by decide) (by decide) (by decide) _ (startsH _) rfl, fN⟩⟩⟩⟩⟩⟩⟩⟩⟩⟩⟩⟩⟩⟩⟩⟩⟩⟩⟩⟩⟩⟩⟩, fc ⟨cB _ (startsH _) rfl rfl, fN⟩⟩)
  exact ⟨_, ok, ap0_p0 _ n0 n1 n2 _ _ (patF xs) (patF ys) (patF (reL reP xs ys xs.length)) (patF (zsR x y 0 (binR m))) (patF (zsR x y 0 (binR (m + 1)))) (patF (zsR x y 0 (binR 2))) (vL) (vB) (svA 11 xs.length) (svA 12 ys.length) (svA 13 (reL reP xs ys xs.length).length) (svA 14 ys.length) (svA 15 xs.length) (svA 16 (reL reP ys xs ys.length).length) (svA 17 xs.length) (svA 19 ys.length) (sl 22 0 (reL reP xs ys xs.length).length (reL reP xs ys xs.length).length) (sl 25 0 (reL reP ys xs ys.length).length (reL reP ys xs ys.length).length) (svA 27 xs.length) (svA 29 xs.length) (svA 30 xs.length) (sl 31 0 m m) (sl 32 0 (m + 1) (m + 1)) (sl 33 0 2 2) (sl 35 0 m m) (sl 38 0 (m + 1) (m + 1)) (sl 41 0 2 2) (r8) (r9) (rwA 32 xs.length (srs xs)) (rwA 32 ys.length (srs ys)) (rwA 32 (reL reP xs ys xs.length).length (srs (reL reP xs ys xs.length))) (rwA 32 ys.length (srs ys)) (rwA 32 xs.length (srs xs)) (rwA 32 (reL reP ys xs ys.length).length (srs (reL reP ys xs ys.length))) (rwA 32 xs.length (srs xs)) (rwA 32 ys.length (srs ys)) (rS (reL reP xs ys xs.length) 32 .row) (rS (reL reP ys xs ys.length) 32 .row) (rwA 32 xs.length (srs xs)) (rwA 32 xs.length (srs xs)) (rwA 24 xs.length (srs xs)) (rS (zsR x y 0 (binR m)) 32 .row) (rS (zsR x y 0 (binR (m + 1))) 32 .row) (rS (zsR x y 0 (binR 2)) 32 .row) (rS (zsR x y 0 (binR m)) 32 .row) (rS (zsR x y 0 (binR (m + 1))) 32 .row) (rS (zsR x y 0 (binR 2)) 32 .row) hl1 g1 hl2 g2 (pN one 0 rfl) (pN one 23 rfl) (pA one 1 rfl) (pA one 2 rfl) (pA one 3 rfl) (pA one 4 rfl) (pA one 5 rfl) (pA one 6 rfl) (pA one 7 rfl) (pN one 8 rfl) (pA one 9 rfl) (pN one 10 rfl) (app_sv (lim := 10) (k := 21) (r := 13) (A := (H [r8, r9, wB n0 n1 n2, rwA 32 xs.length (srs xs), rwA 32 ys.length (srs ys), rwA 32 (reL reP xs ys xs.length).length (srs (reL reP xs ys xs.length)), rwA 32 ys.length (srs ys), rwA 32 xs.length (srs xs), rwA 32 (reL reP ys xs ys.length).length (srs (reL reP ys xs ys.length)), rwA 32 xs.length (srs xs), wA (patF xs), rwA 32 ys.length (srs ys), wA (patF ys), wE])) rfl rfl nz (lz16 kx ky lx ly)) (pN one 11 rfl) (app_sv (lim := 10) (k := 24) (r := 16) (A := (H [r8, r9, wB n0 n1 n2, rwA 32 xs.length (srs xs), rwA 32 ys.length (srs ys), rwA 32 (reL reP xs ys xs.length).length (srs (reL reP xs ys xs.length)), rwA 32 ys.length (srs ys), rwA 32 xs.length (srs xs), rwA 32 (reL reP ys xs ys.length).length (srs (reL reP ys xs ys.length)), rwA 32 xs.length (srs xs), wA (patF xs), rwA 32 ys.length (srs ys), wA (patF ys), wE, rS (reL reP xs ys xs.length) 32 .row, wA (patF (reL reP xs ys xs.length)), wE])) rfl rfl nw (lz16 ky kx ly lx)) (pN one 12 rfl) (pA one 13 rfl) (pA one 14 rfl) (pA one 15 rfl) (pN one 16 rfl) (pA one 17 rfl) (pA one 18 rfl) (pA one 19 rfl) (app_bin hx hy (m := m) h1 (by omega) (lim := 10) (k := 34) (r := 31) (A := (H [r8, r9, wB n0 n1 n2, rwA 32 xs.length (srs xs), rwA 32 ys.length (srs ys), rwA 32 (reL reP xs ys xs.length).length (srs (reL reP xs ys xs.length)), rwA 32 ys.length (srs ys), rwA 32 xs.length (srs xs), rwA 32 (reL reP ys xs ys.length).length (srs (reL reP ys xs ys.length)), rwA 32 xs.length (srs xs), wA (patF xs), rwA 32 ys.length (srs ys), wA (patF ys), wE, rS (reL reP xs ys xs.length) 32 .row, wA (patF (reL reP xs ys xs.length)), wE, rS (reL reP ys xs ys.length) 32 .row, wA (patF (reL reP xs ys xs.length)), rwA 32 xs.length (srs xs), w1, rwA 32 xs.length (srs xs), rwA 24 xs.length (srs xs), rS (zsR x y 0 (binR m)) 32 .row, rS (zsR x y 0 (binR (m + 1))) 32 .row, rS (zsR x y 0 (binR 2)) 32 .row, wE])) rfl rfl) (pN one 20 rfl) (app_bin hx hy (m := (m + 1)) (by omega) (by omega) (lim := 10) (k := 37) (r := 32) (A := (H [r8, r9, wB n0 n1 n2, rwA 32 xs.length (srs xs), rwA 32 ys.length (srs ys), rwA 32 (reL reP xs ys xs.length).length (srs (reL reP xs ys xs.length)), rwA 32 ys.length (srs ys), rwA 32 xs.length (srs xs), rwA 32 (reL reP ys xs ys.length).length (srs (reL reP ys xs ys.length)), rwA 32 xs.length (srs xs), wA (patF xs), rwA 32 ys.length (srs ys), wA (patF ys), wE, rS (reL reP xs ys xs.length) 32 .row, wA (patF (reL reP xs ys xs.length)), wE, rS (reL reP ys xs ys.length) 32 .row, wA (patF (reL reP xs ys xs.length)), rwA 32 xs.length (srs xs), w1, rwA 32 xs.length (srs xs), rwA 24 xs.length (srs xs), rS (zsR x y 0 (binR m)) 32 .row, rS (zsR x y 0 (binR (m + 1))) 32 .row, rS (zsR x y 0 (binR 2)) 32 .row, wE, rS (zsR x y 0 (binR m)) 32 .row, wA (patF (zsR x y 0 (binR m))), wE])) rfl rfl) (pN one 21 rfl) (app_bin hx hy (m := 2) (by decide) (by decide) (lim := 10) (k := 40) (r := 33) (A := (H [r8, r9, wB n0 n1 n2, rwA 32 xs.length (srs xs), rwA 32 ys.length (srs ys), rwA 32 (reL reP xs ys xs.length).length (srs (reL reP xs ys xs.length)), rwA 32 ys.length (srs ys), rwA 32 xs.length (srs xs), rwA 32 (reL reP ys xs ys.length).length (srs (reL reP ys xs ys.length)), rwA 32 xs.length (srs xs), wA (patF xs), rwA 32 ys.length (srs ys), wA (patF ys), wE, rS (reL reP xs ys xs.length) 32 .row, wA (patF (reL reP xs ys xs.length)), wE, rS (reL reP ys xs ys.length) 32 .row, wA (patF (reL reP xs ys xs.length)), rwA 32 xs.length (srs xs), w1, rwA 32 xs.length (srs xs), rwA 24 xs.length (srs xs), rS (zsR x y 0 (binR m)) 32 .row, rS (zsR x y 0 (binR (m + 1))) 32 .row, rS (zsR x y 0 (binR 2)) 32 .row, wE, rS (zsR x y 0 (binR m)) 32 .row, wA (patF (zsR x y 0 (binR m))), wE, rS (zsR x y 0 (binR (m + 1))) 32 .row, wA (patF (zsR x y 0 (binR (m + 1)))), wE])) rfl rfl) (pN one 22 rfl) g3 hl3 (by simp) (q_rep kx ky hz 0 rfl) (q_rep kx ky hz 1 rfl) (q_rep kx ky hz 2 rfl) (q_rep kx ky hz 3 rfl) (q_rep kx ky hz 4 rfl) (q_rep kx ky hz 5 rfl) (q_rep kx ky hz 6 rfl) (q_rep kx ky hz 7 rfl) (q_bin hx hy h1 h8 0 rfl) (q_bin hx hy h1 h8 1 rfl) (q_bin hx hy h1 h8 2 rfl) (q_bin hx hy h1 h8 3 rfl) (q_bin hx hy h1 h8 4 rfl) (q_bin hx hy h1 h8 5 rfl) (q_bin hx hy h1 h8 6 rfl) (q_bin hx hy h1 h8 7 rfl)⟩
/-
Binomial rows: errors.
-/
/-
ArrayRepeats: the law at all rows.
-/
/-
ArrayProducts: the law at all rows.
-/
/-- What an argument gives. -/
structure ArgP (v : Value) (xs : List Sr) (r8 r9 : Option ARow) : Prop where
  len : aLen Tryz.prog #[22] v = some (I (xs.length : Int))
  chk : ∀ A, startsB heap0 A = true → hget A 8 = r8 → hget A 9 = r9 → SaysAt Tryz.prog 8 25 [v] A (I (chkR xs)) (A ++ [])
  own : xs.length ≤ 4 → ∀ A p, startsB heap0 A = true → hget A 8 = r8 → hget A 9 = r9 → A.length = p → SaysAt Tryz.prog 8 20 [v] A (svA p xs.length) (A ++ [rwA 32 xs.length (srs xs)])
  sm : xs.length ≤ 4 → ∀ A p, 10 ≤ p → startsB heap0 A = true → hget A 8 = r8 → hget A 9 = r9 → hget A p = rwA 24 xs.length (srs xs) → SaysAt Tryz.prog 8 76 [svA p xs.length, v] A (.bool true) (A ++ [])
theorem argPn (r8 r9 : Option ARow) : ArgP (.slice none 0 0) [] r8 r9 where
  len := by kernel_rfl
  chk := (argNil r8 r9).chk
  own _ A p h0 _ _ _ := by
    have h2 := SaysAt.rows (T := heap0) (R0 := []) (R1 := []) (A := A) (args := [.slice none 0 0]) (v := .slice none 0 0) [] (SaysAt.of_gives prog_ok envB_ok n20_p0) rfl rfl h0 rfl rfl rfl rfl rfl rfl
    rw [List.append_nil] at h2
    exact h2.addNone
  sm _ A p _ h0 _ _ _ := SaysAt.rows (T := heap0) (R0 := []) (R1 := []) [] (SaysAt.of_gives prog_ok envB_ok n76n_p0) rfl rfl h0 rfl rfl rfl rfl rfl rfl
theorem len_sl (r n c : Nat) : aLen Tryz.prog #[22] (.slice (some ⟨r, 0, none⟩) n c) = some (I (n : Int)) := by kernel_rfl
theorem sm_any {r : Nat} (hr : r = 8 ∨ r = 9) (xs : List Sr) (c e : Nat) (u : Use) (hb : xs.length ≤ 1000) (A : Heap) (p : Nat) (hp : 10 ≤ p) (h0 : startsB heap0 A = true) (hA : hget A r = rS xs e u) (h2 : hget A p = rwA 24 xs.length (srs xs)) : SaysAt Tryz.prog 8 76 [svA p xs.length, .slice (some ⟨r, 0, none⟩) xs.length c] A (.bool true) (A ++ []) := by
  cases xs with
  | nil => exact SaysAt.rows (T := heap0) (R0 := [some (.cells [] e u)]) (R1 := []) [r] (SaysAt.of_gives prog_ok envB_ok (n76e_p0 c (some (.cells [] e u)))) rfl rfl h0 (by simp; omega) rfl (rows0 hA) (args1n (by omega)) rfl rfl
  | cons z l =>
    have h := sm_says (z :: l) (z :: l) (l.length + 1) c 24 e .row u hb rfl
    rw [sm_same] at h
    exact SaysAt.rows (T := heapN) (R0 := [rS (z :: l) 24 .row, rS (z :: l) e u]) (R1 := []) [p, r] h rfl rfl (sN h0) (by simp; omega) (by simp [nodupB, place]; omega) (rows2 h2 hA) (args2 (by omega) (by omega) (by omega)) rfl rfl
theorem argP8 (xs : List Sr) (c e : Nat) (u : Use) (r9 : Option ARow) : ArgP (sl 8 0 xs.length c) xs (rS xs e u) r9 where
  len := len_sl ..
  chk := (arg8 xs c e u r9).chk
  own hb A p h0 hA _ hl := own_at (by decide) xs c e u (by omega) h0 hA hl
  sm hb A p hp h0 hA _ h2 := sm_any (.inl rfl) xs c e u (by omega) A p hp h0 hA h2
theorem argP9 (xs : List Sr) (c e : Nat) (u : Use) (r8 : Option ARow) : ArgP (sl 9 0 xs.length c) xs r8 (rS xs e u) where
  len := len_sl ..
  chk := (arg9 xs c e u r8).chk
  own hb A p h0 _ hA hl := own_at (by decide) xs c e u (by omega) h0 hA hl
  sm hb A p hp h0 _ hA h2 := sm_any (.inr rfl) xs c e u (by omega) A p hp h0 hA h2
theorem mM_eq {n : Int} (h : 0 ≤ n ∧ n ≤ 255) : ∃ m : Nat, mM n = (m : Int) ∧ 1 ≤ m ∧ m ≤ 8 := by
  refine ⟨(1 + n % 8).toNat, ?_, by omega, by omega⟩
  unfold mM
  rw [show W n = n from wS (by omega) (by omega), Int.tmod_eq_emod_of_nonneg h.1, show W (1 + n % 8) = 1 + n % 8 from wS (by omega) (by omega)]
  omega
theorem mX_eq {n : Int} (h : 0 ≤ n ∧ n ≤ 255) : -11 ≤ mX n ∧ mX n ≤ 11 := by
  unfold mX
  rw [show W n = n from wS (by omega) (by omega), Int.tmod_eq_emod_of_nonneg h.1, show W (n % 23 - 11) = n % 23 - 11 from wS (by omega) (by omega)]
  omega
theorem law12 {vL vB : Value} {r8 r9 : Option ARow} {xs ys : List Sr} {n0 n1 n2 : Int} (b0 : 0 ≤ n0 ∧ n0 ≤ 255) (b1 : 0 ≤ n1 ∧ n1 ≤ 255) (b2 : 0 ≤ n2 ∧ n2 ≤ 255) (hL : ArgP vL xs r8 r9) (hB : ArgP vB ys r8 r9) (hu : [vL] = [vB] → xs = ys) :
    LawS 12 [vL, vB, .agg #[.int .u8 n0, .int .u8 n1, .int .u8 n2]] (H [r8, r9]) := by
  have e0 : EnvOK Tryz.prog 8 (eP []) := Env.calls_ok envM_ok fN
  by_cases lx : xs.length ≤ 4
  · have g1 : decide ((xs.length : Int) > 4) = false := decide_eq_false (by omega)
    by_cases ly : ys.length ≤ 4
    · have g2 : decide ((ys.length : Int) > 4) = false := decide_eq_false (by omega)
      have h1 := hL.chk (H [r8, r9, wB n0 n1 n2]) (startsH _) rfl rfl
      have h2 := hB.chk (H [r8, r9, wB n0 n1 n2]) (startsH _) rfl rfl
      by_cases kx : chkR xs = 0
      · by_cases ky : chkR ys = 0
        · obtain ⟨m, hm, hm1, hm8⟩ := mM_eq b0
          have cL : ∀ A, startsB heap0 A = true → hget A 8 = r8 → hget A 9 = r9 → SaysAt Tryz.prog 8 25 [vL] A (I 0) (A ++ []) := fun A a b c => kx ▸ hL.chk A a b c
          have cB : ∀ A, startsB heap0 A = true → hget A 8 = r8 → hget A 9 = r9 → SaysAt Tryz.prog 8 25 [vB] A (I 0) (A ++ []) := fun A a b c => ky ▸ hB.chk A a b c
          have l1 : (reL reP xs ys xs.length).length ≤ 16 := by rw [reL_len]; exact lz16 kx ky lx ly
          rcases chk_3 l1 with hz | hz
          · by_cases ez : reL reP xs ys xs.length = []
            · have ew : reL reP ys xs ys.length = [] := by
                have h := congrArg List.length ez
                rw [reL_len] at h
                apply List.eq_nil_of_length_eq_zero
                rw [reL_len, Nat.mul_comm]; exact h
              exact prod_1 hL.len hB.len lx ly kx ky cL cB (hL.own lx) (hB.own ly) (hL.sm lx) hm rfl rfl hm1 hm8 (mX_eq b1) (mX_eq b2) hz ez ew
            · have ew : reL reP ys xs ys.length ≠ [] := fun e => by
                have h := congrArg List.length e
                rw [reL_len] at h
                apply ez
                apply List.eq_nil_of_length_eq_zero
                rw [reL_len, Nat.mul_comm]; exact h
              exact prod_0 hL.len hB.len lx ly kx ky cL cB (hL.own lx) (hB.own ly) (hL.sm lx) hm rfl rfl hm1 hm8 (mX_eq b1) (mX_eq b2) hz ez ew
          · exact prod_2 hL.len hB.len lx ly kx ky cL cB (hL.own lx) (hB.own ly) (hL.sm lx) hm rfl rfl hm1 hm8 (mX_eq b1) (mX_eq b2) hz
        · rw [kx] at h1
          have no : [vL] = [vB] → False := fun e => ky (by rw [← hu e]; exact kx)
          let c : CallC := ⟨25, [vL], H [r8, r9, wB n0 n1 n2], I 0, []⟩
          let d : CallC := ⟨25, [vB], H [r8, r9, wB n0 n1 n2], I (chkR ys), []⟩
          have ok : EnvOK Tryz.prog 8 (eP [c, d]) := Env.calls_ok envM_ok (fc ⟨h1, fc ⟨h2, fN⟩⟩)
          have one : ∀ a ∈ [c, d], ∀ b ∈ [c, d], a.f = b.f → a.args = b.args → a.A = b.A → a.v = b.v ∧ a.R = b.R :=
            fc ⟨fc ⟨fun _ _ _ => ⟨rfl, rfl⟩, fc ⟨fun _ e _ => (no e).elim, fN⟩⟩, fc ⟨fc ⟨fun _ e _ => (no e.symm).elim, fc ⟨fun _ _ _ => ⟨rfl, rfl⟩, fN⟩⟩, fN⟩⟩
          exact ⟨_, ok, apW4_p0 _ n0 n1 n2 _ _ 0 (chkR ys) vL vB r8 r9 hL.len g1 hB.len g2 (pN one 0 rfl) (pN one 1 rfl) (by simpa using ky)⟩
      · let c : CallC := ⟨25, [vL], H [r8, r9, wB n0 n1 n2], I (chkR xs), []⟩
        have ok : EnvOK Tryz.prog 8 (eP [c]) := Env.calls_ok envM_ok (fc ⟨h1, fN⟩)
        have one : ∀ a ∈ [c], ∀ b ∈ [c], a.f = b.f → a.args = b.args → a.A = b.A → a.v = b.v ∧ a.R = b.R := fc ⟨fc ⟨fun _ _ _ => ⟨rfl, rfl⟩, fN⟩, fN⟩
        exact ⟨_, ok, apW3_p0 _ n0 n1 n2 _ _ (chkR xs) 0 vL vB r8 r9 hL.len g1 hB.len g2 (pN one 0 rfl) (by simpa using kx)⟩
    · exact ⟨_, e0, apW2_p0 _ n0 n1 n2 _ _ 0 0 vL vB r8 r9 hL.len g1 hB.len (decide_eq_true (by omega))⟩
  · exact ⟨_, e0, apW1_p0 _ n0 n1 n2 _ 0 0 0 vL vB r8 r9 hL.len (decide_eq_true (by omega))⟩
theorem LawS.dropP {f : FuncId} {args : List Value} {A : Heap} (h : LawS f args (A ++ [none])) : LawM f args A := by
  obtain ⟨E, hE, hg⟩ := h
  have h2 : SaysAt Tryz.prog 8 f args A (.bool true) (A ++ [none]) := (SaysAt.of_gives prog_ok hE hg).dropNone
  exact ⟨_, _, Env.calls_ok envM_ok (fs := [f]) (L := [⟨f, args, A, .bool true, [none]⟩]) (fc ⟨h2, fN⟩), call1 (c := ⟨f, args, A, .bool true, [none]⟩) (by simp)⟩
theorem LawS.dropP2 {f : FuncId} {args : List Value} {A : Heap} (h : LawS f args (A ++ [none] ++ [none])) : LawM f args A := by
  obtain ⟨E, hE, hg⟩ := h
  have h2 : SaysAt Tryz.prog 8 f args A (.bool true) (A ++ [none] ++ [none]) := (SaysAt.of_gives prog_ok hE hg).dropNone.dropNone
  have h3 : SaysAt Tryz.prog 8 f args A (.bool true) (A ++ [none, none]) := by rw [List.append_assoc] at h2; exact h2
  exact ⟨_, _, Env.calls_ok envM_ok (fs := [f]) (L := [⟨f, args, A, .bool true, [none, none]⟩]) (fc ⟨h3, fN⟩), call1 (c := ⟨f, args, A, .bool true, [none, none]⟩) (by simp)⟩
section
variable (n0 n1 n2 : Int) (b0 : 0 ≤ n0 ∧ n0 ≤ 255) (b1 : 0 ≤ n1 ∧ n1 ≤ 255) (b2 : 0 ≤ n2 ∧ n2 ≤ 255)
include b0 b1 b2
theorem runsArrayProducts00 : LawM 12 [.slice none 0 0, .slice none 0 0, .agg #[.int .u8 n0, .int .u8 n1, .int .u8 n2]] heap0 :=
  LawS.dropP2 (law12 b0 b1 b2 (argPn none none) (argPn none none) fun _ => rfl)
theorem runsArrayProducts01 (ys : List Sr) (e : Nat) (u : Use) : LawM 12 [.slice none 0 0, sl 8 0 ys.length ys.length, .agg #[.int .u8 n0, .int .u8 n1, .int .u8 n2]] (heap0 ++ [rS ys e u]) :=
  LawS.dropP (law12 b0 b1 b2 (argPn (rS ys e u) none) (argP8 ys ys.length e u none) fun h => by simp at h)
theorem runsArrayProducts10 (xs : List Sr) (e : Nat) (u : Use) : LawM 12 [sl 8 0 xs.length xs.length, .slice none 0 0, .agg #[.int .u8 n0, .int .u8 n1, .int .u8 n2]] (heap0 ++ [rS xs e u]) :=
  LawS.dropP (law12 b0 b1 b2 (argP8 xs xs.length e u none) (argPn (rS xs e u) none) fun h => by simp at h)
theorem runsArrayProducts11 (xs : List Sr) (e : Nat) (u : Use) (ys : List Sr) (e2 : Nat) (u2 : Use) : LawM 12 [sl 8 0 xs.length xs.length, sl 9 0 ys.length ys.length, .agg #[.int .u8 n0, .int .u8 n1, .int .u8 n2]] (heap0 ++ [rS xs e u] ++ [rS ys e2 u2]) :=
  (law12 b0 b1 b2 (argP8 xs xs.length e u (rS ys e2 u2)) (argP9 ys ys.length e2 u2 (rS xs e u)) fun h => by simp at h).m
end
/-
ArrayPressures: the law is true, if there are sources.
-/
theorem sq_rsq (a b : Int) : sq_r0 a b = rsq_r0 a b := rfl
/-
ArrayPressures: its ways without sources.
-/
/-
ArrayPressures: the law is true.
-/
theorem ListOf_srs : ∀ {n : Nat} {rows : List Value}, ListOf [.int .i64, .int .i64, .int .i64, .int .i64] n rows → ∃ xs : List Sr, xs.length = n ∧ rows = srs xs
  | 0, rows, h => ⟨[], rfl, by have := h.1; simp at this; rw [this]; rfl⟩
  | n + 1, rows, h => by
    obtain ⟨h1, h2⟩ := h
    simp only [List.length_cons, List.length_nil] at h1 h2
    have a := h2 0 (by omega)
    simp only [Nat.zero_mul, List.drop_zero] at a
    obtain ⟨x, c1, e1, _, a⟩ := a.int_inv
    obtain ⟨y, c2, e2, _, a⟩ := a.int_inv
    obtain ⟨g, c3, e3, _, a⟩ := a.int_inv
    obtain ⟨p, c4, e4, _, a⟩ := a.int_inv
    have e5 := a.end
    obtain ⟨xs, g1, g2⟩ := ListOf_srs (n := n) (rows := rows.drop 4) ⟨by simp; omega, fun i hi => by
      have := h2 (i + 1) (by omega)
      simp only [List.length_cons, List.length_nil]
      rw [List.drop_drop]
      have e : 4 + i * (0 + 1 + 1 + 1 + 1) = (i + 1) * (0 + 1 + 1 + 1 + 1) := by omega
      rw [e]; exact this⟩
    refine ⟨⟨x, y, g, p⟩ :: xs, by simp [g1], ?_⟩
    rw [← List.take_append_drop 4 rows, g2, show rows.take 4 = [I x, I y, I g, I p] from by rw [show (4 : Nat) = 0 + 1 + 1 + 1 + 1 from rfl, e1, e2, e3, e4, e5]]
    rfl
end Go.Proofs.YtpdiaiccnaoaiaaGreatDoor
/-
ArrayProducts: from the rows to the statement.
-/
namespace Go.Proofs.YtpdiaiccnaoaiaaGreatDoor.arrayProducts
open Go Go.Abs Go.ChangeShapes Go.WideShapes Go.ChangeAt Go.RowKit

theorem own : ownKnob Tryz.prog.godebug = none := by kernel_rfl
theorem heap0_eq : heap0 = tabRows Tryz.prog Rows.arrayProductsRow.laid 8 := by kernel_rfl
theorem still0 : noOwn heap0 = true := by kernel_rfl
section
variable {H : Type} {enc : TypeId × Value → H} {w : World} {base : Nat} {sp : Nat → Bool} {hd : Bool}
set_option maxRecDepth 100000 in
theorem arg22 {r : Reach} {b0 : Nat} {v : Value} {d : DataW H} {p : List MemPlace} (hv : Value.okWide Tryz.prog w r b0 22 v) (h : DataW.Trod enc Tryz.prog w base (fun _ => true) hd 22 v d p) : CellsAs w [.list 24 [.int .i64, .int .i64, .int .i64, .int .i64]] [v] := by
  obtain ⟨fuel, h⟩ := h
  have hi := args_of 9 22 [.list 24 [.int .i64, .int .i64, .int .i64, .int .i64]] fuel _ _ (by kernel_rfl) h
  have hc : v.cells.toList = [v] := by
    cases v <;> first | rfl | (exfalso; simp [Value.okWide, Cell.okWide, Cell.ok, Tryz.underlying22] at hv)
  rw [hc] at hi
  exact hi
theorem u8r {a : Int} (h : (Lit.int .u8 a).wf = true) : 0 ≤ a ∧ a ≤ 255 := by
  have e1 : IntKind.u8.min = 0 := by decide
  have e2 : IntKind.u8.max = 255 := by decide
  simp [Lit.wf, e1, e2] at h
  omega
set_option maxRecDepth 100000 in
theorem arg126 {r : Reach} {b0 : Nat} {v : Value} {d : DataW H} {p : List MemPlace} (hv : Value.okWide Tryz.prog w r b0 126 v) (h : DataW.Trod enc Tryz.prog w base (fun _ => true) hd 126 v d p) : ∃ (a0 : Int) (a1 : Int) (a2 : Int), v = .agg #[.int .u8 a0, .int .u8 a1, .int .u8 a2] ∧ (0 ≤ a0 ∧ a0 ≤ 255) ∧ (0 ≤ a1 ∧ a1 ≤ 255) ∧ (0 ≤ a2 ∧ a2 ≤ 255) := by
  obtain ⟨fuel, h⟩ := h
  simp only [Value.okWide, Tryz.underlying126] at hv
  obtain ⟨cs, rfl, _, _⟩ := hv
  have hi := args_of 9 126 [.atom (.int .u8), .atom (.int .u8), .atom (.int .u8)] fuel _ _ (by kernel_rfl) h
  simp only [Value.cells] at hi
  obtain ⟨a0, l0, e0, f0, hi⟩ := hi.int_inv
  obtain ⟨a1, l1, e1, f1, hi⟩ := hi.int_inv
  obtain ⟨a2, l2, e2, f2, hi⟩ := hi.int_inv
  have ee := hi.end
  refine ⟨a0, a1, a2, ?_, u8r f0, u8r f1, u8r f2⟩
  rw [← Array.toList_inj.1 (show cs.toList = (#[.int .u8 a0, .int .u8 a1, .int .u8 a2] : Array Value).toList from by rw [e0, e1, e2, ee])]
end
theorem some_row : ∃ i cs e u, hget heap0 i = some (.cells cs e u) := ⟨0, _, _, _, rfl⟩
theorem more_row {A : Heap} {r : Option ARow} (h : ∃ i cs e u, hget A i = some (.cells cs e u)) : ∃ i cs e u, hget (A ++ [r]) i = some (.cells cs e u) := by
  obtain ⟨i, cs, e, u, h⟩ := h
  exact ⟨i, cs, e, u, by rw [hget_append, if_pos (hget_lt h)]; exact h⟩
theorem done {ρ : Go.Abs.Loc} {A : Heap} {args args' : List Value} {W : World} {cd : Code} (hb : Tryz.f12.body = some cd) (h : LawM 12 args A) (ha : VRs ρ args args') (hG : Globs ρ 8) (hR : Rel Tryz.prog ρ A W) (hn : noOwn A = true) :
    Calls Tryz.prog 12 args'.toArray W fun e w' => e = .returned (.bool true) ∧ (w'.os = W.os ∧ w'.output = W.output) ∧ ∀ b, b < W.heap.size → w'.heap[b]? = W.heap[b]? := by
  obtain ⟨E, A1, hE, n, hk⟩ := h
  refine (calls_of (call_sound prog_ok hE n) prog_ok Tryz.func12 hb hk ha hG hR hn).mono ?_
  rintro e w' ⟨v', ρ', rfl, hv, _, hm, hs⟩
  rw [hv.atom_eq rfl]
  exact ⟨rfl, hm.out, hs⟩
theorem calls (x0 : Int) (x1 : Int) (x2 : Int) (c0 : 0 ≤ x0 ∧ x0 ≤ 255) (c1 : 0 ≤ x1 ∧ x1 ≤ 255) (c2 : 0 ≤ x2 ∧ x2 ≤ 255) (v0 v1 : Value) (W : World) (hL : laidMetH Tryz.prog Rows.arrayProductsRow.laid W) (hk0 : CellsAs W [.list 24 [.int .i64, .int .i64, .int .i64, .int .i64]] [v0]) (hk1 : CellsAs W [.list 24 [.int .i64, .int .i64, .int .i64, .int .i64]] [v1]) :
    Calls Tryz.prog 12 #[v0, v1, .agg #[.int .u8 x0, .int .u8 x1, .int .u8 x2]] W fun e w' =>
      e = .returned (.bool true) ∧ (w'.os = W.os ∧ w'.output = W.output) ∧ ∀ b, b < W.heap.size → w'.heap[b]? = W.heap[b]? := by
  have hl : laidMet Tryz.prog Rows.arrayProductsRow.laid W := by rw [← MakeChecks.laidMetH_plain _ _ _ (by kernel_rfl)]; exact hL
  have hR : Rel Tryz.prog (tabLoc 8) heap0 W := by rw [heap0_eq]; exact tabRows_rel hl
  have hb : ∃ cd, Tryz.f12.body = some cd := ⟨_, rfl⟩
  obtain ⟨cd, hb⟩ := hb
  have hG := tabLoc_globs 8
  obtain ⟨w0, cs0, b0, n0, rows0, ρ0, e0, hk0', hl0, hb0, hv0, hx0, hR0, hn0⟩ := hk0.list_inv hR still0 some_row
  obtain ⟨xs0, hxn0, rfl⟩ := ListOf_srs hl0
  subst hxn0
  obtain rfl := hk0'.end
  simp only [List.cons.injEq, and_true] at e0
  subst e0
  cases b0 with
  | false =>
    have hn_0 : v0 = .slice none 0 0 := hv0.atom_eq rfl
    subst hn_0
    obtain ⟨w1, cs1, b1, n1, rows1, ρ1, e1, hk1', hl1, hb1, hv1, hx1, hR1, hn1⟩ := hk1.list_inv hR still0 some_row
    obtain ⟨xs1, hxn1, rfl⟩ := ListOf_srs hl1
    subst hxn1
    obtain rfl := hk1'.end
    simp only [List.cons.injEq, and_true] at e1
    subst e1
    cases b1 with
    | false =>
      have hn_1 : v1 = .slice none 0 0 := hv1.atom_eq rfl
      subst hn_1
      exact done hb (runsArrayProducts00 x0 x1 x2 c0 c1 c2 ) (VRs.cons (.atom rfl) (VRs.cons (.atom rfl) (VRs.cons (VR.refl _ rfl) (VRs.nil _)))) hG hR still0
    | true =>
      exact done hb (runsArrayProducts01 x0 x1 x2 c0 c1 c2 xs1 24 .ro) (VRs.cons (.atom rfl) (VRs.cons hv1 (VRs.cons (VR.refl _ rfl) (VRs.nil _)))) (hG.mono hx1) hR1 hn1
  | true =>
    obtain ⟨w1, cs1, b1, n1, rows1, ρ1, e1, hk1', hl1, hb1, hv1, hx1, hR1, hn1⟩ := hk1.list_inv hR0 hn0 (more_row some_row)
    obtain ⟨xs1, hxn1, rfl⟩ := ListOf_srs hl1
    subst hxn1
    obtain rfl := hk1'.end
    simp only [List.cons.injEq, and_true] at e1
    subst e1
    cases b1 with
    | false =>
      have hn_1 : v1 = .slice none 0 0 := hv1.atom_eq rfl
      subst hn_1
      exact done hb (runsArrayProducts10 x0 x1 x2 c0 c1 c2 xs0 24 .ro) (VRs.cons hv0 (VRs.cons (.atom rfl) (VRs.cons (VR.refl _ rfl) (VRs.nil _)))) (hG.mono hx0) hR0 hn0
    | true =>
      exact done hb (runsArrayProducts11 x0 x1 x2 c0 c1 c2 xs0 24 .ro xs1 24 .ro) (VRs.cons (hv0.mono hx1) (VRs.cons hv1 (VRs.cons (VR.refl _ rfl) (VRs.nil _)))) ((hG.mono hx0).mono hx1) hR1 hn1

theorem reads_ok : Reads Tryz.prog := ⟨by kernel_rfl, by kernel_rfl, by kernel_rfl⟩
theorem len_3 {α : Type} {l : List α} (h : l.length = 3) : ∃ y0 y1 y2 : α, l = [y0, y1, y2] := by
  match l, h with
  | [y0, y1, y2], _ => exact ⟨y0, y1, y2, rfl⟩

set_option maxRecDepth 100000 in
theorem contract (H : Type) (enc : TypeId × Value → H) (W : World) (base : Nat) (args : Array Value) (ds gs : List (DataW H)) (before : List MemPlace)
    (hval : ∀ (j : Nat) t v, Tryz.f12.params[j]? = some t → args[j]? = some v → Value.okWide Tryz.prog W .any base t v)
    (hW : DataW.Whole enc Tryz.prog Tryz.f12.params.toList Rows.arrayProductsSpec.vars false W args.toList ds gs before) (hL : laidMetH Tryz.prog Rows.arrayProductsRow.laid W) :
    Calls Tryz.prog 12 args W fun e W' => ∃ v, e = .returned v ∧ Rows.arrayProductsSpec.post enc Tryz.prog Tryz.f12 false true false false W args v W' := by
  have hW' := hW
  obtain ⟨p, q, hA, hV, rfl, hfz, hnd⟩ := hW
  have hA0 : DataW.TrodAll enc Tryz.prog W 0 (fun _ => true) true Tryz.f12.params.toList args.toList ds p := hA
  rw [Tryz.params12] at hA0 hval
  obtain ⟨v0, vs0, d0, ds0, p0, q0, hargs0, rfl, rfl, h0, r0⟩ := trodAll_cons hA0
  obtain ⟨v1, vs1, d1, ds1, p1, q1, hargs1, rfl, rfl, h1, r1⟩ := trodAll_cons r0
  obtain ⟨v2, vs2, d2, ds2, p2, q2, hargs2, rfl, rfl, h2, r2⟩ := trodAll_cons r1
  obtain ⟨rfl, rfl, rfl⟩ := trodAll_nil r2
  obtain rfl : args = #[v0, v1, v2] := by cases args; simp_all
  have hk0 := arg22 (hval 0 22 v0 rfl rfl) h0
  have hk1 := arg22 (hval 1 22 v1 rfl rfl) h1
  obtain ⟨x0, x1, x2, rfl, c0, c1, c2⟩ := arg126 (hval 2 126 v2 rfl rfl) h2
  refine (calls x0 x1 x2 c0 c1 c2 v0 v1 W hL hk0 hk1).mono fun e W' hr => ?_
  obtain ⟨rfl, ho, hb⟩ := hr
  refine ⟨_, rfl, law_post (bt := 4) reads_ok rfl (fun ds hl => ?_) (by kernel_rfl) Tryz.underlying4 (by kernel_rfl) hW' ho hb⟩
  rw [show Tryz.f12.params.size = 3 by kernel_rfl] at hl
  obtain ⟨y0, y1, y2, rfl⟩ := len_3 hl
  rfl
end Go.Proofs.YtpdiaiccnaoaiaaGreatDoor.arrayProducts
/-
ArrayProducts of the package wooferlaw06 returns true for every input, whatever the world: proved for all arguments, under the conditions that the row and its card name (the package-level tables as laid).
-/
namespace Go.Proofs.YtpdiaiccnaoaiaaGreatDoor.arrayProducts
open Go Go.Abs Go.ChangeShapes Go.WideShapes Go.ChangeAt Go.RowKit

/-- The settled world, the tables laid. -/
noncomputable def putTab (A : Heap) (w : World) : World :=
  { w with heap := ((List.range 8).foldl (fun h g => match hget A g with
      | some (.cells cs _ _) => h.modify g fun
        | .cells _ t frozen => .cells cs.toArray t frozen
        | o => o
      | _ => h) w.heap) }
noncomputable def laidWorld (os : Os) : World := putTab heap0 (World.holding Tryz.prog os ⟨#[], #[], []⟩)
theorem laid_met (os : Os) : laidMet Tryz.prog Rows.arrayProductsRow.laid ((laidWorld os).forCall (fun _ _ => 0) ⟨#[], #[.slice none 0 0, .slice none 0 0, .agg #[.int .u8 0, .int .u8 0, .int .u8 0]], []⟩).memory :=
  laidMet_of_run' 8 (by kernel_rfl) (by kernel_rfl)
theorem reads (os : Os) {H : Type} (enc : TypeId × Value → H) : ∃ places, DataW.whole enc Tryz.prog ((laidWorld os).forCall (fun _ _ => 0) ⟨#[], #[.slice none 0 0, .slice none 0 0, .agg #[.int .u8 0, .int .u8 0, .int .u8 0]], []⟩).memory Tryz.f12.params.toList Rows.arrayProductsSpec.vars false (#[.slice none 0 0, .slice none 0 0, .agg #[.int .u8 0, .int .u8 0, .int .u8 0]] : Array Value).toList 8 = some ([.nil, .nil, .agg [.lit (.int .u8 0), .lit (.int .u8 0), .lit (.int .u8 0)]], [], places) :=
  ⟨[], by kernel_rfl⟩

set_option maxRecDepth 100000 in
theorem lifted (os : Os) (started : os.Started) (H : Type) (enc : TypeId × Value → H) (F : Stop.Interp) :
    ReturnsInHanded {} Tryz.checked os 12 .any ((OpenSpec.ofChange Rows.arrayProductsSpec).preRow enc Tryz.prog Tryz.f12 Rows.arrayProductsRow.domain false Rows.arrayProductsRow.laid) (((OpenSpec.ofChange Rows.arrayProductsSpec).at F).post enc Tryz.prog Tryz.f12 false true false false) := by
  obtain ⟨places, hx⟩ := reads os enc
  refine returnsInHanded_of_row (C := Tryz.checked) (s := OpenSpec.ofChange Rows.arrayProductsSpec) own started (by kernel_rfl) Tryz.func12
    (witness_row_at (enc := enc) (C := Tryz.checked) false (laidWorld os) #[.slice none 0 0, .slice none 0 0, .agg #[.int .u8 0, .int .u8 0, .int .u8 0]] rfl (by kernel_rfl) (by kernel_rfl) (by kernel_rfl)
      (OpenSpec.preRow_of_cond 8 hx (by kernel_rfl) (fun k hk => by cases hk) (by kernel_rfl) (laid_met os))) ?_
  intro W base args ds gs before hval hW _ _ _ hL _ _
  exact contract H enc W base args ds gs before hval hW hL

theorem said : Rows.ArrayProductsSaid :=
  OpenClaim.holds_of_cond 12 Tryz.f12 rfl rfl rfl rfl rfl rfl rfl ⟨rfl, rfl, rfl, rfl, rfl⟩ rfl rfl rfl rfl rfl (by kernel_rfl) Tryz.func12 (by kernel_rfl)
    (of_decide_eq_true (by kernel_rfl)) (by unfold Func.isWrapper; first | (rw [if_pos (by decide +kernel)]; kernel_rfl) | (rw [if_neg (by decide +kernel)]; exact ⟨rfl, rfl⟩))
    (fun os started H enc _ F => by rw [OpenClaim.pre_eq_preRow]; exact lifted os started H enc F)

theorem plain (f : FuncId) (fn : Func) (hf : Tryz.pinned.checked.prog.funcNamed "woofer/wooferlaw06.ArrayProducts" = some f) (hfn : Tryz.pinned.checked.prog.funcs[f]? = some fn) :
    false = Tryz.pinned.checked.prog.looks [] ∧ ∀ (j : Nat) t, fn.params[j]? = some t → Tryz.pinned.checked.prog.wantsStandIn t = false := by
  obtain rfl : f = 12 := Option.some.inj ((show Tryz.prog.funcNamed "woofer/wooferlaw06.ArrayProducts" = some 12 by kernel_rfl).symm.trans hf) |>.symm
  obtain rfl : fn = Tryz.f12 := (Option.some.inj (Tryz.func12.symm.trans hfn)).symm
  refine ⟨by kernel_rfl, fun j t ht => ?_⟩
  rw [Tryz.params12] at ht
  have hm := Array.mem_of_getElem? ht
  simp only [List.mem_toArray, List.mem_cons, List.not_mem_nil, or_false] at hm
  rcases hm with rfl | rfl | rfl
  · exact (show Tryz.prog.wantsStandIn 22 = false by kernel_rfl)
  · exact (show Tryz.prog.wantsStandIn 22 = false by kernel_rfl)
  · exact (show Tryz.prog.wantsStandIn 126 = false by kernel_rfl)

theorem card : Rows.ArrayProductsCardSaid :=
  Claim7.holds_tied_plain_at .later [] _ _ _ _ said (fun _ h => by cases h) (by kernel_rfl) (fun _ h => by cases h) arrayProducts_row_tie rfl ⟨rfl, rfl⟩ (by kernel_rfl) rfl plain (by kernel_rfl)
end Go.Proofs.YtpdiaiccnaoaiaaGreatDoor.arrayProducts
