/-
Joined: Ax, Ay, Az, Ba, Bb, AbW, Bc, Bd, Be, Bf, Bm, De, Df, Dg, Dh, Bg, Bh, Bi, Bj, Bk, Bl, Bk2, Bu, Bv, Bn, Bo, Bp, Bq, Br, Bs, Bt, Bw, Bx, By, Bz, Da, Db, Dq, Dr, Di, Es, Kz, Ka, Ca, Cb, Cc, Cd, Ce, Cf, Fa, Fb, Et, Eu, Dj, Dk, Fc, Dp, Ev, Dl, Dm, Dn, Do, Fd, Ea, Eb, Ec, Ed, Ee, Ef, Eg, Eh, Ei, Ej, Ek, El, Em, En.
-/
import Derived.Test.YtpdiaiccnaoaiaaGreatDoorMb4
import Derived.Test.YtpdiaiccnaoaiaaGreatDoorMb5
import GoSem.Core.View
import Derived.Test.YtpdiaiccnaoaiaaGreatDoorMb3
set_option linter.unusedVariables false
set_option linter.unusedSimpArgs false
set_option linter.unusedSectionVars false
/-
Sources as cells; elements of slices.
-/
namespace Go.Proofs.YtpdiaiccnaoaiaaGreatDoor
open Go Go.Abs
theorem ite_or {α : Type} {b : Bool} {x y r : Option α} (h : (if b then x else y) = r) : (b = true ∧ x = r) ∨ y = r := by
  cases b
  · exact .inr (by simpa using h)
  · exact .inl ⟨rfl, by simpa using h⟩
/-- A source. -/
structure Sr where
  (x y g p : Int)
def Sr.c (s : Sr) : List Value := [I s.x, I s.y, I s.g, I s.p]
abbrev sv (s : Sr) : Value := .agg #[I s.x, I s.y, I s.g, I s.p]
abbrev s0 : Sr := ⟨0, 0, 0, 0⟩
theorem Sr.c_len (s : Sr) : s.c.length = 4 := rfl
theorem Sr.c_atoms (s : Sr) : s.c.all atomB = true := rfl
def srs (l : List Sr) : List Value := l.flatMap Sr.c
theorem srs_len (l : List Sr) : (srs l).length = l.length * 4 := fm_len Sr.c_len l
theorem srs_atoms (l : List Sr) : (srs l).all atomB = true := fm_atoms Sr.c_atoms l
theorem srs_app (l m : List Sr) : srs (l ++ m) = srs l ++ srs m := by simp [srs]
theorem srs_one (s : Sr) : srs [s] = s.c := by simp [srs]
theorem srs_inj : ∀ {l m : List Sr}, srs l = srs m → l = m
  | [], [], _ => rfl
  | [], b :: m, h => by simp [srs, Sr.c] at h
  | a :: l, [], h => by simp [srs, Sr.c] at h
  | a :: l, b :: m, h => by
    obtain ⟨a1, a2, a3, a4⟩ := a
    obtain ⟨b1, b2, b3, b4⟩ := b
    simp only [srs, List.flatMap_cons, Sr.c, List.cons_append, List.nil_append, List.cons.injEq, Value.int.injEq, true_and] at h
    obtain ⟨e1, e2, e3, e4, h⟩ := h
    rw [e1, e2, e3, e4, srs_inj (l := l) (m := m) h]
theorem getD_some {α : Type} {l : List α} {k : Nat} {d : α} (h : k < l.length) : l[k]? = some (l.getD k d) := by simp [h]
abbrev rS (xs : List Sr) (e : Nat) (u : Use) : Option ARow := some (.cells (srs xs) e u)
abbrev rI (xs : List Int) (e : Nat) (u : Use) : Option ARow := some (.cells (ints xs) e u)
theorem u22 : Tryz.prog.underlying 22 = some (.slice 24) := by kernel_rfl
theorem u37 : Tryz.prog.underlying 37 = some (.slice 32) := by kernel_rfl
theorem u43 : Tryz.prog.underlying 43 = some (.slice 3) := by kernel_rfl
theorem u138 : Tryz.prog.underlying 138 = some (.slice 27) := by kernel_rfl
theorem u3 : Tryz.prog.underlying 3 = some (.int .i64) := by kernel_rfl
theorem u27 : Tryz.prog.underlying 27 = some (.int .i64) := by kernel_rfl
theorem d24 : ∃ d, Tryz.prog.underlying 24 = some d ∧ descAgg d = true := Option.map_eq_some_iff.1 (show (Tryz.prog.underlying 24).map descAgg = some true by kernel_rfl)
theorem d32 : ∃ d, Tryz.prog.underlying 32 = some d ∧ descAgg d = true := Option.map_eq_some_iff.1 (show (Tryz.prog.underlying 32).map descAgg = some true by kernel_rfl)
theorem i24' : (Tryz.prog.info? 24).map (fun i => (i.size, i.zero, i.bytes)) = some (4, some (.agg #[I 0, I 0, I 0, I 0]), 32) := by kernel_rfl
theorem i32' : (Tryz.prog.info? 32).map (fun i => (i.size, i.zero, i.bytes)) = some (4, some (.agg #[I 0, I 0, I 0, I 0]), 32) := by kernel_rfl
theorem i3' : (Tryz.prog.info? 3).map (fun i => (i.size, i.zero, i.bytes)) = some (1, some (I 0), 8) := by kernel_rfl
theorem i27' : (Tryz.prog.info? 27).map (fun i => (i.size, i.zero, i.bytes)) = some (1, some (I 0), 8) := by kernel_rfl
theorem ix22 {r n c i : Nat} (h : i < n) : aIndexAddr Tryz.prog 22 (.slice (some ⟨r, 0, none⟩) n c) (I (i : Int)) = some (.pointer (some ⟨r, i * 4, none⟩)) := by
  obtain ⟨ti, t1, t2, _⟩ := info_of i24'
  simpa using idx_el (r := r) (c := c) u22 t1 t2 (i := (i : Int)) (n := n) (by omega) (by omega)
theorem ix37 {r n c i : Nat} (h : i < n) : aIndexAddr Tryz.prog 37 (.slice (some ⟨r, 0, none⟩) n c) (I (i : Int)) = some (.pointer (some ⟨r, i * 4, none⟩)) := by
  obtain ⟨ti, t1, t2, _⟩ := info_of i32'
  simpa using idx_el (r := r) (c := c) u37 t1 t2 (i := (i : Int)) (n := n) (by omega) (by omega)
theorem ix43 {r n c i : Nat} (h : i < n) : aIndexAddr Tryz.prog 43 (.slice (some ⟨r, 0, none⟩) n c) (I (i : Int)) = some (.pointer (some ⟨r, i, none⟩)) := by
  obtain ⟨ti, t1, t2, _⟩ := info_of i3'
  simpa using idx_el (r := r) (c := c) u43 t1 t2 (i := (i : Int)) (n := n) (by omega) (by omega)
theorem ix138 {r n c i : Nat} (h : i < n) : aIndexAddr Tryz.prog 138 (.slice (some ⟨r, 0, none⟩) n c) (I (i : Int)) = some (.pointer (some ⟨r, i, none⟩)) := by
  obtain ⟨ti, t1, t2, _⟩ := info_of i27'
  simpa using idx_el (r := r) (c := c) u138 t1 t2 (i := (i : Int)) (n := n) (by omega) (by omega)
theorem ld24 {A : Heap} {r i e : Nat} {u : Use} {xs : List Sr} (hr : hget A r = some (.cells (srs xs) e u)) (h : i < xs.length) : aLoad Tryz.prog 24 (.pointer (some ⟨r, i * 4, none⟩)) A = some (sv (xs.getD i s0)) := by
  obtain ⟨ti, t1, t2, _⟩ := info_of i24'
  obtain ⟨d, d1, d2⟩ := d24
  exact ld_agg (f := Sr.c) Sr.c_len d1 d2 t1 t2 hr (getD_some h)
theorem ld32 {A : Heap} {r i e : Nat} {u : Use} {xs : List Sr} (hr : hget A r = some (.cells (srs xs) e u)) (h : i < xs.length) : aLoad Tryz.prog 32 (.pointer (some ⟨r, i * 4, none⟩)) A = some (sv (xs.getD i s0)) := by
  obtain ⟨ti, t1, t2, _⟩ := info_of i32'
  obtain ⟨d, d1, d2⟩ := d32
  exact ld_agg (f := Sr.c) Sr.c_len d1 d2 t1 t2 hr (getD_some h)
theorem ld3 {A : Heap} {r i e : Nat} {u : Use} {xs : List Int} (hr : hget A r = some (.cells (ints xs) e u)) (h : i < xs.length) : aLoad Tryz.prog 3 (.pointer (some ⟨r, i, none⟩)) A = some (I (xs.getD i 0)) := ld_int u3 hr h
theorem ld27 {A : Heap} {r i e : Nat} {u : Use} {xs : List Int} (hr : hget A r = some (.cells (ints xs) e u)) (h : i < xs.length) : aLoad Tryz.prog 27 (.pointer (some ⟨r, i, none⟩)) A = some (I (xs.getD i 0)) := ld_int u27 hr h
theorem wrap_succ' {i : Nat} (h : (i : Int) < 9223372036854775807) : IntKind.i64.wrap ((i : Int) + 1) = ((i + 1 : Nat) : Int) := by
  rw [w_id (by omega) (by omega)]; rfl
/-
Checks of numbers and of sources.
-/
def c97_c0 (x a b : Int) : Bool := decide (a ≤ x)
def c97_c1 (x a b : Int) : Bool := !decide (x ≤ b)
theorem c97_p0 (x a b : Int) (h0 : c97_c0 x a b = true) (h1 : c97_c1 x a b = true) : Gives Tryz.prog envL 0 97 [I x, I a, I b] heapN ((I 3), heapN) :=
  Gives.by (n := 1000) (os := [.br 132 22 true, .br 132 22 true, .br 132 22 true, .br 132 31 true, .br 112 12 true]) (os' := []) (by kernel_rfl) (ObsOK.cond h0 (ObsOK.cond h0 (ObsOK.cond h0 (ObsOK.cond h0 (ObsOK.cond h1 (ObsOK.nil))))))
theorem c97_p1 (x a b : Int) (h0 : c97_c0 x a b = true) (h1 : c97_c1 x a b = false) : Gives Tryz.prog envL 0 97 [I x, I a, I b] heapN ((I 0), heapN) :=
  Gives.by (n := 1000) (os := [.br 132 22 true, .br 132 22 true, .br 132 22 true, .br 132 31 true, .br 112 12 false]) (os' := []) (by kernel_rfl) (ObsOK.cond h0 (ObsOK.cond h0 (ObsOK.cond h0 (ObsOK.cond h0 (ObsOK.cond h1 (ObsOK.nil))))))
theorem c97_p2 (x a b : Int) (h0 : c97_c0 x a b = false) : Gives Tryz.prog envL 0 97 [I x, I a, I b] heapN ((I 3), heapN) :=
  Gives.by (n := 1000) (os := [.br 132 22 false, .br 132 22 false, .br 132 22 false, .br 132 31 false]) (os' := []) (by kernel_rfl) (ObsOK.cond h0 (ObsOK.cond h0 (ObsOK.cond h0 (ObsOK.cond h0 (ObsOK.nil)))))
def c97_r0 (x a b : Int) : Int := (cond (c97_c0 x a b) (cond (c97_c1 x a b) (3) (0)) (3))
theorem c97_gives (x a b : Int) : Gives Tryz.prog envL 0 97 [I x, I a, I b] heapN ((I (c97_r0 x a b)), heapN) := by
  cases g0 : c97_c0 x a b
  · skip
    simp only [c97_r0, g0, cond_true, cond_false]; exact c97_p2 x a b g0
  · skip
    cases g1 : c97_c1 x a b
    · skip
      simp only [c97_r0, g0, g1, cond_true, cond_false]; exact c97_p1 x a b g0 g1
    · skip
      simp only [c97_r0, g0, g1, cond_true, cond_false]; exact c97_p0 x a b g0 g1
def cs85_c0 (x y g p : Int) : Bool := !(lim_r0 x 100 == x && (lim_r0 y 100 == y && (lim_r0 g 100 == g && (mo_r0 p == p && true))))
theorem cs85_p0 (x y g p : Int) (h0 : cs85_c0 x y g p = true) : Gives Tryz.prog envL 0 85 [(.agg #[I x, I y, I g, I p])] heapN ((I 3), heapN) :=
  Gives.by (n := 1000) (os := [.br 112 12 true]) (os' := []) (by kernel_rfl) (ObsOK.cond h0 (ObsOK.nil))
theorem cs85_p1 (x y g p : Int) (h0 : cs85_c0 x y g p = false) : Gives Tryz.prog envL 0 85 [(.agg #[I x, I y, I g, I p])] heapN ((I 0), heapN) :=
  Gives.by (n := 1000) (os := [.br 112 12 false]) (os' := []) (by kernel_rfl) (ObsOK.cond h0 (ObsOK.nil))
def cs85_r0 (x y g p : Int) : Int := (cond (cs85_c0 x y g p) (3) (0))
theorem cs85_gives (x y g p : Int) : Gives Tryz.prog envL 0 85 [(.agg #[I x, I y, I g, I p])] heapN ((I (cs85_r0 x y g p)), heapN) := by
  cases g0 : cs85_c0 x y g p
  · skip
    simp only [cs85_r0, g0, cond_true, cond_false]; exact cs85_p1 x y g p g0
  · skip
    simp only [cs85_r0, g0, cond_true, cond_false]; exact cs85_p0 x y g p g0
def rcs24_c0 (x y g p : Int) : Bool := cr_r0 x (-100) 100 != 0
def rcs24_c1 (x y g p : Int) : Bool := cr_r0 y (-100) 100 != 0
def rcs24_c2 (x y g p : Int) : Bool := cr_r0 g (-100) 100 != 0
def rcs24_c3 (x y g p : Int) : Bool := cr_r0 p 0 3 != 0
theorem rcs24_p0 (x y g p : Int) (h0 : rcs24_c0 x y g p = true) : Gives Tryz.prog envL 0 24 [(.agg #[I x, I y, I g, I p])] heapN ((I (cr_r0 x (-100) 100)), heapN) :=
  Gives.by (n := 1000) (os := [.br 23 30 true]) (os' := []) (by kernel_rfl) (ObsOK.cond h0 (ObsOK.nil))
theorem rcs24_p1 (x y g p : Int) (h0 : rcs24_c0 x y g p = false) (h1 : rcs24_c1 x y g p = true) : Gives Tryz.prog envL 0 24 [(.agg #[I x, I y, I g, I p])] heapN ((I (cr_r0 y (-100) 100)), heapN) :=
  Gives.by (n := 1000) (os := [.br 23 30 false, .br 23 30 true]) (os' := []) (by kernel_rfl) (ObsOK.cond h0 (ObsOK.cond h1 (ObsOK.nil)))
theorem rcs24_p2 (x y g p : Int) (h0 : rcs24_c0 x y g p = false) (h1 : rcs24_c1 x y g p = false) (h2 : rcs24_c2 x y g p = true) : Gives Tryz.prog envL 0 24 [(.agg #[I x, I y, I g, I p])] heapN ((I (cr_r0 g (-100) 100)), heapN) :=
  Gives.by (n := 1000) (os := [.br 23 30 false, .br 23 30 false, .br 23 30 true]) (os' := []) (by kernel_rfl) (ObsOK.cond h0 (ObsOK.cond h1 (ObsOK.cond h2 (ObsOK.nil))))
theorem rcs24_p3 (x y g p : Int) (h0 : rcs24_c0 x y g p = false) (h1 : rcs24_c1 x y g p = false) (h2 : rcs24_c2 x y g p = false) (h3 : rcs24_c3 x y g p = true) : Gives Tryz.prog envL 0 24 [(.agg #[I x, I y, I g, I p])] heapN ((I (cr_r0 p 0 3)), heapN) :=
  Gives.by (n := 1000) (os := [.br 23 30 false, .br 23 30 false, .br 23 30 false, .br 23 30 true]) (os' := []) (by kernel_rfl) (ObsOK.cond h0 (ObsOK.cond h1 (ObsOK.cond h2 (ObsOK.cond h3 (ObsOK.nil)))))
theorem rcs24_p4 (x y g p : Int) (h0 : rcs24_c0 x y g p = false) (h1 : rcs24_c1 x y g p = false) (h2 : rcs24_c2 x y g p = false) (h3 : rcs24_c3 x y g p = false) : Gives Tryz.prog envL 0 24 [(.agg #[I x, I y, I g, I p])] heapN ((I 0), heapN) :=
  Gives.by (n := 1000) (os := [.br 23 30 false, .br 23 30 false, .br 23 30 false, .br 23 30 false]) (os' := []) (by kernel_rfl) (ObsOK.cond h0 (ObsOK.cond h1 (ObsOK.cond h2 (ObsOK.cond h3 (ObsOK.nil)))))
def rcs24_r0 (x y g p : Int) : Int := (cond (rcs24_c0 x y g p) (cr_r0 x (-100) 100) (cond (rcs24_c1 x y g p) (cr_r0 y (-100) 100) (cond (rcs24_c2 x y g p) (cr_r0 g (-100) 100) (cond (rcs24_c3 x y g p) (cr_r0 p 0 3) (0)))))
theorem rcs24_gives (x y g p : Int) : Gives Tryz.prog envL 0 24 [(.agg #[I x, I y, I g, I p])] heapN ((I (rcs24_r0 x y g p)), heapN) := by
  cases g0 : rcs24_c0 x y g p
  · skip
    cases g1 : rcs24_c1 x y g p
    · skip
      cases g2 : rcs24_c2 x y g p
      · skip
        cases g3 : rcs24_c3 x y g p
        · skip
          simp only [rcs24_r0, g0, g1, g2, g3, cond_true, cond_false]; exact rcs24_p4 x y g p g0 g1 g2 g3
        · skip
          simp only [rcs24_r0, g0, g1, g2, g3, cond_true, cond_false]; exact rcs24_p3 x y g p g0 g1 g2 g3
      · skip
        simp only [rcs24_r0, g0, g1, g2, cond_true, cond_false]; exact rcs24_p2 x y g p g0 g1 g2
    · skip
      simp only [rcs24_r0, g0, g1, cond_true, cond_false]; exact rcs24_p1 x y g p g0 g1
  · skip
    simp only [rcs24_r0, g0, cond_true, cond_false]; exact rcs24_p0 x y g p g0
theorem rcd22_p0 (d : Int) : Gives Tryz.prog envL 0 22 [I d] heapN ((I (cr_r0 d 0 7)), heapN) :=
  Gives.by (n := 1000) (os := []) (os' := []) (by kernel_rfl) (ObsOK.nil)
def rcd22_r0 (d : Int) : Int := (cr_r0 d 0 7)
theorem rcd22_gives (d : Int) : Gives Tryz.prog envL 0 22 [I d] heapN ((I (rcd22_r0 d)), heapN) := by
  simp only [rcd22_r0, cond_true, cond_false]; exact rcd22_p0 d
def B_envY_97 (args : List Value) : Option (Heap × Value) :=
    match args with
    | [(.int .i64 (x)), (.int .i64 (a)), (.int .i64 (b))] => some (heapN, (.int .i64 (c97_r0 x a b)))
    | _ => none
theorem B_envY_97_ok {args : List Value} {H : Heap} {v : Value} (h : B_envY_97 args = some (H, v)) : 8 ≤ H.length ∧ H.all tableRow = true ∧ Gives Tryz.prog envL 0 97 args H (v, H) := by
  unfold B_envY_97 at h
  split at h
  · cases h; exact heapN_ok (c97_gives _ _ _)
  · cases h
def B_envY_85 (args : List Value) : Option (Heap × Value) :=
    match args with
    | [(.agg ⟨[(.int .i64 (x)), (.int .i64 (y)), (.int .i64 (g)), (.int .i64 (p))]⟩)] => some (heapN, (.int .i64 (cs85_r0 x y g p)))
    | _ => none
theorem B_envY_85_ok {args : List Value} {H : Heap} {v : Value} (h : B_envY_85 args = some (H, v)) : 8 ≤ H.length ∧ H.all tableRow = true ∧ Gives Tryz.prog envL 0 85 args H (v, H) := by
  unfold B_envY_85 at h
  split at h
  · cases h; exact heapN_ok (cs85_gives _ _ _ _)
  · cases h
def B_envY_24 (args : List Value) : Option (Heap × Value) :=
    match args with
    | [(.agg ⟨[(.int .i64 (x)), (.int .i64 (y)), (.int .i64 (g)), (.int .i64 (p))]⟩)] => some (heapN, (.int .i64 (rcs24_r0 x y g p)))
    | _ => none
theorem B_envY_24_ok {args : List Value} {H : Heap} {v : Value} (h : B_envY_24 args = some (H, v)) : 8 ≤ H.length ∧ H.all tableRow = true ∧ Gives Tryz.prog envL 0 24 args H (v, H) := by
  unfold B_envY_24 at h
  split at h
  · cases h; exact heapN_ok (rcs24_gives _ _ _ _)
  · cases h
def B_envY_22 (args : List Value) : Option (Heap × Value) :=
    match args with
    | [(.int .i64 (d))] => some (heapN, (.int .i64 (rcd22_r0 d)))
    | _ => none
theorem B_envY_22_ok {args : List Value} {H : Heap} {v : Value} (h : B_envY_22 args = some (H, v)) : 8 ≤ H.length ∧ H.all tableRow = true ∧ Gives Tryz.prog envL 0 22 args H (v, H) := by
  unfold B_envY_22 at h
  split at h
  · cases h; exact heapN_ok (rcd22_gives _)
  · cases h
def B_envY (f : FuncId) (args : List Value) : Option (Heap × Value) :=
  if f == 97 then B_envY_97 args else
  if f == 85 then B_envY_85 args else
  if f == 24 then B_envY_24 args else
  if f == 22 then B_envY_22 args else
  none
noncomputable def envY : Env := envL.with (baseKnown B_envY)
theorem envY_ok : EnvOK Tryz.prog 8 envY := env_base prog_ok envL_ok fun f args H v h => by
  unfold B_envY at h
  rcases ite_or h with ⟨hf, h⟩ | h
  · obtain rfl : f = 97 := eq_of_beq hf
    exact B_envY_97_ok h
  rcases ite_or h with ⟨hf, h⟩ | h
  · obtain rfl : f = 85 := eq_of_beq hf
    exact B_envY_85_ok h
  rcases ite_or h with ⟨hf, h⟩ | h
  · obtain rfl : f = 24 := eq_of_beq hf
    exact B_envY_24_ok h
  rcases ite_or h with ⟨hf, h⟩ | h
  · obtain rfl : f = 22 := eq_of_beq hf
    exact B_envY_22_ok h
  cases h
/-
Checks of directions.
-/
theorem cd83_p0 (d : Int) : Gives Tryz.prog envY 0 83 [I d] heapN ((I (c97_r0 d 0 7)), heapN) :=
  Gives.by (n := 1000) (os := []) (os' := []) (by kernel_rfl) (ObsOK.nil)
def cd83_r0 (d : Int) : Int := (c97_r0 d 0 7)
theorem cd83_gives (d : Int) : Gives Tryz.prog envY 0 83 [I d] heapN ((I (cd83_r0 d)), heapN) := by
  simp only [cd83_r0, cond_true, cond_false]; exact cd83_p0 d
def B_envZ_83 (args : List Value) : Option (Heap × Value) :=
    match args with
    | [(.int .i64 (d))] => some (heapN, (.int .i64 (cd83_r0 d)))
    | _ => none
theorem B_envZ_83_ok {args : List Value} {H : Heap} {v : Value} (h : B_envZ_83 args = some (H, v)) : 8 ≤ H.length ∧ H.all tableRow = true ∧ Gives Tryz.prog envY 0 83 args H (v, H) := by
  unfold B_envZ_83 at h
  split at h
  · cases h; exact heapN_ok (cd83_gives _)
  · cases h
def B_envZ (f : FuncId) (args : List Value) : Option (Heap × Value) :=
  if f == 83 then B_envZ_83 args else
  none
noncomputable def envZ : Env := envY.with (baseKnown B_envZ)
theorem envZ_ok : EnvOK Tryz.prog 8 envZ := env_base prog_ok envY_ok fun f args H v h => by
  unfold B_envZ at h
  rcases ite_or h with ⟨hf, h⟩ | h
  · obtain rfl : f = 83 := eq_of_beq hf
    exact B_envZ_83_ok h
  cases h
/-
Turned numbers, case by case.
-/
theorem tu0_p0 (x y n : Int) (hx : aIndexAddr Tryz.prog 72 (pt 1 0) (I ((IntKind.i64.wrap (n.tmod 4 + 4)).tmod 4)) = some (pt 1 0)) : Gives Tryz.prog envW 0 127 [.agg #[I x, I y], I n] heap0 ((.agg #[(I (IntKind.i64.wrap (IntKind.i64.wrap (x * 1) - IntKind.i64.wrap (y * 0)))), (I (IntKind.i64.wrap (IntKind.i64.wrap (x * 0) + IntKind.i64.wrap (y * 1))))]), heap0) :=
  Gives.by (n := 1000) (os := [.op 127 9 (pt 1 0)]) (os' := []) (by kernel_rfl) (ObsOK.val hx (ObsOK.nil))
theorem tu1_p0 (x y n : Int) (hx : aIndexAddr Tryz.prog 72 (pt 1 0) (I ((IntKind.i64.wrap (n.tmod 4 + 4)).tmod 4)) = some (pt 1 2)) : Gives Tryz.prog envW 0 127 [.agg #[I x, I y], I n] heap0 ((.agg #[(I (IntKind.i64.wrap (IntKind.i64.wrap (x * 0) - IntKind.i64.wrap (y * 1)))), (I (IntKind.i64.wrap (IntKind.i64.wrap (x * 1) + IntKind.i64.wrap (y * 0))))]), heap0) :=
  Gives.by (n := 1000) (os := [.op 127 9 (pt 1 2)]) (os' := []) (by kernel_rfl) (ObsOK.val hx (ObsOK.nil))
theorem tu2_p0 (x y n : Int) (hx : aIndexAddr Tryz.prog 72 (pt 1 0) (I ((IntKind.i64.wrap (n.tmod 4 + 4)).tmod 4)) = some (pt 1 4)) : Gives Tryz.prog envW 0 127 [.agg #[I x, I y], I n] heap0 ((.agg #[(I (IntKind.i64.wrap (IntKind.i64.wrap (x * -1) - IntKind.i64.wrap (y * 0)))), (I (IntKind.i64.wrap (IntKind.i64.wrap (x * 0) + IntKind.i64.wrap (y * -1))))]), heap0) :=
  Gives.by (n := 1000) (os := [.op 127 9 (pt 1 4)]) (os' := []) (by kernel_rfl) (ObsOK.val hx (ObsOK.nil))
theorem tu3_p0 (x y n : Int) (hx : aIndexAddr Tryz.prog 72 (pt 1 0) (I ((IntKind.i64.wrap (n.tmod 4 + 4)).tmod 4)) = some (pt 1 6)) : Gives Tryz.prog envW 0 127 [.agg #[I x, I y], I n] heap0 ((.agg #[(I (IntKind.i64.wrap (IntKind.i64.wrap (x * 0) - IntKind.i64.wrap (y * -1)))), (I (IntKind.i64.wrap (IntKind.i64.wrap (x * -1) + IntKind.i64.wrap (y * 0))))]), heap0) :=
  Gives.by (n := 1000) (os := [.op 127 9 (pt 1 6)]) (os' := []) (by kernel_rfl) (ObsOK.val hx (ObsOK.nil))
theorem ru0_p0 (x y n : Int) (a0 : decide (0 < ((IntKind.i64.wrap (n.tmod 4 + 4)).tmod 4)) = false) : Gives Tryz.prog envW 0 78 [.agg #[I x, I y], I n] heapN ((.agg #[I x, I y]), heapN) :=
  Gives.by (n := 1000) (os := [.br 78 24 false]) (os' := []) (by kernel_rfl) (ObsOK.cond a0 (ObsOK.nil))
theorem ru1_p0 (x y n : Int) (a0 : decide (0 < ((IntKind.i64.wrap (n.tmod 4 + 4)).tmod 4)) = true) (a1 : decide (1 < ((IntKind.i64.wrap (n.tmod 4 + 4)).tmod 4)) = false) : Gives Tryz.prog envW 0 78 [.agg #[I x, I y], I n] heapN ((.agg #[(I (IntKind.i64.wrap (0 - y))), I x]), heapN) :=
  Gives.by (n := 1000) (os := [.br 78 24 true, .br 78 24 false]) (os' := []) (by kernel_rfl) (ObsOK.cond a0 (ObsOK.cond a1 (ObsOK.nil)))
theorem ru2_p0 (x y n : Int) (a0 : decide (0 < ((IntKind.i64.wrap (n.tmod 4 + 4)).tmod 4)) = true) (a1 : decide (1 < ((IntKind.i64.wrap (n.tmod 4 + 4)).tmod 4)) = true) (a2 : decide (2 < ((IntKind.i64.wrap (n.tmod 4 + 4)).tmod 4)) = false) : Gives Tryz.prog envW 0 78 [.agg #[I x, I y], I n] heapN ((.agg #[(I (IntKind.i64.wrap (0 - x))), (I (IntKind.i64.wrap (0 - y)))]), heapN) :=
  Gives.by (n := 1000) (os := [.br 78 24 true, .br 78 24 true, .br 78 24 false]) (os' := []) (by kernel_rfl) (ObsOK.cond a0 (ObsOK.cond a1 (ObsOK.cond a2 (ObsOK.nil))))
theorem ru3_p0 (x y n : Int) (a0 : decide (0 < ((IntKind.i64.wrap (n.tmod 4 + 4)).tmod 4)) = true) (a1 : decide (1 < ((IntKind.i64.wrap (n.tmod 4 + 4)).tmod 4)) = true) (a2 : decide (2 < ((IntKind.i64.wrap (n.tmod 4 + 4)).tmod 4)) = true) (a3 : decide (3 < ((IntKind.i64.wrap (n.tmod 4 + 4)).tmod 4)) = false) : Gives Tryz.prog envW 0 78 [.agg #[I x, I y], I n] heapN ((.agg #[(I (IntKind.i64.wrap (0 - IntKind.i64.wrap (0 - y)))), (I (IntKind.i64.wrap (0 - x)))]), heapN) :=
  Gives.by (n := 1000) (os := [.br 78 24 true, .br 78 24 true, .br 78 24 true, .br 78 24 false]) (os' := []) (by kernel_rfl) (ObsOK.cond a0 (ObsOK.cond a1 (ObsOK.cond a2 (ObsOK.cond a3 (ObsOK.nil)))))
/-
Steps and paths, case by case.
-/
theorem ste_p0 (d : Int) (f1 : (cd83_r0 d != 0) = true) : Gives Tryz.prog envZ 0 17 [I d] heap0 ((.tuple #[I 0, I 0, (I (cd83_r0 d))]), heap0) :=
  Gives.by (n := 1000) (os := [.br 17 22 true]) (os' := []) (by kernel_rfl) (ObsOK.cond f1 (ObsOK.nil))
theorem stp0_p0  : Gives Tryz.prog envZ 0 17 [I 0] heap0 ((.tuple #[I 1, I 0, I 0]), heap0) :=
  Gives.by (n := 1000) (os := []) (os' := []) (by kernel_rfl) (ObsOK.nil)
theorem rsp0_p0  : Gives Tryz.prog envZ 0 26 [I 0] heapN ((.tuple #[I 1, I 0]), heapN) :=
  Gives.by (n := 1000) (os := []) (os' := []) (by kernel_rfl) (ObsOK.nil)
theorem rpa0_p0 (x y g p : Int) : Gives Tryz.prog envZ 0 27 [.agg #[I x, I y, I g, I p], I 0] heapN ((I (IntKind.i64.wrap (IntKind.i64.wrap (x * 1) + IntKind.i64.wrap (y * 0)))), heapN) :=
  Gives.by (n := 1000) (os := []) (os' := []) (by kernel_rfl) (ObsOK.nil)
theorem stp1_p0  : Gives Tryz.prog envZ 0 17 [I 1] heap0 ((.tuple #[I 1, I 1, I 0]), heap0) :=
  Gives.by (n := 1000) (os := []) (os' := []) (by kernel_rfl) (ObsOK.nil)
theorem rsp1_p0  : Gives Tryz.prog envZ 0 26 [I 1] heapN ((.tuple #[I 1, I 1]), heapN) :=
  Gives.by (n := 1000) (os := []) (os' := []) (by kernel_rfl) (ObsOK.nil)
theorem rpa1_p0 (x y g p : Int) : Gives Tryz.prog envZ 0 27 [.agg #[I x, I y, I g, I p], I 1] heapN ((I (IntKind.i64.wrap (IntKind.i64.wrap (x * 1) + IntKind.i64.wrap (y * 1)))), heapN) :=
  Gives.by (n := 1000) (os := []) (os' := []) (by kernel_rfl) (ObsOK.nil)
theorem stp2_p0  : Gives Tryz.prog envZ 0 17 [I 2] heap0 ((.tuple #[I 0, I 1, I 0]), heap0) :=
  Gives.by (n := 1000) (os := []) (os' := []) (by kernel_rfl) (ObsOK.nil)
theorem rsp2_p0  : Gives Tryz.prog envZ 0 26 [I 2] heapN ((.tuple #[I 0, I 1]), heapN) :=
  Gives.by (n := 1000) (os := []) (os' := []) (by kernel_rfl) (ObsOK.nil)
theorem rpa2_p0 (x y g p : Int) : Gives Tryz.prog envZ 0 27 [.agg #[I x, I y, I g, I p], I 2] heapN ((I (IntKind.i64.wrap (IntKind.i64.wrap (x * 0) + IntKind.i64.wrap (y * 1)))), heapN) :=
  Gives.by (n := 1000) (os := []) (os' := []) (by kernel_rfl) (ObsOK.nil)
theorem stp3_p0  : Gives Tryz.prog envZ 0 17 [I 3] heap0 ((.tuple #[(I (-1)), I 1, I 0]), heap0) :=
  Gives.by (n := 1000) (os := []) (os' := []) (by kernel_rfl) (ObsOK.nil)
theorem rsp3_p0  : Gives Tryz.prog envZ 0 26 [I 3] heapN ((.tuple #[(I (-1)), I 1]), heapN) :=
  Gives.by (n := 1000) (os := []) (os' := []) (by kernel_rfl) (ObsOK.nil)
theorem rpa3_p0 (x y g p : Int) : Gives Tryz.prog envZ 0 27 [.agg #[I x, I y, I g, I p], I 3] heapN ((I (IntKind.i64.wrap (IntKind.i64.wrap (x * -1) + IntKind.i64.wrap (y * 1)))), heapN) :=
  Gives.by (n := 1000) (os := []) (os' := []) (by kernel_rfl) (ObsOK.nil)
theorem stp4_p0  : Gives Tryz.prog envZ 0 17 [I 4] heap0 ((.tuple #[(I (-1)), I 0, I 0]), heap0) :=
  Gives.by (n := 1000) (os := []) (os' := []) (by kernel_rfl) (ObsOK.nil)
theorem rsp4_p0  : Gives Tryz.prog envZ 0 26 [I 4] heapN ((.tuple #[(I (-1)), I 0]), heapN) :=
  Gives.by (n := 1000) (os := []) (os' := []) (by kernel_rfl) (ObsOK.nil)
theorem rpa4_p0 (x y g p : Int) : Gives Tryz.prog envZ 0 27 [.agg #[I x, I y, I g, I p], I 4] heapN ((I (IntKind.i64.wrap (IntKind.i64.wrap (x * -1) + IntKind.i64.wrap (y * 0)))), heapN) :=
  Gives.by (n := 1000) (os := []) (os' := []) (by kernel_rfl) (ObsOK.nil)
theorem stp5_p0  : Gives Tryz.prog envZ 0 17 [I 5] heap0 ((.tuple #[(I (-1)), (I (-1)), I 0]), heap0) :=
  Gives.by (n := 1000) (os := []) (os' := []) (by kernel_rfl) (ObsOK.nil)
theorem rsp5_p0  : Gives Tryz.prog envZ 0 26 [I 5] heapN ((.tuple #[(I (-1)), (I (-1))]), heapN) :=
  Gives.by (n := 1000) (os := []) (os' := []) (by kernel_rfl) (ObsOK.nil)
theorem rpa5_p0 (x y g p : Int) : Gives Tryz.prog envZ 0 27 [.agg #[I x, I y, I g, I p], I 5] heapN ((I (IntKind.i64.wrap (IntKind.i64.wrap (x * -1) + IntKind.i64.wrap (y * -1)))), heapN) :=
  Gives.by (n := 1000) (os := []) (os' := []) (by kernel_rfl) (ObsOK.nil)
theorem stp6_p0  : Gives Tryz.prog envZ 0 17 [I 6] heap0 ((.tuple #[I 0, (I (-1)), I 0]), heap0) :=
  Gives.by (n := 1000) (os := []) (os' := []) (by kernel_rfl) (ObsOK.nil)
theorem rsp6_p0  : Gives Tryz.prog envZ 0 26 [I 6] heapN ((.tuple #[I 0, (I (-1))]), heapN) :=
  Gives.by (n := 1000) (os := []) (os' := []) (by kernel_rfl) (ObsOK.nil)
theorem rpa6_p0 (x y g p : Int) : Gives Tryz.prog envZ 0 27 [.agg #[I x, I y, I g, I p], I 6] heapN ((I (IntKind.i64.wrap (IntKind.i64.wrap (x * 0) + IntKind.i64.wrap (y * -1)))), heapN) :=
  Gives.by (n := 1000) (os := []) (os' := []) (by kernel_rfl) (ObsOK.nil)
theorem stp7_p0  : Gives Tryz.prog envZ 0 17 [I 7] heap0 ((.tuple #[I 1, (I (-1)), I 0]), heap0) :=
  Gives.by (n := 1000) (os := []) (os' := []) (by kernel_rfl) (ObsOK.nil)
theorem rsp7_p0  : Gives Tryz.prog envZ 0 26 [I 7] heapN ((.tuple #[I 1, (I (-1))]), heapN) :=
  Gives.by (n := 1000) (os := []) (os' := []) (by kernel_rfl) (ObsOK.nil)
theorem rpa7_p0 (x y g p : Int) : Gives Tryz.prog envZ 0 27 [.agg #[I x, I y, I g, I p], I 7] heapN ((I (IntKind.i64.wrap (IntKind.i64.wrap (x * 1) + IntKind.i64.wrap (y * -1)))), heapN) :=
  Gives.by (n := 1000) (os := []) (os' := []) (by kernel_rfl) (ObsOK.nil)
end Go.Proofs.YtpdiaiccnaoaiaaGreatDoor
/-
Numbers of 64 bits: sums, differences and products may be wrapped at the end.
-/
namespace Go.Abs
open Go

theorem wrap_mod (x : Int) : IntKind.i64.wrap x = x.bmod 18446744073709551616 := by
  unfold IntKind.wrap Int.bmod
  simp only [IntKind.bits, IntKind.signed, Bool.true_and, ge_iff_le, decide_eq_true_eq]
  have h1 : (2 ^ 64 : Int) = 18446744073709551616 := by decide
  have h2 : (2 ^ (64 - 1) : Int) = 9223372036854775808 := by decide
  rw [h1, h2]
  have h3 : (((18446744073709551616 : Nat) : Int)) = 18446744073709551616 := rfl
  simp only [h3]
  split <;> split <;> omega
/-- Numbers that are small stay as they are. -/
theorem wSmall {x : Int} (h : -9223372036854775808 ≤ x) (h' : x < 9223372036854775808) : IntKind.i64.wrap x = x := by
  rw [wrap_mod]
  exact Int.bmod_eq_of_le (by omega) (by omega)
end Go.Abs
/-
Turned numbers, steps and paths: what the program and the reference give.
-/
namespace Go.Proofs.YtpdiaiccnaoaiaaGreatDoor
open Go Go.Abs
theorem heap0_sok {f : FuncId} {args : List Value} {v : Value} (h : SaysAt Tryz.prog 8 f args heap0 v heap0) : 8 ≤ heap0.length ∧ heap0.all tableRow = true ∧ SaysAt Tryz.prog 8 f args heap0 v heap0 := ⟨by decide, by decide, h⟩
theorem heapN_sok {f : FuncId} {args : List Value} {v : Value} (h : SaysAt Tryz.prog 8 f args heapN v heapN) : 8 ≤ heapN.length ∧ heapN.all tableRow = true ∧ SaysAt Tryz.prog 8 f args heapN v heapN := ⟨by decide, by decide, h⟩
theorem tm4 (n : Int) : (IntKind.i64.wrap (n.tmod 4 + 4)).tmod 4 = n % 4 := by
  have h1 := Int.tmod_lt_of_pos n (show (0 : Int) < 4 by decide)
  have h2 := Int.lt_tmod_of_pos n (show (0 : Int) < 4 by decide)
  have h3 := Int.mul_tdiv_add_tmod n 4
  rw [wSmall (by omega) (by omega), Int.tmod_eq_emod_of_nonneg (by omega)]
  omega
theorem m4 (n : Int) : n % 4 = 0 ∨ n % 4 = 1 ∨ n % 4 = 2 ∨ n % 4 = 3 := by omega
abbrev W (x : Int) : Int := IntKind.i64.wrap x
/-- A number times a power of i, by the program. -/
def tuX (x y k : Int) : Int := if k = 0 then W (W (x * 1) - W (y * 0)) else if k = 1 then W (W (x * 0) - W (y * 1)) else if k = 2 then W (W (x * -1) - W (y * 0)) else W (W (x * 0) - W (y * -1))
def tuY (x y k : Int) : Int := if k = 0 then W (W (x * 0) + W (y * 1)) else if k = 1 then W (W (x * 1) + W (y * 0)) else if k = 2 then W (W (x * 0) + W (y * -1)) else W (W (x * -1) + W (y * 0))
/-- By the reference. -/
def ruX (x y k : Int) : Int := if k = 0 then x else if k = 1 then W (0 - y) else if k = 2 then W (0 - x) else W (0 - W (0 - y))
def ruY (x y k : Int) : Int := if k = 0 then y else if k = 1 then x else if k = 2 then W (0 - y) else W (0 - x)
theorem s127 (x y n : Int) : SaysAt Tryz.prog 8 127 [.agg #[I x, I y], I n] heap0 (.agg #[I (tuX x y (n % 4)), I (tuY x y (n % 4))]) heap0 := by
  have e := tm4 n
  rcases m4 n with h | h | h | h <;> rw [h] at e ⊢
  · exact SaysAt.of_gives prog_ok envW_ok (tu0_p0 x y n (by rw [e]; kernel_rfl))
  · exact SaysAt.of_gives prog_ok envW_ok (tu1_p0 x y n (by rw [e]; kernel_rfl))
  · exact SaysAt.of_gives prog_ok envW_ok (tu2_p0 x y n (by rw [e]; kernel_rfl))
  · exact SaysAt.of_gives prog_ok envW_ok (tu3_p0 x y n (by rw [e]; kernel_rfl))
theorem s78 (x y n : Int) : SaysAt Tryz.prog 8 78 [.agg #[I x, I y], I n] heapN (.agg #[I (ruX x y (n % 4)), I (ruY x y (n % 4))]) heapN := by
  have e := tm4 n
  rcases m4 n with h | h | h | h <;> rw [h] at e ⊢
  · exact SaysAt.of_gives prog_ok envW_ok (ru0_p0 x y n (by rw [e]; rfl))
  · exact SaysAt.of_gives prog_ok envW_ok (ru1_p0 x y n (by rw [e]; rfl) (by rw [e]; rfl))
  · exact SaysAt.of_gives prog_ok envW_ok (ru2_p0 x y n (by rw [e]; rfl) (by rw [e]; rfl) (by rw [e]; rfl))
  · exact SaysAt.of_gives prog_ok envW_ok (ru3_p0 x y n (by rw [e]; rfl) (by rw [e]; rfl) (by rw [e]; rfl) (by rw [e]; rfl))
/-- The steps. -/
def dX (d : Int) : Int := [1, 1, 0, -1, -1, -1, 0, 1].getD d.toNat 0
def dY (d : Int) : Int := [0, 1, 1, 1, 0, -1, -1, -1].getD d.toNat 0
def okD (d : Int) : Bool := decide (0 ≤ d ∧ d ≤ 7)
theorem d8 {d : Int} (h : okD d = true) : d = 0 ∨ d = 1 ∨ d = 2 ∨ d = 3 ∨ d = 4 ∨ d = 5 ∨ d = 6 ∨ d = 7 := by
  have h := of_decide_eq_true h
  omega
def paF (x y d : Int) : Int := W (W (x * dX d) + W (y * dY d))
theorem s86 (x y g p d : Int) (h : okD d = true) : SaysAt Tryz.prog 8 86 [.agg #[I x, I y, I g, I p], I d] heap0 (I (paF x y d)) heap0 := by
  rcases d8 h with rfl | rfl | rfl | rfl | rfl | rfl | rfl | rfl
  · exact SaysAt.of_gives prog_ok envW_ok (pa0_p0 x y g p)
  · exact SaysAt.of_gives prog_ok envW_ok (pa1_p0 x y g p)
  · exact SaysAt.of_gives prog_ok envW_ok (pa2_p0 x y g p)
  · exact SaysAt.of_gives prog_ok envW_ok (pa3_p0 x y g p)
  · exact SaysAt.of_gives prog_ok envW_ok (pa4_p0 x y g p)
  · exact SaysAt.of_gives prog_ok envW_ok (pa5_p0 x y g p)
  · exact SaysAt.of_gives prog_ok envW_ok (pa6_p0 x y g p)
  · exact SaysAt.of_gives prog_ok envW_ok (pa7_p0 x y g p)
theorem s27 (x y g p d : Int) (h : okD d = true) : SaysAt Tryz.prog 8 27 [.agg #[I x, I y, I g, I p], I d] heapN (I (paF x y d)) heapN := by
  rcases d8 h with rfl | rfl | rfl | rfl | rfl | rfl | rfl | rfl
  · exact SaysAt.of_gives prog_ok envZ_ok (rpa0_p0 x y g p)
  · exact SaysAt.of_gives prog_ok envZ_ok (rpa1_p0 x y g p)
  · exact SaysAt.of_gives prog_ok envZ_ok (rpa2_p0 x y g p)
  · exact SaysAt.of_gives prog_ok envZ_ok (rpa3_p0 x y g p)
  · exact SaysAt.of_gives prog_ok envZ_ok (rpa4_p0 x y g p)
  · exact SaysAt.of_gives prog_ok envZ_ok (rpa5_p0 x y g p)
  · exact SaysAt.of_gives prog_ok envZ_ok (rpa6_p0 x y g p)
  · exact SaysAt.of_gives prog_ok envZ_ok (rpa7_p0 x y g p)
theorem s26 (d : Int) (h : okD d = true) : SaysAt Tryz.prog 8 26 [I d] heapN (.tuple #[I (dX d), I (dY d)]) heapN := by
  rcases d8 h with rfl | rfl | rfl | rfl | rfl | rfl | rfl | rfl
  · exact SaysAt.of_gives prog_ok envZ_ok rsp0_p0
  · exact SaysAt.of_gives prog_ok envZ_ok rsp1_p0
  · exact SaysAt.of_gives prog_ok envZ_ok rsp2_p0
  · exact SaysAt.of_gives prog_ok envZ_ok rsp3_p0
  · exact SaysAt.of_gives prog_ok envZ_ok rsp4_p0
  · exact SaysAt.of_gives prog_ok envZ_ok rsp5_p0
  · exact SaysAt.of_gives prog_ok envZ_ok rsp6_p0
  · exact SaysAt.of_gives prog_ok envZ_ok rsp7_p0
/-- The error of a direction. -/
def eD (d : Int) : Int := if okD d = true then 0 else 3
theorem cd83_eq (d : Int) : cd83_r0 d = eD d := by
  unfold cd83_r0 c97_r0 c97_c0 c97_c1 eD okD
  by_cases h1 : 0 ≤ d <;> by_cases h2 : d ≤ 7 <;> simp [h1, h2]
def stX (d : Int) : Int := if okD d = true then dX d else 0
def stY (d : Int) : Int := if okD d = true then dY d else 0
theorem s17 (d : Int) : SaysAt Tryz.prog 8 17 [I d] heap0 (.tuple #[I (stX d), I (stY d), I (eD d)]) heap0 := by
  by_cases h : okD d = true
  · have e1 : stX d = dX d := if_pos h
    have e2 : stY d = dY d := if_pos h
    have e3 : eD d = 0 := if_pos h
    rw [e1, e2, e3]
    rcases d8 h with rfl | rfl | rfl | rfl | rfl | rfl | rfl | rfl
    · exact SaysAt.of_gives prog_ok envZ_ok stp0_p0
    · exact SaysAt.of_gives prog_ok envZ_ok stp1_p0
    · exact SaysAt.of_gives prog_ok envZ_ok stp2_p0
    · exact SaysAt.of_gives prog_ok envZ_ok stp3_p0
    · exact SaysAt.of_gives prog_ok envZ_ok stp4_p0
    · exact SaysAt.of_gives prog_ok envZ_ok stp5_p0
    · exact SaysAt.of_gives prog_ok envZ_ok stp6_p0
    · exact SaysAt.of_gives prog_ok envZ_ok stp7_p0
  · have e1 : stX d = 0 := if_neg h
    have e2 : stY d = 0 := if_neg h
    have e3 : eD d = 3 := if_neg h
    rw [e1, e2, ← cd83_eq]
    exact SaysAt.of_gives prog_ok envZ_ok (ste_p0 d (by rw [cd83_eq, e3]; rfl))
def B_envB (f : FuncId) (args : List Value) : Option (Heap × Value) :=
  if f == 127 then
    match args with
    | [.agg ⟨[.int .i64 x, .int .i64 y]⟩, .int .i64 n] => some (heap0, .agg #[.int .i64 (tuX x y (n % 4)), .int .i64 (tuY x y (n % 4))])
    | _ => none
  else  if f == 78 then
    match args with
    | [.agg ⟨[.int .i64 x, .int .i64 y]⟩, .int .i64 n] => some (heapN, .agg #[.int .i64 (ruX x y (n % 4)), .int .i64 (ruY x y (n % 4))])
    | _ => none
  else  if f == 86 then
    match args with
    | [.agg ⟨[.int .i64 x, .int .i64 y, .int .i64 g, .int .i64 p]⟩, .int .i64 d] => if okD d then some (heap0, .int .i64 (paF x y d)) else none
    | _ => none
  else  if f == 27 then
    match args with
    | [.agg ⟨[.int .i64 x, .int .i64 y, .int .i64 g, .int .i64 p]⟩, .int .i64 d] => if okD d then some (heapN, .int .i64 (paF x y d)) else none
    | _ => none
  else  if f == 26 then
    match args with
    | [.int .i64 d] => if okD d then some (heapN, .tuple #[.int .i64 (dX d), .int .i64 (dY d)]) else none
    | _ => none
  else  if f == 17 then
    match args with
    | [.int .i64 d] => some (heap0, .tuple #[.int .i64 (stX d), .int .i64 (stY d), .int .i64 (eD d)])
    | _ => none
  else none
noncomputable def envB : Env := envZ.with (baseKnown B_envB)
theorem envB_ok : EnvOK Tryz.prog 8 envB := env_base' envZ_ok fun f args H v h => by
  unfold B_envB at h
  split at h
  · rename_i hf
    have hf : f = 127 := by simpa using hf
    subst hf
    split at h
    · cases h; exact heap0_sok (s127 _ _ _)
    · cases h
  · skip
    split at h
    · rename_i hf
      have hf : f = 78 := by simpa using hf
      subst hf
      split at h
      · cases h; exact heapN_sok (s78 _ _ _)
      · cases h
    · skip
      split at h
      · rename_i hf
        have hf : f = 86 := by simpa using hf
        subst hf
        split at h
        · split at h
          · rename_i hl; cases h; exact heap0_sok (s86 _ _ _ _ _ hl)
          · cases h
        · cases h
      · skip
        split at h
        · rename_i hf
          have hf : f = 27 := by simpa using hf
          subst hf
          split at h
          · split at h
            · rename_i hl; cases h; exact heapN_sok (s27 _ _ _ _ _ hl)
            · cases h
          · cases h
        · skip
          split at h
          · rename_i hf
            have hf : f = 26 := by simpa using hf
            subst hf
            split at h
            · split at h
              · rename_i hl; cases h; exact heapN_sok (s26 _ hl)
              · cases h
            · cases h
          · skip
            split at h
            · rename_i hf
              have hf : f = 17 := by simpa using hf
              subst hf
              split at h
              · cases h; exact heap0_sok (s17 _)
              · cases h
            · skip
              cases h
/-
A list copied: pieces.
-/
theorem owq0_p0  (n c : Nat) (r8 : Option ARow) : Runs Tryz.prog envB 9 [.code (codeL (bodyOf 20))] [sl 8 0 n c, U, U, U, U, U, U, U, U, U, U, U, U, U, U, U, U, U] (n8 [r8]) ([(sl 8 0 n c), U, (.slice .none 0 0), U, U, U, U, U, U, U, U, U, U, U, U, U, U, U], (n8 [r8]), none) :=
  Runs.by (n := 1000) (fid := 20) (os := []) (os' := []) (by kernel_rfl) (ObsOK.nil)
theorem owq1_p0  (n c : Nat) (r8 : Option ARow) : Runs Tryz.prog envB 9 [.code (codeL (codeR (bodyOf 20)))] [(sl 8 0 n c), U, (.slice .none 0 0), U, U, U, U, U, U, U, U, U, U, U, U, U, U, U] (n8 [r8]) ([(sl 8 0 n c), U, (.slice .none 0 0), (.slice .none 0 0), U, U, U, U, U, U, U, U, U, U, U, U, U, U], (n8 [r8]), none) :=
  Runs.by (n := 1000) (fid := 20) (os := []) (os' := []) (by kernel_rfl) (ObsOK.nil)
theorem owq2_p0  (n c : Nat) (r8 : Option ARow) : Runs Tryz.prog envB 9 [.code (codeL (codeL (codeR (codeR (bodyOf 20)))))] [(sl 8 0 n c), U, (.slice .none 0 0), (.slice .none 0 0), U, U, U, U, U, U, U, U, U, U, U, U, U, U] (n8 [r8]) ([(sl 8 0 n c), U, (.slice .none 0 0), (.slice .none 0 0), U, U, (sl 8 0 n c), (I ((n : Int))), I 0, U, U, U, U, U, U, U, U, U], (n8 [r8]), none) :=
  Runs.by (n := 1000) (fid := 20) (os := []) (os' := []) (by kernel_rfl) (ObsOK.nil)
theorem owA0_p0 (v0 v1 v2 v4 v5 v9 v10 v11 v12 v13 v14 v15 v16 v17 : Value) (mm : Nat) (cs cs2 : List Value) (n c : Nat) (r8 : Option ARow) (i : Int) (k8 : Nat) (z8x z8y z8g z8p : Int) (hx8 : aIndexAddr Tryz.prog 22 (sl 8 0 n c) (I i) = some (pt 8 k8)) (hl8 : aLoad Tryz.prog 24 (pt 8 k8) (n8 [r8, some (.cells cs 32 .row)]) = some (.agg #[I z8x, I z8y, I z8g, I z8p])) (ha : aAppend Tryz.prog 9 #[37, 37] (sl 9 0 mm mm) (sl 11 0 1 1) (n8 [r8, (.some (.cells cs 32 .row)), (.some (.cells [I z8x, I z8y, I z8g, I z8p] 24 .var)), (.some (.cells [I z8x, I z8y, I z8g, I z8p] 32 .row))]) = some (sl 12 0 (mm + 1) (mm + 1), (n8 [r8, none, (.some (.cells [I z8x, I z8y, I z8g, I z8p] 24 .var)), (.some (.cells [I z8x, I z8y, I z8g, I z8p] 32 .row)), some (.cells cs2 32 .row)]))) (f1 : decide (i < ((n : Int))) = true) : Runs Tryz.prog envB 9 [.code (round 0 (bodyOf 20))] [v0, v1, v2, sl 9 0 mm mm, v4, v5, (sl 8 0 n c), (I ((n : Int))), I i, v9, v10, v11, v12, v13, v14, v15, v16, v17] (n8 [r8, some (.cells cs 32 .row)]) ([v0, v1, v2, (sl 12 0 (mm + 1) (mm + 1)), v4, (pt 10 0), (sl 8 0 n c), (I ((n : Int))), (I (IntKind.i64.wrap (i + 1))), (.bool (decide (i < (n : Int)))), (pt 8 k8), (.agg #[I z8x, I z8y, I z8g, I z8p]), (sl 9 0 mm mm), (.agg #[I z8x, I z8y, I z8g, I z8p]), (sl 11 0 1 1), (sl 12 0 (mm + 1) (mm + 1)), (I (IntKind.i64.wrap (i + 1))), v17], (n8 [r8, .none, (.some (.cells [I z8x, I z8y, I z8g, I z8p] 24 .var)), (.some (.cells [I z8x, I z8y, I z8g, I z8p] 32 .row)), (.some (.cells cs2 32 .row))]), none) :=
  Runs.by (n := 1000) (fid := 20) (os := [.br 20 20 true, .op 20 11 (pt 8 k8), .op 20 12 (.agg #[I z8x, I z8y, I z8g, I z8p]), .opw 20 16 (sl 12 0 (mm + 1) (mm + 1)) (n8 [r8, .none, (.some (.cells [I z8x, I z8y, I z8g, I z8p] 24 .var)), (.some (.cells [I z8x, I z8y, I z8g, I z8p] 32 .row)), (.some (.cells cs2 32 .row))])]) (os' := []) (by kernel_rfl) (ObsOK.cond f1 (ObsOK.val hx8 (ObsOK.val hl8 (ObsOK.both ha (ObsOK.nil)))))
theorem owC_p0 (v0 v1 v2 v4 v5 v9 v10 v11 v12 v13 v14 v15 v16 v17 : Value) (mm : Nat) (cs cs2 : List Value) (n c : Nat) (r8 : Option ARow) (i : Int) (f1 : decide (i < ((n : Int))) = false) : Runs Tryz.prog envB 9 [.code (round 0 (bodyOf 20)), .inLoop (round 0 (bodyOf 20)), .inBlock 0] [v0, v1, v2, sl 9 0 mm mm, v4, v5, (sl 8 0 n c), (I ((n : Int))), I i, v9, v10, v11, v12, v13, v14, v15, v16, v17] (n8 [r8, some (.cells cs 32 .row)]) ([v0, v1, v2, (sl 9 0 mm mm), v4, v5, (sl 8 0 n c), (I ((n : Int))), I i, (.bool (decide (i < (n : Int)))), v10, v11, v12, v13, v14, v15, v16, v17], (n8 [r8, (.some (.cells cs 32 .row))]), none) :=
  Runs.by (n := 1000) (fid := 20) (os := [.br 20 20 false]) (os' := []) (by kernel_rfl) (ObsOK.cond f1 (ObsOK.nil))
theorem ownA0_p0 (v0 v1 v2 v4 v5 v9 v10 v11 v12 v13 v14 v15 v16 v17 : Value) (n c : Nat) (r8 : Option ARow) (i : Int) (k8 : Nat) (z8x z8y z8g z8p : Int) (hx8 : aIndexAddr Tryz.prog 22 (sl 8 0 n c) (I i) = some (pt 8 k8)) (hl8 : aLoad Tryz.prog 24 (pt 8 k8) (n8 [r8]) = some (.agg #[I z8x, I z8y, I z8g, I z8p])) (f1 : decide (i < ((n : Int))) = true) : Runs Tryz.prog envB 9 [.code (round 0 (bodyOf 20))] [v0, v1, v2, .slice none 0 0, v4, v5, (sl 8 0 n c), (I ((n : Int))), I i, v9, v10, v11, v12, v13, v14, v15, v16, v17] (n8 [r8]) ([v0, v1, v2, (sl 11 0 1 1), v4, (pt 9 0), (sl 8 0 n c), (I ((n : Int))), (I (IntKind.i64.wrap (i + 1))), (.bool (decide (i < (n : Int)))), (pt 8 k8), (.agg #[I z8x, I z8y, I z8g, I z8p]), (.slice .none 0 0), (.agg #[I z8x, I z8y, I z8g, I z8p]), (sl 10 0 1 1), (sl 11 0 1 1), (I (IntKind.i64.wrap (i + 1))), v17], (n8 [r8, (.some (.cells [I z8x, I z8y, I z8g, I z8p] 24 .var)), (.some (.cells [I z8x, I z8y, I z8g, I z8p] 32 .row)), (.some (.cells [I z8x, I z8y, I z8g, I z8p] 32 .row))]), none) :=
  Runs.by (n := 1000) (fid := 20) (os := [.br 20 20 true, .op 20 11 (pt 8 k8), .op 20 12 (.agg #[I z8x, I z8y, I z8g, I z8p])]) (os' := []) (by kernel_rfl) (ObsOK.cond f1 (ObsOK.val hx8 (ObsOK.val hl8 (ObsOK.nil))))
theorem owZ_p0 (v0 v1 v2 v4 v5 v8 v9 v10 v11 v12 v13 v14 v15 v16 v17 : Value) (n c : Nat) (r8 : Option ARow) (mm : Nat) (cs : List Value) : Runs Tryz.prog envB 9 [.code (codeR (codeR (codeR (bodyOf 20))))] [v0, v1, v2, sl 9 0 mm mm, v4, v5, (sl 8 0 n c), (I ((n : Int))), v8, v9, v10, v11, v12, v13, v14, v15, v16, v17] (n8 [r8, some (.cells cs 32 .row)]) ([v0, v1, (sl 9 0 mm mm), (sl 9 0 mm mm), v4, v5, (sl 8 0 n c), (I ((n : Int))), v8, v9, v10, v11, v12, v13, v14, v15, v16, (sl 9 0 mm mm)], (n8 [r8, (.some (.cells cs 32 .row))]), some .ret) :=
  Runs.by (n := 1000) (fid := 20) (os := []) (os' := []) (by kernel_rfl) (ObsOK.nil)
/-
A list copied.
-/
theorem keptS {A : Heap} {r e : Nat} {u : Use} {xs : List Sr} (h : hget A r = some (.cells (srs xs) e u)) : keptRows A [r] = some [rS xs e u] := by simp only [keptRows, h, srs_atoms, if_true]
theorem keptI {A : Heap} {r e : Nat} {u : Use} {xs : List Int} (h : hget A r = some (.cells (ints xs) e u)) : keptRows A [r] = some [rI xs e u] := by simp only [keptRows, h, ints_atoms, if_true]
theorem srs_take {l : List Sr} {i : Nat} (h : i < l.length) : srs (l.take (i + 1)) = srs (l.take i) ++ [I (l.getD i s0).x, I (l.getD i s0).y, I (l.getD i s0).g, I (l.getD i s0).p] := by
  rw [List.take_add_one, getD_some (d := s0) h]
  simp only [Option.toList_some, srs_app, srs_one]
  rfl
def ow_b (xs : List Sr) (c e : Nat) (u : Use) (jj : Nat) (f : Nat → Value) : List Value := [f 0, f 1, f 2, sl 9 0 (jj) (jj), f 4, f 5, (sl 8 0 xs.length c), (I ((xs.length : Int))), I (jj : Int), f 9, f 10, f 11, f 12, f 13, f 14, f 15, f 16, f 17]
def ow_S (xs : List Sr) (c e : Nat) (u : Use) (jj : Nat) (ls : List Value) : Prop := ∃ f : Nat → Value, ls = ow_b xs c e u jj f ∧ JF [9] f
theorem ow_S.mk {xs : List Sr} {c e : Nat} {u : Use} {jj : Nat} {ls : List Value} (h : ls = ow_b xs c e u jj (fun k => ls.getD k (I 0))) (hj : JL [9] 0 ls) : ow_S xs c e u jj ls := ⟨_, h, hj.fn⟩
def ow_bE (xs : List Sr) (c e : Nat) (u : Use) (jj : Nat) (f : Nat → Value) : List Value := [f 0, f 1, f 2, sl 9 0 (jj) (jj), f 4, f 5, (sl 8 0 xs.length c), (I ((xs.length : Int))), f 8, f 9, f 10, f 11, f 12, f 13, f 14, f 15, f 16, f 17]
def ow_SE (xs : List Sr) (c e : Nat) (u : Use) (jj : Nat) (ls : List Value) : Prop := ∃ f : Nat → Value, ls = ow_bE xs c e u jj f ∧ JF [9] f
theorem ow_SE.mk {xs : List Sr} {c e : Nat} {u : Use} {jj : Nat} {ls : List Value} (h : ls = ow_bE xs c e u jj (fun k => ls.getD k (I 0))) (hj : JL [9] 0 ls) : ow_SE xs c e u jj ls := ⟨_, h, hj.fn⟩
def ow_bN (xs : List Sr) (c e : Nat) (u : Use) (jj : Nat) (f : Nat → Value) : List Value := [f 0, f 1, f 2, .slice none 0 0, f 4, f 5, (sl 8 0 xs.length c), (I ((xs.length : Int))), I (jj : Int), f 9, f 10, f 11, f 12, f 13, f 14, f 15, f 16, f 17]
def ow_SN (xs : List Sr) (c e : Nat) (u : Use) (jj : Nat) (ls : List Value) : Prop := ∃ f : Nat → Value, ls = ow_bN xs c e u jj f ∧ JF [9] f
theorem ow_SN.mk {xs : List Sr} {c e : Nat} {u : Use} {jj : Nat} {ls : List Value} (h : ls = ow_bN xs c e u jj (fun k => ls.getD k (I 0))) (hj : JL [9] 0 ls) : ow_SN xs c e u jj ls := ⟨_, h, hj.fn⟩
def ow_K : List Keep := [.no, .no, .no, .ren, .no, .no, .ren, .free, .free, .free, .no, .no, .no, .no, .no, .no, .no, .no]
theorem ow_go (xs : List Sr) (c e : Nat) (u : Use) {KK : List It} {v' : Value} {A' : Heap} (hb : xs.length ≤ 1000) (hend : ∀ ls, ow_SE xs c e u xs.length ls → EndsG Tryz.prog 8 Tryz.f20 (n8 [(rS xs e u)]) v' A' (KK) ls ((n8 [(rS xs e u)]) ++ [some (.cells (srs (xs.take xs.length)) 32 .row)])) : ∀ d jj, jj + d = xs.length → 1 ≤ jj → ∀ ls, ow_S xs c e u jj ls → EndsG Tryz.prog 8 Tryz.f20 (n8 [(rS xs e u)]) v' A' (.code (round 0 (bodyOf 20)) :: .inLoop (round 0 (bodyOf 20)) :: .inBlock 0 :: KK) ls ((n8 [(rS xs e u)]) ++ [some (.cells (srs (xs.take jj)) 32 .row)]) := by
  intro d
  induction d with
  | zero =>
    rintro jj hjj h1j ls ⟨f, rfl, hj⟩
    have hjn : jj = xs.length := by omega
    subst hjn
    have hr := owC_p0 (f 0) (f 1) (f 2) (f 4) (f 5) (f 9) (f 10) (f 11) (f 12) (f 13) (f 14) (f 15) (f 16) (f 17) ((xs.length)) ((srs (xs.take xs.length))) ((srs (xs.take (xs.length + 1)))) (xs.length) (c) ((rS xs e u)) ((xs.length : Int)) (decide_eq_false (by first | omega | (simp; omega)))
    refine EndsG.run (k := [.code (round 0 (bodyOf 20)), .inLoop (round 0 (bodyOf 20)), .inBlock 0]) (kk := KK) prog_ok envB_ok hr ?_
    exact hend _ (ow_SE.mk (jj := xs.length) (by kernel_rfl) (.f2 hj (.f1 hj (.c1 rfl (.f2 hj (.c4 rfl (.f8 hj .nil)))))))
  | succ d ih =>
    rintro jj hjj h1j ls ⟨f, rfl, hj⟩
    have hlt : jj < xs.length := by omega
    have hs := srs_take (l := xs) (i := jj) (by omega)
    obtain ⟨ti, t1, t2, t3, t4⟩ := info_of i32'
    have hr := owA0_p0 (f 0) (f 1) (f 2) (f 4) (f 5) (f 9) (f 10) (f 11) (f 12) (f 13) (f 14) (f 15) (f 16) (f 17) ((jj)) ((srs (xs.take jj))) ((srs (xs.take (jj + 1)))) (xs.length) (c) ((rS xs e u)) ((jj : Int)) ((jj * 4)) (((xs.getD jj s0).x)) (((xs.getD jj s0).y)) (((xs.getD jj s0).g)) (((xs.getD jj s0).p)) (ix22 (by omega)) (ld24 rfl (by omega)) ((by rw [hs]; exact app_one (P := Tryz.prog) (lim := 9) (r := 9) (q := 11) (n := (jj)) (c := (jj)) (c' := 1) (A := (n8 [(rS xs e u), (.some (.cells (srs (xs.take jj)) 32 .row)), (.some (.cells [(I ((xs.getD jj s0).x)), (I ((xs.getD jj s0).y)), (I ((xs.getD jj s0).g)), (I ((xs.getD jj s0).p))] 24 .var)), (.some (.cells [(I ((xs.getD jj s0).x)), (I ((xs.getD jj s0).y)), (I ((xs.getD jj s0).g)), (I ((xs.getD jj s0).p))] 32 .row))])) u37 t1 t2 t3 t4 rfl rfl rfl rfl (by rw [srs_len, List.length_take]; omega) rfl rfl (by decide) (by omega) (by omega) u37)) (decide_eq_true (by first | omega | (simp; omega)))
    try rw [wrap_succ' (by omega)] at hr
    refine EndsG.round prog_ok envB_ok hr ?_
    refine EndsG.renumS (X := [_, _, _, _]) (R := [(.some (.cells (srs (xs.take (jj + 1))) 32 .row))]) (ids := [12]) (m := ow_K) rfl rfl (by kernel_rfl) (.cons rfl (.plain (by first | rfl | exact srs_atoms _)) .nil) (.j2 0 hj rfl (.j1 2 hj rfl (.ren rfl (.j1 4 hj rfl (.no rfl (.ren rfl (.free rfl (.free rfl (.free rfl (.n4 rfl (.n2 rfl (.no rfl (.j1 17 hj rfl .nil))))))))))))) ?_
    exact ih (jj + 1) (by omega) (by omega) _ (ow_S.mk (jj := (jj + 1)) (by kernel_rfl) (.c16 rfl (.c2 rfl .nil)))
theorem ow_first (xs : List Sr) (c e : Nat) (u : Use) {KK : List It} {v' : Value} {A' : Heap} (hb : xs.length ≤ 1000) (hn : 1 ≤ xs.length) (hend : ∀ ls, ow_SE xs c e u xs.length ls → EndsG Tryz.prog 8 Tryz.f20 (n8 [(rS xs e u)]) v' A' (KK) ls ((n8 [(rS xs e u)]) ++ [some (.cells (srs (xs.take xs.length)) 32 .row)])) : ∀ ls, ow_SN xs c e u 0 ls → EndsG Tryz.prog 8 Tryz.f20 (n8 [(rS xs e u)]) v' A' (.code (round 0 (bodyOf 20)) :: .inLoop (round 0 (bodyOf 20)) :: .inBlock 0 :: KK) ls ((n8 [(rS xs e u)]) ++ []) := by
  rintro ls ⟨f, rfl, hj⟩
  have hr := ownA0_p0 (f 0) (f 1) (f 2) (f 4) (f 5) (f 9) (f 10) (f 11) (f 12) (f 13) (f 14) (f 15) (f 16) (f 17) (xs.length) (c) ((rS xs e u)) (((0 : Nat) : Int)) ((0 * 4)) (((xs.getD 0 s0).x)) (((xs.getD 0 s0).y)) (((xs.getD 0 s0).g)) (((xs.getD 0 s0).p)) (ix22 (by omega)) (ld24 rfl (by omega)) (decide_eq_true (by first | omega | (simp; omega)))
  try rw [wrap_succ' (by omega)] at hr
  refine EndsG.round prog_ok envB_ok hr ?_
  refine EndsG.renumS (X := [_, _, _]) (R := [(.some (.cells [(I ((xs.getD 0 s0).x)), (I ((xs.getD 0 s0).y)), (I ((xs.getD 0 s0).g)), (I ((xs.getD 0 s0).p))] 32 .row))]) (ids := [11]) (m := ow_K) rfl rfl (by kernel_rfl) (.cons rfl (.plain (by first | rfl | exact srs_atoms _)) .nil) (.j2 0 hj rfl (.j1 2 hj rfl (.ren rfl (.j1 4 hj rfl (.no rfl (.ren rfl (.free rfl (.free rfl (.free rfl (.n4 rfl (.n2 rfl (.no rfl (.j1 17 hj rfl .nil))))))))))))) ?_
  refine EndsG.rows (R' := [some (.cells (srs (xs.take 1)) 32 .row)]) (by rw [show (1 : Nat) = 0 + 1 from rfl, srs_take (l := xs) (i := 0) (by omega)]; rfl) ?_
  exact ow_go xs c e u (KK := KK) (v' := v') (A' := A') hb hend (xs.length - 1) 1 (by omega) (by omega) _ (ow_S.mk (jj := 1) (by kernel_rfl) (.c16 rfl (.c2 rfl .nil)))
theorem ow_end (xs : List Sr) (c e : Nat) (u : Use) (hb : xs.length ≤ 1000) : ∀ ls, ow_SE xs c e u xs.length ls → EndsG Tryz.prog 8 Tryz.f20 (n8 [(rS xs e u)]) (sl 9 0 xs.length xs.length) ((n8 [(rS xs e u)]) ++ [rS xs 32 .row]) ([.code (codeR (codeR (codeR (bodyOf 20))))]) ls ((n8 [(rS xs e u)]) ++ [some (.cells (srs (xs.take xs.length)) 32 .row)]) := by
  rintro ls ⟨f, rfl, hj⟩
  have hr := owZ_p0 (f 0) (f 1) (f 2) (f 4) (f 5) (f 8) (f 9) (f 10) (f 11) (f 12) (f 13) (f 14) (f 15) (f 16) (f 17) (xs.length) (c) ((rS xs e u)) ((xs.length)) ((srs (xs.take xs.length)))
  exact EndsG.ret (X := [_]) (v := (sl 9 0 (xs.length) (xs.length))) prog_ok envB_ok hr rfl (by kernel_rfl) (by rw [List.take_length]; exact gc_of (ids := [9]) rfl rfl (keptS rfl) rfl)
theorem ow_says (xs : List Sr) (c e : Nat) (u : Use) (hb : xs.length ≤ 1000) (hn : 1 ≤ xs.length) : SaysAt Tryz.prog 8 20 [sl 8 0 xs.length c] (n8 [(rS xs e u)]) (sl 9 0 xs.length xs.length) ((n8 [(rS xs e u)]) ++ [rS xs 32 .row]) := by
  refine EndsG.says prog_ok Tryz.func20 (c := bodyOf 20) (by kernel_rfl) (by kernel_rfl) ?_
  refine EndsG.seqO (by kernel_rfl) ?_
  refine EndsG.run (k := [.code (codeL (bodyOf 20))]) prog_ok envB_ok (owq0_p0 (xs.length) (c) ((rS xs e u))) ?_
  refine EndsG.seqO (by kernel_rfl) ?_
  refine EndsG.run (k := [.code (codeL (codeR (bodyOf 20)))]) prog_ok envB_ok (owq1_p0 (xs.length) (c) ((rS xs e u))) ?_
  refine EndsG.seqO (by kernel_rfl) ?_
  refine EndsG.seqO (by kernel_rfl) ?_
  refine EndsG.run (k := [.code (codeL (codeL (codeR (codeR (bodyOf 20)))))]) prog_ok envB_ok (owq2_p0 (xs.length) (c) ((rS xs e u))) ?_
  refine EndsG.blockLoop (B := (round 0 (bodyOf 20))) (id := 0) (by kernel_rfl) ?_
  exact ow_first xs c e u hb hn (ow_end xs c e u hb) _ (ow_SN.mk (jj := 0) (by kernel_rfl) (.c16 rfl (.c2 rfl .nil)))
/-
Lists that are filled number by number; rows of arguments.
-/
theorem starts8 : ∀ {A : Heap}, 8 ≤ A.length → startsB heapN A = true
  | _ :: _ :: _ :: _ :: _ :: _ :: _ :: _ :: _, _ => rfl
theorem rowsS {A : Heap} {r : Nat} {xs : List Sr} {e : Nat} {u : Use} (h : hget A r = some (.cells (srs xs) e u)) : rowsAt A [r] = some [rS xs e u] := by
  simp only [rowsAt, h, srs_atoms, if_true]
theorem rowsI {A : Heap} {r : Nat} {xs : List Int} {e : Nat} {u : Use} (h : hget A r = some (.cells (ints xs) e u)) : rowsAt A [r] = some [rI xs e u] := by
  simp only [rowsAt, h, ints_atoms, if_true]
/-- A list whose first i numbers are told by a function, the others are 0. -/
def fillI (φ : Nat → Int) (n i : Nat) : List Int := (List.range n).map fun k => if k < i then φ k else 0
theorem fillI_len (φ : Nat → Int) (n i : Nat) : (fillI φ n i).length = n := by simp [fillI]
theorem fillI_zero (φ : Nat → Int) (n : Nat) : fillI φ n 0 = List.replicate n 0 := by
  unfold fillI
  rw [List.eq_replicate_iff]
  simp
theorem fillI_succ {φ : Nat → Int} {n i : Nat} (h : i < n) : fillI φ n (i + 1) = (fillI φ n i).set i (φ i) := by
  apply List.ext_getElem
  · simp [fillI]
  · intro k h1 h2
    simp only [fillI, List.getElem_map, List.getElem_range, List.getElem_set]
    by_cases hk : i = k
    · subst hk; simp
    · rw [if_neg hk]
      by_cases hki : k < i
      · rw [if_pos (by omega), if_pos hki]
      · rw [if_neg (by omega), if_neg hki]
theorem fillI_all (φ : Nat → Int) (n : Nat) : fillI φ n n = (List.range n).map φ := by
  unfold fillI
  apply List.map_congr_left
  intro k hk
  rw [if_pos (List.mem_range.1 hk)]
theorem range_map {α : Type} (xs : List α) (d : α) (f : α → Int) : (List.range xs.length).map (fun k => f (xs.getD k d)) = xs.map f := by
  apply List.ext_getElem
  · simp
  · intro k h1 h2
    simp at h1
    simp [h1]
theorem zeros_ints : ∀ n : Nat, aZeros [I 0] n = ints (List.replicate n 0)
  | 0 => rfl
  | n + 1 => by
    show [I 0] ++ aZeros [I 0] n = _
    rw [zeros_ints n]; rfl
theorem mk138 {A : Heap} {n : Nat} (hn : n ≤ 1000) : aMakeSlice Tryz.prog 138 (I (n : Int)) (I (n : Int)) A = some (.slice (some ⟨A.length, 0, none⟩) n n, A ++ [rI (List.replicate n 0) 27 .row]) := by
  obtain ⟨ti, t1, t2, t3, t4⟩ := info_of i27'
  simp only [aMakeSlice, u138, t1, t3]
  have hz : (I 0).cells.toList = [I 0] := rfl
  rw [if_pos (by rw [t2, t4]; refine ⟨rfl, rfl, by omega, Int.le_refl _, by omega, by omega⟩), hz, zeros_ints]
  simp
theorem splice_set {xs : List Int} {i : Nat} {x : Int} (h : i < xs.length) : splice (ints xs) i [I x] = ints (xs.set i x) := by
  unfold splice ints
  rw [List.set_eq_take_append_cons_drop, if_pos h]
  simp [List.map_take, List.map_drop]
theorem st27 {A : Heap} {lim r i e : Nat} {xs : List Int} {x : Int} (hr : hget A r = some (.cells (ints xs) e .row)) (hl : lim ≤ r) (h : i < xs.length) : aStore Tryz.prog lim 27 (.pointer (some ⟨r, i, none⟩)) (I x) A = some (hset A r (rI (xs.set i x) e .row)) := by
  obtain ⟨ti, t1, t2, t3, t4⟩ := info_of i27'
  have hz : (I x).cells.toList = [I x] := rfl
  simp only [aStore, hr, t1, hz]
  rw [if_pos (by rw [t2, ints_len]; refine ⟨by decide, hl, rfl, by simp; omega, rfl⟩), splice_set h]
/-- The error of a source. -/
def csE (s : Sr) : Int := cs85_r0 s.x s.y s.g s.p
/-- The errors of the sources that have been looked at. -/
def csL (xs : List Sr) (i : Nat) : List Int := fillI (fun k => csE (xs.getD k s0)) xs.length i
/-
Fields of elements; contracts that ask for a direction.
-/
theorem srs_get {xs : List Sr} {i o : Nat} (h : i < xs.length) (ho : o < 4) : (srs xs)[i * 4 + o]? = (xs.getD i s0).c[o]? := by
  have e := fm_elem Sr.c_len (getD_some (d := s0) h)
  rw [← e, List.getElem?_take, if_pos ho, List.getElem?_drop]
  rfl
theorem ldg {A : Heap} {r i e : Nat} {u : Use} {xs : List Sr} (hr : hget A r = some (.cells (srs xs) e u)) (h : i < xs.length) : aLoad Tryz.prog 3 (.pointer (some ⟨r, i * 4 + 2, none⟩)) A = some (I (xs.getD i s0).g) := by
  simp only [aLoad, hr, aPart, u3, descAgg, Bool.false_eq_true, if_false]
  exact srs_get (o := 2) h (by decide)
theorem ldp {A : Heap} {r i e : Nat} {u : Use} {xs : List Sr} (hr : hget A r = some (.cells (srs xs) e u)) (h : i < xs.length) : aLoad Tryz.prog 3 (.pointer (some ⟨r, i * 4 + 3, none⟩)) A = some (I (xs.getD i s0).p) := by
  simp only [aLoad, hr, aPart, u3, descAgg, Bool.false_eq_true, if_false]
  exact srs_get (o := 3) h (by decide)
theorem base_gives {P : Program} {E : Env} {B : FuncId → List Value → Option (Heap × Value)} {lim : Nat} {f : FuncId} {args : List Value} {A H : Heap} {v : Value} (hB : B f args = some (H, v)) (ha : args.all freeB = true) (hv : freeB v = true) (hs : startsB H A = true) : Gives P (E.with (baseKnown B)) lim f args A (v, A) :=
  known_gives (by simp only [Env.with, baseKnown, hB, ha, hv, hs, Bool.and_self, if_true])
theorem k27 {x y g p d : Int} (h : okD d = true) : ∀ (lim : Nat) (A : Heap), startsB heapN A = true → Gives Tryz.prog envB lim 27 [.agg #[I x, I y, I g, I p], I d] A (I (paF x y d), A) := fun lim A hs =>
  base_gives (H := heapN) (by show (if okD d = true then some (heapN, Value.int .i64 (paF x y d)) else none) = _; rw [if_pos h]) rfl rfl hs
theorem k86 {x y g p d : Int} (h : okD d = true) : ∀ (lim : Nat) (A : Heap), startsB heap0 A = true → Gives Tryz.prog envB lim 86 [.agg #[I x, I y, I g, I p], I d] A (I (paF x y d), A) := fun lim A hs =>
  base_gives (H := heap0) (by show (if okD d = true then some (heap0, Value.int .i64 (paF x y d)) else none) = _; rw [if_pos h]) rfl rfl hs
/-
Lists that are filled source by source.
-/
/-- A list whose first i sources are told by a function, the others are 0. -/
def fillS (φ : Nat → Sr) (n i : Nat) : List Sr := (List.range n).map fun k => if k < i then φ k else s0
theorem fillS_len (φ : Nat → Sr) (n i : Nat) : (fillS φ n i).length = n := by simp [fillS]
theorem fillS_zero (φ : Nat → Sr) (n : Nat) : fillS φ n 0 = List.replicate n s0 := by
  unfold fillS
  rw [List.eq_replicate_iff]
  simp
theorem fillS_succ {φ : Nat → Sr} {n i : Nat} (h : i < n) : fillS φ n (i + 1) = (fillS φ n i).set i (φ i) := by
  apply List.ext_getElem
  · simp [fillS]
  · intro k h1 h2
    simp only [fillS, List.getElem_map, List.getElem_range, List.getElem_set]
    by_cases hk : i = k
    · subst hk; simp
    · rw [if_neg hk]
      by_cases hki : k < i
      · rw [if_pos (by omega), if_pos hki]
      · rw [if_neg (by omega), if_neg hki]
theorem fillS_all (xs : List Sr) (f : Sr → Sr) : fillS (fun k => f (xs.getD k s0)) xs.length xs.length = xs.map f := by
  apply List.ext_getElem
  · simp [fillS]
  · intro k h1 h2
    simp [fillS] at h1
    simp [fillS, h1]
theorem zeros_srs : ∀ n : Nat, aZeros [I 0, I 0, I 0, I 0] n = srs (List.replicate n s0)
  | 0 => rfl
  | n + 1 => by
    show [I 0, I 0, I 0, I 0] ++ aZeros [I 0, I 0, I 0, I 0] n = _
    rw [zeros_srs n]; rfl
theorem mk37 {A : Heap} {n : Nat} (hn : n ≤ 1000) : aMakeSlice Tryz.prog 37 (I (n : Int)) (I (n : Int)) A = some (.slice (some ⟨A.length, 0, none⟩) n n, A ++ [rS (List.replicate n s0) 32 .row]) := by
  obtain ⟨ti, t1, t2, t3, t4⟩ := info_of i32'
  simp only [aMakeSlice, u37, t1, t3]
  have hz : (Value.agg #[I 0, I 0, I 0, I 0]).cells.toList = [I 0, I 0, I 0, I 0] := rfl
  rw [if_pos (by rw [t2, t4]; refine ⟨rfl, rfl, by omega, Int.le_refl _, by omega, by omega⟩), hz, zeros_srs]
  simp
theorem srs_take_len (xs : List Sr) (i : Nat) : (srs xs).take (i * 4) = srs (xs.take i) := by
  induction xs generalizing i with
  | nil => simp [srs]
  | cons a l ih =>
    cases i with
    | zero => simp [srs]
    | succ i =>
      have h1 : srs (a :: l) = a.c ++ srs l := rfl
      have h2 : srs ((a :: l).take (i + 1)) = a.c ++ srs (l.take i) := rfl
      rw [h1, h2, List.take_append, Sr.c_len, List.take_of_length_le (by rw [Sr.c_len]; omega), show (i + 1) * 4 - 4 = i * 4 by omega, ih]
theorem srs_drop_len (xs : List Sr) (i : Nat) : (srs xs).drop (i * 4) = srs (xs.drop i) := fm_drop Sr.c_len xs i
theorem spliceS {xs : List Sr} {i : Nat} {s : Sr} (h : i < xs.length) : splice (srs xs) (i * 4) [I s.x, I s.y, I s.g, I s.p] = srs (xs.set i s) := by
  unfold splice
  rw [List.set_eq_take_append_cons_drop, if_pos h, srs_app, srs_take_len, show i * 4 + [I s.x, I s.y, I s.g, I s.p].length = (i + 1) * 4 by simp; omega, srs_drop_len, List.append_assoc]
  rfl
theorem st32 {A : Heap} {lim r i e : Nat} {xs : List Sr} {s : Sr} (hr : hget A r = some (.cells (srs xs) e .row)) (hl : lim ≤ r) (h : i < xs.length) : aStore Tryz.prog lim 32 (.pointer (some ⟨r, i * 4, none⟩)) (sv s) A = some (hset A r (rS (xs.set i s) e .row)) := by
  obtain ⟨ti, t1, t2, t3, t4⟩ := info_of i32'
  have hz : (sv s).cells.toList = [I s.x, I s.y, I s.g, I s.p] := rfl
  simp only [aStore, hr, t1, hz]
  rw [if_pos (by rw [t2, srs_len]; refine ⟨by decide, hl, rfl, by simp; omega, rfl⟩), spliceS h]
/-- A source turned. -/
def tuE (q : Int) (s : Sr) : Sr := ⟨tuX s.x s.y (q % 4), tuY s.x s.y (q % 4), s.g, s.p⟩
def tuS (q : Int) (xs : List Sr) (i : Nat) : List Sr := fillS (fun k => tuE q (xs.getD k s0)) xs.length i
/-
Sources turned: pieces.
-/
theorem mtq0_p0  (rq : Option ARow) (n c : Nat) (r8 : Option ARow) (q : Int) (hm : aMakeSlice Tryz.prog 37 (I (n : Int)) (I (n : Int)) (H [r8, some (.cells [I q] 3 .var)]) = some (sl 10 0 n n, (H [r8, some (.cells [I q] 3 .var)]) ++ [rq])) : Runs Tryz.prog envB 10 [.code (codeL (bodyOf 101))] [sl 8 0 n c, .func (.func 133) #[] #[pt 9 0], U, U, U, U, U, U, U, U, U, U, U, U, U, U, U, U, U, U, U, U, U, U, U, U] (H [r8, some (.cells [I q] 3 .var)]) ([(sl 8 0 n c), (.func (.func 133) #[] #[(pt 9 0)]), U, U, (.slice .none 0 0), U, U, U, U, U, U, U, U, U, U, U, U, U, U, U, U, U, U, U, U, U], (H [r8, (.some (.cells [I q] 3 .var))]), none) :=
  Runs.by (n := 1000) (fid := 101) (os := []) (os' := []) (by kernel_rfl) (ObsOK.nil)
theorem mtq1_p0  (rq : Option ARow) (n c : Nat) (r8 : Option ARow) (q : Int) (hm : aMakeSlice Tryz.prog 37 (I (n : Int)) (I (n : Int)) (H [r8, some (.cells [I q] 3 .var)]) = some (sl 10 0 n n, (H [r8, some (.cells [I q] 3 .var)]) ++ [rq])) : Runs Tryz.prog envB 10 [.code (codeL (codeR (bodyOf 101)))] [(sl 8 0 n c), (.func (.func 133) #[] #[(pt 9 0)]), U, U, (.slice .none 0 0), U, U, U, U, U, U, U, U, U, U, U, U, U, U, U, U, U, U, U, U, U] (H [r8, (.some (.cells [I q] 3 .var))]) ([(sl 8 0 n c), (.func (.func 133) #[] #[(pt 9 0)]), U, U, (.slice .none 0 0), (sl 10 0 n n), U, U, (sl 8 0 n c), (I ((n : Int))), (sl 10 0 n n), U, U, U, U, U, U, U, U, U, U, U, U, U, U, U], (H [r8, (.some (.cells [I q] 3 .var)), rq]), none) :=
  Runs.by (n := 1000) (fid := 101) (os := [.opw 101 11 (sl 10 0 n n) (H [r8, (.some (.cells [I q] 3 .var)), rq])]) (os' := []) (by kernel_rfl) (ObsOK.both hm (ObsOK.nil))
theorem mtq2_p0  (rq : Option ARow) (n c : Nat) (r8 : Option ARow) (q : Int) (hm : aMakeSlice Tryz.prog 37 (I (n : Int)) (I (n : Int)) (H [r8, some (.cells [I q] 3 .var)]) = some (sl 10 0 n n, (H [r8, some (.cells [I q] 3 .var)]) ++ [rq])) : Runs Tryz.prog envB 10 [.code (codeL (codeL (codeR (codeR (bodyOf 101)))))] [(sl 8 0 n c), (.func (.func 133) #[] #[(pt 9 0)]), U, U, (.slice .none 0 0), (sl 10 0 n n), U, U, (sl 8 0 n c), (I ((n : Int))), (sl 10 0 n n), U, U, U, U, U, U, U, U, U, U, U, U, U, U, U] (H [r8, (.some (.cells [I q] 3 .var)), rq]) ([(sl 8 0 n c), (.func (.func 133) #[] #[(pt 9 0)]), U, U, (.slice .none 0 0), (sl 10 0 n n), U, U, (sl 8 0 n c), (I ((n : Int))), (sl 10 0 n n), (sl 8 0 n c), (I ((n : Int))), I 0, U, U, U, U, U, U, U, U, U, U, U, U], (H [r8, (.some (.cells [I q] 3 .var)), rq]), none) :=
  Runs.by (n := 1000) (fid := 101) (os := []) (os' := []) (by kernel_rfl) (ObsOK.nil)
theorem mtA0_p0 (v0 v2 v3 v4 v6 v7 v8 v9 v10 v14 v15 v16 v17 v18 v19 v20 v21 v22 v23 v24 v25 : Value) (rq rq' : Option ARow) (n c : Nat) (r8 : Option ARow) (q i : Int) (k8 : Nat) (z8x z8y z8g z8p : Int) (hx8 : aIndexAddr Tryz.prog 37 (sl 8 0 n c) (I i) = some (pt 8 k8)) (hl8 : aLoad Tryz.prog 32 (pt 8 k8) (H [r8, some (.cells [I q] 3 .var), rq]) = some (.agg #[I z8x, I z8y, I z8g, I z8p])) (k10 : Nat) (hx10 : aIndexAddr Tryz.prog 37 (sl 10 0 n n) (I i) = some (pt 10 k10)) (hs10 : aStore Tryz.prog 10 32 (Value.pointer (some { block := 10, off := k10 })) (Value.agg { toList := [Value.int IntKind.i64 (tuX z8x z8y (q % 4)), Value.int IntKind.i64 (tuY z8x z8y (q % 4)), Value.int IntKind.i64 z8g, Value.int IntKind.i64 z8p] }) (H [r8, (.some (.cells [I q] 3 .var)), rq, (.some (.cells [I z8x, I z8y, I z8g, I z8p] 32 .var))]) = some (H [r8, (.some (.cells [I q] 3 .var)), rq', (.some (.cells [I z8x, I z8y, I z8g, I z8p] 32 .var))])) (f1 : decide (i < ((n : Int))) = true) : Runs Tryz.prog envB 10 [.code (round 0 (bodyOf 101))] [v0, (.func (.func 133) #[] #[(pt 9 0)]), v2, v3, v4, (sl 10 0 n n), v6, v7, v8, v9, v10, (sl 8 0 n c), (I ((n : Int))), I i, v14, v15, v16, v17, v18, v19, v20, v21, v22, v23, v24, v25] (H [r8, some (.cells [I q] 3 .var), rq]) ([v0, (.func (.func 133) #[] #[(pt 9 0)]), v2, v3, v4, (sl 10 0 n n), I i, (pt 11 0), v8, v9, v10, (sl 8 0 n c), (I ((n : Int))), (I (IntKind.i64.wrap (i + 1))), (.bool (decide (i < (n : Int)))), I i, (pt 8 k8), (.agg #[I z8x, I z8y, I z8g, I z8p]), (sl 10 0 n n), I i, (.func (.func 133) #[] #[(pt 9 0)]), (.agg #[I z8x, I z8y, I z8g, I z8p]), (.agg #[(I (tuX z8x z8y (q % 4))), (I (tuY z8x z8y (q % 4))), I z8g, I z8p]), (pt 10 k10), (I (IntKind.i64.wrap (i + 1))), v25], (H [r8, (.some (.cells [I q] 3 .var)), rq', (.some (.cells [I z8x, I z8y, I z8g, I z8p] 32 .var))]), none) :=
  Runs.by (n := 1000) (fid := 101) (os := [.br 101 30 true, .op 101 17 (pt 8 k8), .op 101 18 (.agg #[I z8x, I z8y, I z8g, I z8p]), .op 101 24 (pt 10 k10), .opw 101 0 undef (H [r8, (.some (.cells [I q] 3 .var)), rq', (.some (.cells [I z8x, I z8y, I z8g, I z8p] 32 .var))])]) (os' := []) (by kernel_rfl) (ObsOK.cond f1 (ObsOK.val hx8 (ObsOK.val hl8 (ObsOK.val hx10 (ObsOK.heap hs10 (ObsOK.nil))))))
theorem mtC_p0 (v0 v2 v3 v4 v6 v7 v8 v9 v10 v14 v15 v16 v17 v18 v19 v20 v21 v22 v23 v24 v25 : Value) (rq rq' : Option ARow) (n c : Nat) (r8 : Option ARow) (q i : Int) (f1 : decide (i < ((n : Int))) = false) : Runs Tryz.prog envB 10 [.code (round 0 (bodyOf 101)), .inLoop (round 0 (bodyOf 101)), .inBlock 0] [v0, (.func (.func 133) #[] #[(pt 9 0)]), v2, v3, v4, (sl 10 0 n n), v6, v7, v8, v9, v10, (sl 8 0 n c), (I ((n : Int))), I i, v14, v15, v16, v17, v18, v19, v20, v21, v22, v23, v24, v25] (H [r8, some (.cells [I q] 3 .var), rq]) ([v0, (.func (.func 133) #[] #[(pt 9 0)]), v2, v3, v4, (sl 10 0 n n), v6, v7, v8, v9, v10, (sl 8 0 n c), (I ((n : Int))), I i, (.bool (decide (i < (n : Int)))), v15, v16, v17, v18, v19, v20, v21, v22, v23, v24, v25], (H [r8, (.some (.cells [I q] 3 .var)), rq]), none) :=
  Runs.by (n := 1000) (fid := 101) (os := [.br 101 30 false]) (os' := []) (by kernel_rfl) (ObsOK.cond f1 (ObsOK.nil))
theorem mtZ_p0 (v0 v2 v3 v4 v6 v7 v8 v9 v10 v13 v14 v15 v16 v17 v18 v19 v20 v21 v22 v23 v24 v25 : Value) (n c : Nat) (r8 : Option ARow) (q : Int) (rq : Option ARow) : Runs Tryz.prog envB 10 [.code (codeR (codeR (codeR (bodyOf 101))))] [v0, (.func (.func 133) #[] #[(pt 9 0)]), v2, v3, v4, (sl 10 0 n n), v6, v7, v8, v9, v10, (sl 8 0 n c), (I ((n : Int))), v13, v14, v15, v16, v17, v18, v19, v20, v21, v22, v23, v24, v25] (H [r8, some (.cells [I q] 3 .var), rq]) ([v0, (.func (.func 133) #[] #[(pt 9 0)]), v2, v3, (sl 10 0 n n), (sl 10 0 n n), v6, v7, v8, v9, v10, (sl 8 0 n c), (I ((n : Int))), v13, v14, v15, v16, v17, v18, v19, v20, v21, v22, v23, v24, (sl 10 0 n n)], (H [r8, (.some (.cells [I q] 3 .var)), rq]), some .ret) :=
  Runs.by (n := 1000) (fid := 101) (os := []) (os' := []) (by kernel_rfl) (ObsOK.nil)
/-
Sources turned.
-/
def mt_b (xs : List Sr) (q : Int) (c e : Nat) (u : Use) (jj : Nat) (f : Nat → Value) : List Value := [f 0, (.func (.func 133) #[] #[(pt 9 0)]), f 2, f 3, f 4, (sl 10 0 xs.length xs.length), f 6, f 7, f 8, f 9, f 10, (sl 8 0 xs.length c), (I ((xs.length : Int))), I (jj : Int), f 14, f 15, f 16, f 17, f 18, f 19, f 20, f 21, f 22, f 23, f 24, f 25]
def mt_S (xs : List Sr) (q : Int) (c e : Nat) (u : Use) (jj : Nat) (ls : List Value) : Prop := ∃ f : Nat → Value, ls = mt_b xs q c e u jj f ∧ JF [14] f
theorem mt_S.mk {xs : List Sr} {q : Int} {c e : Nat} {u : Use} {jj : Nat} {ls : List Value} (h : ls = mt_b xs q c e u jj (fun k => ls.getD k (I 0))) (hj : JL [14] 0 ls) : mt_S xs q c e u jj ls := ⟨_, h, hj.fn⟩
def mt_bE (xs : List Sr) (q : Int) (c e : Nat) (u : Use) (jj : Nat) (f : Nat → Value) : List Value := [f 0, (.func (.func 133) #[] #[(pt 9 0)]), f 2, f 3, f 4, (sl 10 0 xs.length xs.length), f 6, f 7, f 8, f 9, f 10, (sl 8 0 xs.length c), (I ((xs.length : Int))), f 13, f 14, f 15, f 16, f 17, f 18, f 19, f 20, f 21, f 22, f 23, f 24, f 25]
def mt_SE (xs : List Sr) (q : Int) (c e : Nat) (u : Use) (jj : Nat) (ls : List Value) : Prop := ∃ f : Nat → Value, ls = mt_bE xs q c e u jj f ∧ JF [14] f
theorem mt_SE.mk {xs : List Sr} {q : Int} {c e : Nat} {u : Use} {jj : Nat} {ls : List Value} (h : ls = mt_bE xs q c e u jj (fun k => ls.getD k (I 0))) (hj : JL [14] 0 ls) : mt_SE xs q c e u jj ls := ⟨_, h, hj.fn⟩
def mt_K : List Keep := [.no, .ren, .no, .no, .no, .ren, .no, .no, .no, .no, .no, .ren, .free, .free, .free, .no, .no, .no, .no, .no, .no, .no, .no, .no, .no, .no]
theorem mt_go (xs : List Sr) (q : Int) (c e : Nat) (u : Use) {KK : List It} {v' : Value} {A' : Heap} (hb : xs.length ≤ 1000) (hend : ∀ ls, mt_SE xs q c e u xs.length ls → EndsG Tryz.prog 8 Tryz.f101 (H [(rS xs e u), some (.cells [I q] 3 .var)]) v' A' (KK) ls ((H [(rS xs e u), some (.cells [I q] 3 .var)]) ++ [((rS (tuS q xs xs.length) 32 .row))])) : ∀ dd jj, jj + dd = xs.length → ∀ ls, mt_S xs q c e u jj ls → EndsG Tryz.prog 8 Tryz.f101 (H [(rS xs e u), some (.cells [I q] 3 .var)]) v' A' (.code (round 0 (bodyOf 101)) :: .inLoop (round 0 (bodyOf 101)) :: .inBlock 0 :: KK) ls ((H [(rS xs e u), some (.cells [I q] 3 .var)]) ++ [((rS (tuS q xs jj) 32 .row))]) := by
  intro dd
  induction dd with
  | zero =>
    rintro jj hjj ls ⟨f, rfl, hj⟩
    have hjn : jj = xs.length := by omega
    subst hjn
    have hr := mtC_p0 (f 0) (f 2) (f 3) (f 4) (f 6) (f 7) (f 8) (f 9) (f 10) (f 14) (f 15) (f 16) (f 17) (f 18) (f 19) (f 20) (f 21) (f 22) (f 23) (f 24) (f 25) (((rS (tuS q xs xs.length) 32 .row))) (((rS (tuS q xs (xs.length + 1)) 32 .row))) (xs.length) (c) ((rS xs e u)) (q) ((xs.length : Int)) (decide_eq_false (by first | omega | (simp; omega)))
    refine EndsG.run (k := [.code (round 0 (bodyOf 101)), .inLoop (round 0 (bodyOf 101)), .inBlock 0]) (kk := KK) prog_ok envB_ok hr ?_
    exact hend _ (mt_SE.mk (jj := xs.length) (by kernel_rfl) (.f1 hj (.c1 rfl (.f2 hj (.f1 hj (.c1 rfl (.f4 hj (.f1 hj (.c4 rfl (.f8 hj (.f2 hj (.f1 hj .nil))))))))))))
  | succ dd ih =>
    rintro jj hjj ls ⟨f, rfl, hj⟩
    have hlt : jj < xs.length := by omega
    have hr := mtA0_p0 (f 0) (f 2) (f 3) (f 4) (f 6) (f 7) (f 8) (f 9) (f 10) (f 14) (f 15) (f 16) (f 17) (f 18) (f 19) (f 20) (f 21) (f 22) (f 23) (f 24) (f 25) (((rS (tuS q xs jj) 32 .row))) (((rS (tuS q xs (jj + 1)) 32 .row))) (xs.length) (c) ((rS xs e u)) (q) ((jj : Int)) ((jj * 4)) (((xs.getD jj s0).x)) (((xs.getD jj s0).y)) (((xs.getD jj s0).g)) (((xs.getD jj s0).p)) (ix37 (by omega)) (ld32 rfl (by omega)) ((jj * 4)) (ix37 (by omega)) (by rw [show tuS q xs (jj + 1) = (tuS q xs jj).set jj (tuE q (xs.getD jj s0)) from fillS_succ (by omega)]; exact st32 (s := tuE q (xs.getD jj s0)) rfl (by decide) (by rw [show (tuS q xs jj).length = xs.length from fillS_len _ _ _]; omega)) (decide_eq_true (by first | omega | (simp; omega)))
    try rw [wrap_succ' (by omega)] at hr
    refine EndsG.round prog_ok envB_ok hr ?_
    refine EndsG.renumS (X := [_, _]) (R := [((rS (tuS q xs (jj + 1)) 32 .row))]) (ids := [10]) (m := mt_K) rfl rfl (by kernel_rfl) (.cons rfl (.plain (srs_atoms _)) .nil) (.j1 0 hj rfl (.ren rfl (.j2 2 hj rfl (.j1 4 hj rfl (.ren rfl (.n2 rfl (.j2 8 hj rfl (.j1 10 hj rfl (.ren rfl (.free rfl (.free rfl (.free rfl (.n8 rfl (.n2 rfl (.j1 25 hj rfl .nil))))))))))))))) ?_
    exact ih (jj + 1) (by omega) _ (mt_S.mk (jj := (jj + 1)) (by kernel_rfl) (.c16 rfl (.c8 rfl (.c2 rfl .nil))))
theorem mt_end (xs : List Sr) (q : Int) (c e : Nat) (u : Use) (hb : xs.length ≤ 1000) : ∀ ls, mt_SE xs q c e u xs.length ls → EndsG Tryz.prog 8 Tryz.f101 (H [(rS xs e u), some (.cells [I q] 3 .var)]) (sl 10 0 xs.length xs.length) ((H [(rS xs e u), some (.cells [I q] 3 .var)]) ++ [rS (xs.map (tuE q)) 32 .row]) ([.code (codeR (codeR (codeR (bodyOf 101))))]) ls ((H [(rS xs e u), some (.cells [I q] 3 .var)]) ++ [((rS (tuS q xs xs.length) 32 .row))]) := by
  rintro ls ⟨f, rfl, hj⟩
  have hr := mtZ_p0 (f 0) (f 2) (f 3) (f 4) (f 6) (f 7) (f 8) (f 9) (f 10) (f 13) (f 14) (f 15) (f 16) (f 17) (f 18) (f 19) (f 20) (f 21) (f 22) (f 23) (f 24) (f 25) (xs.length) (c) ((rS xs e u)) (q) (((rS (tuS q xs xs.length) 32 .row)))
  exact EndsG.ret (X := [_]) (v := (sl 10 0 xs.length xs.length)) prog_ok envB_ok hr rfl (by kernel_rfl) (by rw [show tuS q xs xs.length = xs.map (tuE q) from fillS_all _ _]; exact gc_of (ids := [10]) rfl rfl (keptS rfl) rfl)
theorem mt_says (xs : List Sr) (q : Int) (c e : Nat) (u : Use) (hb : xs.length ≤ 1000) : SaysAt Tryz.prog 8 101 [sl 8 0 xs.length c, .func (.func 133) #[] #[pt 9 0]] (H [(rS xs e u), some (.cells [I q] 3 .var)]) (sl 10 0 xs.length xs.length) ((H [(rS xs e u), some (.cells [I q] 3 .var)]) ++ [rS (xs.map (tuE q)) 32 .row]) := by
  refine EndsG.says prog_ok Tryz.func101 (c := bodyOf 101) (by kernel_rfl) (by kernel_rfl) ?_
  refine EndsG.seqO (by kernel_rfl) ?_
  refine EndsG.run (k := [.code (codeL (bodyOf 101))]) prog_ok envB_ok (mtq0_p0 (((rS (tuS q xs 0) 32 .row))) (xs.length) (c) ((rS xs e u)) (q) (by rw [show tuS q xs 0 = List.replicate xs.length s0 from fillS_zero _ _]; exact mk37 (by omega))) ?_
  refine EndsG.seqO (by kernel_rfl) ?_
  refine EndsG.run (k := [.code (codeL (codeR (bodyOf 101)))]) prog_ok envB_ok (mtq1_p0 (((rS (tuS q xs 0) 32 .row))) (xs.length) (c) ((rS xs e u)) (q) (by rw [show tuS q xs 0 = List.replicate xs.length s0 from fillS_zero _ _]; exact mk37 (by omega))) ?_
  refine EndsG.seqO (by kernel_rfl) ?_
  refine EndsG.seqO (by kernel_rfl) ?_
  refine EndsG.run (k := [.code (codeL (codeL (codeR (codeR (bodyOf 101)))))]) prog_ok envB_ok (mtq2_p0 (((rS (tuS q xs 0) 32 .row))) (xs.length) (c) ((rS xs e u)) (q) (by rw [show tuS q xs 0 = List.replicate xs.length s0 from fillS_zero _ _]; exact mk37 (by omega))) ?_
  refine EndsG.blockLoop (B := (round 0 (bodyOf 101))) (id := 0) (by kernel_rfl) ?_
  exact mt_go xs q c e u hb (mt_end xs q c e u hb) xs.length 0 (Nat.zero_add _) _ (mt_S.mk (jj := 0) (by kernel_rfl) (.c16 rfl (.c8 rfl (.c2 rfl .nil))))
/-
Checks of places.
-/
def cp2_c0 (a b : Int) : Bool := a != lim_r0 a 100
def cp2_c1 (a b : Int) : Bool := b != lim_r0 b 100
theorem cp2_p0 (a b : Int) (h0 : cp2_c0 a b = true) : Gives Tryz.prog envB 0 99 [sl 8 0 2 2] (n8 [some (.cells [I a, I b] 3 .row)]) ((I 3), (n8 [some (.cells [I a, I b] 3 .row)])) :=
  Gives.by (n := 1000) (os := [.br 168 34 true]) (os' := []) (by kernel_rfl) (ObsOK.cond h0 (ObsOK.nil))
theorem cp2_p1 (a b : Int) (h0 : cp2_c0 a b = false) (h1 : cp2_c1 a b = true) : Gives Tryz.prog envB 0 99 [sl 8 0 2 2] (n8 [some (.cells [I a, I b] 3 .row)]) ((I 3), (n8 [some (.cells [I a, I b] 3 .row)])) :=
  Gives.by (n := 1000) (os := [.br 168 34 false, .br 168 34 true]) (os' := []) (by kernel_rfl) (ObsOK.cond h0 (ObsOK.cond h1 (ObsOK.nil)))
theorem cp2_p2 (a b : Int) (h0 : cp2_c0 a b = false) (h1 : cp2_c1 a b = false) : Gives Tryz.prog envB 0 99 [sl 8 0 2 2] (n8 [some (.cells [I a, I b] 3 .row)]) ((I 0), (n8 [some (.cells [I a, I b] 3 .row)])) :=
  Gives.by (n := 1000) (os := [.br 168 34 false, .br 168 34 false]) (os' := []) (by kernel_rfl) (ObsOK.cond h0 (ObsOK.cond h1 (ObsOK.nil)))
def cp2_r0 (a b : Int) : Int := (cond (cp2_c0 a b) (3) (cond (cp2_c1 a b) (3) (0)))
theorem cp2_gives (a b : Int) : Gives Tryz.prog envB 0 99 [sl 8 0 2 2] (n8 [some (.cells [I a, I b] 3 .row)]) ((I (cp2_r0 a b)), (n8 [some (.cells [I a, I b] 3 .row)])) := by
  cases g0 : cp2_c0 a b
  · skip
    cases g1 : cp2_c1 a b
    · skip
      simp only [cp2_r0, g0, g1, cond_true, cond_false]; exact cp2_p2 a b g0 g1
    · skip
      simp only [cp2_r0, g0, g1, cond_true, cond_false]; exact cp2_p1 a b g0 g1
  · skip
    simp only [cp2_r0, g0, cond_true, cond_false]; exact cp2_p0 a b g0
def cp1_c0 (a : Int) : Bool := a != lim_r0 a 100
theorem cp1_p0 (a : Int) (h0 : cp1_c0 a = true) : Gives Tryz.prog envB 0 99 [sl 8 0 1 1] (n8 [some (.cells [I a] 3 .row)]) ((I 3), (n8 [some (.cells [I a] 3 .row)])) :=
  Gives.by (n := 1000) (os := [.br 168 34 true]) (os' := []) (by kernel_rfl) (ObsOK.cond h0 (ObsOK.nil))
theorem cp1_p1 (a : Int) (h0 : cp1_c0 a = false) : Gives Tryz.prog envB 0 99 [sl 8 0 1 1] (n8 [some (.cells [I a] 3 .row)]) ((I 0), (n8 [some (.cells [I a] 3 .row)])) :=
  Gives.by (n := 1000) (os := [.br 168 34 false]) (os' := []) (by kernel_rfl) (ObsOK.cond h0 (ObsOK.nil))
def cp1_r0 (a : Int) : Int := (cond (cp1_c0 a) (3) (0))
theorem cp1_gives (a : Int) : Gives Tryz.prog envB 0 99 [sl 8 0 1 1] (n8 [some (.cells [I a] 3 .row)]) ((I (cp1_r0 a)), (n8 [some (.cells [I a] 3 .row)])) := by
  cases g0 : cp1_c0 a
  · skip
    simp only [cp1_r0, g0, cond_true, cond_false]; exact cp1_p1 a g0
  · skip
    simp only [cp1_r0, g0, cond_true, cond_false]; exact cp1_p0 a g0
theorem ct49_p0 (q : Int) : Gives Tryz.prog envB 0 49 [I q] [none, none, none, none, none, none, none, none] ((I (cr_r0 q (-999999999) 999999999)), [none, none, none, none, none, none, none, none]) :=
  Gives.by (n := 1000) (os := []) (os' := []) (by kernel_rfl) (ObsOK.nil)
def ct49_r0 (q : Int) : Int := (cr_r0 q (-999999999) 999999999)
theorem ct49_gives (q : Int) : Gives Tryz.prog envB 0 49 [I q] [none, none, none, none, none, none, none, none] ((I (ct49_r0 q)), [none, none, none, none, none, none, none, none]) := by
  simp only [ct49_r0, cond_true, cond_false]; exact ct49_p0 q
theorem cpl50_p0 (q : Int) : Gives Tryz.prog envB 0 50 [I q] [none, none, none, none, none, none, none, none] ((I (cr_r0 q (-100) 100)), [none, none, none, none, none, none, none, none]) :=
  Gives.by (n := 1000) (os := []) (os' := []) (by kernel_rfl) (ObsOK.nil)
def cpl50_r0 (q : Int) : Int := (cr_r0 q (-100) 100)
theorem cpl50_gives (q : Int) : Gives Tryz.prog envB 0 50 [I q] [none, none, none, none, none, none, none, none] ((I (cpl50_r0 q)), [none, none, none, none, none, none, none, none]) := by
  simp only [cpl50_r0, cond_true, cond_false]; exact cpl50_p0 q
/-
Errors of sources: pieces.
-/
theorem mpq0_p0  (rq : Option ARow) (n c : Nat) (r8 : Option ARow) (hm : aMakeSlice Tryz.prog 138 (I (n : Int)) (I (n : Int)) (n8 [r8]) = some (sl 9 0 n n, (n8 [r8]) ++ [rq])) : Runs Tryz.prog envB 9 [.code (codeL (bodyOf 90))] [sl 8 0 n c, .func (.func 85) #[] #[], U, U, U, U, U, U, U, U, U, U, U, U, U, U, U, U, U, U, U, U, U, U, U, U] (n8 [r8]) ([(sl 8 0 n c), (.func (.func 85) #[] #[]), U, U, (.slice .none 0 0), U, U, U, U, U, U, U, U, U, U, U, U, U, U, U, U, U, U, U, U, U], (n8 [r8]), none) :=
  Runs.by (n := 1000) (fid := 90) (os := []) (os' := []) (by kernel_rfl) (ObsOK.nil)
theorem mpq1_p0  (rq : Option ARow) (n c : Nat) (r8 : Option ARow) (hm : aMakeSlice Tryz.prog 138 (I (n : Int)) (I (n : Int)) (n8 [r8]) = some (sl 9 0 n n, (n8 [r8]) ++ [rq])) : Runs Tryz.prog envB 9 [.code (codeL (codeR (bodyOf 90)))] [(sl 8 0 n c), (.func (.func 85) #[] #[]), U, U, (.slice .none 0 0), U, U, U, U, U, U, U, U, U, U, U, U, U, U, U, U, U, U, U, U, U] (n8 [r8]) ([(sl 8 0 n c), (.func (.func 85) #[] #[]), U, U, (.slice .none 0 0), (sl 9 0 n n), U, U, (sl 8 0 n c), (I ((n : Int))), (sl 9 0 n n), U, U, U, U, U, U, U, U, U, U, U, U, U, U, U], (n8 [r8, rq]), none) :=
  Runs.by (n := 1000) (fid := 90) (os := [.opw 90 11 (sl 9 0 n n) (n8 [r8, rq])]) (os' := []) (by kernel_rfl) (ObsOK.both hm (ObsOK.nil))
theorem mpq2_p0  (rq : Option ARow) (n c : Nat) (r8 : Option ARow) (hm : aMakeSlice Tryz.prog 138 (I (n : Int)) (I (n : Int)) (n8 [r8]) = some (sl 9 0 n n, (n8 [r8]) ++ [rq])) : Runs Tryz.prog envB 9 [.code (codeL (codeL (codeR (codeR (bodyOf 90)))))] [(sl 8 0 n c), (.func (.func 85) #[] #[]), U, U, (.slice .none 0 0), (sl 9 0 n n), U, U, (sl 8 0 n c), (I ((n : Int))), (sl 9 0 n n), U, U, U, U, U, U, U, U, U, U, U, U, U, U, U] (n8 [r8, rq]) ([(sl 8 0 n c), (.func (.func 85) #[] #[]), U, U, (.slice .none 0 0), (sl 9 0 n n), U, U, (sl 8 0 n c), (I ((n : Int))), (sl 9 0 n n), (sl 8 0 n c), (I ((n : Int))), I 0, U, U, U, U, U, U, U, U, U, U, U, U], (n8 [r8, rq]), none) :=
  Runs.by (n := 1000) (fid := 90) (os := []) (os' := []) (by kernel_rfl) (ObsOK.nil)
theorem mpA0_p0 (v0 v2 v3 v4 v6 v7 v8 v9 v10 v14 v15 v16 v17 v18 v19 v20 v21 v22 v23 v24 v25 : Value) (rq rq' : Option ARow) (n c : Nat) (r8 : Option ARow) (i : Int) (k8 : Nat) (z8x z8y z8g z8p : Int) (hx8 : aIndexAddr Tryz.prog 37 (sl 8 0 n c) (I i) = some (pt 8 k8)) (hl8 : aLoad Tryz.prog 32 (pt 8 k8) (n8 [r8, rq]) = some (.agg #[I z8x, I z8y, I z8g, I z8p])) (k9 : Nat) (hx9 : aIndexAddr Tryz.prog 138 (sl 9 0 n n) (I i) = some (pt 9 k9)) (hs9 : aStore Tryz.prog 9 27 (Value.pointer (some { block := 9, off := k9 })) (Value.int IntKind.i64 (cs85_r0 z8x z8y z8g z8p)) (n8 [r8, rq, some (ARow.cells [Value.int IntKind.i64 z8x, Value.int IntKind.i64 z8y, Value.int IntKind.i64 z8g, Value.int IntKind.i64 z8p] 32 Use.var)]) = some (n8 [r8, rq', (.some (.cells [I z8x, I z8y, I z8g, I z8p] 32 .var))])) (f1 : decide (i < ((n : Int))) = true) : Runs Tryz.prog envB 9 [.code (round 0 (bodyOf 90))] [v0, (.func (.func 85) #[] #[]), v2, v3, v4, (sl 9 0 n n), v6, v7, v8, v9, v10, (sl 8 0 n c), (I ((n : Int))), I i, v14, v15, v16, v17, v18, v19, v20, v21, v22, v23, v24, v25] (n8 [r8, rq]) ([v0, (.func (.func 85) #[] #[]), v2, v3, v4, (sl 9 0 n n), I i, (pt 10 0), v8, v9, v10, (sl 8 0 n c), (I ((n : Int))), (I (IntKind.i64.wrap (i + 1))), (.bool (decide (i < (n : Int)))), I i, (pt 8 k8), (.agg #[I z8x, I z8y, I z8g, I z8p]), (sl 9 0 n n), I i, (.func (.func 85) #[] #[]), (.agg #[I z8x, I z8y, I z8g, I z8p]), (I (cs85_r0 z8x z8y z8g z8p)), (pt 9 k9), (I (IntKind.i64.wrap (i + 1))), v25], (n8 [r8, rq', (.some (.cells [I z8x, I z8y, I z8g, I z8p] 32 .var))]), none) :=
  Runs.by (n := 1000) (fid := 90) (os := [.br 90 30 true, .op 90 17 (pt 8 k8), .op 90 18 (.agg #[I z8x, I z8y, I z8g, I z8p]), .op 90 24 (pt 9 k9), .opw 90 0 undef (n8 [r8, rq', (.some (.cells [I z8x, I z8y, I z8g, I z8p] 32 .var))])]) (os' := []) (by kernel_rfl) (ObsOK.cond f1 (ObsOK.val hx8 (ObsOK.val hl8 (ObsOK.val hx9 (ObsOK.heap hs9 (ObsOK.nil))))))
theorem mpC_p0 (v0 v2 v3 v4 v6 v7 v8 v9 v10 v14 v15 v16 v17 v18 v19 v20 v21 v22 v23 v24 v25 : Value) (rq rq' : Option ARow) (n c : Nat) (r8 : Option ARow) (i : Int) (f1 : decide (i < ((n : Int))) = false) : Runs Tryz.prog envB 9 [.code (round 0 (bodyOf 90)), .inLoop (round 0 (bodyOf 90)), .inBlock 0] [v0, (.func (.func 85) #[] #[]), v2, v3, v4, (sl 9 0 n n), v6, v7, v8, v9, v10, (sl 8 0 n c), (I ((n : Int))), I i, v14, v15, v16, v17, v18, v19, v20, v21, v22, v23, v24, v25] (n8 [r8, rq]) ([v0, (.func (.func 85) #[] #[]), v2, v3, v4, (sl 9 0 n n), v6, v7, v8, v9, v10, (sl 8 0 n c), (I ((n : Int))), I i, (.bool (decide (i < (n : Int)))), v15, v16, v17, v18, v19, v20, v21, v22, v23, v24, v25], (n8 [r8, rq]), none) :=
  Runs.by (n := 1000) (fid := 90) (os := [.br 90 30 false]) (os' := []) (by kernel_rfl) (ObsOK.cond f1 (ObsOK.nil))
theorem mpZ_p0 (v0 v2 v3 v4 v6 v7 v8 v9 v10 v13 v14 v15 v16 v17 v18 v19 v20 v21 v22 v23 v24 v25 : Value) (n c : Nat) (r8 rq : Option ARow) : Runs Tryz.prog envB 9 [.code (codeR (codeR (codeR (bodyOf 90))))] [v0, (.func (.func 85) #[] #[]), v2, v3, v4, (sl 9 0 n n), v6, v7, v8, v9, v10, (sl 8 0 n c), (I ((n : Int))), v13, v14, v15, v16, v17, v18, v19, v20, v21, v22, v23, v24, v25] (n8 [r8, rq]) ([v0, (.func (.func 85) #[] #[]), v2, v3, (sl 9 0 n n), (sl 9 0 n n), v6, v7, v8, v9, v10, (sl 8 0 n c), (I ((n : Int))), v13, v14, v15, v16, v17, v18, v19, v20, v21, v22, v23, v24, (sl 9 0 n n)], (n8 [r8, rq]), some .ret) :=
  Runs.by (n := 1000) (fid := 90) (os := []) (os' := []) (by kernel_rfl) (ObsOK.nil)
/-
Errors of sources.
-/
def mp_b (xs : List Sr) (c e : Nat) (u : Use) (jj : Nat) (f : Nat → Value) : List Value := [f 0, (.func (.func 85) #[] #[]), f 2, f 3, f 4, (sl 9 0 xs.length xs.length), f 6, f 7, f 8, f 9, f 10, (sl 8 0 xs.length c), (I ((xs.length : Int))), I (jj : Int), f 14, f 15, f 16, f 17, f 18, f 19, f 20, f 21, f 22, f 23, f 24, f 25]
def mp_S (xs : List Sr) (c e : Nat) (u : Use) (jj : Nat) (ls : List Value) : Prop := ∃ f : Nat → Value, ls = mp_b xs c e u jj f ∧ JF [14] f
theorem mp_S.mk {xs : List Sr} {c e : Nat} {u : Use} {jj : Nat} {ls : List Value} (h : ls = mp_b xs c e u jj (fun k => ls.getD k (I 0))) (hj : JL [14] 0 ls) : mp_S xs c e u jj ls := ⟨_, h, hj.fn⟩
def mp_bE (xs : List Sr) (c e : Nat) (u : Use) (jj : Nat) (f : Nat → Value) : List Value := [f 0, (.func (.func 85) #[] #[]), f 2, f 3, f 4, (sl 9 0 xs.length xs.length), f 6, f 7, f 8, f 9, f 10, (sl 8 0 xs.length c), (I ((xs.length : Int))), f 13, f 14, f 15, f 16, f 17, f 18, f 19, f 20, f 21, f 22, f 23, f 24, f 25]
def mp_SE (xs : List Sr) (c e : Nat) (u : Use) (jj : Nat) (ls : List Value) : Prop := ∃ f : Nat → Value, ls = mp_bE xs c e u jj f ∧ JF [14] f
theorem mp_SE.mk {xs : List Sr} {c e : Nat} {u : Use} {jj : Nat} {ls : List Value} (h : ls = mp_bE xs c e u jj (fun k => ls.getD k (I 0))) (hj : JL [14] 0 ls) : mp_SE xs c e u jj ls := ⟨_, h, hj.fn⟩
def mp_K : List Keep := [.no, .free, .no, .no, .no, .ren, .no, .no, .no, .no, .no, .ren, .free, .free, .free, .no, .no, .no, .no, .no, .no, .no, .no, .no, .no, .no]
theorem mp_go (xs : List Sr) (c e : Nat) (u : Use) {KK : List It} {v' : Value} {A' : Heap} (hb : xs.length ≤ 1000) (hend : ∀ ls, mp_SE xs c e u xs.length ls → EndsG Tryz.prog 8 Tryz.f90 (n8 [(rS xs e u)]) v' A' (KK) ls ((n8 [(rS xs e u)]) ++ [((rI (csL xs xs.length) 27 .row))])) : ∀ d jj, jj + d = xs.length → ∀ ls, mp_S xs c e u jj ls → EndsG Tryz.prog 8 Tryz.f90 (n8 [(rS xs e u)]) v' A' (.code (round 0 (bodyOf 90)) :: .inLoop (round 0 (bodyOf 90)) :: .inBlock 0 :: KK) ls ((n8 [(rS xs e u)]) ++ [((rI (csL xs jj) 27 .row))]) := by
  intro d
  induction d with
  | zero =>
    rintro jj hjj ls ⟨f, rfl, hj⟩
    have hjn : jj = xs.length := by omega
    subst hjn
    have hr := mpC_p0 (f 0) (f 2) (f 3) (f 4) (f 6) (f 7) (f 8) (f 9) (f 10) (f 14) (f 15) (f 16) (f 17) (f 18) (f 19) (f 20) (f 21) (f 22) (f 23) (f 24) (f 25) (((rI (csL xs xs.length) 27 .row))) (((rI (csL xs (xs.length + 1)) 27 .row))) (xs.length) (c) ((rS xs e u)) ((xs.length : Int)) (decide_eq_false (by first | omega | (simp; omega)))
    refine EndsG.run (k := [.code (round 0 (bodyOf 90)), .inLoop (round 0 (bodyOf 90)), .inBlock 0]) (kk := KK) prog_ok envB_ok hr ?_
    exact hend _ (mp_SE.mk (jj := xs.length) (by kernel_rfl) (.f1 hj (.c1 rfl (.f2 hj (.f1 hj (.c1 rfl (.f4 hj (.f1 hj (.c4 rfl (.f8 hj (.f2 hj (.f1 hj .nil))))))))))))
  | succ d ih =>
    rintro jj hjj ls ⟨f, rfl, hj⟩
    have hlt : jj < xs.length := by omega
    have hr := mpA0_p0 (f 0) (f 2) (f 3) (f 4) (f 6) (f 7) (f 8) (f 9) (f 10) (f 14) (f 15) (f 16) (f 17) (f 18) (f 19) (f 20) (f 21) (f 22) (f 23) (f 24) (f 25) (((rI (csL xs jj) 27 .row))) (((rI (csL xs (jj + 1)) 27 .row))) (xs.length) (c) ((rS xs e u)) ((jj : Int)) ((jj * 4)) (((xs.getD jj s0).x)) (((xs.getD jj s0).y)) (((xs.getD jj s0).g)) (((xs.getD jj s0).p)) (ix37 (by omega)) (ld32 rfl (by omega)) ((jj)) (ix138 (by omega)) (by rw [show csL xs (jj + 1) = (csL xs jj).set jj (csE (xs.getD jj s0)) from fillI_succ (by omega)]; exact st27 rfl (by decide) (by rw [show (csL xs jj).length = xs.length from fillI_len _ _ _]; omega)) (decide_eq_true (by first | omega | (simp; omega)))
    try rw [wrap_succ' (by omega)] at hr
    refine EndsG.round prog_ok envB_ok hr ?_
    refine EndsG.renumS (X := [_, _]) (R := [((rI (csL xs (jj + 1)) 27 .row))]) (ids := [9]) (m := mp_K) rfl rfl (by kernel_rfl) (.cons rfl (.plain (ints_atoms _)) .nil) (.j1 0 hj rfl (.free rfl (.j2 2 hj rfl (.j1 4 hj rfl (.ren rfl (.n2 rfl (.j2 8 hj rfl (.j1 10 hj rfl (.ren rfl (.free rfl (.free rfl (.free rfl (.n8 rfl (.n2 rfl (.j1 25 hj rfl .nil))))))))))))))) ?_
    exact ih (jj + 1) (by omega) _ (mp_S.mk (jj := (jj + 1)) (by kernel_rfl) (.c16 rfl (.c8 rfl (.c2 rfl .nil))))
theorem mp_end (xs : List Sr) (c e : Nat) (u : Use) (hb : xs.length ≤ 1000) : ∀ ls, mp_SE xs c e u xs.length ls → EndsG Tryz.prog 8 Tryz.f90 (n8 [(rS xs e u)]) (sl 9 0 xs.length xs.length) ((n8 [(rS xs e u)]) ++ [rI (xs.map csE) 27 .row]) ([.code (codeR (codeR (codeR (bodyOf 90))))]) ls ((n8 [(rS xs e u)]) ++ [((rI (csL xs xs.length) 27 .row))]) := by
  rintro ls ⟨f, rfl, hj⟩
  have hr := mpZ_p0 (f 0) (f 2) (f 3) (f 4) (f 6) (f 7) (f 8) (f 9) (f 10) (f 13) (f 14) (f 15) (f 16) (f 17) (f 18) (f 19) (f 20) (f 21) (f 22) (f 23) (f 24) (f 25) (xs.length) (c) ((rS xs e u)) (((rI (csL xs xs.length) 27 .row)))
  exact EndsG.ret (X := [_]) (v := (sl 9 0 xs.length xs.length)) prog_ok envB_ok hr rfl (by kernel_rfl) (by rw [show csL xs xs.length = xs.map csE from (fillI_all _ _).trans (range_map _ _ _)]; exact gc_of (ids := [9]) rfl rfl (keptI rfl) rfl)
theorem mp_says (xs : List Sr) (c e : Nat) (u : Use) (hb : xs.length ≤ 1000) : SaysAt Tryz.prog 8 90 [sl 8 0 xs.length c, .func (.func 85) #[] #[]] (n8 [(rS xs e u)]) (sl 9 0 xs.length xs.length) ((n8 [(rS xs e u)]) ++ [rI (xs.map csE) 27 .row]) := by
  refine EndsG.says prog_ok Tryz.func90 (c := bodyOf 90) (by kernel_rfl) (by kernel_rfl) ?_
  refine EndsG.seqO (by kernel_rfl) ?_
  refine EndsG.run (k := [.code (codeL (bodyOf 90))]) prog_ok envB_ok (mpq0_p0 (((rI (csL xs 0) 27 .row))) (xs.length) (c) ((rS xs e u)) (by rw [show csL xs 0 = List.replicate xs.length 0 from fillI_zero _ _]; exact mk138 (by omega))) ?_
  refine EndsG.seqO (by kernel_rfl) ?_
  refine EndsG.run (k := [.code (codeL (codeR (bodyOf 90)))]) prog_ok envB_ok (mpq1_p0 (((rI (csL xs 0) 27 .row))) (xs.length) (c) ((rS xs e u)) (by rw [show csL xs 0 = List.replicate xs.length 0 from fillI_zero _ _]; exact mk138 (by omega))) ?_
  refine EndsG.seqO (by kernel_rfl) ?_
  refine EndsG.seqO (by kernel_rfl) ?_
  refine EndsG.run (k := [.code (codeL (codeL (codeR (codeR (bodyOf 90)))))]) prog_ok envB_ok (mpq2_p0 (((rI (csL xs 0) 27 .row))) (xs.length) (c) ((rS xs e u)) (by rw [show csL xs 0 = List.replicate xs.length 0 from fillI_zero _ _]; exact mk138 (by omega))) ?_
  refine EndsG.blockLoop (B := (round 0 (bodyOf 90))) (id := 0) (by kernel_rfl) ?_
  exact mp_go xs c e u hb (mp_end xs c e u hb) xs.length 0 (Nat.zero_add _) _ (mp_S.mk (jj := 0) (by kernel_rfl) (.c16 rfl (.c8 rfl (.c2 rfl .nil))))
/-
The first error of a list: pieces.
-/
theorem fiq0_p0  (n c : Nat) (r8 : Option ARow) : Runs Tryz.prog envB 9 [.code (codeL (bodyOf 84))] [sl 8 0 n c, U, U, U, U, U, U, U, U, U, U, U, U, U, U] (n8 [r8]) ([(sl 8 0 n c), U, I 0, U, U, U, U, U, U, U, U, U, U, U, U], (n8 [r8]), none) :=
  Runs.by (n := 1000) (fid := 84) (os := []) (os' := []) (by kernel_rfl) (ObsOK.nil)
theorem fiq1_p0  (n c : Nat) (r8 : Option ARow) : Runs Tryz.prog envB 9 [.code (codeL (codeL (codeR (bodyOf 84))))] [(sl 8 0 n c), U, I 0, U, U, U, U, U, U, U, U, U, U, U, U] (n8 [r8]) ([(sl 8 0 n c), U, I 0, U, U, (sl 8 0 n c), (I ((n : Int))), I 0, U, U, U, U, U, U, U], (n8 [r8]), none) :=
  Runs.by (n := 1000) (fid := 84) (os := []) (os' := []) (by kernel_rfl) (ObsOK.nil)
theorem fiB0_p0 (v0 v1 v2 v3 v4 v8 v9 v10 v11 v12 v13 v14 : Value) (n c : Nat) (r8 : Option ARow) (i : Int) (k8 : Nat) (z8 : Int) (hx8 : aIndexAddr Tryz.prog 138 (sl 8 0 n c) (I i) = some (pt 8 k8)) (hl8 : aLoad Tryz.prog 27 (pt 8 k8) (n8 [r8]) = some (I z8)) (f1 : decide (i < ((n : Int))) = true) (g0 : (z8 != 0) = true) : Runs Tryz.prog envB 9 [.code (round 0 (bodyOf 84))] [v0, v1, v2, v3, v4, (sl 8 0 n c), (I ((n : Int))), I i, v8, v9, v10, v11, v12, v13, v14] (n8 [r8]) ([v0, v1, I z8, v3, I z8, (sl 8 0 n c), (I ((n : Int))), I i, (.bool (decide (i < (n : Int)))), (pt 8 k8), I z8, I z8, (.bool (z8 != 0)), I z8, v14], (n8 [r8]), some .ret) :=
  Runs.by (n := 1000) (fid := 84) (os := [.br 84 18 true, .op 84 10 (pt 8 k8), .op 84 11 (I z8), .br 84 26 true]) (os' := []) (by kernel_rfl) (ObsOK.cond f1 (ObsOK.val hx8 (ObsOK.val hl8 (ObsOK.cond g0 (ObsOK.nil)))))
theorem fiA0_p0 (v0 v1 v2 v3 v4 v8 v9 v10 v11 v12 v13 v14 : Value) (n c : Nat) (r8 : Option ARow) (i : Int) (k8 : Nat) (z8 : Int) (hx8 : aIndexAddr Tryz.prog 138 (sl 8 0 n c) (I i) = some (pt 8 k8)) (hl8 : aLoad Tryz.prog 27 (pt 8 k8) (n8 [r8]) = some (I z8)) (f1 : decide (i < ((n : Int))) = true) (g0 : (z8 != 0) = false) : Runs Tryz.prog envB 9 [.code (round 0 (bodyOf 84))] [v0, v1, v2, v3, v4, (sl 8 0 n c), (I ((n : Int))), I i, v8, v9, v10, v11, v12, v13, v14] (n8 [r8]) ([v0, v1, v2, v3, I z8, (sl 8 0 n c), (I ((n : Int))), (I (IntKind.i64.wrap (i + 1))), (.bool (decide (i < (n : Int)))), (pt 8 k8), I z8, I z8, (.bool (z8 != 0)), v13, (I (IntKind.i64.wrap (i + 1)))], (n8 [r8]), none) :=
  Runs.by (n := 1000) (fid := 84) (os := [.br 84 18 true, .op 84 10 (pt 8 k8), .op 84 11 (I z8), .br 84 26 false]) (os' := []) (by kernel_rfl) (ObsOK.cond f1 (ObsOK.val hx8 (ObsOK.val hl8 (ObsOK.cond g0 (ObsOK.nil)))))
theorem fiC_p0 (v0 v1 v2 v3 v4 v8 v9 v10 v11 v12 v13 v14 : Value) (n c : Nat) (r8 : Option ARow) (i : Int) (f1 : decide (i < ((n : Int))) = false) : Runs Tryz.prog envB 9 [.code (round 0 (bodyOf 84)), .inLoop (round 0 (bodyOf 84)), .inBlock 0] [v0, v1, v2, v3, v4, (sl 8 0 n c), (I ((n : Int))), I i, v8, v9, v10, v11, v12, v13, v14] (n8 [r8]) ([v0, v1, v2, v3, v4, (sl 8 0 n c), (I ((n : Int))), I i, (.bool (decide (i < (n : Int)))), v9, v10, v11, v12, v13, v14], (n8 [r8]), none) :=
  Runs.by (n := 1000) (fid := 84) (os := [.br 84 18 false]) (os' := []) (by kernel_rfl) (ObsOK.cond f1 (ObsOK.nil))
theorem fiZ_p0 (v0 v1 v2 v3 v4 v7 v8 v9 v10 v11 v12 v13 v14 : Value) (n c : Nat) (r8 : Option ARow) : Runs Tryz.prog envB 9 [.code (codeR (codeR (bodyOf 84)))] [v0, v1, v2, v3, v4, (sl 8 0 n c), (I ((n : Int))), v7, v8, v9, v10, v11, v12, v13, v14] (n8 [r8]) ([v0, v1, I 0, v3, v4, (sl 8 0 n c), (I ((n : Int))), v7, v8, v9, v10, v11, v12, v13, v14], (n8 [r8]), some .ret) :=
  Runs.by (n := 1000) (fid := 84) (os := []) (os' := []) (by kernel_rfl) (ObsOK.nil)
/-
The first error of a list.
-/
noncomputable def fi_p (xs : List Int) (c e : Nat) (u : Use) (jj : Nat) : Bool := (cond (((xs.getD jj 0)) != 0) true false)
noncomputable def fi_v (xs : List Int) (c e : Nat) (u : Use) (jj : Nat) : Value := ((I ((xs.getD jj 0))))
def fi_b (xs : List Int) (c e : Nat) (u : Use) (jj : Nat) (f : Nat → Value) : List Value := [f 0, f 1, f 2, f 3, f 4, (sl 8 0 xs.length c), (I ((xs.length : Int))), I (jj : Int), f 8, f 9, f 10, f 11, f 12, f 13, f 14]
def fi_S (xs : List Int) (c e : Nat) (u : Use) (jj : Nat) (ls : List Value) : Prop := ∃ f : Nat → Value, ls = fi_b xs c e u jj f ∧ JF [8, 12] f
theorem fi_S.mk {xs : List Int} {c e : Nat} {u : Use} {jj : Nat} {ls : List Value} (h : ls = fi_b xs c e u jj (fun k => ls.getD k (I 0))) (hj : JL [8, 12] 0 ls) : fi_S xs c e u jj ls := ⟨_, h, hj.fn⟩
def fi_bE (xs : List Int) (c e : Nat) (u : Use) (jj : Nat) (f : Nat → Value) : List Value := [f 0, f 1, f 2, f 3, f 4, (sl 8 0 xs.length c), (I ((xs.length : Int))), f 7, f 8, f 9, f 10, f 11, f 12, f 13, f 14]
def fi_SE (xs : List Int) (c e : Nat) (u : Use) (jj : Nat) (ls : List Value) : Prop := ∃ f : Nat → Value, ls = fi_bE xs c e u jj f ∧ JF [8, 12] f
theorem fi_SE.mk {xs : List Int} {c e : Nat} {u : Use} {jj : Nat} {ls : List Value} (h : ls = fi_bE xs c e u jj (fun k => ls.getD k (I 0))) (hj : JL [8, 12] 0 ls) : fi_SE xs c e u jj ls := ⟨_, h, hj.fn⟩
def fi_K : List Keep := [.no, .no, .no, .no, .no, .ren, .free, .free, .free, .no, .no, .no, .free, .no, .no]
theorem fi_go (xs : List Int) (c e : Nat) (u : Use) {KK : List It} {v' : Value} (hb : xs.length ≤ 1000) (hend : ∀ ls, fi_SE xs c e u xs.length ls → EndsG Tryz.prog 8 Tryz.f84 (n8 [(rI xs e u)]) v' (n8 [(rI xs e u)]) (KK) ls ((n8 [(rI xs e u)]) ++ [])) : ∀ d jj, jj + d = xs.length → ∀ ls, fi_S xs c e u jj ls → EndsG Tryz.prog 8 Tryz.f84 (n8 [(rI xs e u)]) (match firstP (fi_p xs c e u) jj d with | some k => fi_v xs c e u k | none => v') (n8 [(rI xs e u)]) (.code (round 0 (bodyOf 84)) :: .inLoop (round 0 (bodyOf 84)) :: .inBlock 0 :: KK) ls ((n8 [(rI xs e u)]) ++ []) := by
  intro d
  induction d with
  | zero =>
    rintro jj hjj ls ⟨f, rfl, hj⟩
    have hjn : jj = xs.length := by omega
    subst hjn
    have hr := fiC_p0 (f 0) (f 1) (f 2) (f 3) (f 4) (f 8) (f 9) (f 10) (f 11) (f 12) (f 13) (f 14) (xs.length) (c) ((rI xs e u)) ((xs.length : Int)) (decide_eq_false (by first | omega | (simp; omega)))
    refine EndsG.run (k := [.code (round 0 (bodyOf 84)), .inLoop (round 0 (bodyOf 84)), .inBlock 0]) (kk := KK) prog_ok envB_ok hr ?_
    exact hend _ (fi_SE.mk (jj := xs.length) (by kernel_rfl) (.f4 hj (.f1 hj (.c4 rfl (.f4 hj (.f2 hj .nil))))))
  | succ d ih =>
    rintro jj hjj ls ⟨f, rfl, hj⟩
    have hlt : jj < xs.length := by omega
    cases g0 : (((xs.getD jj 0)) != 0) with
    | false =>
      rw [show firstP (fi_p xs c e u) jj (d + 1) = firstP (fi_p xs c e u) (jj + 1) d from firstP_miss (by simp only [fi_p, g0, cond_true, cond_false])]
      have hr := fiA0_p0 (f 0) (f 1) (f 2) (f 3) (f 4) (f 8) (f 9) (f 10) (f 11) (f 12) (f 13) (f 14) (xs.length) (c) ((rI xs e u)) ((jj : Int)) ((jj)) (((xs.getD jj 0))) (ix138 (by omega)) (ld27 rfl (by omega)) (decide_eq_true (by first | omega | (simp; omega))) (g0)
      try rw [wrap_succ' (by omega)] at hr
      refine EndsG.round prog_ok envB_ok hr ?_
      refine EndsG.renumS (X := []) (R := []) (ids := []) (m := fi_K) rfl rfl (by kernel_rfl) .nil (.j4 0 hj rfl (.no rfl (.ren rfl (.free rfl (.free rfl (.free rfl (.n2 rfl (.no rfl (.free rfl (.j1 13 hj rfl (.no rfl .nil))))))))))) ?_
      exact ih (jj + 1) (by omega) _ (fi_S.mk (jj := (jj + 1)) (by kernel_rfl) (.c8 rfl (.c4 rfl (.c2 rfl (.c1 rfl .nil)))))
    | true =>
      have hr := fiB0_p0 (f 0) (f 1) (f 2) (f 3) (f 4) (f 8) (f 9) (f 10) (f 11) (f 12) (f 13) (f 14) (xs.length) (c) ((rI xs e u)) ((jj : Int)) ((jj)) (((xs.getD jj 0))) (ix138 (by omega)) (ld27 rfl (by omega)) (decide_eq_true (by first | omega | (simp; omega))) (g0)
      rw [show firstP (fi_p xs c e u) jj (d + 1) = some jj from firstP_hit (by simp only [fi_p, g0, cond_true, cond_false])]
      show EndsG _ _ _ _ (fi_v xs c e u jj) _ _ _ _
      have ev : fi_v xs c e u jj = ((I ((xs.getD jj 0)))) := by simp only [fi_v, g0, cond_true, cond_false]
      rw [ev]
      exact EndsG.out (k := [.code (round 0 (bodyOf 84))]) (kk := .inLoop (round 0 (bodyOf 84)) :: .inBlock 0 :: KK) (X := []) (v := (I ((xs.getD jj 0)))) prog_ok envB_ok hr (by kernel_rfl) (by kernel_rfl)
theorem fi_end (xs : List Int) (c e : Nat) (u : Use) (hb : xs.length ≤ 1000) : ∀ ls, fi_SE xs c e u xs.length ls → EndsG Tryz.prog 8 Tryz.f84 (n8 [(rI xs e u)]) (I 0) (n8 [(rI xs e u)]) ([.code (codeR (codeR (bodyOf 84)))]) ls ((n8 [(rI xs e u)]) ++ []) := by
  rintro ls ⟨f, rfl, hj⟩
  have hr := fiZ_p0 (f 0) (f 1) (f 2) (f 3) (f 4) (f 7) (f 8) (f 9) (f 10) (f 11) (f 12) (f 13) (f 14) (xs.length) (c) ((rI xs e u))
  exact EndsG.ret (X := []) (v := (I 0)) prog_ok envB_ok hr rfl (by kernel_rfl) (by kernel_rfl)
theorem fi_says (xs : List Int) (c e : Nat) (u : Use) (hb : xs.length ≤ 1000) : SaysAt Tryz.prog 8 84 [sl 8 0 xs.length c] (n8 [(rI xs e u)]) (match firstP (fi_p xs c e u) 0 xs.length with | some k => fi_v xs c e u k | none => (I 0)) (n8 [(rI xs e u)]) := by
  refine EndsG.says prog_ok Tryz.func84 (c := bodyOf 84) (by kernel_rfl) (by kernel_rfl) ?_
  refine EndsG.seqO (by kernel_rfl) ?_
  refine EndsG.run (k := [.code (codeL (bodyOf 84))]) prog_ok envB_ok (fiq0_p0 (xs.length) (c) ((rI xs e u))) ?_
  refine EndsG.seqO (by kernel_rfl) ?_
  refine EndsG.seqO (by kernel_rfl) ?_
  refine EndsG.run (k := [.code (codeL (codeL (codeR (bodyOf 84))))]) prog_ok envB_ok (fiq1_p0 (xs.length) (c) ((rI xs e u))) ?_
  refine EndsG.blockLoop (B := (round 0 (bodyOf 84))) (id := 0) (by kernel_rfl) ?_
  exact fi_go xs c e u hb (fi_end xs c e u hb) xs.length 0 (Nat.zero_add _) _ (fi_S.mk (jj := 0) (by kernel_rfl) (.c8 rfl (.c4 rfl (.c2 rfl (.c1 rfl .nil)))))
/-
Sources checked by the reference: pieces.
-/
theorem rcq0_p0  (n c : Nat) (r8 : Option ARow) (f0 : decide ((n : Int) > 16) = false) : Runs Tryz.prog envB 9 [.code (codeL (bodyOf 25))] [sl 8 0 n c, U, U, U, U, U, U, U, U, U, U, U, U, U, U, U, U, U, U, U, U, U] (n8 [r8]) ([(sl 8 0 n c), U, I 0, U, U, U, U, U, U, U, U, U, U, U, U, U, U, U, U, U, U, U], (n8 [r8]), none) :=
  Runs.by (n := 1000) (fid := 25) (os := []) (os' := []) (by kernel_rfl) (ObsOK.nil)
theorem rcq1_p0  (n c : Nat) (r8 : Option ARow) (f0 : decide ((n : Int) > 16) = false) : Runs Tryz.prog envB 9 [.code (codeL (codeR (bodyOf 25)))] [(sl 8 0 n c), U, I 0, U, U, U, U, U, U, U, U, U, U, U, U, U, U, U, U, U, U, U] (n8 [r8]) ([(sl 8 0 n c), U, I 0, U, U, (sl 8 0 n c), (I ((n : Int))), (.bool (decide ((n : Int) > 16))), U, U, U, U, U, U, U, U, U, U, U, U, U, U], (n8 [r8]), none) :=
  Runs.by (n := 1000) (fid := 25) (os := [.br 25 16 false]) (os' := []) (by kernel_rfl) (ObsOK.cond f0 (ObsOK.nil))
theorem rcq2_p0  (n c : Nat) (r8 : Option ARow) (f0 : decide ((n : Int) > 16) = false) : Runs Tryz.prog envB 9 [.code (codeL (codeL (codeR (codeR (bodyOf 25)))))] [(sl 8 0 n c), U, I 0, U, U, (sl 8 0 n c), (I ((n : Int))), (.bool (decide ((n : Int) > 16))), U, U, U, U, U, U, U, U, U, U, U, U, U, U] (n8 [r8]) ([(sl 8 0 n c), U, I 0, I 0, U, (sl 8 0 n c), (I ((n : Int))), (.bool (decide ((n : Int) > 16))), U, U, U, U, U, U, U, U, U, U, U, U, U, U], (n8 [r8]), none) :=
  Runs.by (n := 1000) (fid := 25) (os := []) (os' := []) (by kernel_rfl) (ObsOK.nil)
theorem rcB0_p0 (v1 v2 v4 v5 v6 v7 v8 v9 v10 v11 v12 v13 v14 v15 v16 v17 v18 v19 v20 v21 : Value) (n c : Nat) (r8 : Option ARow) (i : Int) (k8 : Nat) (z8x z8y z8g z8p : Int) (hx8 : aIndexAddr Tryz.prog 22 (sl 8 0 n c) (I i) = some (pt 8 k8)) (hl8 : aLoad Tryz.prog 24 (pt 8 k8) (n8 [r8]) = some (.agg #[I z8x, I z8y, I z8g, I z8p])) (f1 : decide (i < (n : Int)) = true) (g0 : (rcs24_r0 z8x z8y z8g z8p != 0) = true) : Runs Tryz.prog envB 9 [.code (round 0 (bodyOf 25))] [(sl 8 0 n c), v1, v2, I i, v4, v5, v6, v7, v8, v9, v10, v11, v12, v13, v14, v15, v16, v17, v18, v19, v20, v21] (n8 [r8]) ([(sl 8 0 n c), v1, (I (rcs24_r0 z8x z8y z8g z8p)), I i, (I (rcs24_r0 z8x z8y z8g z8p)), v5, v6, v7, I i, (sl 8 0 n c), (I ((n : Int))), (.bool (decide (i < (n : Int)))), v12, v13, (sl 8 0 n c), I i, (pt 8 k8), (.agg #[I z8x, I z8y, I z8g, I z8p]), (I (rcs24_r0 z8x z8y z8g z8p)), (I (rcs24_r0 z8x z8y z8g z8p)), (.bool (rcs24_r0 z8x z8y z8g z8p != 0)), (I (rcs24_r0 z8x z8y z8g z8p))], (n8 [r8]), some .ret) :=
  Runs.by (n := 1000) (fid := 25) (os := [.br 25 24 true, .op 25 17 (pt 8 k8), .op 25 18 (.agg #[I z8x, I z8y, I z8g, I z8p]), .br 25 42 true]) (os' := []) (by kernel_rfl) (ObsOK.cond f1 (ObsOK.val hx8 (ObsOK.val hl8 (ObsOK.cond g0 (ObsOK.nil)))))
theorem rcA0_p0 (v1 v2 v4 v5 v6 v7 v8 v9 v10 v11 v12 v13 v14 v15 v16 v17 v18 v19 v20 v21 : Value) (n c : Nat) (r8 : Option ARow) (i : Int) (k8 : Nat) (z8x z8y z8g z8p : Int) (hx8 : aIndexAddr Tryz.prog 22 (sl 8 0 n c) (I i) = some (pt 8 k8)) (hl8 : aLoad Tryz.prog 24 (pt 8 k8) (n8 [r8]) = some (.agg #[I z8x, I z8y, I z8g, I z8p])) (f1 : decide (i < (n : Int)) = true) (g0 : (rcs24_r0 z8x z8y z8g z8p != 0) = false) : Runs Tryz.prog envB 9 [.code (round 0 (bodyOf 25))] [(sl 8 0 n c), v1, v2, I i, v4, v5, v6, v7, v8, v9, v10, v11, v12, v13, v14, v15, v16, v17, v18, v19, v20, v21] (n8 [r8]) ([(sl 8 0 n c), v1, v2, (I (IntKind.i64.wrap (i + 1))), (I (rcs24_r0 z8x z8y z8g z8p)), v5, v6, v7, I i, (sl 8 0 n c), (I ((n : Int))), (.bool (decide (i < (n : Int)))), I i, (I (IntKind.i64.wrap (i + 1))), (sl 8 0 n c), I i, (pt 8 k8), (.agg #[I z8x, I z8y, I z8g, I z8p]), (I (rcs24_r0 z8x z8y z8g z8p)), (I (rcs24_r0 z8x z8y z8g z8p)), (.bool (rcs24_r0 z8x z8y z8g z8p != 0)), v21], (n8 [r8]), none) :=
  Runs.by (n := 1000) (fid := 25) (os := [.br 25 24 true, .op 25 17 (pt 8 k8), .op 25 18 (.agg #[I z8x, I z8y, I z8g, I z8p]), .br 25 42 false]) (os' := []) (by kernel_rfl) (ObsOK.cond f1 (ObsOK.val hx8 (ObsOK.val hl8 (ObsOK.cond g0 (ObsOK.nil)))))
theorem rcC_p0 (v1 v2 v4 v5 v6 v7 v8 v9 v10 v11 v12 v13 v14 v15 v16 v17 v18 v19 v20 v21 : Value) (n c : Nat) (r8 : Option ARow) (i : Int) (f1 : decide (i < (n : Int)) = false) : Runs Tryz.prog envB 9 [.code (round 0 (bodyOf 25)), .inLoop (round 0 (bodyOf 25)), .inBlock 0] [(sl 8 0 n c), v1, v2, I i, v4, v5, v6, v7, v8, v9, v10, v11, v12, v13, v14, v15, v16, v17, v18, v19, v20, v21] (n8 [r8]) ([(sl 8 0 n c), v1, v2, I i, v4, v5, v6, v7, I i, (sl 8 0 n c), (I ((n : Int))), (.bool (decide (i < (n : Int)))), v12, v13, v14, v15, v16, v17, v18, v19, v20, v21], (n8 [r8]), none) :=
  Runs.by (n := 1000) (fid := 25) (os := [.br 25 24 false]) (os' := []) (by kernel_rfl) (ObsOK.cond f1 (ObsOK.nil))
theorem rcZ_p0 (v1 v2 v3 v4 v5 v6 v7 v8 v9 v10 v11 v12 v13 v14 v15 v16 v17 v18 v19 v20 v21 : Value) (n c : Nat) (r8 : Option ARow) : Runs Tryz.prog envB 9 [.code (codeR (codeR (codeR (bodyOf 25))))] [(sl 8 0 n c), v1, v2, v3, v4, v5, v6, v7, v8, v9, v10, v11, v12, v13, v14, v15, v16, v17, v18, v19, v20, v21] (n8 [r8]) ([(sl 8 0 n c), v1, I 0, v3, v4, v5, v6, v7, v8, v9, v10, v11, v12, v13, v14, v15, v16, v17, v18, v19, v20, v21], (n8 [r8]), some .ret) :=
  Runs.by (n := 1000) (fid := 25) (os := []) (os' := []) (by kernel_rfl) (ObsOK.nil)
/-
Sources checked by the reference.
-/
noncomputable def rc_p (xs : List Sr) (c e : Nat) (u : Use) (jj : Nat) : Bool := (cond (rcs24_r0 ((xs.getD jj s0).x) ((xs.getD jj s0).y) ((xs.getD jj s0).g) ((xs.getD jj s0).p) != 0) true false)
noncomputable def rc_v (xs : List Sr) (c e : Nat) (u : Use) (jj : Nat) : Value := ((I (rcs24_r0 ((xs.getD jj s0).x) ((xs.getD jj s0).y) ((xs.getD jj s0).g) ((xs.getD jj s0).p))))
def rc_b (xs : List Sr) (c e : Nat) (u : Use) (jj : Nat) (f : Nat → Value) : List Value := [(sl 8 0 xs.length c), f 1, f 2, I (jj : Int), f 4, f 5, f 6, f 7, f 8, f 9, f 10, f 11, f 12, f 13, f 14, f 15, f 16, f 17, f 18, f 19, f 20, f 21]
def rc_S (xs : List Sr) (c e : Nat) (u : Use) (jj : Nat) (ls : List Value) : Prop := ∃ f : Nat → Value, ls = rc_b xs c e u jj f ∧ JF [7, 11, 20] f
theorem rc_S.mk {xs : List Sr} {c e : Nat} {u : Use} {jj : Nat} {ls : List Value} (h : ls = rc_b xs c e u jj (fun k => ls.getD k (I 0))) (hj : JL [7, 11, 20] 0 ls) : rc_S xs c e u jj ls := ⟨_, h, hj.fn⟩
def rc_bE (xs : List Sr) (c e : Nat) (u : Use) (jj : Nat) (f : Nat → Value) : List Value := [(sl 8 0 xs.length c), f 1, f 2, f 3, f 4, f 5, f 6, f 7, f 8, f 9, f 10, f 11, f 12, f 13, f 14, f 15, f 16, f 17, f 18, f 19, f 20, f 21]
def rc_SE (xs : List Sr) (c e : Nat) (u : Use) (jj : Nat) (ls : List Value) : Prop := ∃ f : Nat → Value, ls = rc_bE xs c e u jj f ∧ JF [7, 11, 20] f
theorem rc_SE.mk {xs : List Sr} {c e : Nat} {u : Use} {jj : Nat} {ls : List Value} (h : ls = rc_bE xs c e u jj (fun k => ls.getD k (I 0))) (hj : JL [7, 11, 20] 0 ls) : rc_SE xs c e u jj ls := ⟨_, h, hj.fn⟩
def rc_K : List Keep := [.ren, .no, .no, .free, .no, .no, .no, .free, .no, .no, .no, .free, .no, .no, .no, .no, .no, .no, .no, .no, .free, .no]
theorem rc_go (xs : List Sr) (c e : Nat) (u : Use) {KK : List It} {v' : Value} (hb : xs.length ≤ 16) (hend : ∀ ls, rc_SE xs c e u xs.length ls → EndsG Tryz.prog 8 Tryz.f25 (n8 [(rS xs e u)]) v' (n8 [(rS xs e u)]) (KK) ls ((n8 [(rS xs e u)]) ++ [])) : ∀ d jj, jj + d = xs.length → ∀ ls, rc_S xs c e u jj ls → EndsG Tryz.prog 8 Tryz.f25 (n8 [(rS xs e u)]) (match firstP (rc_p xs c e u) jj d with | some k => rc_v xs c e u k | none => v') (n8 [(rS xs e u)]) (.code (round 0 (bodyOf 25)) :: .inLoop (round 0 (bodyOf 25)) :: .inBlock 0 :: KK) ls ((n8 [(rS xs e u)]) ++ []) := by
  intro d
  induction d with
  | zero =>
    rintro jj hjj ls ⟨f, rfl, hj⟩
    have hjn : jj = xs.length := by omega
    subst hjn
    have hr := rcC_p0 (f 1) (f 2) (f 4) (f 5) (f 6) (f 7) (f 8) (f 9) (f 10) (f 11) (f 12) (f 13) (f 14) (f 15) (f 16) (f 17) (f 18) (f 19) (f 20) (f 21) (xs.length) (c) ((rS xs e u)) ((xs.length : Int)) (decide_eq_false (by first | omega | (simp; omega)))
    refine EndsG.run (k := [.code (round 0 (bodyOf 25)), .inLoop (round 0 (bodyOf 25)), .inBlock 0]) (kk := KK) prog_ok envB_ok hr ?_
    exact hend _ (rc_SE.mk (jj := xs.length) (by kernel_rfl) (.c1 rfl (.f2 hj (.c1 rfl (.f4 hj (.c4 rfl (.f8 hj (.f2 hj .nil))))))))
  | succ d ih =>
    rintro jj hjj ls ⟨f, rfl, hj⟩
    have hlt : jj < xs.length := by omega
    cases g0 : (rcs24_r0 ((xs.getD jj s0).x) ((xs.getD jj s0).y) ((xs.getD jj s0).g) ((xs.getD jj s0).p) != 0) with
    | false =>
      rw [show firstP (rc_p xs c e u) jj (d + 1) = firstP (rc_p xs c e u) (jj + 1) d from firstP_miss (by simp only [rc_p, g0, cond_true, cond_false])]
      have hr := rcA0_p0 (f 1) (f 2) (f 4) (f 5) (f 6) (f 7) (f 8) (f 9) (f 10) (f 11) (f 12) (f 13) (f 14) (f 15) (f 16) (f 17) (f 18) (f 19) (f 20) (f 21) (xs.length) (c) ((rS xs e u)) ((jj : Int)) ((jj * 4)) (((xs.getD jj s0).x)) (((xs.getD jj s0).y)) (((xs.getD jj s0).g)) (((xs.getD jj s0).p)) (ix22 (by omega)) (ld24 rfl (by omega)) (decide_eq_true (by first | omega | (simp; omega))) (g0)
      try rw [wrap_succ' (by omega)] at hr
      refine EndsG.round prog_ok envB_ok hr ?_
      refine EndsG.renumS (X := []) (R := []) (ids := []) (m := rc_K) rfl rfl (by kernel_rfl) .nil (.ren rfl (.j2 1 hj rfl (.free rfl (.no rfl (.j2 5 hj rfl (.free ((hj 7).1 rfl) (.n2 rfl (.no rfl (.free rfl (.n8 rfl (.free rfl (.j1 21 hj rfl .nil)))))))))))) ?_
      exact ih (jj + 1) (by omega) _ (rc_S.mk (jj := (jj + 1)) (by kernel_rfl) (.c4 rfl (.c2 rfl (.c1 rfl (.f1 hj (.c8 rfl (.c4 rfl (.c2 rfl .nil))))))))
    | true =>
      have hr := rcB0_p0 (f 1) (f 2) (f 4) (f 5) (f 6) (f 7) (f 8) (f 9) (f 10) (f 11) (f 12) (f 13) (f 14) (f 15) (f 16) (f 17) (f 18) (f 19) (f 20) (f 21) (xs.length) (c) ((rS xs e u)) ((jj : Int)) ((jj * 4)) (((xs.getD jj s0).x)) (((xs.getD jj s0).y)) (((xs.getD jj s0).g)) (((xs.getD jj s0).p)) (ix22 (by omega)) (ld24 rfl (by omega)) (decide_eq_true (by first | omega | (simp; omega))) (g0)
      rw [show firstP (rc_p xs c e u) jj (d + 1) = some jj from firstP_hit (by simp only [rc_p, g0, cond_true, cond_false])]
      show EndsG _ _ _ _ (rc_v xs c e u jj) _ _ _ _
      have ev : rc_v xs c e u jj = ((I (rcs24_r0 ((xs.getD jj s0).x) ((xs.getD jj s0).y) ((xs.getD jj s0).g) ((xs.getD jj s0).p)))) := by simp only [rc_v, g0, cond_true, cond_false]
      rw [ev]
      exact EndsG.out (k := [.code (round 0 (bodyOf 25))]) (kk := .inLoop (round 0 (bodyOf 25)) :: .inBlock 0 :: KK) (X := []) (v := (I (rcs24_r0 ((xs.getD jj s0).x) ((xs.getD jj s0).y) ((xs.getD jj s0).g) ((xs.getD jj s0).p)))) prog_ok envB_ok hr (by kernel_rfl) (by kernel_rfl)
theorem rc_end (xs : List Sr) (c e : Nat) (u : Use) (hb : xs.length ≤ 16) : ∀ ls, rc_SE xs c e u xs.length ls → EndsG Tryz.prog 8 Tryz.f25 (n8 [(rS xs e u)]) (I 0) (n8 [(rS xs e u)]) ([.code (codeR (codeR (codeR (bodyOf 25))))]) ls ((n8 [(rS xs e u)]) ++ []) := by
  rintro ls ⟨f, rfl, hj⟩
  have hr := rcZ_p0 (f 1) (f 2) (f 3) (f 4) (f 5) (f 6) (f 7) (f 8) (f 9) (f 10) (f 11) (f 12) (f 13) (f 14) (f 15) (f 16) (f 17) (f 18) (f 19) (f 20) (f 21) (xs.length) (c) ((rS xs e u))
  exact EndsG.ret (X := []) (v := (I 0)) prog_ok envB_ok hr rfl (by kernel_rfl) (by kernel_rfl)
theorem rc_says (xs : List Sr) (c e : Nat) (u : Use) (hb : xs.length ≤ 16) : SaysAt Tryz.prog 8 25 [sl 8 0 xs.length c] (n8 [(rS xs e u)]) (match firstP (rc_p xs c e u) 0 xs.length with | some k => rc_v xs c e u k | none => (I 0)) (n8 [(rS xs e u)]) := by
  refine EndsG.says prog_ok Tryz.func25 (c := bodyOf 25) (by kernel_rfl) (by kernel_rfl) ?_
  refine EndsG.seqO (by kernel_rfl) ?_
  refine EndsG.run (k := [.code (codeL (bodyOf 25))]) prog_ok envB_ok (rcq0_p0 (xs.length) (c) ((rS xs e u)) (decide_eq_false (by omega))) ?_
  refine EndsG.seqO (by kernel_rfl) ?_
  refine EndsG.run (k := [.code (codeL (codeR (bodyOf 25)))]) prog_ok envB_ok (rcq1_p0 (xs.length) (c) ((rS xs e u)) (decide_eq_false (by omega))) ?_
  refine EndsG.seqO (by kernel_rfl) ?_
  refine EndsG.seqO (by kernel_rfl) ?_
  refine EndsG.run (k := [.code (codeL (codeL (codeR (codeR (bodyOf 25)))))]) prog_ok envB_ok (rcq2_p0 (xs.length) (c) ((rS xs e u)) (decide_eq_false (by omega))) ?_
  refine EndsG.blockLoop (B := (round 0 (bodyOf 25))) (id := 0) (by kernel_rfl) ?_
  exact rc_go xs c e u hb (rc_end xs c e u hb) xs.length 0 (Nat.zero_add _) _ (rc_S.mk (jj := 0) (by kernel_rfl) (.c16 rfl (.c4 rfl (.c2 rfl .nil))))
/-
Rounds of loops.
-/
theorem shA_p0 (n c : Nat) (k : Int) (r8 : Option ARow) (f0 : decide ((n : Int) ≤ k) = true) : Gives Tryz.prog envB 0 16 [sl 8 0 n c, I k] (n8 [r8]) ((.bool true), (n8 [r8])) :=
  Gives.by (n := 1000) (os := [.br 16 20 true, .br 16 20 true, .br 16 20 true, .br 16 29 true]) (os' := []) (by kernel_rfl) (ObsOK.cond f0 (ObsOK.cond f0 (ObsOK.cond f0 (ObsOK.cond f0 (ObsOK.nil)))))
theorem shB_p0 (n c : Nat) (k : Int) (r8 : Option ARow) (f0 : decide ((n : Int) ≤ k) = false) (f1 : ((n : Int) == 17) = true) : Gives Tryz.prog envB 0 16 [sl 8 0 n c, I k] (n8 [r8]) ((.bool ((n : Int) == 17)), (n8 [r8])) :=
  Gives.by (n := 1000) (os := [.br 16 20 false, .br 16 20 false, .br 16 20 false, .br 16 29 false]) (os' := []) (by kernel_rfl) (ObsOK.cond f0 (ObsOK.cond f0 (ObsOK.cond f0 (ObsOK.cond f0 (ObsOK.nil)))))
theorem shC_p0 (n c : Nat) (k : Int) (r8 : Option ARow) (f0 : decide ((n : Int) ≤ k) = false) (f1 : ((n : Int) == 17) = false) : Gives Tryz.prog envB 0 16 [sl 8 0 n c, I k] (n8 [r8]) ((.bool ((n : Int) == 17)), (n8 [r8])) :=
  Gives.by (n := 1000) (os := [.br 16 20 false, .br 16 20 false, .br 16 20 false, .br 16 29 false]) (os' := []) (by kernel_rfl) (ObsOK.cond f0 (ObsOK.cond f0 (ObsOK.cond f0 (ObsOK.cond f0 (ObsOK.nil)))))
theorem rcb_p0 (n c : Nat) (r8 : Option ARow) (f0 : decide ((n : Int) > 16) = true) : Gives Tryz.prog envB 0 25 [sl 8 0 n c] (n8 [r8]) ((I 5), (n8 [r8])) :=
  Gives.by (n := 1000) (os := [.br 25 16 true]) (os' := []) (by kernel_rfl) (ObsOK.cond f0 (ObsOK.nil))
/-
The first error of a list, by the reference: pieces.
-/
theorem fjq0_p0  (n c : Nat) (r8 : Option ARow) : Runs Tryz.prog envB 9 [.code (codeL (bodyOf 23))] [sl 8 0 n c, U, U, U, U, U, U, U, U, U, U, U, U, U, U, U, U, U, U] (n8 [r8]) ([(sl 8 0 n c), U, I 0, U, U, U, U, U, U, U, U, U, U, U, U, U, U, U, U], (n8 [r8]), none) :=
  Runs.by (n := 1000) (fid := 23) (os := []) (os' := []) (by kernel_rfl) (ObsOK.nil)
theorem fjq1_p0  (n c : Nat) (r8 : Option ARow) : Runs Tryz.prog envB 9 [.code (codeL (codeL (codeR (bodyOf 23))))] [(sl 8 0 n c), U, I 0, U, U, U, U, U, U, U, U, U, U, U, U, U, U, U, U] (n8 [r8]) ([(sl 8 0 n c), U, I 0, I 0, U, U, U, U, U, U, U, U, U, U, U, U, U, U, U], (n8 [r8]), none) :=
  Runs.by (n := 1000) (fid := 23) (os := []) (os' := []) (by kernel_rfl) (ObsOK.nil)
theorem fjB0_p0 (v1 v2 v4 v5 v6 v7 v8 v9 v10 v11 v12 v13 v14 v15 v16 v17 v18 : Value) (n c : Nat) (r8 : Option ARow) (i : Int) (k8 : Nat) (z8 : Int) (hx8 : aIndexAddr Tryz.prog 43 (sl 8 0 n c) (I i) = some (pt 8 k8)) (hl8 : aLoad Tryz.prog 3 (pt 8 k8) (n8 [r8]) = some (I z8)) (f1 : decide (i < (n : Int)) = true) (g0 : (z8 != 0) = true) : Runs Tryz.prog envB 9 [.code (round 0 (bodyOf 23))] [(sl 8 0 n c), v1, v2, I i, v4, v5, v6, v7, v8, v9, v10, v11, v12, v13, v14, v15, v16, v17, v18] (n8 [r8]) ([(sl 8 0 n c), v1, I z8, I i, I i, (sl 8 0 n c), (I ((n : Int))), (.bool (decide (i < (n : Int)))), v8, v9, (sl 8 0 n c), I i, (pt 8 k8), I z8, (.bool (z8 != 0)), (sl 8 0 n c), I i, (pt 8 k8), I z8], (n8 [r8]), some .ret) :=
  Runs.by (n := 1000) (fid := 23) (os := [.br 23 16 true, .op 23 13 (pt 8 k8), .op 23 14 (I z8), .br 23 30 true, .op 23 18 (pt 8 k8), .op 23 19 (I z8)]) (os' := []) (by kernel_rfl) (ObsOK.cond f1 (ObsOK.val hx8 (ObsOK.val hl8 (ObsOK.cond g0 (ObsOK.val hx8 (ObsOK.val hl8 (ObsOK.nil)))))))
theorem fjA0_p0 (v1 v2 v4 v5 v6 v7 v8 v9 v10 v11 v12 v13 v14 v15 v16 v17 v18 : Value) (n c : Nat) (r8 : Option ARow) (i : Int) (k8 : Nat) (z8 : Int) (hx8 : aIndexAddr Tryz.prog 43 (sl 8 0 n c) (I i) = some (pt 8 k8)) (hl8 : aLoad Tryz.prog 3 (pt 8 k8) (n8 [r8]) = some (I z8)) (f1 : decide (i < (n : Int)) = true) (g0 : (z8 != 0) = false) : Runs Tryz.prog envB 9 [.code (round 0 (bodyOf 23))] [(sl 8 0 n c), v1, v2, I i, v4, v5, v6, v7, v8, v9, v10, v11, v12, v13, v14, v15, v16, v17, v18] (n8 [r8]) ([(sl 8 0 n c), v1, v2, (I (IntKind.i64.wrap (i + 1))), I i, (sl 8 0 n c), (I ((n : Int))), (.bool (decide (i < (n : Int)))), I i, (I (IntKind.i64.wrap (i + 1))), (sl 8 0 n c), I i, (pt 8 k8), I z8, (.bool (z8 != 0)), v15, v16, v17, v18], (n8 [r8]), none) :=
  Runs.by (n := 1000) (fid := 23) (os := [.br 23 16 true, .op 23 13 (pt 8 k8), .op 23 14 (I z8), .br 23 30 false]) (os' := []) (by kernel_rfl) (ObsOK.cond f1 (ObsOK.val hx8 (ObsOK.val hl8 (ObsOK.cond g0 (ObsOK.nil)))))
theorem fjC_p0 (v1 v2 v4 v5 v6 v7 v8 v9 v10 v11 v12 v13 v14 v15 v16 v17 v18 : Value) (n c : Nat) (r8 : Option ARow) (i : Int) (f1 : decide (i < (n : Int)) = false) : Runs Tryz.prog envB 9 [.code (round 0 (bodyOf 23)), .inLoop (round 0 (bodyOf 23)), .inBlock 0] [(sl 8 0 n c), v1, v2, I i, v4, v5, v6, v7, v8, v9, v10, v11, v12, v13, v14, v15, v16, v17, v18] (n8 [r8]) ([(sl 8 0 n c), v1, v2, I i, I i, (sl 8 0 n c), (I ((n : Int))), (.bool (decide (i < (n : Int)))), v8, v9, v10, v11, v12, v13, v14, v15, v16, v17, v18], (n8 [r8]), none) :=
  Runs.by (n := 1000) (fid := 23) (os := [.br 23 16 false]) (os' := []) (by kernel_rfl) (ObsOK.cond f1 (ObsOK.nil))
theorem fjZ_p0 (v1 v2 v3 v4 v5 v6 v7 v8 v9 v10 v11 v12 v13 v14 v15 v16 v17 v18 : Value) (n c : Nat) (r8 : Option ARow) : Runs Tryz.prog envB 9 [.code (codeR (codeR (bodyOf 23)))] [(sl 8 0 n c), v1, v2, v3, v4, v5, v6, v7, v8, v9, v10, v11, v12, v13, v14, v15, v16, v17, v18] (n8 [r8]) ([(sl 8 0 n c), v1, I 0, v3, v4, v5, v6, v7, v8, v9, v10, v11, v12, v13, v14, v15, v16, v17, v18], (n8 [r8]), some .ret) :=
  Runs.by (n := 1000) (fid := 23) (os := []) (os' := []) (by kernel_rfl) (ObsOK.nil)
/-
The first error of a list, by the reference.
-/
noncomputable def fj_p (xs : List Int) (c e : Nat) (u : Use) (jj : Nat) : Bool := (cond (((xs.getD jj 0)) != 0) true false)
noncomputable def fj_v (xs : List Int) (c e : Nat) (u : Use) (jj : Nat) : Value := ((I ((xs.getD jj 0))))
def fj_b (xs : List Int) (c e : Nat) (u : Use) (jj : Nat) (f : Nat → Value) : List Value := [(sl 8 0 xs.length c), f 1, f 2, I (jj : Int), f 4, f 5, f 6, f 7, f 8, f 9, f 10, f 11, f 12, f 13, f 14, f 15, f 16, f 17, f 18]
def fj_S (xs : List Int) (c e : Nat) (u : Use) (jj : Nat) (ls : List Value) : Prop := ∃ f : Nat → Value, ls = fj_b xs c e u jj f ∧ JF [7, 14] f
theorem fj_S.mk {xs : List Int} {c e : Nat} {u : Use} {jj : Nat} {ls : List Value} (h : ls = fj_b xs c e u jj (fun k => ls.getD k (I 0))) (hj : JL [7, 14] 0 ls) : fj_S xs c e u jj ls := ⟨_, h, hj.fn⟩
def fj_bE (xs : List Int) (c e : Nat) (u : Use) (jj : Nat) (f : Nat → Value) : List Value := [(sl 8 0 xs.length c), f 1, f 2, f 3, f 4, f 5, f 6, f 7, f 8, f 9, f 10, f 11, f 12, f 13, f 14, f 15, f 16, f 17, f 18]
def fj_SE (xs : List Int) (c e : Nat) (u : Use) (jj : Nat) (ls : List Value) : Prop := ∃ f : Nat → Value, ls = fj_bE xs c e u jj f ∧ JF [7, 14] f
theorem fj_SE.mk {xs : List Int} {c e : Nat} {u : Use} {jj : Nat} {ls : List Value} (h : ls = fj_bE xs c e u jj (fun k => ls.getD k (I 0))) (hj : JL [7, 14] 0 ls) : fj_SE xs c e u jj ls := ⟨_, h, hj.fn⟩
def fj_K : List Keep := [.ren, .no, .no, .free, .no, .no, .no, .free, .no, .no, .no, .no, .no, .no, .free, .no, .no, .no, .no]
theorem fj_go (xs : List Int) (c e : Nat) (u : Use) {KK : List It} {v' : Value} (hb : xs.length ≤ 1000) (hend : ∀ ls, fj_SE xs c e u xs.length ls → EndsG Tryz.prog 8 Tryz.f23 (n8 [(rI xs e u)]) v' (n8 [(rI xs e u)]) (KK) ls ((n8 [(rI xs e u)]) ++ [])) : ∀ dd jj, jj + dd = xs.length → ∀ ls, fj_S xs c e u jj ls → EndsG Tryz.prog 8 Tryz.f23 (n8 [(rI xs e u)]) (ofP (firstP (fj_p xs c e u) jj dd) (fj_v xs c e u) v') (n8 [(rI xs e u)]) (.code (round 0 (bodyOf 23)) :: .inLoop (round 0 (bodyOf 23)) :: .inBlock 0 :: KK) ls ((n8 [(rI xs e u)]) ++ []) := by
  intro dd
  induction dd with
  | zero =>
    rintro jj hjj ls ⟨f, rfl, hj⟩
    have hjn : jj = xs.length := by omega
    subst hjn
    have hr := fjC_p0 (f 1) (f 2) (f 4) (f 5) (f 6) (f 7) (f 8) (f 9) (f 10) (f 11) (f 12) (f 13) (f 14) (f 15) (f 16) (f 17) (f 18) (xs.length) (c) ((rI xs e u)) ((xs.length : Int)) (decide_eq_false (by first | omega | (simp; omega)))
    refine EndsG.run (k := [.code (round 0 (bodyOf 23)), .inLoop (round 0 (bodyOf 23)), .inBlock 0]) (kk := KK) prog_ok envB_ok hr ?_
    exact hend _ (fj_SE.mk (jj := xs.length) (by kernel_rfl) (.c1 rfl (.f2 hj (.c4 rfl (.c1 rfl (.f8 hj (.f2 hj (.f1 hj .nil))))))))
  | succ dd ih =>
    rintro jj hjj ls ⟨f, rfl, hj⟩
    have hlt : jj < xs.length := by omega
    cases g0 : (((xs.getD jj 0)) != 0) with
    | false =>
      rw [show firstP (fj_p xs c e u) jj (dd + 1) = firstP (fj_p xs c e u) (jj + 1) dd from firstP_miss (by simp only [fj_p, g0, cond_true, cond_false])]
      have hr := fjA0_p0 (f 1) (f 2) (f 4) (f 5) (f 6) (f 7) (f 8) (f 9) (f 10) (f 11) (f 12) (f 13) (f 14) (f 15) (f 16) (f 17) (f 18) (xs.length) (c) ((rI xs e u)) ((jj : Int)) ((jj)) (((xs.getD jj 0))) (ix43 (by omega)) (ld3 rfl (by omega)) (decide_eq_true (by first | omega | (simp; omega))) (g0)
      try rw [wrap_succ' (by omega)] at hr
      refine EndsG.round prog_ok envB_ok hr ?_
      refine EndsG.renumS (X := []) (R := []) (ids := []) (m := fj_K) rfl rfl (by kernel_rfl) .nil (.ren rfl (.j2 1 hj rfl (.free rfl (.n2 rfl (.no rfl (.free rfl (.n4 rfl (.n2 rfl (.free rfl (.j4 15 hj rfl .nil)))))))))) ?_
      exact ih (jj + 1) (by omega) _ (fj_S.mk (jj := (jj + 1)) (by kernel_rfl) (.c16 rfl (.c2 rfl (.c1 rfl .nil))))
    | true =>
      have hr := fjB0_p0 (f 1) (f 2) (f 4) (f 5) (f 6) (f 7) (f 8) (f 9) (f 10) (f 11) (f 12) (f 13) (f 14) (f 15) (f 16) (f 17) (f 18) (xs.length) (c) ((rI xs e u)) ((jj : Int)) ((jj)) (((xs.getD jj 0))) (ix43 (by omega)) (ld3 rfl (by omega)) (decide_eq_true (by first | omega | (simp; omega))) (g0)
      rw [show firstP (fj_p xs c e u) jj (dd + 1) = some jj from firstP_hit (by simp only [fj_p, g0, cond_true, cond_false])]
      show EndsG _ _ _ _ (fj_v xs c e u jj) _ _ _ _
      have ev : fj_v xs c e u jj = ((I ((xs.getD jj 0)))) := by simp only [fj_v, g0, cond_true, cond_false]
      rw [ev]
      exact EndsG.out (k := [.code (round 0 (bodyOf 23))]) (kk := .inLoop (round 0 (bodyOf 23)) :: .inBlock 0 :: KK) (X := []) (v := (I ((xs.getD jj 0)))) prog_ok envB_ok hr (by kernel_rfl) (by kernel_rfl)
theorem fj_end (xs : List Int) (c e : Nat) (u : Use) (hb : xs.length ≤ 1000) : ∀ ls, fj_SE xs c e u xs.length ls → EndsG Tryz.prog 8 Tryz.f23 (n8 [(rI xs e u)]) (I 0) (n8 [(rI xs e u)]) ([.code (codeR (codeR (bodyOf 23)))]) ls ((n8 [(rI xs e u)]) ++ []) := by
  rintro ls ⟨f, rfl, hj⟩
  have hr := fjZ_p0 (f 1) (f 2) (f 3) (f 4) (f 5) (f 6) (f 7) (f 8) (f 9) (f 10) (f 11) (f 12) (f 13) (f 14) (f 15) (f 16) (f 17) (f 18) (xs.length) (c) ((rI xs e u))
  exact EndsG.ret (X := []) (v := (I 0)) prog_ok envB_ok hr rfl (by kernel_rfl) (by kernel_rfl)
theorem fj_says (xs : List Int) (c e : Nat) (u : Use) (hb : xs.length ≤ 1000) : SaysAt Tryz.prog 8 23 [sl 8 0 xs.length c] (n8 [(rI xs e u)]) (ofP (firstP (fj_p xs c e u) 0 xs.length) (fj_v xs c e u) (I 0)) (n8 [(rI xs e u)]) := by
  refine EndsG.says prog_ok Tryz.func23 (c := bodyOf 23) (by kernel_rfl) (by kernel_rfl) ?_
  refine EndsG.seqO (by kernel_rfl) ?_
  refine EndsG.run (k := [.code (codeL (bodyOf 23))]) prog_ok envB_ok (fjq0_p0 (xs.length) (c) ((rI xs e u))) ?_
  refine EndsG.seqO (by kernel_rfl) ?_
  refine EndsG.seqO (by kernel_rfl) ?_
  refine EndsG.run (k := [.code (codeL (codeL (codeR (bodyOf 23))))]) prog_ok envB_ok (fjq1_p0 (xs.length) (c) ((rI xs e u))) ?_
  refine EndsG.blockLoop (B := (round 0 (bodyOf 23))) (id := 0) (by kernel_rfl) ?_
  exact fj_go xs c e u hb (fj_end xs c e u hb) xs.length 0 (Nat.zero_add _) _ (fj_S.mk (jj := 0) (by kernel_rfl) (.c16 rfl (.c2 rfl (.c1 rfl .nil))))
/-
A pressure by the reference: pieces.
-/
theorem prq0_p0  (n c : Nat) (r8 : Option ARow) (d : Int) : Runs Tryz.prog envB 9 [.code (codeL (bodyOf 28))] [sl 8 0 n c, I d, U, U, U, U, U, U, U, U, U, U, U, U, U, U, U, U, U, U, U, U, U, U, U, U, U, U, U, U, U, U, U, U, U] (n8 [r8]) ([(sl 8 0 n c), I d, U, U, (pt 9 0), U, U, U, U, U, U, U, U, U, U, U, U, U, U, U, U, U, U, U, U, U, U, U, U, U, U, U, U, U, U], (n8 [r8, (.some (.cells [I 0, I 0] 34 .var))]), none) :=
  Runs.by (n := 1000) (fid := 28) (os := []) (os' := []) (by kernel_rfl) (ObsOK.nil)
theorem prq1_p0  (n c : Nat) (r8 : Option ARow) (d : Int) : Runs Tryz.prog envB 9 [.code (codeL (codeR (bodyOf 28)))] [(sl 8 0 n c), I d, U, U, (pt 9 0), U, U, U, U, U, U, U, U, U, U, U, U, U, U, U, U, U, U, U, U, U, U, U, U, U, U, U, U, U, U] (n8 [r8, (.some (.cells [I 0, I 0] 34 .var))]) ([(sl 8 0 n c), I d, U, U, (pt 9 0), (pt 10 0), U, U, U, U, U, U, U, U, U, U, U, U, U, U, U, U, U, U, U, U, U, U, U, U, U, U, U, U, U], (n8 [r8, (.some (.cells [I 0, I 0] 34 .var)), (.some (.cells [I 0, I 0] 34 .var))]), none) :=
  Runs.by (n := 1000) (fid := 28) (os := []) (os' := []) (by kernel_rfl) (ObsOK.nil)
theorem prq2_p0  (n c : Nat) (r8 : Option ARow) (d : Int) : Runs Tryz.prog envB 9 [.code (codeL (codeL (codeR (codeR (bodyOf 28)))))] [(sl 8 0 n c), I d, U, U, (pt 9 0), (pt 10 0), U, U, U, U, U, U, U, U, U, U, U, U, U, U, U, U, U, U, U, U, U, U, U, U, U, U, U, U, U] (n8 [r8, (.some (.cells [I 0, I 0] 34 .var)), (.some (.cells [I 0, I 0] 34 .var))]) ([(sl 8 0 n c), I d, U, U, (pt 9 0), (pt 10 0), I 0, U, U, U, U, U, U, U, U, U, U, U, U, U, U, U, U, U, U, U, U, U, U, U, U, U, U, U, U], (n8 [r8, (.some (.cells [I 0, I 0] 34 .var)), (.some (.cells [I 0, I 0] 34 .var))]), none) :=
  Runs.by (n := 1000) (fid := 28) (os := []) (os' := []) (by kernel_rfl) (ObsOK.nil)
theorem prA0_p0 (v2 v3 v7 v8 v9 v10 v11 v12 v13 v14 v15 v16 v17 v18 v19 v20 v21 v22 v23 v24 v25 v26 v27 v28 v29 v30 v31 v32 v33 v34 : Value) (n c : Nat) (r8 : Option ARow) (d i u10_0 u10_1 : Int) (k8 : Nat) (z8x z8y z8g z8p : Int) (hx8 : aIndexAddr Tryz.prog 22 (sl 8 0 n c) (I i) = some (pt 8 k8)) (hl8 : aLoad Tryz.prog 24 (pt 8 k8) (n8 [r8, (.some (.cells [I 0, I 0] 34 .var)), (.some (.cells [I u10_0, I u10_1] 34 .var))]) = some (.agg #[I z8x, I z8y, I z8g, I z8p])) (hf8_2 : aLoad Tryz.prog 3 (.pointer (some ⟨8, k8 + 2, none⟩)) (n8 [r8, (.some (.cells [I 0, I 0] 34 .var)), (.some (.cells [I u10_0, I u10_1] 34 .var))]) = some (I z8g)) (hf8_3 : aLoad Tryz.prog 3 (.pointer (some ⟨8, k8 + 3, none⟩)) (n8 [r8, (.some (.cells [I 0, I 0] 34 .var)), (.some (.cells [I u10_0, I u10_1] 34 .var))]) = some (I z8p)) (f1 : decide (i < (n : Int)) = true) (h27 : ∀ (lim : Nat) (A : Heap), startsB heapN A = true → Gives Tryz.prog envB lim 27 [.agg #[I z8x, I z8y, I z8g, I z8p], I d] A (I (paF z8x z8y d), A)) : Runs Tryz.prog envB 9 [.code (round 0 (bodyOf 28))] [(sl 8 0 n c), I d, v2, v3, (pt 9 0), (pt 10 0), I i, v7, v8, v9, v10, v11, v12, v13, v14, v15, v16, v17, v18, v19, v20, v21, v22, v23, v24, v25, v26, v27, v28, v29, v30, v31, v32, v33, v34] (n8 [r8, (.some (.cells [I 0, I 0] 34 .var)), (.some (.cells [I u10_0, I u10_1] 34 .var))]) ([(sl 8 0 n c), I d, v2, v3, (pt 9 0), (pt 10 0), (I (IntKind.i64.wrap (i + 1))), I i, (sl 8 0 n c), (I ((n : Int))), (.bool (decide (i < (n : Int)))), I i, (I (IntKind.i64.wrap (i + 1))), (.agg #[I u10_0, I u10_1]), (sl 8 0 n c), I i, (pt 8 k8), (.pointer (.some (Go.Addr.mk 8 (k8 + 2) .none))), I z8g, (.agg #[I z8g, I 0]), (sl 8 0 n c), I i, (pt 8 k8), (.pointer (.some (Go.Addr.mk 8 (k8 + 3) .none))), I z8p, (sl 8 0 n c), I i, (pt 8 k8), (.agg #[I z8x, I z8y, I z8g, I z8p]), I d, (I (paF z8x z8y d)), (I (IntKind.i64.wrap (z8p + paF z8x z8y d))), (.agg #[(I (ruX z8g 0 (IntKind.i64.wrap (z8p + paF z8x z8y d) % 4))), (I (ruY z8g 0 (IntKind.i64.wrap (z8p + paF z8x z8y d) % 4)))]), (.agg #[(I (rpl_r0 u10_0 u10_1 (ruX z8g 0 (IntKind.i64.wrap (z8p + paF z8x z8y d) % 4)) (ruY z8g 0 (IntKind.i64.wrap (z8p + paF z8x z8y d) % 4)))), (I (rpl_r1 u10_0 u10_1 (ruX z8g 0 (IntKind.i64.wrap (z8p + paF z8x z8y d) % 4)) (ruY z8g 0 (IntKind.i64.wrap (z8p + paF z8x z8y d) % 4))))]), v34], (n8 [r8, (.some (.cells [I 0, I 0] 34 .var)), (.some (.cells [(I (rpl_r0 u10_0 u10_1 (ruX z8g 0 (IntKind.i64.wrap (z8p + paF z8x z8y d) % 4)) (ruY z8g 0 (IntKind.i64.wrap (z8p + paF z8x z8y d) % 4)))), (I (rpl_r1 u10_0 u10_1 (ruX z8g 0 (IntKind.i64.wrap (z8p + paF z8x z8y d) % 4)) (ruY z8g 0 (IntKind.i64.wrap (z8p + paF z8x z8y d) % 4))))] 34 .var))]), none) :=
  Runs.by (n := 1000) (fid := 28) (os := [.br 28 22 true, .op 28 17 (pt 8 k8), .op 28 19 (I z8g), .op 28 23 (pt 8 k8), .op 28 25 (I z8p), .op 28 28 (pt 8 k8), .op 28 29 (.agg #[I z8x, I z8y, I z8g, I z8p]), .opw 28 31 (I (paF z8x z8y d)) (n8 [r8, (.some (.cells [I 0, I 0] 34 .var)), (.some (.cells [I u10_0, I u10_1] 34 .var))])]) (os' := []) (by kernel_rfl) (ObsOK.cond f1 (ObsOK.val hx8 (ObsOK.val hf8_2 (ObsOK.val hx8 (ObsOK.val hf8_3 (ObsOK.val hx8 (ObsOK.val hl8 (ObsOK.call (h27 11 (n8 [r8, (.some (.cells [I 0, I 0] 34 .var)), (.some (.cells [I u10_0, I u10_1] 34 .var))]) (by kernel_rfl)) (ObsOK.nil)))))))))
theorem prC_p0 (v2 v3 v7 v8 v9 v10 v11 v12 v13 v14 v15 v16 v17 v18 v19 v20 v21 v22 v23 v24 v25 v26 v27 v28 v29 v30 v31 v32 v33 v34 : Value) (n c : Nat) (r8 : Option ARow) (d i u10_0 u10_1 : Int) (f1 : decide (i < (n : Int)) = false) : Runs Tryz.prog envB 9 [.code (round 0 (bodyOf 28)), .inLoop (round 0 (bodyOf 28)), .inBlock 0] [(sl 8 0 n c), I d, v2, v3, (pt 9 0), (pt 10 0), I i, v7, v8, v9, v10, v11, v12, v13, v14, v15, v16, v17, v18, v19, v20, v21, v22, v23, v24, v25, v26, v27, v28, v29, v30, v31, v32, v33, v34] (n8 [r8, (.some (.cells [I 0, I 0] 34 .var)), (.some (.cells [I u10_0, I u10_1] 34 .var))]) ([(sl 8 0 n c), I d, v2, v3, (pt 9 0), (pt 10 0), I i, I i, (sl 8 0 n c), (I ((n : Int))), (.bool (decide (i < (n : Int)))), v11, v12, v13, v14, v15, v16, v17, v18, v19, v20, v21, v22, v23, v24, v25, v26, v27, v28, v29, v30, v31, v32, v33, v34], (n8 [r8, (.some (.cells [I 0, I 0] 34 .var)), (.some (.cells [I u10_0, I u10_1] 34 .var))]), none) :=
  Runs.by (n := 1000) (fid := 28) (os := [.br 28 22 false]) (os' := []) (by kernel_rfl) (ObsOK.cond f1 (ObsOK.nil))
theorem prZ_p0 (v2 v3 v6 v7 v8 v9 v10 v11 v12 v13 v14 v15 v16 v17 v18 v19 v20 v21 v22 v23 v24 v25 v26 v27 v28 v29 v30 v31 v32 v33 v34 : Value) (n c : Nat) (r8 : Option ARow) (d u10_0 u10_1 : Int) : Runs Tryz.prog envB 9 [.code (codeR (codeR (codeR (bodyOf 28))))] [(sl 8 0 n c), I d, v2, v3, (pt 9 0), (pt 10 0), v6, v7, v8, v9, v10, v11, v12, v13, v14, v15, v16, v17, v18, v19, v20, v21, v22, v23, v24, v25, v26, v27, v28, v29, v30, v31, v32, v33, v34] (n8 [r8, (.some (.cells [I 0, I 0] 34 .var)), (.some (.cells [I u10_0, I u10_1] 34 .var))]) ([(sl 8 0 n c), I d, v2, v3, (pt 9 0), (pt 10 0), v6, v7, v8, v9, v10, v11, v12, v13, v14, v15, v16, v17, v18, v19, v20, v21, v22, v23, v24, v25, v26, v27, v28, v29, v30, v31, v32, v33, (.agg #[I u10_0, I u10_1])], (n8 [r8, (.some (.cells [I u10_0, I u10_1] 34 .var)), (.some (.cells [I u10_0, I u10_1] 34 .var))]), some .ret) :=
  Runs.by (n := 1000) (fid := 28) (os := []) (os' := []) (by kernel_rfl) (ObsOK.nil)
/-
A pressure by the reference.
-/
noncomputable def pr_at (xs : List Sr) (d : Int) (c e : Nat) (u : Use) : Nat → Int × Int
  | 0 => ((0), (0))
  | jj + 1 => ((rpl_r0 ((pr_at xs d c e u jj).1) ((pr_at xs d c e u jj).2) (ruX ((xs.getD jj s0).g) 0 (IntKind.i64.wrap (((xs.getD jj s0).p) + paF ((xs.getD jj s0).x) ((xs.getD jj s0).y) d) % 4)) (ruY ((xs.getD jj s0).g) 0 (IntKind.i64.wrap (((xs.getD jj s0).p) + paF ((xs.getD jj s0).x) ((xs.getD jj s0).y) d) % 4))), (rpl_r1 ((pr_at xs d c e u jj).1) ((pr_at xs d c e u jj).2) (ruX ((xs.getD jj s0).g) 0 (IntKind.i64.wrap (((xs.getD jj s0).p) + paF ((xs.getD jj s0).x) ((xs.getD jj s0).y) d) % 4)) (ruY ((xs.getD jj s0).g) 0 (IntKind.i64.wrap (((xs.getD jj s0).p) + paF ((xs.getD jj s0).x) ((xs.getD jj s0).y) d) % 4))))
theorem pr_at_s (xs : List Sr) (d : Int) (c e : Nat) (u : Use) (jj : Nat) : pr_at xs d c e u (jj + 1) = ((rpl_r0 ((pr_at xs d c e u jj).1) ((pr_at xs d c e u jj).2) (ruX ((xs.getD jj s0).g) 0 (IntKind.i64.wrap (((xs.getD jj s0).p) + paF ((xs.getD jj s0).x) ((xs.getD jj s0).y) d) % 4)) (ruY ((xs.getD jj s0).g) 0 (IntKind.i64.wrap (((xs.getD jj s0).p) + paF ((xs.getD jj s0).x) ((xs.getD jj s0).y) d) % 4))), (rpl_r1 ((pr_at xs d c e u jj).1) ((pr_at xs d c e u jj).2) (ruX ((xs.getD jj s0).g) 0 (IntKind.i64.wrap (((xs.getD jj s0).p) + paF ((xs.getD jj s0).x) ((xs.getD jj s0).y) d) % 4)) (ruY ((xs.getD jj s0).g) 0 (IntKind.i64.wrap (((xs.getD jj s0).p) + paF ((xs.getD jj s0).x) ((xs.getD jj s0).y) d) % 4)))) := rfl
def pr_b (xs : List Sr) (d : Int) (c e : Nat) (u : Use) (jj : Nat) (f : Nat → Value) : List Value := [(sl 8 0 xs.length c), I d, f 2, f 3, (pt 9 0), (pt 10 0), I (jj : Int), f 7, f 8, f 9, f 10, f 11, f 12, f 13, f 14, f 15, f 16, f 17, f 18, f 19, f 20, f 21, f 22, f 23, f 24, f 25, f 26, f 27, f 28, f 29, f 30, f 31, f 32, f 33, f 34]
def pr_S (xs : List Sr) (d : Int) (c e : Nat) (u : Use) (jj : Nat) (ls : List Value) : Prop := ∃ f : Nat → Value, ls = pr_b xs d c e u jj f ∧ JF [10] f
theorem pr_S.mk {xs : List Sr} {d : Int} {c e : Nat} {u : Use} {jj : Nat} {ls : List Value} (h : ls = pr_b xs d c e u jj (fun k => ls.getD k (I 0))) (hj : JL [10] 0 ls) : pr_S xs d c e u jj ls := ⟨_, h, hj.fn⟩
def pr_bE (xs : List Sr) (d : Int) (c e : Nat) (u : Use) (jj : Nat) (f : Nat → Value) : List Value := [(sl 8 0 xs.length c), I d, f 2, f 3, (pt 9 0), (pt 10 0), f 6, f 7, f 8, f 9, f 10, f 11, f 12, f 13, f 14, f 15, f 16, f 17, f 18, f 19, f 20, f 21, f 22, f 23, f 24, f 25, f 26, f 27, f 28, f 29, f 30, f 31, f 32, f 33, f 34]
def pr_SE (xs : List Sr) (d : Int) (c e : Nat) (u : Use) (jj : Nat) (ls : List Value) : Prop := ∃ f : Nat → Value, ls = pr_bE xs d c e u jj f ∧ JF [10] f
theorem pr_SE.mk {xs : List Sr} {d : Int} {c e : Nat} {u : Use} {jj : Nat} {ls : List Value} (h : ls = pr_bE xs d c e u jj (fun k => ls.getD k (I 0))) (hj : JL [10] 0 ls) : pr_SE xs d c e u jj ls := ⟨_, h, hj.fn⟩
def pr_K : List Keep := [.ren, .free, .no, .no, .ren, .ren, .free, .no, .no, .no, .free, .no, .no, .no, .no, .no, .no, .no, .no, .no, .no, .no, .no, .no, .no, .no, .no, .no, .no, .no, .no, .no, .no, .no, .no]
theorem pr_go (xs : List Sr) (d : Int) (c e : Nat) (u : Use) {KK : List It} {v' : Value} {A' : Heap} (hb : xs.length ≤ 1000) (hD : okD d = true) (hend : ∀ ls, pr_SE xs d c e u xs.length ls → EndsG Tryz.prog 8 Tryz.f28 (n8 [(rS xs e u)]) v' A' (KK) ls ((n8 [(rS xs e u)]) ++ [(.some (.cells [I 0, I 0] 34 .var)), (.some (.cells [I ((pr_at xs d c e u xs.length).1), I ((pr_at xs d c e u xs.length).2)] 34 .var))])) : ∀ dd jj, jj + dd = xs.length → ∀ ls, pr_S xs d c e u jj ls → EndsG Tryz.prog 8 Tryz.f28 (n8 [(rS xs e u)]) v' A' (.code (round 0 (bodyOf 28)) :: .inLoop (round 0 (bodyOf 28)) :: .inBlock 0 :: KK) ls ((n8 [(rS xs e u)]) ++ [(.some (.cells [I 0, I 0] 34 .var)), (.some (.cells [I ((pr_at xs d c e u jj).1), I ((pr_at xs d c e u jj).2)] 34 .var))]) := by
  intro dd
  induction dd with
  | zero =>
    rintro jj hjj ls ⟨f, rfl, hj⟩
    have hjn : jj = xs.length := by omega
    subst hjn
    have hr := prC_p0 (f 2) (f 3) (f 7) (f 8) (f 9) (f 10) (f 11) (f 12) (f 13) (f 14) (f 15) (f 16) (f 17) (f 18) (f 19) (f 20) (f 21) (f 22) (f 23) (f 24) (f 25) (f 26) (f 27) (f 28) (f 29) (f 30) (f 31) (f 32) (f 33) (f 34) (xs.length) (c) ((rS xs e u)) (d) ((xs.length : Int)) (((pr_at xs d c e u xs.length).1)) (((pr_at xs d c e u xs.length).2)) (decide_eq_false (by first | omega | (simp; omega)))
    refine EndsG.run (k := [.code (round 0 (bodyOf 28)), .inLoop (round 0 (bodyOf 28)), .inBlock 0]) (kk := KK) prog_ok envB_ok hr ?_
    exact hend _ (pr_SE.mk (jj := xs.length) (by kernel_rfl) (.c2 rfl (.f2 hj (.c4 rfl (.c2 rfl (.c1 rfl (.f16 hj (.f8 hj .nil))))))))
  | succ dd ih =>
    rintro jj hjj ls ⟨f, rfl, hj⟩
    have hlt : jj < xs.length := by omega
    have hr := prA0_p0 (f 2) (f 3) (f 7) (f 8) (f 9) (f 10) (f 11) (f 12) (f 13) (f 14) (f 15) (f 16) (f 17) (f 18) (f 19) (f 20) (f 21) (f 22) (f 23) (f 24) (f 25) (f 26) (f 27) (f 28) (f 29) (f 30) (f 31) (f 32) (f 33) (f 34) (xs.length) (c) ((rS xs e u)) (d) ((jj : Int)) (((pr_at xs d c e u jj).1)) (((pr_at xs d c e u jj).2)) ((jj * 4)) (((xs.getD jj s0).x)) (((xs.getD jj s0).y)) (((xs.getD jj s0).g)) (((xs.getD jj s0).p)) (ix22 (by omega)) (ld24 rfl (by omega)) (ldg rfl (by omega)) (ldp rfl (by omega)) (decide_eq_true (by first | omega | (simp; omega))) (k27 hD)
    try rw [wrap_succ' (by omega)] at hr
    have hat := pr_at_s xs d c e u jj
    refine EndsG.round prog_ok envB_ok hr ?_
    refine EndsG.renumS (X := [_, _]) (R := [(.some (.cells [I 0, I 0] 34 .var)), (.some (.cells [(I (rpl_r0 ((pr_at xs d c e u jj).1) ((pr_at xs d c e u jj).2) (ruX ((xs.getD jj s0).g) 0 (IntKind.i64.wrap (((xs.getD jj s0).p) + paF ((xs.getD jj s0).x) ((xs.getD jj s0).y) d) % 4)) (ruY ((xs.getD jj s0).g) 0 (IntKind.i64.wrap (((xs.getD jj s0).p) + paF ((xs.getD jj s0).x) ((xs.getD jj s0).y) d) % 4)))), (I (rpl_r1 ((pr_at xs d c e u jj).1) ((pr_at xs d c e u jj).2) (ruX ((xs.getD jj s0).g) 0 (IntKind.i64.wrap (((xs.getD jj s0).p) + paF ((xs.getD jj s0).x) ((xs.getD jj s0).y) d) % 4)) (ruY ((xs.getD jj s0).g) 0 (IntKind.i64.wrap (((xs.getD jj s0).p) + paF ((xs.getD jj s0).x) ((xs.getD jj s0).y) d) % 4))))] 34 .var))]) (ids := [9, 10]) (m := pr_K) rfl rfl (by kernel_rfl) (.cons rfl (.plain rfl) (.cons rfl (.plain rfl) .nil)) (.ren rfl (.free rfl (.j2 2 hj rfl (.ren rfl (.ren rfl (.free rfl (.n2 rfl (.no rfl (.free rfl (.n16 rfl (.n4 rfl (.n2 rfl (.no rfl (.j1 34 hj rfl .nil)))))))))))))) ?_
    refine EndsG.rows (R' := [(.some (.cells [I 0, I 0] 34 .var)), (.some (.cells [I ((pr_at xs d c e u (jj + 1)).1), I ((pr_at xs d c e u (jj + 1)).2)] 34 .var))]) (by first | rfl | (rw [hat]; rfl)) ?_
    exact ih (jj + 1) (by omega) _ (pr_S.mk (jj := (jj + 1)) (by first | kernel_rfl | (unfold pr_b; rw [hat]; kernel_rfl)) (.c16 rfl (.c16 rfl (.c2 rfl (.c1 rfl .nil)))))
theorem pr_end (xs : List Sr) (d : Int) (c e : Nat) (u : Use) (hb : xs.length ≤ 1000) (hD : okD d = true) : ∀ ls, pr_SE xs d c e u xs.length ls → EndsG Tryz.prog 8 Tryz.f28 (n8 [(rS xs e u)]) (.agg #[I (pr_at xs d c e u xs.length).1, I (pr_at xs d c e u xs.length).2]) (n8 [(rS xs e u)]) ([.code (codeR (codeR (codeR (bodyOf 28))))]) ls ((n8 [(rS xs e u)]) ++ [(.some (.cells [I 0, I 0] 34 .var)), (.some (.cells [I ((pr_at xs d c e u xs.length).1), I ((pr_at xs d c e u xs.length).2)] 34 .var))]) := by
  rintro ls ⟨f, rfl, hj⟩
  have hr := prZ_p0 (f 2) (f 3) (f 6) (f 7) (f 8) (f 9) (f 10) (f 11) (f 12) (f 13) (f 14) (f 15) (f 16) (f 17) (f 18) (f 19) (f 20) (f 21) (f 22) (f 23) (f 24) (f 25) (f 26) (f 27) (f 28) (f 29) (f 30) (f 31) (f 32) (f 33) (f 34) (xs.length) (c) ((rS xs e u)) (d) (((pr_at xs d c e u xs.length).1)) (((pr_at xs d c e u xs.length).2))
  exact EndsG.ret (X := [_, _]) (v := .agg #[(I ((pr_at xs d c e u xs.length).1)), (I ((pr_at xs d c e u xs.length).2))]) prog_ok envB_ok hr rfl (by kernel_rfl) (by kernel_rfl)
theorem pr_says (xs : List Sr) (d : Int) (c e : Nat) (u : Use) (hb : xs.length ≤ 1000) (hD : okD d = true) : SaysAt Tryz.prog 8 28 [sl 8 0 xs.length c, I d] (n8 [(rS xs e u)]) (.agg #[I (pr_at xs d c e u xs.length).1, I (pr_at xs d c e u xs.length).2]) (n8 [(rS xs e u)]) := by
  refine EndsG.says prog_ok Tryz.func28 (c := bodyOf 28) (by kernel_rfl) (by kernel_rfl) ?_
  refine EndsG.seqO (by kernel_rfl) ?_
  refine EndsG.run (k := [.code (codeL (bodyOf 28))]) prog_ok envB_ok (prq0_p0 (xs.length) (c) ((rS xs e u)) (d)) ?_
  refine EndsG.seqO (by kernel_rfl) ?_
  refine EndsG.run (k := [.code (codeL (codeR (bodyOf 28)))]) prog_ok envB_ok (prq1_p0 (xs.length) (c) ((rS xs e u)) (d)) ?_
  refine EndsG.seqO (by kernel_rfl) ?_
  refine EndsG.seqO (by kernel_rfl) ?_
  refine EndsG.run (k := [.code (codeL (codeL (codeR (codeR (bodyOf 28)))))]) prog_ok envB_ok (prq2_p0 (xs.length) (c) ((rS xs e u)) (d)) ?_
  refine EndsG.blockLoop (B := (round 0 (bodyOf 28))) (id := 0) (by kernel_rfl) ?_
  exact pr_go xs d c e u hb hD (pr_end xs d c e u hb hD) xs.length 0 (Nat.zero_add _) _ (pr_S.mk (jj := 0) (by kernel_rfl) (.c16 rfl (.c16 rfl (.c2 rfl (.c1 rfl .nil)))))
/-
Waves visited: pieces.
-/
theorem wvq0_p0  (n c : Nat) (r8 : Option ARow) (d u0 u1 : Int) : Runs Tryz.prog envB 8 [.code (codeL (bodyOf 149))] [.func (.yield 13) #[] #[], pt 12 0, U, U, U, U, U, U, U, U, U, U, U, U, U, U, U, U, U, U, U, U] (H [r8, some (.cells [I d] 3 .var), some (.cells [I 0, I 0] 34 .var), some (.cells [I u0, I u1] 34 .var), some (.cells [sl 8 0 n c] 37 .var), some (.loop [sl 8 0 n c, I d, U, pt 9 0, pt 10 0, pt 11 0, U, U, sl 8 0 n c, .func (.func 149) #[] #[pt 12 0], U, U, U, U, U, U, U, U, U, U] #[10, 11] (rfA (bodyB (blk 0 (bodyOf 87)))) (rfB (bodyB (blk 0 (bodyOf 87)))) .ready none)]) ([(.func (.yield 13) #[] #[]), (pt 12 0), U, U, U, (sl 8 0 n c), (I ((n : Int))), I 0, U, U, U, U, U, U, U, U, U, U, U, U, U, U], (H [r8, (.some (.cells [I d] 3 .var)), (.some (.cells [I 0, I 0] 34 .var)), (.some (.cells [I u0, I u1] 34 .var)), (.some (.cells [(sl 8 0 n c)] 37 .var)), (.some (.loop [(sl 8 0 n c), I d, U, (pt 9 0), (pt 10 0), (pt 11 0), U, U, (sl 8 0 n c), (.func (.func 149) #[] #[(pt 12 0)]), U, U, U, U, U, U, U, U, U, U] #[10, 11] (rfA (bodyB (blk 0 (bodyOf 87)))) (rfB (bodyB (blk 0 (bodyOf 87)))) .ready .none))]), none) :=
  Runs.by (n := 1000) (fid := 149) (os := []) (os' := []) (by kernel_rfl) (ObsOK.nil)
theorem wvA0_p0 (v1 v2 v3 v4 v8 v9 v10 v11 v12 v13 v14 v15 v16 v17 v18 v19 v20 v21 : Value) (n c : Nat) (r8 : Option ARow) (d i u0 u1 : Int) (k8 : Nat) (z8x z8y z8g z8p : Int) (hx8 : aIndexAddr Tryz.prog 37 (sl 8 0 n c) (I i) = some (pt 8 k8)) (hl8 : aLoad Tryz.prog 32 (pt 8 k8) (H [r8, some (.cells [I d] 3 .var), some (.cells [I 0, I 0] 34 .var), some (.cells [I u0, I u1] 34 .var), some (.cells [sl 8 0 n c] 37 .var), some (.loop [sl 8 0 n c, I d, U, pt 9 0, pt 10 0, pt 11 0, U, U, sl 8 0 n c, .func (.func 149) #[] #[pt 12 0], U, U, U, U, U, U, U, U, U, U] #[10, 11] (rfA (bodyB (blk 0 (bodyOf 87)))) (rfB (bodyB (blk 0 (bodyOf 87)))) .ready none)]) = some (.agg #[I z8x, I z8y, I z8g, I z8p])) (f1 : decide (i < ((n : Int))) = true) (h86 : ∀ (lim : Nat) (A : Heap), startsB heap0 A = true → Gives Tryz.prog envB lim 86 [.agg #[I z8x, I z8y, I z8g, I z8p], I d] A (I (paF z8x z8y d), A)) : Runs Tryz.prog envB 8 [.code (round 0 (bodyOf 149))] [(.func (.yield 13) #[] #[]), v1, v2, v3, v4, (sl 8 0 n c), (I ((n : Int))), I i, v8, v9, v10, v11, v12, v13, v14, v15, v16, v17, v18, v19, v20, v21] (H [r8, some (.cells [I d] 3 .var), some (.cells [I 0, I 0] 34 .var), some (.cells [I u0, I u1] 34 .var), some (.cells [sl 8 0 n c] 37 .var), some (.loop [sl 8 0 n c, I d, U, pt 9 0, pt 10 0, pt 11 0, U, U, sl 8 0 n c, .func (.func 149) #[] #[pt 12 0], U, U, U, U, U, U, U, U, U, U] #[10, 11] (rfA (bodyB (blk 0 (bodyOf 87)))) (rfB (bodyB (blk 0 (bodyOf 87)))) .ready none)]) ([(.func (.yield 13) #[] #[]), v1, v2, v3, (pt 14 0), (sl 8 0 n c), (I ((n : Int))), (I (IntKind.i64.wrap (i + 1))), (.bool (decide (i < (n : Int)))), (pt 8 k8), (.agg #[I z8x, I z8y, I z8g, I z8p]), (.func (.yield 13) #[] #[]), (.agg #[I z8x, I z8y, I z8g, I z8p]), (pt 14 2), I z8g, (.agg #[I z8g, I 0]), (pt 14 3), I z8p, (.agg #[(I (tuX z8g 0 (z8p % 4))), (I (tuY z8g 0 (z8p % 4)))]), (.bool true), (.bool false), (I (IntKind.i64.wrap (i + 1)))], (H [r8, (.some (.cells [I d] 3 .var)), (.some (.cells [I 0, I 0] 34 .var)), (.some (.cells [(I (pl_r0 u0 u1 (tuX (tuX z8g 0 (z8p % 4)) (tuY z8g 0 (z8p % 4)) (paF z8x z8y d % 4)) (tuY (tuX z8g 0 (z8p % 4)) (tuY z8g 0 (z8p % 4)) (paF z8x z8y d % 4)))), (I (pl_r1 u0 u1 (tuX (tuX z8g 0 (z8p % 4)) (tuY z8g 0 (z8p % 4)) (paF z8x z8y d % 4)) (tuY (tuX z8g 0 (z8p % 4)) (tuY z8g 0 (z8p % 4)) (paF z8x z8y d % 4))))] 34 .var)), (.some (.cells [(sl 8 0 n c)] 37 .var)), (.some (.loop [(sl 8 0 n c), I d, U, (pt 9 0), (pt 10 0), (pt 11 0), U, U, (sl 8 0 n c), (.func (.func 149) #[] #[(pt 12 0)]), U, U, U, U, U, U, U, U, U, U] #[10, 11] (rfA (bodyB (blk 0 (bodyOf 87)))) (rfB (bodyB (blk 0 (bodyOf 87)))) .ready .none)), (.some (.cells [I z8x, I z8y, I z8g, I z8p] 32 .var)), (.some (.cells [I z8x, I z8y, I z8g, I z8p] 32 .var)), (.some (.cells [(I (tuX z8g 0 (z8p % 4))), (I (tuY z8g 0 (z8p % 4)))] 34 .var))]), none) :=
  Runs.by (n := 1000) (fid := 149) (os := [.br 149 18 true, .op 149 10 (pt 8 k8), .op 149 11 (.agg #[I z8x, I z8y, I z8g, I z8p]), .opw 1000000 17 (I (paF z8x z8y d)) (H [r8, (.some (.cells [I d] 3 .var)), (.some (.cells [I 0, I 0] 34 .var)), (.some (.cells [I u0, I u1] 34 .var)), (.some (.cells [(sl 8 0 n c)] 37 .var)), (.some (.loop [(sl 8 0 n c), I d, U, (pt 9 0), (pt 10 0), (pt 11 0), U, U, (sl 8 0 n c), (.func (.func 149) #[] #[(pt 12 0)]), U, U, U, U, U, U, U, U, U, U] #[10, 11] (rfA (bodyB (blk 0 (bodyOf 87)))) (rfB (bodyB (blk 0 (bodyOf 87)))) .busy .none)), (.some (.cells [I z8x, I z8y, I z8g, I z8p] 32 .var)), (.some (.cells [I z8x, I z8y, I z8g, I z8p] 32 .var)), (.some (.cells [(I (tuX z8g 0 (z8p % 4))), (I (tuY z8g 0 (z8p % 4)))] 34 .var))])]) (os' := []) (by kernel_rfl) (ObsOK.cond f1 (ObsOK.val hx8 (ObsOK.val hl8 (ObsOK.call (h86 17 (H [r8, (.some (.cells [I d] 3 .var)), (.some (.cells [I 0, I 0] 34 .var)), (.some (.cells [I u0, I u1] 34 .var)), (.some (.cells [(sl 8 0 n c)] 37 .var)), (.some (.loop [(sl 8 0 n c), I d, U, (pt 9 0), (pt 10 0), (pt 11 0), U, U, (sl 8 0 n c), (.func (.func 149) #[] #[(pt 12 0)]), U, U, U, U, U, U, U, U, U, U] #[10, 11] (rfA (bodyB (blk 0 (bodyOf 87)))) (rfB (bodyB (blk 0 (bodyOf 87)))) .busy .none)), (.some (.cells [I z8x, I z8y, I z8g, I z8p] 32 .var)), (.some (.cells [I z8x, I z8y, I z8g, I z8p] 32 .var)), (.some (.cells [(I (tuX z8g 0 (z8p % 4))), (I (tuY z8g 0 (z8p % 4)))] 34 .var))]) (by kernel_rfl)) (ObsOK.nil)))))
theorem wvC_p0 (v1 v2 v3 v4 v8 v9 v10 v11 v12 v13 v14 v15 v16 v17 v18 v19 v20 v21 : Value) (n c : Nat) (r8 : Option ARow) (d i u0 u1 : Int) (f1 : decide (i < ((n : Int))) = false) : Runs Tryz.prog envB 8 [.code (round 0 (bodyOf 149)), .inLoop (round 0 (bodyOf 149)), .inBlock 0] [(.func (.yield 13) #[] #[]), v1, v2, v3, v4, (sl 8 0 n c), (I ((n : Int))), I i, v8, v9, v10, v11, v12, v13, v14, v15, v16, v17, v18, v19, v20, v21] (H [r8, some (.cells [I d] 3 .var), some (.cells [I 0, I 0] 34 .var), some (.cells [I u0, I u1] 34 .var), some (.cells [sl 8 0 n c] 37 .var), some (.loop [sl 8 0 n c, I d, U, pt 9 0, pt 10 0, pt 11 0, U, U, sl 8 0 n c, .func (.func 149) #[] #[pt 12 0], U, U, U, U, U, U, U, U, U, U] #[10, 11] (rfA (bodyB (blk 0 (bodyOf 87)))) (rfB (bodyB (blk 0 (bodyOf 87)))) .ready none)]) ([(.func (.yield 13) #[] #[]), v1, v2, v3, v4, (sl 8 0 n c), (I ((n : Int))), I i, (.bool (decide (i < (n : Int)))), v9, v10, v11, v12, v13, v14, v15, v16, v17, v18, v19, v20, v21], (H [r8, (.some (.cells [I d] 3 .var)), (.some (.cells [I 0, I 0] 34 .var)), (.some (.cells [I u0, I u1] 34 .var)), (.some (.cells [(sl 8 0 n c)] 37 .var)), (.some (.loop [(sl 8 0 n c), I d, U, (pt 9 0), (pt 10 0), (pt 11 0), U, U, (sl 8 0 n c), (.func (.func 149) #[] #[(pt 12 0)]), U, U, U, U, U, U, U, U, U, U] #[10, 11] (rfA (bodyB (blk 0 (bodyOf 87)))) (rfB (bodyB (blk 0 (bodyOf 87)))) .ready .none))]), none) :=
  Runs.by (n := 1000) (fid := 149) (os := [.br 149 18 false]) (os' := []) (by kernel_rfl) (ObsOK.cond f1 (ObsOK.nil))
/-
Waves visited: what is summed.
-/
noncomputable def wv_at (xs : List Sr) (d : Int) (c e : Nat) (u : Use) : Nat → Int × Int
  | 0 => (0, 0)
  | jj + 1 => ((pl_r0 ((wv_at xs d c e u jj).1) ((wv_at xs d c e u jj).2) (tuX (tuX ((xs.getD jj s0).g) 0 (((xs.getD jj s0).p) % 4)) (tuY ((xs.getD jj s0).g) 0 (((xs.getD jj s0).p) % 4)) (paF ((xs.getD jj s0).x) ((xs.getD jj s0).y) d % 4)) (tuY (tuX ((xs.getD jj s0).g) 0 (((xs.getD jj s0).p) % 4)) (tuY ((xs.getD jj s0).g) 0 (((xs.getD jj s0).p) % 4)) (paF ((xs.getD jj s0).x) ((xs.getD jj s0).y) d % 4))), (pl_r1 ((wv_at xs d c e u jj).1) ((wv_at xs d c e u jj).2) (tuX (tuX ((xs.getD jj s0).g) 0 (((xs.getD jj s0).p) % 4)) (tuY ((xs.getD jj s0).g) 0 (((xs.getD jj s0).p) % 4)) (paF ((xs.getD jj s0).x) ((xs.getD jj s0).y) d % 4)) (tuY (tuX ((xs.getD jj s0).g) 0 (((xs.getD jj s0).p) % 4)) (tuY ((xs.getD jj s0).g) 0 (((xs.getD jj s0).p) % 4)) (paF ((xs.getD jj s0).x) ((xs.getD jj s0).y) d % 4))))
theorem wv_at_s (xs : List Sr) (d : Int) (c e : Nat) (u : Use) (jj : Nat) : wv_at xs d c e u (jj + 1) = ((pl_r0 ((wv_at xs d c e u jj).1) ((wv_at xs d c e u jj).2) (tuX (tuX ((xs.getD jj s0).g) 0 (((xs.getD jj s0).p) % 4)) (tuY ((xs.getD jj s0).g) 0 (((xs.getD jj s0).p) % 4)) (paF ((xs.getD jj s0).x) ((xs.getD jj s0).y) d % 4)) (tuY (tuX ((xs.getD jj s0).g) 0 (((xs.getD jj s0).p) % 4)) (tuY ((xs.getD jj s0).g) 0 (((xs.getD jj s0).p) % 4)) (paF ((xs.getD jj s0).x) ((xs.getD jj s0).y) d % 4))), (pl_r1 ((wv_at xs d c e u jj).1) ((wv_at xs d c e u jj).2) (tuX (tuX ((xs.getD jj s0).g) 0 (((xs.getD jj s0).p) % 4)) (tuY ((xs.getD jj s0).g) 0 (((xs.getD jj s0).p) % 4)) (paF ((xs.getD jj s0).x) ((xs.getD jj s0).y) d % 4)) (tuY (tuX ((xs.getD jj s0).g) 0 (((xs.getD jj s0).p) % 4)) (tuY ((xs.getD jj s0).g) 0 (((xs.getD jj s0).p) % 4)) (paF ((xs.getD jj s0).x) ((xs.getD jj s0).y) d % 4)))) := rfl
noncomputable def wv_B (xs : List Sr) (d : Int) (c e : Nat) (u : Use) (jj : Nat) : Heap := (H [(rS xs e u), some (.cells [I d] 3 .var), some (.cells [I 0, I 0] 34 .var), some (.cells [I ((wv_at xs d c e u jj).1), I ((wv_at xs d c e u jj).2)] 34 .var), some (.cells [sl 8 0 xs.length c] 37 .var), some (.loop [sl 8 0 xs.length c, I d, U, pt 9 0, pt 10 0, pt 11 0, U, U, sl 8 0 xs.length c, .func (.func 149) #[] #[pt 12 0], U, U, U, U, U, U, U, U, U, U] #[10, 11] (rfA (bodyB (blk 0 (bodyOf 87)))) (rfB (bodyB (blk 0 (bodyOf 87)))) .ready none)])
def wv_b (xs : List Sr) (d : Int) (c e : Nat) (u : Use) (jj : Nat) (f : Nat → Value) : List Value := [(.func (.yield 13) #[] #[]), f 1, f 2, f 3, f 4, (sl 8 0 xs.length c), (I ((xs.length : Int))), I (jj : Int), f 8, f 9, f 10, f 11, f 12, f 13, f 14, f 15, f 16, f 17, f 18, f 19, f 20, f 21]
def wv_S (xs : List Sr) (d : Int) (c e : Nat) (u : Use) (jj : Nat) (ls : List Value) : Prop := ∃ f : Nat → Value, ls = wv_b xs d c e u jj f ∧ JF [8, 19, 20] f
theorem wv_S.mk {xs : List Sr} {d : Int} {c e : Nat} {u : Use} {jj : Nat} {ls : List Value} (h : ls = wv_b xs d c e u jj (fun k => ls.getD k (I 0))) (hj : JL [8, 19, 20] 0 ls) : wv_S xs d c e u jj ls := ⟨_, h, hj.fn⟩
theorem wv_go (xs : List Sr) (d : Int) (c e : Nat) (u : Use) (hb : xs.length ≤ 1000) (hD : okD d = true) : ∀ dd jj, jj + dd = xs.length → ∀ ls, wv_S xs d c e u jj ls → EndsA Tryz.prog 8 Tryz.f149 (wv_B xs d c e u 0) U (wv_B xs d c e u xs.length) (.code (round 0 (bodyOf 149)) :: .inLoop (round 0 (bodyOf 149)) :: .inBlock 0 :: []) ls (wv_B xs d c e u jj) := by
  intro dd
  induction dd with
  | zero =>
    rintro jj hjj ls ⟨f, rfl, hj⟩
    have hjn : jj = xs.length := by omega
    subst hjn
    have hr := wvC_p0 (f 1) (f 2) (f 3) (f 4) (f 8) (f 9) (f 10) (f 11) (f 12) (f 13) (f 14) (f 15) (f 16) (f 17) (f 18) (f 19) (f 20) (f 21) (xs.length) (c) ((rS xs e u)) (d) ((xs.length : Int)) (((wv_at xs d c e u xs.length).1)) (((wv_at xs d c e u xs.length).2)) (decide_eq_false (by first | omega | (simp; omega)))
    refine EndsA.run (k := [.code (round 0 (bodyOf 149)), .inLoop (round 0 (bodyOf 149)), .inBlock 0]) (kk := []) prog_ok envB_ok hr ?_
    exact EndsA.ret (k := []) (j := none) (lim := 14) prog_ok envB_ok Runs.nil rfl (by kernel_rfl)
  | succ dd ih =>
    rintro jj hjj ls ⟨f, rfl, hj⟩
    have hlt : jj < xs.length := by omega
    have hr := wvA0_p0 (f 1) (f 2) (f 3) (f 4) (f 8) (f 9) (f 10) (f 11) (f 12) (f 13) (f 14) (f 15) (f 16) (f 17) (f 18) (f 19) (f 20) (f 21) (xs.length) (c) ((rS xs e u)) (d) ((jj : Int)) (((wv_at xs d c e u jj).1)) (((wv_at xs d c e u jj).2)) ((jj * 4)) (((xs.getD jj s0).x)) (((xs.getD jj s0).y)) (((xs.getD jj s0).g)) (((xs.getD jj s0).p)) (ix37 (by omega)) (ld32 rfl (by omega)) (decide_eq_true (by first | omega | (simp; omega))) (k86 hD)
    try rw [wrap_succ' (by omega)] at hr
    have hbs : BasesBy (inNum 14 []) (wv_B xs d c e u 0) ((H [(rS xs e u), (.some (.cells [I d] 3 .var)), (.some (.cells [I 0, I 0] 34 .var)), (.some (.cells [(I (pl_r0 ((wv_at xs d c e u jj).1) ((wv_at xs d c e u jj).2) (tuX (tuX ((xs.getD jj s0).g) 0 (((xs.getD jj s0).p) % 4)) (tuY ((xs.getD jj s0).g) 0 (((xs.getD jj s0).p) % 4)) (paF ((xs.getD jj s0).x) ((xs.getD jj s0).y) d % 4)) (tuY (tuX ((xs.getD jj s0).g) 0 (((xs.getD jj s0).p) % 4)) (tuY ((xs.getD jj s0).g) 0 (((xs.getD jj s0).p) % 4)) (paF ((xs.getD jj s0).x) ((xs.getD jj s0).y) d % 4)))), (I (pl_r1 ((wv_at xs d c e u jj).1) ((wv_at xs d c e u jj).2) (tuX (tuX ((xs.getD jj s0).g) 0 (((xs.getD jj s0).p) % 4)) (tuY ((xs.getD jj s0).g) 0 (((xs.getD jj s0).p) % 4)) (paF ((xs.getD jj s0).x) ((xs.getD jj s0).y) d % 4)) (tuY (tuX ((xs.getD jj s0).g) 0 (((xs.getD jj s0).p) % 4)) (tuY ((xs.getD jj s0).g) 0 (((xs.getD jj s0).p) % 4)) (paF ((xs.getD jj s0).x) ((xs.getD jj s0).y) d % 4))))] 34 .var)), (.some (.cells [(sl 8 0 xs.length c)] 37 .var)), (.some (.loop [(sl 8 0 xs.length c), I d, U, (pt 9 0), (pt 10 0), (pt 11 0), U, U, (sl 8 0 xs.length c), (.func (.func 149) #[] #[(pt 12 0)]), U, U, U, U, U, U, U, U, U, U] #[10, 11] (rfA (bodyB (blk 0 (bodyOf 87)))) (rfB (bodyB (blk 0 (bodyOf 87)))) .ready .none)), (.some (.cells [(I ((xs.getD jj s0).x)), (I ((xs.getD jj s0).y)), (I ((xs.getD jj s0).g)), (I ((xs.getD jj s0).p))] 32 .var)), (.some (.cells [(I ((xs.getD jj s0).x)), (I ((xs.getD jj s0).y)), (I ((xs.getD jj s0).g)), (I ((xs.getD jj s0).p))] 32 .var)), (.some (.cells [(I (tuX ((xs.getD jj s0).g) 0 (((xs.getD jj s0).p) % 4))), (I (tuY ((xs.getD jj s0).g) 0 (((xs.getD jj s0).p) % 4)))] 34 .var))])) (wv_B xs d c e u (jj + 1)) := (.cons (.inl ⟨rfl, rfl⟩) (.cons (.inl ⟨rfl, rfl⟩) (.cons (.inl ⟨rfl, rfl⟩) (.cons (.inl ⟨rfl, rfl⟩) (.cons (.inl ⟨rfl, rfl⟩) (.cons (.inl ⟨rfl, rfl⟩) (.cons (.inl ⟨rfl, rfl⟩) (.cons (.inl ⟨rfl, rfl⟩) (.cons (.inl ⟨rfl, rfl⟩) (.cons (.inl ⟨rfl, rfl⟩) (.cons (.inl ⟨rfl, rfl⟩) (.cons (.inr (.inl ⟨_, _, rfl, rfl, .plain rfl⟩)) (.cons (.inl ⟨rfl, rfl⟩) (.cons (.inl ⟨rfl, rfl⟩) .nil))))))))))))))
    refine EndsA.round prog_ok envB_ok hr ?_
    refine EndsA.renumC (B := wv_B xs d c e u (jj + 1)) (R := []) (ids := []) rfl hbs.get (fun i hi => by cases hi) rfl (.yld rfl (.no ((hj 1).2 rfl) (.no ((hj 2).2 rfl) (.no ((hj 3).2 rfl) (.no rfl (.ren rfl (.free rfl (.free rfl (.free rfl (.no rfl (.no rfl (.no rfl (.no rfl (.no rfl (.no rfl (.no rfl (.no rfl (.no rfl (.no rfl (.free rfl (.free rfl (.no rfl .nil)))))))))))))))))))))) .nil (of_decide_eq_true (by kernel_rfl)) ?_
    rw [List.append_nil]
    exact ih (jj + 1) (by omega) _ (wv_S.mk (jj := (jj + 1)) (by kernel_rfl) (.no rfl rfl (.no rfl rfl (.no rfl rfl (.no rfl rfl (.no rfl rfl (.no rfl rfl (.no rfl rfl (.no rfl rfl (.bo rfl rfl (.no rfl rfl (.no rfl rfl (.no rfl rfl (.no rfl rfl (.no rfl rfl (.no rfl rfl (.no rfl rfl (.no rfl rfl (.no rfl rfl (.no rfl rfl (.bo rfl rfl (.bo rfl rfl (.no rfl rfl .nil)))))))))))))))))))))))
theorem wv_says (xs : List Sr) (d : Int) (c e : Nat) (u : Use) (hb : xs.length ≤ 1000) (hD : okD d = true) : SaysAt Tryz.prog 8 149 [.func (.yield 13) #[] #[], pt 12 0] (wv_B xs d c e u 0) U (wv_B xs d c e u xs.length) := by
  refine EndsA.saysImp prog_ok Tryz.func149 (c := bodyOf 149) (by kernel_rfl) (of_decide_eq_false (by kernel_rfl)) ?_
  refine EndsA.seqO (by kernel_rfl) ?_
  refine EndsA.run (k := [.code (codeL (bodyOf 149))]) prog_ok envB_ok (wvq0_p0 (xs.length) (c) ((rS xs e u)) (d) (((wv_at xs d c e u 0).1)) (((wv_at xs d c e u 0).2))) ?_
  refine EndsA.blockLoop (B := (round 0 (bodyOf 149))) (id := 0) (by kernel_rfl) ?_
  exact wv_go xs d c e u hb hD xs.length 0 (Nat.zero_add _) _ (wv_S.mk (jj := 0) (by kernel_rfl) (.no rfl rfl (.no rfl rfl (.no rfl rfl (.no rfl rfl (.no rfl rfl (.no rfl rfl (.no rfl rfl (.no rfl rfl (.bo rfl rfl (.no rfl rfl (.no rfl rfl (.no rfl rfl (.no rfl rfl (.no rfl rfl (.no rfl rfl (.no rfl rfl (.no rfl rfl (.no rfl rfl (.no rfl rfl (.bo rfl rfl (.bo rfl rfl (.no rfl rfl .nil)))))))))))))))))))))))
/-
The pressure of sources: the call.
-/
theorem po_p0 (F : FamX) (n c : Nat) (d q0 q1 : Int) (r8 : Option ARow) (h149 : Runs Tryz.prog (envB.famX 149 9 F) 9 [.code (blk 0 (bodyOf 87))] [sl 8 0 n c, I d, U, pt 9 0, pt 10 0, pt 11 0, U, U, sl 8 0 n c, .func (.func 149) #[] #[pt 12 0], U, U, U, U, U, U, U, U, U, U] (H [r8, some (.cells [I d] 3 .var), some (.cells [I 0, I 0] 34 .var), some (.cells [I 0, I 0] 34 .var), some (.cells [sl 8 0 n c] 37 .var)]) ([sl 8 0 n c, I d, U, pt 9 0, pt 10 0, pt 11 0, U, U, sl 8 0 n c, .func (.func 149) #[] #[pt 12 0], U, U, U, U, U, U, U, U, U, U], (H [r8, some (.cells [I d] 3 .var), some (.cells [I 0, I 0] 34 .var), some (.cells [I q0, I q1] 34 .var), some (.cells [sl 8 0 n c] 37 .var), some (.loop [sl 8 0 n c, I d, U, pt 9 0, pt 10 0, pt 11 0, U, U, sl 8 0 n c, .func (.func 149) #[] #[pt 12 0], U, U, U, U, U, U, U, U, U, U] #[10, 11] (rfA (bodyB (blk 0 (bodyOf 87)))) (rfB (bodyB (blk 0 (bodyOf 87)))) .exhausted none)]), none)) : Gives Tryz.prog (envB.famX 149 9 F) 0 87 [sl 8 0 n c, I d] (H [r8]) ((.agg #[I q0, I q1]), (H [r8])) :=
  Gives.by (n := 1000) (os := [.run 87 0 [(sl 8 0 n c), I d, U, (pt 9 0), (pt 10 0), (pt 11 0), U, U, (sl 8 0 n c), (.func (.func 149) #[] #[(pt 12 0)]), U, U, U, U, U, U, U, U, U, U] (H [r8, (.some (.cells [I d] 3 .var)), (.some (.cells [I 0, I 0] 34 .var)), (.some (.cells [I q0, I q1] 34 .var)), (.some (.cells [(sl 8 0 n c)] 37 .var)), (.some (.loop [(sl 8 0 n c), I d, U, (pt 9 0), (pt 10 0), (pt 11 0), U, U, (sl 8 0 n c), (.func (.func 149) #[] #[(pt 12 0)]), U, U, U, U, U, U, U, U, U, U] #[10, 11] (rfA (bodyB (blk 0 (bodyOf 87)))) (rfB (bodyB (blk 0 (bodyOf 87)))) .exhausted .none))])]) (os' := []) (by kernel_rfl) (ObsOK.run h149 (ObsOK.nil))
/-
The pressure of sources, by the program.
-/
noncomputable def famWv (xs : List Sr) (d : Int) (c e : Nat) (u : Use) : FamX where
  ι := Unit
  ok _ := True
  args _ := [.func (.yield 13) #[] #[], pt 12 0]
  rows _ := wv_B xs d c e u 0
  val _ := U
  out _ := wv_B xs d c e u xs.length
  one _ _ _ _ _ _ := ⟨rfl, rfl⟩
theorem famWv_ok {xs : List Sr} {d : Int} {c e : Nat} {u : Use} (hb : xs.length ≤ 1000) (hD : okD d = true) : EnvOK Tryz.prog 8 (envB.famX 149 9 (famWv xs d c e u)) :=
  Env.famX_ok envB_ok fun _ _ => ⟨wv_says xs d c e u hb hD, Nat.le_refl _, fun i hi _ => by
    match i, hi with
    | 0, _ => rfl
    | 1, _ => rfl
    | 2, _ => rfl
    | 3, _ => rfl
    | 4, _ => rfl
    | 5, _ => rfl
    | 6, _ => rfl
    | 7, _ => rfl
    | 8, _ => rfl⟩
/-- The pressure, by the program. -/
noncomputable def pgX (xs : List Sr) (d : Int) : Int := (wv_at xs d 0 0 .ro xs.length).1
noncomputable def pgY (xs : List Sr) (d : Int) : Int := (wv_at xs d 0 0 .ro xs.length).2
theorem wv_same (xs : List Sr) (d : Int) (c e : Nat) (u : Use) : ∀ k, wv_at xs d c e u k = wv_at xs d 0 0 .ro k
  | 0 => rfl
  | k + 1 => by rw [wv_at_s, wv_at_s, wv_same xs d c e u k]
theorem s87 (xs : List Sr) (d : Int) (c e : Nat) (u : Use) (hb : xs.length ≤ 1000) (hD : okD d = true) : SaysAt Tryz.prog 8 87 [(sl 8 0 xs.length c), I d] (H [rS xs e u]) (.agg #[I (pgX xs d), I (pgY xs d)]) (H [rS xs e u]) := by
  refine SaysAt.of_gives prog_ok (famWv_ok (c := c) (e := e) (u := u) hb hD) (lim := 0) ?_
  have hk : (envB.famX 149 9 (famWv xs d c e u)).known 9 149 [.func (.yield 13) #[] #[], pt 12 0] (wv_B xs d c e u 0) = some (U, wv_B xs d c e u xs.length) := Env.famX_here (F := famWv xs d c e u) () trivial (Nat.le_refl 9)
  have hr := Runs.blockRF (P := Tryz.prog) (id := 0) (C := blk 0 (bodyOf 87)) (g := .tmp 9) (ps := #[10, 11]) (asg := rfA (bodyB (blk 0 (bodyOf 87)))) (bo := rfB (bodyB (blk 0 (bodyOf 87)))) (l := [(sl 8 0 xs.length c), I d, U, pt 9 0, pt 10 0, pt 11 0, U, U, (sl 8 0 xs.length c), .func (.func 149) #[] #[pt 12 0], U, U, U, U, U, U, U, U, U, U])
    (A := (H [rS xs e u, some (.cells [I d] 3 .var), some (.cells [I 0, I 0] 34 .var), some (.cells [I 0, I 0] 34 .var), some (.cells [(sl 8 0 xs.length c)] 37 .var)])) (by kernel_rfl) rfl (known_gives hk) rfl (by decide)
  have := po_p0 (famWv xs d c e u) xs.length c d (wv_at xs d c e u xs.length).1 (wv_at xs d c e u xs.length).2 (rS xs e u) hr
  unfold pgX pgY
  rw [← wv_same xs d c e u]
  exact this
/-
Lists of sources: families of calls that are known.
-/
theorem cond_tf (b : Bool) : (cond b true false) = b := by cases b <;> rfl
/-- The first number that is not 0, or 0. -/
def fstI (xs : List Int) : Int := match firstP (fun k => xs.getD k 0 != 0) 0 xs.length with
  | some k => xs.getD k 0
  | none => 0
/-- The error of a source, and the first one of sources, by the reference. -/
def rcE (s : Sr) : Int := rcs24_r0 s.x s.y s.g s.p
def fstR (xs : List Sr) : Int := match firstP (fun k => rcE (xs.getD k s0) != 0) 0 xs.length with
  | some k => rcE (xs.getD k s0)
  | none => 0
theorem fi_says' (xs : List Int) (c e : Nat) (u : Use) (hb : xs.length ≤ 1000) : SaysAt Tryz.prog 8 84 [sl 8 0 xs.length c] (n8 [rI xs e u]) (I (fstI xs)) (n8 [rI xs e u]) := by
  have h : SaysAt Tryz.prog 8 84 [sl 8 0 xs.length c] (n8 [rI xs e u]) (ofP (firstP (fi_p xs c e u) 0 xs.length) (fi_v xs c e u) (I 0)) (n8 [rI xs e u]) := fi_says xs c e u hb
  have e1 : ofP (firstP (fi_p xs c e u) 0 xs.length) (fi_v xs c e u) (I 0) = I (fstI xs) := by
    rw [firstP_congr (p := fi_p xs c e u) (q := fun k => xs.getD k 0 != 0) (fun j _ _ => by unfold fi_p; exact cond_tf _)]
    unfold fstI
    cases firstP (fun k => xs.getD k 0 != 0) 0 xs.length <;> rfl
  rw [e1] at h
  exact h
theorem rc_says' (xs : List Sr) (c e : Nat) (u : Use) (hb : xs.length ≤ 16) : SaysAt Tryz.prog 8 25 [sl 8 0 xs.length c] (n8 [rS xs e u]) (I (fstR xs)) (n8 [rS xs e u]) := by
  have h : SaysAt Tryz.prog 8 25 [sl 8 0 xs.length c] (n8 [rS xs e u]) (ofP (firstP (rc_p xs c e u) 0 xs.length) (rc_v xs c e u) (I 0)) (n8 [rS xs e u]) := rc_says xs c e u hb
  have e1 : ofP (firstP (rc_p xs c e u) 0 xs.length) (rc_v xs c e u) (I 0) = I (fstR xs) := by
    rw [firstP_congr (p := rc_p xs c e u) (q := fun k => rcE (xs.getD k s0) != 0) (fun j _ _ => by unfold rc_p; exact cond_tf _)]
    unfold fstR
    cases firstP (fun k => rcE (xs.getD k s0) != 0) 0 xs.length <;> rfl
  rw [e1] at h
  exact h
def chkR (xs : List Sr) : Int := if xs.length > 16 then 5 else fstR xs
theorem rc_all (xs : List Sr) (c e : Nat) (u : Use) : SaysAt Tryz.prog 8 25 [sl 8 0 xs.length c] (n8 [rS xs e u]) (I (chkR xs)) (n8 [rS xs e u]) := by
  unfold chkR
  by_cases h : xs.length > 16
  · rw [if_pos h]; exact SaysAt.of_gives prog_ok envB_ok (rcb_p0 xs.length c _ (decide_eq_true (by omega)))
  · rw [if_neg h]; exact rc_says' xs c e u (by omega)
def shortB (n : Nat) (k : Int) : Bool := decide ((n : Int) ≤ k) || ((n : Int) == 17)
theorem sh_all (xs : List Sr) (k : Int) (c e : Nat) (u : Use) : SaysAt Tryz.prog 8 16 [sl 8 0 xs.length c, I k] (n8 [rS xs e u]) (.bool (shortB xs.length k)) (n8 [rS xs e u]) := by
  unfold shortB
  cases h : decide ((xs.length : Int) ≤ k) with
  | true => exact SaysAt.of_gives prog_ok envB_ok (shA_p0 xs.length c k _ h)
  | false =>
    rw [Bool.false_or]
    cases h2 : ((xs.length : Int) == 17) with
    | true => have := SaysAt.of_gives prog_ok envB_ok (shB_p0 xs.length c k (rS xs e u) h h2); rw [h2] at this; exact this
    | false => have := SaysAt.of_gives prog_ok envB_ok (shC_p0 xs.length c k (rS xs e u) h h2); rw [h2] at this; exact this
theorem fj_says' (xs : List Int) (c e : Nat) (u : Use) (hb : xs.length ≤ 1000) : SaysAt Tryz.prog 8 23 [sl 8 0 xs.length c] (n8 [rI xs e u]) (I (fstI xs)) (n8 [rI xs e u]) := by
  have h := fj_says xs c e u hb
  have e1 : ofP (firstP (fj_p xs c e u) 0 xs.length) (fj_v xs c e u) (I 0) = I (fstI xs) := by
    rw [firstP_congr (p := fj_p xs c e u) (q := fun k => xs.getD k 0 != 0) (fun j _ _ => by unfold fj_p; exact cond_tf _)]
    unfold fstI
    cases firstP (fun k => xs.getD k 0 != 0) 0 xs.length <;> rfl
  rw [e1] at h
  exact h
/-- The pressure, by the reference. -/
noncomputable def rgX (xs : List Sr) (d : Int) : Int := (pr_at xs d 0 0 .ro xs.length).1
noncomputable def rgY (xs : List Sr) (d : Int) : Int := (pr_at xs d 0 0 .ro xs.length).2
theorem pr_same (xs : List Sr) (d : Int) (c e : Nat) (u : Use) : ∀ k, pr_at xs d c e u k = pr_at xs d 0 0 .ro k
  | 0 => rfl
  | k + 1 => by rw [pr_at_s, pr_at_s, pr_same xs d c e u k]
theorem pr_says' (xs : List Sr) (d : Int) (c e : Nat) (u : Use) (hb : xs.length ≤ 1000) (hD : okD d = true) : SaysAt Tryz.prog 8 28 [sl 8 0 xs.length c, I d] (n8 [rS xs e u]) (.agg #[I (rgX xs d), I (rgY xs d)]) (n8 [rS xs e u]) := by
  have h := pr_says xs d c e u hb hD
  unfold rgX rgY
  rw [← pr_same xs d c e u]
  exact h
structure fam20I where
  (xs : List Sr)
  (c : Nat)
  (e : Nat)
  (u : Use)
noncomputable def fam20 : Fam where
  ι := fam20I
  ok i := 1 ≤ i.xs.length ∧ i.xs.length ≤ 1000
  args i := [sl 8 0 i.xs.length i.c]
  rows i := [rS i.xs i.e i.u]
  val i := sl 9 0 i.xs.length i.xs.length
  new i := [rS i.xs 32 .row]
  one i j _ _ h1 h2 := by
    obtain ⟨xs, c, e, u⟩ := i
    obtain ⟨ys, c', e', u'⟩ := j
    simp only [List.cons.injEq, Option.some.injEq, ARow.cells.injEq, and_true] at h2
    obtain rfl := srs_inj h2.1
    exact ⟨rfl, rfl⟩
structure fam90I where
  (xs : List Sr)
  (c : Nat)
  (e : Nat)
  (u : Use)
noncomputable def fam90 : Fam where
  ι := fam90I
  ok i := i.xs.length ≤ 1000
  args i := [sl 8 0 i.xs.length i.c, .func (.func 85) #[] #[]]
  rows i := [rS i.xs i.e i.u]
  val i := sl 9 0 i.xs.length i.xs.length
  new i := [rI (i.xs.map csE) 27 .row]
  one i j _ _ h1 h2 := by
    obtain ⟨xs, c, e, u⟩ := i
    obtain ⟨ys, c', e', u'⟩ := j
    simp only [List.cons.injEq, Option.some.injEq, ARow.cells.injEq, and_true] at h2
    obtain rfl := srs_inj h2.1
    exact ⟨rfl, rfl⟩
structure fam84I where
  (xs : List Int)
  (c : Nat)
  (e : Nat)
  (u : Use)
noncomputable def fam84 : Fam where
  ι := fam84I
  ok i := i.xs.length ≤ 1000
  args i := [sl 8 0 i.xs.length i.c]
  rows i := [rI i.xs i.e i.u]
  val i := I (fstI i.xs)
  new i := []
  one i j _ _ h1 h2 := by
    obtain ⟨xs, c, e, u⟩ := i
    obtain ⟨ys, c', e', u'⟩ := j
    simp only [List.cons.injEq, Option.some.injEq, ARow.cells.injEq, and_true] at h2
    obtain rfl := ints_inj h2.1
    exact ⟨rfl, rfl⟩
structure fam25I where
  (xs : List Sr)
  (c : Nat)
  (e : Nat)
  (u : Use)
noncomputable def fam25 : Fam where
  ι := fam25I
  ok i := True
  args i := [sl 8 0 i.xs.length i.c]
  rows i := [rS i.xs i.e i.u]
  val i := I (chkR i.xs)
  new i := []
  one i j _ _ h1 h2 := by
    obtain ⟨xs, c, e, u⟩ := i
    obtain ⟨ys, c', e', u'⟩ := j
    simp only [List.cons.injEq, Option.some.injEq, ARow.cells.injEq, and_true] at h2
    obtain rfl := srs_inj h2.1
    exact ⟨rfl, rfl⟩
structure fam16I where
  (xs : List Sr)
  (d : Int)
  (c : Nat)
  (e : Nat)
  (u : Use)
noncomputable def fam16 : Fam where
  ι := fam16I
  ok i := True
  args i := [sl 8 0 i.xs.length i.c, I i.d]
  rows i := [rS i.xs i.e i.u]
  val i := .bool (shortB i.xs.length i.d)
  new i := []
  one i j _ _ h1 h2 := by
    obtain ⟨xs, d, c, e, u⟩ := i
    obtain ⟨ys, d', c', e', u'⟩ := j
    simp only [List.cons.injEq, Option.some.injEq, ARow.cells.injEq, and_true] at h2
    simp only [List.cons.injEq, Value.int.injEq, true_and, and_true] at h1
    obtain rfl := srs_inj h2.1
    obtain rfl := h1.2
    exact ⟨rfl, rfl⟩
structure fam23I where
  (xs : List Int)
  (c : Nat)
  (e : Nat)
  (u : Use)
noncomputable def fam23 : Fam where
  ι := fam23I
  ok i := i.xs.length ≤ 1000
  args i := [sl 8 0 i.xs.length i.c]
  rows i := [rI i.xs i.e i.u]
  val i := I (fstI i.xs)
  new i := []
  one i j _ _ h1 h2 := by
    obtain ⟨xs, c, e, u⟩ := i
    obtain ⟨ys, c', e', u'⟩ := j
    simp only [List.cons.injEq, Option.some.injEq, ARow.cells.injEq, and_true] at h2
    obtain rfl := ints_inj h2.1
    exact ⟨rfl, rfl⟩
structure fam28I where
  (xs : List Sr)
  (d : Int)
  (c : Nat)
  (e : Nat)
  (u : Use)
noncomputable def fam28 : Fam where
  ι := fam28I
  ok i := i.xs.length ≤ 1000 ∧ okD i.d = true
  args i := [sl 8 0 i.xs.length i.c, I i.d]
  rows i := [rS i.xs i.e i.u]
  val i := .agg #[I (rgX i.xs i.d), I (rgY i.xs i.d)]
  new i := []
  one i j _ _ h1 h2 := by
    obtain ⟨xs, d, c, e, u⟩ := i
    obtain ⟨ys, d', c', e', u'⟩ := j
    simp only [List.cons.injEq, Option.some.injEq, ARow.cells.injEq, and_true] at h2
    simp only [List.cons.injEq, Value.int.injEq, true_and, and_true] at h1
    obtain rfl := srs_inj h2.1
    obtain rfl := h1.2
    exact ⟨rfl, rfl⟩
structure fam87I where
  (xs : List Sr)
  (d : Int)
  (c : Nat)
  (e : Nat)
  (u : Use)
noncomputable def fam87 : Fam where
  ι := fam87I
  ok i := i.xs.length ≤ 1000 ∧ okD i.d = true
  args i := [sl 8 0 i.xs.length i.c, I i.d]
  rows i := [rS i.xs i.e i.u]
  val i := .agg #[I (pgX i.xs i.d), I (pgY i.xs i.d)]
  new i := []
  one i j _ _ h1 h2 := by
    obtain ⟨xs, d, c, e, u⟩ := i
    obtain ⟨ys, d', c', e', u'⟩ := j
    simp only [List.cons.injEq, Option.some.injEq, ARow.cells.injEq, and_true] at h2
    simp only [List.cons.injEq, Value.int.injEq, true_and, and_true] at h1
    obtain rfl := srs_inj h2.1
    obtain rfl := h1.2
    exact ⟨rfl, rfl⟩
noncomputable def envC : Env := ((((((((envB.fam 8 heapN 20 fam20).fam 8 heapN 90 fam90).fam 8 heapN 84 fam84).fam 8 heapN 25 fam25).fam 8 heapN 16 fam16).fam 8 heapN 23 fam23).fam 8 heapN 28 fam28).fam 8 heap0 87 fam87)
theorem envC_ok : EnvOK Tryz.prog 8 envC := (Env.fam_ok (T := heap0) (f0 := 87) (F := fam87) (Env.fam_ok (T := heapN) (f0 := 28) (F := fam28) (Env.fam_ok (T := heapN) (f0 := 23) (F := fam23) (Env.fam_ok (T := heapN) (f0 := 16) (F := fam16) (Env.fam_ok (T := heapN) (f0 := 25) (F := fam25) (Env.fam_ok (T := heapN) (f0 := 84) (F := fam84) (Env.fam_ok (T := heapN) (f0 := 90) (F := fam90) (Env.fam_ok (T := heapN) (f0 := 20) (F := fam20) envB_ok (by decide) (by decide) fun i hi => ow_says i.xs i.c i.e i.u hi.2 hi.1) (by decide) (by decide) fun i hi => mp_says i.xs i.c i.e i.u hi) (by decide) (by decide) fun i hi => fi_says' i.xs i.c i.e i.u hi) (by decide) (by decide) fun i hi => rc_all i.xs i.c i.e i.u) (by decide) (by decide) fun i hi => sh_all i.xs i.d i.c i.e i.u) (by decide) (by decide) fun i hi => fj_says' i.xs i.c i.e i.u hi) (by decide) (by decide) fun i hi => pr_says' i.xs i.d i.c i.e i.u hi.1 hi.2) (by decide) (by decide) fun i hi => s87 i.xs i.d i.c i.e i.u hi.1 hi.2)
/-
Rounds of loops.
-/
theorem ca_p0 (n c : Nat) (r8 : Option ARow) (f0 : decide ((n : Int) > 16) = true) : Gives Tryz.prog envC 0 29 [sl 8 0 n c] (n8 [r8]) ((I 5), (n8 [r8])) :=
  Gives.by (n := 1000) (os := [.br 29 12 true]) (os' := []) (by kernel_rfl) (ObsOK.cond f0 (ObsOK.nil))
theorem cb_p0 (n c : Nat) (r8 rq : Option ARow) (q : Int) (f0 : decide ((n : Int) > 16) = false) (h90 : ∀ (lim : Nat) (A : Heap), hget A 8 = r8 → Gives Tryz.prog envC lim 90 [sl 8 0 n c, .func (.func 85) #[] #[]] A (.slice (some ⟨A.length, 0, none⟩) n n, A ++ [rq])) (h84 : ∀ (lim : Nat) (A : Heap), hget A 9 = rq → Gives Tryz.prog envC lim 84 [sl 9 0 n n] A (I q, A)) : Gives Tryz.prog envC 0 29 [sl 8 0 n c] (n8 [r8]) ((I q), (n8 [r8])) :=
  Gives.by (n := 1000) (os := [.br 29 12 false, .opw 29 8 (sl 9 0 n n) (n8 [r8, rq]), .opw 29 9 (I q) (n8 [r8, rq])]) (os' := []) (by kernel_rfl) (ObsOK.cond f0 (ObsOK.call (h90 9 (n8 [r8]) (by kernel_rfl)) (ObsOK.call (h84 9 (n8 [r8, rq]) (by kernel_rfl)) (ObsOK.nil))))
/-
Rounds of loops.
-/
theorem pae_p0 (x y g p d q : Int) (h84 : ∀ (lim : Nat) (A : Heap), hget A 9 = some (.cells [I (cs85_r0 x y g p), I (cd83_r0 d)] 27 .row) → Gives Tryz.prog envC lim 84 [sl 9 0 2 2] A (I q, A)) (f1 : (q != 0) = true) : Gives Tryz.prog envC 0 18 [.agg #[I x, I y, I g, I p], I d] (H []) ((.tuple #[I 0, I q]), (H [])) :=
  Gives.by (n := 1000) (os := [.opw 18 13 (I q) (H [(.some (.cells [I x, I y, I g, I p] 32 .var)), (.some (.cells [(I (cs85_r0 x y g p)), (I (cd83_r0 d))] 27 .row))]), .br 18 30 true]) (os' := []) (by kernel_rfl) (ObsOK.call (h84 8 (H [(.some (.cells [I x, I y, I g, I p] 32 .var)), (.some (.cells [(I (cs85_r0 x y g p)), (I (cd83_r0 d))] 27 .row))]) (by kernel_rfl)) (ObsOK.cond f1 (ObsOK.nil)))
theorem pao_p0 (x y g p d q : Int) (h84 : ∀ (lim : Nat) (A : Heap), hget A 9 = some (.cells [I (cs85_r0 x y g p), I (cd83_r0 d)] 27 .row) → Gives Tryz.prog envC lim 84 [sl 9 0 2 2] A (I q, A)) (f1 : (q != 0) = false) (h86 : ∀ (lim : Nat) (A : Heap), startsB heap0 A = true → Gives Tryz.prog envC lim 86 [.agg #[I x, I y, I g, I p], I d] A (I (paF x y d), A)) : Gives Tryz.prog envC 0 18 [.agg #[I x, I y, I g, I p], I d] (H []) ((.tuple #[(I (paF x y d)), I 0]), (H [])) :=
  Gives.by (n := 1000) (os := [.opw 18 13 (I q) (H [(.some (.cells [I x, I y, I g, I p] 32 .var)), (.some (.cells [(I (cs85_r0 x y g p)), (I (cd83_r0 d))] 27 .row))]), .br 18 30 false, .opw 18 19 (I (paF x y d)) (H [(.some (.cells [I x, I y, I g, I p] 32 .var)), (.some (.cells [(I (cs85_r0 x y g p)), (I (cd83_r0 d))] 27 .row))])]) (os' := []) (by kernel_rfl) (ObsOK.call (h84 8 (H [(.some (.cells [I x, I y, I g, I p] 32 .var)), (.some (.cells [(I (cs85_r0 x y g p)), (I (cd83_r0 d))] 27 .row))]) (by kernel_rfl)) (ObsOK.cond f1 (ObsOK.call (h86 8 (H [(.some (.cells [I x, I y, I g, I p] 32 .var)), (.some (.cells [(I (cs85_r0 x y g p)), (I (cd83_r0 d))] 27 .row))]) (by kernel_rfl)) (ObsOK.nil))))
/-
Lists of sources: contracts wherever a list lies; the checks of sources.
-/
theorem kenvC_20_8 (i : fam20I) (hi : fam20.ok i) (lim : Nat) (A : Heap) (hA : [hget A 8] = fam20.rows i) : Gives Tryz.prog envC lim 20 [sl 8 0 i.xs.length i.c] A (.slice (some ⟨A.length, 0, none⟩) i.xs.length i.xs.length, A ++ fam20.new i) := by
  have hA : hget A 8 = _ := (List.cons.inj hA).1
  have hlen := hget_lt hA
  have h := Env.fam_here (E := envB) (G := 8) (T := heapN) (f0 := 20) (lim := lim) (F := fam20) (args := [sl 8 0 i.xs.length i.c]) (A := A) (ids := [8]) (v' := .slice (some ⟨A.length, 0, none⟩) i.xs.length i.xs.length) i hi rfl rfl (rowsS hA) (starts8 (by omega)) rfl rfl rfl (by simp [fam20, plainRow, srs_atoms])
  exact known_gives ((Env.fam_skip rfl).trans ((Env.fam_skip rfl).trans ((Env.fam_skip rfl).trans ((Env.fam_skip rfl).trans ((Env.fam_skip rfl).trans ((Env.fam_skip rfl).trans ((Env.fam_skip rfl).trans (h))))))))
theorem kenvC_90_8 (i : fam90I) (hi : fam90.ok i) (lim : Nat) (A : Heap) (hA : [hget A 8] = fam90.rows i) : Gives Tryz.prog envC lim 90 [sl 8 0 i.xs.length i.c, .func (.func 85) #[] #[]] A (.slice (some ⟨A.length, 0, none⟩) i.xs.length i.xs.length, A ++ fam90.new i) := by
  have hA : hget A 8 = _ := (List.cons.inj hA).1
  have hlen := hget_lt hA
  have h := Env.fam_here (E := (envB.fam 8 heapN 20 fam20)) (G := 8) (T := heapN) (f0 := 90) (lim := lim) (F := fam90) (args := [sl 8 0 i.xs.length i.c, .func (.func 85) #[] #[]]) (A := A) (ids := [8]) (v' := .slice (some ⟨A.length, 0, none⟩) i.xs.length i.xs.length) i hi rfl rfl (rowsS hA) (starts8 (by omega)) rfl rfl rfl (by simp [fam90, plainRow, ints_atoms])
  exact known_gives ((Env.fam_skip rfl).trans ((Env.fam_skip rfl).trans ((Env.fam_skip rfl).trans ((Env.fam_skip rfl).trans ((Env.fam_skip rfl).trans ((Env.fam_skip rfl).trans (h)))))))
theorem kenvC_84_9 (i : fam84I) (hi : fam84.ok i) (lim : Nat) (A : Heap) (hA : [hget A 9] = fam84.rows i) : Gives Tryz.prog envC lim 84 [sl 9 0 i.xs.length i.c] A (I (fstI i.xs), A) := by
  have hA : hget A 9 = _ := (List.cons.inj hA).1
  have hlen := hget_lt hA
  have h := Env.fam_here (E := ((envB.fam 8 heapN 20 fam20).fam 8 heapN 90 fam90)) (G := 8) (T := heapN) (f0 := 84) (lim := lim) (F := fam84) (args := [sl 9 0 i.xs.length i.c]) (A := A) (ids := [9]) (v' := I (fstI i.xs)) i hi rfl rfl (rowsI hA) (starts8 (by omega)) rfl rfl rfl rfl
  rw [show A ++ fam84.new i = A from List.append_nil A] at h
  exact known_gives ((Env.fam_skip rfl).trans ((Env.fam_skip rfl).trans ((Env.fam_skip rfl).trans ((Env.fam_skip rfl).trans ((Env.fam_skip rfl).trans (h))))))
theorem kenvC_84_10 (i : fam84I) (hi : fam84.ok i) (lim : Nat) (A : Heap) (hA : [hget A 10] = fam84.rows i) : Gives Tryz.prog envC lim 84 [sl 10 0 i.xs.length i.c] A (I (fstI i.xs), A) := by
  have hA : hget A 10 = _ := (List.cons.inj hA).1
  have hlen := hget_lt hA
  have h := Env.fam_here (E := ((envB.fam 8 heapN 20 fam20).fam 8 heapN 90 fam90)) (G := 8) (T := heapN) (f0 := 84) (lim := lim) (F := fam84) (args := [sl 10 0 i.xs.length i.c]) (A := A) (ids := [10]) (v' := I (fstI i.xs)) i hi rfl rfl (rowsI hA) (starts8 (by omega)) rfl rfl rfl rfl
  rw [show A ++ fam84.new i = A from List.append_nil A] at h
  exact known_gives ((Env.fam_skip rfl).trans ((Env.fam_skip rfl).trans ((Env.fam_skip rfl).trans ((Env.fam_skip rfl).trans ((Env.fam_skip rfl).trans (h))))))
def fst2 (a b : Int) : Int := fstI [a, b]
theorem fst2_eq (a b : Int) : fst2 a b = if a != 0 then a else b := by
  unfold fst2 fstI
  simp only [firstP, List.length_cons, List.length_nil]
  cases h : (a != 0) with
  | true => simp [h]
  | false =>
    cases h2 : (b != 0) with
    | true => simp [h, h2]
    | false => have := eq_of_beq (by simpa using h2 : (b == 0) = true); simp [h, h2, this]
/-- The error of sources, by the program. -/
def chkP (xs : List Sr) : Int := if xs.length > 16 then 5 else fstI (xs.map csE)
theorem ca_says (xs : List Sr) (c e : Nat) (u : Use) (hb : xs.length ≤ 1000) : SaysAt Tryz.prog 8 29 [sl 8 0 xs.length c] (n8 [rS xs e u]) (I (chkP xs)) (n8 [rS xs e u]) := by
  unfold chkP
  by_cases h : xs.length > 16
  · rw [if_pos h]; exact SaysAt.of_gives prog_ok envC_ok (ca_p0 xs.length c _ (decide_eq_true (by omega)))
  · rw [if_neg h]
    refine SaysAt.of_gives prog_ok envC_ok (cb_p0 xs.length c (rS xs e u) (rI (xs.map csE) 27 .row) (fstI (xs.map csE)) (decide_eq_false (by omega)) (fun lim A hA => ?_) (fun lim A hA => ?_))
    · exact kenvC_90_8 ⟨xs, c, e, u⟩ hb lim A (by rw [hA]; rfl)
    · have := kenvC_84_9 ⟨xs.map csE, xs.length, 27, .row⟩ (by show (xs.map csE).length ≤ 1000; rw [List.length_map]; exact hb) lim A (by rw [hA]; rfl)
      rw [show (xs.map csE).length = xs.length from List.length_map _] at this
      exact this
/-- A path and its error. -/
def paE (x y g p d : Int) : Int := fst2 (cs85_r0 x y g p) (cd83_r0 d)
def paV (x y g p d : Int) : Int := if (paE x y g p d != 0) = true then 0 else paF x y d
theorem h84b {a b lim : Int} {l r : Nat} {A : Heap} (hr : r = 9 ∨ r = 10) (hA : hget A r = some (.cells [I a, I b] 27 .row)) : Gives Tryz.prog envC l 84 [.slice (some ⟨r, 0, none⟩) 2 2] A (I (fst2 a b), A) := by
  rcases hr with rfl | rfl
  · exact kenvC_84_9 ⟨[a, b], 2, 27, .row⟩ (show (2 : Nat) ≤ 1000 by decide) l A (by rw [hA]; rfl)
  · exact kenvC_84_10 ⟨[a, b], 2, 27, .row⟩ (show (2 : Nat) ≤ 1000 by decide) l A (by rw [hA]; rfl)
theorem okD_of {a d : Int} (h : (fst2 a (cd83_r0 d) != 0) = false) : okD d = true := by
  rw [fst2_eq] at h
  cases ha : (a != 0) with
  | true => rw [ha, if_pos rfl, ha] at h; cases h
  | false =>
    rw [ha, if_neg (by decide), cd83_eq] at h
    unfold eD at h
    cases hd : okD d with
    | true => rfl
    | false => rw [hd] at h; cases h
theorem k86C {x y g p d : Int} (h : okD d = true) : ∀ (lim : Nat) (A : Heap), startsB heap0 A = true → Gives Tryz.prog envC lim 86 [.agg #[I x, I y, I g, I p], I d] A (I (paF x y d), A) := fun lim A hs => by
  have hk : envB.known lim 86 [.agg #[I x, I y, I g, I p], I d] A = some (I (paF x y d), A) := by
    have hB : B_envB 86 [.agg #[I x, I y, I g, I p], I d] = some (heap0, I (paF x y d)) := by show (if okD d = true then some (heap0, Value.int .i64 (paF x y d)) else none) = _; rw [if_pos h]
    simp only [envB, Env.with, baseKnown, hB, hs]
    rfl
  exact known_gives (((Env.fam_skip rfl).trans ((Env.fam_skip rfl).trans ((Env.fam_skip rfl).trans ((Env.fam_skip rfl).trans ((Env.fam_skip rfl).trans ((Env.fam_skip rfl).trans ((Env.fam_skip rfl).trans ((Env.fam_skip rfl).trans (hk))))))))))
theorem pa_says (x y g p d : Int) : SaysAt Tryz.prog 8 18 [.agg #[I x, I y, I g, I p], I d] heap0 (.tuple #[I (paV x y g p d), I (paE x y g p d)]) heap0 := by
  unfold paV
  cases h : (paE x y g p d != 0) with
  | true => rw [if_pos rfl]; exact SaysAt.of_gives prog_ok envC_ok (pae_p0 x y g p d _ (fun lim A hA => h84b (lim := 0) (.inl rfl) hA) h)
  | false =>
    have hz : paE x y g p d = 0 := by simpa using h
    have := SaysAt.of_gives prog_ok envC_ok (pao_p0 x y g p d _ (fun lim A hA => h84b (lim := 0) (.inl rfl) hA) h (k86C (okD_of h)))
    rw [if_neg (by decide), hz]; exact this
/-
Checks of sources are known.
-/
theorem kn_skip {E : Env} {B : FuncId → List Value → Option (Heap × Value)} {lim : Nat} {f : FuncId} {args : List Value} {A : Heap} (h : B f args = none) : (E.with (baseKnown B)).known lim f args A = E.known lim f args A := by
  simp only [Env.with, baseKnown, h]
def B_envC1 (f : FuncId) (args : List Value) : Option (Heap × Value) :=
  if f == 18 then
    match args with
    | [.agg ⟨[.int .i64 x, .int .i64 y, .int .i64 g, .int .i64 p]⟩, .int .i64 d] => some (heap0, .tuple #[.int .i64 (paV x y g p d), .int .i64 (paE x y g p d)])
    | _ => none
  else none
noncomputable def envC1 : Env := envC.with (baseKnown B_envC1)
theorem envC1_ok : EnvOK Tryz.prog 8 envC1 := env_base' envC_ok fun f args H v h => by
  unfold B_envC1 at h
  split at h
  · rename_i hf
    have hf : f = 18 := by simpa using hf
    subst hf
    split at h
    · cases h; exact heap0_sok (pa_says _ _ _ _ _)
    · cases h
  · skip
    cases h
structure fam29I where
  (xs : List Sr)
  (c : Nat)
  (e : Nat)
  (u : Use)
noncomputable def fam29 : Fam where
  ι := fam29I
  ok i := i.xs.length ≤ 1000
  args i := [sl 8 0 i.xs.length i.c]
  rows i := [rS i.xs i.e i.u]
  val i := I (chkP i.xs)
  new i := []
  one i j _ _ h1 h2 := by
    obtain ⟨xs, c, e, u⟩ := i
    obtain ⟨ys, c', e', u'⟩ := j
    simp only [List.cons.injEq, Option.some.injEq, ARow.cells.injEq, and_true] at h2
    obtain rfl := srs_inj h2.1
    exact ⟨rfl, rfl⟩
noncomputable def envC2 : Env := envC1.fam 8 heapN 29 fam29
theorem envC2_ok : EnvOK Tryz.prog 8 envC2 := Env.fam_ok (T := heapN) (f0 := 29) (F := fam29) envC1_ok (by decide) (by decide) fun i hi => ca_says i.xs i.c i.e i.u hi
/-
A list told: pieces.
-/
theorem toq0_p0  (n c : Nat) (r8 : Option ARow) : Runs Tryz.prog envB 9 [.code (codeL (bodyOf 77))] [sl 8 0 n c, U, U, U, U, U, U, U, U, U, U, U, U, U, U, U, U, U] (n8 [r8]) ([(sl 8 0 n c), U, (.slice .none 0 0), U, U, U, U, U, U, U, U, U, U, U, U, U, U, U], (n8 [r8]), none) :=
  Runs.by (n := 1000) (fid := 77) (os := []) (os' := []) (by kernel_rfl) (ObsOK.nil)
theorem toq1_p0  (n c : Nat) (r8 : Option ARow) : Runs Tryz.prog envB 9 [.code (codeL (codeR (bodyOf 77)))] [(sl 8 0 n c), U, (.slice .none 0 0), U, U, U, U, U, U, U, U, U, U, U, U, U, U, U] (n8 [r8]) ([(sl 8 0 n c), U, (.slice .none 0 0), (.slice .none 0 0), U, U, U, U, U, U, U, U, U, U, U, U, U, U], (n8 [r8]), none) :=
  Runs.by (n := 1000) (fid := 77) (os := []) (os' := []) (by kernel_rfl) (ObsOK.nil)
theorem toq2_p0  (n c : Nat) (r8 : Option ARow) : Runs Tryz.prog envB 9 [.code (codeL (codeL (codeR (codeR (bodyOf 77)))))] [(sl 8 0 n c), U, (.slice .none 0 0), (.slice .none 0 0), U, U, U, U, U, U, U, U, U, U, U, U, U, U] (n8 [r8]) ([(sl 8 0 n c), U, (.slice .none 0 0), (.slice .none 0 0), U, U, (sl 8 0 n c), (I ((n : Int))), I 0, U, U, U, U, U, U, U, U, U], (n8 [r8]), none) :=
  Runs.by (n := 1000) (fid := 77) (os := []) (os' := []) (by kernel_rfl) (ObsOK.nil)
theorem toA0_p0 (v0 v1 v2 v4 v5 v9 v10 v11 v12 v13 v14 v15 v16 v17 : Value) (mm : Nat) (cs cs2 : List Value) (n c : Nat) (r8 : Option ARow) (i : Int) (k8 : Nat) (z8x z8y z8g z8p : Int) (hx8 : aIndexAddr Tryz.prog 37 (sl 8 0 n c) (I i) = some (pt 8 k8)) (hl8 : aLoad Tryz.prog 32 (pt 8 k8) (n8 [r8, some (.cells cs 24 .row)]) = some (.agg #[I z8x, I z8y, I z8g, I z8p])) (ha : aAppend Tryz.prog 9 #[22, 22] (sl 9 0 mm mm) (sl 11 0 1 1) (n8 [r8, (.some (.cells cs 24 .row)), (.some (.cells [I z8x, I z8y, I z8g, I z8p] 32 .var)), (.some (.cells [I z8x, I z8y, I z8g, I z8p] 24 .row))]) = some (sl 12 0 (mm + 1) (mm + 1), (n8 [r8, none, (.some (.cells [I z8x, I z8y, I z8g, I z8p] 32 .var)), (.some (.cells [I z8x, I z8y, I z8g, I z8p] 24 .row)), some (.cells cs2 24 .row)]))) (f1 : decide (i < ((n : Int))) = true) : Runs Tryz.prog envB 9 [.code (round 0 (bodyOf 77))] [v0, v1, v2, sl 9 0 mm mm, v4, v5, (sl 8 0 n c), (I ((n : Int))), I i, v9, v10, v11, v12, v13, v14, v15, v16, v17] (n8 [r8, some (.cells cs 24 .row)]) ([v0, v1, v2, (sl 12 0 (mm + 1) (mm + 1)), v4, (pt 10 0), (sl 8 0 n c), (I ((n : Int))), (I (IntKind.i64.wrap (i + 1))), (.bool (decide (i < (n : Int)))), (pt 8 k8), (.agg #[I z8x, I z8y, I z8g, I z8p]), (sl 9 0 mm mm), (.agg #[I z8x, I z8y, I z8g, I z8p]), (sl 11 0 1 1), (sl 12 0 (mm + 1) (mm + 1)), (I (IntKind.i64.wrap (i + 1))), v17], (n8 [r8, .none, (.some (.cells [I z8x, I z8y, I z8g, I z8p] 32 .var)), (.some (.cells [I z8x, I z8y, I z8g, I z8p] 24 .row)), (.some (.cells cs2 24 .row))]), none) :=
  Runs.by (n := 1000) (fid := 77) (os := [.br 77 20 true, .op 77 11 (pt 8 k8), .op 77 12 (.agg #[I z8x, I z8y, I z8g, I z8p]), .opw 77 16 (sl 12 0 (mm + 1) (mm + 1)) (n8 [r8, .none, (.some (.cells [I z8x, I z8y, I z8g, I z8p] 32 .var)), (.some (.cells [I z8x, I z8y, I z8g, I z8p] 24 .row)), (.some (.cells cs2 24 .row))])]) (os' := []) (by kernel_rfl) (ObsOK.cond f1 (ObsOK.val hx8 (ObsOK.val hl8 (ObsOK.both ha (ObsOK.nil)))))
theorem toC_p0 (v0 v1 v2 v4 v5 v9 v10 v11 v12 v13 v14 v15 v16 v17 : Value) (mm : Nat) (cs cs2 : List Value) (n c : Nat) (r8 : Option ARow) (i : Int) (f1 : decide (i < ((n : Int))) = false) : Runs Tryz.prog envB 9 [.code (round 0 (bodyOf 77)), .inLoop (round 0 (bodyOf 77)), .inBlock 0] [v0, v1, v2, sl 9 0 mm mm, v4, v5, (sl 8 0 n c), (I ((n : Int))), I i, v9, v10, v11, v12, v13, v14, v15, v16, v17] (n8 [r8, some (.cells cs 24 .row)]) ([v0, v1, v2, (sl 9 0 mm mm), v4, v5, (sl 8 0 n c), (I ((n : Int))), I i, (.bool (decide (i < (n : Int)))), v10, v11, v12, v13, v14, v15, v16, v17], (n8 [r8, (.some (.cells cs 24 .row))]), none) :=
  Runs.by (n := 1000) (fid := 77) (os := [.br 77 20 false]) (os' := []) (by kernel_rfl) (ObsOK.cond f1 (ObsOK.nil))
theorem tonA0_p0 (v0 v1 v2 v4 v5 v9 v10 v11 v12 v13 v14 v15 v16 v17 : Value) (n c : Nat) (r8 : Option ARow) (i : Int) (k8 : Nat) (z8x z8y z8g z8p : Int) (hx8 : aIndexAddr Tryz.prog 37 (sl 8 0 n c) (I i) = some (pt 8 k8)) (hl8 : aLoad Tryz.prog 32 (pt 8 k8) (n8 [r8]) = some (.agg #[I z8x, I z8y, I z8g, I z8p])) (f1 : decide (i < ((n : Int))) = true) : Runs Tryz.prog envB 9 [.code (round 0 (bodyOf 77))] [v0, v1, v2, .slice none 0 0, v4, v5, (sl 8 0 n c), (I ((n : Int))), I i, v9, v10, v11, v12, v13, v14, v15, v16, v17] (n8 [r8]) ([v0, v1, v2, (sl 11 0 1 1), v4, (pt 9 0), (sl 8 0 n c), (I ((n : Int))), (I (IntKind.i64.wrap (i + 1))), (.bool (decide (i < (n : Int)))), (pt 8 k8), (.agg #[I z8x, I z8y, I z8g, I z8p]), (.slice .none 0 0), (.agg #[I z8x, I z8y, I z8g, I z8p]), (sl 10 0 1 1), (sl 11 0 1 1), (I (IntKind.i64.wrap (i + 1))), v17], (n8 [r8, (.some (.cells [I z8x, I z8y, I z8g, I z8p] 32 .var)), (.some (.cells [I z8x, I z8y, I z8g, I z8p] 24 .row)), (.some (.cells [I z8x, I z8y, I z8g, I z8p] 24 .row))]), none) :=
  Runs.by (n := 1000) (fid := 77) (os := [.br 77 20 true, .op 77 11 (pt 8 k8), .op 77 12 (.agg #[I z8x, I z8y, I z8g, I z8p])]) (os' := []) (by kernel_rfl) (ObsOK.cond f1 (ObsOK.val hx8 (ObsOK.val hl8 (ObsOK.nil))))
theorem toZ_p0 (v0 v1 v2 v4 v5 v8 v9 v10 v11 v12 v13 v14 v15 v16 v17 : Value) (n c : Nat) (r8 : Option ARow) (mm : Nat) (cs : List Value) : Runs Tryz.prog envB 9 [.code (codeR (codeR (codeR (bodyOf 77))))] [v0, v1, v2, sl 9 0 mm mm, v4, v5, (sl 8 0 n c), (I ((n : Int))), v8, v9, v10, v11, v12, v13, v14, v15, v16, v17] (n8 [r8, some (.cells cs 24 .row)]) ([v0, v1, (sl 9 0 mm mm), (sl 9 0 mm mm), v4, v5, (sl 8 0 n c), (I ((n : Int))), v8, v9, v10, v11, v12, v13, v14, v15, v16, (sl 9 0 mm mm)], (n8 [r8, (.some (.cells cs 24 .row))]), some .ret) :=
  Runs.by (n := 1000) (fid := 77) (os := []) (os' := []) (by kernel_rfl) (ObsOK.nil)
/-
A list told.
-/
def to_b (xs : List Sr) (c e : Nat) (u : Use) (jj : Nat) (f : Nat → Value) : List Value := [f 0, f 1, f 2, sl 9 0 (jj) (jj), f 4, f 5, (sl 8 0 xs.length c), (I ((xs.length : Int))), I (jj : Int), f 9, f 10, f 11, f 12, f 13, f 14, f 15, f 16, f 17]
def to_S (xs : List Sr) (c e : Nat) (u : Use) (jj : Nat) (ls : List Value) : Prop := ∃ f : Nat → Value, ls = to_b xs c e u jj f ∧ JF [9] f
theorem to_S.mk {xs : List Sr} {c e : Nat} {u : Use} {jj : Nat} {ls : List Value} (h : ls = to_b xs c e u jj (fun k => ls.getD k (I 0))) (hj : JL [9] 0 ls) : to_S xs c e u jj ls := ⟨_, h, hj.fn⟩
def to_bE (xs : List Sr) (c e : Nat) (u : Use) (jj : Nat) (f : Nat → Value) : List Value := [f 0, f 1, f 2, sl 9 0 (jj) (jj), f 4, f 5, (sl 8 0 xs.length c), (I ((xs.length : Int))), f 8, f 9, f 10, f 11, f 12, f 13, f 14, f 15, f 16, f 17]
def to_SE (xs : List Sr) (c e : Nat) (u : Use) (jj : Nat) (ls : List Value) : Prop := ∃ f : Nat → Value, ls = to_bE xs c e u jj f ∧ JF [9] f
theorem to_SE.mk {xs : List Sr} {c e : Nat} {u : Use} {jj : Nat} {ls : List Value} (h : ls = to_bE xs c e u jj (fun k => ls.getD k (I 0))) (hj : JL [9] 0 ls) : to_SE xs c e u jj ls := ⟨_, h, hj.fn⟩
def to_bN (xs : List Sr) (c e : Nat) (u : Use) (jj : Nat) (f : Nat → Value) : List Value := [f 0, f 1, f 2, .slice none 0 0, f 4, f 5, (sl 8 0 xs.length c), (I ((xs.length : Int))), I (jj : Int), f 9, f 10, f 11, f 12, f 13, f 14, f 15, f 16, f 17]
def to_SN (xs : List Sr) (c e : Nat) (u : Use) (jj : Nat) (ls : List Value) : Prop := ∃ f : Nat → Value, ls = to_bN xs c e u jj f ∧ JF [9] f
theorem to_SN.mk {xs : List Sr} {c e : Nat} {u : Use} {jj : Nat} {ls : List Value} (h : ls = to_bN xs c e u jj (fun k => ls.getD k (I 0))) (hj : JL [9] 0 ls) : to_SN xs c e u jj ls := ⟨_, h, hj.fn⟩
def to_K : List Keep := [.no, .no, .no, .ren, .no, .no, .ren, .free, .free, .free, .no, .no, .no, .no, .no, .no, .no, .no]
theorem to_go (xs : List Sr) (c e : Nat) (u : Use) {KK : List It} {v' : Value} {A' : Heap} (hb : xs.length ≤ 1000) (hend : ∀ ls, to_SE xs c e u xs.length ls → EndsG Tryz.prog 8 Tryz.f77 (n8 [(rS xs e u)]) v' A' (KK) ls ((n8 [(rS xs e u)]) ++ [some (.cells (srs (xs.take xs.length)) 24 .row)])) : ∀ dd jj, jj + dd = xs.length → 1 ≤ jj → ∀ ls, to_S xs c e u jj ls → EndsG Tryz.prog 8 Tryz.f77 (n8 [(rS xs e u)]) v' A' (.code (round 0 (bodyOf 77)) :: .inLoop (round 0 (bodyOf 77)) :: .inBlock 0 :: KK) ls ((n8 [(rS xs e u)]) ++ [some (.cells (srs (xs.take jj)) 24 .row)]) := by
  intro dd
  induction dd with
  | zero =>
    rintro jj hjj h1j ls ⟨f, rfl, hj⟩
    have hjn : jj = xs.length := by omega
    subst hjn
    have hr := toC_p0 (f 0) (f 1) (f 2) (f 4) (f 5) (f 9) (f 10) (f 11) (f 12) (f 13) (f 14) (f 15) (f 16) (f 17) ((xs.length)) ((srs (xs.take xs.length))) ((srs (xs.take (xs.length + 1)))) (xs.length) (c) ((rS xs e u)) ((xs.length : Int)) (decide_eq_false (by first | omega | (simp; omega)))
    refine EndsG.run (k := [.code (round 0 (bodyOf 77)), .inLoop (round 0 (bodyOf 77)), .inBlock 0]) (kk := KK) prog_ok envB_ok hr ?_
    exact hend _ (to_SE.mk (jj := xs.length) (by kernel_rfl) (.f2 hj (.f1 hj (.c1 rfl (.f2 hj (.c4 rfl (.f8 hj .nil)))))))
  | succ dd ih =>
    rintro jj hjj h1j ls ⟨f, rfl, hj⟩
    have hlt : jj < xs.length := by omega
    have hs := srs_take (l := xs) (i := jj) (by omega)
    obtain ⟨ti, t1, t2, t3, t4⟩ := info_of i24'
    have hr := toA0_p0 (f 0) (f 1) (f 2) (f 4) (f 5) (f 9) (f 10) (f 11) (f 12) (f 13) (f 14) (f 15) (f 16) (f 17) ((jj)) ((srs (xs.take jj))) ((srs (xs.take (jj + 1)))) (xs.length) (c) ((rS xs e u)) ((jj : Int)) ((jj * 4)) (((xs.getD jj s0).x)) (((xs.getD jj s0).y)) (((xs.getD jj s0).g)) (((xs.getD jj s0).p)) (ix37 (by omega)) (ld32 rfl (by omega)) ((by rw [hs]; exact app_one (P := Tryz.prog) (lim := 9) (r := 9) (q := 11) (n := (jj)) (c := (jj)) (c' := 1) (A := (n8 [(rS xs e u), (.some (.cells (srs (xs.take jj)) 24 .row)), (.some (.cells [(I ((xs.getD jj s0).x)), (I ((xs.getD jj s0).y)), (I ((xs.getD jj s0).g)), (I ((xs.getD jj s0).p))] 32 .var)), (.some (.cells [(I ((xs.getD jj s0).x)), (I ((xs.getD jj s0).y)), (I ((xs.getD jj s0).g)), (I ((xs.getD jj s0).p))] 24 .row))])) u22 t1 t2 t3 t4 rfl rfl rfl rfl (by rw [srs_len, List.length_take]; omega) rfl rfl (by decide) (by omega) (by omega) u22)) (decide_eq_true (by first | omega | (simp; omega)))
    try rw [wrap_succ' (by omega)] at hr
    refine EndsG.round prog_ok envB_ok hr ?_
    refine EndsG.renumS (X := [_, _, _, _]) (R := [(.some (.cells (srs (xs.take (jj + 1))) 24 .row))]) (ids := [12]) (m := to_K) rfl rfl (by kernel_rfl) (.cons rfl (.plain (by first | rfl | exact srs_atoms _)) .nil) (.j2 0 hj rfl (.j1 2 hj rfl (.ren rfl (.j1 4 hj rfl (.no rfl (.ren rfl (.free rfl (.free rfl (.free rfl (.n4 rfl (.n2 rfl (.no rfl (.j1 17 hj rfl .nil))))))))))))) ?_
    exact ih (jj + 1) (by omega) (by omega) _ (to_S.mk (jj := (jj + 1)) (by kernel_rfl) (.c16 rfl (.c2 rfl .nil)))
theorem to_first (xs : List Sr) (c e : Nat) (u : Use) {KK : List It} {v' : Value} {A' : Heap} (hb : xs.length ≤ 1000) (hn : 1 ≤ xs.length) (hend : ∀ ls, to_SE xs c e u xs.length ls → EndsG Tryz.prog 8 Tryz.f77 (n8 [(rS xs e u)]) v' A' (KK) ls ((n8 [(rS xs e u)]) ++ [some (.cells (srs (xs.take xs.length)) 24 .row)])) : ∀ ls, to_SN xs c e u 0 ls → EndsG Tryz.prog 8 Tryz.f77 (n8 [(rS xs e u)]) v' A' (.code (round 0 (bodyOf 77)) :: .inLoop (round 0 (bodyOf 77)) :: .inBlock 0 :: KK) ls ((n8 [(rS xs e u)]) ++ []) := by
  rintro ls ⟨f, rfl, hj⟩
  have hr := tonA0_p0 (f 0) (f 1) (f 2) (f 4) (f 5) (f 9) (f 10) (f 11) (f 12) (f 13) (f 14) (f 15) (f 16) (f 17) (xs.length) (c) ((rS xs e u)) (((0 : Nat) : Int)) ((0 * 4)) (((xs.getD 0 s0).x)) (((xs.getD 0 s0).y)) (((xs.getD 0 s0).g)) (((xs.getD 0 s0).p)) (ix37 (by omega)) (ld32 rfl (by omega)) (decide_eq_true (by first | omega | (simp; omega)))
  try rw [wrap_succ' (by omega)] at hr
  refine EndsG.round prog_ok envB_ok hr ?_
  refine EndsG.renumS (X := [_, _, _]) (R := [(.some (.cells [(I ((xs.getD 0 s0).x)), (I ((xs.getD 0 s0).y)), (I ((xs.getD 0 s0).g)), (I ((xs.getD 0 s0).p))] 24 .row))]) (ids := [11]) (m := to_K) rfl rfl (by kernel_rfl) (.cons rfl (.plain (by first | rfl | exact srs_atoms _)) .nil) (.j2 0 hj rfl (.j1 2 hj rfl (.ren rfl (.j1 4 hj rfl (.no rfl (.ren rfl (.free rfl (.free rfl (.free rfl (.n4 rfl (.n2 rfl (.no rfl (.j1 17 hj rfl .nil))))))))))))) ?_
  refine EndsG.rows (R' := [some (.cells (srs (xs.take 1)) 24 .row)]) (by rw [show (1 : Nat) = 0 + 1 from rfl, srs_take (l := xs) (i := 0) (by omega)]; rfl) ?_
  exact to_go xs c e u (KK := KK) (v' := v') (A' := A') hb hend (xs.length - 1) 1 (by omega) (by omega) _ (to_S.mk (jj := 1) (by kernel_rfl) (.c16 rfl (.c2 rfl .nil)))
theorem to_end (xs : List Sr) (c e : Nat) (u : Use) (hb : xs.length ≤ 1000) : ∀ ls, to_SE xs c e u xs.length ls → EndsG Tryz.prog 8 Tryz.f77 (n8 [(rS xs e u)]) (sl 9 0 xs.length xs.length) ((n8 [(rS xs e u)]) ++ [rS xs 24 .row]) ([.code (codeR (codeR (codeR (bodyOf 77))))]) ls ((n8 [(rS xs e u)]) ++ [some (.cells (srs (xs.take xs.length)) 24 .row)]) := by
  rintro ls ⟨f, rfl, hj⟩
  have hr := toZ_p0 (f 0) (f 1) (f 2) (f 4) (f 5) (f 8) (f 9) (f 10) (f 11) (f 12) (f 13) (f 14) (f 15) (f 16) (f 17) (xs.length) (c) ((rS xs e u)) ((xs.length)) ((srs (xs.take xs.length)))
  exact EndsG.ret (X := [_]) (v := (sl 9 0 (xs.length) (xs.length))) prog_ok envB_ok hr rfl (by kernel_rfl) (by rw [List.take_length]; exact gc_of (ids := [9]) rfl rfl (keptS rfl) rfl)
theorem to_says (xs : List Sr) (c e : Nat) (u : Use) (hb : xs.length ≤ 1000) (hn : 1 ≤ xs.length) : SaysAt Tryz.prog 8 77 [sl 8 0 xs.length c] (n8 [(rS xs e u)]) (sl 9 0 xs.length xs.length) ((n8 [(rS xs e u)]) ++ [rS xs 24 .row]) := by
  refine EndsG.says prog_ok Tryz.func77 (c := bodyOf 77) (by kernel_rfl) (by kernel_rfl) ?_
  refine EndsG.seqO (by kernel_rfl) ?_
  refine EndsG.run (k := [.code (codeL (bodyOf 77))]) prog_ok envB_ok (toq0_p0 (xs.length) (c) ((rS xs e u))) ?_
  refine EndsG.seqO (by kernel_rfl) ?_
  refine EndsG.run (k := [.code (codeL (codeR (bodyOf 77)))]) prog_ok envB_ok (toq1_p0 (xs.length) (c) ((rS xs e u))) ?_
  refine EndsG.seqO (by kernel_rfl) ?_
  refine EndsG.seqO (by kernel_rfl) ?_
  refine EndsG.run (k := [.code (codeL (codeL (codeR (codeR (bodyOf 77)))))]) prog_ok envB_ok (toq2_p0 (xs.length) (c) ((rS xs e u))) ?_
  refine EndsG.blockLoop (B := (round 0 (bodyOf 77))) (id := 0) (by kernel_rfl) ?_
  exact to_first xs c e u hb hn (to_end xs c e u hb) _ (to_SN.mk (jj := 0) (by kernel_rfl) (.c16 rfl (.c2 rfl .nil)))
/-
Lists that grow source by source; what the reference makes of a source.
-/
theorem srs_tmap {f : Sr → Sr} {l : List Sr} {i : Nat} (h : i < l.length) : srs ((l.take (i + 1)).map f) = srs ((l.take i).map f) ++ (f (l.getD i s0)).c := by
  rw [List.take_add_one, getD_some (d := s0) h]
  simp only [Option.toList_some, List.map_append, List.map_cons, List.map_nil, srs_app, srs_one]
/-
Checks of new lists are known.
-/
/-
Sources turned: the call.
-/
theorem tb98_p0 (F : FamX) (n c : Nat) (q : Int) (r8 rq : Option ARow) (h101 : Gives Tryz.prog (envB.famX 101 9 F) 9 101 [sl 8 0 n c, .func (.func 133) #[] #[pt 9 0]] (H [r8, some (.cells [I q] 3 .var)]) (sl 10 0 n n, (H [r8, some (.cells [I q] 3 .var), rq]))) (hg : aGC (H [r8]) (sl 10 0 n n) (H [r8, some (.cells [I q] 3 .var), rq]) = (sl 9 0 n n, (H [r8, rq]))) : Gives Tryz.prog (envB.famX 101 9 F) 0 98 [sl 8 0 n c, I q] (H [r8]) ((sl 9 0 n n), (H [r8, rq])) :=
  Gives.by (n := 1000) (os := [.opw 98 8 (sl 10 0 n n) (H [r8, (.some (.cells [I q] 3 .var)), rq]), .gc 98 (sl 9 0 n n) (H [r8, rq])]) (os' := []) (by kernel_rfl) (ObsOK.call h101 (ObsOK.gc hg (ObsOK.nil)))
theorem tb98_gives (F : FamX) (n c : Nat) (q : Int) (r8 rq : Option ARow) (h101 : Gives Tryz.prog (envB.famX 101 9 F) 9 101 [sl 8 0 n c, .func (.func 133) #[] #[pt 9 0]] (H [r8, some (.cells [I q] 3 .var)]) (sl 10 0 n n, (H [r8, some (.cells [I q] 3 .var), rq]))) (hg : aGC (H [r8]) (sl 10 0 n n) (H [r8, some (.cells [I q] 3 .var), rq]) = (sl 9 0 n n, (H [r8, rq]))) : Gives Tryz.prog (envB.famX 101 9 F) 0 98 [sl 8 0 n c, I q] (H [r8]) ((sl 9 0 n n), (H [r8, rq])) := by
  exact tb98_p0 F n c q r8 rq h101 hg
/-
Checks of places and turns are known.
-/
theorem ct49_s (q : Int) : SaysAt Tryz.prog 8 49 [I q] heapN (I (ct49_r0 q)) heapN := SaysAt.of_gives prog_ok envB_ok (ct49_gives q)
theorem cpl50_s (q : Int) : SaysAt Tryz.prog 8 50 [I q] heapN (I (cpl50_r0 q)) heapN := SaysAt.of_gives prog_ok envB_ok (cpl50_gives q)
def B_envM1 (f : FuncId) (args : List Value) : Option (Heap × Value) :=
  if f == 49 then
    match args with
    | [.int .i64 q] => some (heapN, .int .i64 (ct49_r0 q))
    | _ => none
  else  if f == 50 then
    match args with
    | [.int .i64 q] => some (heapN, .int .i64 (cpl50_r0 q))
    | _ => none
  else none
noncomputable def envM1 : Env := envC2.with (baseKnown B_envM1)
theorem envM1_ok : EnvOK Tryz.prog 8 envM1 := env_base' envC2_ok fun f args H v h => by
  unfold B_envM1 at h
  split at h
  · rename_i hf
    have hf : f = 49 := by simpa using hf
    subst hf
    split at h
    · cases h; exact heapN_sok (ct49_s _)
    · cases h
  · skip
    split at h
    · rename_i hf
      have hf : f = 50 := by simpa using hf
      subst hf
      split at h
      · cases h; exact heapN_sok (cpl50_s _)
      · cases h
    · skip
      cases h
/-- The error of places. -/
def cplE : List Int → Int
  | [a] => cp1_r0 a
  | [a, b] => cp2_r0 a b
  | _ => 0
theorem cpl_says (xs : List Int) (h : xs.length = 1 ∨ xs.length = 2) : SaysAt Tryz.prog 8 99 [sl 8 0 xs.length xs.length] (n8 [rI xs 3 .row]) (I (cplE xs)) (n8 [rI xs 3 .row]) := by
  match xs, h with
  | [a], _ => exact SaysAt.of_gives prog_ok envB_ok (cp1_gives a)
  | [a, b], _ => exact SaysAt.of_gives prog_ok envB_ok (cp2_gives a b)
structure fam99I where
  (xs : List Int)
noncomputable def fam99 : Fam where
  ι := fam99I
  ok i := i.xs.length = 1 ∨ i.xs.length = 2
  args i := [sl 8 0 i.xs.length i.xs.length]
  rows i := [rI i.xs 3 .row]
  val i := I (cplE i.xs)
  new i := []
  one i j _ _ h1 h2 := by
    obtain ⟨xs⟩ := i
    obtain ⟨ys⟩ := j
    simp only [List.cons.injEq, Option.some.injEq, ARow.cells.injEq, and_true] at h2
    obtain rfl := ints_inj h2
    exact ⟨rfl, rfl⟩
theorem s98 (xs : List Sr) (q : Int) (c e : Nat) (u : Use) (hb : xs.length ≤ 1000) : SaysAt Tryz.prog 8 98 [sl 8 0 xs.length c, I q] (H [rS xs e u]) (sl 9 0 xs.length xs.length) (H [rS xs e u] ++ [rS (xs.map (tuE q)) 32 .row]) := by
  let F : FamX := { ι := Unit, ok := fun _ => True, args := fun _ => [sl 8 0 xs.length c, .func (.func 133) #[] #[pt 9 0]], rows := fun _ => H [rS xs e u, some (.cells [I q] 3 .var)], val := fun _ => sl 10 0 xs.length xs.length, out := fun _ => H [rS xs e u, some (.cells [I q] 3 .var)] ++ [rS (xs.map (tuE q)) 32 .row], one := fun _ _ _ _ _ _ => ⟨rfl, rfl⟩ }
  have hE : EnvOK Tryz.prog 8 (envB.famX 101 9 F) := Env.famX_ok envB_ok fun _ _ => ⟨mt_says xs q c e u hb, by simp [F], fun i _ hi => by show hget (_ ++ _) i = _; rw [hget_append, if_pos hi]⟩
  exact SaysAt.of_gives prog_ok hE (tb98_gives F xs.length c q (rS xs e u) (rS (xs.map (tuE q)) 32 .row) (known_gives (Env.famX_here (F := F) () trivial (Nat.le_refl 9))) (gc_of (ids := [10]) rfl rfl (keptS rfl) rfl))
structure fam98I where
  (xs : List Sr)
  (d : Int)
  (c : Nat)
  (e : Nat)
  (u : Use)
noncomputable def fam98 : Fam where
  ι := fam98I
  ok i := i.xs.length ≤ 1000
  args i := [sl 8 0 i.xs.length i.c, I i.d]
  rows i := [rS i.xs i.e i.u]
  val i := sl 9 0 i.xs.length i.xs.length
  new i := [rS (i.xs.map (tuE i.d)) 32 .row]
  one i j _ _ h1 h2 := by
    obtain ⟨xs, d, c, e, u⟩ := i
    obtain ⟨ys, d', c', e', u'⟩ := j
    simp only [List.cons.injEq, Option.some.injEq, ARow.cells.injEq, and_true] at h2
    simp only [List.cons.injEq, Value.int.injEq, true_and, and_true] at h1
    obtain rfl := srs_inj h2.1
    obtain rfl := h1.2
    exact ⟨rfl, rfl⟩
noncomputable def envM2 : Env := envM1.fam 8 heapN 99 fam99
theorem envM2_ok : EnvOK Tryz.prog 8 envM2 := Env.fam_ok (T := heapN) (f0 := 99) (F := fam99) envM1_ok (by decide) (by decide) fun i hi => cpl_says i.xs hi
noncomputable def envM : Env := envM2.fam 8 heap0 98 fam98
theorem envM_ok : EnvOK Tryz.prog 8 envM := Env.fam_ok (T := heap0) (f0 := 98) (F := fam98) envM2_ok (by decide) (by decide) fun i hi => s98 i.xs i.d i.c i.e i.u hi
theorem kenvM_29_8 (i : fam29I) (hi : fam29.ok i) (lim : Nat) (A : Heap) (hA : [hget A 8] = fam29.rows i) : Gives Tryz.prog envM lim 29 [sl 8 0 i.xs.length i.c] A (I (chkP i.xs), A) := by
  have hA : hget A 8 = _ := (List.cons.inj hA).1
  have hlen := hget_lt hA
  have h := Env.fam_here (E := (((((((((envB.fam 8 heapN 20 fam20).fam 8 heapN 90 fam90).fam 8 heapN 84 fam84).fam 8 heapN 25 fam25).fam 8 heapN 16 fam16).fam 8 heapN 23 fam23).fam 8 heapN 28 fam28).fam 8 heap0 87 fam87).with (baseKnown B_envC1))) (G := 8) (T := heapN) (f0 := 29) (lim := lim) (F := fam29) (args := [sl 8 0 i.xs.length i.c]) (A := A) (ids := [8]) (v' := I (chkP i.xs)) i hi rfl rfl (rowsS hA) (starts8 (by omega)) rfl rfl rfl rfl
  rw [show A ++ fam29.new i = A from List.append_nil A] at h
  exact known_gives ((Env.fam_skip rfl).trans ((Env.fam_skip rfl).trans ((kn_skip rfl).trans h)))
theorem kenvM_84_9 (i : fam84I) (hi : fam84.ok i) (lim : Nat) (A : Heap) (hA : [hget A 9] = fam84.rows i) : Gives Tryz.prog envM lim 84 [sl 9 0 i.xs.length i.c] A (I (fstI i.xs), A) := by
  have hA : hget A 9 = _ := (List.cons.inj hA).1
  have hlen := hget_lt hA
  have h := Env.fam_here (E := ((envB.fam 8 heapN 20 fam20).fam 8 heapN 90 fam90)) (G := 8) (T := heapN) (f0 := 84) (lim := lim) (F := fam84) (args := [sl 9 0 i.xs.length i.c]) (A := A) (ids := [9]) (v' := I (fstI i.xs)) i hi rfl rfl (rowsI hA) (starts8 (by omega)) rfl rfl rfl rfl
  rw [show A ++ fam84.new i = A from List.append_nil A] at h
  exact known_gives ((Env.fam_skip rfl).trans ((Env.fam_skip rfl).trans ((kn_skip rfl).trans ((Env.fam_skip rfl).trans ((kn_skip rfl).trans ((Env.fam_skip rfl).trans ((Env.fam_skip rfl).trans ((Env.fam_skip rfl).trans ((Env.fam_skip rfl).trans ((Env.fam_skip rfl).trans h))))))))))
end Go.Proofs.YtpdiaiccnaoaiaaGreatDoor
/-
What was pruned.
-/
namespace Go.Abs
open Go

section
variable {P : Program} {G : Nat} {E : Env} {fn : Func} {A0 A1 A A2 : Heap} {v : Value} {l l1 l2 : List Value} {lim : Nat}
theorem EndsA.inBlock {id : Nat} {k : List It} (h : EndsA P G fn A0 v A1 k l A) : EndsA P G fn A0 v A1 (.inBlock id :: k) l A :=
  EndsA.step (fun _ _ _ _ => stepR_inBlock) (fun h => by simp only [List.all_cons, okIt, Bool.and_eq_true] at h ⊢; exact h.2) h
end
end Go.Abs

namespace Go.Abs
open Go

section
variable {P : Program} {G : Nat} {E : Env} {fn : Func} {A0 A1 A : Heap} {v : Value} {l : List Value}

end

end Go.Abs

namespace Go.Abs
open Go
section
variable {P : Program} {t e : TypeId} {ti : TypeInfo} {m : Nat}
end
section
variable {P : Program} {kt : TypeId} {d : TypeDesc} {α : Type} {kv : α → Value}
end

section
variable {P : Program} {G : Nat} {E : Env} {fn : Func} {A0 A1 A A2 : Heap} {v : Value} {l l1 l2 : List Value} {lim : Nat}
end
section
variable {P : Program} {G : Nat} {E : Env} {fn : Func} {A0 A A2 : Heap} {v : Value} {l l1 l2 : List Value} {lim : Nat}
end
end Go.Abs

namespace Go.Abs
open Go
end Go.Abs

namespace Go.Abs
open Go
def codeB : Code → Code
  | .block _ b => b
  | .scope b => b
  | c => c
section
variable {P : Program} {G : Nat} {E : Env} {fn : Func} {A0 A A' A2 : Heap} {v' : Value} {l l1 l2 : List Value} {lim : Nat}
theorem EndsG.block {C B : Code} {id : Nat} {k : List It} (hC : C = .block id B) (h : EndsG P G fn A0 v' A' (.code B :: .inBlock id :: k) l A) : EndsG P G fn A0 v' A' (.code C :: k) l A := by
  subst hC
  obtain ⟨v, A1, g, h⟩ := h
  exact ⟨v, A1, g, EndsA.block h⟩
theorem EndsG.again {c : Code} {k : List It} (h : EndsG P G fn A0 v' A' (.code c :: .inLoop c :: k) l A) : EndsG P G fn A0 v' A' (.inLoop c :: k) l A := let ⟨v, A1, g, h⟩ := h; ⟨v, A1, g, EndsA.again h⟩
theorem EndsG.inBlock {id : Nat} {k : List It} (h : EndsG P G fn A0 v' A' k l A) : EndsG P G fn A0 v' A' (.inBlock id :: k) l A := let ⟨v, A1, g, h⟩ := h; ⟨v, A1, g, EndsA.inBlock h⟩
end
section
variable {bs : List Nat} {k : Nat} {l : List Value} {f : Nat → Value} {g : Nat → Option Nat} {m : List Keep} {l2 fs : List Value}
theorem SlotsTo.j16 (k : Nat) (hj : JF bs f) (hb : ((((!JB bs k && !JB bs (k + 1)) && (!JB bs (k + 2) && !JB bs (k + 3))) && ((!JB bs (k + 4) && !JB bs (k + 5)) && (!JB bs (k + 6) && !JB bs (k + 7)))) && (((!JB bs (k + 8) && !JB bs (k + 9)) && (!JB bs (k + 10) && !JB bs (k + 11))) && ((!JB bs (k + 12) && !JB bs (k + 13)) && (!JB bs (k + 14) && !JB bs (k + 15))))) = true) (t : SlotsTo g m l l2 fs) : SlotsTo g (.no :: .no :: .no :: .no :: .no :: .no :: .no :: .no :: .no :: .no :: .no :: .no :: .no :: .no :: .no :: .no :: m) (f k :: f (k + 1) :: f (k + 2) :: f (k + 3) :: f (k + 4) :: f (k + 5) :: f (k + 6) :: f (k + 7) :: f (k + 8) :: f (k + 9) :: f (k + 10) :: f (k + 11) :: f (k + 12) :: f (k + 13) :: f (k + 14) :: f (k + 15) :: l) (junk :: junk :: junk :: junk :: junk :: junk :: junk :: junk :: junk :: junk :: junk :: junk :: junk :: junk :: junk :: junk :: l2) fs := .j8 k hj (Bool.and_eq_true_iff.1 hb).1 (.j8 (k + 8) hj (Bool.and_eq_true_iff.1 hb).2 t)
end
end Go.Abs

namespace Go.Proofs.YtpdiaiccnaoaiaaGreatDoor
open Go Go.Abs
end Go.Proofs.YtpdiaiccnaoaiaaGreatDoor

namespace Go.Proofs.YtpdiaiccnaoaiaaGreatDoor
open Go Go.Abs
/-
Lists of which each element is replaced by a list.
-/
/-- What stands behind i rounds. -/
def reL (G : Sr → Sr → Sr) (xs ys : List Sr) : Nat → List Sr
  | 0 => []
  | i + 1 => reL G xs ys i ++ ys.map (G (xs.getD i s0))
theorem reL_len_s (G : Sr → Sr → Sr) (xs ys : List Sr) (i : Nat) : (reL G xs ys (i + 1)).length = (reL G xs ys i).length + ys.length := by simp [reL]
theorem reL_srs_s (G : Sr → Sr → Sr) (xs ys : List Sr) (i : Nat) : srs (reL G xs ys (i + 1)) = srs (reL G xs ys i) ++ srs ((ys.take ys.length).map (G (xs.getD i s0))) := by
  rw [List.take_length]; exact srs_app _ _
theorem reL_len (G : Sr → Sr → Sr) (xs ys : List Sr) : ∀ i, (reL G xs ys i).length = i * ys.length
  | 0 => by simp [reL]
  | i + 1 => by rw [reL_len_s, reL_len G xs ys i, Nat.succ_mul]
theorem reL_len16 {G : Sr → Sr → Sr} {xs ys : List Sr} {i : Nat} (hx : xs.length ≤ 16) (hy : ys.length ≤ 16) (hi : i ≤ xs.length) : (reL G xs ys i).length ≤ 1000 := by
  rw [reL_len]
  have := Nat.mul_le_mul (Nat.le_trans hi hx) hy
  omega
/-- The program's element. -/
def reP (s t : Sr) : Sr := ⟨W (s.x + t.x), W (s.y + t.y), W (s.g * t.g), (W ((W (s.p + t.p)).tmod 4 + 4)).tmod 4⟩
/-
Rounds of loops.
-/
/-
Pressures are known.
-/
structure fam19I where
  (xs : List Sr)
  (d : Int)
  (c : Nat)
  (e : Nat)
  (u : Use)
/-
Rounds of loops.
-/
/-
Levels are known.
-/
structure fam21I where
  (xs : List Sr)
  (d : Int)
  (c : Nat)
  (e : Nat)
  (u : Use)
/-
ArrayPressures: its ways.
-/
/-
Sources: what the program and the reference reckon is the same.
-/
/-- A source in its ranges. -/
def okS (s : Sr) : Prop := -100 ≤ s.x ∧ s.x ≤ 100 ∧ -100 ≤ s.y ∧ s.y ≤ 100 ∧ -100 ≤ s.g ∧ s.g ≤ 100 ∧ 0 ≤ s.p ∧ s.p ≤ 3
theorem lim_eq (x : Int) : (lim_r0 x 100 == x) = decide (-100 ≤ x ∧ x ≤ 100) := by
  unfold lim_r0
  rw [show IntKind.i64.wrap (0 - 100) = -100 from rfl]
  by_cases h1 : -100 > x
  · rw [if_pos h1, if_neg (by decide), decide_eq_false (by omega)]
    simp; omega
  · rw [if_neg h1]
    by_cases h2 : 100 < x
    · rw [if_pos h2, decide_eq_false (by omega)]; simp; omega
    · rw [if_neg h2, decide_eq_true (by omega)]; simp
theorem mo_eq (p : Int) : (mo_r0 p == p) = decide (0 ≤ p ∧ p ≤ 3) := by
  rw [show mo_r0 p = p % 4 from tm4 p]
  by_cases h : 0 ≤ p ∧ p ≤ 3
  · rw [decide_eq_true h]; simp; omega
  · rw [decide_eq_false h]; simp; omega
theorem cr_eq (n a b : Int) : cr_r0 n a b = if a ≤ n ∧ n ≤ b then 0 else 3 := by
  unfold cr_r0 cr_c0 cr_c1
  by_cases h1 : n < a
  · rw [if_neg (by omega)]; simp [h1]
  · by_cases h2 : n > b
    · rw [if_neg (by omega)]; simp [h1, h2]
    · rw [if_pos (by omega)]; simp [h1, h2]
theorem cs_eq (x y g p : Int) : cs85_r0 x y g p = if (-100 ≤ x ∧ x ≤ 100 ∧ -100 ≤ y ∧ y ≤ 100 ∧ -100 ≤ g ∧ g ≤ 100 ∧ 0 ≤ p ∧ p ≤ 3) then 0 else 3 := by
  unfold cs85_r0 cs85_c0
  rw [lim_eq, lim_eq, lim_eq, mo_eq]
  by_cases h : (-100 ≤ x ∧ x ≤ 100 ∧ -100 ≤ y ∧ y ≤ 100 ∧ -100 ≤ g ∧ g ≤ 100 ∧ 0 ≤ p ∧ p ≤ 3)
  · rw [if_pos h, decide_eq_true (by omega), decide_eq_true (by omega), decide_eq_true (by omega), decide_eq_true (by omega)]; rfl
  · rw [if_neg h]
    by_cases h1 : -100 ≤ x ∧ x ≤ 100
    · by_cases h2 : -100 ≤ y ∧ y ≤ 100
      · by_cases h3 : -100 ≤ g ∧ g ≤ 100
        · rw [decide_eq_true h1, decide_eq_true h2, decide_eq_true h3, decide_eq_false (by omega)]; rfl
        · rw [decide_eq_true h1, decide_eq_true h2, decide_eq_false h3]; rfl
      · rw [decide_eq_true h1, decide_eq_false h2]; rfl
    · rw [decide_eq_false h1]; rfl
theorem rc_eq (x y g p : Int) : rcs24_r0 x y g p = if (-100 ≤ x ∧ x ≤ 100 ∧ -100 ≤ y ∧ y ≤ 100 ∧ -100 ≤ g ∧ g ≤ 100 ∧ 0 ≤ p ∧ p ≤ 3) then 0 else 3 := by
  unfold rcs24_r0 rcs24_c0 rcs24_c1 rcs24_c2 rcs24_c3
  simp only [cr_eq]
  repeat' split
  all_goals first
    | rfl
    | (exfalso; omega)
theorem cs_rc (x y g p : Int) : cs85_r0 x y g p = rcs24_r0 x y g p := by rw [cs_eq, rc_eq]
theorem csE_rcE (s : Sr) : csE s = rcE s := cs_rc _ _ _ _
theorem rcE_s0 : rcE s0 = 0 := by unfold rcE; rw [rc_eq]; rfl
theorem map_getD (xs : List Sr) (k : Nat) : (xs.map csE).getD k 0 = rcE (xs.getD k s0) := by
  by_cases h : k < xs.length
  · simp [h, csE_rcE]
  · have h1 : (xs.map csE)[k]? = none := List.getElem?_eq_none (by simp; omega)
    have h2 : xs[k]? = none := List.getElem?_eq_none (by omega)
    rw [List.getD_eq_getElem?_getD, List.getD_eq_getElem?_getD, h1, h2]
    exact rcE_s0.symm
theorem fst_eq (xs : List Sr) : fstI (xs.map csE) = fstR xs := by
  unfold fstI fstR
  rw [List.length_map]
  rw [firstP_congr (q := fun k => rcE (xs.getD k s0) != 0) (fun j _ _ => by rw [map_getD])]
  cases firstP (fun k => rcE (xs.getD k s0) != 0) 0 xs.length with
  | none => rfl
  | some k => exact map_getD xs k
theorem chk_eq (xs : List Sr) : chkP xs = chkR xs := by unfold chkP chkR; rw [fst_eq]
theorem okS_of {xs : List Sr} (h : chkR xs = 0) : ∀ k, k < xs.length → okS (xs.getD k s0) := by
  intro k hk
  unfold chkR at h
  split at h
  · cases h
  · unfold fstR at h
    cases hf : firstP (fun k => rcE (xs.getD k s0) != 0) 0 xs.length with
    | some j =>
      rw [hf] at h
      have := (firstP_some hf).2.2.1
      simp only [bne_iff_ne, ne_eq] at this
      exact absurd h this
    | none =>
      have := firstP_none hf k (Nat.zero_le _) (by omega)
      simp only [bne_eq_false_iff_eq] at this
      unfold rcE at this
      rw [rc_eq] at this
      split at this
      · rename_i ho; exact ho
      · cases this
theorem wS {x : Int} (h1 : -100000 ≤ x) (h2 : x ≤ 100000) : IntKind.i64.wrap x = x := wSmall (by omega) (by omega)
/-
ArrayMoves, its calls told.
-/
/-
ArrayMoves: the law from its three moves.
-/
theorem fc {α : Type} {p : α → Prop} {a : α} {l : List α} (h : p a ∧ ∀ x ∈ l, p x) : ∀ x ∈ a :: l, p x := List.forall_mem_cons.2 h
theorem fN {α : Type} {p : α → Prop} : ∀ x ∈ ([] : List α), p x := fun _ h => nomatch h
theorem startsH (X : Heap) : startsB heap0 (H X) = true := rfl
/-- The law is true at these rows. -/
def LawS (f : FuncId) (args : List Value) (A : Heap) : Prop := ∃ E, EnvOK Tryz.prog 8 E ∧ Gives Tryz.prog E 0 f args A (.bool true, A)
/-
ArrayMoves: its calls.
-/
/-
ArrayMoves: its calls.
-/
/-
Sources shifted: pieces.
-/
/-
Sources shifted.
-/
/-
ArrayMoves: the program's moves of a list.
-/
section
variable (xs : List Sr) (c e : Nat) (u : Use) (hb : xs.length ≤ 1000)
include hb
end
/-
Sources and their images in one list: the call.
-/
/-
ArrayMoves: its calls.
-/
/-
Sources behind a wall: pieces.
-/
/-
Sources behind a wall.
-/
/-
Sources behind a wall: pieces.
-/
/-
Sources behind a wall.
-/
/-
Sources and their images in one list.
-/
section
variable (xs : List Sr) (c e : Nat) (u : Use) (hb : xs.length ≤ 500) (hn : 1 ≤ xs.length)
end
/-
The reference's turns: pieces.
-/
/-
The reference's turns.
-/
/-
The reference's turns: pieces.
-/
/-
The reference's turns.
-/
/-
The reference's turns: pieces.
-/
/-
The reference's turns.
-/
/-
The reference's turns: pieces.
-/
/-
The reference's turns.
-/
/-
The reference's shift: pieces.
-/
/-
The reference's shift.
-/
/-
The reference's mirror: pieces.
-/
/-
The reference's mirror.
-/
/-
The reference's mirror: pieces.
-/
/-
The reference's mirror.
-/
end Go.Proofs.YtpdiaiccnaoaiaaGreatDoor
