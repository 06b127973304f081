/-
Joined: Ab1, Ab2, Ab3, Ab4, Ab5, Ab6, Ab7, Ab8, Ab8E, Ab8M, Ab9, Ab10.
-/
import Derived.Calls
import Derived.Orders
import Derived.Laws.Cells
import Derived.Laws.World
import Derived.Laws.Rows
import Derived.Laws.IdiomCopy
import Derived.Laws.Build
import Derived.RowKit3
import Derived.Laws.Tables
import Derived.Laws.CopyRow
import Derived.Laws.Append
import Derived.Laws.AppendOwn
import Derived.Laws.MakeOwn
import Derived.Lib.FrozenHead
import Derived.Laws.Entries
import Derived.Laws.Slices
import Derived.Laws.BytesString
import Derived.Lib.AppendZeros
import Derived.Laws.BytesArg
import Derived.Laws.NewFold
import Derived.Lib.Builder
import Derived.Lib.UnsafeStr
import Derived.Laws.IdiomRangeMap
set_option linter.unusedVariables false
set_option linter.unusedSimpArgs false
set_option linter.unusedSectionVars false
/-
An abstract machine for Go programs of the model: memory as rows with numbers of their own. This text: values, rows, the relation to a world.
-/
namespace Go.Abs
open Go

/-- WHERE A ROW LIES: its block, the offset in it, the cells of an element (0: a row to which nothing is appended), the block's cells. -/
structure L4 where
  blk : Nat
  off : Nat
  esz : Nat
  fin : Nat

/-- Where the rows lie. -/
abbrev Loc := Nat → Option L4
def Ext (ρ ρ' : Loc) : Prop := ∀ i L, ρ i = some L → ρ' i = some L
theorem Ext.refl (ρ : Loc) : Ext ρ ρ := fun _ _ h => h
theorem Ext.trans {ρ ρ1 ρ2 : Loc} (h : Ext ρ ρ1) (h' : Ext ρ1 ρ2) : Ext ρ ρ2 := fun i L hi => h' i L (h i L hi)
def Loc.put (ρ : Loc) (n : Nat) (L : L4) : Loc := fun i => if i = n then some L else ρ i
theorem Ext.put {ρ : Loc} {n : Nat} (h : ρ n = none) (L : L4) : Ext ρ (ρ.put n L) := fun i M hi => by
  unfold Loc.put
  split
  · rename_i e; rw [e, h] at hi; cases hi
  · exact hi
@[simp] theorem Loc.put_self (ρ : Loc) (n : Nat) (L : L4) : ρ.put n L n = some L := by simp [Loc.put]

/-- A value without an address, of one cell. -/
def atomB : Value → Bool
  | .bool _ | .int _ _ | .float _ _ | .complex _ _ _ | .string _ | .pointer none | .slice none _ _ | .map none | .chan none | .nilFunc | .nilIface => true
  | _ => false

def atom2B : Value → Bool
  | .agg cs => cs.toList.all atomB
  | v => atomB v

/-- A value without an address. -/
def freeB : Value → Bool
  | .agg cs => cs.toList.all atomB
  | .tuple vs => vs.toList.all atom2B
  | .func (.func _) f c => f.size == 0 && c.size == 0
  | .iface _ v => atom2B v
  | v => atomB v

def Fn.notYield : Fn → Bool
  | .yield _ => false
  | _ => true

/-- WHAT A VALUE OF THE ABSTRACT MACHINE STANDS FOR. -/
inductive VR (ρ : Loc) : Value → Value → Prop
  | atom {v : Value} (h : atomB v = true) : VR ρ v v
  | ptr {i o : Nat} {L : L4} (h : ρ i = some L) : VR ρ (.pointer (some ⟨i, o, none⟩)) (.pointer (some ⟨L.blk, L.off + o, none⟩))
  | slice {i o n c c' : Nat} {p : Addr} {L : L4} (h : ρ i = some L) (hn : n ≤ c') (hp : c' = 0 ∨ p = ⟨L.blk, L.off + o, none⟩)
      (hb : L.esz ≠ 0 → L.off + o + c' * L.esz ≤ L.fin) : VR ρ (.slice (some ⟨i, o, none⟩) n c) (.slice (some p) n c')
  | func {fn : Fn} {f c f' c' : Array Value} (hy : Fn.notYield fn = true) (hf : f.size = f'.size) (hc : c.size = c'.size)
      (hfs : ∀ (k : Nat) (v v' : Value), f.toList[k]? = some v → f'.toList[k]? = some v' → VR ρ v v') (hcs : ∀ (k : Nat) (v v' : Value), c.toList[k]? = some v → c'.toList[k]? = some v' → VR ρ v v') :
      VR ρ (.func fn f c) (.func fn f' c')
  | yield {i : Nat} {L : L4} (h : ρ i = some L) : VR ρ (.func (.yield i) #[] #[]) (.func (.yield L.blk) #[] #[])
  | map {i : Nat} {L : L4} (h : ρ i = some L) : VR ρ (.map (some i)) (.map (some L.blk))
  | iface {t : TypeId} {v v' : Value} (h : VR ρ v v') : VR ρ (.iface t v) (.iface t v')
  | agg {cs cs' : Array Value} (hs : cs.size = cs'.size) (h : ∀ (k : Nat) (v v' : Value), cs.toList[k]? = some v → cs'.toList[k]? = some v' → VR ρ v v') : VR ρ (.agg cs) (.agg cs')
  | tuple {cs cs' : Array Value} (hs : cs.size = cs'.size) (h : ∀ (k : Nat) (v v' : Value), cs.toList[k]? = some v → cs'.toList[k]? = some v' → VR ρ v v') : VR ρ (.tuple cs) (.tuple cs')
  | junk {v' : Value} (h : ∀ b, v' ≠ .bool b) : VR ρ (.chan (some 0)) v'
/-- A value of which nothing is known, but that it is no bool. -/
abbrev junk : Value := .chan (some 0)
def isJunk : Value → Bool
  | .chan (some 0) => true
  | _ => false
/-- A value of one cell, of which something is known. -/
def oneC (v : Value) : Bool := v.oneCell' && !isJunk v

def VRs (ρ : Loc) (l l' : List Value) : Prop := l.length = l'.length ∧ ∀ (k : Nat) (v v' : Value), l[k]? = some v → l'[k]? = some v' → VR ρ v v'

theorem VRs.nil (ρ : Loc) : VRs ρ [] [] := ⟨rfl, fun _ _ _ h => by simp at h⟩
theorem VRs.cons {ρ : Loc} {v v' : Value} {l l' : List Value} (h : VR ρ v v') (hl : VRs ρ l l') : VRs ρ (v :: l) (v' :: l') :=
  ⟨by simp [hl.1], fun k a b ha hb => by
    cases k with
    | zero => simp at ha hb; subst ha; subst hb; exact h
    | succ k => exact hl.2 k a b (by simpa using ha) (by simpa using hb)⟩
theorem VRs.uncons {ρ : Loc} {v : Value} {l l2 : List Value} (h : VRs ρ (v :: l) l2) : ∃ v' l', l2 = v' :: l' ∧ VR ρ v v' ∧ VRs ρ l l' := by
  obtain ⟨hl, hr⟩ := h
  cases l2 with
  | nil => simp at hl
  | cons v' l' => exact ⟨v', l', rfl, hr 0 v v' rfl rfl, by simpa using hl, fun k a b ha hb => hr (k + 1) a b (by simpa using ha) (by simpa using hb)⟩
theorem VRs.get {ρ : Loc} {l l' : List Value} (h : VRs ρ l l') {k : Nat} {v : Value} (hv : l[k]? = some v) : ∃ v', l'[k]? = some v' ∧ VR ρ v v' := by
  have hk : k < l.length := (List.getElem?_eq_some_iff.1 hv).1
  have hk' : k < l'.length := h.1 ▸ hk
  exact ⟨l'[k], List.getElem?_eq_getElem hk', h.2 k _ _ hv (List.getElem?_eq_getElem hk')⟩
theorem VRs.append {ρ : Loc} {a a' b b' : List Value} (h : VRs ρ a a') (h2 : VRs ρ b b') : VRs ρ (a ++ b) (a' ++ b') := by
  induction a generalizing a' with
  | nil => cases a' with
    | nil => simpa using h2
    | cons x y => exact absurd h.1 (by simp)
  | cons v l ih =>
    obtain ⟨v', l', rfl, hv, hl⟩ := h.uncons
    exact VRs.cons hv (ih hl)
theorem VRs.take {ρ : Loc} {a a' : List Value} (h : VRs ρ a a') (n : Nat) : VRs ρ (a.take n) (a'.take n) := by
  refine ⟨by simp [h.1], fun k v v' hv hv' => ?_⟩
  rw [List.getElem?_take] at hv hv'
  split at hv <;> simp_all
  exact h.2 k v v' hv hv'
theorem VRs.drop {ρ : Loc} {a a' : List Value} (h : VRs ρ a a') (n : Nat) : VRs ρ (a.drop n) (a'.drop n) := by
  refine ⟨by simp [h.1], fun k v v' hv hv' => ?_⟩
  rw [List.getElem?_drop] at hv hv'
  exact h.2 _ v v' hv hv'

theorem VR.mono {ρ : Loc} {v v' : Value} (h : VR ρ v v') : ∀ {ρ' : Loc}, Ext ρ ρ' → VR ρ' v v' := by
  have get {ρ ρ' : Loc} (hp : Ext ρ ρ') {i : Nat} {L : L4} (h : ρ i = some L) : ρ' i = some L := hp i L h
  induction h with
  | atom h => exact fun _ => .atom h
  | ptr h => exact fun hp => .ptr (get hp h)
  | slice h hn hp hb => exact fun hx => .slice (get hx h) hn hp hb
  | func hy hf hc hfs hcs ih1 ih2 => exact fun hp => .func hy hf hc (fun k v v' a b => ih1 k v v' a b hp) (fun k v v' a b => ih2 k v v' a b hp)
  | yield h => exact fun hp => .yield (get hp h)
  | map h => exact fun hp => .map (get hp h)
  | iface h ih => exact fun hp => .iface (ih hp)
  | agg hs h ih => exact fun hp => .agg hs (fun k v v' a b => ih k v v' a b hp)
  | tuple hs h ih => exact fun hp => .tuple hs (fun k v v' a b => ih k v v' a b hp)
  | junk h => exact fun _ => .junk h
theorem VRs.mono {ρ ρ' : Loc} {l l' : List Value} (h : VRs ρ l l') (hp : Ext ρ ρ') : VRs ρ' l l' := ⟨h.1, fun k v v' a b => (h.2 k v v' a b).mono hp⟩

theorem VR.atom_eq {ρ : Loc} {v v' : Value} (h : VR ρ v v') (ha : atomB v = true) : v' = v := by
  cases h <;> simp_all [atomB]
theorem VRs.atoms_eq {ρ : Loc} {l l' : List Value} (h : VRs ρ l l') (ha : l.all atomB = true) : l' = l := by
  induction l generalizing l' with
  | nil => cases l' with
    | nil => rfl
    | cons x y => exact absurd h.1 (by simp)
  | cons v l ih =>
    obtain ⟨v', l2, rfl, hv, hl⟩ := h.uncons
    simp at ha
    rw [hv.atom_eq ha.1, ih hl (by simpa using ha.2)]
theorem VR.atom2_eq {ρ : Loc} {v v' : Value} (h : VR ρ v v') (ha : atom2B v = true) : v' = v := by
  cases h with
  | agg hs h => rw [Array.toList_inj.1 (VRs.atoms_eq ⟨by simpa using hs, h⟩ ha)]
  | _ => simp_all [atom2B, atomB]
theorem VRs.atom2s_eq {ρ : Loc} {l l' : List Value} (h : VRs ρ l l') (ha : l.all atom2B = true) : l' = l := by
  induction l generalizing l' with
  | nil => cases l' with
    | nil => rfl
    | cons x y => exact absurd h.1 (by simp)
  | cons v l ih =>
    obtain ⟨v', l2, rfl, hv, hl⟩ := h.uncons
    simp at ha
    rw [hv.atom2_eq ha.1, ih hl (by simpa using ha.2)]
theorem VR.free_eq {ρ : Loc} {v v' : Value} (h : VR ρ v v') (ha : freeB v = true) : v' = v := by
  cases h with
  | atom => rfl
  | ptr => simp [freeB, atomB] at ha
  | slice => simp [freeB, atomB] at ha
  | func hy hf hc hfs hcs =>
    rename_i fn f c f' c'
    cases fn <;> simp [freeB, atomB] at ha
    obtain ⟨h1, h2⟩ := ha
    subst h1; subst h2
    have : f' = #[] := Array.size_eq_zero_iff.1 (by simpa using hf.symm)
    have : c' = #[] := Array.size_eq_zero_iff.1 (by simpa using hc.symm)
    simp_all
  | yield => simp [freeB, atomB] at ha
  | map => simp [freeB, atomB] at ha
  | iface h => rw [h.atom2_eq ha]
  | agg hs h => rw [Array.toList_inj.1 (VRs.atoms_eq ⟨by simpa using hs, h⟩ ha)]
  | tuple hs h => rw [Array.toList_inj.1 (VRs.atom2s_eq ⟨by simpa using hs, h⟩ ha)]
  | junk h => simp [freeB, atomB] at ha
theorem VR.refl_atom2 (ρ : Loc) {v : Value} (ha : atom2B v = true) : VR ρ v v := by
  cases v <;> first | exact .atom ha | skip
  case agg cs =>
    refine .agg rfl fun k v v' a b => ?_
    rw [a] at b; cases b
    exact .atom ((List.all_eq_true.1 ha) _ (List.mem_of_getElem? a))
theorem VR.refl (ρ : Loc) {v : Value} (ha : freeB v = true) : VR ρ v v := by
  cases v <;> first | exact .atom ha | skip
  case func fn f c =>
    cases fn <;> simp [freeB, atomB] at ha
    obtain ⟨h1, h2⟩ := ha
    subst h1; subst h2
    exact .func rfl rfl rfl (fun k v v' a => by simp at a) (fun k v v' a => by simp at a)
  case iface t v => exact .iface (VR.refl_atom2 ρ ha)
  case agg cs =>
    refine .agg rfl fun k v v' a b => ?_
    rw [a] at b; cases b
    exact .atom ((List.all_eq_true.1 ha) _ (List.mem_of_getElem? a))
  case tuple cs =>
    refine .tuple rfl fun k v v' a b => ?_
    rw [a] at b; cases b
    exact VR.refl_atom2 ρ ((List.all_eq_true.1 ha) _ (List.mem_of_getElem? a))

/-- What a row is for: read alone; a variable; the cells of a slice, to which may be appended. -/
inductive Use where
  | ro | var | row | emp
  deriving DecidableEq

inductive ARow where
  | cells (cs : List Value) (elem : TypeId) (use : Use)
  | iter (s : ByteArray) (pos : Nat)
  | loop (tmps : List Value) (params : Array Tmp) (assign body : Code) (state : LoopState) (pending : Option Code)
  | map (es : List (Value × Value × Nat)) (clock : Nat)
  | miter (m since : Nat) (seen : List Nat) (last : Nat)

abbrev Heap := List (Option ARow)

def ARow.isOwn : ARow → Bool
  | .cells _ _ .ro => false
  | _ => true
def ARow.isLoop : ARow → Bool
  | .loop .. => true
  | _ => false

/- The four that follow are given by recursors, for the kernel's sake. -/
noncomputable def hget (A : Heap) : Nat → Option ARow :=
  List.rec (motive := fun _ => Nat → Option ARow) (fun _ => none) (fun r _ ih n => Nat.rec (motive := fun _ => Option ARow) r (fun n _ => ih n) n) A
@[simp] theorem hget_nil (n : Nat) : hget [] n = none := rfl
@[simp] theorem hget_zero (r : Option ARow) (A : Heap) : hget (r :: A) 0 = r := rfl
@[simp] theorem hget_succ (r : Option ARow) (A : Heap) (n : Nat) : hget (r :: A) (n + 1) = hget A n := rfl
noncomputable def hset (A : Heap) : Nat → Option ARow → Heap :=
  List.rec (motive := fun _ => Nat → Option ARow → Heap) (fun _ _ => []) (fun r A ih n x => Nat.rec (motive := fun _ => Heap) (x :: A) (fun n _ => r :: ih n x) n) A
@[simp] theorem hset_nil (n : Nat) (x : Option ARow) : hset [] n x = [] := rfl
@[simp] theorem hset_zero (r x : Option ARow) (A : Heap) : hset (r :: A) 0 x = x :: A := rfl
@[simp] theorem hset_succ (r x : Option ARow) (A : Heap) (n : Nat) : hset (r :: A) (n + 1) x = r :: hset A n x := rfl

theorem hget_eq (A : Heap) (i : Nat) (r : ARow) : hget A i = some r ↔ A[i]? = some (some r) := by
  induction A generalizing i with
  | nil => simp []
  | cons x A ih => cases i with
    | zero => simp []
    | succ i => simp [ih]
@[simp] theorem hset_length (A : Heap) (i : Nat) (x : Option ARow) : (hset A i x).length = A.length := by
  induction A generalizing i with
  | nil => rfl
  | cons r A ih => cases i <;> simp [ih]
theorem hget_hset (A : Heap) (i j : Nat) (x : Option ARow) : hget (hset A i x) j = if i = j ∧ j < A.length then x else hget A j := by
  induction A generalizing i j with
  | nil => simp []
  | cons r A ih => cases i <;> cases j <;> simp [ih]
theorem hget_lt {A : Heap} {i : Nat} {r : ARow} (h : hget A i = some r) : i < A.length := (List.getElem?_eq_some_iff.1 ((hget_eq A i r).1 h)).1
theorem hget_append (A B : Heap) (i : Nat) : hget (A ++ B) i = if i < A.length then hget A i else hget B (i - A.length) := by
  induction A generalizing i with
  | nil => simp
  | cons r A ih => cases i with
    | zero => simp []
    | succ i => simp [ih]

/-- No cell of a row of n cells is frozen. -/
def fzOK (fz : Nat × Nat) (n : Nat) : Prop := fz = (0, 0) ∨ n ≤ fz.1

noncomputable def tget (l : List Value) : Nat → Value :=
  List.rec (motive := fun _ => Nat → Value) (fun _ => undef) (fun v _ ih n => Nat.rec (motive := fun _ => Value) v (fun n _ => ih n) n) l
@[simp] theorem tget_nil (n : Nat) : tget [] n = undef := rfl
@[simp] theorem tget_zero (v : Value) (l : List Value) : tget (v :: l) 0 = v := rfl
@[simp] theorem tget_succ (v : Value) (l : List Value) (n : Nat) : tget (v :: l) (n + 1) = tget l n := rfl
noncomputable def tnew (d : Nat) (x : Value) : List Value := Nat.rec (motive := fun _ => List Value) [x] (fun _ ih => undef :: ih) d
noncomputable def tset (l : List Value) : Nat → Value → List Value :=
  List.rec (motive := fun _ => Nat → Value → List Value) (fun d x => tnew d x) (fun v l ih d x => Nat.rec (motive := fun _ => List Value) (x :: l) (fun d _ => v :: ih d x) d) l
@[simp] theorem tset_nil_zero (x : Value) : tset [] 0 x = [x] := rfl
@[simp] theorem tset_nil_succ (n : Nat) (x : Value) : tset [] (n + 1) x = undef :: tset [] n x := rfl
@[simp] theorem tset_zero (v x : Value) (l : List Value) : tset (v :: l) 0 x = x :: l := rfl
@[simp] theorem tset_succ (v x : Value) (l : List Value) (n : Nat) : tset (v :: l) (n + 1) x = v :: tset l n x := rfl
theorem tget_tset (l : List Value) (d : Nat) (v : Value) (t : Nat) : tget (tset l d v) t = if t = d then v else tget l t := by
  induction d generalizing l t with
  | zero => cases l <;> cases t <;> simp []
  | succ d ih => cases l <;> cases t <;> simp [ih]
noncomputable def tput (l : List Value) (d : Option Nat) (v : Value) : List Value :=
  match d with
  | some d => tset l d v
  | none => l


def okOperand (G : Nat) : Operand → Bool
  | .const v => freeB v
  | .global g => g < G
  | _ => true
def okOper (G nt : Nat) (o : Oper) : Bool :=
  (o.op.operands.toList.all (okOperand G)) && (match o.dst with | some d => d < nt | none => true) && (match o.op with | .select .. => false | _ => true)

/-- Operations that look at no row. -/
def isPure : Op → Bool
  | .move _ | .assign _ | .pick .. | .build .. | .fieldAddr .. | .indexAddr .. | .field .. | .index .. | .extract .. | .makeFunc .. | .makeInterface .. | .nilCheck _ | .sliceToArrayPointer .. | .binOp .. | .unOp .. => true
  | .call { callee := .builtin .len, .. } => true
  | _ => false

/-- Of each operation, as bits: those that come before it in every order. -/
def ancsFrom : List Oper → List Nat → List Nat
  | [], acc => acc
  | o :: os, acc => ancsFrom os (acc ++ [o.after.toList.foldl (fun s e => if Region.binds .any e then s ||| 2 ^ e.on ||| acc.getD e.on 0 else s) 0])
def ancs (ops : List Oper) : List Nat := ancsFrom ops []

/-- What is asked of a region whose order is open: whatever an operation looks at is written in the same order always. -/
def okDraw (ops : Array Oper) : Bool :=
  ops.toList.zipIdx.all (fun x => x.1.after.toList.all fun e => !Region.binds .any e || e.on < x.2) &&
  ops.toList.zipIdx.all (fun y => ops.toList.zipIdx.all fun x => !(decide (x.2 < y.2)) || ((ancs ops.toList).getD y.2 0).testBit x.2 || Oper.apart ops x.1 y.1)

def isDefer : Op → Bool
  | .defer _ => true
  | _ => false
def okCode (G nt : Nat) : Code → Bool
  | .region _ ops d => ops.toList.all (okOper G nt) && (!d || (okDraw ops && ops.toList.all fun o => !isDefer o.op))
  | .seq a b => okCode G nt a && okCode G nt b
  | .cond c a b => okOperand G c && okCode G nt a && okCode G nt b
  | .block _ b => okCode G nt b
  | .loop b => okCode G nt b
  | .scope b => okCode G nt b
  | .rangeFunc g ps a b => okOperand G g && ps.toList.all (fun t => decide (t < nt)) && okCode G nt a && okCode G nt b
  | _ => true

def RowOK (P : Program) (ρ : Loc) (w : World) (L : L4) : ARow → Prop
  | .cells cs e use => ∃ cs' e' fz, w.heap[L.blk]? = some (.cells cs' e' fz) ∧ (∀ o v, cs[o]? = some v → ∃ v', cs'[L.off + o]? = some v' ∧ VR ρ v v') ∧
      (use ≠ .row → use ≠ .emp → L.esz = 0) ∧ (use ≠ .ro → e' = e ∧ L.off = 0 ∧ fzOK fz cs'.size ∧ L.fin = cs'.size ∧ (use = .row → L.esz = P.cellsOf e) ∧ (use = .emp → L.esz = P.cellsOf e ∧ cs'.size = 0))
  | .iter s pos => w.heap[L.blk]? = some (.stringIter s pos) ∧ L.off = 0
  | .loop tmps params assign body state pending => ∃ tmps' fn defers, w.heap[L.blk]? = some (.loop { state, pending, fn, tmps := tmps', params, assign, body, defers }) ∧ (∀ t, VR ρ (tget tmps t) (tmps'.getD t undef)) ∧
      params.toList.all (fun t => decide (t < tmps'.size)) = true ∧ okCode P.globals.size tmps'.size assign = true ∧ okCode P.globals.size tmps'.size body = true
  | .map es clock => ∃ es' : Array MapEntry, w.heap[L.blk]? = some (.map es' clock) ∧ es'.size = es.length ∧ ∀ (k : Nat) (key val : Value) (born : Nat), es[k]? = some (key, val, born) → ∃ e' : MapEntry, es'[k]? = some e' ∧ e'.key = key ∧ e'.born = born ∧ VR ρ val e'.val
  | .miter m since seen last => L.off = 0 ∧ ∃ M, ρ m = some M ∧ w.heap[L.blk]? = some (.mapIter (some M.blk) since seen.toArray last)

structure Rel (P : Program) (ρ : Loc) (A : Heap) (w : World) : Prop where
  sup : ∀ i, A.length ≤ i → ρ i = none
  has : ∀ i r, hget A i = some r → ∃ L, ρ i = some L
  row : ∀ i r L, hget A i = some r → ρ i = some L → RowOK P ρ w L r
  sep : ∀ i j r s L M, hget A i = some r → hget A j = some s → ρ i = some L → ρ j = some M → i ≠ j → r.isOwn = true → L.blk ≠ M.blk

def OwnIn (ρ : Loc) (A : Heap) (b : Nat) : Prop := ∃ i r L, hget A i = some r ∧ ρ i = some L ∧ r.isOwn = true ∧ L.blk = b

/-- The block is a loop's record. -/
def IsLoop (w : World) (b : Nat) : Prop := ∃ r, w.heap[b]? = some (.loop r)

/-- A PIECE OF A RUN: blocks that are not own stay as they are. -/
structure Moves (ρ : Loc) (A : Heap) (w : World) (ρ' : Loc) (A' : Heap) (w' : World) : Prop where
  pre : Ext ρ ρ'
  len : A.length ≤ A'.length
  same : ∀ i, i < A.length → ρ' i = ρ i
  size : w.heap.size ≤ w'.heap.size
  frame : ∀ b, b < w.heap.size → ¬ OwnIn ρ A b → w'.heap[b]? = w.heap[b]?
  rows : ∀ i r L, hget A' i = some r → ρ' i = some L → (i < A.length ∧ ∃ r0, hget A i = some r0 ∧ (r.isOwn = true → r0.isOwn = true)) ∨ w.heap.size ≤ L.blk ∨ OwnIn ρ A L.blk
  out : w'.os = w.os ∧ w'.output = w.output
  loops : ∀ b, IsLoop w b → IsLoop w' b

theorem Moves.own {ρ ρ' : Loc} {A A' : Heap} {w w' : World} (h : Moves ρ A w ρ' A' w') : ∀ b, b < w.heap.size → OwnIn ρ' A' b → OwnIn ρ A b := by
  rintro b hb ⟨i, r, L, hi, hL, hr, rfl⟩
  rcases h.rows i r L hi hL with ⟨hlt, r0, h0, ho⟩ | h1 | h1
  · exact ⟨i, r0, L, h0, by rw [← h.same i hlt]; exact hL, ho hr, rfl⟩
  · omega
  · exact h1
theorem Moves.refl (ρ : Loc) (A : Heap) (w : World) : Moves ρ A w ρ A w := ⟨Ext.refl _, Nat.le_refl _, fun _ _ => rfl, Nat.le_refl _, fun _ _ _ => rfl, fun i r _ hi _ => .inl ⟨hget_lt hi, r, hi, id⟩, ⟨rfl, rfl⟩, fun _ h => h⟩
theorem Moves.trans {ρ ρ1 ρ2 : Loc} {A A1 A2 : Heap} {w w1 w2 : World} (h : Moves ρ A w ρ1 A1 w1) (h' : Moves ρ1 A1 w1 ρ2 A2 w2) : Moves ρ A w ρ2 A2 w2 :=
  ⟨h.pre.trans h'.pre, Nat.le_trans h.len h'.len, fun i hi => (h'.same i (Nat.lt_of_lt_of_le hi h.len)).trans (h.same i hi), Nat.le_trans h.size h'.size, fun b hb hn => by
    rw [h'.frame b (Nat.lt_of_lt_of_le hb h.size) (fun ho => hn (h.own b hb ho)), h.frame b hb hn],
   fun i r L hi hL => by
    rcases h'.rows i r L hi hL with ⟨hlt, r1, h1, ho1⟩ | h1 | ⟨k, r1, L1, a1, a2, a3, a4⟩
    · rw [h'.same i hlt] at hL
      rcases h.rows i r1 L h1 hL with ⟨hlt0, r0, h0, ho0⟩ | h2 | h2
      · exact .inl ⟨hlt0, r0, h0, fun hr => ho0 (ho1 hr)⟩
      · exact .inr (.inl h2)
      · exact .inr (.inr h2)
    · exact .inr (.inl (Nat.le_trans h.size h1))
    · rcases h.rows k r1 L1 a1 a2 with ⟨hlt0, r0, h0, ho0⟩ | h2 | h2
      · exact .inr (.inr ⟨k, r0, L1, h0, by rw [← h.same k hlt0]; exact a2, ho0 a3, a4⟩)
      · exact .inr (.inl (by omega))
      · exact .inr (.inr (a4 ▸ h2)),
   ⟨h'.out.1.trans h.out.1, h'.out.2.trans h.out.2⟩, fun b hb => h'.loops b (h.loops b hb)⟩

noncomputable def ev (l : List Value) : Operand → Value
  | .tmp t => tget l t
  | .const v => v
  | .global g => .pointer (some ⟨g, 0, none⟩)
  | .func f => .func (.func f) #[] #[]

/-- The frame of a call. -/
structure StR (ρ : Loc) (nt : Nat) (l : List Value) (a : Act) : Prop where
  size : a.tmps.size = nt
  tmps : ∀ t, VR ρ (tget l t) (a.tmps.getD t undef)

theorem StR.mono {ρ ρ' : Loc} {nt : Nat} {l : List Value} {a : Act} (h : StR ρ nt l a) (hp : Ext ρ ρ') : StR ρ' nt l a :=
  ⟨h.size, fun t => (h.tmps t).mono hp⟩
theorem VR.undef (ρ : Loc) : VR ρ undef undef := .tuple rfl fun k v v' a => by simp at a
theorem StR.put {ρ : Loc} {nt : Nat} {l : List Value} {a : Act} (h : StR ρ nt l a) {d : Option Nat} {v v' : Value} (hd : ∀ x, d = some x → x < nt) (hv : VR ρ v v') : StR ρ nt (tput l d v) (a.put d v') := by
  cases d with
  | none => exact h
  | some d =>
    have hlt : d < a.tmps.size := by rw [h.size]; exact hd d rfl
    refine ⟨by simp [Act.put, h.size], fun t => ?_⟩
    simp only [tput, tget_tset, Act.put]
    by_cases ht : t = d
    · subst ht; simpa [hlt] using hv
    · have := h.tmps t
      simp only [if_neg ht, Array.getD_eq_getD_getElem?, Array.getElem?_setIfInBounds_ne (Ne.symm ht)] at this ⊢
      exact this

theorem put_defers (a : Act) (d : Option Nat) (v : Value) : (a.put d v).defers = a.defers := by cases d <;> rfl

/-- The first blocks are the package's variables. -/
def Globs (ρ : Loc) (G : Nat) : Prop := ∀ g, g < G → ∃ e f, ρ g = some ⟨g, 0, e, f⟩
theorem Globs.mono {ρ ρ' : Loc} {G : Nat} (h : Globs ρ G) (hp : Ext ρ ρ') : Globs ρ' G := fun g hg => by
  obtain ⟨e, f, h⟩ := h g hg
  exact ⟨e, f, hp g _ h⟩
theorem StR.ev {ρ : Loc} {nt G : Nat} {l : List Value} {a : Act} (h : StR ρ nt l a) (hg : Globs ρ G) {x : Operand} (hx : okOperand G x = true) : VR ρ (ev l x) (a.eval x) := by
  cases x with
  | tmp t => exact h.tmps t
  | const v => exact VR.refl ρ hx
  | global g =>
    obtain ⟨e, f, hg⟩ := hg g (by simpa [okOperand] using hx)
    have := VR.ptr (o := 0) hg
    simpa [Abs.ev, Act.eval] using this
  | func f => exact .func rfl rfl rfl (fun k v v' a => by simp at a) (fun k v v' a => by simp at a)
end Go.Abs
/-
The abstract machine: how its rows go on when the world's memory is read, written, or made.
-/
namespace Go.Abs
open Go

theorem RowOK.lt {P : Program} {ρ : Loc} {w : World} {L : L4} {r : ARow} (h : RowOK P ρ w L r) : L.blk < w.heap.size := by
  cases r with
  | cells cs e use => obtain ⟨cs', e', fz, hb, _⟩ := h; exact (Array.getElem?_eq_some_iff.1 hb).1
  | iter s pos => exact (Array.getElem?_eq_some_iff.1 h.1).1
  | loop => obtain ⟨_, _, _, hb, _⟩ := h; exact (Array.getElem?_eq_some_iff.1 hb).1
  | map => obtain ⟨_, hb, _⟩ := h; exact (Array.getElem?_eq_some_iff.1 hb).1
  | miter => obtain ⟨_, _, _, hb⟩ := h; exact (Array.getElem?_eq_some_iff.1 hb).1
theorem RowOK.move {P : Program} {ρ ρ' : Loc} {w w' : World} {L : L4} {r : ARow} (h : RowOK P ρ w L r) (hp : Ext ρ ρ') (hw : w'.heap[L.blk]? = w.heap[L.blk]?) : RowOK P ρ' w' L r := by
  cases r with
  | cells cs e use =>
    obtain ⟨cs', e', fz, hb, hc, ho⟩ := h
    exact ⟨cs', e', fz, hw.trans hb, fun o v hv => let ⟨v', a, b⟩ := hc o v hv; ⟨v', a, b.mono hp⟩, ho⟩
  | iter s pos => exact ⟨hw.trans h.1, h.2⟩
  | loop => obtain ⟨t, f, d, hb, ht, ho⟩ := h; exact ⟨t, f, d, hw.trans hb, fun k => (ht k).mono hp, ho⟩
  | map => obtain ⟨es, hb, hs, he⟩ := h; exact ⟨es, hw.trans hb, hs, fun k key val born hk => let ⟨e, a, b, c, d⟩ := he k key val born hk; ⟨e, a, b, c, d.mono hp⟩⟩
  | miter => obtain ⟨ho, M, hM, hb⟩ := h; exact ⟨ho, M, hp _ _ hM, hw.trans hb⟩
theorem RowOK.loop_iff {P : Program} {ρ : Loc} {w : World} {L : L4} {r : ARow} (h : RowOK P ρ w L r) : IsLoop w L.blk ↔ r.isLoop = true := by
  cases r with
  | cells cs e use => obtain ⟨_, _, _, hb, _⟩ := h; simp [IsLoop, hb, ARow.isLoop]
  | iter s pos => simp [IsLoop, h.1, ARow.isLoop]
  | loop => obtain ⟨_, _, _, hb, _⟩ := h; simp [IsLoop, hb, ARow.isLoop]
  | map => obtain ⟨_, hb, _⟩ := h; simp [IsLoop, hb, ARow.isLoop]
  | miter => obtain ⟨_, _, _, hb⟩ := h; simp [IsLoop, hb, ARow.isLoop]
theorem IsLoop.of_eq {w w' : World} {b : Nat} (h : w'.heap[b]? = w.heap[b]?) (hl : IsLoop w b) : IsLoop w' b := let ⟨r, hr⟩ := hl; ⟨r, h.trans hr⟩

theorem Rel.found {P : Program} {ρ : Loc} {A : Heap} {w : World} (h : Rel P ρ A w) {i : Nat} {r : ARow} (hi : hget A i = some r) : ∃ L, ρ i = some L ∧ RowOK P ρ w L r := by
  obtain ⟨L, hL⟩ := h.has i r hi
  exact ⟨L, hL, h.row i r L hi hL⟩
theorem Rel.row' {P : Program} {ρ : Loc} {A : Heap} {w : World} (h : Rel P ρ A w) {i : Nat} {r : ARow} {L : L4} (hL : ρ i = some L) (hi : hget A i = some r) : RowOK P ρ w L r := h.row i r L hi hL

theorem Rel.heap {P : Program} {ρ : Loc} {A : Heap} {w w' : World} (h : Rel P ρ A w) (hw : w'.heap = w.heap) (hout : w'.os = w.os ∧ w'.output = w.output := by exact ⟨rfl, rfl⟩) : Rel P ρ A w' ∧ Moves ρ A w ρ A w' :=
  ⟨⟨h.sup, h.has, fun i r L hi hL => (h.row i r L hi hL).move (Ext.refl _) (by rw [hw]), h.sep⟩, Ext.refl _, Nat.le_refl _, fun _ _ => rfl, by rw [hw]; exact Nat.le_refl _, fun b _ _ => by rw [hw], fun i r _ hi _ => .inl ⟨hget_lt hi, r, hi, id⟩, hout, fun b hb => hb.of_eq (by rw [hw])⟩

theorem put_inv {ρ : Loc} {n : Nat} {L M : L4} {i : Nat} (h : ρ.put n L i = some M) : (i ≠ n ∧ ρ i = some M) ∨ (i = n ∧ M = L) := by
  unfold Loc.put at h
  split at h
  · cases h; exact .inr ⟨‹_›, rfl⟩
  · exact .inl ⟨‹_›, h⟩
theorem hget_snoc {A : Heap} {x : Option ARow} {i : Nat} {r : ARow} (h : hget (A ++ [x]) i = some r) : (i < A.length ∧ hget A i = some r) ∨ (i = A.length ∧ x = some r) := by
  rw [hget_append] at h
  split at h
  · exact .inl ⟨‹_›, h⟩
  · cases hk : i - A.length with
    | zero => rw [hk] at h; exact .inr ⟨by omega, h⟩
    | succ k => rw [hk] at h; simp [] at h

theorem old_alloc (w : World) (o : Obj) (i : Nat) (h : i < w.heap.size) : (w.alloc o).heap[i]? = w.heap[i]? := by
  show (w.heap.push o)[i]? = _
  rw [Array.getElem?_push_lt h, Array.getElem?_eq_getElem h]
/-- A NEW BLOCK. -/
theorem Rel.alloc {P : Program} {ρ : Loc} {A : Heap} {w : World} (h : Rel P ρ A w) {o : Obj} {r : ARow} {esz fin : Nat}
    (hr : RowOK P (ρ.put A.length ⟨w.heap.size, 0, esz, fin⟩) (w.alloc o) ⟨w.heap.size, 0, esz, fin⟩ r) :
    Rel P (ρ.put A.length ⟨w.heap.size, 0, esz, fin⟩) (A ++ [some r]) (w.alloc o) ∧ Moves ρ A w (ρ.put A.length ⟨w.heap.size, 0, esz, fin⟩) (A ++ [some r]) (w.alloc o) := by
  have hx : Ext ρ (ρ.put A.length ⟨w.heap.size, 0, esz, fin⟩) := Ext.put (h.sup _ (Nat.le_refl _)) _
  have old : ∀ b, b < w.heap.size → (w.alloc o).heap[b]? = w.heap[b]? := fun b hb => old_alloc w o b hb
  have get : ∀ i q L, hget (A ++ [some r]) i = some q → ρ.put A.length ⟨w.heap.size, 0, esz, fin⟩ i = some L → (i < A.length ∧ hget A i = some q ∧ ρ i = some L) ∨ (i = A.length ∧ q = r ∧ L = ⟨w.heap.size, 0, esz, fin⟩) := by
    intro i q L hi hL
    rcases hget_snoc hi with ⟨hlt, hi⟩ | ⟨e, hx⟩
    · rcases put_inv hL with ⟨_, hL⟩ | ⟨h1, _⟩
      · exact .inl ⟨hlt, hi, hL⟩
      · omega
    · rcases put_inv hL with ⟨h1, _⟩ | ⟨_, e2⟩
      · exact absurd e h1
      · cases hx; exact .inr ⟨e, rfl, e2⟩
  refine ⟨⟨?_, ?_, ?_, ?_⟩, hx, by simp, fun i hi => by simp [Loc.put, Nat.ne_of_lt hi], by simp, fun b hb _ => old b hb, ?_, ⟨rfl, rfl⟩, fun b hb => hb.of_eq (old b (let ⟨_, hr⟩ := hb; (Array.getElem?_eq_some_iff.1 hr).1))⟩
  · intro i hi
    simp at hi
    have : ¬ i = A.length := by omega
    simp [Loc.put, this, h.sup i (by omega)]
  · intro i q hi
    rcases hget_snoc hi with ⟨hlt, hi⟩ | ⟨rfl, _⟩
    · obtain ⟨L, hL⟩ := h.has i q hi
      exact ⟨L, hx i L hL⟩
    · exact ⟨_, Loc.put_self _ _ _⟩
  · intro i q L hi hL
    rcases get i q L hi hL with ⟨_, hi, hL⟩ | ⟨_, rfl, rfl⟩
    · have := h.row i q L hi hL
      exact this.move hx (old _ this.lt)
    · exact hr
  · intro i j q s L M hi hj hL hM hne hq
    rcases get i q L hi hL with ⟨_, hi1, hL1⟩ | ⟨e1, e2, e3⟩ <;> rcases get j s M hj hM with ⟨_, hj1, hM1⟩ | ⟨f1, f2, f3⟩
    · exact h.sep i j q s L M hi1 hj1 hL1 hM1 hne hq
    · have := (h.row i q L hi1 hL1).lt
      rw [f3]; simp only; omega
    · have := (h.row j s M hj1 hM1).lt
      rw [e3]; simp only; omega
    · omega
  · intro i q L hi hL
    rcases get i q L hi hL with ⟨hlt, hi1, hL1⟩ | ⟨e1, e2, e3⟩
    · exact .inl ⟨hlt, q, hi1, id⟩
    · rw [e3]; exact .inr (.inl (Nat.le_refl _))

/-- AN OWN ROW TURNS. -/
theorem Rel.setOwn {P : Program} {ρ : Loc} {A : Heap} {w w' : World} (h : Rel P ρ A w) {i : Nat} {q q' : ARow} {L : L4}
    (hi : hget A i = some q) (own : q.isOwn = true) (own' : q'.isOwn = true) (hL : ρ i = some L) (hnew : RowOK P ρ w' L q') (hother : ∀ b, b ≠ L.blk → w'.heap[b]? = w.heap[b]?) (hsz : w'.heap.size = w.heap.size) (hout : w'.os = w.os ∧ w'.output = w.output := by exact ⟨rfl, rfl⟩) (hk : q.isLoop = true → q'.isLoop = true := by intro h; cases h) :
    Rel P ρ (hset A i (some q')) w' ∧ Moves ρ A w ρ (hset A i (some q')) w' := by
  have get : ∀ j r, hget (hset A i (some q')) j = some r → (j = i ∧ r = q') ∨ (j ≠ i ∧ hget A j = some r) := by
    intro j r hj
    rw [hget_hset] at hj
    split at hj
    · rename_i hh; obtain ⟨rfl, _⟩ := hh; cases hj; exact .inl ⟨rfl, rfl⟩
    · rename_i hh
      refine .inr ⟨fun e => hh ⟨e.symm, ?_⟩, hj⟩
      exact hget_lt hj
  refine ⟨⟨fun k hk => h.sup k (by simpa using hk), fun j r hj => ?_, ?_, ?_⟩, Ext.refl _, by simp, fun _ _ => rfl, by omega, ?_, ?_, hout, ?_⟩
  · rcases get j r hj with ⟨rfl, rfl⟩ | ⟨hne, hj⟩
    · exact ⟨L, hL⟩
    · exact h.has j r hj
  · intro j r M hj hM
    rcases get j r hj with ⟨rfl, rfl⟩ | ⟨hne, hj⟩
    · rw [hL] at hM; cases hM; exact hnew
    · have hrow := h.row j r M hj hM
      exact hrow.move (Ext.refl _) (hother _ (fun e => h.sep i j _ r L M hi hj hL hM (Ne.symm hne) own e.symm))
  · intro j k r s M N hj hk hM hN hne hr
    rcases get j r hj with ⟨e1, e2⟩ | ⟨hnj, hj1⟩ <;> rcases get k s hk with ⟨f1, f2⟩ | ⟨hnk, hk1⟩
    · exact absurd (e1.trans f1.symm) hne
    · subst e1; exact h.sep j k _ s M N hi hk1 hM hN hne own
    · subst f1; exact h.sep j k r _ M N hj1 hi hM hN hne hr
    · exact h.sep j k r s M N hj1 hk1 hM hN hne hr
  · intro b _ hn
    exact hother b fun e => hn ⟨i, _, L, hi, hL, own, e.symm⟩
  · intro j r M hj hM
    rcases get j r hj with ⟨e1, _⟩ | ⟨hnj, hj⟩
    · subst e1; exact .inl ⟨hget_lt hi, q, hi, fun _ => own⟩
    · exact .inl ⟨hget_lt hj, r, hj, id⟩
  · intro b hb
    by_cases e : b = L.blk
    · subst e; exact hnew.loop_iff.2 (hk ((h.row i q L hi hL).loop_iff.1 hb))
    · exact hb.of_eq (hother b e)

/-- CELLS OF AN OWN ROW ARE WRITTEN. -/
theorem Rel.setRow {P : Program} {ρ : Loc} {A : Heap} {w : World} (h : Rel P ρ A w) {i : Nat} {cs cs2 : List Value} {e : TypeId} {use : Use} {L : L4} {cs' cs2' : Array Value} {w' : World} {fz : Nat × Nat}
    (hi : hget A i = some (.cells cs e use)) (hu : use ≠ .ro) (hL : ρ i = some L) (hw : w.heap[L.blk]? = some (.cells cs' e fz)) (hnew : w'.heap[L.blk]? = some (.cells cs2' e fz)) (hother : ∀ b, b ≠ L.blk → w'.heap[b]? = w.heap[b]?) (hsz : w'.heap.size = w.heap.size) (hs : cs2'.size = cs'.size)
    (hc : ∀ (o : Nat) (v : Value), cs2[o]? = some v → ∃ v', cs2'[o]? = some v' ∧ VR ρ v v') (hout : w'.os = w.os ∧ w'.output = w.output := by exact ⟨rfl, rfl⟩) :
    Rel P ρ (hset A i (some (.cells cs2 e use))) w' ∧ Moves ρ A w ρ (hset A i (some (.cells cs2 e use))) w' := by
  have own : ∀ cs, ARow.isOwn (.cells cs e use) = true := fun cs => by cases use <;> simp_all [ARow.isOwn]
  obtain ⟨c0, e0, f0, hb, _, ho', ho⟩ := h.row i _ L hi hL
  rw [hw] at hb; cases hb
  obtain ⟨_, o2, o3, o4, o5, o6⟩ := ho hu
  exact h.setOwn hi (own _) (own _) hL ⟨cs2', e, fz, hnew, fun o v hv => by rw [o2, Nat.zero_add]; exact hc o v hv, ho', fun _ => ⟨rfl, o2, by rw [hs]; exact o3, by rw [o4, hs], o5, fun hu => by rw [hs]; exact o6 hu⟩⟩ hother hsz hout (by intro h; cases h)

/-- AN OWN ROW IS GIVEN UP, AND A NEW NUMBER STANDS FOR ITS BLOCK. -/
theorem Rel.renew {P : Program} {ρ : Loc} {A : Heap} {w : World} (h : Rel P ρ A w) {i : Nat} {cs : List Value} {e : TypeId} {use : Use} {L : L4}
    (hi : hget A i = some (.cells cs e use)) (hu : use ≠ .ro) (hL : ρ i = some L) :
    Rel P (ρ.put A.length L) (hset A i none ++ [some (.cells cs e use)]) w ∧ Moves ρ A w (ρ.put A.length L) (hset A i none ++ [some (.cells cs e use)]) w := by
  have hx : Ext ρ (ρ.put A.length L) := Ext.put (h.sup _ (Nat.le_refl _)) _
  have own : ARow.isOwn (.cells cs e use) = true := by cases use <;> simp_all [ARow.isOwn]
  have get0 : ∀ j r, hget (hset A i none ++ [some (.cells cs e use)]) j = some r → (j = A.length ∧ r = .cells cs e use) ∨ (j ≠ i ∧ j < A.length ∧ hget A j = some r) := by
    intro j r hj
    rcases hget_snoc hj with ⟨hlt, hj⟩ | ⟨rfl, hx⟩
    · rw [hset_length] at hlt
      rw [hget_hset] at hj
      split at hj
      · cases hj
      · rename_i hh
        exact .inr ⟨fun e => hh ⟨e.symm, hlt⟩, hlt, hj⟩
    · cases hx; exact .inl ⟨by simp, rfl⟩
  have get : ∀ j r M, hget (hset A i none ++ [some (.cells cs e use)]) j = some r → ρ.put A.length L j = some M →
      (j = A.length ∧ r = .cells cs e use ∧ M = L) ∨ (j ≠ i ∧ j ≠ A.length ∧ hget A j = some r ∧ ρ j = some M) := by
    intro j r M hj hM
    rcases get0 j r hj with ⟨e1, e2⟩ | ⟨h1, h2, h3⟩
    · rcases put_inv hM with ⟨h1, _⟩ | ⟨_, e3⟩
      · exact absurd e1 h1
      · exact .inl ⟨e1, e2, e3⟩
    · rcases put_inv hM with ⟨_, hM⟩ | ⟨h4, _⟩
      · exact .inr ⟨h1, by omega, h3, hM⟩
      · omega
  refine ⟨⟨?_, ?_, ?_, ?_⟩, hx, by simp, fun k hk => by simp [Loc.put, Nat.ne_of_lt hk], Nat.le_refl _, fun _ _ _ => rfl, ?_, ⟨rfl, rfl⟩, fun _ h => h⟩
  · intro k hk
    simp at hk
    have : ¬ k = A.length := by omega
    simp [Loc.put, this, h.sup k (by omega)]
  · intro j r hj
    rcases get0 j r hj with ⟨rfl, _⟩ | ⟨_, _, hj⟩
    · exact ⟨L, Loc.put_self _ _ _⟩
    · obtain ⟨M, hM⟩ := h.has j r hj
      exact ⟨M, hx j M hM⟩
  · intro j r M hj hM
    rcases get j r M hj hM with ⟨rfl, rfl, rfl⟩ | ⟨_, _, hj, hM⟩
    · exact (h.row i _ M hi hL).move hx rfl
    · exact (h.row j r M hj hM).move hx rfl
  · intro j k r s M N hj hk hM hN hne hr
    rcases get j r M hj hM with ⟨e1, e2, e3⟩ | ⟨n1, _, hj1, hM1⟩ <;> rcases get k s N hk hN with ⟨f1, f2, f3⟩ | ⟨n2, _, hk1, hN1⟩
    · exact absurd (e1.trans f1.symm) hne
    · subst e3; exact h.sep i k _ s M N hi hk1 hL hN1 (Ne.symm n2) own
    · subst f3; exact h.sep j i r _ M N hj1 hi hM1 hL n1 hr
    · exact h.sep j k r s M N hj1 hk1 hM1 hN1 hne hr
  · intro j r M hj hM
    rcases get j r M hj hM with ⟨rfl, rfl, rfl⟩ | ⟨_, _, hj, hM⟩
    · exact .inr (.inr ⟨i, _, M, hi, hL, own, rfl⟩)
    · exact .inl ⟨hget_lt hj, r, hj, id⟩

/-- ROWS MAY BE FORGOTTEN. -/
theorem Rel.forget {P : Program} {ρ : Loc} {A : Heap} {w : World} (h : Rel P ρ A w) (i : Nat) : Rel P ρ (hset A i none) w ∧ Moves ρ A w ρ (hset A i none) w := by
  have get : ∀ j r, hget (hset A i none) j = some r → hget A j = some r := by
    intro j r hj
    rw [hget_hset] at hj
    split at hj
    · cases hj
    · exact hj
  exact ⟨⟨fun k hk => h.sup k (by simpa using hk), fun j r hj => h.has j r (get j r hj), fun j r L hj hL => h.row j r L (get j r hj) hL, fun j k r s L M hj hk => h.sep j k r s L M (get j r hj) (get k s hk)⟩,
    Ext.refl _, by simp, fun _ _ => rfl, Nat.le_refl _, fun _ _ _ => rfl, fun j r L hj _ => .inl ⟨hget_lt (get j r hj), r, get j r hj, id⟩, ⟨rfl, rfl⟩, fun _ h => h⟩
/-- AN OWN ROW IS GIVEN UP; ITS BLOCK MAY TURN. -/
theorem Rel.drop {P : Program} {ρ : Loc} {A : Heap} {w w' : World} (h : Rel P ρ A w) {i : Nat} {q : ARow} {L : L4} (hi : hget A i = some q) (own : q.isOwn = true) (hL : ρ i = some L)
    (hother : ∀ b, b ≠ L.blk → w'.heap[b]? = w.heap[b]?) (hsz : w'.heap.size = w.heap.size) (hout : w'.os = w.os ∧ w'.output = w.output := by exact ⟨rfl, rfl⟩) (hk : q.isLoop = false := by rfl) : Rel P ρ (hset A i none) w' ∧ Moves ρ A w ρ (hset A i none) w' := by
  have get : ∀ j r, hget (hset A i none) j = some r → j ≠ i ∧ hget A j = some r := by
    intro j r hj
    rw [hget_hset] at hj
    split at hj
    · cases hj
    · rename_i hh
      exact ⟨fun e => hh ⟨e.symm, hget_lt hj⟩, hj⟩
  refine ⟨⟨fun k hk => h.sup k (by simpa using hk), fun j r hj => h.has j r (get j r hj).2, fun j r M hj hM => ?_, fun j k r s L M hj hk => h.sep j k r s L M (get j r hj).2 (get k s hk).2⟩,
    Ext.refl _, by simp, fun _ _ => rfl, by omega, fun b _ hn => hother b fun e => hn ⟨i, q, L, hi, hL, own, e.symm⟩, fun j r M hj _ => .inl ⟨hget_lt (get j r hj).2, r, (get j r hj).2, id⟩, hout, fun b hb => hb.of_eq (hother b fun e => by subst e; have := (h.row i q L hi hL).loop_iff.1 hb; rw [hk] at this; cases this)⟩
  obtain ⟨hne, hj⟩ := get j r hj
  exact (h.row j r M hj hM).move (Ext.refl _) (hother _ fun e => h.sep i j q r L M hi hj hL hM (Ne.symm hne) own e.symm)
end Go.Abs
/-
The abstract machine: what each operation does. Everything here reckons; that it is what the model does stands in the next texts.
-/
namespace Go.Abs
open Go

/-- The value of an operation that touches no memory. -/
def pureVal (P : Program) : Sem Next → Option Value
  | .pure (.value v) => some v
  | .program k => pureVal P (k P)
  | .mark _ k => pureVal P k
  | _ => none

def descAgg : TypeDesc → Bool
  | .struct _ | .array _ _ => true
  | _ => false

def aPart (P : Program) (t : TypeId) (cs : List Value) (o : Nat) : Option Value :=
  match P.underlying t with
  | none => none
  | some d =>
    if descAgg d then
      match P.info? t with
      | none => none
      | some i => if o + i.size ≤ cs.length then some (.agg ((cs.drop o).take i.size).toArray) else none
    else cs[o]?

noncomputable def aLoad (P : Program) (t : TypeId) (p : Value) (A : Heap) : Option Value :=
  match p with
  | .pointer (some ⟨i, o, none⟩) =>
    match hget A i with
    | some (.cells cs _ _) => aPart P t cs o
    | _ => none
  | _ => none

def splice (cs : List Value) (o : Nat) (vs : List Value) : List Value := cs.take o ++ vs ++ cs.drop (o + vs.length)

noncomputable def aStore (P : Program) (lim : Nat) (t : TypeId) (p x : Value) (A : Heap) : Option Heap :=
  match p with
  | .pointer (some ⟨i, o, none⟩) =>
    match hget A i, P.info? t with
    | some (.cells cs e use), some ti =>
      if use ≠ .ro ∧ lim ≤ i ∧ x.cells.toList.length = ti.size ∧ o + x.cells.toList.length ≤ cs.length ∧ x.cells.toList.all oneC = true then
        some (hset A i (some (.cells (splice cs o x.cells.toList) e use)))
      else none
    | _, _ => none
  | _ => none

def aAlloc (P : Program) (t : TypeId) (A : Heap) : Option (Value × Heap) :=
  match P.info? t with
  | none => none
  | some i =>
    match i.zero with
    | none => none
    | some z => if freeB z then some (.pointer (some ⟨A.length, 0, none⟩), A ++ [some (.cells z.cells.toList t .var)]) else none

def aBox (t : TypeId) (x : Value) (A : Heap) : Value × Heap := (.pointer (some ⟨A.length, 0, none⟩), A ++ [some (.cells x.cells.toList t .var)])

def aFill (place : Nat → Option (Nat × Nat)) (cells : List Value) : List (Nat × Value) → Option (List Value)
  | [] => some cells
  | (i, v) :: rest =>
    match place i with
    | none => none
    | some (off, size) =>
      if v.cells.toList.length = size ∧ off + size ≤ cells.length ∧ isJunk v = false then aFill place (splice cells off v.cells.toList) rest else none

/-- n cells of zeros, an element after the other. -/
def aZeros (z : List Value) : Nat → List Value
  | 0 => []
  | n + 1 => z ++ aZeros z n

def aBuildSlice (P : Program) (t : TypeId) (len : Nat) (parts : List (Nat × Value)) (A : Heap) : Option (Value × Heap) :=
  match P.underlying t with
  | some (.slice e) =>
    match P.info? e with
    | some ti =>
      match ti.zero with
      | some z =>
        if freeB z ∧ z.cells.toList.length = ti.size ∧ len * ti.size ≤ 16777216 then
          match aFill (fun i => some (i * ti.size, ti.size)) (aZeros z.cells.toList len) parts with
          | some cells => some (.slice (some ⟨A.length, 0, none⟩) len len, A ++ [some (.cells cells e (if len = 0 then .emp else .row))])
          | none => none
        else none
      | none => none
    | none => none
  | _ => none

def aPlaces (P : Program) (fields : List Field) : Option (List (Nat × Nat)) :=
  match fields with
  | [] => some []
  | f :: fs =>
    match P.info? f.type, aPlaces P fs with
    | some i, some ps => some ((f.offset, i.size) :: ps)
    | _, _ => none

def aBuild (P : Program) (t : TypeId) (parts : List (Nat × Value)) : Option Value :=
  match P.info? t with
  | none => none
  | some ti =>
    match ti.zero with
    | none => none
    | some z =>
      if freeB z then
        match P.underlying t with
        | some (.struct fields) =>
          match aPlaces P fields.toList with
          | some ps =>
            match aFill (fun i => ps[i]?) z.cells.toList parts with
            | some cells => some (.agg cells.toArray)
            | none => none
          | none => none
        | some (.array _ e) =>
          match P.info? e with
          | some ei =>
            match aFill (fun i => some (i * ei.size, ei.size)) z.cells.toList parts with
            | some cells => some (.agg cells.toArray)
            | none => none
          | none => none
        | _ => none
      else none

def aMakeSlice (P : Program) (t : TypeId) (l c : Value) (A : Heap) : Option (Value × Heap) :=
  match P.underlying t, l, c with
  | some (.slice e), .int _ n, .int _ m =>
    match P.info? e with
    | some ti =>
      match ti.zero with
      | some z =>
        if freeB z ∧ z.cells.toList.length = ti.size ∧ 0 ≤ n ∧ n ≤ m ∧ m ≤ 1099511627776 ∧ (ti.bytes : Int) * m ≤ 281474976710656 then
          some (.slice (some ⟨A.length, 0, none⟩) n.toNat n.toNat, A ++ [some (.cells (aZeros z.cells.toList n.toNat) e .row)])
        else none
      | none => none
    | none => none
  | _, _, _ => none

def aFieldAddr (P : Program) (t : TypeId) (p : Value) (f : Nat) : Option Value :=
  match P.underlying t, p with
  | some (.struct fields), .pointer (some ⟨i, o, none⟩) =>
    match fields[f]? with
    | some fd =>
      match P.info? fd.type with
      | some ti => if ti.size = 0 then none else some (.pointer (some ⟨i, o + fd.offset, none⟩))
      | none => none
    | none => none
  | _, _ => none

def aIndexAddr (P : Program) (t : TypeId) (x ix : Value) : Option Value :=
  match P.underlying t, x, ix with
  | some (.slice e), .slice (some ⟨i, o, none⟩) n _, .int _ k =>
    match P.info? e with
    | some ti => if 0 ≤ k ∧ k < n then some (.pointer (some ⟨i, o + k.toNat * ti.size, none⟩)) else none
    | none => none
  | some (.array n e), .pointer (some ⟨i, o, none⟩), .int _ k =>
    match P.info? e with
    | some ti => if 0 ≤ k ∧ k < n then some (.pointer (some ⟨i, o + k.toNat * ti.size, none⟩)) else none
    | none => none
  | _, _, _ => none

/-- An array's address, out of a slice that is long enough. -/
def aArrayAt (P : Program) (t : TypeId) (x : Value) : Option Value :=
  match P.underlying t, x with
  | some (.array n _), .slice (some ⟨i, o, none⟩) len _ => if n ≤ len ∧ 0 < len then some (.pointer (some ⟨i, o, none⟩)) else none
  | _, _ => none

def aBound (d : Nat) : Option Value → Option Nat
  | none => some d
  | some (.int _ n) => if 0 ≤ n then some n.toNat else none
  | some _ => none

noncomputable def aSlice (P : Program) (t : TypeId) (x : Value) (lo hi : Option Value) (A : Heap) : Option Value :=
  match P.underlying t, x with
  | some (.slice e), .slice (some ⟨i, o, none⟩) n _ =>
    match P.info? e, aBound 0 lo, aBound n hi, hget A i with
    | some ti, some l, some h, some (.cells _ re use) =>
      if l ≤ h ∧ h ≤ n ∧ (use = .row ∨ use = .emp → P.cellsOf re = ti.size) then some (.slice (some ⟨i, o + l * ti.size, none⟩) (h - l) (h - l)) else none
    | _, _, _, _ => none
  | some (.slice e), .slice none 0 0 =>
    match P.info? e, aBound 0 lo, aBound 0 hi with
    | some _, some 0, some 0 => some (.slice none 0 0)
    | _, _, _ => none
  | some (.array n e), .pointer (some ⟨i, o, none⟩) =>
    match P.info? e, aBound 0 lo, aBound n hi, hget A i with
    | some ti, some l, some h, some (.cells _ _ .var) => if l ≤ h ∧ h ≤ n then some (.slice (some ⟨i, o + l * ti.size, none⟩) (h - l) (h - l)) else none
    | some ti, some l, some h, some (.cells _ _ .ro) => if l ≤ h ∧ h ≤ n then some (.slice (some ⟨i, o + l * ti.size, none⟩) (h - l) (h - l)) else none
    | _, _, _, _ => none
  | _, _ => none

def aField (P : Program) (t : TypeId) (x : Value) (f : Nat) : Option Value :=
  match P.underlying t, x with
  | some (.struct fields), .agg cs =>
    match fields[f]? with
    | some fd => aPart P fd.type cs.toList fd.offset
    | none => none
  | _, _ => none

def aIndex (P : Program) (t : TypeId) (x ix : Value) : Option Value :=
  match P.underlying t, x, ix with
  | some (.array n e), .agg cs, .int _ k =>
    match P.info? e with
    | some ti => if 0 ≤ k ∧ k < n then aPart P e cs.toList (k.toNat * ti.size) else none
    | none => none
  | some .string, .string s, .int _ k => if 0 ≤ k then (s.data.toList[k.toNat]?).map fun b => .int .u8 b.toNat else none
  | _, _, _ => none

/-- Whether one of two values is nil, and the other not. -/
def aEqNil (P : Program) (t : TypeId) (x y : Value) : Option Bool :=
  match P.underlying t, x, y with
  | some (.pointer _), .pointer (some _), .pointer none => some false
  | some (.pointer _), .pointer none, .pointer (some _) => some false
  | some (.slice _), .slice (some _) _ _, .slice none _ _ => some false
  | some (.slice _), .slice none _ _, .slice (some _) _ _ => some false
  | some (.func ..), .nilFunc, .func .. => some false
  | some (.func ..), .func .., .nilFunc => some false
  | some (.interface _), .nilIface, .iface .. => some false
  | some (.interface _), .iface .., .nilIface => some false
  | some (.map ..), .map (some _), .map none => some false
  | some (.map ..), .map none, .map (some _) => some false
  | some (.pointer te), .pointer (some ⟨i, o, none⟩), .pointer (some ⟨j, p, none⟩) => if i = j ∧ o = p ∧ (P.info? te).isSome = true then some true else none
  | _, _, _ => none

/-- The cells that a slice, or a string, has. -/
noncomputable def aCellsOf (size : Nat) (x : Value) (A : Heap) : Option (Nat × List Value) :=
  match x with
  | .slice none 0 0 => some (0, [])
  | .slice (some ⟨i, o, none⟩) n _ =>
    match hget A i with
    | some (.cells cs _ _) => if o + n * size ≤ cs.length then some (n, (cs.drop o).take (n * size)) else none
    | _ => if n = 0 then some (0, []) else none
  | _ => none

/-- What is appended: the elements of a slice of the same type, or the bytes of a string. -/
noncomputable def aSource (P : Program) (size : Nat) (t t' : TypeId) (x : Value) (A : Heap) : Option (Nat × List Value) :=
  if t' = t then aCellsOf size x A
  else match P.underlying t', x with
    | some .string, .string s => if size = 1 then some (s.size, s.data.toList.map fun b => .int .u8 b.toNat) else none
    | _, _ => none

noncomputable def aAppend (P : Program) (lim : Nat) (ats : Array TypeId) (s x : Value) (A : Heap) : Option (Value × Heap) :=
  match ats[0]?, ats[1]? with
  | some t, some t' =>
    match P.underlying t with
    | some (.slice e) =>
      match P.info? e with
      | some ti =>
        match ti.zero with
        | some z =>
          if ats.size = 2 ∧ freeB z ∧ z.cells.toList.length = ti.size then
            match P.underlying t', x, s with
            | some (.int _), .int _ n, .slice none 0 0 =>
              if 0 < n ∧ 0 < ti.size ∧ n.toNat * ti.bytes ≤ 70368744177664 ∧ n ≤ 1099511627776 then
                some (.slice (some ⟨A.length, 0, none⟩) n.toNat n.toNat, A ++ [some (.cells (aZeros z.cells.toList n.toNat) e .row)])
              else none
            | _, _, _ =>
              match aSource P ti.size t t' x A with
              | some (0, _) =>
                match s with
                | .slice none 0 0 => some (s, A)
                | .slice (some ⟨_, _, none⟩) _ _ => some (s, A)
                | _ => none
              | some (m + 1, new) =>
                if new.all oneC = true then
                  match s with
                  | .slice none 0 0 =>
                    if (m + 1) * ti.bytes ≤ 70368744177664 ∧ m + 1 ≤ 1099511627776 then
                      some (.slice (some ⟨A.length, 0, none⟩) (m + 1) (m + 1), A ++ [some (.cells new e .row)])
                    else none
                  | .slice (some ⟨i, 0, none⟩) n _ =>
                    match hget A i with
                    | some (.cells cs re .row) =>
                      if lim ≤ i ∧ re = e ∧ n * ti.size ≤ cs.length ∧ (n + (m + 1)) * ti.bytes ≤ 70368744177664 ∧ n + (m + 1) ≤ 1099511627776 then
                        some (.slice (some ⟨A.length, 0, none⟩) (n + (m + 1)) (n + (m + 1)), hset A i none ++ [some (.cells (cs.take (n * ti.size) ++ new) e .row)])
                      else none
                    | some (.cells _ re .emp) =>
                      if n = 0 ∧ ti.size ≠ 0 ∧ re = e ∧ (m + 1) * ti.bytes ≤ 70368744177664 ∧ m + 1 ≤ 1099511627776 then
                        some (.slice (some ⟨A.length, 0, none⟩) (m + 1) (m + 1), A ++ [some (.cells new e .row)])
                      else none
                    | _ => none
                  | _ => none
                else none
              | none => none
          else none
        | none => none
      | none => none
    | _ => none
  | _, _ => none

noncomputable def aCopy (P : Program) (lim : Nat) (ats : Array TypeId) (d x : Value) (A : Heap) : Option (Value × Heap) :=
  match ats[0]? with
  | some t =>
    match P.underlying t with
    | some (.slice e) =>
      match P.info? e with
      | some ti =>
        match aCellsOf ti.size x A with
        | some (m, cells) =>
          match d with
          | .slice none 0 0 => some (.int .i64 0, A)
          | .slice (some ⟨i, o, none⟩) n _ =>
            match hget A i with
            | some (.cells cs re use) =>
              if use ≠ .ro ∧ lim ≤ i ∧ o + (Nat.min m n) * ti.size ≤ cs.length ∧ cells.all oneC = true then
                some (.int .i64 (Nat.min m n : Nat), hset A i (some (.cells (splice cs o (cells.take ((Nat.min m n) * ti.size))) re use)))
              else none
            | _ => none
          | _ => none
        | none => none
      | none => none
    | _ => none
  | none => none

def aLen (P : Program) (ats : Array TypeId) (x : Value) : Option Value :=
  match ats[0]? with
  | some t =>
    match P.underlying t, x with
    | some (.slice _), .slice _ n _ => some (.int .i64 n)
    | some (.array n _), _ => some (.int .i64 n)
    | some .string, .string s => some (.int .i64 s.size)
    | _, _ => none
  | none => none

def aBytes : List Value → Option (List UInt8)
  | [] => some []
  | .int .u8 n :: l => (aBytes l).map (UInt8.ofNat n.toNat :: ·)
  | _ => none

/-- string([]byte), []byte(string). -/
noncomputable def aConvert (P : Program) (src dst : TypeId) (x : Value) (A : Heap) : Option (Value × Heap) :=
  match P.underlying src, P.underlying dst, x with
  | some (.slice e), some .string, x =>
    match P.underlying e, aCellsOf 1 x A with
    | some (.int .u8), some (_, cells) => (aBytes cells).map fun l => (.string ⟨l.toArray⟩, A)
    | _, _ => none
  | some .string, some (.slice e), .string s =>
    match P.underlying e, P.info? e with
    | some (.int .u8), some ti =>
      if ti.size = 1 then
        some (.slice (some ⟨A.length, 0, none⟩) s.size s.size, A ++ [some (.cells (s.data.toList.map fun b => .int .u8 b.toNat) e .row)])
      else none
    | _, _ => none
  | some (.slice _), some (.slice e), .slice (some ⟨i, o, none⟩) n c =>
    match P.underlying e, hget A i with
    | some (.int .u8), some (.cells _ _ u) => if src = dst ∧ n ≠ 0 ∧ u ≠ .ro then some (.slice (some ⟨i, o, none⟩) n c, A) else none
    | _, _ => none
  | some (.pointer t), some .unsafePointer, .pointer (some ⟨i, o, none⟩) =>
    match P.info? t, hget A i with
    | some j, some (.cells cs _ _) => if j.size ≠ 0 ∧ o < cs.length then some (.pointer (some ⟨i, o, none⟩), A) else none
    | _, _ => none
  | some .unsafePointer, some (.pointer u), .pointer (some ⟨i, o, none⟩) =>
    match P.info? u, hget A i with
    | some _, some (.cells cs e use) => if use ≠ .ro ∧ liesAt P P.depth e (cs.length / P.cellsOf e) o u 1 = true then some (.pointer (some ⟨i, o, none⟩), A) else none
    | _, _ => none
  | _, _, _ => none

/-- Cells that are bytes. -/
def aBytes8 : List Value → Option (List UInt8)
  | [] => some []
  | .int .u8 n :: l => if 0 ≤ n ∧ n < 256 then (aBytes8 l).map (UInt8.ofNat n.toNat :: ·) else none
  | _ => none

/-- unsafe.SliceData. -/
def aSliceData (x : Value) : Option Value :=
  match x with
  | .slice none _ _ => some (.pointer none)
  | .slice (some ⟨i, o, none⟩) n _ => if n ≠ 0 then some (.pointer (some ⟨i, o, none⟩)) else none
  | _ => none

/-- unsafe.String; the row is given up. -/
noncomputable def aUnsafeString (P : Program) (lim : Nat) (ats : Array TypeId) (p n : Value) (A : Heap) : Option (Value × Heap) :=
  match ats.toList, n with
  | [pt, _], .int .i64 n =>
    if n = 0 then match p with
      | .pointer none => some (.string ⟨#[]⟩, A)
      | _ => none
    else match p with
      | .pointer (some ⟨i, 0, none⟩) =>
        match P.underlying pt, hget A i with
        | some (.pointer e), some (.cells cs e' u) =>
          match aBytes8 (cs.take n.toNat) with
          | some l => if e' = e ∧ P.cellsOf e = 1 ∧ 0 < n ∧ n ≤ 9223372036854775807 ∧ n.toNat ≤ cs.length ∧ u ≠ .ro ∧ lim ≤ i then some (.string ⟨l.toArray⟩, hset A i none) else none
          | none => none
        | _, _ => none
      | _ => none
  | _, _ => none

noncomputable def aRange (P : Program) (t : TypeId) (x : Value) (A : Heap) : Option (Value × Heap) :=
  match P.underlying t, x with
  | some .string, .string s => some (.pointer (some ⟨A.length, 0, none⟩), A ++ [some (.iter s 0)])
  | some (.map _ _), .map (some m) =>
    match hget A m with
    | some (.map _ clock) => some (.pointer (some ⟨A.length, 0, none⟩), A ++ [some (.miter m clock [] clock)])
    | _ => none
  | _, _ => none
/-- The entry that an iterator over a map stands at. -/
noncomputable def aEntry (x : Value) (A : Heap) : Option Value :=
  match x with
  | .pointer (some ⟨i, 0, none⟩) =>
    match hget A i with
    | some (.miter m _ seen last) =>
      match seen.getLast?, hget A m with
      | some s, some (.map es clock) =>
        if clock = last then
          match es.find? fun e => e.2.2 == s with
          | some e => if freeB e.1 then some (.tuple #[e.1, e.2.1]) else none
          | none => none
        else none
      | _, _ => none
    | _ => none
  | _ => none

noncomputable def aNext (lim : Nat) (x : Value) (isString : Bool) (A : Heap) : Option (Value × Heap) :=
  match x, isString with
  | .pointer (some ⟨i, 0, none⟩), true =>
    match hget A i with
    | some (.iter s pos) =>
      if lim ≤ i then
        if pos < s.size then
          some (.tuple #[.bool true, .int .i64 pos, .int .i32 (Utf8.decode s pos).1], hset A i (some (.iter s (pos + (Utf8.decode s pos).2))))
        else some (.tuple #[.bool false], A)
      else none
    | _ => none
  | _, _ => none

/-- Whether two structs, or arrays, of plain parts are equal: told without a choice, so that the parts may be open. -/
def aEqParts (P : Program) (f : TypeId → Value → Value → Option Bool) (xs ys : List Value) : List (TypeId × Nat) → Option Bool
  | [] => some true
  | (t, o) :: ps => match aPart P t xs o, aPart P t ys o with
    | some a, some b => match f t a b, aEqParts P f xs ys ps with
      | some e, some r => some (e && r)
      | _, _ => none
    | _, _ => none
def aEqDeep (P : Program) : Nat → TypeId → Value → Value → Option Bool
  | 0, _, _, _ => none
  | d + 1, t, x, y =>
    match P.underlying t, x, y with
    | some .bool, .bool a, .bool b => some (a == b)
    | some (.int _), .int j a, .int k b => if j = k then some (a == b) else none
    | some .string, .string a, .string b => some (a == b)
    | some (.float _), .float j a, .float k b => if j = k then some (Op.floatEq j a b) else none
    | some (.complex _), .complex j a b, .complex k a' b' => if j = k then some (Op.floatEq j a a' && Op.floatEq j b b') else none
    | some (.struct fs), .agg xs, .agg ys => if P.stoodInHeld t || fs.toList.any (fun f => f.name == "_") then none else aEqParts P (aEqDeep P d) xs.toList ys.toList (fs.toList.map fun f => (f.type, f.offset))
    | some (.array n e), .agg xs, .agg ys => match P.info? e with
      | some ti => aEqParts P (aEqDeep P d) xs.toList ys.toList ((List.range n).map fun i => (e, i * ti.size))
      | none => none
    | _, _, _ => none
def aEqAgg (P : Program) (t : TypeId) (x y : Value) : Option Bool :=
  match x, y with
  | .agg _, .agg _ => if P.eqGuardType P.depth t then none else aEqDeep P 20 t x y
  | _, _ => none

/-- A map's keys are plain. -/
def plainKey : TypeDesc → Bool
  | .int _ | .string | .bool => true
  | _ => false
/-- A struct's fields are plain, a cell each. -/
def flatFields (P : Program) : Nat → List Field → Bool
  | _, [] => true
  | i, f :: fs => f.offset == i && f.name != "_" && (match P.underlying f.type with | some d => plainKey d | none => false) && flatFields P (i + 1) fs
def keyAtom : Value → Bool
  | .int _ _ | .string _ | .bool _ => true
  | _ => false
/-- A key that can be looked up: plain, or a struct of plain parts. -/
def keyOK (P : Program) (d : TypeDesc) (k : Value) : Bool :=
  match d with
  | .struct fs => flatFields P 0 fs.toList && (match k with | .agg cs => cs.toList.all keyAtom && cs.size == fs.size | _ => false)
  | d => plainKey d && keyAtom k
def aSameKey (P : Program) (kt : TypeId) (d : TypeDesc) (k key : Value) : Option Bool :=
  match d with
  | .struct fs => match key with
    | .agg cs => if cs.size = fs.size ∧ cs.toList.all atomB = true then aEqDeep P 20 kt k key else none
    | _ => none
  | d => Instr.sameNow d k key
def aFind (P : Program) (kt : TypeId) (d : TypeDesc) (k : Value) : List (Value × Value × Nat) → Nat → Option (Option (Nat × Value))
  | [], _ => some none
  | (key, val, _) :: es, i =>
    match aSameKey P kt d k key with
    | some true => some (some (i, val))
    | some false => aFind P kt d k es (i + 1)
    | none => none
noncomputable def aEntries (x : Value) (A : Heap) : Option (List (Value × Value × Nat)) :=
  match x with
  | .map none => some []
  | .map (some i) => match hget A i with
    | some (.map es _) => some es
    | _ => none
  | _ => none
noncomputable def aLookup (P : Program) (t : TypeId) (x k : Value) (ok : Bool) (A : Heap) : Option Value :=
  match P.underlying t, aEntries x A with
  | some (.map kt et), some es =>
    match P.underlying kt with
    | some d =>
      if keyOK P d k = true then
        match aFind P kt d k es 0 with
        | some (some (_, v)) => some (if ok then .tuple #[v, .bool true] else v)
        | some none => match P.info? et with
          | some ti => match ti.zero with
            | some z => if freeB z then some (if ok then .tuple #[z, .bool false] else z) else none
            | none => none
          | none => none
        | none => none
      else none
    | none => none
  | _, _ => none
def aMakeMap (P : Program) (t : TypeId) (r : Option Value) (A : Heap) : Option (Value × Heap) :=
  match r with
  | none => some (.map (some A.length), A ++ [some (.map [] 0)])
  | some (.int _ _) => match P.underlying t with
    | some (.map ..) => some (.map (some A.length), A ++ [some (.map [] 0)])
    | _ => none
  | _ => none
def lset {α : Type} : List α → Nat → α → List α
  | [], _, _ => []
  | _ :: l, 0, x => x :: l
  | y :: l, n + 1, x => y :: lset l n x
noncomputable def aMapUpdate (P : Program) (lim : Nat) (t : TypeId) (m k x : Value) (A : Heap) : Option Heap :=
  match P.underlying t, m with
  | some (.map kt _), .map (some i) =>
    match P.underlying kt, hget A i with
    | some d, some (.map es clock) =>
      if keyOK P d k = true ∧ lim ≤ i then
        match aFind P kt d k es 0 with
        | some (some (j, _)) => match es[j]? with
          | some (_, _, born) => some (hset A i (some (.map (lset es j (k, x, born)) clock)))
          | none => none
        | some none => some (hset A i (some (.map (es ++ [(k, x, clock)]) (clock + 1))))
        | none => none
      else none
    | _, _ => none
  | _, _ => none

def aNilCheck : Value → Option Value
  | .pointer (some a) => some (.pointer (some a))
  | .func (.func k) f c => some (.func (.func k) f c)
  | .slice a n c => some (.slice a n c)
  | _ => none

noncomputable def aPure (P : Program) (l : List Value) (o : Oper) (A : Heap) : Option (Value × Heap) :=
  if (o.op.operands.toList.all fun x => freeB (ev l x)) then
    match pureVal P (execOp (ev l) o) with
    | some v => if freeB v then some (v, A) else none
    | none => none
  else none

noncomputable def parts (l : List Value) (ps : Array (Nat × Operand)) : List (Nat × Value) := ps.toList.map fun p => (p.1, ev l p.2)

/-- ONE OPERATION THAT IS NO CALL OF A Go FUNCTION: its value, and the rows behind it. -/
noncomputable def aOp (P : Program) (lim : Nat) (l : List Value) (o : Oper) (A : Heap) : Option (Value × Heap) :=
  match o.op with
  | .move x => some (ev l x, A)
  | .assign x => some (ev l x, A)
  | .pick c a b => match ev l c with
    | .bool t => some (if t then ev l a else ev l b, A)
    | _ => none
  | .load t a => (aLoad P t (ev l a) A).map (·, A)
  | .store t a x => (aStore P lim t (ev l a) (ev l x) A).map (undef, ·)
  | .alloc t => aAlloc P t A
  | .box t x => if isJunk (ev l x) = true then none else some (aBox t (ev l x) A)
  | .build t ps => (aBuild P t (parts l ps)).map (·, A)
  | .buildSlice t n ps => aBuildSlice P t n (parts l ps) A
  | .makeSlice t x c => aMakeSlice P t (ev l x) (ev l c) A
  | .fieldAddr t x f => (aFieldAddr P t (ev l x) f).map (·, A)
  | .indexAddr t x i => (aIndexAddr P t (ev l x) (ev l i)).map (·, A)
  | .slice t x lo hi none => match P.underlying t with
    | some .string => aPure P l o A
    | _ => (aSlice P t (ev l x) (lo.map (ev l)) (hi.map (ev l)) A).map (·, A)
  | .field t x f => (aField P t (ev l x) f).map (·, A)
  | .index t x i => (aIndex P t (ev l x) (ev l i)).map (·, A)
  | .extract x i => match ev l x with
    | .tuple vs => (vs.toList[i]?).map (·, A)
    | _ => none
  | .makeFunc fn f c => if Fn.notYield fn then some (.func fn (f.map (ev l)) (c.map (ev l)), A) else none
  | .makeInterface t x => if P.concrete t then some (.iface t (ev l x), A) else none
  | .nilCheck x => (aNilCheck (ev l x)).map (·, A)
  | .sliceToArrayPointer t x => (aArrayAt P t (ev l x)).map (·, A)
  | .binOp .eql t x y _ => match aEqNil P t (ev l x) (ev l y) with
    | some b => some (.bool b, A)
    | none => match aEqAgg P t (ev l x) (ev l y) with
      | some b => some (.bool b, A)
      | none => aPure P l o A
  | .binOp .neq t x y _ => match aEqNil P t (ev l x) (ev l y) with
    | some b => some (.bool !b, A)
    | none => match aEqAgg P t (ev l x) (ev l y) with
      | some b => some (.bool !b, A)
      | none => aPure P l o A
  | .range t x => aRange P t (ev l x) A
  | .next x s => aNext lim (ev l x) s A
  | .entry x => (aEntry (ev l x) A).map (·, A)
  | .makeMap t r => aMakeMap P t (r.map (ev l)) A
  | .lookup t x k ok => (aLookup P t (ev l x) (ev l k) ok A).map (·, A)
  | .mapUpdate t m k x => (aMapUpdate P lim t (ev l m) (ev l k) (ev l x) A).map (undef, ·)
  | .insert t m k x => (aMapUpdate P lim t (ev l m) (ev l k) (ev l x) A).map (undef, ·)
  | .convert s d x => if freeB (ev l x) && (match P.underlying d with | some (.slice _) => false | _ => true) then aPure P l o A else aConvert P s d (ev l x) A
  | .call { callee := .builtin .append, args, argTypes } => match args.toList with
    | [a, b] => aAppend P lim argTypes (ev l a) (ev l b) A
    | _ => none
  | .call { callee := .builtin .copy, args, argTypes } => match args.toList with
    | [a, b] => aCopy P lim argTypes (ev l a) (ev l b) A
    | _ => none
  | .call { callee := .builtin .len, args, argTypes } => match args.toList with
    | [a] => (aLen P argTypes (ev l a)).map (·, A)
    | _ => none
  | .call { callee := .builtin .unsafeSliceData, args, .. } => match args.toList with
    | [a] => (aSliceData (ev l a)).map (·, A)
    | _ => none
  | .call { callee := .builtin .unsafeString, args, argTypes } => match args.toList with
    | [a, b] => aUnsafeString P lim argTypes (ev l a) (ev l b) A
    | _ => none
  | .call { callee := .builtin _, .. } => aPure P l o A
  | .binOp .. => aPure P l o A
  | .unOp .. => aPure P l o A
  | _ => none
end Go.Abs
/-
The abstract machine: each operation is what the model does. First part: reading, writing, making.
-/
namespace Go.Abs
open Go

def GoesV (P : Program) (ρ : Loc) (A : Heap) (w : World) (s : Sem Value) (v : Value) (A' : Heap) : Prop :=
  ∃ v' w' ρ', s.run P w = .ok v' w' ∧ VR ρ' v v' ∧ Rel P ρ' A' w' ∧ Moves ρ A w ρ' A' w'

theorem GoesV.same {P : Program} {ρ : Loc} {A : Heap} {w : World} {s : Sem Value} {v v' : Value} (hR : Rel P ρ A w) (h : s.run P w = .ok v' w) (hv : VR ρ v v') : GoesV P ρ A w s v A :=
  ⟨v', w, ρ, h, hv, hR, Moves.refl _ _ _⟩

theorem run_isAgg {P : Program} {w : World} {t : TypeId} {d : TypeDesc} (ht : P.underlying t = some d) : (isAgg t).run P w = .ok (descAgg d) w := by
  cases d <;> simp [isAgg, run_underlying ht, descAgg]
theorem run_typeInfo {P : Program} {w : World} {t : TypeId} {i : TypeInfo} (hi : P.info? t = some i) : (typeInfo t).run P w = .ok i w := by simp [typeInfo, hi]
theorem run_sizeOf {P : Program} {w : World} {t : TypeId} {i : TypeInfo} (hi : P.info? t = some i) : (sizeOf t).run P w = .ok i.size w := by simp [sizeOf, run_typeInfo hi]
theorem run_zeroValue {P : Program} {w : World} {t : TypeId} {i : TypeInfo} {z : Value} (hi : P.info? t = some i) (hz : i.zero = some z) : (zeroValue t).run P w = .ok z w := by simp [zeroValue, run_typeInfo hi, hz]

theorem row_sub {ρ : Loc} {cs : List Value} {cs' : Array Value} {off o n : Nat} (hc : ∀ (o : Nat) (v : Value), cs[o]? = some v → ∃ v', cs'[off + o]? = some v' ∧ VR ρ v v') (h : o + n ≤ cs.length) :
    VRs ρ ((cs.drop o).take n) ((cs'.toList.drop (off + o)).take n) := by
  have hlen : n = 0 ∨ off + o + n ≤ cs'.size := by
    rcases Nat.eq_zero_or_pos n with h0 | h0
    · exact .inl h0
    · obtain ⟨v', hv', _⟩ := hc (o + (n - 1)) cs[o + (n - 1)] (List.getElem?_eq_getElem (by omega))
      have := (Array.getElem?_eq_some_iff.1 hv').1
      exact .inr (by omega)
  refine ⟨?_, fun k v v' hv hv' => ?_⟩
  · rcases hlen with h0 | h0
    · simp [h0]
    · simp; omega
  · rw [List.getElem?_take] at hv hv'
    split at hv
    · rename_i hk
      rw [if_pos hk] at hv'
      rw [List.getElem?_drop] at hv hv'
      obtain ⟨u, hu, hr⟩ := hc _ _ hv
      have : u = v' := by
        have h2 : cs'[off + (o + k)]? = some v' := by rw [← Array.getElem?_toList, ← Nat.add_assoc]; exact hv'
        rw [h2] at hu; cases hu; rfl
      exact this ▸ hr
    · cases hv

theorem VRs.agg {ρ : Loc} {l l' : List Value} (h : VRs ρ l l') : VR ρ (.agg l.toArray) (.agg l'.toArray) :=
  .agg (by simpa using h.1) (by simpa using h.2)
theorem VR.agg_inv {ρ : Loc} {cs : Array Value} {v : Value} (h : VR ρ (.agg cs) v) : ∃ cs', v = .agg cs' ∧ VRs ρ cs.toList cs'.toList := by
  cases h with
  | atom h => simp [atomB] at h
  | agg hs h => exact ⟨_, rfl, by simpa using hs, h⟩
theorem VR.tuple_inv {ρ : Loc} {cs : Array Value} {v : Value} (h : VR ρ (.tuple cs) v) : ∃ cs', v = .tuple cs' ∧ VRs ρ cs.toList cs'.toList := by
  cases h with
  | atom h => simp [atomB] at h
  | tuple hs h => exact ⟨_, rfl, by simpa using hs, h⟩
theorem VR.ptr_inv {ρ : Loc} {i o : Nat} {v : Value} (h : VR ρ (.pointer (some ⟨i, o, none⟩)) v) : ∃ L, ρ i = some L ∧ v = .pointer (some ⟨L.blk, L.off + o, none⟩) := by
  cases h with
  | atom h => simp [atomB] at h
  | ptr h => exact ⟨_, h, rfl⟩
theorem VR.slice_inv {ρ : Loc} {i o n c : Nat} {v : Value} (h : VR ρ (.slice (some ⟨i, o, none⟩) n c) v) :
    ∃ L p c', ρ i = some L ∧ v = .slice (some p) n c' ∧ n ≤ c' ∧ (c' = 0 ∨ p = ⟨L.blk, L.off + o, none⟩) ∧ (L.esz ≠ 0 → L.off + o + c' * L.esz ≤ L.fin) := by
  cases h with
  | atom h => simp [atomB] at h
  | slice h hn hp hb => exact ⟨_, _, _, h, rfl, hn, hp, hb⟩

theorem add_eq (b off n : Nat) : (⟨b, off, none⟩ : Addr).add n = ⟨b, off + n, none⟩ := by unfold Addr.add; split <;> simp_all

theorem loadVar_sound {P : Program} {ρ : Loc} {w : World} {L : L4} {cs : List Value} {e : TypeId} {use : Use} (hR : RowOK P ρ w L (.cells cs e use)) {t : TypeId} {o : Nat} {v : Value}
    (h : aPart P t cs o = some v) : ∃ v', (loadVar t ⟨L.blk, L.off + o, none⟩).run P w = .ok v' w ∧ VR ρ v v' := by
  obtain ⟨cs', e', fz, hb, hc, _, _⟩ := hR
  have hcell : ∀ k, w.cell? ⟨L.blk, k, none⟩ = cs'[k]? := fun k => by simp [World.cell?, hb]
  unfold aPart at h
  split at h
  · cases h
  · rename_i d hd
    split at h
    · rename_i hagg
      split at h
      · cases h
      · rename_i i hi
        split at h
        · rename_i hle
          cases h
          have hs := row_sub hc hle
          have hlen : ((cs'.toList.drop (L.off + o)).take i.size).length = i.size := by rw [← hs.1]; simp; omega
          refine ⟨_, ?_, hs.agg⟩
          have hl := run_loadCells_list (P := P) w ⟨L.blk, L.off + o, none⟩ ((cs'.toList.drop (L.off + o)).take i.size) (fun j u hu => by
            rw [add_eq, hcell, ← Array.getElem?_toList]
            rw [List.getElem?_take] at hu
            split at hu
            · rwa [List.getElem?_drop] at hu
            · cases hu)
          rw [hlen] at hl
          simp [loadVar, run_isAgg hd, hagg, run_sizeOf hi, hl]
        · cases h
    · rename_i hagg
      obtain ⟨v', hv', hr⟩ := hc o v h
      refine ⟨v', ?_, hr⟩
      have hagg' : descAgg d = false := by simpa using hagg
      simp [loadVar, run_isAgg hd, hagg', hcell, hv']

theorem load_sound {P : Program} {ρ : Loc} {A : Heap} {w : World} (hR : Rel P ρ A w) {t : TypeId} {p p' v : Value} (h : aLoad P t p A = some v) (hp : VR ρ p p') :
    GoesV P ρ A w (Instr.loadAt t p') v A := by
  unfold aLoad at h
  split at h
  · rename_i i o
    split at h
    · rename_i cs e use hg
      obtain ⟨L, hL, rfl⟩ := hp.ptr_inv
      obtain ⟨v', hrun, hv⟩ := loadVar_sound (hR.row' hL hg) h
      exact GoesV.same hR (by simp [Instr.loadAt, Instr.sureAddr, hrun]) hv
    · cases h
  · cases h

theorem VR.oneCell {ρ : Loc} {v v' : Value} (h : VR ρ v v') (h1 : oneC v = true) : v'.oneCell' = true := by
  cases h <;> simp_all [Value.oneCell', oneC, isJunk]
theorem oneC_junk {v : Value} (h : v.cells.toList.all oneC = true) : isJunk v = false := by
  cases hj : isJunk v
  · rfl
  · exfalso
    unfold isJunk at hj
    split at hj
    · simp [Value.cells, oneC, isJunk] at h
    · cases hj
theorem VR.cells {ρ : Loc} {v v' : Value} (h : VR ρ v v') (hj : isJunk v = false) : VRs ρ v.cells.toList v'.cells.toList := by
  have h1 : ∀ {x y : Value}, x.cells = #[x] → y.cells = #[y] → VR ρ x y → VRs ρ x.cells.toList y.cells.toList := fun hx hy h => by
    rw [hx, hy]; exact VRs.cons h (VRs.nil ρ)
  cases h with
  | agg hs h => exact ⟨by simp [Value.cells, hs], h⟩
  | atom ha =>
    have hc : v.cells = #[v] := by cases v <;> simp [atomB] at ha <;> rfl
    exact h1 hc hc (.atom ha)
  | ptr h => exact h1 rfl rfl (.ptr h)
  | slice a b c d => exact h1 rfl rfl (.slice a b c d)
  | func a b c d e => exact h1 rfl rfl (.func a b c d e)
  | yield h => exact h1 rfl rfl (.yield h)
  | map h => exact h1 rfl rfl (.map h)
  | iface h => exact h1 rfl rfl (.iface h)
  | tuple a b => exact h1 rfl rfl (.tuple a b)
  | junk h => cases hj

theorem splice_set (cs : List Value) (o : Nat) (v : Value) (vs : List Value) (hl : o + (vs.length + 1) ≤ cs.length) : splice (cs.set o v) (o + 1) vs = splice cs o (v :: vs) := by
  simp only [splice]
  apply List.ext_getElem?
  intro j
  simp only [List.getElem?_append, List.getElem?_take, List.getElem?_drop, List.getElem?_set, List.length_take, List.length_set, List.length_cons, List.length_append]
  by_cases hj : j < o
  · have a1 : j < o + 1 := by omega
    have a2 : ¬ o = j := by omega
    simp [hj, a1, a2, show j < min (o + 1) cs.length from by omega, show j < min o cs.length from by omega, show j < min (o + 1) cs.length + vs.length from by omega, show j < min o cs.length + (vs.length + 1) from by omega]
  · by_cases hj2 : j = o
    · subst hj2
      have : j < cs.length := by omega
      simp [this, show j < min (j + 1) cs.length from by omega, show ¬ j < min j cs.length from by omega, show j < min (j + 1) cs.length + vs.length from by omega, show j < min j cs.length + (vs.length + 1) from by omega, show min j cs.length = j from by omega]
    · have e1 : min (o + 1) cs.length = o + 1 := by omega
      have e2 : min o cs.length = o := by omega
      rw [e1, e2]
      by_cases hj3 : j < o + 1 + vs.length
      · have a1 : ¬ j < o + 1 := by omega
        have a3 : j < o + (vs.length + 1) := by omega
        obtain ⟨m, rfl⟩ : ∃ m, j = o + 1 + m := ⟨j - (o + 1), by omega⟩
        simp [hj3, a1, a3, hj, show o + 1 + m - (o + 1) = m from by omega, show o + 1 + m - o = m + 1 from by omega]
      · have a1 : ¬ j < o + (vs.length + 1) := by omega
        simp only [if_neg hj3, if_neg a1, show o + 1 + vs.length + (j - (o + 1 + vs.length)) = o + (vs.length + 1) + (j - (o + (vs.length + 1))) from by omega, if_neg (show ¬ o = o + (vs.length + 1) + (j - (o + (vs.length + 1))) from by omega)]

/-- Cells written one after the other. -/
theorem setCells_out (b : Nat) : ∀ (vs : List Value) (o : Nat) (w : World), (w.setCells b o vs).os = w.os ∧ (w.setCells b o vs).output = w.output
  | [], _, _ => ⟨rfl, rfl⟩
  | v :: r, o, w => setCells_out b r (o + 1) (w.setCell ⟨b, o, none⟩ v)
theorem setCells_heap (b o : Nat) : ∀ (vs : List Value) (o : Nat) (cs : Array Value) (e : TypeId) (fz : Nat × Nat) (w : World), w.heap[b]? = some (.cells cs e fz) → o + vs.length ≤ cs.size →
    ∃ cs2 : Array Value, (w.setCells b o vs).heap[b]? = some (.cells cs2 e fz) ∧ cs2.toList = splice cs.toList o vs ∧ (∀ k, k ≠ b → (w.setCells b o vs).heap[k]? = w.heap[k]?) ∧ (w.setCells b o vs).heap.size = w.heap.size
  | [], o, cs, e, fz, w, hb, hl => ⟨cs, hb, by simp [splice], fun _ _ => rfl, rfl⟩
  | v :: vs, o, cs, e, fz, w, hb, hl => by
    have hset : (w.setCell ⟨b, o, none⟩ v).heap[b]? = some (.cells (cs.setIfInBounds o v) e fz) := by
      simp [World.setCell, Array.getElem?_modify, hb]
    obtain ⟨cs2, h1, h2, h3, h4⟩ := setCells_heap b o vs (o + 1) (cs.setIfInBounds o v) e fz (w.setCell ⟨b, o, none⟩ v) hset (by simp at hl ⊢; omega)
    refine ⟨cs2, h1, ?_, fun k hk => ?_, ?_⟩
    · rw [h2, Array.toList_setIfInBounds]
      exact splice_set _ _ _ _ (by simp at hl ⊢; omega)
    · show ((w.setCell ⟨b, o, none⟩ v).setCells b (o + 1) vs).heap[k]? = _
      rw [h3 k hk]
      simp [World.setCell, Array.getElem?_modify, Ne.symm hk]
    · show ((w.setCell ⟨b, o, none⟩ v).setCells b (o + 1) vs).heap.size = _
      rw [h4]
      simp [World.setCell]

theorem fz_free {fz : Nat × Nat} {n o : Nat} (h : fzOK fz n) (ho : o < n) : ¬ (fz.1 ≤ o ∧ o < fz.2) := by
  rcases h with rfl | h
  · simp
  · omega

/-- What a write of cells into an own row does. -/
theorem write_sound {P : Program} {ρ : Loc} {A : Heap} {w : World} (hR : Rel P ρ A w) {i o : Nat} {cs vs vs' : List Value} {e : TypeId} {use : Use} {L : L4} (hg : hget A i = some (.cells cs e use)) (hu : use ≠ .ro)
    (hL : ρ i = some L) (hv : VRs ρ vs vs') (hl : o + vs.length ≤ cs.length) (h1 : vs.all oneC = true) :
    ∃ w', (storeCells ⟨L.blk, L.off + o, none⟩ vs').run P w = .ok () w' ∧ Rel P ρ (hset A i (some (.cells (splice cs o vs) e use))) w' ∧ Moves ρ A w ρ (hset A i (some (.cells (splice cs o vs) e use))) w' := by
  obtain ⟨cs', e', fz, hb, hc, _, hown⟩ := hR.row' hL hg
  obtain ⟨rfl, hoff, hfz, hfin, _⟩ := hown hu
  rw [hoff, Nat.zero_add]
  simp only [hoff, Nat.zero_add] at hc
  have hsz : cs.length ≤ cs'.size := by
    rcases Nat.eq_zero_or_pos cs.length with h0 | h0
    · omega
    · obtain ⟨u, hu, _⟩ := hc (cs.length - 1) cs[cs.length - 1] (List.getElem?_eq_getElem (by omega))
      have := (Array.getElem?_eq_some_iff.1 hu).1
      omega
  have hvl := hv.1
  have hrun := run_storeCells_cells (P := P) L.blk o vs' 0 w (fun j hj => by simp [World.cell?, hb]; omega)
    (fun j hj => by
      simp only [World.frozen?, hb]
      have := fz_free hfz (o := o + 0 + j) (by omega)
      obtain ⟨lo, hi⟩ := fz
      simpa using this)
    (fun v hm => by
      obtain ⟨k, hk⟩ := List.mem_iff_getElem?.1 hm
      have hk' : k < vs.length := by rw [hvl]; exact (List.getElem?_eq_some_iff.1 hk).1
      exact VR.oneCell (hv.2 k vs[k] v (List.getElem?_eq_getElem hk') hk) (List.all_eq_true.1 h1 _ (List.getElem_mem hk')))
  obtain ⟨cs2, hb2, hcs2, ho2, hs2⟩ := setCells_heap L.blk o vs' (o + 0) cs' e' fz w hb (by omega)
  refine ⟨_, hrun, hR.setRow hg hu hL hb hb2 ho2 hs2 ?_ ?_ (hout := setCells_out _ _ _ _)⟩
  · have := congrArg List.length hcs2
    simp [splice] at this
    omega
  · intro k v hk
    rw [← Array.getElem?_toList, hcs2]
    simp only [Nat.add_zero, splice, List.getElem?_append, List.length_append, List.length_take, Array.length_toList, List.getElem?_take, List.getElem?_drop] at hk ⊢
    have e1 : min o cs.length = o := by omega
    have e2 : min o cs'.size = o := by omega
    rw [e1] at hk
    rw [e2]
    rw [hvl] at hk
    by_cases hko : k < o
    · simp only [if_pos hko, if_pos (show k < o + vs'.length by omega)] at hk ⊢
      obtain ⟨v', a, b⟩ := hc k v hk
      exact ⟨v', by rw [Array.getElem?_toList]; exact a, b⟩
    · by_cases hk2 : k < o + vs'.length
      · simp only [if_pos hk2, if_neg hko] at hk ⊢
        exact hv.get hk
      · simp only [if_neg hk2] at hk ⊢
        obtain ⟨v', a, b⟩ := hc _ v hk
        exact ⟨v', by rw [Array.getElem?_toList]; exact a, b⟩

theorem store_sound {P : Program} {ρ : Loc} {A A' : Heap} {w : World} {lim : Nat} (hR : Rel P ρ A w) {t : TypeId} {p p' x x' : Value} (h : aStore P lim t p x A = some A') (hp : VR ρ p p') (hx : VR ρ x x') :
    ∃ w', (Instr.storeAt t p' x').run P w = .ok () w' ∧ Rel P ρ A' w' ∧ Moves ρ A w ρ A' w' := by
  unfold aStore at h
  split at h
  · rename_i i o
    split at h
    · rename_i cs e use ti hg hti
      split at h
      · rename_i hh
        obtain ⟨h1, h2, h3, h4, h5⟩ := hh
        cases h
        obtain ⟨L, hL, rfl⟩ := hp.ptr_inv
        obtain ⟨w', hrun, hr, hm⟩ := write_sound hR hg h1 hL (hx.cells (oneC_junk h5)) h4 h5
        refine ⟨w', ?_, hr, hm⟩
        have hc : x'.cells.size = ti.size := by have := (hx.cells (oneC_junk h5)).1; simp at this h3; omega
        simp [Instr.storeAt, Instr.sureAddr, storeVar, run_sizeOf hti, hc, hrun]
      · cases h
    · cases h
  · cases h
end Go.Abs
/-
The abstract machine: each operation is what the model does. Second part: what is made, and addresses.
-/
namespace Go.Abs
open Go

def eszOf (P : Program) (e : TypeId) : Use → Nat
  | .row => P.cellsOf e
  | .emp => P.cellsOf e
  | _ => 0
theorem eszOf_lit {P : Program} {e : TypeId} {len : Nat} : eszOf P e (if len = 0 then .emp else .row) = P.cellsOf e := by split <;> rfl

/-- A new block of cells. -/
theorem new_sound {P : Program} {ρ : Loc} {A : Heap} {w : World} (hR : Rel P ρ A w) {cs : List Value} {cs' : Array Value} {e : TypeId} {use : Use} {fz : Nat × Nat} (hu : use ≠ .ro) (hfz : fzOK fz cs'.size)
    (hc : ∀ (o : Nat) (v : Value), cs[o]? = some v → ∃ v', cs'[o]? = some v' ∧ VR ρ v v') (hemp : use = .emp → cs'.size = 0 := by simp) :
    ∃ L : L4, L = ⟨w.heap.size, 0, eszOf P e use, cs'.size⟩ ∧ Rel P (ρ.put A.length L) (A ++ [some (.cells cs e use)]) (w.alloc (.cells cs' e fz)) ∧
      Moves ρ A w (ρ.put A.length L) (A ++ [some (.cells cs e use)]) (w.alloc (.cells cs' e fz)) ∧ ρ.put A.length L A.length = some L := by
  have h := hR.alloc (o := .cells cs' e fz) (r := .cells cs e use) (esz := eszOf P e use) (fin := cs'.size)
    ⟨cs', e, fz, heap_alloc_new w _, fun o v hv => let ⟨v', a, b⟩ := hc o v hv; ⟨v', by simpa using a, b.mono (Ext.put (hR.sup _ (Nat.le_refl _)) _)⟩,
      fun hu hu2 => by cases use <;> simp_all [eszOf], fun _ => ⟨rfl, rfl, hfz, rfl, fun hu => by subst hu; rfl, fun hu => ⟨by subst hu; rfl, hemp hu⟩⟩⟩
  exact ⟨_, rfl, h.1, h.2, Loc.put_self _ _ _⟩

theorem VRs.cell {ρ : Loc} {l : List Value} {c : Array Value} (h : VRs ρ l c.toList) : ∀ (o : Nat) (v : Value), l[o]? = some v → ∃ v', c[o]? = some v' ∧ VR ρ v v' := fun o v hv => by
  obtain ⟨v', a, b⟩ := h.get hv
  exact ⟨v', by rwa [Array.getElem?_toList] at a, b⟩

theorem free_cells (ρ : Loc) {z : Value} (hz : freeB z = true) : VRs ρ z.cells.toList z.cells.toList := (VR.refl ρ hz).cells (by cases hj : isJunk z <;> first | rfl | (unfold isJunk at hj; split at hj <;> simp_all [freeB, atomB]))

theorem run_newVar (P : Program) (w : World) (t : TypeId) (v : Value) : (newVar t v).run P w = .ok ⟨w.heap.size, 0, none⟩ (w.alloc (.cells v.cells t)) := by
  simp [newVar, newRow]

theorem alloc_sound {P : Program} {ρ : Loc} {A A' : Heap} {w : World} (hR : Rel P ρ A w) {t : TypeId} {v : Value} (h : aAlloc P t A = some (v, A')) :
    GoesV P ρ A w (Instr.alloc t true (.tuple #[])) v A' := by
  unfold aAlloc at h
  split at h
  · cases h
  · rename_i i hi
    split at h
    · cases h
    · rename_i z hz
      split at h
      · rename_i hf
        cases h
        obtain ⟨L, hL, hr, hm, hget⟩ := new_sound hR (e := t) (use := .var) (by simp) (.inl rfl) (free_cells ρ hf).cell
        refine ⟨.pointer (some ⟨w.heap.size, 0, none⟩), _, _, ?_, ?_, hr, hm⟩
        · simp [Instr.alloc, run_zeroValue hi hz, run_newVar]
        · have := VR.ptr (o := 0) hget
          rw [hL] at this
          rwa [hL]
      · cases h

theorem box_sound {P : Program} {ρ : Loc} {A : Heap} {w : World} (hR : Rel P ρ A w) {t : TypeId} {x x' : Value} (hx : VR ρ x x') (hj : isJunk x = false) :
    GoesV P ρ A w (Instr.box t x') (aBox t x A).1 (aBox t x A).2 := by
  obtain ⟨L, hL, hr, hm, hget⟩ := new_sound hR (e := t) (use := .var) (by simp) (.inl rfl) (hx.cells hj).cell
  refine ⟨.pointer (some ⟨w.heap.size, 0, none⟩), _, _, ?_, ?_, hr, hm⟩
  · simp [Instr.box, run_newVar]
  · have := VR.ptr (o := 0) hget
    rw [hL] at this
    rwa [hL]

theorem VRs.splice {ρ : Loc} {a a' b b' : List Value} (h : VRs ρ a a') (h2 : VRs ρ b b') (o : Nat) : VRs ρ (splice a o b) (splice a' o b') := by
  unfold Abs.splice
  rw [← h2.1]
  exact ((h.take o).append h2).append (h.drop _)

theorem foldl_splice : ∀ (vs : List Value) (k off : Nat) (cs : Array Value), off + k + vs.length ≤ cs.size →
    ((vs.zipIdx k).foldl (fun (cs : Array Value) (p : Value × Nat) => cs.setIfInBounds (off + p.2) p.1) cs).toList = splice cs.toList (off + k) vs
  | [], k, off, cs, _ => by simp [splice]
  | v :: vs, k, off, cs, h => by
    simp only [List.zipIdx_cons, List.foldl_cons]
    rw [foldl_splice vs (k + 1) off _ (by simp at h ⊢; omega), Array.toList_setIfInBounds]
    rw [show off + (k + 1) = off + k + 1 by omega]
    exact splice_set _ _ _ _ (by simp at h ⊢; omega)

theorem splice_length (cs : List Value) (o : Nat) (vs : List Value) (h : o + vs.length ≤ cs.length) : (splice cs o vs).length = cs.length := by
  simp [splice]; omega

theorem fill_sound {ρ : Loc} {place : Nat → Option (Nat × Nat)} : ∀ (ps ps' : List (Nat × Value)) (cells r : List Value) (cells' : Array Value), aFill place cells ps = some r → VRs ρ cells cells'.toList →
    ps.length = ps'.length → (∀ (k i : Nat) (v : Value) (i' : Nat) (v' : Value), ps[k]? = some (i, v) → ps'[k]? = some (i', v') → i = i' ∧ VR ρ v v') → ∃ r', Instr.fill place cells' ps' = some r' ∧ VRs ρ r r'.toList
  | [], ps', cells, r, cells', h, hc, hl, hp => by
    cases ps' with
    | nil => cases h; exact ⟨cells', rfl, hc⟩
    | cons x y => simp at hl
  | (i, v) :: ps, ps', cells, r, cells', h, hc, hl, hp => by
    cases ps' with
    | nil => simp at hl
    | cons p' ps' =>
      obtain ⟨i', v'⟩ := p'
      obtain ⟨rfl, hv⟩ := hp 0 i v i' v' rfl rfl
      simp only [aFill] at h
      split at h
      · cases h
      · rename_i off size hpl
        split at h
        · rename_i hh
          have hvc := hv.cells hh.2.2
          have hs : v'.cells.size = size := by have := hvc.1; have := hh.1; simp at *; omega
          have hcl := hc.1
          have hfold : (v'.cells.zipIdx.foldl (fun (cs : Array Value) (p : Value × Nat) => cs.setIfInBounds (off + p.2) p.1) cells').toList = splice cells'.toList off v'.cells.toList := by
            have := foldl_splice v'.cells.toList 0 off cells' (by simp at hcl ⊢; omega)
            rw [← Array.foldl_toList]
            simpa using this
          have hnot : (decide (v'.cells.size ≠ size) || decide (off + v'.cells.size > cells'.size)) = false := by
            simp at hcl
            simp; omega
          obtain ⟨r', hr', hrr⟩ := fill_sound ps ps' (splice cells off v.cells.toList) r _ h (by rw [hfold]; exact hc.splice hvc off) (by simpa using hl)
            (fun k a b c d ha hb => hp (k + 1) a b c d (by simpa using ha) (by simpa using hb))
          refine ⟨r', ?_, hrr⟩
          simp only [Instr.fill, hpl]
          rw [if_neg (by simpa using hnot)]
          exact hr'
        · cases h

theorem aZeros_get (z : List Value) : ∀ (n k : Nat), (aZeros z n)[k]? = if k < n * z.length then z[k % z.length]? else none
  | 0, k => by simp [aZeros]
  | n + 1, k => by
    simp only [aZeros, List.getElem?_append]
    by_cases hk : k < z.length
    · have : k < (n + 1) * z.length := by rw [Nat.succ_mul]; omega
      simp [hk, this, Nat.mod_eq_of_lt hk]
    · rw [if_neg hk, aZeros_get z n]
      have e1 : (k - z.length) % z.length = k % z.length := by
        rw [← Nat.mod_eq_sub_mod (by omega)]
      rw [e1]
      rw [Nat.succ_mul]
      by_cases h2 : k - z.length < n * z.length
      · rw [if_pos h2, if_pos (by omega)]
      · rw [if_neg h2, if_neg (by omega)]
theorem aZeros_len (z : List Value) (n : Nat) : (aZeros z n).length = n * z.length := by
  induction n with
  | zero => simp [aZeros]
  | succ n ih => simp [aZeros, ih, Nat.succ_mul]; omega
theorem aZeros_made (z : Array Value) (n : Nat) : (madeCells z (n * z.size)).toList = aZeros z.toList n := by
  apply List.ext_getElem?
  intro k
  rw [aZeros_get]
  simp only [madeCells, Array.toList_map, Array.toList_range, List.getElem?_map, List.getElem?_range', Array.length_toList]
  by_cases hk : k < n * z.size
  · have hz : 0 < z.size := by
      rcases Nat.eq_zero_or_pos z.size with h0 | h0
      · rw [h0] at hk; simp at hk
      · exact h0
    have hm := Nat.mod_lt k hz
    simp [hk, List.getElem?_range hk, hm]
  · simp [hk, List.getElem?_eq_none]
theorem aZeros_free (ρ : Loc) {z : List Value} (hz : VRs ρ z z) (n : Nat) : VRs ρ (aZeros z n) (aZeros z n) := by
  induction n with
  | zero => exact VRs.nil ρ
  | succ n ih => exact hz.append ih

theorem buildSlice_sound {P : Program} {ρ : Loc} {A A' : Heap} {w : World} (hR : Rel P ρ A w) {t : TypeId} {len : Nat} {ps : List (Nat × Value)} {ps' : Array (Nat × Value)} {v : Value} (h : aBuildSlice P t len ps A = some (v, A'))
    (hl : ps.length = ps'.toList.length) (hp : ∀ (k i : Nat) (v : Value) (i' : Nat) (v' : Value), ps[k]? = some (i, v) → ps'.toList[k]? = some (i', v') → i = i' ∧ VR ρ v v') :
    GoesV P ρ A w (Instr.buildSlice t len ps') v A' := by
  unfold aBuildSlice at h
  split at h
  · rename_i e ht
    split at h
    · rename_i ti hi
      split at h
      · rename_i z hz
        split at h
        · rename_i hh
          obtain ⟨hf, hsz, h24⟩ := hh
          split at h
          · rename_i cells hfill
            cases h
            have hzs : z.cells.size = ti.size := by simpa using hsz
            have base : ((Array.range (len * ti.size)).map (z.cells[· % z.cells.size]!)).toList = aZeros z.cells.toList len := by
              have := aZeros_made z.cells len
              rw [hzs] at this
              rw [← this]; rfl
            obtain ⟨r', hr', hrr⟩ := fill_sound (ρ := ρ) ps ps'.toList _ cells ((Array.range (len * ti.size)).map (z.cells[· % z.cells.size]!)) hfill (by rw [base]; exact aZeros_free ρ (free_cells ρ hf) len) hl hp
            have hcl : r'.size = len * ti.size := by
              have h1 := hrr.1
              have h2 : ∀ (ps : List (Nat × Value)) (cs r : List Value) (pl : Nat → Option (Nat × Nat)), aFill pl cs ps = some r → r.length = cs.length := by
                intro ps
                induction ps with
                | nil => intro cs r pl h; cases h; rfl
                | cons p ps ih =>
                  intro cs r pl h
                  obtain ⟨i, v⟩ := p
                  simp only [aFill] at h
                  split at h
                  · cases h
                  · split at h
                    · rename_i hh
                      rw [ih _ _ _ h, splice_length _ _ _ (by omega)]
                    · cases h
              have h3 := h2 _ _ _ _ hfill
              rw [aZeros_len] at h3
              simp at h1 hzs
              rw [hsz] at h3
              omega
            obtain ⟨L, hL, hr, hm, hget⟩ := new_sound hR (e := e) (use := if len = 0 then .emp else .row) (by split <;> simp) (.inl rfl) hrr.cell (fun hu => by
              rw [hcl]
              by_cases h0 : len = 0
              · rw [h0, Nat.zero_mul]
              · rw [if_neg h0] at hu; cases hu)
            refine ⟨.slice (some ⟨w.heap.size, 0, none⟩) len len, _, _, ?_, ?_, hr, hm⟩
            · have n24 : ¬ (16777216 < len * ti.size) := by omega
              by_cases h0 : len * ti.size = 0
              · have hr2 : Instr.fill (fun i => some (i * ti.size, ti.size)) #[] ps'.toList = some r' := by
                  have : ((Array.range (len * ti.size)).map (z.cells[· % z.cells.size]!)) = #[] := by
                    apply Array.eq_empty_of_size_eq_zero; simp [h0]
                  rw [this] at hr'; exact hr'
                have e0 : (Array.map (fun (_ : Nat) => (default : Value)) (Array.range 0)) = #[] := by apply Array.eq_empty_of_size_eq_zero; simp
                simp [Instr.buildSlice, run_underlying ht, run_sizeOf hi, n24, h0, e0, hr2, newRow]
              · simp [Instr.buildSlice, run_underlying ht, run_sizeOf hi, n24, h0, run_zeroValue hi hz, hr', newRow]
            · refine VR.slice hget (Nat.le_refl _) (.inr ?_) (fun _ => ?_)
              · rw [hL]
              · subst hL
                simp only [eszOf_lit, Program.cellsOf, hi, Option.map_some, Option.getD_some]
                omega
          · cases h
        · cases h
      · cases h
    · cases h
  · cases h

theorem places_eq (P : Program) : ∀ (fs : List Field) (ps : List (Nat × Nat)), aPlaces P fs = some ps → fs.mapM (fun f => (P.info? f.type).map fun i => (f.offset, i.size)) = some ps
  | [], ps, h => by cases h; rfl
  | f :: fs, ps, h => by
    simp only [aPlaces] at h
    split at h
    · rename_i i qs hi hq
      cases h
      have := places_eq P fs qs hq
      simp [List.mapM_cons, hi, this]
    · cases h

theorem build_sound {P : Program} {ρ : Loc} {A : Heap} {w : World} (hR : Rel P ρ A w) {t : TypeId} {ps : List (Nat × Value)} {ps' : Array (Nat × Value)} {v : Value} (h : aBuild P t ps = some v)
    (hl : ps.length = ps'.toList.length) (hp : ∀ (k i : Nat) (v : Value) (i' : Nat) (v' : Value), ps[k]? = some (i, v) → ps'.toList[k]? = some (i', v') → i = i' ∧ VR ρ v v') :
    GoesV P ρ A w (Instr.build t ps') v A := by
  unfold aBuild at h
  split at h
  · cases h
  · rename_i ti hi
    split at h
    · cases h
    · rename_i z hz
      split at h
      · rename_i hf
        split at h
        · rename_i fields ht
          split at h
          · rename_i pl hpl
            split at h
            · rename_i cells hfill
              cases h
              obtain ⟨r', hr', hrr⟩ := fill_sound (ρ := ρ) ps ps'.toList _ cells z.cells hfill (free_cells ρ hf) hl hp
              refine GoesV.same hR (run_build w t ps' r' ?_) hrr.agg
              simp only [Program.built, hi, ht, hz, places_eq P _ _ hpl]
              simpa using hr'
            · cases h
          · cases h
        · rename_i n e ht
          split at h
          · rename_i ei he
            split at h
            · rename_i cells hfill
              cases h
              obtain ⟨r', hr', hrr⟩ := fill_sound (ρ := ρ) ps ps'.toList _ cells z.cells hfill (free_cells ρ hf) hl hp
              refine GoesV.same hR (run_build w t ps' r' ?_) hrr.agg
              simp only [Program.built, hi, ht, hz, he]
              exact hr'
            · cases h
          · cases h
        · cases h
      · cases h
end Go.Abs
/-
The abstract machine: each operation is what the model does. Third part: slices, addresses, parts.
-/
namespace Go.Abs
open Go

theorem VR.int_inv {ρ : Loc} {k : IntKind} {n : Int} {v : Value} (h : VR ρ (.int k n) v) : v = .int k n := h.atom_eq rfl
theorem VR.bool_inv {ρ : Loc} {b : Bool} {v : Value} (h : VR ρ (.bool b) v) : v = .bool b := h.atom_eq rfl
theorem VR.string_inv {ρ : Loc} {s : ByteArray} {v : Value} (h : VR ρ (.string s) v) : v = .string s := h.atom_eq rfl
theorem makeSlice_sound {P : Program} {ρ : Loc} {A A' : Heap} {w : World} (hR : Rel P ρ A w) {t : TypeId} {l l' c c' v : Value} (h : aMakeSlice P t l c A = some (v, A')) (hl : VR ρ l l') (hc : VR ρ c c') :
    GoesV P ρ A w (Instr.makeSlice t l' c') v A' := by
  unfold aMakeSlice at h
  split at h
  · rename_i e kl n kc m ht
    split at h
    · rename_i ti hi
      split at h
      · rename_i z hz
        split at h
        · rename_i hh
          obtain ⟨hf, hsz, h0, hnm, hm1, hb⟩ := hh
          cases h
          obtain rfl := hl.int_inv
          obtain rfl := hc.int_inv
          have hzs : z.cells.size = ti.size := by simpa using hsz
          have hmade : (madeCells z.cells (m.toNat * ti.size)).toList = aZeros z.cells.toList m.toNat := by
            have := aZeros_made z.cells m.toNat; rwa [hzs] at this
          have hcell : ∀ (o : Nat) (v : Value), (aZeros z.cells.toList n.toNat)[o]? = some v → ∃ v', (madeCells z.cells (m.toNat * ti.size))[o]? = some v' ∧ VR ρ v v' := by
            intro o v hv
            have hfree := aZeros_free ρ (free_cells ρ hf) n.toNat
            refine ⟨v, ?_, hfree.2 o v v hv hv⟩
            rw [← Array.getElem?_toList, hmade, aZeros_get]
            rw [aZeros_get] at hv
            split at hv
            · rename_i hlt
              rw [if_pos (Nat.lt_of_lt_of_le hlt (Nat.mul_le_mul_right _ (by omega)))]; exact hv
            · cases hv
          obtain ⟨L, hL, hr, hm, hget⟩ := new_sound hR (e := e) (use := .row) (fz := (0, 0)) (by simp) (.inl rfl) hcell
          refine ⟨_, _, _, run_make w t e ti z ht hi hz kl kc n m h0 hnm hb (by omega), ?_, hr, hm⟩
          refine VR.slice hget (by omega) (.inr (by rw [hL])) (fun _ => ?_)
          subst hL
          simp only [eszOf, Program.cellsOf, hi, Option.map_some, Option.getD_some, size_madeCells]
          omega
        · cases h
      · cases h
    · cases h
  · cases h

theorem fieldAddr_sound {P : Program} {ρ : Loc} {A : Heap} {w : World} (hR : Rel P ρ A w) {t : TypeId} {f : Nat} {p p' v : Value} (h : aFieldAddr P t p f = some v) (hp : VR ρ p p') :
    GoesV P ρ A w (Instr.fieldAt t p' f) v A := by
  unfold aFieldAddr at h
  split at h
  · rename_i fields i o ht
    split at h
    · rename_i fd hfd
      split at h
      · rename_i ti hi
        split at h
        · cases h
        · rename_i hsz
          cases h
          obtain ⟨L, hL, rfl⟩ := hp.ptr_inv
          refine GoesV.same hR (v' := .pointer (some ⟨L.blk, L.off + o + fd.offset, none⟩)) ?_ ?_
          · simp [Instr.fieldAt, run_underlying ht, hfd, Instr.sureAddr, fieldPlace, run_sizeOf hi, hsz, add_eq]
          · rw [Nat.add_assoc]; exact .ptr hL
      · cases h
    · cases h
  · cases h

theorem indexAddr_sound {P : Program} {ρ : Loc} {A : Heap} {w : World} (hR : Rel P ρ A w) {t : TypeId} {x x' i i' v : Value} (h : aIndexAddr P t x i = some v) (hx : VR ρ x x') (hi : VR ρ i i') :
    GoesV P ρ A w (Instr.indexAt t x' i') v A := by
  unfold aIndexAddr at h
  split at h
  · rename_i e j o n c kk k ht
    split at h
    · rename_i ti hti
      split at h
      · rename_i hk
        cases h
        obtain rfl := hi.int_inv
        obtain ⟨L, p, c', hL, rfl, hn, hp, hb⟩ := hx.slice_inv
        obtain rfl : p = ⟨L.blk, L.off + o, none⟩ := hp.resolve_left (by omega)
        refine GoesV.same hR (v' := .pointer (some ⟨L.blk, L.off + o + k.toNat * ti.size, none⟩)) ?_ ?_
        · simp [Instr.indexAt, asIntOf, run_underlying ht, hk, run_sizeOf hti, add_eq]
        · rw [Nat.add_assoc]; exact .ptr hL
      · cases h
    · cases h
  · rename_i n e j o kk k ht
    split at h
    · rename_i ti hti
      split at h
      · rename_i hk
        cases h
        obtain rfl := hi.int_inv
        obtain ⟨L, hL, rfl⟩ := hx.ptr_inv
        refine GoesV.same hR (v' := .pointer (some ⟨L.blk, L.off + o + k.toNat * ti.size, none⟩)) ?_ ?_
        · simp [Instr.indexAt, asIntOf, run_underlying ht, Instr.sureAddr, hk, run_sizeOf hti, add_eq]
        · rw [Nat.add_assoc]; exact .ptr hL
      · cases h
    · cases h
  · cases h

theorem arrayAt_sound {P : Program} {ρ : Loc} {A : Heap} {w : World} (hR : Rel P ρ A w) {t : TypeId} {x x' v : Value} (h : aArrayAt P t x = some v) (hx : VR ρ x x') :
    GoesV P ρ A w (Instr.arrayAt t x') v A := by
  unfold aArrayAt at h
  split at h
  · rename_i n e i o len c ht
    split at h
    · rename_i hk
      cases h
      obtain ⟨L, p, c', hL, rfl, hn, hp, hb⟩ := hx.slice_inv
      obtain rfl : p = ⟨L.blk, L.off + o, none⟩ := hp.resolve_left (by omega)
      refine GoesV.same hR (v' := .pointer (some ⟨L.blk, L.off + o, none⟩)) ?_ ?_
      · have hlt : ¬ len < n := by omega
        simp [Instr.arrayAt, run_underlying ht, hlt]
      · exact .ptr hL
    · cases h
  · cases h

def OptR (ρ : Loc) : Option Value → Option Value → Prop
  | none, none => True
  | some v, some v' => VR ρ v v'
  | _, _ => False

theorem bound_sound {ρ : Loc} {d l : Nat} {lo lo' : Option Value} (h : aBound d lo = some l) (hr : OptR ρ lo lo') : (lo' = none ∧ l = d) ∨ ∃ (k : IntKind) (n : Int), lo' = some (.int k n) ∧ 0 ≤ n ∧ l = n.toNat := by
  unfold aBound at h
  split at h
  · cases h
    cases lo' with
    | none => exact .inl ⟨rfl, rfl⟩
    | some v => exact hr.elim
  · split at h
    · cases h
      cases lo' with
      | none => exact hr.elim
      | some v => obtain rfl := VR.int_inv hr; exact .inr ⟨_, _, rfl, ‹_›, rfl⟩
    · cases h
  · cases h

theorem run_bounds (P : Program) (w : World) (b : Bool) (n cap l h : Nat) (lo hi : Option Value) (hlo : (lo = none ∧ l = 0) ∨ ∃ (k : IntKind) (n : Int), lo = some (.int k n) ∧ 0 ≤ n ∧ l = n.toNat)
    (hhi : (hi = none ∧ h = n) ∨ ∃ (k : IntKind) (n : Int), hi = some (.int k n) ∧ 0 ≤ n ∧ h = n.toNat) (hlh : l ≤ h) (hn : h ≤ n) (hc : n ≤ cap) :
    (Instr.sliceBounds b n cap lo hi none).run P w = .ok (l, h, cap) w := by
  have hh : (match hi with | some v => Instr.sliceBound v cap (if b then .sliceAcap else .sliceAlen) | none => pure n : Sem Nat).run P w = .ok h w := by
    rcases hhi with ⟨rfl, rfl⟩ | ⟨k, m, rfl, h0, rfl⟩
    · rfl
    · exact run_sliceBound w k m cap _ h0 (by omega)
  have hl : (match lo with | some v => Instr.sliceBound v h .sliceB | none => pure 0 : Sem Nat).run P w = .ok l w := by
    rcases hlo with ⟨rfl, rfl⟩ | ⟨k, m, rfl, h0, rfl⟩
    · rfl
    · exact run_sliceBound w k m h _ h0 (by omega)
  cases hi <;> cases lo <;> simp [Instr.sliceBounds] at hh hl ⊢ <;> simp [hh, hl]

theorem slice_sound {P : Program} {ρ : Loc} {A : Heap} {w : World} (hR : Rel P ρ A w) {t : TypeId} {x x' v : Value} {lo hi lo' hi' : Option Value} (h : aSlice P t x lo hi A = some v) (hx : VR ρ x x') (hlo : OptR ρ lo lo') (hhi : OptR ρ hi hi') :
    GoesV P ρ A w (Instr.sliceAt t x' lo' hi' none) v A := by
  unfold aSlice at h
  split at h
  · rename_i e i o n c ht
    split at h
    · rename_i ti l hh cs re use hti hl hh' hg
      split at h
      · rename_i hc
        obtain ⟨h1, h2, h3⟩ := hc
        cases h
        obtain ⟨L, p, c', hL, rfl, hn, hp, hb⟩ := hx.slice_inv
        obtain ⟨cs', e', fz, hblk, hcells, huse, hown⟩ := hR.row' hL hg
        refine GoesV.same hR (v' := .slice (if c' = l then some p else some (p.add (l * ti.size))) (hh - l) (c' - l)) ?_ ?_
        · have hbd := run_bounds P w true n c' l hh lo' hi' (bound_sound hl hlo) (bound_sound hh' hhi) h1 h2 hn
          simp [Instr.sliceAt, Instr.slice, run_underlying ht, hbd, run_sizeOf hti]
        · have hb2 : L.esz ≠ 0 → L.off + (o + l * ti.size) + (c' - l) * L.esz ≤ L.fin := by
            intro hne
            have hu : use = .row ∨ use = .emp := by
              cases use with
              | row => exact .inl rfl
              | emp => exact .inr rfl
              | ro => exact absurd (huse (by simp) (by simp)) hne
              | var => exact absurd (huse (by simp) (by simp)) hne
            obtain ⟨_, _, _, _, hrow, hem⟩ := hown (by rcases hu with rfl | rfl <;> simp)
            have e1 : L.esz = ti.size := by
              rw [← h3 hu]
              rcases hu with hu | hu
              · exact hrow hu
              · exact (hem hu).1
            have := hb hne
            rw [e1] at this ⊢
            have e2 : c' * ti.size = l * ti.size + (c' - l) * ti.size := by rw [← Nat.add_mul]; congr 1; omega
            omega
          by_cases hcl : c' = l
          · rw [if_pos hcl]
            exact .slice hL (by omega) (.inl (by omega)) hb2
          · rw [if_neg hcl]
            obtain rfl : p = ⟨L.blk, L.off + o, none⟩ := hp.resolve_left (by omega)
            exact .slice hL (by omega) (.inr (by rw [add_eq, Nat.add_assoc])) hb2
      · cases h
    · cases h
  · rename_i e ht
    split at h
    · rename_i ti hti hl hh'
      cases h
      have hx' : x' = .slice none 0 0 := hx.atom_eq rfl
      subst hx'
      refine GoesV.same hR (v' := .slice none 0 0) ?_ (.atom rfl)
      have hbd := run_bounds P w true 0 0 0 0 lo' hi' (bound_sound hl hlo) (bound_sound hh' hhi) (Nat.le_refl _) (Nat.le_refl _) (Nat.le_refl _)
      simp [Instr.sliceAt, Instr.slice, run_underlying ht, hbd, run_sizeOf hti]
    · cases h
  · rename_i n e i o ht
    have go : ∀ (ti : TypeInfo) (l hh : Nat) (cs : List Value) (re : TypeId) (use : Use), P.info? e = some ti → aBound 0 lo = some l → aBound n hi = some hh → hget A i = some (.cells cs re use) → use ≠ .row → use ≠ .emp → l ≤ hh → hh ≤ n →
        GoesV P ρ A w (Instr.sliceAt t x' lo' hi' none) (.slice (some ⟨i, o + l * ti.size, none⟩) (hh - l) (hh - l)) A := by
      intro ti l hh cs re use hti hl hh' hg hu hu2 h1 h2
      obtain ⟨L, hL, rfl⟩ := hx.ptr_inv
      obtain ⟨cs', e', fz, hblk, hcells, huse, hown⟩ := hR.row' hL hg
      refine GoesV.same hR (v' := .slice (some (if n = l then ⟨L.blk, L.off + o, none⟩ else (⟨L.blk, L.off + o, none⟩ : Addr).add (l * ti.size))) (hh - l) (n - l)) ?_ ?_
      · have hbd := run_bounds P w false n n l hh lo' hi' (bound_sound hl hlo) (bound_sound hh' hhi) h1 h2 (Nat.le_refl _)
        simp [Instr.sliceAt, run_underlying ht, Instr.sureAddr, hbd, run_sizeOf hti]
      · refine .slice hL (by omega) ?_ (fun hne => absurd (huse hu hu2) hne)
        by_cases hcl : n = l
        · exact .inl (by omega)
        · exact .inr (by rw [if_neg hcl, add_eq, Nat.add_assoc])
    split at h
    · rename_i ti l hh cs re hti hl hh' hg
      split at h
      · rename_i hc; cases h; exact go ti l hh cs re .var hti hl hh' hg (by simp) (by simp) hc.1 hc.2
      · cases h
    · rename_i ti l hh cs re hti hl hh' hg
      split at h
      · rename_i hc; cases h; exact go ti l hh cs re .ro hti hl hh' hg (by simp) (by simp) hc.1 hc.2
      · cases h
    · cases h
  · cases h

theorem part_sound {P : Program} {ρ : Loc} {w : World} {t : TypeId} {cs cs' : Array Value} {o : Nat} {v : Value} (h : aPart P t cs.toList o = some v) (hc : VRs ρ cs.toList cs'.toList) :
    ∃ v', (part t cs' o).run P w = .ok v' w ∧ VR ρ v v' := by
  unfold aPart at h
  split at h
  · cases h
  · rename_i d hd
    split at h
    · rename_i hagg
      split at h
      · cases h
      · rename_i i hi
        split at h
        · cases h
          refine ⟨.agg (cs'.extract o (o + i.size)), ?_, ?_⟩
          · simp [part, run_isAgg hd, hagg, run_sizeOf hi]
          · have := ((hc.drop o).take i.size).agg
            have e : cs'.extract o (o + i.size) = ((cs'.toList.drop o).take i.size).toArray := by
              apply Array.ext'
              simp
            rw [e]; exact this
        · cases h
    · rename_i hagg
      obtain ⟨v', hv', hr⟩ := hc.get h
      refine ⟨v', ?_, hr⟩
      have hagg' : descAgg d = false := by simpa using hagg
      simp at hv'
      simp [part, run_isAgg hd, hagg', hv']

theorem field_sound {P : Program} {ρ : Loc} {A : Heap} {w : World} (hR : Rel P ρ A w) {t : TypeId} {f : Nat} {x x' v : Value} (h : aField P t x f = some v) (hx : VR ρ x x') :
    GoesV P ρ A w (Instr.field t x' f) v A := by
  unfold aField at h
  split at h
  · rename_i fields cs ht
    split at h
    · rename_i fd hfd
      obtain ⟨cs', rfl, hcs⟩ := hx.agg_inv
      obtain ⟨v', hrun, hv⟩ := part_sound (w := w) h hcs
      exact GoesV.same hR (by simp [Instr.field, run_underlying ht, hfd, asAgg, hrun]) hv
    · cases h
  · cases h

theorem index_sound {P : Program} {ρ : Loc} {A : Heap} {w : World} (hR : Rel P ρ A w) {t : TypeId} {x x' i i' v : Value} (h : aIndex P t x i = some v) (hx : VR ρ x x') (hi : VR ρ i i') :
    GoesV P ρ A w (Instr.index t x' i') v A := by
  unfold aIndex at h
  split at h
  · rename_i n e cs kk k ht
    split at h
    · rename_i ti hti
      split at h
      · rename_i hk
        obtain rfl := hi.int_inv
        obtain ⟨cs', rfl, hcs⟩ := hx.agg_inv
        obtain ⟨v', hrun, hv⟩ := part_sound (w := w) h hcs
        exact GoesV.same hR (by simp [Instr.index, asIntOf, run_underlying ht, hk, run_sizeOf hti, hrun]) hv
      · cases h
    · cases h
  · rename_i s kk k ht
    obtain rfl := hi.int_inv
    obtain rfl := hx.string_inv
    split at h
    · rename_i hk
      cases hb : s.data.toList[k.toNat]? with
      | none => rw [hb] at h; cases h
      | some b =>
        rw [hb] at h
        cases h
        refine GoesV.same hR (v' := .int .u8 b.toNat) ?_ (.atom rfl)
        have hlt : k.toNat < s.data.size := by
          have := (List.getElem?_eq_some_iff.1 hb).1; simpa using this
        have hb' : s[k.toNat]? = some b := by
          have h2 : s.data[k.toNat]? = some b := by rw [← Array.getElem?_toList]; exact hb
          have h3 : s[k.toNat]? = some (s[k.toNat]'hlt) := getElem?_pos s k.toNat hlt
          rw [h3]
          have h4 := (Array.getElem?_eq_some_iff.1 h2).2
          exact congrArg some h4
        simp [Instr.index, asIntOf, run_underlying ht, hk, hb']
    · cases h
  · cases h
end Go.Abs
/-
The abstract machine: each operation is what the model does. Fourth part: append, copy, strings.
-/
namespace Go.Abs
open Go

theorem cellsOf_sound {P : Program} {ρ : Loc} {A : Heap} {w : World} (hR : Rel P ρ A w) {size m : Nat} {x x' : Value} {new : List Value} (h : aCellsOf size x A = some (m, new)) (hx : VR ρ x x') :
    ∃ a c new', x' = .slice a m c ∧ VRs ρ new new' ∧ new'.length = m * size ∧ (∀ p, a = some p → ∀ (j : Nat) (v : Value), new'[j]? = some v → w.cell? (p.add j) = some v) ∧ (a = none → m = 0) := by
  unfold aCellsOf at h
  split at h
  · cases h
    obtain rfl : x' = .slice none 0 0 := hx.atom_eq rfl
    exact ⟨none, 0, [], rfl, VRs.nil ρ, by simp, fun _ h => by simp at h, fun _ => rfl⟩
  · rename_i i o n c
    split at h
    · rename_i cs e use hg
      split at h
      · rename_i hle
        cases h
        obtain ⟨L, p, c', hL, rfl, hn, hp, hb⟩ := hx.slice_inv
        obtain ⟨cs', e', fz, hblk, hcells, huse, hown⟩ := hR.row' hL hg
        have hs := row_sub hcells hle
        have hlen : ((cs'.toList.drop (L.off + o)).take (m * size)).length = m * size := by rw [← hs.1]; simp; omega
        refine ⟨some p, c', _, rfl, hs, hlen, fun q hq j v hv => ?_, fun h => by simp at h⟩
        cases hq
        rcases hp with h0 | rfl
        · have : m = 0 := by omega
          subst this
          simp at hv
        · rw [add_eq]
          rw [List.getElem?_take] at hv
          split at hv
          · rw [List.getElem?_drop] at hv
            simp [World.cell?, hblk]
            simpa using hv
          · cases hv
      · cases h
    · split at h
      · rename_i h0
        cases h
        subst h0
        obtain ⟨L, p, c', hL, rfl, hn, hp, hb⟩ := hx.slice_inv
        exact ⟨some p, c', [], rfl, VRs.nil ρ, by simp, fun _ _ j v hv => by simp at hv, fun h => by cases h⟩
      · cases h
  · cases h

theorem hset_last (A : Heap) (x y : Option ARow) : hset (A ++ [x]) A.length y = A ++ [y] := by
  induction A with
  | nil => rfl
  | cons r A ih => simp [ih]

theorem VRs.oneCell {ρ : Loc} {l l' : List Value} (h : VRs ρ l l') (h1 : l.all oneC = true) : ∀ v ∈ l', v.oneCell' = true := by
  intro v hm
  obtain ⟨k, hk⟩ := List.mem_iff_getElem?.1 hm
  have hk' : k < l.length := by rw [h.1]; exact (List.getElem?_eq_some_iff.1 hk).1
  exact VR.oneCell (h.2 k l[k] v (List.getElem?_eq_getElem hk') hk) (List.all_eq_true.1 h1 _ (List.getElem_mem hk'))

/-- A source of an append, as the model sees it. -/
structure Src (P : Program) (w : World) (size : Nat) (t' : TypeId) (m : Nat) (new' : List Value) (x' : Value) : Prop where
  desc : (∃ e', P.underlying t' = some (.slice e')) ∨ P.underlying t' = some .string
  len : ∀ w, (Builtin.lenOf x').run P w = .ok m w
  cells : ∀ w1 : World, w1.heap = w.heap → (Builtin.firstCells size m x').run P w1 = .ok new'.toArray w1

theorem source_sound {P : Program} {ρ : Loc} {A : Heap} {w : World} (hR : Rel P ρ A w) {t t' e : TypeId} {size m : Nat} {x x' : Value} {new : List Value} (ht : P.underlying t = some (.slice e)) (h : aSource P size t t' x A = some (m, new)) (hx : VR ρ x x') :
    ∃ new', VRs ρ new new' ∧ new'.length = m * size ∧ Src P w size t' m new' x' := by
  unfold aSource at h
  split at h
  · rename_i he
    subst he
    obtain ⟨a, c, new', rfl, hnew, hnl, hcell, hnone⟩ := cellsOf_sound hR h hx
    refine ⟨new', hnew, hnl, (.inl ⟨_, ht⟩), fun w => rfl, fun w1 hw1 => ?_⟩
    cases a with
    | none =>
      have := hnone rfl
      subst this
      have : new' = [] := List.length_eq_zero_iff.1 (by rw [hnl]; simp)
      subst this
      simp [Builtin.firstCells]
    | some a =>
      refine run_firstCells_some (P := P) w1 size m a m c new' hnl (fun j v hj => ?_)
      have := hcell a rfl j v hj
      simpa [World.cell?, hw1] using this
  · split at h
    · rename_i s hd
      split at h
      · rename_i hsz
        cases h
        obtain rfl := hx.string_inv
        subst hsz
        refine ⟨_, ⟨rfl, fun k v v' h1 h2 => ?_⟩, ?_, (.inr hd), fun w => rfl, fun w1 _ => ?_⟩
        · rw [h1] at h2; cases h2
          rw [List.getElem?_map] at h1
          cases hb : s.data.toList[k]? with
          | none => rw [hb] at h1; cases h1
          | some b => rw [hb] at h1; cases h1; exact .atom rfl
        · simp
        · simp [Builtin.firstCells]
          apply Array.ext'
          simp
      · cases h
    · cases h

section
variable {P : Program} {w : World} {t t' e ty : TypeId} {ti : TypeInfo} {m : Nat} {new' : List Value} {x' : Value}

theorem append_zero (ht : P.underlying t = some (.slice e)) (hi : P.info? e = some ti) (b : Option Addr) (n c : Nat) (hs : Src P w ti.size t' 0 [] x') (hn : n ≤ c) :
    (Builtin.append_ #[t, t'] ty #[.slice b n c, x']).run P w = .ok (.slice b n c) w := by
  obtain ⟨hd, hlen, hcells⟩ := hs
  have hf := hcells w rfl
  rcases hd with ⟨e', hd⟩ | hd <;> cases b <;> simp [Builtin.append_, run_underlying ht, run_underlying hd, run_sizeOf hi, hlen, hn, hf, storeCells]

theorem append_nil_run {z : Value} (ht : P.underlying t = some (.slice e)) (hi : P.info? e = some ti) (hz : ti.zero = some z) (hs : Src P w ti.size t' m new' x') (h0 : 0 < m) (h63 : (m : Int) ≤ 9223372036854775807) (h48 : m * ti.bytes ≤ 281474976710656) :
    (Builtin.append_ #[t, t'] ty #[.slice none 0 0, x']).run P w =
      .ok (.slice (some ⟨w.heap.size, 0, none⟩) m (grownCap w m 0 e)) (w.drew.alloc (.cells (new'.toArray ++ Builtin.zeroCells z.cells (grownCap w m 0 e - m)) e)) := by
  obtain ⟨hd, hlen, hcells⟩ := hs
  have hn : m ≠ 0 := by omega
  have h63' : ¬ (9223372036854775807 < (m : Int)) := by omega
  have h48' : ¬ (281474976710656 < Builtin.nextslicecap m 0 * ti.bytes) := by rw [nextslicecap_zero h0]; omega
  have hf := hcells w.drew rfl
  rcases hd with ⟨e', hd⟩ | hd
  all_goals simp [Builtin.append_, run_underlying ht, run_underlying hd, sizeOf, typeInfo, zeroValue, hi, hz, hlen, hn, h63', h48', Question.forced, run_firstCells_none, hf, newRow, grownCap]

theorem append_grow_run {z : Value} (ht : P.underlying t = some (.slice e)) (hi : P.info? e = some ti) (hz : ti.zero = some z) (b : Addr) (sLen sCap : Nat) (olds : List Value) (hlo : olds.length = sLen * ti.size)
    (holds : ∀ (j : Nat) (v : Value), olds[j]? = some v → w.cell? (b.add j) = some v) (hs : Src P w ti.size t' m new' x')
    (hg : sCap < sLen + m) (h63 : ((sLen + m : Nat) : Int) ≤ 9223372036854775807) (hfit : Builtin.nextslicecap (sLen + m) sCap * ti.bytes ≤ 281474976710656) :
    (Builtin.append_ #[t, t'] ty #[.slice (some b) sLen sCap, x']).run P w =
      .ok (.slice (some ⟨w.heap.size, 0, none⟩) (sLen + m) (grownCap w (sLen + m) sCap e))
        (w.drew.alloc (.cells (olds.toArray ++ new'.toArray ++ Builtin.zeroCells z.cells (grownCap w (sLen + m) sCap e - (sLen + m))) e)) := by
  obtain ⟨hd, hlen, hcells⟩ := hs
  have hn : ¬ (sLen + m ≤ sCap) := by omega
  have h63' : ¬ (9223372036854775807 < ((sLen : Int) + (m : Int))) := by omega
  have h48' : ¬ (281474976710656 < Builtin.nextslicecap (sLen + m) sCap * ti.bytes) := by omega
  have hf := hcells w.drew rfl
  have hfo := run_firstCells_some (P := P) w.drew ti.size sLen b sLen sCap olds hlo (by simpa using holds)
  rcases hd with ⟨e', hd⟩ | hd
  all_goals
    simp [Builtin.append_, run_underlying ht, run_underlying hd, sizeOf, typeInfo, zeroValue, hi, hz, hlen, hn, h63', h48', Question.forced, hf, hfo, newRow, grownCap]
    congr 2
    apply Array.ext'
    simp [List.append_assoc]

theorem append_room_run (ht : P.underlying t = some (.slice e)) (hi : P.info? e = some ti) (b : Addr) (n c : Nat) (hs : Src P w ti.size t' m new' x') (hroom : n + m ≤ c) {w' : World}
    (hst : (storeCells (b.add (n * ti.size)) new').run P w = .ok () w') :
    (Builtin.append_ #[t, t'] ty #[.slice (some b) n c, x']).run P w = .ok (.slice (some b) (n + m) c) w' := by
  obtain ⟨hd, hlen, hcells⟩ := hs
  have hf := hcells w rfl
  rcases hd with ⟨e', hd⟩ | hd
  all_goals simp [Builtin.append_, run_underlying ht, run_underlying hd, run_sizeOf hi, hlen, hroom, hf, hst]
end

theorem append_sound {P : Program} {ρ : Loc} {A A' : Heap} {w : World} {lim : Nat} (hR : Rel P ρ A w) {ats : Array TypeId} {ty : TypeId} {s s' x x' v : Value} (h : aAppend P lim ats s x A = some (v, A')) (hs : VR ρ s s') (hx : VR ρ x x') :
    GoesV P ρ A w (Builtin.append_ ats ty #[s', x']) v A' := by
  unfold aAppend at h
  split at h
  · rename_i t t' h0 h1
    split at h
    · rename_i e ht
      split at h
      · rename_i ti hi
        split at h
        · rename_i z hz
          split at h
          · rename_i hh
            obtain ⟨hsz, hf, hzs⟩ := hh
            obtain rfl : ats = #[t, t'] := by
              apply Array.ext
              · simpa using hsz
              · intro i hi1 hi2
                simp at hi2
                have : i = 0 ∨ i = 1 := by omega
                rcases this with rfl | rfl
                · have := (Array.getElem?_eq_some_iff.1 h0).2; simpa using this
                · have := (Array.getElem?_eq_some_iff.1 h1).2; simpa using this
            have hzs' : z.cells.size = ti.size := by simpa using hzs
            split at h
            · rename_i kn k n ht'
              split at h
              · rename_i hbd
                obtain ⟨hn0, hs0, hb1, hb2⟩ := hbd
                cases h
                obtain rfl : s' = .slice none 0 0 := hs.atom_eq rfl
                obtain rfl := hx.int_inv
                have hrun := Lib.run_append_nil_zeros (P := P) w t t' ty e ti z k kn ht ht' hi hz n.toNat (by omega) hs0 (by omega) (by omega)
                rw [Int.toNat_of_nonneg (by omega)] at hrun
                have hze : ∀ n, (Builtin.zeroCells z.cells n).toList = aZeros z.cells.toList n := fun n => aZeros_made z.cells n
                obtain ⟨hR1, hM1⟩ := hR.heap (w' := w.drew) rfl
                obtain ⟨L, hL, hr, hm, hget⟩ := new_sound hR1 (e := e) (use := .row) (fz := (0, 0)) (cs := aZeros z.cells.toList n.toNat) (cs' := Builtin.zeroCells z.cells n.toNat ++ Builtin.zeroCells z.cells (grownCap w n.toNat 0 e - n.toNat)) (by simp) (.inl rfl) (fun o v hv => by
                  refine ⟨v, ?_, (aZeros_free ρ (free_cells ρ hf) n.toNat).2 o v v hv hv⟩
                  rw [← Array.getElem?_toList, Array.toList_append, hze, List.getElem?_append_left (List.getElem?_eq_some_iff.1 hv).1]
                  exact hv)
                refine ⟨_, _, _, hrun, ?_, hr, hM1.trans hm⟩
                have hge := grownCap_ge w n.toNat 0 e
                refine .slice hget hge (.inr (by rw [hL]; rfl)) (fun _ => ?_)
                subst hL
                simp only [eszOf, Program.cellsOf, hi, Option.map_some, Option.getD_some, Array.size_append, size_zeroCells, hzs']
                rw [← Nat.add_mul]
                have : (n.toNat + (grownCap w n.toNat 0 e - n.toNat)) = grownCap w n.toNat 0 e := by omega
                rw [this]; omega
              · cases h
            · split at h
              · rename_i new hco
                obtain ⟨new', hnew, hnl, hsrc⟩ := source_sound hR ht hco hx
                obtain rfl : new' = [] := List.length_eq_zero_iff.1 (by rw [hnl]; simp)
                split at h
                · cases h
                  obtain rfl : s' = .slice none 0 0 := hs.atom_eq rfl
                  exact GoesV.same hR (append_zero ht hi none 0 0 hsrc (Nat.le_refl _)) hs
                · cases h
                  obtain ⟨L, p, c', hL, rfl, hn, hp, hb⟩ := hs.slice_inv
                  exact GoesV.same hR (append_zero ht hi (some p) _ c' hsrc hn) hs
                · cases h
              · rename_i m new hco
                obtain ⟨new', hnew, hnl, hsrc⟩ := source_sound hR ht hco hx
                simp only [Nat.succ_eq_add_one] at hnl hsrc
                split at h
                · rename_i hone
                  split at h
                  · split at h
                    · rename_i hbd
                      obtain ⟨hb1, hb2⟩ := hbd
                      cases h
                      obtain rfl : s' = .slice none 0 0 := hs.atom_eq rfl
                      have hrun := append_nil_run (ty := ty) ht hi hz hsrc (by omega) (by omega) (by omega)
                      obtain ⟨hR1, hM1⟩ := hR.heap (w' := w.drew) rfl
                      obtain ⟨L, hL, hr, hm, hget⟩ := new_sound hR1 (e := e) (use := .row) (fz := (0, 0)) (cs := new) (cs' := new'.toArray ++ Builtin.zeroCells z.cells (grownCap w (m + 1) 0 e - (m + 1))) (by simp) (.inl rfl) (fun o v hv => by
                        obtain ⟨v', h1, h2⟩ := hnew.get hv
                        refine ⟨v', ?_, h2⟩
                        rw [Array.getElem?_append_left (by simpa using (List.getElem?_eq_some_iff.1 h1).1)]
                        simpa using h1)
                      refine ⟨_, _, _, hrun, ?_, hr, hM1.trans hm⟩
                      have hge := grownCap_ge w (m + 1) 0 e
                      refine .slice hget hge (.inr (by rw [hL]; rfl)) (fun _ => ?_)
                      subst hL
                      simp only [eszOf, Program.cellsOf, hi, Option.map_some, Option.getD_some, Array.size_append, size_zeroCells, hzs', List.size_toArray, hnl]
                      rw [← Nat.add_mul]
                      have : (m + 1 + (grownCap w (m + 1) 0 e - (m + 1))) = grownCap w (m + 1) 0 e := by omega
                      rw [this]; omega
                    · cases h
                  · rename_i i n cc _
                    split at h
                    · rename_i cs re hg
                      split at h
                      · rename_i hbd
                        obtain ⟨hlim, hree, hcl, hb1, hb2⟩ := hbd
                        subst hree
                        cases h
                        obtain ⟨L, q, c', hL, rfl, hn, hp, hb⟩ := hs.slice_inv
                        obtain ⟨cs', e', fz, hblk, hcells, huse, hown⟩ := hR.row' hL hg
                        obtain ⟨hee, hoff, hfz, hfin, hesz, _⟩ := hown (by simp)
                        subst hee
                        have hesz := hesz rfl
                        have hcof : P.cellsOf e' = ti.size := by simp [Program.cellsOf, hi]
                        have hold : VRs ρ (cs.take (n * ti.size)) (cs'.toList.take (n * ti.size)) := by
                          have := row_sub (o := 0) (n := n * ti.size) hcells (by omega)
                          rw [hoff] at this
                          simpa using this
                        have hlo : (cs'.toList.take (n * ti.size)).length = n * ti.size := by rw [← hold.1]; simp; omega
                        by_cases hroom : n + (m + 1) ≤ c'
                        · obtain rfl : q = ⟨L.blk, L.off + 0, none⟩ := hp.resolve_left (by omega)
                          rw [hoff]
                          have hspace : n * ti.size + new'.length ≤ cs'.size := by
                            have h3 : (n + (m + 1)) * ti.size ≤ c' * ti.size := Nat.mul_le_mul_right _ hroom
                            rw [hnl, ← Nat.add_mul]
                            by_cases hz0 : ti.size = 0
                            · rw [hz0]; simp
                            · have := hb (by rw [hesz, hcof]; exact hz0)
                              rw [hesz, hcof, hoff] at this
                              omega
                          have hst := run_storeCells_cells (P := P) L.blk (n * ti.size) new' 0 w (fun j hj => by simp [World.cell?, hblk]; omega)
                            (fun j hj => by
                              simp only [World.frozen?, hblk]
                              have := fz_free hfz (o := n * ti.size + 0 + j) (by omega)
                              obtain ⟨lo, hi⟩ := fz
                              simpa using this) (hnew.oneCell hone)
                          obtain ⟨cs2, hb2', hcs2, ho2, hs2⟩ := setCells_heap L.blk (n * ti.size) new' (n * ti.size + 0) cs' e' fz w hblk (by omega)
                          obtain ⟨hR1, hM1⟩ := hR.renew hg (by simp) hL
                          have hget1 : hget (hset A i none ++ [some (.cells cs e' .row)]) A.length = some (.cells cs e' .row) := by
                            rw [hget_append]; simp []
                          have hL1 : ρ.put A.length L A.length = some L := Loc.put_self _ _ _
                          obtain ⟨hR2, hM2⟩ := hR1.setRow (hout := setCells_out _ _ _ _) (cs2 := cs.take (n * ti.size) ++ new) (cs2' := cs2) hget1 (by simp) hL1 hblk hb2' ho2 hs2
                            (by have := congrArg List.length hcs2; simp [splice] at this; omega)
                            (fun o v hv => by
                              rw [← Array.getElem?_toList, hcs2]
                              simp only [Nat.add_zero, splice]
                              have := (hold.append hnew).mono hM1.pre
                              obtain ⟨v', a1, a2⟩ := this.get hv
                              refine ⟨v', ?_, a2⟩
                              rw [List.getElem?_append_left (by have := (List.getElem?_eq_some_iff.1 a1).1; simpa using this)]
                              exact a1)
                          have hlast : ∀ x y, hset (hset A i none ++ [x]) A.length y = hset A i none ++ [y] := fun x y => by have := hset_last (hset A i none) x y; rwa [hset_length] at this
                          rw [hlast] at hR2 hM2
                          refine ⟨.slice (some ⟨L.blk, 0, none⟩) (n + (m + 1)) c', _, _, append_room_run ht hi _ n c' hsrc hroom (by rw [add_eq, Nat.zero_add]; exact hst), ?_, hR2, hM1.trans hM2⟩
                          exact .slice hL1 hroom (.inr (by rw [hoff])) (by simpa using hb)
                        · have holds : ∀ (j : Nat) (v : Value), (cs'.toList.take (n * ti.size))[j]? = some v → w.cell? (q.add j) = some v := by
                            intro j v hj
                            rcases hp with h0 | rfl
                            · have : n = 0 := by omega
                              subst this; simp at hj
                            · rw [add_eq, hoff]
                              rw [List.getElem?_take] at hj
                              split at hj
                              · simp [World.cell?, hblk]; simpa using hj
                              · cases hj
                          have hrun := append_grow_run (ty := ty) ht hi hz q n c' _ hlo holds hsrc (by omega) (by omega) (growslice_fits (by omega) (by omega))
                          obtain ⟨hR0, hM0⟩ := hR.forget i
                          obtain ⟨hR1, hM1⟩ := hR0.heap (w' := w.drew) rfl
                          obtain ⟨K, hK, hr, hm, hget⟩ := new_sound hR1 (e := e') (use := .row) (fz := (0, 0)) (cs := cs.take (n * ti.size) ++ new)
                            (cs' := (cs'.toList.take (n * ti.size)).toArray ++ new'.toArray ++ Builtin.zeroCells z.cells (grownCap w (n + (m + 1)) c' e' - (n + (m + 1)))) (by simp) (.inl rfl) (fun o v hv => by
                              obtain ⟨v', h1, h2⟩ := (hold.append hnew).get hv
                              refine ⟨v', ?_, h2⟩
                              rw [Array.getElem?_append_left (by have := (List.getElem?_eq_some_iff.1 h1).1; simpa using this)]
                              simpa using h1)
                          simp only [hset_length] at hget hr hm
                          refine ⟨_, _, _, hrun, ?_, hr, hM0.trans (hM1.trans hm)⟩
                          have hge := grownCap_ge w (n + (m + 1)) c' e'
                          refine .slice hget hge (.inr (by rw [hK]; rfl)) (fun _ => ?_)
                          subst hK
                          simp only [eszOf, hcof, Array.size_append, size_zeroCells, hzs', List.size_toArray, hnl, hlo]
                          rw [← Nat.add_mul, ← Nat.add_mul]
                          have : (n + (m + 1) + (grownCap w (n + (m + 1)) c' e' - (n + (m + 1)))) = grownCap w (n + (m + 1)) c' e' := by omega
                          rw [this]; omega
                      · cases h
                    · rename_i cs re hg
                      split at h
                      · rename_i hbd
                        obtain ⟨hn0, hz0, hree, hb1, hb2⟩ := hbd
                        subst hn0
                        subst hree
                        cases h
                        obtain ⟨L, q, c', hL, rfl, hn, hp, hb⟩ := hs.slice_inv
                        obtain ⟨cs', e', fz, hblk, hcells, huse, hown⟩ := hR.row' hL hg
                        obtain ⟨hee, hoff, hfz, hfin, _, hem⟩ := hown (by simp)
                        subst hee
                        obtain ⟨hesz, hsize⟩ := hem rfl
                        have hcof : P.cellsOf e' = ti.size := by simp [Program.cellsOf, hi]
                        have hc0 : c' = 0 := by
                          have h1 := hb (by rw [hesz, hcof]; exact hz0)
                          rw [hesz, hcof, hfin, hsize] at h1
                          have h2 : c' * ti.size = 0 := by omega
                          exact (Nat.mul_eq_zero.1 h2).resolve_right hz0
                        subst hc0
                        have hrun := append_grow_run (ty := ty) ht hi hz q 0 0 [] (by simp) (fun j v hj => by simp at hj) hsrc (by omega) (by omega) (growslice_fits (by rw [Nat.zero_add]; omega) (by rw [Nat.zero_add]; omega))
                        obtain ⟨hR1, hM1⟩ := hR.heap (w' := w.drew) rfl
                        obtain ⟨K, hK, hr, hm, hget⟩ := new_sound hR1 (e := e') (use := .row) (fz := (0, 0)) (cs := new)
                          (cs' := ([] : List Value).toArray ++ new'.toArray ++ Builtin.zeroCells z.cells (grownCap w (0 + (m + 1)) 0 e' - (0 + (m + 1)))) (by simp) (.inl rfl) (fun o v hv => by
                            obtain ⟨v', h1, h2⟩ := hnew.get hv
                            refine ⟨v', ?_, h2⟩
                            rw [Array.getElem?_append_left (by have := (List.getElem?_eq_some_iff.1 h1).1; simpa using this)]
                            simpa using h1)
                        refine ⟨_, _, _, hrun, ?_, hr, hM1.trans hm⟩
                        have hge := grownCap_ge w (0 + (m + 1)) 0 e'
                        rw [Nat.zero_add] at hge ⊢
                        refine .slice hget hge (.inr (by rw [hK]; rfl)) (fun _ => ?_)
                        subst hK
                        simp only [eszOf, hcof, Array.size_append, size_zeroCells, hzs', List.size_toArray, hnl, List.length_nil, Nat.zero_add]
                        rw [← Nat.add_mul]
                        have : (m + 1 + (grownCap w (m + 1) 0 e' - (m + 1))) = grownCap w (m + 1) 0 e' := by omega
                        rw [this]; omega
                      · cases h
                    · cases h
                  · cases h
                · cases h
              · cases h
          · cases h
        · cases h
      · cases h
    · cases h
  · cases h
end Go.Abs
/-
The abstract machine: each operation is what the model does. Fifth part: the rest, and all of them.
-/
namespace Go.Abs
open Go

theorem copy_sound {P : Program} {ρ : Loc} {A A' : Heap} {w : World} {lim : Nat} (hR : Rel P ρ A w) {ats : Array TypeId} {ty : TypeId} {d d' x x' v : Value} (h : aCopy P lim ats d x A = some (v, A')) (hd : VR ρ d d') (hx : VR ρ x x') :
    GoesV P ρ A w (Builtin.copy_ ats ty #[d', x']) v A' := by
  unfold aCopy at h
  split at h
  · rename_i t h0
    split at h
    · rename_i e ht
      split at h
      · rename_i ti hi
        split at h
        · rename_i m cells hco
          obtain ⟨a, c, new', rfl, hnew, hnl, hcell, hnone⟩ := cellsOf_sound hR hco hx
          split at h
          · cases h
            obtain rfl : d' = .slice none 0 0 := hd.atom_eq rfl
            refine GoesV.same hR (v' := .int .i64 0) ?_ (.atom rfl)
            have hf : (Builtin.firstCells ti.size 0 (.slice a m c)).run P w = .ok #[] w := by
              cases a with
              | none => simp [Builtin.firstCells]
              | some a =>
                have := run_firstCells_some (P := P) w ti.size 0 a m c [] (by simp) (fun j v h => by simp at h)
                simpa using this
            simp [Builtin.copy_, h0, run_underlying ht, Builtin.lenOf, run_sizeOf hi, hf, goInt]
          · rename_i i o n cc
            split at h
            · rename_i cs re use hg
              split at h
              · rename_i hh
                obtain ⟨hu, hlim, hfit, hone⟩ := hh
                cases h
                obtain ⟨L, p, c', hL, rfl, hn, hp, hb⟩ := hd.slice_inv
                have hk : Nat.min m n * ti.size ≤ m * ti.size := Nat.mul_le_mul_right _ (Nat.min_le_left _ _)
                have hlenk : (cells.take (Nat.min m n * ti.size)).length = Nat.min m n * ti.size := by
                  have := hnew.1
                  simp; omega
                have hf : (Builtin.firstCells ti.size (Nat.min m n) (.slice a m c)).run P w = .ok (new'.take (Nat.min m n * ti.size)).toArray w := by
                  cases a with
                  | none =>
                    have hm0 := hnone rfl
                    subst hm0
                    have : new' = [] := List.length_eq_zero_iff.1 (by rw [hnl]; simp)
                    subst this
                    simp [Builtin.firstCells]
                  | some a =>
                    refine run_firstCells_some (P := P) w ti.size _ a m c _ (by simp; omega) (fun j v hj => ?_)
                    rw [List.getElem?_take] at hj
                    split at hj
                    · exact hcell a rfl j v hj
                    · cases hj
                obtain ⟨w', hst, hr, hm⟩ := write_sound hR hg hu hL (hnew.take (Nat.min m n * ti.size)) (by rw [hlenk]; exact hfit) (List.all_eq_true.2 fun v hv => List.all_eq_true.1 hone v (List.mem_of_mem_take hv))
                refine ⟨.int .i64 (Nat.min m n : Nat), w', ρ, ?_, .atom rfl, hr, hm⟩
                rcases hp with hc0 | rfl
                · have hn0 : n = 0 := by omega
                  subst hn0
                  have e0 : Nat.min m 0 = 0 := Nat.min_zero m
                  rw [e0] at hst hf ⊢
                  simp at hf hst
                  have hst' : (storeCells p ([] : List Value)).run P w = .ok () w := rfl
                  have hw : w' = w := by
                    have h1 : (storeCells ⟨L.blk, L.off + o, none⟩ ([] : List Value)).run P w = .ok () w := rfl
                    rw [h1] at hst; cases hst; rfl
                  subst hw
                  simp [Builtin.copy_, h0, run_underlying ht, Builtin.lenOf, run_sizeOf hi, hf, goInt, hst', e0]
                · simp [Builtin.copy_, h0, run_underlying ht, Builtin.lenOf, run_sizeOf hi, hf, hst, goInt]
              · cases h
            · cases h
          · cases h
        · cases h
      · cases h
    · cases h
  · cases h

theorem eqNil_run {P : Program} {ρ : Loc} {w : World} {t : TypeId} {x x' y y' : Value} {b : Bool} (h : aEqNil P t x y = some b) (hx : VR ρ x x') (hy : VR ρ y y') (u v : Operand) :
    (do eqGuard .eql t u v x' y'; binOp .eql t x' y').run P w = .ok (.bool b) w ∧ (do eqGuard .neq t u v x' y'; binOp .neq t x' y').run P w = .ok (.bool !b) w := by
  have key : ∀ {x' y' : Value}, (∀ d, (Op.equalIn (d + 1) t x' y').run P w = .ok b w) → (∀ a c, ¬ (x' = .agg a ∧ y' = .agg c)) → ¬ (x' = .nilIface ∧ y' = .nilIface) → (binOp .eql t x' y' = do pure (.bool (← Op.equal t x' y'))) → (binOp .neq t x' y' = do pure (.bool (!(← Op.equal t x' y')))) →
      (do eqGuard .eql t u v x' y'; binOp .eql t x' y').run P w = .ok (.bool b) w ∧ (do eqGuard .neq t u v x' y'; binOp .neq t x' y').run P w = .ok (.bool !b) w := by
    intro x' y' he hagg hnil h1 h2
    have he' : (Op.equal t x' y').run P w = .ok b w := he 9999
    have g : ∀ op, (op = .eql ∨ op = .neq) → (eqGuard op t u v x' y').run P w = .ok () w := by
      intro op hop
      rcases hop with rfl | rfl <;> unfold eqGuard <;> simp <;> split <;> simp_all
    rw [h1, h2]
    simp [g .eql (.inl rfl), g .neq (.inr rfl), he']
  unfold aEqNil at h
  split at h
  · rename_i e a ht
    cases h
    cases hx with
    | atom h => simp [atomB] at h
    | ptr hL =>
      obtain rfl : y' = .pointer none := hy.atom_eq rfl
      exact key (fun d => by simp [Op.equalIn, run_underlying ht]) (by simp) (by simp) rfl rfl
  · rename_i e a ht
    cases h
    cases hy with
    | atom h => simp [atomB] at h
    | ptr hL =>
      obtain rfl : x' = .pointer none := hx.atom_eq rfl
      exact key (fun d => by simp [Op.equalIn, run_underlying ht]) (by simp) (by simp) rfl rfl
  · rename_i e a n c n' c' ht
    cases h
    cases hx with
    | atom h => simp [atomB] at h
    | slice hL =>
      obtain rfl : y' = .slice none n' c' := hy.atom_eq rfl
      exact key (fun d => by simp [Op.equalIn, run_underlying ht]) (by simp) (by simp) rfl rfl
  · rename_i e n c a n' c' ht
    cases h
    cases hy with
    | atom h => simp [atomB] at h
    | slice hL =>
      obtain rfl : x' = .slice none n c := hx.atom_eq rfl
      exact key (fun d => by simp [Op.equalIn, run_underlying ht]) (by simp) (by simp) rfl rfl
  · rename_i ps rs vv fn f c ht
    cases h
    obtain rfl : x' = .nilFunc := hx.atom_eq rfl
    cases hy with
    | atom h => simp [atomB] at h
    | func => exact key (fun d => by simp [Op.equalIn, run_underlying ht]) (by simp) (by simp) rfl rfl
    | yield => exact key (fun d => by simp [Op.equalIn, run_underlying ht]) (by simp) (by simp) rfl rfl
  · rename_i ps rs vv fn f c ht
    cases h
    obtain rfl : y' = .nilFunc := hy.atom_eq rfl
    cases hx with
    | atom h => simp [atomB] at h
    | func => exact key (fun d => by simp [Op.equalIn, run_underlying ht]) (by simp) (by simp) rfl rfl
    | yield => exact key (fun d => by simp [Op.equalIn, run_underlying ht]) (by simp) (by simp) rfl rfl
  · rename_i ms tt vv ht
    cases h
    obtain rfl : x' = .nilIface := hx.atom_eq rfl
    cases hy with
    | atom h => simp [atomB] at h
    | iface => exact key (fun d => by simp [Op.equalIn, run_underlying ht]) (by simp) (by simp) rfl rfl
  · rename_i ms tt vv ht
    cases h
    obtain rfl : y' = .nilIface := hy.atom_eq rfl
    cases hx with
    | atom h => simp [atomB] at h
    | iface => exact key (fun d => by simp [Op.equalIn, run_underlying ht]) (by simp) (by simp) rfl rfl
  · rename_i kt vt m ht
    cases h
    obtain rfl : y' = .map none := hy.atom_eq rfl
    cases hx with
    | atom h => simp [atomB] at h
    | map => exact key (fun d => by simp [Op.equalIn, run_underlying ht]) (by simp) (by simp) rfl rfl
  · rename_i kt vt m ht
    cases h
    obtain rfl : x' = .map none := hx.atom_eq rfl
    cases hy with
    | atom h => simp [atomB] at h
    | map => exact key (fun d => by simp [Op.equalIn, run_underlying ht]) (by simp) (by simp) rfl rfl
  · rename_i te i o j p ht
    split at h
    · rename_i hc
      obtain ⟨rfl, rfl, hinfo⟩ := hc
      cases h
      obtain ⟨ti, hti⟩ := Option.isSome_iff_exists.1 hinfo
      obtain ⟨L, hL, rfl⟩ := hx.ptr_inv
      obtain ⟨L', hL', rfl⟩ := hy.ptr_inv
      rw [hL] at hL'; cases hL'
      exact key (fun d => by simp [Op.equalIn, run_underlying ht, sizeOf, typeInfo, hti, run_sameAddr_same]) (by simp) (by simp) rfl rfl
    · cases h
  · cases h

theorem len_sound {P : Program} {ρ : Loc} {A : Heap} {w : World} (hR : Rel P ρ A w) {ats : Array TypeId} {ty : TypeId} {x x' v : Value} (h : aLen P ats x = some v) (hx : VR ρ x x') :
    GoesV P ρ A w (Builtin.len_ ats ty #[x']) v A := by
  unfold aLen at h
  split at h
  · rename_i t h0
    split at h
    · rename_i e a n c ht
      cases h
      have : ∃ a' c', x' = .slice a' n c' := by
        cases hx with
        | atom h => cases a <;> simp [atomB] at h; exact ⟨_, _, rfl⟩
        | slice => exact ⟨_, _, rfl⟩
      obtain ⟨a', c', rfl⟩ := this
      exact GoesV.same hR (v' := .int .i64 n) (by simp [Builtin.len_, h0, run_underlying ht, goInt]) (.atom rfl)
    · rename_i n e ht
      cases h
      refine GoesV.same hR (v' := .int .i64 n) ?_ (.atom rfl)
      cases x' <;> simp [Builtin.len_, h0, run_underlying ht, goInt]
    · rename_i s ht
      cases h
      obtain rfl := hx.string_inv
      exact GoesV.same hR (v' := .int .i64 s.size) (by simp [Builtin.len_, h0, run_underlying ht, goInt]) (.atom rfl)
    · cases h
  · cases h

theorem aBytes_cells : ∀ (cells : List Value) (l : List UInt8), aBytes cells = some l → ∃ ns : List Int, cells = ns.map (Value.int .u8) ∧ l = ns.map fun n => UInt8.ofNat n.toNat
  | [], l, h => by cases h; exact ⟨[], rfl, rfl⟩
  | v :: cells, l, h => by
    unfold aBytes at h
    split at h
    · rename_i heq; cases heq
    · rename_i n l' heq
      cases heq
      cases hb : aBytes cells with
      | none => rw [hb] at h; cases h
      | some l2 =>
        rw [hb] at h
        cases h
        obtain ⟨ns, rfl, rfl⟩ := aBytes_cells cells l2 hb
        exact ⟨n :: ns, rfl, rfl⟩
    · cases h

theorem foldl_push (ns : List Int) : ∀ b : ByteArray, ns.foldl (fun r n => r.push (UInt8.ofNat n.toNat)) b = ⟨b.data ++ (ns.map fun n => UInt8.ofNat n.toNat).toArray⟩ := by
  induction ns with
  | nil => intro b; simp
  | cons n ns ih =>
    intro b
    rw [List.foldl_cons, ih]
    congr 1
    apply Array.ext'
    simp [ByteArray.push]

theorem freeze_alloc (w : World) (c : Array Value) (e : TypeId) (n : Nat) : (w.alloc (.cells c e)).freeze ⟨w.heap.size, n, none⟩ 1 = w.alloc (.cells c e (n, n + 1)) := by
  have h : ∀ (h : Array Obj) (o : Obj) (f : Obj → Obj), (h.push o).modify h.size f = h.push (f o) := by
    intro h o f
    apply Array.ext_getElem?
    intro i
    rw [Array.getElem?_modify, Array.getElem?_push, Array.getElem?_push]
    by_cases hi : h.size = i
    · subst hi; simp
    · have : ¬ i = h.size := fun e => hi e.symm
      simp [hi, this]
  simp only [World.freeze, World.alloc, Nat.one_ne_zero, if_false, h]
  simp
theorem shape_alloc (w : World) (c : Array Value) (e : TypeId) : (w.alloc (.cells c e)).shape? w.heap.size = some (e, c.size) := by
  simp only [World.shape?, heap_alloc_new]
theorem run_stringToBytes (P : Program) (w : World) (e : TypeId) (s : ByteArray) : (Conv.stringToBytes e s).run P w = .ok (.slice (some ⟨w.heap.size, 0, none⟩) s.size (grownCap w s.size 0 e))
    (w.drew.alloc (.cells ((s.data.map fun (b : UInt8) => (Value.int .u8 b.toNat)) ++ Array.replicate (grownCap w s.size 0 e - s.size) (Value.int .u8 0)) e (grownCap w s.size 0 e, grownCap w s.size 0 e + 1))) := by
  have hge := grownCap_ge w s.size 0 e
  have hlen : s.data.size = s.size := rfl
  have hsize : ((s.data.map fun (b : UInt8) => (Value.int .u8 b.toNat)) ++ Array.replicate (grownCap w s.size 0 e - s.size) (Value.int .u8 0)).size = grownCap w s.size 0 e := by
    simp [hlen]; omega
  have hsh := shape_alloc w.drew ((s.data.map fun (b : UInt8) => (Value.int .u8 b.toNat)) ++ Array.replicate (grownCap w s.size 0 e - s.size) (Value.int .u8 0)) e
  have hfr := freeze_alloc w.drew ((s.data.map fun (b : UInt8) => (Value.int .u8 b.toNat)) ++ Array.replicate (grownCap w s.size 0 e - s.size) (Value.int .u8 0)) e (grownCap w s.size 0 e)
  rw [hsize] at hsh
  have hch : (choose (.appendCap s.size 0 e)).run P w = .ok (grownCap w s.size 0 e) w.drew := by
    simp [run_choose, Question.forced, grownCap]
  unfold Conv.stringToBytes
  simp only [Sem.run_bind, hch, Result.andThen_ok, newRow, Functor.map_map, Sem.run_map, run_newObj_alloc, markStringish, run_shape, bind_assoc, pure_bind, Sem.run_pure]
  simp only [hsh, Sem.run_bind, run_freeze, hfr, Result.andThen_ok, Sem.run_pure]
  rfl

theorem hset_same {A : Heap} {i : Nat} {r : ARow} (h : hget A i = some r) : hset A i (some r) = A := by
  induction A generalizing i with
  | nil => simp [] at h
  | cons x A ih => cases i with
    | zero => simp [] at h; subst h; rfl
    | succ i => rw [hset_succ, ih (by simpa using h)]

theorem run_convert_same (w : World) {P : Program} (src : TypeId) (e0 e : TypeId) (a : Addr) (n c : Nat) (hs : P.underlying src = some (.slice e)) (he : P.underlying e = some (.int .u8)) {cs : Array Value} {el : TypeId} {fz : Nat × Nat} (hw : w.heap[a.block]? = some (.cells cs el fz)) :
    (convert src src (.slice (some a) n c)).run P w = .ok (.slice (some a) n c) (w.freeze ⟨a.block, cs.size, none⟩ 1) := by
  have hsh : w.shape? a.block = some (el, cs.size) := by simp [World.shape?, hw]
  simp [convert, run_underlying hs, run_underlying he, markStringish, hsh]

theorem freeze_get (w : World) (b m : Nat) {cs : Array Value} {el : TypeId} {fz : Nat × Nat} (hw : w.heap[b]? = some (.cells cs el fz)) (hf : fzOK fz cs.size) (hm : m = cs.size) :
    (∃ fz', (w.freeze ⟨b, m, none⟩ 1).heap[b]? = some (.cells cs el fz') ∧ fzOK fz' cs.size) ∧ (∀ b', b' ≠ b → (w.freeze ⟨b, m, none⟩ 1).heap[b']? = w.heap[b']?) ∧ (w.freeze ⟨b, m, none⟩ 1).heap.size = w.heap.size := by
  obtain ⟨lo, hi⟩ := fz
  refine ⟨?_, fun b' hb => ?_, by simp [World.freeze]⟩
  · have hlt := (Array.getElem?_eq_some_iff.1 hw).1
    refine ⟨if lo == hi then (m, m + 1) else (min lo m, max hi (m + 1)), ?_, ?_⟩
    · simp [World.freeze, Array.getElem?_modify, hw]
    · subst hm
      split
      · exact .inr (Nat.le_refl _)
      · rename_i hne
        rcases hf with h | h
        · cases h; simp at hne
        · right; simp at h ⊢; omega
  · simp [World.freeze, Array.getElem?_modify, Ne.symm hb]

theorem rowAt_mono {P : Program} {fits : TypeId → Bool} : ∀ {d e count count' off n : Nat}, count ≤ count' → rowAt P fits d e count off n = true → rowAt P fits d e count' off n = true
  | 0, _, _, _, _, _, _, h => by simp [rowAt] at h
  | d + 1, e, count, count', off, n, hc, h => by
    simp only [rowAt] at h ⊢
    split
    · rename_i h0; rw [if_pos h0] at h; exact h
    · rename_i h0
      rw [if_neg h0] at h
      simp only [Bool.or_eq_true, Bool.and_eq_true, decide_eq_true_eq] at h ⊢
      rcases h with ⟨⟨h1, h2⟩, h3⟩ | ⟨h1, h2⟩
      · exact .inl ⟨⟨h1, by omega⟩, h3⟩
      · exact .inr ⟨by omega, h2⟩
theorem liesAt_mono {P : Program} {e count count' off u n : Nat} (hc : count ≤ count') : ∀ {d : Nat}, liesAt P d e count off u n = true → liesAt P d e count' off u n = true := by
  intro d
  induction d generalizing u n with
  | zero => intro h; simp [liesAt] at h
  | succ d ih =>
    intro h
    simp only [liesAt, Bool.or_eq_true] at h ⊢
    rcases h with h | h
    · exact .inl (rowAt_mono hc h)
    · right
      split at h
      · rename_i m u' hu; exact ih h
      · cases h

theorem convert_sound {P : Program} {ρ : Loc} {A A' : Heap} {w : World} (hR : Rel P ρ A w) {src dst : TypeId} {x x' v : Value} (h : aConvert P src dst x A = some (v, A')) (hx : VR ρ x x') :
    GoesV P ρ A w (convert src dst x') v A' := by
  unfold aConvert at h
  split at h
  · rename_i x0 e hs hd
    split at h
    · rename_i m cells he hco
      cases hb : aBytes cells with
      | none => rw [hb] at h; cases h
      | some l =>
        rw [hb] at h
        cases h
        obtain ⟨a, c, new', rfl, hnew, hnl, hcell, hnone⟩ := cellsOf_sound hR hco hx
        obtain ⟨ns, rfl, rfl⟩ := aBytes_cells cells l hb
        obtain rfl : new' = ns.map (Value.int .u8) := hnew.atoms_eq (by simp [atomB])
        refine GoesV.same hR (v' := .string ⟨(ns.map fun n => UInt8.ofNat n.toNat).toArray⟩) ?_ (.atom rfl)
        rw [run_convert_bytes_string w src dst e a m c hs he hd]
        cases a with
        | none =>
          have := hnone rfl
          subst this
          have : ns = [] := by
            cases ns with
            | nil => rfl
            | cons => simp at hnl
          subst this
          simp [Conv.bytesToString]
          rfl
        | some a =>
          have hl := run_loadCells_list (P := P) w a (ns.map (Value.int .u8)) (hcell a rfl)
          rw [hnl, Nat.mul_one] at hl
          rw [run_bytesToString w a m c ns hl, foldl_push]
          simp [ByteArray.empty, ByteArray.emptyWithCapacity]
          rfl
    · cases h
  · rename_i e s hs hd
    split at h
    · rename_i ti he hi
      split at h
      · rename_i hsz
        cases h
        obtain rfl := hx.string_inv
        have hcof : P.cellsOf e = 1 := by simp [Program.cellsOf, hi, hsz]
        have hge := grownCap_ge w s.size 0 e
        have hlen : s.data.size = s.size := rfl
        obtain ⟨hR1, hM1⟩ := hR.heap (w' := w.drew) rfl
        obtain ⟨L, hL, hr, hm, hget⟩ := new_sound hR1 (e := e) (use := .row) (cs := s.data.toList.map fun (b : UInt8) => (Value.int .u8 b.toNat))
          (cs' := (s.data.map fun (b : UInt8) => (Value.int .u8 b.toNat)) ++ Array.replicate (grownCap w s.size 0 e - s.size) (Value.int .u8 0)) (fz := (grownCap w s.size 0 e, grownCap w s.size 0 e + 1)) (by simp)
          (.inr (by simp [hlen]; omega)) (fun o v hv => by
            refine ⟨v, ?_, ?_⟩
            · rw [Array.getElem?_append_left (by have := (List.getElem?_eq_some_iff.1 hv).1; simpa using this)]
              rw [← Array.getElem?_toList, Array.toList_map]; exact hv
            · rw [List.getElem?_map] at hv
              cases hb : s.data.toList[o]? with
              | none => rw [hb] at hv; cases hv
              | some b => rw [hb] at hv; cases hv; exact .atom rfl)
        have hrun : (convert src dst (.string s)).run P w = .ok (.slice (some ⟨w.heap.size, 0, none⟩) s.size (grownCap w s.size 0 e))
            (w.drew.alloc (.cells ((s.data.map fun (b : UInt8) => (Value.int .u8 b.toNat)) ++ Array.replicate (grownCap w s.size 0 e - s.size) (Value.int .u8 0)) e (grownCap w s.size 0 e, grownCap w s.size 0 e + 1))) := by
          have hcv : (convert src dst (.string s)).run P w = (Conv.stringToBytes e s).run P w := by simp [convert, run_underlying hs, run_underlying hd, run_underlying he]
          rw [hcv, run_stringToBytes]
        refine ⟨_, _, _, hrun, ?_, hr, hM1.trans hm⟩
        refine .slice hget hge (.inr (by rw [hL]; rfl)) (fun _ => ?_)
        subst hL
        simp only [eszOf, hcof, Array.size_append, Array.size_map, Array.size_replicate, hlen]
        omega
      · cases h
    · cases h
  · rename_i e0 e i o n c hs hd
    split at h
    · rename_i cs el u he hg
      split at h
      · rename_i hcond
        obtain ⟨rfl, hn, hu⟩ := hcond
        cases h
        obtain ⟨L, p, c', hL, rfl, h1, h2, h3⟩ := hx.slice_inv
        have hp : p = ⟨L.blk, L.off + o, none⟩ := by
          rcases h2 with h2 | h2
          · omega
          · exact h2
        subst hp
        obtain ⟨cs', e', fz, hb, hcells, hse, hrest⟩ := hR.row i _ L hg hL
        obtain ⟨r1, r2, r3, r4, r5⟩ := hrest hu
        subst r1
        obtain ⟨⟨fz', f1, f2⟩, f3, f4⟩ := freeze_get w L.blk cs'.size hb r3 rfl
        have own : ARow.isOwn (.cells cs e' u) = true := by cases u <;> simp_all [ARow.isOwn]
        obtain ⟨g1, g2⟩ := hR.setOwn hg own own hL (w' := w.freeze ⟨L.blk, cs'.size, none⟩ 1) ⟨cs', e', fz', f1, hcells, hse, fun _ => ⟨rfl, r2, f2, r4, r5⟩⟩ f3 f4
        have hset : hset A i (some (.cells cs e' u)) = A := hset_same hg
        rw [hset] at g1 g2
        rw [hs] at hd
        cases hd
        exact ⟨_, _, ρ, run_convert_same w src e0 _ ⟨L.blk, L.off + o, none⟩ n c' hs he hb, .slice hL h1 (.inr rfl) h3, g1, g2⟩
      · cases h
    · cases h
  · rename_i t0 i o hs hd
    split at h
    · rename_i ti cs el u hi hg
      split at h
      · rename_i hcond
        obtain ⟨hsz, ho⟩ := hcond
        cases h
        obtain ⟨L, hL, rfl⟩ := hx.ptr_inv
        obtain ⟨cs', e', fz, hb, hcells, _⟩ := hR.row i _ L hg hL
        obtain ⟨v', hv', _⟩ := hcells o cs[o] (List.getElem?_eq_getElem ho)
        have hlt : L.off + o < cs'.size := (Array.getElem?_eq_some_iff.1 hv').1
        exact GoesV.same hR (Lib.run_to_unsafe w ⟨L.blk, L.off + o, none⟩ hs hd hi hsz (e := e') (cells := cs'.size) (by simp [World.shape?, hb]) hlt) (.ptr hL)
      · cases h
    · cases h
  · rename_i u0 i o hs hd
    split at h
    · rename_i ti cs e use hi hg
      split at h
      · rename_i hcond
        obtain ⟨hu, hlies⟩ := hcond
        cases h
        obtain ⟨L, hL, rfl⟩ := hx.ptr_inv
        obtain ⟨cs', e', fz, hb, hcells, _, hrest⟩ := hR.row i _ L hg hL
        obtain ⟨r1, r2, r3, r4, r5⟩ := hrest hu
        subst r1
        have hle : cs.length ≤ cs'.size := by
          rcases Nat.eq_zero_or_pos cs.length with h0 | h0
          · omega
          · obtain ⟨v', hv', _⟩ := hcells (cs.length - 1) cs[cs.length - 1] (List.getElem?_eq_getElem (by omega))
            have := (Array.getElem?_eq_some_iff.1 hv').1
            omega
        refine GoesV.same hR (Lib.run_from_unsafe w ⟨L.blk, L.off + o, none⟩ hs hd hi (e := e') (cells := cs'.size) (by simp [World.shape?, hb]) ?_) (.ptr hL)
        rw [r2, Nat.zero_add]
        exact liesAt_mono (Nat.div_le_div_right hle) hlies
      · cases h
    · cases h
  · cases h

theorem sliceData_sound {P : Program} {ρ : Loc} {A : Heap} {w : World} (hR : Rel P ρ A w) {ats : Array TypeId} {ty : TypeId} {x x' v : Value} (h : aSliceData x = some v) (hx : VR ρ x x') :
    GoesV P ρ A w (Builtin.unsafeSliceData_ ats ty #[x']) v A := by
  unfold aSliceData at h
  split at h
  · rename_i n c
    cases h
    obtain rfl := hx.atom_eq rfl
    exact GoesV.same hR (Lib.run_unsafeSliceData_nil w ats ty n c) (.atom rfl)
  · rename_i i o n c
    split at h
    · rename_i hn
      cases h
      obtain ⟨L, p, c', hL, rfl, h1, h2, h3⟩ := hx.slice_inv
      have hp : p = ⟨L.blk, L.off + o, none⟩ := by
        rcases h2 with h2 | h2
        · omega
        · exact h2
      subst hp
      exact GoesV.same hR (Lib.run_unsafeSliceData_row w ats ty _ n c' (by omega)) (.ptr hL)
    · cases h
  · cases h

theorem aBytes8_spec : ∀ (cells : List Value) (l : List UInt8), aBytes8 cells = some l → cells = l.map fun b => Value.int .u8 b.toNat
  | [], l, h => by cases h; rfl
  | v :: cells, l, h => by
    unfold aBytes8 at h
    split at h
    · rename_i heq; cases heq
    · rename_i n l2 heq
      cases heq
      split at h
      · rename_i hn
        cases hb : aBytes8 cells with
        | none => rw [hb] at h; cases h
        | some l1 =>
          rw [hb] at h
          cases h
          rw [aBytes8_spec cells l1 hb]
          simp only [List.map_cons, List.cons.injEq, Value.int.injEq, true_and, and_true]
          have : n.toNat < 256 := by omega
          simp [UInt8.toNat_ofNat, Nat.mod_eq_of_lt this]
          omega
      · cases h
    · cases h

theorem unsafeString_sound {P : Program} {ρ : Loc} {A A' : Heap} {w : World} {lim : Nat} (hR : Rel P ρ A w) {ats : Array TypeId} {ty : TypeId} {x x' y y' v : Value} (h : aUnsafeString P lim ats x y A = some (v, A')) (hx : VR ρ x x') (hy : VR ρ y y') :
    GoesV P ρ A w (Builtin.unsafeString_ ats ty #[x', y']) v A' := by
  unfold aUnsafeString at h
  split at h
  · rename_i pt it n hats
    have hats : ats = #[pt, it] := by apply Array.ext'; simpa using hats
    subst hats
    obtain rfl := hy.atom_eq rfl
    split at h
    · rename_i hn
      subst hn
      split at h
      · cases h
        obtain rfl := hx.atom_eq rfl
        exact GoesV.same hR (Lib.run_unsafeString_none w pt it ty none) (.atom rfl)
      · cases h
    · split at h
      · rename_i i
        split at h
        · rename_i e cs e' u he hg
          split at h
          · rename_i l hl
            split at h
            · rename_i hcond
              obtain ⟨rfl, hc, hn0, hnm, hnl, hu, _⟩ := hcond
              cases h
              obtain ⟨L, hL, rfl⟩ := hx.ptr_inv
              obtain ⟨cs', e2, fz, hb, hcells, _, hrest⟩ := hR.row i _ L hg hL
              obtain ⟨r1, r2, r3, r4, r5⟩ := hrest hu
              subst r1
              have hsp := aBytes8_spec _ _ hl
              have hll : l.length = n.toNat := by
                have := congrArg List.length hsp
                simp at this; omega
              have own : ARow.isOwn (.cells cs e2 u) = true := by cases u <;> simp_all [ARow.isOwn]
              have hlen : (n : Int) = (l.length : Int) := by omega
              have hrow := Lib.run_unsafeString_row (P := P) w pt it ty e2 he hc L.blk cs'.size (by simp [World.shape?, hb]) l (by intro e; subst e; simp at hll; omega) (by
                rcases Nat.eq_zero_or_pos l.length with h0 | h0
                · omega
                · obtain ⟨v', hv', _⟩ := hcells (l.length - 1) cs[l.length - 1] (List.getElem?_eq_getElem (by omega))
                  have := (Array.getElem?_eq_some_iff.1 hv').1
                  omega) (by omega) (fun j b hj => by
                have hjl := (List.getElem?_eq_some_iff.1 hj).1
                have hcj : cs[j]? = some (.int .u8 b.toNat) := by
                  have := congrArg (·[j]?) hsp
                  simp only [List.getElem?_take, List.getElem?_map, hj, Option.map_some] at this
                  rwa [if_pos (by omega)] at this
                obtain ⟨v', hv', hvr⟩ := hcells j _ hcj
                have hv2 := hvr.atom_eq rfl
                subst hv2
                rw [r2, Nat.zero_add] at hv'
                rw [add_eq, Nat.zero_add]
                simp [World.cell?, hb, hv'])
              obtain ⟨g1, g2⟩ := hR.drop hg own hL (w' := w.freeze ⟨L.blk, 0, none⟩ l.length) (fun b' hb' => by
                unfold World.freeze
                split
                · rfl
                · simp [Array.getElem?_modify, Ne.symm hb']) (by unfold World.freeze; split <;> simp) (by unfold World.freeze; split <;> exact ⟨rfl, rfl⟩)
              refine ⟨_, _, ρ, ?_, .atom rfl, g1, g2⟩
              rw [hlen, r2]
              exact hrow
            · cases h
          · cases h
        · cases h
      · cases h
  · cases h
end Go.Abs
/-
The abstract machine: structs and arrays of plain parts are compared part by part.
-/
namespace Go.Abs
open Go

theorem run_eqLoop {α : Type} {P : Program} {w : World} (body : α → Option Bool × Unit → Sem (ForInStep (Option Bool × Unit))) : ∀ (l : List α) (bs : List Bool), l.length = bs.length →
    (∀ (k : Nat) (x : α) (b : Bool), l[k]? = some x → bs[k]? = some b → ∀ s, (body x s).run P w = .ok (if b then .yield (none, ()) else .done (some false, ())) w) →
    (forIn l ((none, ()) : Option Bool × Unit) body).run P w = .ok (if bs.all id then (none, ()) else (some false, ())) w
  | [], bs, hl, _ => by
    obtain rfl : bs = [] := List.length_eq_zero_iff.1 (by simpa using hl.symm)
    simp
  | x :: l, [], hl, _ => by simp at hl
  | x :: l, b :: bs, hl, h => by
    have h0 := h 0 x b rfl rfl (none, ())
    have ih := run_eqLoop body l bs (by simpa using hl) (fun k x b hx hb s => h (k + 1) x b (by simpa using hx) (by simpa using hb) s)
    rw [List.forIn_cons, Sem.run_bind, h0]
    cases b with
    | true => simpa using ih
    | false => simp

theorem parts_bools {P : Program} {f : TypeId → Value → Value → Option Bool} {xs ys : List Value} : ∀ (ps : List (TypeId × Nat)) (b : Bool), aEqParts P f xs ys ps = some b →
    ∃ bs : List Bool, bs.length = ps.length ∧ b = bs.all id ∧ ∀ (k : Nat) (t : TypeId) (o : Nat), ps[k]? = some (t, o) → ∃ x y e, bs[k]? = some e ∧ aPart P t xs o = some x ∧ aPart P t ys o = some y ∧ f t x y = some e
  | [], b, h => by cases h; exact ⟨[], rfl, rfl, fun k t o h => by simp at h⟩
  | (t, o) :: ps, b, h => by
    simp only [aEqParts] at h
    split at h
    · rename_i x y hx hy
      split at h
      · rename_i e r he hr
        cases h
        obtain ⟨bs, h1, h2, h3⟩ := parts_bools ps r hr
        refine ⟨e :: bs, by simp [h1], by simp [h2], fun k t' o' hk => ?_⟩
        cases k with
        | zero => simp at hk; obtain ⟨rfl, rfl⟩ := hk; exact ⟨x, y, e, rfl, hx, hy, he⟩
        | succ k => exact h3 k t' o' (by simpa using hk)
      · cases h
    · cases h

theorem eqDeep_run {P : Program} {w : World} {ρ : Loc} : ∀ (d D : Nat), d ≤ D → ∀ (t : TypeId) (x y x' y' : Value) (b : Bool), aEqDeep P d t x y = some b → VR ρ x x' → VR ρ y y' → (Op.equalIn D t x' y').run P w = .ok b w
  | 0, D, _, t, x, y, x', y', b, h, _, _ => by cases h
  | d + 1, 0, hd, _, _, _, _, _, _, _, _, _ => by omega
  | d + 1, D + 1, hd, t, x, y, x', y', b, h, hx, hy => by
    have ih := eqDeep_run (P := P) (w := w) (ρ := ρ) d D (by omega)
    have loop : ∀ {xs ys xs' ys' : Array Value} {ps : List (TypeId × Nat)} {b : Bool}, VRs ρ xs.toList xs'.toList → VRs ρ ys.toList ys'.toList → aEqParts P (aEqDeep P d) xs.toList ys.toList ps = some b →
        ∃ bs : List Bool, bs.length = ps.length ∧ b = bs.all id ∧ ∀ (k : Nat) (t : TypeId) (o : Nat) (e : Bool), ps[k]? = some (t, o) → bs[k]? = some e → ∃ x' y', (part t xs' o).run P w = .ok x' w ∧ (part t ys' o).run P w = .ok y' w ∧ (Op.equalIn D t x' y').run P w = .ok e w := by
      intro xs ys xs' ys' ps b hxs hys hp
      obtain ⟨bs, h1, h2, h3⟩ := parts_bools ps b hp
      refine ⟨bs, h1, h2, fun k t o e hk he => ?_⟩
      obtain ⟨x, y, e', g1, g2, g3, g4⟩ := h3 k t o hk
      rw [he] at g1; cases g1
      obtain ⟨x', a1, a2⟩ := part_sound (w := w) g2 hxs
      obtain ⟨y', b1, b2⟩ := part_sound (w := w) g3 hys
      exact ⟨x', y', a1, b1, ih t x y x' y' _ g4 a2 b2⟩
    unfold aEqDeep at h
    split at h
    · rename_i a c ht
      cases h
      obtain rfl := hx.bool_inv
      obtain rfl := hy.bool_inv
      simp [Op.equalIn, run_underlying ht]
    · rename_i j a k c ht
      obtain rfl := hx.int_inv
      obtain rfl := hy.int_inv
      split at h
      · rename_i hjk
        cases h
        simp [Op.equalIn, run_underlying ht, hjk]
      · cases h
    · rename_i a c ht
      cases h
      obtain rfl := hx.string_inv
      obtain rfl := hy.string_inv
      simp [Op.equalIn, run_underlying ht]
    · rename_i j a k c ht
      obtain rfl := hx.atom_eq rfl
      obtain rfl := hy.atom_eq rfl
      split at h
      · rename_i hjk
        cases h
        simp [Op.equalIn, run_underlying ht, hjk]
      · cases h
    · rename_i j a a2 k c c2 ht
      obtain rfl := hx.atom_eq rfl
      obtain rfl := hy.atom_eq rfl
      split at h
      · rename_i hjk
        cases h
        simp [Op.equalIn, run_underlying ht, hjk]
      · cases h
    · rename_i fs xs ys ht
      split at h
      · cases h
      · rename_i hc
        simp only [Bool.or_eq_true, not_or, Bool.not_eq_true] at hc
        obtain ⟨xs', rfl, hxs⟩ := hx.agg_inv
        obtain ⟨ys', rfl, hys⟩ := hy.agg_inv
        obtain ⟨bs, h1, h2, h3⟩ := loop hxs hys h
        have hl := run_eqLoop (P := P) (w := w) (fun (f : Field) (_ : Option Bool × Unit) => if f.name = "_" then pure (ForInStep.yield (none, ())) else do
              let a ← part f.type xs' f.offset
              let c ← part f.type ys' f.offset
              let e ← Op.equalIn D f.type a c
              if e = false then pure (ForInStep.done (some false, ())) else pure (ForInStep.yield (none, ()))) fs.toList bs (by rw [h1]; simp) (fun k f e hf he s => by
            have hname : ¬ f.name = "_" := by
              intro hn
              have := List.any_eq_false.1 hc.2 f (List.mem_of_getElem? hf)
              simp [hn] at this
            obtain ⟨a, c, g1, g2, g3⟩ := h3 k f.type f.offset e (by rw [List.getElem?_map, hf]; rfl) he
            simp only [if_neg hname, Sem.run_bind, g1, g2, g3, Result.andThen_ok]
            cases e <;> simp)
        simp only [Op.equalIn, Sem.run_bind, run_underlying ht, Result.andThen_ok]
        simp only [Array.forIn_toList] at hl
        simp [hc.1]
        rw [hl, h2]
        cases bs.all id <;> simp
    · rename_i n e xs ys ht
      split at h
      · rename_i ti hi
        obtain ⟨xs', rfl, hxs⟩ := hx.agg_inv
        obtain ⟨ys', rfl, hys⟩ := hy.agg_inv
        obtain ⟨bs, h1, h2, h3⟩ := loop hxs hys h
        have hl := run_eqLoop (P := P) (w := w) (fun (i : Nat) (_ : Option Bool × Unit) => do
              let a ← part e xs' (i * ti.size)
              let c ← part e ys' (i * ti.size)
              let r ← Op.equalIn D e a c
              if r = false then pure (ForInStep.done (some false, ())) else pure (ForInStep.yield (none, ()))) (List.range' 0 n) bs (by rw [h1]; simp) (fun k i r hf he s => by
            have hk : (List.range n)[k]? = some i := by rw [List.range_eq_range']; exact hf
            obtain ⟨a, c, g1, g2, g3⟩ := h3 k e (i * ti.size) r (by rw [List.getElem?_map, hk]; rfl) he
            simp only [Sem.run_bind, g1, g2, g3, Result.andThen_ok]
            cases r <;> simp)
        simp only [Op.equalIn, Sem.run_bind, run_underlying ht, Result.andThen_ok, run_sizeOf hi]
        simp
        rw [hl, h2]
        cases bs.all id <;> simp
      · cases h
    · cases h

theorem eqAgg_run {P : Program} {ρ : Loc} {w : World} {t : TypeId} {x x' y y' : Value} {b : Bool} (h : aEqAgg P t x y = some b) (hx : VR ρ x x') (hy : VR ρ y y') (u v : Operand) :
    (do eqGuard .eql t u v x' y'; binOp .eql t x' y').run P w = .ok (.bool b) w ∧ (do eqGuard .neq t u v x' y'; binOp .neq t x' y').run P w = .ok (.bool !b) w := by
  unfold aEqAgg at h
  split at h
  · rename_i xs ys
    split at h
    · cases h
    · rename_i hg
      obtain ⟨xs', rfl, hxs⟩ := hx.agg_inv
      obtain ⟨ys', rfl, hys⟩ := hy.agg_inv
      have he : (Op.equal t (.agg xs') (.agg ys')).run P w = .ok b w := eqDeep_run 20 10000 (by decide) t _ _ _ _ b h hx hy
      have hg' : P.eqGuardType P.depth t = false := by simpa using hg
      have g : ∀ op, (op = .eql ∨ op = .neq) → (eqGuard op t u v (.agg xs') (.agg ys')).run P w = .ok () w := by
        intro op hop
        rcases hop with rfl | rfl <;> unfold eqGuard <;> simp [hg']
      have h1 : binOp .eql t (.agg xs') (.agg ys') = (do pure (.bool (← Op.equal t (.agg xs') (.agg ys'))) : Sem Value) := rfl
      have h2 : binOp .neq t (.agg xs') (.agg ys') = (do pure (.bool (!(← Op.equal t (.agg xs') (.agg ys')))) : Sem Value) := rfl
      rw [h1, h2]
      simp [g .eql (.inl rfl), g .neq (.inr rfl), he]
  · cases h
end Go.Abs
/-
The abstract machine: each operation is what the model does. Maps with plain keys.
-/
namespace Go.Abs
open Go

theorem VR.map_inv {ρ : Loc} {i : Nat} {v : Value} (h : VR ρ (.map (some i)) v) : ∃ L, ρ i = some L ∧ v = .map (some L.blk) := by
  cases h with
  | atom h => simp [atomB] at h
  | map h => exact ⟨_, h, rfl⟩

theorem makeMap_sound {P : Program} {ρ : Loc} {A A' : Heap} {w : World} (hR : Rel P ρ A w) {t : TypeId} {r r' : Option Value} {v : Value} (h : aMakeMap P t r A = some (v, A')) (hr : OptR ρ r r') : GoesV P ρ A w (Instr.makeMap t r') v A' := by
  have key : ∃ ρ', VR ρ' (.map (some A.length)) (.map (some w.heap.size)) ∧ Rel P ρ' (A ++ [some (.map [] 0)]) (w.alloc (.map #[] 0)) ∧ Moves ρ A w ρ' (A ++ [some (.map [] 0)]) (w.alloc (.map #[] 0)) := by
    obtain ⟨h1, h2⟩ := hR.alloc (o := .map #[] 0) (r := .map [] 0) (esz := 0) (fin := 0) ⟨#[], heap_alloc_new w _, rfl, fun k key val born hk => by simp at hk⟩
    exact ⟨_, .map (Loc.put_self _ _ _), h1, h2⟩
  obtain ⟨ρ', k1, k2, k3⟩ := key
  unfold aMakeMap at h
  split at h
  · cases h
    cases r' with
    | some r' => exact absurd hr (by simp [OptR])
    | none => exact ⟨_, _, ρ', by simp [Instr.makeMap], k1, k2, k3⟩
  · split at h
    · rename_i ht
      cases h
      cases r' with
      | none => exact absurd hr (by simp [OptR])
      | some r' =>
        simp only [OptR] at hr
        obtain rfl := hr.int_inv
        exact ⟨_, _, ρ', by simp [Instr.makeMap, run_underlying ht, asInt, asIntOf], k1, k2, k3⟩
    · cases h
  · cases h

/-- The entries of a map and those of its row. -/
def EntR (ρ : Loc) (es : List (Value × Value × Nat)) (es' : Array MapEntry) : Prop :=
  es'.size = es.length ∧ ∀ (k : Nat) (key val : Value) (born : Nat), es[k]? = some (key, val, born) → ∃ e' : MapEntry, es'[k]? = some e' ∧ e'.key = key ∧ e'.born = born ∧ VR ρ val e'.val

theorem bytes_beq {a b : ByteArray} : (a == b) = true ↔ a = b := by
  have : (a == b) = (a.data == b.data) := rfl
  rw [this]
  constructor
  · intro h; cases a; cases b; simp at h; simp [h]
  · intro h; subst h; simp
theorem same_bits {d : TypeDesc} {a b : Value} (h : Instr.sameNow d a b = some true) : b = a := by
  unfold Instr.sameNow at h
  split at h
  · split at h
    · rename_i hk
      simp only [Option.some.injEq, beq_iff_eq] at h
      subst h; subst hk; rfl
    · cases h
  · simp only [Option.some.injEq, bytes_beq] at h
    subst h; rfl
  · simp only [Option.some.injEq, beq_iff_eq] at h
    subst h; rfl
  · cases h
/-- Keys that are the same. -/
theorem plain_eq {P : Program} {t : TypeId} {d : TypeDesc} (ht : P.underlying t = some d) (hd : plainKey d = true) {n : Nat} {x y : Value} (h : aEqDeep P (n + 1) t x y = some true) : x = y := by
  unfold aEqDeep at h
  rw [ht] at h
  cases d with
  | bool => cases x <;> cases y <;> first | (cases h; done) | (simp only [Option.some.injEq, beq_iff_eq] at h; rw [h])
  | string => cases x <;> cases y <;> first | (cases h; done) | (simp only [Option.some.injEq, bytes_beq] at h; rw [h])
  | int k0 =>
    cases x <;> cases y <;> try (cases h; done)
    simp only at h
    split at h
    · rename_i hjk; simp only [Option.some.injEq, beq_iff_eq] at h; rw [h, hjk]
    · cases h
  | _ => simp [plainKey] at hd
theorem keyAtom_atom {v : Value} (h : keyAtom v = true) : atomB v = true := by cases v <;> first | rfl | cases h
theorem keyAtoms_atoms {l : List Value} (h : l.all keyAtom = true) : l.all atomB = true := by
  rw [List.all_eq_true] at h ⊢
  exact fun x hx => keyAtom_atom (h x hx)
theorem flat_at {P : Program} : ∀ (fs : List Field) (i k : Nat) (f : Field), flatFields P i fs = true → fs[k]? = some f → f.offset = i + k ∧ f.name ≠ "_" ∧ ∃ d, P.underlying f.type = some d ∧ plainKey d = true
  | [], i, k, f, h, hk => by simp at hk
  | g :: fs, i, 0, f, h, hk => by
    simp only [flatFields, Bool.and_eq_true, beq_iff_eq, bne_iff_ne, ne_eq] at h
    obtain ⟨⟨⟨h1, h2⟩, h3⟩, h4⟩ := h
    simp at hk
    subst hk
    refine ⟨by simpa using h1, h2, ?_⟩
    split at h3
    · rename_i d hd; exact ⟨d, hd, h3⟩
    · cases h3
  | g :: fs, i, k + 1, f, h, hk => by
    simp only [flatFields, Bool.and_eq_true] at h
    have := flat_at fs (i + 1) k f h.2 (by simpa using hk)
    exact ⟨by omega, this.2⟩
theorem descAgg_plain {d : TypeDesc} (h : plainKey d = true) : descAgg d = false := by cases d <;> first | rfl | simp [plainKey] at h
theorem flat_eq {P : Program} {kt : TypeId} {fs : Array Field} (ht : P.underlying kt = some (.struct fs)) (hf : flatFields P 0 fs.toList = true) {xs ys : Array Value} (hx : xs.size = fs.size) (hy : ys.size = fs.size) (h : aEqDeep P 20 kt (.agg xs) (.agg ys) = some true) : xs = ys := by
  unfold aEqDeep at h
  rw [ht] at h
  simp only at h
  split at h
  · cases h
  · obtain ⟨bs, h1, h2, h3⟩ := parts_bools _ _ h
    apply Array.ext
    · omega
    · intro k hk hk'
      have hkf : k < fs.size := by omega
      obtain ⟨ho, hn, d, hd, hp⟩ := flat_at fs.toList 0 k fs[k] hf (by simp [hkf])
      obtain ⟨a, b, e, g1, g2, g3, g4⟩ := h3 k fs[k].type fs[k].offset (by rw [List.getElem?_map]; simp [hkf])
      have he : e = true := List.all_eq_true.1 h2.symm e (List.mem_of_getElem? g1)
      subst he
      have part : ∀ {cs : Array Value} {v : Value} (hc : k < cs.size), aPart P fs[k].type cs.toList fs[k].offset = some v → v = cs[k] := fun {cs v} hc hv => by
        unfold aPart at hv
        rw [hd] at hv
        simp only [descAgg_plain hp, Bool.false_eq_true, if_false, ho, Nat.zero_add] at hv
        simpa [hc] using hv.symm
      rw [← part hk g2, ← part hk' g3]
      exact plain_eq hd hp g4
theorem aSame_spec {P : Program} {kt : TypeId} {d : TypeDesc} {k key : Value} {ρ : Loc} {w : World} {b : Bool} (hd : P.underlying kt = some d) (hk : keyOK P d k = true) (h : aSameKey P kt d k key = some b) :
    ((∃ fs, d = .struct fs) ∧ Instr.sameNow d k key = none ∧ (Op.equal kt k key).run P w = .ok b w ∧ (b = true → key = k)) ∨ (plainKey d = true ∧ Instr.sameNow d k key = some b ∧ (b = true → key = k)) := by
  unfold aSameKey at h
  split at h
  · rename_i fs
    split at h
    · rename_i cs
      split at h
      · rename_i hsz
        obtain ⟨hsz, hat⟩ := hsz
        unfold keyOK at hk
        simp only [Bool.and_eq_true] at hk
        obtain ⟨hf, hk⟩ := hk
        split at hk
        · rename_i ks
          simp only [Bool.and_eq_true, beq_iff_eq] at hk
          refine .inl ⟨⟨fs, rfl⟩, by unfold Instr.sameNow; rfl, ?_, fun hb => ?_⟩
          · exact eqDeep_run (ρ := ρ) 20 10000 (by decide) kt _ _ _ _ b h (VR.refl ρ (by simpa [freeB] using keyAtoms_atoms hk.1)) (VR.refl ρ (by simpa [freeB] using hat))
          · subst hb
            rw [flat_eq hd hf hk.2 hsz h]
        · cases hk
      · cases h
    · cases h
  · rename_i hns
    refine .inr ⟨?_, h, fun hb => ?_⟩
    · unfold keyOK at hk
      split at hk
      · rename_i fs; exact absurd rfl (hns fs)
      · simp only [Bool.and_eq_true] at hk; exact hk.1
    · subst hb; exact same_bits h

theorem sameBits_key {n : Nat} {v : Value} (h : keyAtom v = true) : Instr.sameBits n v v = true := by
  cases v <;> first | (cases h; done) | skip
  all_goals (cases n <;> simp [Instr.sameBits, bytes_beq])
theorem sameBits_atoms {n : Nat} : ∀ {l : List Value}, l.all keyAtom = true → (l.zip l).all (fun x => Instr.sameBits n x.1 x.2) = true
  | [], _ => rfl
  | v :: l, h => by
    simp only [List.all_cons, Bool.and_eq_true] at h
    simp only [List.zip_cons_cons, List.all_cons, Bool.and_eq_true]
    exact ⟨sameBits_key h.1, sameBits_atoms h.2⟩
theorem run_stays {P : Program} {w : World} {d : TypeDesc} {k : Value} (hk : keyOK P d k = true) : (Instr.keyThatStays k k).run P w = .ok k w := by
  have : Instr.sameBits 10000 k k = true := by
    unfold keyOK at hk
    split at hk
    · simp only [Bool.and_eq_true] at hk
      obtain ⟨_, hk⟩ := hk
      split at hk
      · rename_i cs
        simp only [Bool.and_eq_true] at hk
        have := sameBits_atoms (n := 9999) hk.1
        show (cs.size == cs.size && (cs.toList.zip cs.toList).all fun x => Instr.sameBits 9999 x.1 x.2) = true
        simp [this]
      · cases hk
    · simp only [Bool.and_eq_true] at hk
      exact sameBits_key hk.2
  simp [Instr.keyThatStays, this]

theorem find_sound {P : Program} {ρ : Loc} {w : World} {kt : TypeId} {d : TypeDesc} {k : Value} (hd : P.underlying kt = some d) (hk : keyOK P d k = true) : ∀ (es : List (Value × Value × Nat)) (es' : List MapEntry) (i : Nat) (r : Option (Nat × Value)), aFind P kt d k es i = some r → es'.length = es.length →
    (∀ (j : Nat) (key val : Value) (born : Nat), es[j]? = some (key, val, born) → ∃ e' : MapEntry, es'[j]? = some e' ∧ e'.key = key ∧ e'.born = born ∧ VR ρ val e'.val) →
    ∃ r', ((plainKey d = true → Instr.findNow d k es' i = some r') ∧ ((∃ fs, d = .struct fs) → (es' ≠ [] → Instr.findNow d k es' i = none) ∧ (Instr.findAsking kt k es' i).run P w = .ok r' w)) ∧
      ((r = none ∧ r' = none) ∨ ∃ j v v' key born, r = some (i + j, v) ∧ r' = some (i + j, v') ∧ VR ρ v v' ∧ es[j]? = some (key, v, born) ∧ key = k)
  | [], es', i, r, h, hl, he => by
    cases h
    obtain rfl : es' = [] := List.length_eq_zero_iff.1 (by simpa using hl)
    exact ⟨none, ⟨fun _ => rfl, fun _ => ⟨fun h => absurd rfl h, by simp [Instr.findAsking]⟩⟩, .inl ⟨rfl, rfl⟩⟩
  | (key, val, born) :: es, es', i, r, h, hl, he => by
    obtain ⟨e', h1, h2, h3, h4⟩ := he 0 key val born rfl
    cases es' with
    | nil => simp at hl
    | cons e1 es1 =>
      simp only [List.getElem?_cons_zero, Option.some.injEq] at h1
      subst h1
      unfold aFind at h
      split at h
      · rename_i hs
        cases h
        refine ⟨some (i, e1.val), ?_, .inr ⟨0, val, e1.val, key, born, rfl, rfl, h4, rfl, ?_⟩⟩
        · rcases aSame_spec (ρ := ρ) (w := w) hd hk hs with ⟨⟨fs, rfl⟩, g1, g2, g3⟩ | ⟨g1, g2, g3⟩
          · refine ⟨fun hp => by simp [plainKey] at hp, fun _ => ⟨fun _ => ?_, ?_⟩⟩
            · unfold Instr.findNow; rw [h2, g1]
            · unfold Instr.findAsking; rw [h2]; simp [g2]
          · refine ⟨fun _ => ?_, fun ⟨fs, hfs⟩ => by subst hfs; simp [plainKey] at g1⟩
            unfold Instr.findNow; rw [h2, g2]
        · rcases aSame_spec (ρ := ρ) (w := w) hd hk hs with ⟨_, _, _, g3⟩ | ⟨_, _, g3⟩
          · exact g3 rfl
          · exact g3 rfl
      · rename_i hs
        obtain ⟨r', g, hr⟩ := find_sound (w := w) hd hk es es1 (i + 1) r h (by simpa using hl) (fun j key val born hj => by simpa using he (j + 1) key val born (by simpa using hj))
        refine ⟨r', ?_, ?_⟩
        · rcases aSame_spec (ρ := ρ) (w := w) hd hk hs with ⟨⟨fs, rfl⟩, g1, g2, g3⟩ | ⟨g1, g2, g3⟩
          · refine ⟨fun hp => by simp [plainKey] at hp, fun hx => ⟨fun _ => ?_, ?_⟩⟩
            · unfold Instr.findNow; rw [h2, g1]
            · unfold Instr.findAsking; rw [h2]; simp [g2, (g.2 hx).2]
          · refine ⟨fun hp => ?_, fun ⟨fs, hfs⟩ => by subst hfs; simp [plainKey] at g1⟩
            unfold Instr.findNow; rw [h2, g2]; exact g.1 hp
        · rcases hr with hr | ⟨j, v, v', key', born', a1, a2, a3, a4, a5⟩
          · exact .inl hr
          · exact .inr ⟨j + 1, v, v', key', born', by rw [a1, Nat.add_assoc, Nat.add_comm 1 j], by rw [a2, Nat.add_assoc, Nat.add_comm 1 j], a3, by simpa using a4, a5⟩
      · cases h

theorem keyOK_kind {P : Program} {d : TypeDesc} {k : Value} (hk : keyOK P d k = true) : plainKey d = true ∨ ∃ fs, d = .struct fs := by
  unfold keyOK at hk
  split at hk
  · exact .inr ⟨_, rfl⟩
  · simp only [Bool.and_eq_true] at hk; exact .inl hk.1
/-- Looking a key up, as the model does it. -/
theorem find_run {P : Program} {ρ : Loc} {w : World} {kt : TypeId} {d : TypeDesc} {k : Value} (hd : P.underlying kt = some d) (hk : keyOK P d k = true) {es : List (Value × Value × Nat)} {es' : List MapEntry} {r : Option (Nat × Value)} (h : aFind P kt d k es 0 = some r) (hl : es'.length = es.length)
    (he : ∀ (j : Nat) (key val : Value) (born : Nat), es[j]? = some (key, val, born) → ∃ e' : MapEntry, es'[j]? = some e' ∧ e'.key = key ∧ e'.born = born ∧ VR ρ val e'.val) :
    (r = none ∧ (Instr.findKey kt k es').run P w = .ok none w) ∨ ∃ j v v' key born, r = some (j, v) ∧ (Instr.findKey kt k es').run P w = .ok (some (j, v')) w ∧ VR ρ v v' ∧ es[j]? = some (key, v, born) ∧ key = k := by
  obtain ⟨r', ⟨g1, g2⟩, hr⟩ := find_sound (w := w) hd hk es es' 0 r h hl he
  have hrun : (Instr.findKey kt k es').run P w = .ok r' w := by
    rcases keyOK_kind hk with hp | hs
    · simp [Instr.findKey, run_underlying hd, g1 hp]
    · cases es' with
      | nil =>
        have := (g2 hs).2
        simp [Instr.findAsking] at this
        simp [Instr.findKey, run_underlying hd, Instr.findNow, this]
      | cons e1 es1 => simp [Instr.findKey, run_underlying hd, (g2 hs).1 (by simp), (g2 hs).2]
  rcases hr with ⟨rfl, rfl⟩ | ⟨j, v, v', key, born, a1, a2, a3, a4, a5⟩
  · exact .inl ⟨rfl, hrun⟩
  · exact .inr ⟨j, v, v', key, born, by simpa using a1, by rw [hrun]; simpa using a2, a3, a4, a5⟩

theorem run_checkKey1 {P : Program} {w : World} {kt : TypeId} {d : TypeDesc} {k : Value} {b : Bool} (n : Nat) (hd : P.underlying kt = some d) (hp : plainKey d = true) : (Instr.checkKey b (n + 1) kt k).run P w = .ok () w := by
  cases d <;> simp [plainKey] at hp <;> simp [Instr.checkKey, run_underlying hd]
theorem VRs.of_atoms {ρ : Loc} : ∀ {l : List Value}, l.all atomB = true → VRs ρ l l
  | [], _ => VRs.nil ρ
  | v :: l, h => by
    simp only [List.all_cons, Bool.and_eq_true] at h
    exact VRs.cons (.atom h.1) (VRs.of_atoms h.2)
theorem run_unitLoop {α : Type} {P : Program} {w : World} (body : α → PUnit → Sem (ForInStep PUnit)) : ∀ (l : List α), (∀ x ∈ l, ∀ s, (body x s).run P w = .ok (.yield ⟨⟩) w) → (forIn l (⟨⟩ : PUnit) body).run P w = .ok ⟨⟩ w
  | [], _ => by simp
  | x :: l, h => by
    rw [List.forIn_cons, Sem.run_bind, h x (by simp)]
    exact run_unitLoop body l fun y hy => h y (by simp [hy])
theorem run_checkKeyS {P : Program} {w : World} {kt : TypeId} {d : TypeDesc} {k : Value} {b : Bool} (n : Nat) (hd : P.underlying kt = some d) (hk : keyOK P d k = true) : (Instr.checkKey b (n + 2) kt k).run P w = .ok () w := by
  rcases keyOK_kind hk with hp | ⟨fs, rfl⟩
  · exact run_checkKey1 (n + 1) hd hp
  · unfold keyOK at hk
    simp only [Bool.and_eq_true] at hk
    obtain ⟨hf, hk⟩ := hk
    split at hk
    · rename_i cs
      simp only [Bool.and_eq_true, beq_iff_eq] at hk
      have hl := run_unitLoop (P := P) (w := w) (fun (f : Field) (_ : PUnit) => do
          if f.name ≠ "_" then Instr.checkKey b (n + 1) f.type (← part f.type cs f.offset)
          pure (ForInStep.yield PUnit.unit)) fs.toList (fun f hfm s => by
        obtain ⟨j, hj⟩ := List.mem_iff_getElem?.1 hfm
        obtain ⟨ho, hn, d, hd', hp⟩ := flat_at fs.toList 0 j f hf hj
        have hjlt : j < cs.size := by
          have := (List.getElem?_eq_some_iff.1 hj).1
          simp at this
          omega
        obtain ⟨v', hv, _⟩ := part_sound (P := P) (ρ := fun _ => none) (w := w) (t := f.type) (cs := cs) (cs' := cs) (o := f.offset) (v := cs[j]) (by
          unfold aPart; rw [hd']; simp [descAgg_plain hp, ho, hjlt]) (VRs.of_atoms (keyAtoms_atoms hk.1))
        simp [hn, hv, run_checkKey1 n hd' hp])
      simp only [Array.forIn_toList] at hl
      unfold Instr.checkKey
      simp only [Sem.run_bind, run_underlying hd, Result.andThen_ok]
      simp at hl ⊢
      rw [hl]
      rfl
    · cases hk
theorem run_getMap {P : Program} {w : World} {r : Nat} {es : Array MapEntry} {c : Nat} (h : w.heap[r]? = some (.map es c)) : (getObj r).run P w = .ok (.map es c) w := by
  simp [getObj, Sem.run, h]
theorem run_setMap {P : Program} {w : World} {r : Nat} {o : Obj} {es : Array MapEntry} {c : Nat} (h : w.heap[r]? = some (.map es c)) : (setObj r o).run P w = .ok () { w with heap := w.heap.setIfInBounds r o } := by
  simp [setObj, Sem.run, h]

theorem entries_sound {P : Program} {ρ : Loc} {A : Heap} {w : World} (hR : Rel P ρ A w) {x x' : Value} {es : List (Value × Value × Nat)} (h : aEntries x A = some es) (hx : VR ρ x x') :
    (x' = .map none ∧ es = []) ∨ ∃ (L : L4) (es' : Array MapEntry) (clock : Nat), x' = .map (some L.blk) ∧ w.heap[L.blk]? = some (.map es' clock) ∧ EntR ρ es es' := by
  unfold aEntries at h
  split at h
  · cases h; exact .inl ⟨hx.atom_eq rfl, rfl⟩
  · split at h
    · rename_i i es0 clock hg
      cases h
      obtain ⟨L, hL, rfl⟩ := hx.map_inv
      obtain ⟨es', h1, h2, h3⟩ := hR.row' hL hg
      exact .inr ⟨L, es', clock, rfl, h1, h2, h3⟩
    · cases h
  · cases h

theorem run_checkKey {P : Program} {w : World} {kt : TypeId} {d : TypeDesc} {k : Value} {b : Bool} (hd : P.underlying kt = some d) (hk : keyOK P d k = true) : (Instr.checkKey b 10000 kt k).run P w = .ok () w := run_checkKeyS 9998 hd hk
theorem keyOK_eq {P : Program} {ρ : Loc} {d : TypeDesc} {k k' : Value} (hk : keyOK P d k = true) (h : VR ρ k k') : k' = k := by
  unfold keyOK at hk
  split at hk
  · simp only [Bool.and_eq_true] at hk
    obtain ⟨_, hk⟩ := hk
    split at hk
    · rename_i cs
      simp only [Bool.and_eq_true] at hk
      exact h.atom2_eq (keyAtoms_atoms hk.1)
    · cases hk
  · simp only [Bool.and_eq_true] at hk; exact h.atom_eq (keyAtom_atom hk.2)

theorem run_findNil {P : Program} {w : World} {kt : TypeId} {d : TypeDesc} {k : Value} (hd : P.underlying kt = some d) (hk : keyOK P d k = true) : (Instr.findKey kt k []).run P w = .ok none w := by
  rcases find_run (ρ := fun _ => none) (w := w) hd hk (es := []) (es' := []) (r := none) rfl rfl (fun j key val born hj => by simp at hj) with ⟨_, h⟩ | ⟨j, v, v', key, born, h, _⟩
  · exact h
  · cases h

theorem lookup_sound {P : Program} {ρ : Loc} {A : Heap} {w : World} (hR : Rel P ρ A w) {t : TypeId} {x x' k k' v : Value} {ok : Bool} (h : aLookup P t x k ok A = some v) (hx : VR ρ x x') (hk : VR ρ k k') :
    GoesV P ρ A w (Instr.lookup t x' k' ok) v A := by
  unfold aLookup at h
  split at h
  · rename_i kt et es ht hes
    split at h
    · rename_i d hd
      split at h
      · rename_i hc
        have hpk := hc
        obtain rfl := keyOK_eq hc hk
        have hent := entries_sound hR hes hx
        have tup : ∀ {u u' : Value} {b : Bool}, VR ρ u u' → VR ρ (if ok then .tuple #[u, .bool b] else u) (if ok then .tuple #[u', .bool b] else u') := by
          intro u u' b hu
          cases ok with
          | false => simpa using hu
          | true => simpa using VR.tuple (cs := #[u, .bool b]) (cs' := #[u', .bool b]) rfl (VRs.cons hu (VRs.cons (.atom rfl) (VRs.nil ρ))).2
        split at h
        · rename_i j u hf
          rcases hent with ⟨_, rfl⟩ | ⟨L, es', clock, rfl, hw, he1, he2⟩
          · simp [aFind] at hf
          · rcases find_run (ρ := ρ) (w := w) hd hpk (es' := es'.toList) hf (by simpa using he1) (by simpa using he2) with ⟨g, _⟩ | ⟨j, u, u', key, born, g1, g2, g3, g4, g5⟩
            · cases g
            · cases g1
              cases h
              refine GoesV.same hR ?_ (tup (b := true) g3)
              simp [Instr.lookup, run_underlying ht, run_getMap hw, run_checkKey hd hpk, g2]
        · rename_i hf
          split at h
          · rename_i ti hti
            split at h
            · rename_i z hz
              split at h
              · rename_i hzf
                cases h
                have hzr := tup (b := false) (VR.refl ρ hzf)
                rcases hent with ⟨rfl, rfl⟩ | ⟨L, es', clock, rfl, hw, he1, he2⟩
                · refine GoesV.same hR ?_ hzr
                  simp [Instr.lookup, run_underlying ht, run_checkKey hd hpk, run_findNil hd hpk, run_zeroValue hti hz]
                · rcases Nat.eq_zero_or_pos es.length with h0 | h0
                  · obtain rfl : es = [] := List.length_eq_zero_iff.1 h0
                    obtain rfl : es' = #[] := Array.size_eq_zero_iff.1 (by simpa using he1)
                    refine GoesV.same hR ?_ hzr
                    simp [Instr.lookup, run_underlying ht, run_getMap hw, run_checkKey hd hpk, run_findNil hd hpk, run_zeroValue hti hz]
                  · rcases find_run (ρ := ρ) (w := w) hd hpk (es' := es'.toList) hf (by simpa using he1) (by simpa using he2) with ⟨_, g⟩ | ⟨j, u, u', key, born, g1, _⟩
                    · refine GoesV.same hR ?_ hzr
                      simp [Instr.lookup, run_underlying ht, run_getMap hw, run_checkKey hd hpk, g, run_zeroValue hti hz]
                    · cases g1
              · cases h
            · cases h
          · cases h
        · cases h
      · cases h
    · cases h
  · cases h

theorem lset_get {α : Type} (l : List α) (n : Nat) (x : α) (k : Nat) : (lset l n x)[k]? = if k = n ∧ n < l.length then some x else l[k]? := by
  induction l generalizing n k with
  | nil => simp [lset]
  | cons y l ih => cases n <;> cases k <;> simp [lset, ih]
theorem lset_length {α : Type} (l : List α) (n : Nat) (x : α) : (lset l n x).length = l.length := by
  induction l generalizing n with
  | nil => rfl
  | cons y l ih => cases n <;> simp [lset, ih]

theorem mapUpdate_sound {P : Program} {ρ : Loc} {A A' : Heap} {w : World} {lim : Nat} (hR : Rel P ρ A w) {t : TypeId} {m m' k k' x x' : Value} (h : aMapUpdate P lim t m k x A = some A') (hm : VR ρ m m') (hk : VR ρ k k') (hx : VR ρ x x') :
    ∃ w', (Instr.mapUpdate t m' k' x').run P w = .ok () w' ∧ Rel P ρ A' w' ∧ Moves ρ A w ρ A' w' := by
  unfold aMapUpdate at h
  split at h
  · rename_i kt et i ht
    split at h
    · rename_i d es clock hd hg
      split at h
      · rename_i hc
        obtain ⟨hpk, hlim⟩ := hc
        obtain rfl := keyOK_eq hpk hk
        obtain ⟨L, hL, rfl⟩ := hm.map_inv
        obtain ⟨es', hw, he1, he2⟩ := hR.row' hL hg
        have hlt : L.blk < w.heap.size := (Array.getElem?_eq_some_iff.1 hw).1
        have fin : ∀ {es2 : List (Value × Value × Nat)} {es2' : Array MapEntry} {c2 : Nat}, EntR ρ es2 es2' → Rel P ρ (hset A i (some (.map es2 c2))) { w with heap := w.heap.setIfInBounds L.blk (.map es2' c2) } ∧ Moves ρ A w ρ (hset A i (some (.map es2 c2))) { w with heap := w.heap.setIfInBounds L.blk (.map es2' c2) } := by
          intro es2 es2' c2 hen
          refine hR.setOwn hg rfl rfl hL ⟨es2', by simp [hlt], hen.1, hen.2⟩ (fun b hb => by simp [Array.getElem?_setIfInBounds_ne (Ne.symm hb)]) (by simp)
        split at h
        · rename_i j u hf
          rcases find_run (ρ := ρ) (w := w) hd hpk (es' := es'.toList) hf (by simpa using he1) (by simpa using he2) with ⟨g, _⟩ | ⟨j, u, u', key, born, g1, g2, g3, g4, g5⟩
          · cases g
          · cases g1
            obtain ⟨e', b1, b2, b3, b4⟩ := he2 j key _ born g4
            rw [g4] at h
            simp only [Option.some.injEq] at h
            subst h
            have hjlt : j < es.length := (List.getElem?_eq_some_iff.1 g4).1
            obtain ⟨r1, r2⟩ := fin (es2 := lset es j (k', x, born)) (es2' := es'.modify j fun e => { e with key := k', val := x' }) (c2 := clock) ⟨by simp [lset_length, he1], fun n key2 val2 born2 hn => by
              rw [lset_get] at hn
              split at hn
              · rename_i hh
                obtain ⟨rfl, _⟩ := hh
                cases hn
                exact ⟨{ e' with key := k', val := x' }, by simp [Array.getElem?_modify, b1], rfl, b3, hx⟩
              · rename_i hh
                obtain ⟨e2, c1, c2, c3, c4⟩ := he2 n key2 val2 born2 hn
                have hne : ¬ j = n := fun e => hh ⟨e.symm, hjlt⟩
                exact ⟨e2, by simp [Array.getElem?_modify, c1, hne], c2, c3, c4⟩⟩
            refine ⟨_, ?_, r1, r2⟩
            have hst : (Instr.keyThatStays e'.key k').run P w = .ok k' w := by rw [b2, g5]; exact run_stays hpk
            simp [Instr.mapUpdate, run_underlying ht, run_getMap hw, run_checkKey hd hpk, g2, b1, hst, run_setMap hw]
        · rename_i hf
          cases h
          rcases find_run (ρ := ρ) (w := w) hd hpk (es' := es'.toList) hf (by simpa using he1) (by simpa using he2) with ⟨_, g⟩ | ⟨j, u, u', key, born, g1, _⟩
          · obtain ⟨r1, r2⟩ := fin (es2 := es ++ [(k', x, clock)]) (es2' := es'.push { key := k', val := x', born := clock }) (c2 := clock + 1) ⟨by simp [he1], fun n key2 val2 born2 hn => by
              rcases Nat.lt_or_ge n es.length with hlt2 | hge
              · rw [List.getElem?_append_left hlt2] at hn
                obtain ⟨e2, c1, c2, c3, c4⟩ := he2 n key2 val2 born2 hn
                have hne : ¬ n = es'.size := by omega
                exact ⟨e2, by rw [Array.getElem?_push]; simp [hne, c1], c2, c3, c4⟩
              · rw [List.getElem?_append_right hge] at hn
                cases hz : n - es.length with
                | succ z => rw [hz] at hn; simp at hn
                | zero =>
                  rw [hz] at hn
                  cases hn
                  have heq : n = es'.size := by omega
                  exact ⟨{ key := k', val := x', born := clock }, by rw [Array.getElem?_push]; simp [heq], rfl, rfl, hx⟩⟩
            refine ⟨_, ?_, r1, r2⟩
            simp [Instr.mapUpdate, run_underlying ht, run_getMap hw, run_checkKey hd hpk, g, run_setMap hw]
          · cases g1
        · cases h
      · cases h
    · cases h
  · cases h
end Go.Abs
/-
The abstract machine: every operation that it runs is what the model does.
-/
namespace Go.Abs
open Go

theorem pureVal_run {P : Program} : ∀ (e : Sem Next) (v : Value), pureVal P e = some v → ∀ w, e.run P w = .ok (.value v) w := by
  intro e
  induction e with
  | pure n => intro v h w; cases n <;> simp [pureVal] at h; subst h; rfl
  | program k ih => intro v h w; exact ih P v h w
  | mark m k ih => intro v h w; exact ih v h w
  | _ => intro v h; simp [pureVal] at h

def Goes (P : Program) (ρ : Loc) (A : Heap) (w : World) (s : Sem Next) (v : Value) (A' : Heap) : Prop :=
  ∃ n v' w' ρ', s.run P w = .ok n w' ∧ (n = .value v' ∨ (n = .skip ∧ v' = undef)) ∧ VR ρ' v v' ∧ Rel P ρ' A' w' ∧ Moves ρ A w ρ' A' w'

theorem GoesV.up {P : Program} {ρ : Loc} {A A' : Heap} {w : World} {s : Sem Value} {v : Value} (h : GoesV P ρ A w s v A') : Goes P ρ A w (do pure (.value (← s))) v A' := by
  obtain ⟨v', w', ρ', hr, hv, hR, hM⟩ := h
  exact ⟨.value v', v', w', ρ', by simp [hr], .inl rfl, hv, hR, hM⟩

section
variable {P : Program} {ρ : Loc} {G nt lim : Nat} {A A' : Heap} {w : World} {l : List Value} {a : Act} {v : Value}

theorem pure_sound {o : Oper} (E : ∀ x ∈ o.op.operands.toList, VR ρ (ev l x) (a.eval x)) (hR : Rel P ρ A w) (hok : okOper G nt o = true) (h : aPure P l o A = some (v, A')) : Goes P ρ A w (execOp a.eval o) v A' := by
  unfold aPure at h
  split at h
  · rename_i hall
    split at h
    · rename_i u hp
      split at h
      · rename_i hf
        cases h
        have hcong : execOp (ev l) o = execOp a.eval o := by
          refine execOp_congr o ?_ fun x hx => ?_
          · intro cs b hsel
            simp [okOper, hsel] at hok
          · have hx' : x ∈ o.op.operands.toList := by simpa using hx
            have h1 := List.all_eq_true.1 hall x hx'
            exact ((E x hx').free_eq h1).symm
        rw [hcong] at hp
        exact ⟨.value v, v, w, ρ, pureVal_run _ _ hp w, .inl rfl, VR.refl ρ hf, hR, Moves.refl _ _ _⟩
      · cases h
    · cases h
  · cases h

theorem range_sound (hR : Rel P ρ A w) {t : TypeId} {x x' : Value} (h : aRange P t x A = some (v, A')) (hx : VR ρ x x') : GoesV P ρ A w (Instr.range t x') v A' := by
  unfold aRange at h
  split at h
  · rename_i s ht
    cases h
    obtain rfl := hx.string_inv
    obtain ⟨hr, hm⟩ := hR.alloc (o := .stringIter s 0) (r := .iter s 0) (esz := 0) (fin := 0) ⟨heap_alloc_new w _, rfl⟩
    refine ⟨.pointer (some ⟨w.heap.size, 0, none⟩), _, _, ?_, ?_, hr, hm⟩
    · simp [Instr.range, run_underlying ht]
    · exact VR.ptr (o := 0) (Loc.put_self _ _ _)
  · rename_i k e m ht
    split at h
    · rename_i es clock hg
      cases h
      cases hx with
      | atom ha => simp [atomB] at ha
      | map hM =>
        rename_i M
        obtain ⟨es', hb, _⟩ := hR.row' hM hg
        obtain ⟨hr, hm⟩ := hR.alloc (o := .mapIter (some M.blk) clock #[] clock) (r := .miter m clock [] clock) (esz := 0) (fin := 0) ⟨rfl, M, Ext.put (hR.sup _ (Nat.le_refl _)) _ _ _ hM, heap_alloc_new w _⟩
        exact ⟨.pointer (some ⟨w.heap.size, 0, none⟩), _, _, run_range_map w t k e M.blk es' clock ht hb, VR.ptr (o := 0) (Loc.put_self _ _ _), hr, hm⟩
    · cases h
  · cases h

theorem find_rel : ∀ {es : List (Value × Value × Nat)} {es' : List MapEntry}, es'.length = es.length → (∀ (k : Nat) (key val : Value) (born : Nat), es[k]? = some (key, val, born) → ∃ e' : MapEntry, es'[k]? = some e' ∧ e'.key = key ∧ e'.born = born ∧ VR ρ val e'.val) →
    ∀ {s : Nat} {e : Value × Value × Nat}, es.find? (fun e => e.2.2 == s) = some e → ∃ e', es'.find? (fun e => e.born == s) = some e' ∧ e'.key = e.1 ∧ VR ρ e.2.1 e'.val
  | [], es', hs, h, s, e, hf => by simp at hf
  | x :: es, [], hs, h, s, e, hf => by simp at hs
  | x :: es, x' :: es', hs, h, s, e, hf => by
    obtain ⟨x2, h0, h1, h2, h3⟩ := h 0 x.1 x.2.1 x.2.2 rfl
    obtain rfl : x' = x2 := by simpa using h0
    rw [List.find?_cons] at hf ⊢
    rw [h2]
    split at hf
    · cases hf; exact ⟨x', rfl, h1, h3⟩
    · exact find_rel (by simpa using hs) (fun k key val born hk => by simpa using h (k + 1) key val born (by simpa using hk)) hf

theorem entry_sound (hR : Rel P ρ A w) {x x' : Value} (h : aEntry x A = some v) (hx : VR ρ x x') : GoesV P ρ A w (Instr.entry x') v A := by
  unfold aEntry at h
  split at h
  · rename_i i
    split at h
    · rename_i m since seen last hg
      split at h
      · rename_i s es clock hs hm
        split at h
        · rename_i hc
          split at h
          · rename_i e he
            split at h
            · rename_i hfree
              cases h
              obtain ⟨L, hL, rfl⟩ := hx.ptr_inv
              obtain ⟨hoff, M, hM, hblk⟩ := hR.row' hL hg
              obtain ⟨es', hb, hsz, hrel⟩ := hR.row' hM hm
              obtain ⟨e', h1, h2, h3⟩ := find_rel (es' := es'.toList) (by simpa using hsz) (fun k key val born hk => let ⟨e', a, b⟩ := hrel k key val born hk; ⟨e', by simpa using a, b⟩) he
              have h1' : es'.find? (fun e => e.born == s) = some e' := by rw [← Array.find?_toList]; exact h1
              have hback : seen.toArray.back? = some s := by rw [List.back?_toArray]; exact hs
              refine ⟨.tuple #[e'.key, e'.val], w, ρ, ?_, .tuple rfl fun k u u' hu hu' => ?_, hR, Moves.refl _ _ _⟩
              · simp only [Instr.entry, hoff, Nat.add_zero, getObj, Sem.run_bind, Sem.run, hblk, hb, Result.andThen, hback, hc, bne_self_eq_false, Bool.false_eq_true, if_false, h1']
                rfl
              · match k with
                | 0 => simp at hu hu'; subst hu; subst hu'; rw [h2]; exact VR.refl ρ hfree
                | 1 => simp at hu hu'; subst hu; subst hu'; exact h3
                | k + 2 => simp at hu
            · cases h
          · cases h
        · cases h
      · cases h
    · cases h
  · cases h

theorem run_getObj' (P : Program) (w : World) (r : Nat) (s : ByteArray) (p : Nat) (h : w.heap[r]? = some (.stringIter s p)) : (getObj r).run P w = .ok (.stringIter s p) w := by
  simp [getObj, Sem.run, h]
theorem run_setObj' (P : Program) (w : World) (r : Nat) (s : ByteArray) (p : Nat) (o : Obj) (h : w.heap[r]? = some (.stringIter s p)) : (setObj r o).run P w = .ok () { w with heap := w.heap.setIfInBounds r o } := by
  simp [setObj, Sem.run, h]

theorem next_sound (hR : Rel P ρ A w) {ty : TypeId} {x x' : Value} {b : Bool} (h : aNext lim x b A = some (v, A')) (hx : VR ρ x x') : GoesV P ρ A w (Instr.next x' b ty) v A' := by
  unfold aNext at h
  split at h
  · rename_i i
    split at h
    · rename_i s pos hg
      split at h
      · rename_i hlim
        obtain ⟨L, hL, rfl⟩ := hx.ptr_inv
        obtain ⟨hblk, hoff⟩ := hR.row' hL hg
        have hget := run_getObj' P w L.blk s pos hblk
        split at h
        · rename_i hlt
          cases h
          obtain ⟨hr, hm⟩ := hR.setOwn (w' := { w with heap := w.heap.setIfInBounds L.blk (.stringIter s (pos + (Utf8.decode s pos).2)) }) (q' := .iter s (pos + (Utf8.decode s pos).2)) hg rfl rfl hL
            ⟨by have := (Array.getElem?_eq_some_iff.1 hblk).1; simp [this], hoff⟩ (fun k hk => by simp [Array.getElem?_setIfInBounds_ne (Ne.symm hk)]) (by simp)
          refine ⟨_, _, ρ, ?_, VR.refl ρ (by simp [freeB, atom2B, atomB]), hr, hm⟩
          have hset := run_setObj' P w L.blk s pos (.stringIter s (pos + (Utf8.decode s pos).2)) hblk
          simp [Instr.next, hoff, hget, hlt, hset, goInt]
        · rename_i hlt
          cases h
          exact GoesV.same hR (v' := .tuple #[.bool false]) (by simp [Instr.next, hoff, hget, hlt]) (VR.refl ρ (by simp [freeB, atom2B, atomB]))
      · cases h
    · cases h
  · cases h

theorem VRs.evs : ∀ (xs : List Operand), (∀ x ∈ xs, VR ρ (ev l x) (a.eval x)) → VRs ρ (xs.map (ev l)) (xs.map a.eval)
  | [], _ => VRs.nil ρ
  | x :: xs, h => VRs.cons (h x (by simp)) (VRs.evs xs fun y hy => h y (by simp [hy]))

theorem parts_ok (ps : Array (Nat × Operand)) (h : ∀ x ∈ ps.toList.map (·.2), VR ρ (ev l x) (a.eval x)) :
    (parts l ps).length = (ps.map fun (i, x) => (i, a.eval x)).toList.length ∧
    ∀ (k i : Nat) (v : Value) (i' : Nat) (v' : Value), (parts l ps)[k]? = some (i, v) → (ps.map fun (i, x) => (i, a.eval x)).toList[k]? = some (i', v') → i = i' ∧ VR ρ v v' := by
  refine ⟨by simp [parts], fun k i v i' v' h1 h2 => ?_⟩
  simp only [parts, List.getElem?_map, Array.toList_map] at h1 h2
  cases hk : ps.toList[k]? with
  | none => rw [hk] at h1; cases h1
  | some p =>
    obtain ⟨j, x⟩ := p
    rw [hk] at h1 h2
    cases h1; cases h2
    exact ⟨rfl, (h x (List.mem_map.2 ⟨(j, x), List.mem_of_getElem? hk, rfl⟩))⟩

theorem optEv {x : Option Operand} (h : ∀ y, x = some y → VR ρ (ev l y) (a.eval y)) : OptR ρ (x.map (ev l)) (x.map a.eval) := by
  cases x with
  | none => trivial
  | some y => exact h y rfl

theorem map_some {α β : Type} {x : Option α} {f : α → β} {y : β} (h : x.map f = some y) : ∃ z, x = some z ∧ f z = y := by
  cases x with
  | none => cases h
  | some z => exact ⟨z, rfl, by cases h; rfl⟩

theorem nilCheck_sound (hR : Rel P ρ A w) {o : Oper} {x : Operand} (ho : o.op = .nilCheck x) (h : aNilCheck (ev l x) = some v) (hx : VR ρ (ev l x) (a.eval x)) : Goes P ρ A w (execOp a.eval o) v A := by
  generalize hq : a.eval x = x' at hx
  have run : ∀ y, (∃ a, y = .pointer (some a)) ∨ (∃ k f c, y = .func (.func k) f c) ∨ (∃ a n c, y = .slice a n c) → a.eval x = y → (execOp a.eval o).run P w = .ok (.value y) w := by
    rintro y (⟨b, rfl⟩ | ⟨k, f, c, rfl⟩ | ⟨b, n, c, rfl⟩) hy <;> simp [execOp, ho, hy]
  unfold aNilCheck at h
  split at h
  · rename_i he
    rw [he] at hx
    cases h
    cases hx with
    | atom h => simp [atomB] at h
    | ptr hL => exact ⟨_, _, w, ρ, run _ (.inl ⟨_, rfl⟩) hq, .inl rfl, .ptr hL, hR, Moves.refl _ _ _⟩
  · rename_i he
    rw [he] at hx
    cases h
    cases hx with
    | atom h => simp [atomB] at h
    | func a b c d e => exact ⟨_, _, w, ρ, run _ (.inr (.inl ⟨_, _, _, rfl⟩)) hq, .inl rfl, .func a b c d e, hR, Moves.refl _ _ _⟩
  · rename_i he
    rw [he] at hx
    cases h
    cases hx with
    | atom h => exact ⟨_, _, w, ρ, run _ (.inr (.inr ⟨_, _, _, rfl⟩)) hq, .inl rfl, .atom h, hR, Moves.refl _ _ _⟩
    | slice a b c d => exact ⟨_, _, w, ρ, run _ (.inr (.inr ⟨_, _, _, rfl⟩)) hq, .inl rfl, .slice a b c d, hR, Moves.refl _ _ _⟩
  · cases h

set_option maxHeartbeats 1000000 in
theorem aOp_sound {o : Oper} (E : ∀ x ∈ o.op.operands.toList, VR ρ (ev l x) (a.eval x)) (hR : Rel P ρ A w) (hok : okOper G nt o = true) (h : aOp P lim l o A = some (v, A')) : Goes P ρ A w (execOp a.eval o) v A' := by
  have hp := fun hh => pure_sound (v := v) (A' := A') E hR hok hh
  obtain ⟨dst, op, type, pos, after, guard⟩ := o
  cases op
  case move x => cases h; exact ⟨_, _, w, ρ, rfl, .inl rfl, E x (by simp [Op.operands]), hR, Moves.refl _ _ _⟩
  case assign x => cases h; exact ⟨_, _, w, ρ, rfl, .inl rfl, E x (by simp [Op.operands]), hR, Moves.refl _ _ _⟩
  case pick c x y =>
    simp only [aOp] at h
    split at h
    · rename_i t hc
      cases h
      have hc' : a.eval c = .bool t := by have := E c (by simp [Op.operands]); rw [hc] at this; exact this.bool_inv
      refine ⟨.value (if t then a.eval x else a.eval y), _, w, ρ, by simp [execOp, hc', asBool], .inl rfl, ?_, hR, Moves.refl _ _ _⟩
      cases t
      · exact E y (by simp [Op.operands])
      · exact E x (by simp [Op.operands])
    · cases h
  case load t x =>
    obtain ⟨z, hz, he⟩ := map_some h
    cases he
    exact (load_sound hR hz (E x (by simp [Op.operands]))).up
  case store t x y =>
    obtain ⟨z, hz, he⟩ := map_some h
    cases he
    obtain ⟨w', hrun, hr, hm⟩ := store_sound hR hz (E x (by simp [Op.operands])) (E y (by simp [Op.operands]))
    exact ⟨.skip, undef, w', ρ, by simp [execOp, hrun], .inr ⟨rfl, rfl⟩, VR.undef ρ, hr, hm⟩
  case alloc t => exact (alloc_sound hR h).up
  case box t x =>
    have h : (if isJunk (ev l x) = true then none else some (aBox t (ev l x) A)) = some (v, A') := h
    split at h
    · cases h
    · rename_i hj
      cases h
      exact (box_sound hR (E x (by simp [Op.operands])) (by simpa using hj)).up
  case build t ps =>
    obtain ⟨z, hz, he⟩ := map_some h
    cases he
    obtain ⟨h1, h2⟩ := parts_ok ps (fun x hx => E x (by simpa [Op.operands] using hx))
    exact (build_sound hR hz h1 h2).up
  case buildSlice t n ps =>
    obtain ⟨h1, h2⟩ := parts_ok ps (fun x hx => E x (by simpa [Op.operands] using hx))
    exact (buildSlice_sound hR h h1 h2).up
  case makeSlice t x c => exact (makeSlice_sound hR h (E x (by simp [Op.operands])) (E c (by simp [Op.operands]))).up
  case fieldAddr t x f =>
    obtain ⟨z, hz, he⟩ := map_some h
    cases he
    exact (fieldAddr_sound hR hz (E x (by simp [Op.operands]))).up
  case indexAddr t x i =>
    obtain ⟨z, hz, he⟩ := map_some h
    cases he
    exact (indexAddr_sound hR hz (E x (by simp [Op.operands])) (E i (by simp [Op.operands]))).up
  case sliceToArrayPointer t x =>
    obtain ⟨z, hz, he⟩ := map_some h
    cases he
    exact (arrayAt_sound hR hz (E x (by simp [Op.operands]))).up
  case slice t x lo hi mx =>
    cases mx with
    | some m => simp [aOp] at h
    | none =>
      simp only [aOp] at h
      split at h
      · exact hp h
      · obtain ⟨z, hz, he⟩ := map_some h
        cases he
        exact (slice_sound hR hz (E x (by simp [Op.operands])) (optEv fun y hy => E y (by simp [Op.operands, hy])) (optEv fun y hy => E y (by simp [Op.operands, hy]))).up
  case field t x f =>
    obtain ⟨z, hz, he⟩ := map_some h
    cases he
    exact (field_sound hR hz (E x (by simp [Op.operands]))).up
  case index t x i =>
    obtain ⟨z, hz, he⟩ := map_some h
    cases he
    exact (index_sound hR hz (E x (by simp [Op.operands])) (E i (by simp [Op.operands]))).up
  case extract x i =>
    simp only [aOp] at h
    split at h
    · rename_i vs hvs
      obtain ⟨z, hz, he⟩ := map_some h
      cases he
      have hx := E x (by simp [Op.operands])
      rw [hvs] at hx
      obtain ⟨vs', he, hvv⟩ := hx.tuple_inv
      obtain ⟨v', hv', hr⟩ := hvv.get hz
      have hv2 : vs'[i]? = some v' := by rw [← Array.getElem?_toList]; exact hv'
      exact GoesV.up (GoesV.same hR (by simp [he, Instr.extract, hv2]) hr)
    · cases h
  case makeFunc fn f c =>
    simp only [aOp] at h
    split at h
    · rename_i hy
      cases h
      have e1 := VRs.evs f.toList (fun x hx => E x (by simp [Op.operands]; exact .inl (by simpa using hx)))
      have e2 := VRs.evs c.toList (fun x hx => E x (by simp [Op.operands]; exact .inr (by simpa using hx)))
      refine GoesV.up (GoesV.same hR (v' := .func fn (f.map a.eval) (c.map a.eval)) (by simp [Instr.makeFunc]) (.func hy (by simp) (by simp) (by simpa using e1.2) (by simpa using e2.2)))
    · cases h
  case makeInterface t x =>
    simp only [aOp] at h
    split at h
    · rename_i hc
      cases h
      exact GoesV.up (GoesV.same hR (run_makeInterface w t _ hc) (.iface (E x (by simp [Op.operands]))))
    · cases h
  case nilCheck x =>
    obtain ⟨z, hz, he⟩ := map_some h
    cases he
    exact nilCheck_sound hR rfl hz (E x (by simp [Op.operands]))
  case range t x => exact (range_sound hR h (E x (by simp [Op.operands]))).up
  case next x b => exact (next_sound hR h (E x (by simp [Op.operands]))).up
  case entry x =>
    obtain ⟨z, hz, he⟩ := map_some h
    cases he
    exact (entry_sound hR hz (E x (by simp [Op.operands]))).up
  case makeMap t r => exact (makeMap_sound hR h (optEv fun y hy => E y (by simp [Op.operands, hy]))).up
  case lookup t x k b =>
    obtain ⟨z, hz, he⟩ := map_some h
    cases he
    exact (lookup_sound hR hz (E x (by simp [Op.operands])) (E k (by simp [Op.operands]))).up
  case mapUpdate t m k x =>
    obtain ⟨z, hz, he⟩ := map_some h
    cases he
    obtain ⟨w', hrun, hr, hm⟩ := mapUpdate_sound hR hz (E m (by simp [Op.operands])) (E k (by simp [Op.operands])) (E x (by simp [Op.operands]))
    exact ⟨.skip, undef, w', ρ, by simp [execOp, hrun], .inr ⟨rfl, rfl⟩, VR.undef ρ, hr, hm⟩
  case insert t m k x =>
    obtain ⟨z, hz, he⟩ := map_some h
    cases he
    obtain ⟨w', hrun, hr, hm⟩ := mapUpdate_sound hR hz (E m (by simp [Op.operands])) (E k (by simp [Op.operands])) (E x (by simp [Op.operands]))
    exact ⟨.skip, undef, w', ρ, by simp [execOp, hrun], .inr ⟨rfl, rfl⟩, VR.undef ρ, hr, hm⟩
  case convert s d x =>
    simp only [aOp] at h
    split at h <;> split at h <;> first | exact hp h | exact (convert_sound hR h (E x (by simp [Op.operands]))).up
  case binOp op t x y u =>
    have eqs : ∀ {b : Bool}, aEqNil P t (ev l x) (ev l y) = some b → _ := fun {b} hb => eqNil_run (w := w) hb (E x (by simp [Op.operands])) (E y (by simp [Op.operands])) x y
    have eqa : ∀ {b : Bool}, aEqAgg P t (ev l x) (ev l y) = some b → _ := fun {b} hb => eqAgg_run (w := w) hb (E x (by simp [Op.operands])) (E y (by simp [Op.operands])) x y
    cases op <;> simp only [aOp] at h <;> try exact hp h
    case eql =>
      split at h
      · rename_i b hb
        cases h
        exact GoesV.up (GoesV.same hR (eqs hb).1 (.atom rfl))
      · split at h
        · rename_i b hb
          cases h
          exact GoesV.up (GoesV.same hR (eqa hb).1 (.atom rfl))
        · exact hp h
    case neq =>
      split at h
      · rename_i b hb
        cases h
        exact GoesV.up (GoesV.same hR (eqs hb).2 (.atom rfl))
      · split at h
        · rename_i b hb
          cases h
          exact GoesV.up (GoesV.same hR (eqa hb).2 (.atom rfl))
        · exact hp h
  case unOp op t x => exact hp h
  case call c =>
    obtain ⟨callee, args, ats⟩ := c
    cases callee with
    | value f => simp [aOp] at h
    | invoke r m => simp [aOp] at h
    | builtin b =>
      have two : ∀ {x y : Operand}, args.toList = [x, y] → args = #[x, y] := fun h => by apply Array.ext'; simpa using h
      have one : ∀ {x : Operand}, args.toList = [x] → args = #[x] := fun h => by apply Array.ext'; simpa using h
      cases b <;> try (simp only [aOp] at h; exact hp h)
      case append =>
        simp only [aOp] at h
        split at h
        · rename_i x y hxy
          obtain rfl := two hxy
          have := append_sound (ty := type) (s := ev l x) (s' := a.eval x) (x := ev l y) (x' := a.eval y) hR h (E x (by simp [Op.operands, Call.operands])) (E y (by simp [Op.operands, Call.operands]))
          have h2 := this.up
          simpa [execOp, resolve, invoke, builtin] using h2
        · cases h
      case copy =>
        simp only [aOp] at h
        split at h
        · rename_i x y hxy
          obtain rfl := two hxy
          have h2 := (copy_sound (ty := type) hR h (E x (by simp [Op.operands, Call.operands])) (E y (by simp [Op.operands, Call.operands]))).up
          simpa [execOp, resolve, invoke, builtin] using h2
        · cases h
      case len =>
        simp only [aOp] at h
        split at h
        · rename_i x hxy
          obtain rfl := one hxy
          obtain ⟨z, hz, he⟩ := map_some h
          cases he
          have h2 := (len_sound (ty := type) hR hz (E x (by simp [Op.operands, Call.operands]))).up
          simpa [execOp, resolve, invoke, builtin] using h2
        · cases h
      case unsafeSliceData =>
        simp only [aOp] at h
        split at h
        · rename_i x hxy
          obtain rfl := one hxy
          obtain ⟨z, hz, he⟩ := map_some h
          cases he
          have h2 := (sliceData_sound (ats := ats) (ty := type) hR hz (E x (by simp [Op.operands, Call.operands]))).up
          simpa [execOp, resolve, invoke, builtin] using h2
        · cases h
      case unsafeString =>
        simp only [aOp] at h
        split at h
        · rename_i x y hxy
          obtain rfl := two hxy
          have h2 := (unsafeString_sound (ty := type) hR h (E x (by simp [Op.operands, Call.operands])) (E y (by simp [Op.operands, Call.operands]))).up
          simpa [execOp, resolve, invoke, builtin] using h2
        · cases h
  all_goals simp [aOp] at h
end
end Go.Abs
/-
The abstract machine: how it runs code and calls. Everything here reckons.
-/
namespace Go.Abs
open Go

/-- What is left to be done in a call. -/
inductive It where
  | code (c : Code)
  | inBlock (id : Nat)
  | inLoop (body : Code)
  | inScope (body : Code)
  | ops (all : Array Oper) (i : Nat)

def aExit (id : Nat) : List It → Option (List It)
  | .inBlock id' :: k => if id' == id then some k else aExit id k
  | .code _ :: k | .inLoop _ :: k | .inScope _ :: k | .ops _ _ :: k => aExit id k
  | [] => none
def aGoto (l : Nat) : List It → Option (List It)
  | .inScope body :: k =>
    match findLabel body l with
    | some rest => some (.code rest :: .inScope body :: k)
    | none => aGoto l k
  | .code _ :: k | .inLoop _ :: k | .inBlock _ :: k | .ops _ _ :: k => aGoto l k
  | [] => none

noncomputable def aYielded (ops : Array Oper) (l : List Value) (j : Nat) : Option Bool :=
  match (ops[j]?).bind (·.dst) with
  | some d => match tget l d with
    | .bool b => some b
    | _ => none
  | none => none
noncomputable def aWanted (ops : Array Oper) (l : List Value) (o : Oper) : Bool :=
  match o.guard with
  | none => true
  | some (j, want) => aYielded ops l j == some want

/-- A call of a Go function: which one, and with what. -/
noncomputable def aCallOf (l : List Value) (o : Oper) : Option (FuncId × List Value) :=
  match o.op with
  | .call { callee := .value x, args, .. } =>
    match ev l x with
    | .func (.func f) first captured => some (f, first.toList ++ args.toList.map (ev l) ++ captured.toList)
    | _ => none
  | _ => none

noncomputable def aResult (P : Program) (l : List Value) (A : Heap) : ResultVar → Option Value
  | .tmp t => some (tget l t)
  | .cell a t => aLoad P t (tget l a) A
noncomputable def aResults1 (P : Program) (l : List Value) (A : Heap) : List ResultVar → Option (List Value)
  | [] => some []
  | r :: rs =>
    match aResult P l A r, aResults1 P l A rs with
    | some v, some vs => some (v :: vs)
    | _, _ => none
noncomputable def aResults (P : Program) (fn : Func) (l : List Value) (A : Heap) : Option Value :=
  match aResults1 P l A fn.results.toList with
  | some [v] => some v
  | some vs => some (.tuple vs.toArray)
  | none => none

/-- The new rows that a value leads to. -/
def cellIds (s : Nat) : Value → List Nat
  | .pointer (some ⟨i, _, none⟩) => if s ≤ i then [i] else []
  | .slice (some ⟨i, _, none⟩) _ _ => if s ≤ i then [i] else []
  | _ => []
def aggIds (s : Nat) : Value → List Nat
  | .agg cs => cs.toList.flatMap (cellIds s)
  | v => cellIds s v
def valIds (s : Nat) : Value → List Nat
  | .tuple vs => vs.toList.flatMap (aggIds s)
  | v => aggIds s v
def place (i : Nat) : List Nat → Option Nat
  | [] => none
  | j :: l => if j = i then some 0 else (place i l).map (· + 1)
def cellRen (s : Nat) (ids : List Nat) : Value → Option Value
  | .pointer (some ⟨i, o, none⟩) => if i < s then some (.pointer (some ⟨i, o, none⟩)) else (place i ids).map fun j => .pointer (some ⟨s + j, o, none⟩)
  | .slice (some ⟨i, o, none⟩) n c => if i < s then some (.slice (some ⟨i, o, none⟩) n c) else (place i ids).map fun j => .slice (some ⟨s + j, o, none⟩) n c
  | v => if atomB v then some v else none
def listRen (f : Value → Option Value) : List Value → Option (List Value)
  | [] => some []
  | v :: l => match f v, listRen f l with
    | some v', some l' => some (v' :: l')
    | _, _ => none
def aggRen (s : Nat) (ids : List Nat) : Value → Option Value
  | .agg cs => (listRen (cellRen s ids) cs.toList).map fun l => .agg l.toArray
  | v => cellRen s ids v
def valRen (s : Nat) (ids : List Nat) : Value → Option Value
  | .tuple vs => (listRen (aggRen s ids) vs.toList).map fun l => .tuple l.toArray
  | v => aggRen s ids v
noncomputable def keptRows (A : Heap) : List Nat → Option Heap
  | [] => some []
  | i :: l => match hget A i, keptRows A l with
    | some (.cells cs e u), some R => if cs.all atomB then some (some (.cells cs e u) :: R) else none
    | _, _ => none
def nodupB : List Nat → Bool
  | [] => true
  | i :: l => (place i l).isNone && nodupB l
/-- Behind a call that wrote no row that was there: what the result does not lead to is forgotten. -/
noncomputable def aGC (A : Heap) (v : Value) (A' : Heap) : Value × Heap :=
  match valRen A.length (valIds A.length v) v, keptRows A' (valIds A.length v) with
  | some v', some [] => (v', A)
  | some v', some R => if nodupB (valIds A.length v) then (v', A ++ R) else (v, A')
  | _, _ => (v, A')

/-- The surroundings of a run: functions that write rows of their callers; functions whose results are known. -/
structure Env where
  impure : FuncId → Bool
  known : Nat → FuncId → List Value → Heap → Option (Value × Heap)

/-- A run: the slots and rows at its end, and the jump that left it (none: its end was reached). -/
abbrev RunF := List It → List Value → Heap → Option (List Value × Heap × Option Code)
/-- A jump by which a function's body may be left. -/
def retB : Option Code → Bool
  | none => true
  | some .ret => true
  | _ => false
/-- The slots of a call at its begin. -/
def padTo (n : Nat) (l : List Value) : List Value := l ++ List.replicate (n - l.length) undef
abbrev CallF := Nat → FuncId → List Value → Heap → Option (Value × Heap)

/-- A call of the function that a range over a function hands over. -/
noncomputable def aYieldOf (l : List Value) (o : Oper) : Option (Nat × List Value) :=
  match o.op with
  | .call { callee := .value x, args, .. } =>
    match ev l x with
    | .func (.yield i) _ _ => some (i, args.toList.map (ev l))
    | _ => none
  | _ => none
noncomputable def putAll (l : List Value) (ps : List (Tmp × Value)) : List Value := ps.foldl (fun l p => tset l p.1 p.2) l
/-- One round of a range over a function. -/
noncomputable def aYield (lim : Nat) (ih : RunF) (i : Nat) (args : List Value) (A : Heap) : Option (Bool × Heap) :=
  match hget A i with
  | some (.loop tm ps assign body .ready _) =>
    if lim ≤ i ∧ args.length = ps.size then
      match ih [.code assign] (putAll tm (ps.toList.zip args)) A with
      | some (l1, A1, none) =>
        match hget A1 i with
        | some (.loop tm1 ps1 as1 bo1 .ready pend1) =>
          match ih [.code body] l1 (hset A1 i (some (.loop tm1 ps1 as1 bo1 .busy pend1))) with
          | some (_, A2, j) =>
            match hget A2 i with
            | some (.loop tm2 ps2 as2 bo2 _ _) => some (j.isNone, hset A2 i (some (.loop tm2 ps2 as2 bo2 (if j.isNone then .ready else .done) j)))
            | _ => none
          | none => none
        | _ => none
      | _ => none
    else none
  | _ => none
/-- What an operation may call: Go functions; a round of a range over a function. -/
structure Sub where
  call : CallF
  yld : Nat → Nat → List Value → Heap → Option (Bool × Heap)
/-- One operation. -/
noncomputable def aOper (P : Program) (c : Sub) (lim : Nat) (l : List Value) (o : Oper) (A : Heap) : Option (Value × Heap) :=
  match aYieldOf l o with
  | some (y, args) => match c.yld lim y args A with
    | some (t, A') => some (.bool t, A')
    | none => none
  | none => match aCallOf l o with
    | some (f, args) => c.call lim f args A
    | none => aOp P lim l o A

def isJump : Code → Bool
  | .ret | .exit _ | .goto _ => true
  | _ => false
/-- A range over a function: the jump that a round has left, and the rows. -/
noncomputable def aRangeFunc (call : CallF) (lim : Nat) (l : List Value) (g : Operand) (ps : Array Tmp) (assign body : Code) (A : Heap) : Option (Option Code × Heap) :=
  match ev l g with
  | .func (.func f) first captured =>
    match call lim f (first.toList ++ [.func (.yield A.length) #[] #[]] ++ captured.toList) (A ++ [some (.loop l ps assign body .ready none)]) with
    | some (_, A') =>
      match hget A' A.length with
      | some (.loop tm ps' as' bo' st pend) => if st ≠ .busy then some (pend, hset A' A.length (some (.loop tm ps' as' bo' .exhausted pend))) else none
      | _ => none
    | none => none
  | _ => none

noncomputable def aStep (P : Program) (c : Sub) (draw : Array Oper → List Value → Heap → Option (List Value × Heap)) (lim : Nat) (ih : RunF) : RunF
  | [], l, A => some (l, A, none)
  | .code co :: k, l, A =>
    match co with
    | .ret => some (l, A, some .ret)
    | .skip => ih k l A
    | .label _ => ih k l A
    | .seq a b => ih (.code a :: .code b :: k) l A
    | .cond x a b => match ev l x with
      | .bool t => if t then ih (.code a :: k) l A else ih (.code b :: k) l A
      | _ => none
    | .block id b => ih (.code b :: .inBlock id :: k) l A
    | .loop b => ih (.code b :: .inLoop b :: k) l A
    | .scope b => ih (.code b :: .inScope b :: k) l A
    | .exit id => match aExit id k with
      | some k' => ih k' l A
      | none => some (l, A, some (.exit id))
    | .goto g => match aGoto g k with
      | some k' => ih k' l A
      | none => some (l, A, some (.goto g))
    | .region _ ops false => ih (.ops ops 0 :: k) l A
    | .region _ ops true => match draw ops l A with
      | some (l', A') => ih k l' A'
      | none => none
    | .rangeFunc g ps assign body => match aRangeFunc c.call lim l g ps assign body A with
      | some (none, A') => ih k l A'
      | some (some j, A') => if isJump j then ih (.code j :: k) l A' else none
      | none => none
    | _ => none
  | .inBlock _ :: k, l, A => ih k l A
  | .inScope _ :: k, l, A => ih k l A
  | .inLoop b :: k, l, A => ih (.code b :: .inLoop b :: k) l A
  | .ops all i :: k, l, A =>
    match all[i]? with
    | none => ih k l A
    | some o =>
      if aWanted all l o then
        match aOper P c lim l o A with
        | some (v, A') => ih (.ops all (i + 1) :: k) (tput l o.dst v) A'
        | none => none
      else ih (.ops all (i + 1) :: k) (tput l o.dst undef) A

/-- A call, over what runs code. -/
noncomputable def aCallBy (P : Program) (E : Env) (run : Nat → RunF) : CallF := fun lim f args A =>
  match E.known lim f args A with
  | some r => some r
  | none =>
    match P.funcs[f]? with
    | none => none
    | some fn =>
      match fn.body with
      | none =>
        if args.all freeB then
          match pureVal P (callFunc f args.toArray) with
          | some v => if freeB v then some (v, A) else none
          | none => none
        else none
      | some c =>
        if fn.ntmps < args.length then none
        else if E.impure f then
          match run lim [.code c] (padTo fn.ntmps args) A with
          | some (l', A', j) => if retB j then match aResults P fn l' A' with
              | some v => some (v, A')
              | none => none
            else none
          | none => none
        else
          match run A.length [.code c] (padTo fn.ntmps args) A with
          | some (l', A', j) => if retB j then match aResults P fn l' A' with
              | some v => some (aGC A v A')
              | none => none
            else none
          | none => none
end Go.Abs
