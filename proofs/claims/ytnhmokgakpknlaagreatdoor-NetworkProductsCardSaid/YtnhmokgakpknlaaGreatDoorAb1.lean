/-
An abstract machine for Go programs of the model: memory as rows with numbers of their own. This text: values, rows, the relation to a world.
-/
import Derived.Calls
import Derived.Orders
import Derived.Laws.Cells
import Derived.Laws.World
import Derived.Laws.Rows
import Derived.Laws.IdiomCopy
import Derived.Laws.Build
import Derived.RowKit3
namespace Go.Abs
open Go

/-- WHERE A ROW LIES: its block, the offset in it, the cells of an element (0: a row to which nothing is appended), the block's cells. -/
structure L4 where
  blk : Nat
  off : Nat
  esz : Nat
  fin : Nat

/-- Where the rows lie. -/
abbrev Loc := Nat → Option L4
def Ext (ρ ρ' : Loc) : Prop := ∀ i L, ρ i = some L → ρ' i = some L
theorem Ext.refl (ρ : Loc) : Ext ρ ρ := fun _ _ h => h
theorem Ext.trans {ρ ρ1 ρ2 : Loc} (h : Ext ρ ρ1) (h' : Ext ρ1 ρ2) : Ext ρ ρ2 := fun i L hi => h' i L (h i L hi)
def Loc.put (ρ : Loc) (n : Nat) (L : L4) : Loc := fun i => if i = n then some L else ρ i
theorem Ext.put {ρ : Loc} {n : Nat} (h : ρ n = none) (L : L4) : Ext ρ (ρ.put n L) := fun i M hi => by
  unfold Loc.put
  split
  · rename_i e; rw [e, h] at hi; cases hi
  · exact hi
@[simp] theorem Loc.put_self (ρ : Loc) (n : Nat) (L : L4) : ρ.put n L n = some L := by simp [Loc.put]

/-- A value without an address, of one cell. -/
def atomB : Value → Bool
  | .bool _ | .int _ _ | .float _ _ | .complex _ _ _ | .string _ | .pointer none | .slice none _ _ | .map none | .chan none | .nilFunc | .nilIface => true
  | _ => false

def atom2B : Value → Bool
  | .agg cs => cs.toList.all atomB
  | v => atomB v

/-- A value without an address. -/
def freeB : Value → Bool
  | .agg cs => cs.toList.all atomB
  | .tuple vs => vs.toList.all atom2B
  | .func (.func _) f c => f.size == 0 && c.size == 0
  | .iface _ v => atom2B v
  | v => atomB v

def Fn.notYield : Fn → Bool
  | .yield _ => false
  | _ => true

/-- WHAT A VALUE OF THE ABSTRACT MACHINE STANDS FOR. -/
inductive VR (ρ : Loc) : Value → Value → Prop
  | atom {v : Value} (h : atomB v = true) : VR ρ v v
  | ptr {i o : Nat} {L : L4} (h : ρ i = some L) : VR ρ (.pointer (some ⟨i, o, none⟩)) (.pointer (some ⟨L.blk, L.off + o, none⟩))
  | slice {i o n c c' : Nat} {p : Addr} {L : L4} (h : ρ i = some L) (hn : n ≤ c') (hp : c' = 0 ∨ p = ⟨L.blk, L.off + o, none⟩)
      (hb : L.esz ≠ 0 → L.off + o + c' * L.esz ≤ L.fin) : VR ρ (.slice (some ⟨i, o, none⟩) n c) (.slice (some p) n c')
  | func {fn : Fn} {f c f' c' : Array Value} (hy : Fn.notYield fn = true) (hf : f.size = f'.size) (hc : c.size = c'.size)
      (hfs : ∀ (k : Nat) (v v' : Value), f.toList[k]? = some v → f'.toList[k]? = some v' → VR ρ v v') (hcs : ∀ (k : Nat) (v v' : Value), c.toList[k]? = some v → c'.toList[k]? = some v' → VR ρ v v') :
      VR ρ (.func fn f c) (.func fn f' c')
  | yield {i : Nat} {L : L4} (h : ρ i = some L) : VR ρ (.func (.yield i) #[] #[]) (.func (.yield L.blk) #[] #[])
  | map {i : Nat} {L : L4} (h : ρ i = some L) : VR ρ (.map (some i)) (.map (some L.blk))
  | iface {t : TypeId} {v v' : Value} (h : VR ρ v v') : VR ρ (.iface t v) (.iface t v')
  | agg {cs cs' : Array Value} (hs : cs.size = cs'.size) (h : ∀ (k : Nat) (v v' : Value), cs.toList[k]? = some v → cs'.toList[k]? = some v' → VR ρ v v') : VR ρ (.agg cs) (.agg cs')
  | tuple {cs cs' : Array Value} (hs : cs.size = cs'.size) (h : ∀ (k : Nat) (v v' : Value), cs.toList[k]? = some v → cs'.toList[k]? = some v' → VR ρ v v') : VR ρ (.tuple cs) (.tuple cs')

def VRs (ρ : Loc) (l l' : List Value) : Prop := l.length = l'.length ∧ ∀ (k : Nat) (v v' : Value), l[k]? = some v → l'[k]? = some v' → VR ρ v v'

theorem VRs.nil (ρ : Loc) : VRs ρ [] [] := ⟨rfl, fun _ _ _ h => by simp at h⟩
theorem VRs.cons {ρ : Loc} {v v' : Value} {l l' : List Value} (h : VR ρ v v') (hl : VRs ρ l l') : VRs ρ (v :: l) (v' :: l') :=
  ⟨by simp [hl.1], fun k a b ha hb => by
    cases k with
    | zero => simp at ha hb; subst ha; subst hb; exact h
    | succ k => exact hl.2 k a b (by simpa using ha) (by simpa using hb)⟩
theorem VRs.uncons {ρ : Loc} {v : Value} {l l2 : List Value} (h : VRs ρ (v :: l) l2) : ∃ v' l', l2 = v' :: l' ∧ VR ρ v v' ∧ VRs ρ l l' := by
  obtain ⟨hl, hr⟩ := h
  cases l2 with
  | nil => simp at hl
  | cons v' l' => exact ⟨v', l', rfl, hr 0 v v' rfl rfl, by simpa using hl, fun k a b ha hb => hr (k + 1) a b (by simpa using ha) (by simpa using hb)⟩
theorem VRs.get {ρ : Loc} {l l' : List Value} (h : VRs ρ l l') {k : Nat} {v : Value} (hv : l[k]? = some v) : ∃ v', l'[k]? = some v' ∧ VR ρ v v' := by
  have hk : k < l.length := (List.getElem?_eq_some_iff.1 hv).1
  have hk' : k < l'.length := h.1 ▸ hk
  exact ⟨l'[k], List.getElem?_eq_getElem hk', h.2 k _ _ hv (List.getElem?_eq_getElem hk')⟩
theorem VRs.append {ρ : Loc} {a a' b b' : List Value} (h : VRs ρ a a') (h2 : VRs ρ b b') : VRs ρ (a ++ b) (a' ++ b') := by
  induction a generalizing a' with
  | nil => cases a' with
    | nil => simpa using h2
    | cons x y => exact absurd h.1 (by simp)
  | cons v l ih =>
    obtain ⟨v', l', rfl, hv, hl⟩ := h.uncons
    exact VRs.cons hv (ih hl)
theorem VRs.take {ρ : Loc} {a a' : List Value} (h : VRs ρ a a') (n : Nat) : VRs ρ (a.take n) (a'.take n) := by
  refine ⟨by simp [h.1], fun k v v' hv hv' => ?_⟩
  rw [List.getElem?_take] at hv hv'
  split at hv <;> simp_all
  exact h.2 k v v' hv hv'
theorem VRs.drop {ρ : Loc} {a a' : List Value} (h : VRs ρ a a') (n : Nat) : VRs ρ (a.drop n) (a'.drop n) := by
  refine ⟨by simp [h.1], fun k v v' hv hv' => ?_⟩
  rw [List.getElem?_drop] at hv hv'
  exact h.2 _ v v' hv hv'

theorem VR.mono {ρ : Loc} {v v' : Value} (h : VR ρ v v') : ∀ {ρ' : Loc}, Ext ρ ρ' → VR ρ' v v' := by
  have get {ρ ρ' : Loc} (hp : Ext ρ ρ') {i : Nat} {L : L4} (h : ρ i = some L) : ρ' i = some L := hp i L h
  induction h with
  | atom h => exact fun _ => .atom h
  | ptr h => exact fun hp => .ptr (get hp h)
  | slice h hn hp hb => exact fun hx => .slice (get hx h) hn hp hb
  | func hy hf hc hfs hcs ih1 ih2 => exact fun hp => .func hy hf hc (fun k v v' a b => ih1 k v v' a b hp) (fun k v v' a b => ih2 k v v' a b hp)
  | yield h => exact fun hp => .yield (get hp h)
  | map h => exact fun hp => .map (get hp h)
  | iface h ih => exact fun hp => .iface (ih hp)
  | agg hs h ih => exact fun hp => .agg hs (fun k v v' a b => ih k v v' a b hp)
  | tuple hs h ih => exact fun hp => .tuple hs (fun k v v' a b => ih k v v' a b hp)
theorem VRs.mono {ρ ρ' : Loc} {l l' : List Value} (h : VRs ρ l l') (hp : Ext ρ ρ') : VRs ρ' l l' := ⟨h.1, fun k v v' a b => (h.2 k v v' a b).mono hp⟩

theorem VR.atom_eq {ρ : Loc} {v v' : Value} (h : VR ρ v v') (ha : atomB v = true) : v' = v := by
  cases h <;> simp_all [atomB]
theorem VRs.atoms_eq {ρ : Loc} {l l' : List Value} (h : VRs ρ l l') (ha : l.all atomB = true) : l' = l := by
  induction l generalizing l' with
  | nil => cases l' with
    | nil => rfl
    | cons x y => exact absurd h.1 (by simp)
  | cons v l ih =>
    obtain ⟨v', l2, rfl, hv, hl⟩ := h.uncons
    simp at ha
    rw [hv.atom_eq ha.1, ih hl (by simpa using ha.2)]
theorem VR.atom2_eq {ρ : Loc} {v v' : Value} (h : VR ρ v v') (ha : atom2B v = true) : v' = v := by
  cases h with
  | agg hs h => rw [Array.toList_inj.1 (VRs.atoms_eq ⟨by simpa using hs, h⟩ ha)]
  | _ => simp_all [atom2B, atomB]
theorem VRs.atom2s_eq {ρ : Loc} {l l' : List Value} (h : VRs ρ l l') (ha : l.all atom2B = true) : l' = l := by
  induction l generalizing l' with
  | nil => cases l' with
    | nil => rfl
    | cons x y => exact absurd h.1 (by simp)
  | cons v l ih =>
    obtain ⟨v', l2, rfl, hv, hl⟩ := h.uncons
    simp at ha
    rw [hv.atom2_eq ha.1, ih hl (by simpa using ha.2)]
theorem VR.free_eq {ρ : Loc} {v v' : Value} (h : VR ρ v v') (ha : freeB v = true) : v' = v := by
  cases h with
  | atom => rfl
  | ptr => simp [freeB, atomB] at ha
  | slice => simp [freeB, atomB] at ha
  | func hy hf hc hfs hcs =>
    rename_i fn f c f' c'
    cases fn <;> simp [freeB, atomB] at ha
    obtain ⟨h1, h2⟩ := ha
    subst h1; subst h2
    have : f' = #[] := Array.size_eq_zero_iff.1 (by simpa using hf.symm)
    have : c' = #[] := Array.size_eq_zero_iff.1 (by simpa using hc.symm)
    simp_all
  | yield => simp [freeB, atomB] at ha
  | map => simp [freeB, atomB] at ha
  | iface h => rw [h.atom2_eq ha]
  | agg hs h => rw [Array.toList_inj.1 (VRs.atoms_eq ⟨by simpa using hs, h⟩ ha)]
  | tuple hs h => rw [Array.toList_inj.1 (VRs.atom2s_eq ⟨by simpa using hs, h⟩ ha)]
theorem VR.refl_atom2 (ρ : Loc) {v : Value} (ha : atom2B v = true) : VR ρ v v := by
  cases v <;> first | exact .atom ha | skip
  case agg cs =>
    refine .agg rfl fun k v v' a b => ?_
    rw [a] at b; cases b
    exact .atom ((List.all_eq_true.1 ha) _ (List.mem_of_getElem? a))
theorem VR.refl (ρ : Loc) {v : Value} (ha : freeB v = true) : VR ρ v v := by
  cases v <;> first | exact .atom ha | skip
  case func fn f c =>
    cases fn <;> simp [freeB, atomB] at ha
    obtain ⟨h1, h2⟩ := ha
    subst h1; subst h2
    exact .func rfl rfl rfl (fun k v v' a => by simp at a) (fun k v v' a => by simp at a)
  case iface t v => exact .iface (VR.refl_atom2 ρ ha)
  case agg cs =>
    refine .agg rfl fun k v v' a b => ?_
    rw [a] at b; cases b
    exact .atom ((List.all_eq_true.1 ha) _ (List.mem_of_getElem? a))
  case tuple cs =>
    refine .tuple rfl fun k v v' a b => ?_
    rw [a] at b; cases b
    exact VR.refl_atom2 ρ ((List.all_eq_true.1 ha) _ (List.mem_of_getElem? a))

/-- What a row is for: read alone; a variable; the cells of a slice, to which may be appended. -/
inductive Use where
  | ro | var | row
  deriving DecidableEq

inductive ARow where
  | cells (cs : List Value) (elem : TypeId) (use : Use)
  | iter (s : ByteArray) (pos : Nat)
  | loop (tmps : List Value) (params : Array Tmp) (assign body : Code) (state : LoopState) (pending : Option Code)
  | map (es : List (Value × Value × Nat)) (clock : Nat)

abbrev Heap := List (Option ARow)

def ARow.isOwn : ARow → Bool
  | .cells _ _ .ro => false
  | _ => true
def ARow.isLoop : ARow → Bool
  | .loop .. => true
  | _ => false

/- The four that follow are given by recursors, for the kernel's sake. -/
noncomputable def hget (A : Heap) : Nat → Option ARow :=
  List.rec (motive := fun _ => Nat → Option ARow) (fun _ => none) (fun r _ ih n => Nat.rec (motive := fun _ => Option ARow) r (fun n _ => ih n) n) A
@[simp] theorem hget_nil (n : Nat) : hget [] n = none := rfl
@[simp] theorem hget_zero (r : Option ARow) (A : Heap) : hget (r :: A) 0 = r := rfl
@[simp] theorem hget_succ (r : Option ARow) (A : Heap) (n : Nat) : hget (r :: A) (n + 1) = hget A n := rfl
noncomputable def hset (A : Heap) : Nat → Option ARow → Heap :=
  List.rec (motive := fun _ => Nat → Option ARow → Heap) (fun _ _ => []) (fun r A ih n x => Nat.rec (motive := fun _ => Heap) (x :: A) (fun n _ => r :: ih n x) n) A
@[simp] theorem hset_nil (n : Nat) (x : Option ARow) : hset [] n x = [] := rfl
@[simp] theorem hset_zero (r x : Option ARow) (A : Heap) : hset (r :: A) 0 x = x :: A := rfl
@[simp] theorem hset_succ (r x : Option ARow) (A : Heap) (n : Nat) : hset (r :: A) (n + 1) x = r :: hset A n x := rfl

theorem hget_eq (A : Heap) (i : Nat) (r : ARow) : hget A i = some r ↔ A[i]? = some (some r) := by
  induction A generalizing i with
  | nil => simp []
  | cons x A ih => cases i with
    | zero => simp []
    | succ i => simp [ih]
@[simp] theorem hset_length (A : Heap) (i : Nat) (x : Option ARow) : (hset A i x).length = A.length := by
  induction A generalizing i with
  | nil => rfl
  | cons r A ih => cases i <;> simp [ih]
theorem hget_hset (A : Heap) (i j : Nat) (x : Option ARow) : hget (hset A i x) j = if i = j ∧ j < A.length then x else hget A j := by
  induction A generalizing i j with
  | nil => simp []
  | cons r A ih => cases i <;> cases j <;> simp [ih]
theorem hget_lt {A : Heap} {i : Nat} {r : ARow} (h : hget A i = some r) : i < A.length := (List.getElem?_eq_some_iff.1 ((hget_eq A i r).1 h)).1
theorem hget_append (A B : Heap) (i : Nat) : hget (A ++ B) i = if i < A.length then hget A i else hget B (i - A.length) := by
  induction A generalizing i with
  | nil => simp
  | cons r A ih => cases i with
    | zero => simp []
    | succ i => simp [ih]

/-- No cell of a row of n cells is frozen. -/
def fzOK (fz : Nat × Nat) (n : Nat) : Prop := fz = (0, 0) ∨ n ≤ fz.1

noncomputable def tget (l : List Value) : Nat → Value :=
  List.rec (motive := fun _ => Nat → Value) (fun _ => undef) (fun v _ ih n => Nat.rec (motive := fun _ => Value) v (fun n _ => ih n) n) l
@[simp] theorem tget_nil (n : Nat) : tget [] n = undef := rfl
@[simp] theorem tget_zero (v : Value) (l : List Value) : tget (v :: l) 0 = v := rfl
@[simp] theorem tget_succ (v : Value) (l : List Value) (n : Nat) : tget (v :: l) (n + 1) = tget l n := rfl
noncomputable def tnew (d : Nat) (x : Value) : List Value := Nat.rec (motive := fun _ => List Value) [x] (fun _ ih => undef :: ih) d
noncomputable def tset (l : List Value) : Nat → Value → List Value :=
  List.rec (motive := fun _ => Nat → Value → List Value) (fun d x => tnew d x) (fun v l ih d x => Nat.rec (motive := fun _ => List Value) (x :: l) (fun d _ => v :: ih d x) d) l
@[simp] theorem tset_nil_zero (x : Value) : tset [] 0 x = [x] := rfl
@[simp] theorem tset_nil_succ (n : Nat) (x : Value) : tset [] (n + 1) x = undef :: tset [] n x := rfl
@[simp] theorem tset_zero (v x : Value) (l : List Value) : tset (v :: l) 0 x = x :: l := rfl
@[simp] theorem tset_succ (v x : Value) (l : List Value) (n : Nat) : tset (v :: l) (n + 1) x = v :: tset l n x := rfl
theorem tget_tset (l : List Value) (d : Nat) (v : Value) (t : Nat) : tget (tset l d v) t = if t = d then v else tget l t := by
  induction d generalizing l t with
  | zero => cases l <;> cases t <;> simp []
  | succ d ih => cases l <;> cases t <;> simp [ih]
noncomputable def tput (l : List Value) (d : Option Nat) (v : Value) : List Value :=
  match d with
  | some d => tset l d v
  | none => l


def okOperand (G : Nat) : Operand → Bool
  | .const v => freeB v
  | .global g => g < G
  | _ => true
def okOper (G nt : Nat) (o : Oper) : Bool :=
  (o.op.operands.toList.all (okOperand G)) && (match o.dst with | some d => d < nt | none => true) && (match o.op with | .select .. => false | _ => true)

/-- Operations that look at no row. -/
def isPure : Op → Bool
  | .move _ | .assign _ | .pick .. | .build .. | .fieldAddr .. | .indexAddr .. | .field .. | .index .. | .extract .. | .makeFunc .. | .makeInterface .. | .nilCheck _ | .binOp .. | .unOp .. => true
  | .call { callee := .builtin .len, .. } => true
  | _ => false

/-- Of each operation, as bits: those that come before it in every order. -/
def ancsFrom : List Oper → List Nat → List Nat
  | [], acc => acc
  | o :: os, acc => ancsFrom os (acc ++ [o.after.toList.foldl (fun s e => if Region.binds .any e then s ||| 2 ^ e.on ||| acc.getD e.on 0 else s) 0])
def ancs (ops : List Oper) : List Nat := ancsFrom ops []

/-- What is asked of a region whose order is open: whatever an operation looks at is written in the same order always. -/
def okDraw (ops : Array Oper) : Bool :=
  ops.toList.zipIdx.all (fun x => x.1.after.toList.all fun e => !Region.binds .any e || e.on < x.2) &&
  ops.toList.zipIdx.all (fun y => ops.toList.zipIdx.all fun x => !(decide (x.2 < y.2)) || ((ancs ops.toList).getD y.2 0).testBit x.2 || Oper.apart ops x.1 y.1)

def isDefer : Op → Bool
  | .defer _ => true
  | _ => false
def okCode (G nt : Nat) : Code → Bool
  | .region _ ops d => ops.toList.all (okOper G nt) && (!d || (okDraw ops && ops.toList.all fun o => !isDefer o.op))
  | .seq a b => okCode G nt a && okCode G nt b
  | .cond c a b => okOperand G c && okCode G nt a && okCode G nt b
  | .block _ b => okCode G nt b
  | .loop b => okCode G nt b
  | .scope b => okCode G nt b
  | .rangeFunc g ps a b => okOperand G g && ps.toList.all (fun t => decide (t < nt)) && okCode G nt a && okCode G nt b
  | _ => true

def RowOK (P : Program) (ρ : Loc) (w : World) (L : L4) : ARow → Prop
  | .cells cs e use => ∃ cs' e' fz, w.heap[L.blk]? = some (.cells cs' e' fz) ∧ (∀ o v, cs[o]? = some v → ∃ v', cs'[L.off + o]? = some v' ∧ VR ρ v v') ∧
      (use ≠ .row → L.esz = 0) ∧ (use ≠ .ro → e' = e ∧ L.off = 0 ∧ fzOK fz cs'.size ∧ L.fin = cs'.size ∧ (use = .row → L.esz = P.cellsOf e))
  | .iter s pos => w.heap[L.blk]? = some (.stringIter s pos) ∧ L.off = 0
  | .loop tmps params assign body state pending => ∃ tmps' fn defers, w.heap[L.blk]? = some (.loop { state, pending, fn, tmps := tmps', params, assign, body, defers }) ∧ (∀ t, VR ρ (tget tmps t) (tmps'.getD t undef)) ∧
      params.toList.all (fun t => decide (t < tmps'.size)) = true ∧ okCode P.globals.size tmps'.size assign = true ∧ okCode P.globals.size tmps'.size body = true
  | .map es clock => ∃ es' : Array MapEntry, w.heap[L.blk]? = some (.map es' clock) ∧ es'.size = es.length ∧ ∀ (k : Nat) (key val : Value) (born : Nat), es[k]? = some (key, val, born) → ∃ e' : MapEntry, es'[k]? = some e' ∧ e'.key = key ∧ e'.born = born ∧ VR ρ val e'.val

structure Rel (P : Program) (ρ : Loc) (A : Heap) (w : World) : Prop where
  sup : ∀ i, A.length ≤ i → ρ i = none
  has : ∀ i r, hget A i = some r → ∃ L, ρ i = some L
  row : ∀ i r L, hget A i = some r → ρ i = some L → RowOK P ρ w L r
  sep : ∀ i j r s L M, hget A i = some r → hget A j = some s → ρ i = some L → ρ j = some M → i ≠ j → r.isOwn = true → L.blk ≠ M.blk

def OwnIn (ρ : Loc) (A : Heap) (b : Nat) : Prop := ∃ i r L, hget A i = some r ∧ ρ i = some L ∧ r.isOwn = true ∧ L.blk = b

/-- The block is a loop's record. -/
def IsLoop (w : World) (b : Nat) : Prop := ∃ r, w.heap[b]? = some (.loop r)

/-- A PIECE OF A RUN: blocks that are not own stay as they are. -/
structure Moves (ρ : Loc) (A : Heap) (w : World) (ρ' : Loc) (A' : Heap) (w' : World) : Prop where
  pre : Ext ρ ρ'
  len : A.length ≤ A'.length
  same : ∀ i, i < A.length → ρ' i = ρ i
  size : w.heap.size ≤ w'.heap.size
  frame : ∀ b, b < w.heap.size → ¬ OwnIn ρ A b → w'.heap[b]? = w.heap[b]?
  rows : ∀ i r L, hget A' i = some r → ρ' i = some L → (i < A.length ∧ ∃ r0, hget A i = some r0 ∧ (r.isOwn = true → r0.isOwn = true)) ∨ w.heap.size ≤ L.blk ∨ OwnIn ρ A L.blk
  out : w'.os = w.os ∧ w'.output = w.output
  loops : ∀ b, IsLoop w b → IsLoop w' b

theorem Moves.own {ρ ρ' : Loc} {A A' : Heap} {w w' : World} (h : Moves ρ A w ρ' A' w') : ∀ b, b < w.heap.size → OwnIn ρ' A' b → OwnIn ρ A b := by
  rintro b hb ⟨i, r, L, hi, hL, hr, rfl⟩
  rcases h.rows i r L hi hL with ⟨hlt, r0, h0, ho⟩ | h1 | h1
  · exact ⟨i, r0, L, h0, by rw [← h.same i hlt]; exact hL, ho hr, rfl⟩
  · omega
  · exact h1
theorem Moves.refl (ρ : Loc) (A : Heap) (w : World) : Moves ρ A w ρ A w := ⟨Ext.refl _, Nat.le_refl _, fun _ _ => rfl, Nat.le_refl _, fun _ _ _ => rfl, fun i r _ hi _ => .inl ⟨hget_lt hi, r, hi, id⟩, ⟨rfl, rfl⟩, fun _ h => h⟩
theorem Moves.trans {ρ ρ1 ρ2 : Loc} {A A1 A2 : Heap} {w w1 w2 : World} (h : Moves ρ A w ρ1 A1 w1) (h' : Moves ρ1 A1 w1 ρ2 A2 w2) : Moves ρ A w ρ2 A2 w2 :=
  ⟨h.pre.trans h'.pre, Nat.le_trans h.len h'.len, fun i hi => (h'.same i (Nat.lt_of_lt_of_le hi h.len)).trans (h.same i hi), Nat.le_trans h.size h'.size, fun b hb hn => by
    rw [h'.frame b (Nat.lt_of_lt_of_le hb h.size) (fun ho => hn (h.own b hb ho)), h.frame b hb hn],
   fun i r L hi hL => by
    rcases h'.rows i r L hi hL with ⟨hlt, r1, h1, ho1⟩ | h1 | ⟨k, r1, L1, a1, a2, a3, a4⟩
    · rw [h'.same i hlt] at hL
      rcases h.rows i r1 L h1 hL with ⟨hlt0, r0, h0, ho0⟩ | h2 | h2
      · exact .inl ⟨hlt0, r0, h0, fun hr => ho0 (ho1 hr)⟩
      · exact .inr (.inl h2)
      · exact .inr (.inr h2)
    · exact .inr (.inl (Nat.le_trans h.size h1))
    · rcases h.rows k r1 L1 a1 a2 with ⟨hlt0, r0, h0, ho0⟩ | h2 | h2
      · exact .inr (.inr ⟨k, r0, L1, h0, by rw [← h.same k hlt0]; exact a2, ho0 a3, a4⟩)
      · exact .inr (.inl (by omega))
      · exact .inr (.inr (a4 ▸ h2)),
   ⟨h'.out.1.trans h.out.1, h'.out.2.trans h.out.2⟩, fun b hb => h'.loops b (h.loops b hb)⟩

noncomputable def ev (l : List Value) : Operand → Value
  | .tmp t => tget l t
  | .const v => v
  | .global g => .pointer (some ⟨g, 0, none⟩)
  | .func f => .func (.func f) #[] #[]

/-- The frame of a call. -/
structure StR (ρ : Loc) (nt : Nat) (l : List Value) (a : Act) : Prop where
  size : a.tmps.size = nt
  tmps : ∀ t, VR ρ (tget l t) (a.tmps.getD t undef)

theorem StR.mono {ρ ρ' : Loc} {nt : Nat} {l : List Value} {a : Act} (h : StR ρ nt l a) (hp : Ext ρ ρ') : StR ρ' nt l a :=
  ⟨h.size, fun t => (h.tmps t).mono hp⟩
theorem VR.undef (ρ : Loc) : VR ρ undef undef := .tuple rfl fun k v v' a => by simp at a
theorem StR.put {ρ : Loc} {nt : Nat} {l : List Value} {a : Act} (h : StR ρ nt l a) {d : Option Nat} {v v' : Value} (hd : ∀ x, d = some x → x < nt) (hv : VR ρ v v') : StR ρ nt (tput l d v) (a.put d v') := by
  cases d with
  | none => exact h
  | some d =>
    have hlt : d < a.tmps.size := by rw [h.size]; exact hd d rfl
    refine ⟨by simp [Act.put, h.size], fun t => ?_⟩
    simp only [tput, tget_tset, Act.put]
    by_cases ht : t = d
    · subst ht; simpa [hlt] using hv
    · have := h.tmps t
      simp only [if_neg ht, Array.getD_eq_getD_getElem?, Array.getElem?_setIfInBounds_ne (Ne.symm ht)] at this ⊢
      exact this

theorem put_defers (a : Act) (d : Option Nat) (v : Value) : (a.put d v).defers = a.defers := by cases d <;> rfl

/-- The first blocks are the package's variables. -/
def Globs (ρ : Loc) (G : Nat) : Prop := ∀ g, g < G → ∃ e f, ρ g = some ⟨g, 0, e, f⟩
theorem Globs.mono {ρ ρ' : Loc} {G : Nat} (h : Globs ρ G) (hp : Ext ρ ρ') : Globs ρ' G := fun g hg => by
  obtain ⟨e, f, h⟩ := h g hg
  exact ⟨e, f, hp g _ h⟩
theorem StR.ev {ρ : Loc} {nt G : Nat} {l : List Value} {a : Act} (h : StR ρ nt l a) (hg : Globs ρ G) {x : Operand} (hx : okOperand G x = true) : VR ρ (ev l x) (a.eval x) := by
  cases x with
  | tmp t => exact h.tmps t
  | const v => exact VR.refl ρ hx
  | global g =>
    obtain ⟨e, f, hg⟩ := hg g (by simpa [okOperand] using hx)
    have := VR.ptr (o := 0) hg
    simpa [Abs.ev, Act.eval] using this
  | func f => exact .func rfl rfl rfl (fun k v v' a => by simp at a) (fun k v v' a => by simp at a)
end Go.Abs
