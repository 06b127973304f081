/-
The abstract machine: what each operation does. Everything here reckons; that it is what the model does stands in the next texts.
-/
import Derived.Test.YtnhmokgakpknlaaGreatDoorAb2
namespace Go.Abs
open Go

/-- The value of an operation that touches no memory. -/
def pureVal (P : Program) : Sem Next → Option Value
  | .pure (.value v) => some v
  | .program k => pureVal P (k P)
  | .mark _ k => pureVal P k
  | _ => none

def descAgg : TypeDesc → Bool
  | .struct _ | .array _ _ => true
  | _ => false

def aPart (P : Program) (t : TypeId) (cs : List Value) (o : Nat) : Option Value :=
  match P.underlying t with
  | none => none
  | some d =>
    if descAgg d then
      match P.info? t with
      | none => none
      | some i => if o + i.size ≤ cs.length then some (.agg ((cs.drop o).take i.size).toArray) else none
    else cs[o]?

noncomputable def aLoad (P : Program) (t : TypeId) (p : Value) (A : Heap) : Option Value :=
  match p with
  | .pointer (some ⟨i, o, none⟩) =>
    match hget A i with
    | some (.cells cs _ _) => aPart P t cs o
    | _ => none
  | _ => none

def splice (cs : List Value) (o : Nat) (vs : List Value) : List Value := cs.take o ++ vs ++ cs.drop (o + vs.length)

noncomputable def aStore (P : Program) (lim : Nat) (t : TypeId) (p x : Value) (A : Heap) : Option Heap :=
  match p with
  | .pointer (some ⟨i, o, none⟩) =>
    match hget A i, P.info? t with
    | some (.cells cs e use), some ti =>
      if use ≠ .ro ∧ lim ≤ i ∧ x.cells.toList.length = ti.size ∧ o + x.cells.toList.length ≤ cs.length ∧ x.cells.toList.all Value.oneCell' = true then
        some (hset A i (some (.cells (splice cs o x.cells.toList) e use)))
      else none
    | _, _ => none
  | _ => none

def aAlloc (P : Program) (t : TypeId) (A : Heap) : Option (Value × Heap) :=
  match P.info? t with
  | none => none
  | some i =>
    match i.zero with
    | none => none
    | some z => if freeB z then some (.pointer (some ⟨A.length, 0, none⟩), A ++ [some (.cells z.cells.toList t .var)]) else none

def aBox (t : TypeId) (x : Value) (A : Heap) : Value × Heap := (.pointer (some ⟨A.length, 0, none⟩), A ++ [some (.cells x.cells.toList t .var)])

def aFill (place : Nat → Option (Nat × Nat)) (cells : List Value) : List (Nat × Value) → Option (List Value)
  | [] => some cells
  | (i, v) :: rest =>
    match place i with
    | none => none
    | some (off, size) =>
      if v.cells.toList.length = size ∧ off + size ≤ cells.length then aFill place (splice cells off v.cells.toList) rest else none

/-- n cells of zeros, an element after the other. -/
def aZeros (z : List Value) : Nat → List Value
  | 0 => []
  | n + 1 => z ++ aZeros z n

def aBuildSlice (P : Program) (t : TypeId) (len : Nat) (parts : List (Nat × Value)) (A : Heap) : Option (Value × Heap) :=
  match P.underlying t with
  | some (.slice e) =>
    match P.info? e with
    | some ti =>
      match ti.zero with
      | some z =>
        if freeB z ∧ z.cells.toList.length = ti.size ∧ len * ti.size ≤ 16777216 then
          match aFill (fun i => some (i * ti.size, ti.size)) (aZeros z.cells.toList len) parts with
          | some cells => some (.slice (some ⟨A.length, 0, none⟩) len len, A ++ [some (.cells cells e .row)])
          | none => none
        else none
      | none => none
    | none => none
  | _ => none

def aPlaces (P : Program) (fields : List Field) : Option (List (Nat × Nat)) :=
  match fields with
  | [] => some []
  | f :: fs =>
    match P.info? f.type, aPlaces P fs with
    | some i, some ps => some ((f.offset, i.size) :: ps)
    | _, _ => none

def aBuild (P : Program) (t : TypeId) (parts : List (Nat × Value)) : Option Value :=
  match P.info? t with
  | none => none
  | some ti =>
    match ti.zero with
    | none => none
    | some z =>
      if freeB z then
        match P.underlying t with
        | some (.struct fields) =>
          match aPlaces P fields.toList with
          | some ps =>
            match aFill (fun i => ps[i]?) z.cells.toList parts with
            | some cells => some (.agg cells.toArray)
            | none => none
          | none => none
        | some (.array _ e) =>
          match P.info? e with
          | some ei =>
            match aFill (fun i => some (i * ei.size, ei.size)) z.cells.toList parts with
            | some cells => some (.agg cells.toArray)
            | none => none
          | none => none
        | _ => none
      else none

def aMakeSlice (P : Program) (t : TypeId) (l c : Value) (A : Heap) : Option (Value × Heap) :=
  match P.underlying t, l, c with
  | some (.slice e), .int _ n, .int _ m =>
    match P.info? e with
    | some ti =>
      match ti.zero with
      | some z =>
        if freeB z ∧ z.cells.toList.length = ti.size ∧ 0 ≤ n ∧ n ≤ m ∧ m ≤ 1099511627776 ∧ (ti.bytes : Int) * m ≤ 281474976710656 then
          some (.slice (some ⟨A.length, 0, none⟩) n.toNat n.toNat, A ++ [some (.cells (aZeros z.cells.toList n.toNat) e .row)])
        else none
      | none => none
    | none => none
  | _, _, _ => none

def aFieldAddr (P : Program) (t : TypeId) (p : Value) (f : Nat) : Option Value :=
  match P.underlying t, p with
  | some (.struct fields), .pointer (some ⟨i, o, none⟩) =>
    match fields[f]? with
    | some fd =>
      match P.info? fd.type with
      | some ti => if ti.size = 0 then none else some (.pointer (some ⟨i, o + fd.offset, none⟩))
      | none => none
    | none => none
  | _, _ => none

def aIndexAddr (P : Program) (t : TypeId) (x ix : Value) : Option Value :=
  match P.underlying t, x, ix with
  | some (.slice e), .slice (some ⟨i, o, none⟩) n _, .int _ k =>
    match P.info? e with
    | some ti => if 0 ≤ k ∧ k < n then some (.pointer (some ⟨i, o + k.toNat * ti.size, none⟩)) else none
    | none => none
  | some (.array n e), .pointer (some ⟨i, o, none⟩), .int _ k =>
    match P.info? e with
    | some ti => if 0 ≤ k ∧ k < n then some (.pointer (some ⟨i, o + k.toNat * ti.size, none⟩)) else none
    | none => none
  | _, _, _ => none

def aBound (d : Nat) : Option Value → Option Nat
  | none => some d
  | some (.int _ n) => if 0 ≤ n then some n.toNat else none
  | some _ => none

noncomputable def aSlice (P : Program) (t : TypeId) (x : Value) (lo hi : Option Value) (A : Heap) : Option Value :=
  match P.underlying t, x with
  | some (.slice e), .slice (some ⟨i, o, none⟩) n _ =>
    match P.info? e, aBound 0 lo, aBound n hi, hget A i with
    | some ti, some l, some h, some (.cells _ re use) =>
      if l ≤ h ∧ h ≤ n ∧ (use = .row → P.cellsOf re = ti.size) then some (.slice (some ⟨i, o + l * ti.size, none⟩) (h - l) (h - l)) else none
    | _, _, _, _ => none
  | some (.slice e), .slice none 0 0 =>
    match P.info? e, aBound 0 lo, aBound 0 hi with
    | some _, some 0, some 0 => some (.slice none 0 0)
    | _, _, _ => none
  | some (.array n e), .pointer (some ⟨i, o, none⟩) =>
    match P.info? e, aBound 0 lo, aBound n hi, hget A i with
    | some ti, some l, some h, some (.cells _ _ .var) => if l ≤ h ∧ h ≤ n then some (.slice (some ⟨i, o + l * ti.size, none⟩) (h - l) (h - l)) else none
    | some ti, some l, some h, some (.cells _ _ .ro) => if l ≤ h ∧ h ≤ n then some (.slice (some ⟨i, o + l * ti.size, none⟩) (h - l) (h - l)) else none
    | _, _, _, _ => none
  | _, _ => none

def aField (P : Program) (t : TypeId) (x : Value) (f : Nat) : Option Value :=
  match P.underlying t, x with
  | some (.struct fields), .agg cs =>
    match fields[f]? with
    | some fd => aPart P fd.type cs.toList fd.offset
    | none => none
  | _, _ => none

def aIndex (P : Program) (t : TypeId) (x ix : Value) : Option Value :=
  match P.underlying t, x, ix with
  | some (.array n e), .agg cs, .int _ k =>
    match P.info? e with
    | some ti => if 0 ≤ k ∧ k < n then aPart P e cs.toList (k.toNat * ti.size) else none
    | none => none
  | some .string, .string s, .int _ k => if 0 ≤ k then (s.data.toList[k.toNat]?).map fun b => .int .u8 b.toNat else none
  | _, _, _ => none

/-- Whether one of two values is nil, and the other not. -/
def aEqNil (P : Program) (t : TypeId) (x y : Value) : Option Bool :=
  match P.underlying t, x, y with
  | some (.pointer _), .pointer (some _), .pointer none => some false
  | some (.pointer _), .pointer none, .pointer (some _) => some false
  | some (.slice _), .slice (some _) _ _, .slice none _ _ => some false
  | some (.slice _), .slice none _ _, .slice (some _) _ _ => some false
  | some (.func ..), .nilFunc, .func .. => some false
  | some (.func ..), .func .., .nilFunc => some false
  | some (.interface _), .nilIface, .iface .. => some false
  | some (.interface _), .iface .., .nilIface => some false
  | some (.map ..), .map (some _), .map none => some false
  | some (.map ..), .map none, .map (some _) => some false
  | some (.pointer te), .pointer (some ⟨i, o, none⟩), .pointer (some ⟨j, p, none⟩) => if i = j ∧ o = p ∧ (P.info? te).isSome = true then some true else none
  | _, _, _ => none

/-- The cells that a slice, or a string, has. -/
noncomputable def aCellsOf (size : Nat) (x : Value) (A : Heap) : Option (Nat × List Value) :=
  match x with
  | .slice none 0 0 => some (0, [])
  | .slice (some ⟨i, o, none⟩) n _ =>
    match hget A i with
    | some (.cells cs _ _) => if o + n * size ≤ cs.length then some (n, (cs.drop o).take (n * size)) else none
    | _ => none
  | _ => none

/-- What is appended: the elements of a slice of the same type, or the bytes of a string. -/
noncomputable def aSource (P : Program) (size : Nat) (t t' : TypeId) (x : Value) (A : Heap) : Option (Nat × List Value) :=
  if t' = t then aCellsOf size x A
  else match P.underlying t', x with
    | some .string, .string s => if size = 1 then some (s.size, s.data.toList.map fun b => .int .u8 b.toNat) else none
    | _, _ => none

noncomputable def aAppend (P : Program) (lim : Nat) (ats : Array TypeId) (s x : Value) (A : Heap) : Option (Value × Heap) :=
  match ats[0]?, ats[1]? with
  | some t, some t' =>
    match P.underlying t with
    | some (.slice e) =>
      match P.info? e with
      | some ti =>
        match ti.zero with
        | some z =>
          if ats.size = 2 ∧ freeB z ∧ z.cells.toList.length = ti.size then
            match P.underlying t', x, s with
            | some (.int _), .int _ n, .slice none 0 0 =>
              if 0 < n ∧ 0 < ti.size ∧ n.toNat * ti.bytes ≤ 70368744177664 ∧ n ≤ 1099511627776 then
                some (.slice (some ⟨A.length, 0, none⟩) n.toNat n.toNat, A ++ [some (.cells (aZeros z.cells.toList n.toNat) e .row)])
              else none
            | _, _, _ =>
              match aSource P ti.size t t' x A with
              | some (0, _) =>
                match s with
                | .slice none 0 0 => some (s, A)
                | .slice (some ⟨_, _, none⟩) _ _ => some (s, A)
                | _ => none
              | some (m + 1, new) =>
                if new.all Value.oneCell' = true then
                  match s with
                  | .slice none 0 0 =>
                    if (m + 1) * ti.bytes ≤ 70368744177664 ∧ m + 1 ≤ 1099511627776 then
                      some (.slice (some ⟨A.length, 0, none⟩) (m + 1) (m + 1), A ++ [some (.cells new e .row)])
                    else none
                  | .slice (some ⟨i, 0, none⟩) n _ =>
                    match hget A i with
                    | some (.cells cs re .row) =>
                      if lim ≤ i ∧ re = e ∧ n * ti.size ≤ cs.length ∧ (n + (m + 1)) * ti.bytes ≤ 70368744177664 ∧ n + (m + 1) ≤ 1099511627776 then
                        some (.slice (some ⟨A.length, 0, none⟩) (n + (m + 1)) (n + (m + 1)), hset A i none ++ [some (.cells (cs.take (n * ti.size) ++ new) e .row)])
                      else none
                    | _ => none
                  | _ => none
                else none
              | none => none
          else none
        | none => none
      | none => none
    | _ => none
  | _, _ => none

noncomputable def aCopy (P : Program) (lim : Nat) (ats : Array TypeId) (d x : Value) (A : Heap) : Option (Value × Heap) :=
  match ats[0]? with
  | some t =>
    match P.underlying t with
    | some (.slice e) =>
      match P.info? e with
      | some ti =>
        match aCellsOf ti.size x A with
        | some (m, cells) =>
          match d with
          | .slice none 0 0 => some (.int .i64 0, A)
          | .slice (some ⟨i, o, none⟩) n _ =>
            match hget A i with
            | some (.cells cs re use) =>
              if use ≠ .ro ∧ lim ≤ i ∧ o + (Nat.min m n) * ti.size ≤ cs.length ∧ cells.all Value.oneCell' = true then
                some (.int .i64 (Nat.min m n : Nat), hset A i (some (.cells (splice cs o (cells.take ((Nat.min m n) * ti.size))) re use)))
              else none
            | _ => none
          | _ => none
        | none => none
      | none => none
    | _ => none
  | none => none

def aLen (P : Program) (ats : Array TypeId) (x : Value) : Option Value :=
  match ats[0]? with
  | some t =>
    match P.underlying t, x with
    | some (.slice _), .slice _ n _ => some (.int .i64 n)
    | some (.array n _), _ => some (.int .i64 n)
    | some .string, .string s => some (.int .i64 s.size)
    | _, _ => none
  | none => none

def aBytes : List Value → Option (List UInt8)
  | [] => some []
  | .int .u8 n :: l => (aBytes l).map (UInt8.ofNat n.toNat :: ·)
  | _ => none

/-- string([]byte), []byte(string). -/
noncomputable def aConvert (P : Program) (src dst : TypeId) (x : Value) (A : Heap) : Option (Value × Heap) :=
  match P.underlying src, P.underlying dst, x with
  | some (.slice e), some .string, x =>
    match P.underlying e, aCellsOf 1 x A with
    | some (.int .u8), some (_, cells) => (aBytes cells).map fun l => (.string ⟨l.toArray⟩, A)
    | _, _ => none
  | some .string, some (.slice e), .string s =>
    match P.underlying e, P.info? e with
    | some (.int .u8), some ti =>
      if ti.size = 1 then
        some (.slice (some ⟨A.length, 0, none⟩) s.size s.size, A ++ [some (.cells (s.data.toList.map fun b => .int .u8 b.toNat) e .row)])
      else none
    | _, _ => none
  | some (.slice _), some (.slice e), .slice (some ⟨i, o, none⟩) n c =>
    match P.underlying e, hget A i with
    | some (.int .u8), some (.cells _ _ u) => if src = dst ∧ n ≠ 0 ∧ u ≠ .ro then some (.slice (some ⟨i, o, none⟩) n c, A) else none
    | _, _ => none
  | some (.pointer t), some .unsafePointer, .pointer (some ⟨i, o, none⟩) =>
    match P.info? t, hget A i with
    | some j, some (.cells cs _ _) => if j.size ≠ 0 ∧ o < cs.length then some (.pointer (some ⟨i, o, none⟩), A) else none
    | _, _ => none
  | some .unsafePointer, some (.pointer u), .pointer (some ⟨i, o, none⟩) =>
    match P.info? u, hget A i with
    | some _, some (.cells cs e use) => if use ≠ .ro ∧ liesAt P P.depth e (cs.length / P.cellsOf e) o u 1 = true then some (.pointer (some ⟨i, o, none⟩), A) else none
    | _, _ => none
  | _, _, _ => none

/-- Cells that are bytes. -/
def aBytes8 : List Value → Option (List UInt8)
  | [] => some []
  | .int .u8 n :: l => if 0 ≤ n ∧ n < 256 then (aBytes8 l).map (UInt8.ofNat n.toNat :: ·) else none
  | _ => none

/-- unsafe.SliceData. -/
def aSliceData (x : Value) : Option Value :=
  match x with
  | .slice none _ _ => some (.pointer none)
  | .slice (some ⟨i, o, none⟩) n _ => if n ≠ 0 then some (.pointer (some ⟨i, o, none⟩)) else none
  | _ => none

/-- unsafe.String; the row is given up. -/
noncomputable def aUnsafeString (P : Program) (lim : Nat) (ats : Array TypeId) (p n : Value) (A : Heap) : Option (Value × Heap) :=
  match ats.toList, n with
  | [pt, _], .int .i64 n =>
    if n = 0 then match p with
      | .pointer none => some (.string ⟨#[]⟩, A)
      | _ => none
    else match p with
      | .pointer (some ⟨i, 0, none⟩) =>
        match P.underlying pt, hget A i with
        | some (.pointer e), some (.cells cs e' u) =>
          match aBytes8 (cs.take n.toNat) with
          | some l => if e' = e ∧ P.cellsOf e = 1 ∧ 0 < n ∧ n ≤ 9223372036854775807 ∧ n.toNat ≤ cs.length ∧ u ≠ .ro ∧ lim ≤ i then some (.string ⟨l.toArray⟩, hset A i none) else none
          | none => none
        | _, _ => none
      | _ => none
  | _, _ => none

def aRange (P : Program) (t : TypeId) (x : Value) (A : Heap) : Option (Value × Heap) :=
  match P.underlying t, x with
  | some .string, .string s => some (.pointer (some ⟨A.length, 0, none⟩), A ++ [some (.iter s 0)])
  | _, _ => none

noncomputable def aNext (lim : Nat) (x : Value) (isString : Bool) (A : Heap) : Option (Value × Heap) :=
  match x, isString with
  | .pointer (some ⟨i, 0, none⟩), true =>
    match hget A i with
    | some (.iter s pos) =>
      if lim ≤ i then
        if pos < s.size then
          some (.tuple #[.bool true, .int .i64 pos, .int .i32 (Utf8.decode s pos).1], hset A i (some (.iter s (pos + (Utf8.decode s pos).2))))
        else some (.tuple #[.bool false], A)
      else none
    | _ => none
  | _, _ => none

/-- Whether two structs, or arrays, of plain parts are equal: told without a choice, so that the parts may be open. -/
def aEqParts (P : Program) (f : TypeId → Value → Value → Option Bool) (xs ys : List Value) : List (TypeId × Nat) → Option Bool
  | [] => some true
  | (t, o) :: ps => match aPart P t xs o, aPart P t ys o with
    | some a, some b => match f t a b, aEqParts P f xs ys ps with
      | some e, some r => some (e && r)
      | _, _ => none
    | _, _ => none
def aEqDeep (P : Program) : Nat → TypeId → Value → Value → Option Bool
  | 0, _, _, _ => none
  | d + 1, t, x, y =>
    match P.underlying t, x, y with
    | some .bool, .bool a, .bool b => some (a == b)
    | some (.int _), .int j a, .int k b => if j = k then some (a == b) else none
    | some .string, .string a, .string b => some (a == b)
    | some (.float _), .float j a, .float k b => if j = k then some (Op.floatEq j a b) else none
    | some (.complex _), .complex j a b, .complex k a' b' => if j = k then some (Op.floatEq j a a' && Op.floatEq j b b') else none
    | some (.struct fs), .agg xs, .agg ys => if P.stoodInHeld t || fs.toList.any (fun f => f.name == "_") then none else aEqParts P (aEqDeep P d) xs.toList ys.toList (fs.toList.map fun f => (f.type, f.offset))
    | some (.array n e), .agg xs, .agg ys => match P.info? e with
      | some ti => aEqParts P (aEqDeep P d) xs.toList ys.toList ((List.range n).map fun i => (e, i * ti.size))
      | none => none
    | _, _, _ => none
def aEqAgg (P : Program) (t : TypeId) (x y : Value) : Option Bool :=
  match x, y with
  | .agg _, .agg _ => if P.eqGuardType P.depth t then none else aEqDeep P 20 t x y
  | _, _ => none

/-- A map's keys are plain. -/
def plainKey : TypeDesc → Bool
  | .int _ | .string | .bool => true
  | _ => false
def aFind (d : TypeDesc) (k : Value) : List (Value × Value × Nat) → Nat → Option (Option (Nat × Value))
  | [], _ => some none
  | (key, val, _) :: es, i =>
    match Instr.sameNow d k key with
    | some true => some (some (i, val))
    | some false => aFind d k es (i + 1)
    | none => none
noncomputable def aEntries (x : Value) (A : Heap) : Option (List (Value × Value × Nat)) :=
  match x with
  | .map none => some []
  | .map (some i) => match hget A i with
    | some (.map es _) => some es
    | _ => none
  | _ => none
noncomputable def aLookup (P : Program) (t : TypeId) (x k : Value) (ok : Bool) (A : Heap) : Option Value :=
  match P.underlying t, aEntries x A with
  | some (.map kt et), some es =>
    match P.underlying kt with
    | some d =>
      if plainKey d = true ∧ atomB k = true then
        match aFind d k es 0 with
        | some (some (_, v)) => some (if ok then .tuple #[v, .bool true] else v)
        | some none => match P.info? et with
          | some ti => match ti.zero with
            | some z => if freeB z then some (if ok then .tuple #[z, .bool false] else z) else none
            | none => none
          | none => none
        | none => none
      else none
    | none => none
  | _, _ => none
def aMakeMap (P : Program) (t : TypeId) (r : Option Value) (A : Heap) : Option (Value × Heap) :=
  match r with
  | none => some (.map (some A.length), A ++ [some (.map [] 0)])
  | some (.int _ _) => match P.underlying t with
    | some (.map ..) => some (.map (some A.length), A ++ [some (.map [] 0)])
    | _ => none
  | _ => none
def lset {α : Type} : List α → Nat → α → List α
  | [], _, _ => []
  | _ :: l, 0, x => x :: l
  | y :: l, n + 1, x => y :: lset l n x
noncomputable def aMapUpdate (P : Program) (lim : Nat) (t : TypeId) (m k x : Value) (A : Heap) : Option Heap :=
  match P.underlying t, m with
  | some (.map kt _), .map (some i) =>
    match P.underlying kt, hget A i with
    | some d, some (.map es clock) =>
      if plainKey d = true ∧ lim ≤ i ∧ atomB k = true then
        match aFind d k es 0 with
        | some (some (j, _)) => match es[j]? with
          | some (_, _, born) => some (hset A i (some (.map (lset es j (k, x, born)) clock)))
          | none => none
        | some none => some (hset A i (some (.map (es ++ [(k, x, clock)]) (clock + 1))))
        | none => none
      else none
    | _, _ => none
  | _, _ => none

def aNilCheck : Value → Option Value
  | .pointer (some a) => some (.pointer (some a))
  | .func (.func k) f c => some (.func (.func k) f c)
  | .slice a n c => some (.slice a n c)
  | _ => none

noncomputable def aPure (P : Program) (l : List Value) (o : Oper) (A : Heap) : Option (Value × Heap) :=
  if (o.op.operands.toList.all fun x => freeB (ev l x)) then
    match pureVal P (execOp (ev l) o) with
    | some v => if freeB v then some (v, A) else none
    | none => none
  else none

noncomputable def parts (l : List Value) (ps : Array (Nat × Operand)) : List (Nat × Value) := ps.toList.map fun p => (p.1, ev l p.2)

/-- ONE OPERATION THAT IS NO CALL OF A Go FUNCTION: its value, and the rows behind it. -/
noncomputable def aOp (P : Program) (lim : Nat) (l : List Value) (o : Oper) (A : Heap) : Option (Value × Heap) :=
  match o.op with
  | .move x => some (ev l x, A)
  | .assign x => some (ev l x, A)
  | .pick c a b => match ev l c with
    | .bool t => some (if t then ev l a else ev l b, A)
    | _ => none
  | .load t a => (aLoad P t (ev l a) A).map (·, A)
  | .store t a x => (aStore P lim t (ev l a) (ev l x) A).map (undef, ·)
  | .alloc t => aAlloc P t A
  | .box t x => some (aBox t (ev l x) A)
  | .build t ps => (aBuild P t (parts l ps)).map (·, A)
  | .buildSlice t n ps => aBuildSlice P t n (parts l ps) A
  | .makeSlice t x c => aMakeSlice P t (ev l x) (ev l c) A
  | .fieldAddr t x f => (aFieldAddr P t (ev l x) f).map (·, A)
  | .indexAddr t x i => (aIndexAddr P t (ev l x) (ev l i)).map (·, A)
  | .slice t x lo hi none => match P.underlying t with
    | some .string => aPure P l o A
    | _ => (aSlice P t (ev l x) (lo.map (ev l)) (hi.map (ev l)) A).map (·, A)
  | .field t x f => (aField P t (ev l x) f).map (·, A)
  | .index t x i => (aIndex P t (ev l x) (ev l i)).map (·, A)
  | .extract x i => match ev l x with
    | .tuple vs => (vs.toList[i]?).map (·, A)
    | _ => none
  | .makeFunc fn f c => if Fn.notYield fn then some (.func fn (f.map (ev l)) (c.map (ev l)), A) else none
  | .makeInterface t x => if P.concrete t then some (.iface t (ev l x), A) else none
  | .nilCheck x => (aNilCheck (ev l x)).map (·, A)
  | .binOp .eql t x y _ => match aEqNil P t (ev l x) (ev l y) with
    | some b => some (.bool b, A)
    | none => match aEqAgg P t (ev l x) (ev l y) with
      | some b => some (.bool b, A)
      | none => aPure P l o A
  | .binOp .neq t x y _ => match aEqNil P t (ev l x) (ev l y) with
    | some b => some (.bool !b, A)
    | none => match aEqAgg P t (ev l x) (ev l y) with
      | some b => some (.bool !b, A)
      | none => aPure P l o A
  | .range t x => aRange P t (ev l x) A
  | .next x s => aNext lim (ev l x) s A
  | .makeMap t r => aMakeMap P t (r.map (ev l)) A
  | .lookup t x k ok => (aLookup P t (ev l x) (ev l k) ok A).map (·, A)
  | .mapUpdate t m k x => (aMapUpdate P lim t (ev l m) (ev l k) (ev l x) A).map (undef, ·)
  | .insert t m k x => (aMapUpdate P lim t (ev l m) (ev l k) (ev l x) A).map (undef, ·)
  | .convert s d x => if freeB (ev l x) && (match P.underlying d with | some (.slice _) => false | _ => true) then aPure P l o A else aConvert P s d (ev l x) A
  | .call { callee := .builtin .append, args, argTypes } => match args.toList with
    | [a, b] => aAppend P lim argTypes (ev l a) (ev l b) A
    | _ => none
  | .call { callee := .builtin .copy, args, argTypes } => match args.toList with
    | [a, b] => aCopy P lim argTypes (ev l a) (ev l b) A
    | _ => none
  | .call { callee := .builtin .len, args, argTypes } => match args.toList with
    | [a] => (aLen P argTypes (ev l a)).map (·, A)
    | _ => none
  | .call { callee := .builtin .unsafeSliceData, args, .. } => match args.toList with
    | [a] => (aSliceData (ev l a)).map (·, A)
    | _ => none
  | .call { callee := .builtin .unsafeString, args, argTypes } => match args.toList with
    | [a, b] => aUnsafeString P lim argTypes (ev l a) (ev l b) A
    | _ => none
  | .call { callee := .builtin _, .. } => aPure P l o A
  | .binOp .. => aPure P l o A
  | .unOp .. => aPure P l o A
  | _ => none
end Go.Abs
