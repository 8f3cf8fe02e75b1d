import Derived.Test.YtbbbegjedmicpaaGreatDoorRefA
import Derived.Test.YtbbbegjedmicpaaGreatDoorCkB
import Derived.Deep.RegionHeld3

/-
  MESSAGES AND THEIR BYTES, in plain terms: what the document reads.
-/
namespace Go.Proofs.YtbbbegjedmicpaaGreatDoor
open Go.RowKit

/-- A message: fields (a number, values), and unknown bytes; a value: a number, a text, a message. -/
inductive PM where
  | mk (fs : List (Int × List (Int × ByteArray × PM))) (unk : ByteArray)
abbrev PV := Int × ByteArray × PM
abbrev PF := Int × List PV
def PM.fs : PM → List PF
  | .mk fs _ => fs
def PM.unk : PM → ByteArray
  | .mk _ u => u
def eS : ByteArray := ⟨#[]⟩
def PM.none : PM := .mk [] eS
def PV.none : PV := (0, eS, PM.none)
def eqS (a b : ByteArray) : Bool := a.toList == b.toList

/-- A schema, as the document has it. -/
structure Fld where
  name : ByteArray
  ty : ByteArray
  key : ByteArray
  how : ByteArray
  num : Int
structure MT where
  name : ByteArray
  fs : List Fld
structure Sch where
  ms : List MT
  es : List ByteArray

def sMap : ByteArray := ⟨#[109, 97, 112]⟩
def sRep : ByteArray := ⟨#[114, 101, 112, 101, 97, 116, 101, 100]⟩
def sOpt : ByteArray := ⟨#[111, 112, 116, 105, 111, 110, 97, 108]⟩
def Fld.isMap (f : Fld) : Bool := eqS f.how sMap
def Fld.isRep (f : Fld) : Bool := eqS f.how sRep

def findMs : List MT → ByteArray → Option MT
  | [], _ => none
  | m :: l, s => if eqS m.name s then some m else findMs l s
def Sch.msg (S : Sch) (s : ByteArray) : Option MT := findMs S.ms s
def sKey : ByteArray := ⟨#[107, 101, 121]⟩
def sVal : ByteArray := ⟨#[118, 97, 108, 117, 101]⟩
def entryP (f : Fld) : MT := ⟨eS, [⟨sKey, f.key, eS, sOpt, 1⟩, ⟨sVal, f.ty, eS, sOpt, 2⟩]⟩
def subP (S : Sch) (f : Fld) : Option MT := if f.isMap then some (entryP f) else S.msg f.ty
def findFs : List Fld → Int → Option Fld
  | [], _ => none
  | f :: l, n => if f.num = n then some f else findFs l n

/-- A type by its number: the words in their order, then enums (15), then messages (16). -/
def ixL : List (List UInt8) → List UInt8 → Nat → Option Nat
  | [], _, _ => none
  | x :: l, s, k => if s == x then some k else ixL l s (k + 1)
def Sch.base (S : Sch) (t : ByteArray) : Nat :=
  match ixL bts t.toList 0 with
  | some k => k
  | none => if memS S.es t then 15 else 16
def wireB (k : Nat) : Nat :=
  if k ≤ 6 then 0 else if k = 8 ∨ k = 10 ∨ k = 12 then 1 else if k = 7 ∨ k = 9 ∨ k = 11 then 5 else if k = 15 then 0 else 2
def Sch.wire (S : Sch) (t : ByteArray) : Nat := wireB (S.base t)
def wireF (S : Sch) (f : Fld) : Nat := if f.isMap then 2 else S.wire f.ty

/-- Numbers, by their types. -/
def sg32 (n : Int) : Int := if n % 4294967296 < 2147483648 then n % 4294967296 else n % 4294967296 + 18446744069414584320
def zzI (v : Int) : Int := if v % 2 = 1 then 18446744073709551615 - v / 2 else v / 2
def numB (k : Nat) (n : Int) : Int :=
  if k = 0 ∨ k = 9 ∨ k = 15 then sg32 n else if k = 2 then n % 4294967296 else if k = 4 then zzI (n % 4294967296) else if k = 5 then zzI n
  else if k = 6 then (if 0 < n then 1 else 0) else n

/-- What is wrong, and where. -/
abbrev Fx (α : Type) := Except (Int × Int) α

/-- A varint at a place, ahead of an end: i bytes are read, and make n. -/
def viF (b : ByteArray) (a e : Nat) : Nat → Nat → Int → Fx (Int × Nat)
  | 0, _, _ => .error (7, a)
  | f + 1, i, n =>
    if a + i < e then
      (if i = 9 ∧ 1 < bAt b (a + i) then .error (7, a)
       else if bAt b (a + i) < 128 then .ok (n + bAt b (a + i) % 128 * 2 ^ (7 * i), a + i + 1)
       else viF b a e f (i + 1) (n + bAt b (a + i) % 128 * 2 ^ (7 * i)))
    else .error (6, a)
def viP (b : ByteArray) (a e : Nat) : Fx (Int × Nat) := viF b a e 10 0 0
/-- Bytes as a number, the lowest first. -/
def leF (s : ByteArray) : Nat → Nat → Int
  | 0, _ => 0
  | f + 1, i => if i < s.size then 256 * leF s f (i + 1) + bAt s i else 0
def leP (s : ByteArray) : Int := leF s s.size 0

structure Rec where
  num : Int
  kind : Nat
  a : Nat
  fr : Nat
  e : Nat
  n : Int
def recP (b : ByteArray) (a e : Nat) : Fx Rec :=
  match viP b a e with
  | .error x => .error x
  | .ok (t, fr) =>
    if t / 8 < 1 ∨ 536870911 < t / 8 then .error (8, a)
    else if t % 8 = 0 then
      match viP b fr e with
      | .error x => .error x
      | .ok (n, en) => .ok ⟨t / 8, 0, a, fr, en, n⟩
    else if t % 8 = 1 then (if fr + 8 ≤ e then .ok ⟨t / 8, 1, a, fr, fr + 8, leP (b.extract fr (fr + 8))⟩ else .error (6, fr))
    else if t % 8 = 5 then (if fr + 4 ≤ e then .ok ⟨t / 8, 5, a, fr, fr + 4, leP (b.extract fr (fr + 4))⟩ else .error (6, fr))
    else if t % 8 = 2 then
      match viP b fr e with
      | .error x => .error x
      | .ok (n, bh) => if (bh : Int) + n ≤ e then .ok ⟨t / 8, 2, a, bh, bh + n.toNat, 0⟩ else .error (6, bh)
    else .error (9, a)

def getF : List PF → Int → List PV
  | [], _ => []
  | x :: l, n => if x.1 = n then x.2 else getF l n
def PM.get (m : PM) (n : Int) : List PV := getF m.fs n
def putF (n : Int) (l : List PV) : Bool → List PF → List PF
  | done, [] => if done then [] else [(n, l)]
  | done, x :: r =>
    (if !done && decide (n ≤ x.1) then [(n, l)] else []) ++ ((if x.1 = n then [] else [x]) ++ putF n l (done || decide (n ≤ x.1)) r)
def PM.put (m : PM) (n : Int) (l : List PV) : PM := .mk (putF n l l.isEmpty m.fs) m.unk
def PM.keep (m : PM) (s : ByteArray) : PM := .mk m.fs (m.unk ++ s)

def signS : List ByteArray := [⟨#[105, 110, 116, 51, 50]⟩, ⟨#[105, 110, 116, 54, 52]⟩, ⟨#[115, 105, 110, 116, 51, 50]⟩, ⟨#[115, 105, 110, 116, 54, 52]⟩, ⟨#[115, 102, 105, 120, 101, 100, 51, 50]⟩, ⟨#[115, 102, 105, 120, 101, 100, 54, 52]⟩]
def sStr : ByteArray := ⟨#[115, 116, 114, 105, 110, 103]⟩
/-- A number of 64 bits, with its sign. -/
def sg64 (n : Int) : Int := if n < 9223372036854775808 then n else n - 18446744073709551616
def lessP (t : ByteArray) (x y : PV) : Bool :=
  if eqS t sStr then Op.bytesLess x.2.1.toList y.2.1.toList else if memS signS t then decide (sg64 x.1 < sg64 y.1) else decide (x.1 < y.1)
def kyV (v : PV) : PV := (v.2.2.get 1).headD PV.none
def sameK (x y : PV) : Bool := decide (x.1 = y.1) && eqS x.2.1 y.2.1
def keyedF (t : ByteArray) (v : PV) : Bool → List PV → List PV
  | done, [] => if done then [] else [v]
  | done, x :: r =>
    (if !done && (lessP t (kyV v) (kyV x) || sameK (kyV v) (kyV x)) then [v] else []) ++
      ((if sameK (kyV v) (kyV x) then [] else [x]) ++ keyedF t v (done || (lessP t (kyV v) (kyV x) || sameK (kyV v) (kyV x))) r)
def keyedP (t : ByteArray) (l : List PV) (v : PV) : List PV := keyedF t v false l
def fullN (m : PM) (n : Int) : PM := if (m.get n).isEmpty then m.put n [PV.none] else m
def fullP (m : PM) : PM := .mk (fullN (fullN m 1) 2).fs eS

def farP (S : Sch) (d : MT) (deep : Nat) : Bool :=
  if !(eqS d.name eS) || deep != 8 then decide (8 < deep) else
  match d.fs with
  | _ :: f :: _ => (S.msg f.ty).isSome
  | _ => false
/-- Is a way of being there that of a oneof? -/
def isOne (how : ByteArray) : Bool := bAt how 0 == 46
def dropF (f : Fld) : List Fld → PM → PM
  | [], m => m
  | o :: l, m => dropF f l (if eqS o.how f.how && isOne o.how && decide (o.num ≠ f.num) then m.put o.num [] else m)
/-- A value that was read of a field is put into a message. -/
def storeP (S : Sch) (d : MT) (f : Fld) (m : PM) (v : PV) : PM :=
  if f.isMap then m.put f.num (keyedP f.key (m.get f.num) (v.1, v.2.1, fullP v.2.2))
  else if f.isRep then m.put f.num (m.get f.num ++ [v])
  else if eqS f.how eS && (subP S f).isNone && decide (v.1 = 0) && eqS v.2.1 eS then m.put f.num []
  else (dropF f d.fs m).put f.num [v]
/-- What a record of a message is read into. -/
def startV (f : Fld) (m : PM) : PV := if f.isRep || f.isMap then PV.none else (m.get f.num).headD PV.none
/-- A text that is well formed, as the document goes through it: the bytes that go on; the first sign's bytes; all. -/
def u8K (s : ByteArray) : Nat → Nat → Int → Option Int
  | 0, _, c => some c
  | f + 1, i, c => if bAt s i < 128 ∨ 191 < bAt s i then none else u8K s f (i + 1) (64 * c + bAt s i - 128)
def u8N (s : ByteArray) (n : Nat) (low c : Int) : Option Nat :=
  if s.size < n then none else
  match u8K s (n - 1) 1 c with
  | none => none
  | some c => if c < low ∨ 1114111 < c ∨ (55296 ≤ c ∧ c ≤ 57343) then none else some n
def u8C (s : ByteArray) : Option Nat :=
  if 240 ≤ bAt s 0 then u8N s 4 65536 (bAt s 0 - 240) else if 224 ≤ bAt s 0 then u8N s 3 2048 (bAt s 0 - 224)
  else if 192 ≤ bAt s 0 then u8N s 2 128 (bAt s 0 - 192) else if 128 ≤ bAt s 0 then none else u8N s 1 0 (bAt s 0)
def u8R : Nat → ByteArray → Bool
  | 0, _ => true
  | f + 1, s => if s.size = 0 then true else
    match u8C s with
    | none => false
    | some n => u8R f (s.extract n s.size)
def u8P (s : ByteArray) : Bool := u8R s.size s
def valP (S : Sch) (b : ByteArray) (f : Fld) (r : Rec) : Fx PV :=
  if r.kind = 2 then
    (if eqS f.ty sStr && !(u8P (b.extract r.fr r.e)) then .error (10, r.fr) else .ok (0, b.extract r.fr r.e, PM.none))
  else .ok (numB (S.base f.ty) r.n, eS, PM.none)
/-- Packed values behind others. -/
def packF (b : ByteArray) (k : Nat) (e : Nat) : Nat → List PV → Nat → Fx (List PV)
  | 0, l, _ => .ok l
  | F + 1, l, a =>
    if a < e then
      if wireB k = 0 then
        match viP b a e with
        | .error x => .error x
        | .ok (n, z) => packF b k e F (l ++ [(numB k n, eS, PM.none)]) z
      else
        let z := if wireB k = 5 then 4 else 8
        if a + z ≤ e then packF b k e F (l ++ [(numB k (leP (b.extract a (a + z))), eS, PM.none)]) (a + z) else .error (6, a)
    else .ok l
def packP (S : Sch) (b : ByteArray) (f : Fld) (l : List PV) (a e : Nat) : Fx (List PV) := packF b (S.base f.ty) e (e - a) l a

/-- Bytes from a place to an end are read into a message, so deep. -/
def loopM (S : Sch) (b : ByteArray) : Nat → MT → PM → Nat → Nat → Nat → Fx PM
  | 0, _, m, _, _, _ => .ok m
  | F + 1, d, m, a, e, deep =>
    if a < e then
      match recP b a e with
      | .error x => .error x
      | .ok r =>
        match findFs d.fs r.num with
        | none => loopM S b F d (m.keep (b.extract r.a r.e)) r.e e deep
        | some f =>
          if r.kind = wireF S f then
            match subP S f with
            | some sub =>
              if farP S sub (deep + 1) then .error (11, r.fr)
              else match loopM S b F sub (startV f m).2.2 r.fr r.e (deep + 1) with
                | .error x => .error x
                | .ok sm => loopM S b F d (storeP S d f m ((startV f m).1, (startV f m).2.1, sm)) r.e e deep
            | none =>
              match valP S b f r with
              | .error x => .error x
              | .ok v => loopM S b F d (storeP S d f m v) r.e e deep
          else if r.kind = 2 ∧ f.isRep then
            match packP S b f (m.get f.num) r.fr r.e with
            | .error x => .error x
            | .ok l => loopM S b F d (m.put f.num l) r.e e deep
          else loopM S b F d (m.keep (b.extract r.a r.e)) r.e e deep
    else .ok m
def decP (S : Sch) (name b : ByteArray) : Fx PM :=
  match S.msg name with
  | none => .error (5, 0)
  | some d => loopM S b (b.size + 1) d PM.none 0 b.size 1

end Go.Proofs.YtbbbegjedmicpaaGreatDoor

/-
  THE PROGRAM's MODEL OF A SCHEMA: in plain terms, and in memory.
-/
namespace Go.Proofs.YtbbbegjedmicpaaGreatDoor
open Go.RowKit Go.Maps Go.ChangeMaps Go.WideMaps Go.WideElems

def dotS (s : ByteArray) : ByteArray := ⟨#[46]⟩ ++ s
/-- How a field is there, as the document says it. -/
def howR (o : Option W) (form : Int) : ByteArray :=
  match o with
  | some x => dotS x.1
  | none => if form = 0 then eS else if form = 1 then sOpt else if form = 2 then sRep else sMap
def fldOf (o : Option W) (f : FieldR) : Fld := ⟨f.name.1, f.type.1, pkS f.key, howR o f.form, numV f.num.1⟩
/-- A field of the program's: what the document has of it, its form, the numbers of its rivals. -/
structure GF where
  f : Fld
  form : Int
  riv : List Int
def numR (f : FieldR) : Int := numV f.num.1
def rivR (p : PartR) (f : FieldR) : List Int := (p.fields.filter fun o => decide (numR o ≠ numR f)).map numR
def gfOf (p : PartR) (f : FieldR) : GF := ⟨fldOf p.oneof f, f.form, rivR p f⟩
def gfsOf (b : BlockR) : List GF := b.parts.flatMap fun p => p.fields.map (gfOf p)

/-- A type's base, and the block of its message, if it is one: mp tells where messages are. -/
def btIx (t : ByteArray) : Nat := (ixL bts t.toList 0).getD 0
def tyB (mp : ByteArray → Option Nat) (t : ByteArray) : Nat := if kindW t = 3 then btIx t else if (mp t).isSome then 16 else 15
def tyP (mp : ByteArray → Option Nat) (t : ByteArray) : Option Nat := if kindW t = 3 then none else mp t
def ptrV : Option Nat → Value
  | none => .pointer none
  | some b => .pointer (some ⟨b, 0, none⟩)
def intCells (l : List Int) : List Value := l.map (Value.int .i64)

def FldAt0 (w : World) (P : Nat → Prop) (mp : ByteArray → Option Nat) (g : GF) (fb : Nat) : Prop :=
  ∃ rv, Blk w fb #[.int .i64 g.f.num, .int .i64 g.form, .int .i64 (tyB mp g.f.ty), ptrV (tyP mp g.f.ty), rv] 176 ∧ P fb ∧ RowIn w P 3 1 rv g.riv.length (intCells g.riv)
def ptrCells (l : List Nat) : List Value := l.map fun b => ptrV (some b)
def kvG (s : ByteArray) (t : ByteArray) (n : Int) : GF := ⟨⟨s, t, eS, sOpt, n⟩, 1, []⟩
/-- The message of a map's entries. -/
def EntAt (w : World) (P : Nat → Prop) (mp : ByteArray → Option Nat) (key val : ByteArray) (eb : Nat) : Prop :=
  ∃ fv b1 b2, Blk w eb #[.string eS, fv] 87 ∧ P eb ∧ RowIn w P 168 1 fv 2 (ptrCells [b1, b2]) ∧ FldAt0 w P mp (kvG sKey key 1) b1 ∧ FldAt0 w P mp (kvG sVal val 2) b2
def FldAt (w : World) (P : Nat → Prop) (mp : ByteArray → Option Nat) (g : GF) (fb : Nat) : Prop :=
  if g.form = 4 then ∃ rv eb, Blk w fb #[.int .i64 g.f.num, .int .i64 4, .int .i64 16, ptrV (some eb), rv] 176 ∧ P fb ∧ RowIn w P 3 1 rv g.riv.length (intCells g.riv) ∧ EntAt w P mp g.f.key g.f.ty eb
  else FldAt0 w P mp g fb
def FldsAt (w : World) (P : Nat → Prop) (mp : ByteArray → Option Nat) : List GF → List Nat → Prop
  | [], l => l = []
  | g :: gs, l => ∃ b r, l = b :: r ∧ FldAt w P mp g b ∧ FldsAt w P mp gs r
def MsgAt (w : World) (P : Nat → Prop) (mp : ByteArray → Option Nat) (b : Nat) (name : ByteArray) (gs : List GF) : Prop :=
  ∃ fv fbs, Blk w b #[.string name, fv] 87 ∧ P b ∧ RowIn w P 168 1 fv fbs.length (ptrCells fbs) ∧ FldsAt w P mp gs fbs

section
variable {w w' : World} {P Q : Nat → Prop} {mp : ByteArray → Option Nat}
theorem FldAt0.keep (hk : ∀ b, P b → b < w.heap.size → w'.heap[b]? = w.heap[b]?) {g : GF} {fb : Nat} (h : FldAt0 w P mp g fb) : FldAt0 w' P mp g fb := by
  obtain ⟨rv, h1, h2, h3⟩ := h
  exact ⟨rv, (hk fb h2 h1.lt).trans h1, h2, h3.keep hk⟩
theorem EntAt.keep (hk : ∀ b, P b → b < w.heap.size → w'.heap[b]? = w.heap[b]?) {k v : ByteArray} {eb : Nat} (h : EntAt w P mp k v eb) : EntAt w' P mp k v eb := by
  obtain ⟨fv, b1, b2, h1, h2, h3, h4, h5⟩ := h
  exact ⟨fv, b1, b2, (hk eb h2 h1.lt).trans h1, h2, h3.keep hk, h4.keep hk, h5.keep hk⟩
theorem FldAt.keep (hk : ∀ b, P b → b < w.heap.size → w'.heap[b]? = w.heap[b]?) {g : GF} {fb : Nat} (h : FldAt w P mp g fb) : FldAt w' P mp g fb := by
  unfold FldAt at h ⊢
  split at h
  · rename_i h0
    rw [if_pos h0]
    obtain ⟨rv, eb, h1, h2, h3, h4⟩ := h
    exact ⟨rv, eb, (hk fb h2 h1.lt).trans h1, h2, h3.keep hk, h4.keep hk⟩
  · rename_i h0
    rw [if_neg h0]
    exact FldAt0.keep hk h
theorem FldsAt.keep (hk : ∀ b, P b → b < w.heap.size → w'.heap[b]? = w.heap[b]?) : ∀ {gs : List GF} {l : List Nat}, FldsAt w P mp gs l → FldsAt w' P mp gs l
  | [], _, h => h
  | _ :: _, _, ⟨b, r, h1, h2, h3⟩ => ⟨b, r, h1, h2.keep hk, FldsAt.keep hk h3⟩
theorem MsgAt.keep (hk : ∀ b, P b → b < w.heap.size → w'.heap[b]? = w.heap[b]?) {b : Nat} {name : ByteArray} {gs : List GF} (h : MsgAt w P mp b name gs) : MsgAt w' P mp b name gs := by
  obtain ⟨fv, fbs, h1, h2, h3, h4⟩ := h
  exact ⟨fv, fbs, (hk b h2 h1.lt).trans h1, h2, h3.keep hk, h4.keep hk⟩
theorem FldAt0.mono (hs : ∀ b, P b → b < w.heap.size → Q b) {g : GF} {fb : Nat} (h : FldAt0 w P mp g fb) : FldAt0 w Q mp g fb := by
  obtain ⟨rv, h1, h2, h3⟩ := h
  exact ⟨rv, h1, hs _ h2 h1.lt, h3.mono hs⟩
theorem EntAt.mono (hs : ∀ b, P b → b < w.heap.size → Q b) {k v : ByteArray} {eb : Nat} (h : EntAt w P mp k v eb) : EntAt w Q mp k v eb := by
  obtain ⟨fv, b1, b2, h1, h2, h3, h4, h5⟩ := h
  exact ⟨fv, b1, b2, h1, hs _ h2 h1.lt, h3.mono hs, h4.mono hs, h5.mono hs⟩
theorem FldAt.mono (hs : ∀ b, P b → b < w.heap.size → Q b) {g : GF} {fb : Nat} (h : FldAt w P mp g fb) : FldAt w Q mp g fb := by
  unfold FldAt at h ⊢
  split at h
  · rename_i h0
    rw [if_pos h0]
    obtain ⟨rv, eb, h1, h2, h3, h4⟩ := h
    exact ⟨rv, eb, h1, hs _ h2 h1.lt, h3.mono hs, h4.mono hs⟩
  · rename_i h0
    rw [if_neg h0]
    exact FldAt0.mono hs h
theorem FldsAt.mono (hs : ∀ b, P b → b < w.heap.size → Q b) : ∀ {gs : List GF} {l : List Nat}, FldsAt w P mp gs l → FldsAt w Q mp gs l
  | [], _, h => h
  | _ :: _, _, ⟨b, r, h1, h2, h3⟩ => ⟨b, r, h1, h2.mono hs, FldsAt.mono hs h3⟩
theorem MsgAt.mono (hs : ∀ b, P b → b < w.heap.size → Q b) {b : Nat} {name : ByteArray} {gs : List GF} (h : MsgAt w P mp b name gs) : MsgAt w Q mp b name gs := by
  obtain ⟨fv, fbs, h1, h2, h3, h4⟩ := h
  exact ⟨fv, fbs, h1, hs _ h2 h1.lt, h3.mono hs, h4.mono hs⟩
theorem FldsAt.len : ∀ {gs : List GF} {l : List Nat}, FldsAt w P mp gs l → l.length = gs.length
  | [], _, h => by rw [show _ = [] from h]; rfl
  | _ :: _, _, ⟨b, r, h1, _, h3⟩ => by rw [h1]; simp [h3.len]
theorem FldsAt.snoc {g : GF} {b : Nat} (h2 : FldAt w P mp g b) : ∀ {gs : List GF} {l : List Nat}, FldsAt w P mp gs l → FldsAt w P mp (gs ++ [g]) (l ++ [b])
  | [], _, h => by rw [show _ = [] from h]; exact ⟨b, [], rfl, h2, rfl⟩
  | _ :: _, _, ⟨c, r, h1, h3, h4⟩ => by rw [h1]; exact ⟨c, r ++ [b], rfl, h3, FldsAt.snoc h2 h4⟩
theorem FldsAt.get : ∀ {gs : List GF} {l : List Nat}, FldsAt w P mp gs l → ∀ {i : Nat} {g : GF}, gs[i]? = some g → ∃ b, l[i]? = some b ∧ FldAt w P mp g b
  | [], _, _, i, g, h => by simp at h
  | _ :: _, _, ⟨b, r, h1, h3, h4⟩, 0, g, h => by
    simp at h
    subst h
    subst h1
    exact ⟨b, rfl, h3⟩
  | _ :: _, _, ⟨b, r, h1, h3, h4⟩, i + 1, g, h => by
    subst h1
    obtain ⟨c, q1, q2⟩ := h4.get (i := i) (g := g) (by simpa using h)
    exact ⟨c, by simpa using q1, q2⟩
end

/-- A map from texts to messages, in block b: what is there. -/
def ptrElem : Value → Option (DataW Unit × List MemPlace)
  | .pointer none => some (.lit (.int .i64 (-1)), [])
  | .pointer (some ⟨b, 0, none⟩) => some (.lit (.int .i64 b), [])
  | _ => none
theorem ptrElem_mk (o : Option Nat) : ptrElem (ptrV o) = some (.lit (.int .i64 (match o with | some b => (b : Int) | none => -1)), []) := by cases o <;> rfl
theorem ptrElem_inv {v : Value} {o : Option Nat} {ps : List MemPlace} (h : ptrElem v = some (.lit (.int .i64 (match o with | some b => (b : Int) | none => -1)), ps)) : v = ptrV o := by
  unfold ptrElem at h
  split at h
  · cases o with
    | none => rfl
    | some b => simp at h
  · cases o with
    | none => simp at h
    | some b => simp at h; have e := Int.ofNat.inj h.1; subst e; rfl
  · cases h

def ptrD (o : Option Nat) : DataW Unit := .lit (.int .i64 (match o with | some b => (b : Int) | none => -1))
def PtrMap (w : World) (b n : Nat) (mp : ByteArray → Option Nat) : Prop :=
  ∃ D, w.ownsMap Tryz.prog 9 ptrElem b n D ∧ ∀ s : ByteArray, D.atKey (litS s) (ptrD none) = ptrD (mp s)
def mpPut (mp : ByteArray → Option Nat) (s : ByteArray) (b : Nat) : ByteArray → Option Nat := fun t => if eqS t s then some b else mp t
theorem PtrMap.keep {w w' : World} {b n : Nat} {mp : ByteArray → Option Nat} (h : PtrMap w b n mp) (hb : w'.heap[b]? = w.heap[b]?) : PtrMap w' b n mp := by
  obtain ⟨D, h1, h2⟩ := h
  exact ⟨D, ownsMap_keep h1 hb, h2⟩
theorem PtrMap.lt {w : World} {b n : Nat} {mp : ByteArray → Option Nat} (h : PtrMap w b n mp) : b < w.heap.size := by
  obtain ⟨D, h1, h2⟩ := h
  exact h1.lt
theorem PtrMap.made (w : World) : PtrMap (w.alloc (.map #[] 0)) w.heap.size 0 (fun _ => none) :=
  ⟨_, World.ownsMap_made w Tryz.prog 9 ptrElem, fun _ => rfl⟩
theorem litS_eq (s t : ByteArray) : litS t = litS s ↔ eqS t s = true := by
  unfold litS eqS
  rw [ByteArray.toList_eq, ByteArray.toList_eq]
  simp
/-- What is stored is there. -/
theorem ptr_put {D : DataW Unit} {mp : ByteArray → Option Nat} (hm : IsMap D) (h : ∀ s : ByteArray, D.atKey (litS s) (ptrD none) = ptrD (mp s)) (s : ByteArray) (b : Nat) :
    ∀ t : ByteArray, (D.put (litS s) (ptrD (some b))).atKey (litS t) (ptrD none) = ptrD (mpPut mp s b t) := by
  intro t
  unfold mpPut
  by_cases e : eqS t s = true
  · rw [if_pos e, (litS_eq s t).2 e]
    exact atKey_put_same hm (show WideAt.IsKeyLit (litS s) from trivial) _ _
  · rw [if_neg e, atKey_put_other (fun h => e ((litS_eq s t).1 h))]
    exact h t

end Go.Proofs.YtbbbegjedmicpaaGreatDoor

/-
  CONTRACTS: model.number, baseOf.
-/
namespace Go.Proofs.YtbbbegjedmicpaaGreatDoor
open Go.RowKit Go.Maps
attribute [local go_sem ↓] Go.wp_at_zero Go.wp_at_succ

set_option maxRecDepth 100000 in
set_option maxHeartbeats 1000000 in
theorem b_number (w : World) (f : FieldR) (h : numOK f.num.1) (hb : numV f.num.1 ≤ 536870911) (hg : GOK w) :
    Calls Tryz.prog 67 #[.agg (FC f)] w fun e w' => e = .returned (.int .i64 (numR f)) ∧ Below w.heap.size w w' := by
  have B0 := (Below.refl w.heap.size w).alloc (Nat.le_refl _) (FO f)
  have wr : IntKind.i64.wrap (numV f.num.1 : Int) = (numV f.num.1 : Int) := by simp [IntKind.wrap, IntKind.bits, IntKind.signed]; omega
  unfold numR
  go_enter Tryz.func67, Tryz.ntmps67
  go_wp2_with fail
  refine (c64 _ _ _ _ h (hg.keep (Below.heap_alloc _ _ _ hg.lt))).mono ?_
  rintro e w1 ⟨rfl, hb1⟩
  go_wp2
  go_ret
  exact ⟨rfl, B0.trans (hb1.mono (by simp))⟩

end Go.Proofs.YtbbbegjedmicpaaGreatDoor

/-
  CONTRACTS: model.baseOf, typeOf.
-/
namespace Go.Proofs.YtbbbegjedmicpaaGreatDoor
open Go.RowKit Go.Maps
attribute [local go_sem ↓] Go.wp_at_zero Go.wp_at_succ

/-- The program's table of words. -/
def BOK (w : World) : Prop := ∀ i v, (btl.map Value.string)[i]? = some v → w.cell? ⟨0, i, none⟩ = some v
theorem BOK.lt {w : World} (h : BOK w) : 0 < w.heap.size := World.block_lt_of_cell? _ _ (h 0 _ rfl)
theorem BOK.keep {w w' : World} (h : BOK w) (hb : w'.heap[0]? = w.heap[0]?) : BOK w' := by
  intro i v hv
  rw [← h i v hv]
  unfold World.cell?
  rw [hb]

/-- The last of the first k words that a text is. -/
def lastB (s : ByteArray) : Nat → Nat
  | 0 => 0
  | k + 1 => if ((btl.getD k eS).toList == s.toList) then k else lastB s k

theorem bw_index (k : Nat) (x : ByteArray) (h : btl[k]? = some x) (w : World) : (Instr.index 340 (.agg #[.string ⟨#[105, 110, 116, 51, 50]⟩, .string ⟨#[105, 110, 116, 54, 52]⟩, .string ⟨#[117, 105, 110, 116, 51, 50]⟩, .string ⟨#[117, 105, 110, 116, 54, 52]⟩, .string ⟨#[115, 105, 110, 116, 51, 50]⟩, .string ⟨#[115, 105, 110, 116, 54, 52]⟩, .string ⟨#[98, 111, 111, 108]⟩, .string ⟨#[102, 105, 120, 101, 100, 51, 50]⟩, .string ⟨#[102, 105, 120, 101, 100, 54, 52]⟩, .string ⟨#[115, 102, 105, 120, 101, 100, 51, 50]⟩, .string ⟨#[115, 102, 105, 120, 101, 100, 54, 52]⟩, .string ⟨#[102, 108, 111, 97, 116]⟩, .string ⟨#[100, 111, 117, 98, 108, 101]⟩, .string ⟨#[115, 116, 114, 105, 110, 103]⟩, .string ⟨#[98, 121, 116, 101, 115]⟩]) (.int .i64 (k : Int))).run Tryz.prog w = .ok (.string x) w := by
  have hk : k < 15 := by
    by_cases h' : k < 15
    · exact h'
    · rw [List.getElem?_eq_none (by show 15 ≤ k; omega)] at h; cases h
  rcases (show k = 0 ∨ k = 1 ∨ k = 2 ∨ k = 3 ∨ k = 4 ∨ k = 5 ∨ k = 6 ∨ k = 7 ∨ k = 8 ∨ k = 9 ∨ k = 10 ∨ k = 11 ∨ k = 12 ∨ k = 13 ∨ k = 14 from by omega) with rfl | rfl | rfl | rfl | rfl | rfl | rfl | rfl | rfl | rfl | rfl | rfl | rfl | rfl | rfl
  all_goals
    obtain rfl := Option.some.inj h
    change _ = _
    kernel_rfl

set_option maxRecDepth 100000 in
set_option maxHeartbeats 268435456 in
theorem b_baseOf (w : World) (s : ByteArray) (hb : BOK w) :
    Calls Tryz.prog 173 #[.string s] w fun e w' => e = .returned (.int .i64 (lastB s 15)) ∧ w' = w := by
  have c0 := hb 0 _ rfl
  have c1 := hb 1 _ rfl
  have c2 := hb 2 _ rfl
  have c3 := hb 3 _ rfl
  have c4 := hb 4 _ rfl
  have c5 := hb 5 _ rfl
  have c6 := hb 6 _ rfl
  have c7 := hb 7 _ rfl
  have c8 := hb 8 _ rfl
  have c9 := hb 9 _ rfl
  have c10 := hb 10 _ rfl
  have c11 := hb 11 _ rfl
  have c12 := hb 12 _ rfl
  have c13 := hb 13 _ rfl
  have c14 := hb 14 _ rfl
  go_enter Tryz.func173, Tryz.ntmps173
  go_wp2
  clear c0 c1 c2 c3 c4 c5 c6 c7 c8 c9 c10 c11 c12 c13 c14
  go_loopw [3, 7] (fun v i wr => ∃ (k : Nat), k ≤ 15 ∧ i = .int .i64 k ∧ v = .int .i64 (lastB s k) ∧ w = wr) (fun _ i _ => 15 - (intOf i).toNat)
  case atStart => exact ⟨0, Nat.zero_le _, rfl, rfl, rfl⟩
  case round =>
    obtain ⟨k, hk, rfl, rfl, rfl⟩ := hrel
    by_cases hlt : k < 15
    · obtain ⟨x, hx⟩ := gx (l := btl) (show k < btl.length from hlt)
      have e : lastB s (k + 1) = if x.toList == s.toList then k else lastB s k := by rw [lastB, List.getD_eq_getElem?_getD, hx]; rfl
      have hi := bw_index k x hx
      have hli : (k : Int) < 15 := by omega
      clear hx
      cases hc : (x.toList == s.toList)
      · rw [hc, if_neg (by simp)] at e
        go_wp2
        go_roundw
        case rel => exact ⟨k + 1, by omega, rfl, by rw [e], trivial⟩
        case measure => simp [intOf]; omega
      · rw [hc, if_pos rfl] at e
        go_wp2
        go_roundw
        case rel => exact ⟨k + 1, by omega, rfl, by rw [e], trivial⟩
        case measure => simp [intOf]; omega
    · have hli : decide ((k : Int) < 15) = false := by simp; omega
      obtain rfl : k = 15 := by omega
      go_wp2
      go_ret
      exact ⟨rfl, rfl⟩

end Go.Proofs.YtbbbegjedmicpaaGreatDoor

/-
  CONTRACTS: model.typeOf, entry.
-/
namespace Go.Proofs.YtbbbegjedmicpaaGreatDoor
open Go.RowKit Go.Maps
attribute [local go_sem ↓] Go.wp_at_zero Go.wp_at_succ

def lastL (l : List UInt8) : Nat → Nat
  | 0 => 0
  | k + 1 => if (bts.getD k [] == l) then k else lastL l k
theorem btl_get (k : Nat) : (btl.getD k eS).toList = bts.getD k [] := by
  unfold btl
  rw [List.getD_eq_getElem?_getD, List.getD_eq_getElem?_getD, List.getElem?_map]
  cases bts[k]? with
  | none => simp [eS, ByteArray.toList_eq]
  | some l => simp [ByteArray.toList_eq]
theorem lastL_eq (s : ByteArray) : ∀ k, lastB s k = lastL s.toList k
  | 0 => rfl
  | k + 1 => by rw [lastB, lastL, lastL_eq s k, btl_get]
theorem lastL_ix : ∀ l ∈ bts, lastL l 15 = (ixL bts l 0).getD 0 := by decide
theorem lastB_ix {s : ByteArray} (h : isBt s.toList = true) : lastB s 15 = btIx s := by
  have hm : s.toList ∈ bts := by simpa [isBt] using h
  rw [lastL_eq]
  exact lastL_ix _ hm
theorem kindW_is {s : ByteArray} (h : kindW s = 3) : isBt s.toList = true := by
  unfold kindW kindOf at h
  split at h
  · cases h
  · split at h
    · cases h
    · split at h
      · cases h
      · split at h
        · assumption
        · cases h

theorem zeroMsgP (w : World) : (zeroValue 84).run Tryz.prog w = .ok (.pointer none) w := by kernel_rfl
/-- What is looked up. -/
theorem PtrMap.look {w : World} {b n : Nat} {mp : ByteArray → Option Nat} (h : PtrMap w b n mp) (s : ByteArray) (hs : s.size ≤ maxLen) :
    (Instr.lookup 111 (.map (some b)) (.string s) false).run Tryz.prog w = .ok (ptrV (mp s)) w := by
  obtain ⟨D, h1, h2⟩ := h
  obtain ⟨v, ps, hrun, hR⟩ := h1.lookup lawS Tryz.underlying111 (zeroMsgP w) (ptrElem_mk none) (keyS s hs)
  have e := h2 s
  unfold ptrD at e
  rw [e] at hR
  rw [hrun, ptrElem_inv hR]

def TyRet (mp : ByteArray → Option Nat) (s : ByteArray) : Value := .agg #[.int .i64 (tyB mp s), ptrV (tyP mp s)]

set_option maxRecDepth 100000 in
set_option maxHeartbeats 1000000 in
theorem b_typeOf_bt (w : World) (b : Nat) (mp : ByteArray → Option Nat) (s : ByteArray) (p : Nat) (hk : kindW s = 3) (hb : BOK w) :
    Calls Tryz.prog 114 #[.map (some b), .agg #[.int .i64 3, .string s, .int .i64 p]] w fun e w' => e = .returned (TyRet mp s) ∧ Below w.heap.size w w' := by
  have B0 := ((Below.refl w.heap.size w).alloc (Nat.le_refl _) (Obj.cells #[.int .i64 3, .string s, .int .i64 p] 114)).alloc (by simp) (Obj.cells #[.int .i64 0, .pointer none] 172)
  have hb0 : BOK ((w.alloc (Obj.cells #[.int .i64 3, .string s, .int .i64 p] 114)).alloc (Obj.cells #[.int .i64 0, .pointer none] 172)) := hb.keep (B0.block _ hb.lt)
  have K1 : ∀ x y, Blk ((w.alloc (Obj.cells #[.int .i64 3, .string s, .int .i64 p] 114)).alloc (Obj.cells #[x, y] 172)) (w.heap.size + 1) #[x, y] 172 := fun x y => by
    have := Blk.new (w.alloc (Obj.cells #[.int .i64 3, .string s, .int .i64 p] 114)) #[x, y] 172
    simpa using this
  have B1 : ∀ o, Below w.heap.size w ((w.alloc (Obj.cells #[.int .i64 3, .string s, .int .i64 p] 114)).alloc o) := fun o => ((Below.refl w.heap.size w).alloc (Nat.le_refl _) _).alloc (by simp) o
  have e3 : lastB s 15 = btIx s := lastB_ix (kindW_is hk)
  have hT : TyRet mp s = .agg #[.int .i64 (lastB s 15), .pointer none] := by
    unfold TyRet tyB tyP
    rw [if_pos hk, if_pos hk, e3]
    rfl
  rw [hT]
  clear hk e3 hT
  go_enter Tryz.func114, Tryz.ntmps114
  go_wp2_with fail
  refine (b_baseOf _ s hb0).mono ?_
  rintro e w1 ⟨rfl, rfl⟩
  go_wp2
  exact bodyPost_ret (ret_cell Tryz.results114 _ _ rfl (K1 _ _) Tryz.underlying172 (by kernel_rfl)) rfl ⟨rfl, B1 _⟩

set_option maxRecDepth 100000 in
set_option maxHeartbeats 1000000 in
theorem b_typeOf_nm (w : World) (b n : Nat) (mp : ByteArray → Option Nat) (k : Int) (s : ByteArray) (p : Nat) (H : PtrMap w b n mp) (hs : s.size ≤ 2000) (hk : k = kindW s) (hk3 : ¬ kindW s = 3) :
    Calls Tryz.prog 114 #[.map (some b), .agg #[.int .i64 k, .string s, .int .i64 p]] w fun e w' => e = .returned (TyRet mp s) ∧ Below w.heap.size w w' := by
  have B0 := ((Below.refl w.heap.size w).alloc (Nat.le_refl _) (Obj.cells #[.int .i64 k, .string s, .int .i64 p] 114)).alloc (by simp) (Obj.cells #[.int .i64 0, .pointer none] 172)
  have H0 : PtrMap ((w.alloc (Obj.cells #[.int .i64 k, .string s, .int .i64 p] 114)).alloc (Obj.cells #[.int .i64 0, .pointer none] 172)) b n mp := H.keep (B0.block _ H.lt)
  have K1 : ∀ x y, Blk ((w.alloc (Obj.cells #[.int .i64 k, .string s, .int .i64 p] 114)).alloc (Obj.cells #[x, y] 172)) (w.heap.size + 1) #[x, y] 172 := fun x y => by
    have := Blk.new (w.alloc (Obj.cells #[.int .i64 k, .string s, .int .i64 p] 114)) #[x, y] 172
    simpa using this
  have B1 : ∀ o, Below w.heap.size w ((w.alloc (Obj.cells #[.int .i64 k, .string s, .int .i64 p] 114)).alloc o) := fun o => ((Below.refl w.heap.size w).alloc (Nat.le_refl _) _).alloc (by simp) o
  have hlk := H0.look s (by unfold maxLen; omega)
  have hd : (k == 3) = false := by rw [hk]; simp [hk3]
  have hd2 : ¬ k = 3 := by rw [hk]; exact hk3
  unfold TyRet tyB tyP
  rw [if_neg hk3, if_neg hk3]
  clear hk hk3 H0
  cases hm : mp s with
  | none =>
    rw [hm] at hlk
    unfold ptrV at hlk ⊢
    go_enter Tryz.func114, Tryz.ntmps114
    go_wp2
    exact bodyPost_ret (ret_cell Tryz.results114 _ _ rfl (K1 _ _) Tryz.underlying172 (by kernel_rfl)) rfl ⟨rfl, B1 _⟩
  | some x =>
    rw [hm] at hlk
    unfold ptrV at hlk ⊢
    go_enter Tryz.func114, Tryz.ntmps114
    go_wp2
    exact bodyPost_ret (ret_cell Tryz.results114 _ _ rfl (K1 _ _) Tryz.underlying172 (by kernel_rfl)) rfl ⟨rfl, B1 _⟩

theorem b_typeOf (w : World) (b n : Nat) (mp : ByteArray → Option Nat) (s : ByteArray) (p : Nat) (H : PtrMap w b n mp) (hs : s.size ≤ 2000) (hb : BOK w) :
    Calls Tryz.prog 114 #[.map (some b), .agg #[.int .i64 (kindW s), .string s, .int .i64 p]] w fun e w' => e = .returned (TyRet mp s) ∧ Below w.heap.size w w' := by
  by_cases hk : kindW s = 3
  · have := b_typeOf_bt w b mp s p hk hb
    rw [hk]
    exact this
  · exact b_typeOf_nm w b n mp _ s p H hs rfl hk

end Go.Proofs.YtbbbegjedmicpaaGreatDoor
