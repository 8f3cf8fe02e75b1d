import Derived.Test.YtfebdimolnobaaaGreatDoorRdJ
import Derived.Laws.Bits64b
import Derived.Deep.CutBlock
import Derived.Laws.Bits64
import Derived.Laws.AppendOwnNone
import Derived.Lib.Builder
import Derived.Lib.AppendStr
import Derived.Lib.UnsafeStr
import Derived.Lib.MakeNoZero
import Derived.Shelf.RegionOpenPlain
import Derived.Shelf.Small.Bits
import Derived.Shelf.Strconv.Itoa0
set_option maxRecDepth 100000
set_option maxHeartbeats 8000000
set_option linter.all false
namespace Go.Proofs.YtfebdimolnobaaaGreatDoor
open Go.RowKit Go.Proofs.Tryz
inductive PM where
 |mk (fs:List (Int×List (Int×au×PM))) (unk:au)
abbrev PV:=Int×au×PM
abbrev PF:=Int×List PV
def PM.fs:PM->List PF
 | .mk fs _=>fs
def PM.unk:PM->au
 | .mk _ u=>u
def eS:au:=⟨#[]⟩
def PM.none:PM:= .mk [] eS
def PV.none:PV:=(0,eS,PM.none)
def gN (a b:au):Bool:=a.toList==b.toList
structure fo where
 name:au
 ty:au
 key:au
 how:au
 num:Int
structure MT where
 name:au
 fs:List fo
structure eD where
 ms:List MT
 es:aA
def xA:au:=⟨#[109,97,112]⟩
def Dt:au:=⟨#[114,101,112,101,97,116,101,100]⟩
def lK:au:=⟨#[111,112,116,105,111,110,97,108]⟩
def fo.isMap (f:fo):Bool:=gN f.how xA
def fo.isRep (f:fo):Bool:=gN f.how Dt
def lr:List MT->au->Option MT
 | [],_=>none
 |m::l,s=>if gN m.name s then some m else lr l s
def eD.msg (S:eD)(s:au):Option MT:=lr S.ms s
def oe:au:=⟨#[107,101,121]⟩
def p9:au:=⟨#[118,97,108,117,101]⟩
def eP (f:fo):MT:=⟨eS,[⟨oe,f.key,eS,lK,1⟩,⟨p9,f.ty,eS,lK,2⟩]⟩
def fy (S:eD)(f:fo):Option MT:=if f.isMap then some (eP f)else S.msg f.ty
def d9:List fo->Int->Option fo
 | [],_=>none
 |f::l,n=>if f.num=n then some f else d9 l n
def Df:List (ap)->ap->Nat->Option Nat
 | [],_,_=>none
 |x::l,s,k=>if s==x then some k else Df l s (k+1)
def eD.base (S:eD)(t:au):Nat:=
 match Df mZ t.toList 0 with
 |some k=>k
 |none=>if fi S.es t then 15 else 16
def eJ (k:Nat):Nat:=
 if k<=6 then 0 else if k=8\/k=10\/k=12 then 1 else if k=7\/k=9\/k=11 then 5 else if k=15 then 0 else 2
def eD.wire (S:eD)(t:au):Nat:=eJ (S.base t)
def fV (S:eD)(f:fo):Nat:=if f.isMap then 2 else S.wire f.ty
def mN (n:Int):Int:=if n%4294967296<2147483648 then n%4294967296 else n%4294967296+18446744069414584320
def Dg (v:Int):Int:=if v%2=1 then 18446744073709551615-v/2 else v/2
def lC (k:Nat)(n:Int):Int:=
 if k=0\/k=9\/k=15 then mN n else if k=2 then n%4294967296 else if k=4 then Dg (n%4294967296)else if k=5 then Dg n
 else if k=6 then(if 0<n then 1 else 0)else n
abbrev Fx (α:Type):=Except (Int×Int) α
def mH (b:au)(a e:Nat):Nat->Nat->Int->Fx (Int×Nat)
 |0,_,_=> .error (7,a)
 |f+1,i,n=>
  if a+i<e then
   (
    if i=9/\1<fZ b (a+i)then .error (7,a) else if fZ b (a+i)<128 then .ok (n+fZ b (a+i)%128*2^(7*i),a+i+1) else mH b a e f (i+1) (n+fZ b (a+i)%128*2^(7*i)))
  else .error (6,a)
def iT (b:au)(a e:Nat):Fx (Int×Nat):=mH b a e 10 0 0
def IR (s:au):Nat->Nat->Int
 |0,_=>0
 |f+1,i=>if i<s.size then 256*IR s f (i+1)+fZ s i else 0
def xB (s:au):Int:=IR s s.size 0
structure pK where
 num:Int
 kind:Nat
 a:Nat
 fr:Nat
 e:Nat
 n:Int
def fN (b:au)(a e:Nat):Fx pK:=
 match iT b a e with
 | .error x=> .error x
 | .ok (t,fr)=>
  if t/8<1\/536870911<t/8 then .error (8,a)
  else if t%8=0 then
   match iT b fr e with
   | .error x=> .error x
   | .ok (n,en)=> .ok ⟨t/8,0,a,fr,en,n⟩
  else if t%8=1 then(if fr+8<=e then .ok ⟨t/8,1,a,fr,fr+8,xB (b.extract fr (fr+8))⟩else .error (6,fr))
  else if t%8=5 then(if fr+4<=e then .ok ⟨t/8,5,a,fr,fr+4,xB (b.extract fr (fr+4))⟩else .error (6,fr))
  else if t%8=2 then
   match iT b fr e with
   | .error x=> .error x
   | .ok (n,bh)=>if(bh:Int)+n<=e then .ok ⟨t/8,2,a,bh,bh+n.toNat,0⟩else .error (6,bh)
  else .error (9,a)
def gR:List PF->Int->List PV
 | [],_=> []
 |x::l,n=>if x.1=n then x.2 else gR l n
def PM.get (m:PM)(n:Int):List PV:=gR m.fs n
def ic (n:Int)(l:List PV):Bool->List PF->List PF
 |done,[]=>if done then []else [(n,l)]
 |done,x::r=>
  (if !done&&decide (n<=x.1)then [(n,l)]else [])++((if x.1=n then []else [x])++ic n l (done||decide (n<=x.1)) r)
def PM.put (m:PM)(n:Int)(l:List PV):PM:= .mk (ic n l l.isEmpty m.fs) m.unk
def PM.O (m:PM)(s:au):PM:= .mk m.fs (m.unk++s)
def jm:aA:= [⟨#[105,110,116,51,50]⟩,⟨#[105,110,116,54,52]⟩,⟨#[115,105,110,116,51,50]⟩,⟨#[115,105,110,116,54,52]⟩,⟨#[115,102,105,120,101,100,51,50]⟩,⟨#[115,102,105,120,101,100,54,52]⟩]
def lD:au:=⟨#[115,116,114,105,110,103]⟩
def Du (n:Int):Int:=if n<9223372036854775808 then n else n-2^64
def kN (t:au)(x y:PV):Bool:=
 if gN t lD then Op.bytesLess x.2.1.toList y.2.1.toList else if fi jm t then decide (Du x.1<Du y.1)else decide (x.1<y.1)
def fQ (v:PV):PV:=(v.2.2.get 1).headD PV.none
def iC (x y:PV):Bool:=decide (x.1=y.1)&&gN x.2.1 y.2.1
def gz (t:au)(v:PV):Bool->List PV->List PV
 |done,[]=>if done then []else [v]
 |done,x::r=>
  (if !done&&(kN t (fQ v) (fQ x)||iC (fQ v) (fQ x))then [v]else [])++
   ((if iC (fQ v) (fQ x)then []else [x])++gz t v (done||(kN t (fQ v) (fQ x)||iC (fQ v) (fQ x))) r)
def jV (t:au)(l:List PV)(v:PV):List PV:=gz t v false l
def fT (m:PM)(n:Int):PM:=if(m.get n).isEmpty then m.put n [PV.none]else m
def gA (m:PM):PM:= .mk (fT (fT m 1) 2).fs eS
def pR (S:eD)(d:MT)(deep:Nat):Bool:=
 if !(gN d.name eS)||deep !=8 then decide (8<deep)else
 match d.fs with
 |_::f::_=>(S.msg f.ty).isSome
 |_=>false
def i8 (how:au):Bool:=fZ how 0==46
def iU (f:fo):List fo->PM->PM
 | [],m=>m
 |o::l,m=>iU f l (if gN o.how f.how&&i8 o.how&&decide (o.num≠f.num)then m.put o.num []else m)
def gX (S:eD)(d:MT)(f:fo)(m:PM)(v:PV):PM:=
 if f.isMap then m.put f.num (jV f.key (m.get f.num) (v.1,v.2.1,gA v.2.2))
 else if f.isRep then m.put f.num (m.get f.num++ [v])
 else if gN f.how eS&&(fy S f).isNone&&decide (v.1=0)&&gN v.2.1 eS then m.put f.num []
 else(iU f d.fs m).put f.num [v]
def eY (f:fo)(m:PM):PV:=if f.isRep||f.isMap then PV.none else(m.get f.num).headD PV.none
def JX (s:au):Nat->Nat->Int->Option Int
 |0,_,c=>some c
 |f+1,i,c=>if fZ s i<128\/191<fZ s i then none else JX s f (i+1) (64*c+fZ s i-128)
def Sp (s:au)(n:Nat)(low c:Int):Option Nat:=
 if s.size<n then none else
 match JX s (n-1) 1 c with
 |none=>none
 |some c=>if c<low\/1114111<c\/(55296<=c/\c<=57343)then none else some n
def Tu (s:au):Option Nat:=
 if 240<=fZ s 0 then Sp s 4 65536 (fZ s 0-240)else if 224<=fZ s 0 then Sp s 3 2048 (fZ s 0-224)
 else if 192<=fZ s 0 then Sp s 2 128 (fZ s 0-192)else if 128<=fZ s 0 then none else Sp s 1 0 (fZ s 0)
def Sq:Nat->au->Bool
 |0,_=>true
 |f+1,s=>if s.size=0 then true else
  match Tu s with
  |none=>false
  |some n=>Sq f (s.extract n s.size)
def Te (s:au):Bool:=Sq s.size s
def og (S:eD)(b:au)(f:fo)(r:pK):Fx PV:=
 if r.kind=2 then
  (if gN f.ty lD&& !(Te (b.extract r.fr r.e))then .error (10,r.fr)else .ok (0,b.extract r.fr r.e,PM.none))
 else .ok (lC (S.base f.ty) r.n,eS,PM.none)
def fW (b:au)(k:Nat)(e:Nat):Nat->List PV->Nat->Fx (List PV)
 |0,l,_=> .ok l
 |F+1,l,a=>
  if a<e then
   if eJ k=0 then
    match iT b a e with
    | .error x=> .error x
    | .ok (n,z)=>fW b k e F (l++ [(lC k n,eS,PM.none)]) z
   else
    let z:=if eJ k=5 then 4 else 8
    if a+z<=e then fW b k e F (l++ [(lC k (xB (b.extract a (a+z))),eS,PM.none)]) (a+z)else .error (6,a)
  else .ok l
def mI (S:eD)(b:au)(f:fo)(l:List PV)(a e:Nat):Fx (List PV):=fW b (S.base f.ty) e (e-a) l a
def eW (S:eD)(b:au):Nat->MT->PM->Nat->Nat->Nat->Fx PM
 |0,_,m,_,_,_=> .ok m
 |F+1,d,m,a,e,deep=>
  if a<e then
   match fN b a e with
   | .error x=> .error x
   | .ok r=>
    match d9 d.fs r.num with
    |none=>eW S b F d (m.O (b.extract r.a r.e)) r.e e deep
    |some f=>
     if r.kind=fV S f then
      match fy S f with
      |some sub=>
       if pR S sub (deep+1)then .error (11,r.fr)
       else match eW S b F sub (eY f m).2.2 r.fr r.e (deep+1)with
        | .error x=> .error x
        | .ok sm=>eW S b F d (gX S d f m ((eY f m).1,(eY f m).2.1,sm)) r.e e deep
      |none=>
       match og S b f r with
       | .error x=> .error x
       | .ok v=>eW S b F d (gX S d f m v) r.e e deep
     else if r.kind=2/\f.isRep then
      match mI S b f (m.get f.num) r.fr r.e with
      | .error x=> .error x
      | .ok l=>eW S b F d (m.put f.num l) r.e e deep
     else eW S b F d (m.O (b.extract r.a r.e)) r.e e deep
  else .ok m
def iV (S:eD)(name b:au):Fx PM:=
 match S.msg name with
 |none=> .error (5,0)
 |some d=>eW S b (b.size+1) d PM.none 0 b.size 1
abbrev U4 (x:PV)(a:aC)(c:Nat):aq:= #[.int .u64 x.1,ag x.2.1,.slice a x.2.2.fs.length c,ag x.2.2.unk]
section
open Go.Maps Go.ChangeMaps Go.WideMaps Go.WideElems
def oG (s:ByteArray):ByteArray:=⟨#[46]⟩++s
def rH (o:Option W)(form:Int):ByteArray:=
 match o with
 |some x=>oG x.1
 |none=>if form=0 then eS else if form=1 then lK else if form=2 then Dt else xA
def gW (o:Option W)(f:eU):fo:=⟨f.name.1,f.type.1,jK f.key,rH o f.form,jc f.num.1⟩
structure GF where
 f:fo
 form:Int
 riv:List Int
def jC (f:eU):Int:=jc f.num.1
def qb (p:fI)(f:eU):List Int:=(p.fields.filter λo=>decide (jC o≠jC f)).map jC
def sM (p:fI)(f:eU):GF:=⟨gW p.oneof f,f.form,qb p f⟩
def vm (b:d7):List GF:=b.parts.flatMap λp=>p.fields.map (sM p)
def oh (t:ByteArray):Nat:=(Df mZ t.toList 0).getD 0
def jB (mp:ByteArray->Option Nat)(t:ByteArray):Nat:=if dV t=3 then oh t else if(mp t).isSome then 16 else 15
def zH (mp:ByteArray->Option Nat)(t:ByteArray):Option Nat:=if dV t=3 then none else mp t
def gZ:Option Nat->Value
 |none=> .pointer none
 |some b=> .pointer (some ⟨b,0,none⟩)
def gB (l:List Int):List Value:=l.map (Value.int .i64)
def ng (w:World)(P:Nat->Prop)(mp:ByteArray->Option Nat)(g:GF)(fb:Nat):Prop:=
 ∃rv,dX w fb #[.int .i64 g.f.num,.int .i64 g.form,.int .i64 (jB mp g.f.ty),gZ (zH mp g.f.ty),rv] 220/\P fb/\eO w P 3 1 rv g.riv.length (gB g.riv)
def fx (l:List Nat):List Value:=l.map λb=>gZ (some b)
def lL (s:ByteArray)(t:ByteArray)(n:Int):GF:=⟨⟨s,t,eS,lK,n⟩,1,[]⟩
def mJ (w:World)(P:Nat->Prop)(mp:ByteArray->Option Nat)(key val:ByteArray)(eb:Nat):Prop:=
 ∃fv b1 b2,dX w eb #[.string eS,fv] 108/\P eb/\eO w P 212 1 fv 2 (fx [b1,b2])/\ng w P mp (lL oe key 1) b1/\ng w P mp (lL p9 val 2) b2
def eZ (w:World)(P:Nat->Prop)(mp:ByteArray->Option Nat)(g:GF)(fb:Nat):Prop:=
 if g.form=4 then∃rv eb,dX w fb #[.int .i64 g.f.num,.int .i64 4,.int .i64 16,gZ (some eb),rv] 220/\P fb/\eO w P 3 1 rv g.riv.length (gB g.riv)/\mJ w P mp g.f.key g.f.ty eb
 else ng w P mp g fb
def gp (w:World)(P:Nat->Prop)(mp:ByteArray->Option Nat):List GF->List Nat->Prop
 | [],l=>l= []
 |g::gs,l=>∃b r,l=b::r/\eZ w P mp g b/\gp w P mp gs r
def jh (w:World)(P:Nat->Prop)(mp:ByteArray->Option Nat)(b:Nat)(name:ByteArray)(gs:List GF):Prop:=
 ∃fv Vp,dX w b #[.string name,fv] 108/\P b/\eO w P 212 1 fv Vp.length (fx Vp)/\gp w P mp gs Vp
section
variable {w w':World} {P Q:Nat->Prop} {mp:ByteArray->Option Nat}
def ng.O (hk:∀b,P b->b<w.heap.size->w'.heap[b]?=w.heap[b]?){g:GF}{fb:Nat}(h:ng w P mp g fb):ng w' P mp g fb:=by
 obtain⟨rv,h1,h2,h3⟩:=h;exact⟨rv,(hk fb h2 h1.lt).J h1,h2,h3.O hk⟩
def mJ.O (hk:∀b,P b->b<w.heap.size->w'.heap[b]?=w.heap[b]?){k v:ByteArray}{eb:Nat}(h:mJ w P mp k v eb):mJ w' P mp k v eb:=by
 obtain⟨fv,b1,b2,h1,h2,h3,h4,h5⟩:=h;exact⟨fv,b1,b2,(hk eb h2 h1.lt).J h1,h2,h3.O hk,h4.O hk,h5.O hk⟩
def eZ.O (hk:∀b,P b->b<w.heap.size->w'.heap[b]?=w.heap[b]?){g:GF}{fb:Nat}(h:eZ w P mp g fb):eZ w' P mp g fb:=by
 unfold eZ at h⊢;split at h;.rename_i h0;rw[dP h0];obtain⟨rv,eb,h1,h2,h3,h4⟩:=h;exact⟨rv,eb,(hk fb h2 h1.lt).J h1,h2,h3.O hk,h4.O hk⟩
 .rename_i h0;rw[dO h0];exact ng.O hk h
def gp.O (hk:∀b,P b->b<w.heap.size->w'.heap[b]?=w.heap[b]?):∀{gs:List GF} {l:List Nat},gp w P mp gs l->gp w' P mp gs l
 | [],_,h=>h
 |_::_,_,⟨b,r,h1,h2,h3⟩=>⟨b,r,h1,h2.O hk,gp.O hk h3⟩
def jh.O (hk:∀b,P b->b<w.heap.size->w'.heap[b]?=w.heap[b]?){b:Nat}{name:ByteArray}{gs:List GF}(h:jh w P mp b name gs):jh w' P mp b name gs:=by
 obtain⟨fv,Vp,h1,h2,h3,h4⟩:=h;exact⟨fv,Vp,(hk b h2 h1.lt).J h1,h2,h3.O hk,h4.O hk⟩
def ng.V (hs:∀b,P b->b<w.heap.size->Q b){g:GF}{fb:Nat}(h:ng w P mp g fb):ng w Q mp g fb:=by
 obtain⟨rv,h1,h2,h3⟩:=h;exact⟨rv,h1,hs _ h2 h1.lt,h3.V hs⟩
def mJ.V (hs:∀b,P b->b<w.heap.size->Q b){k v:ByteArray}{eb:Nat}(h:mJ w P mp k v eb):mJ w Q mp k v eb:=by
 obtain⟨fv,b1,b2,h1,h2,h3,h4,h5⟩:=h;exact⟨fv,b1,b2,h1,hs _ h2 h1.lt,h3.V hs,h4.V hs,h5.V hs⟩
def eZ.V (hs:∀b,P b->b<w.heap.size->Q b){g:GF}{fb:Nat}(h:eZ w P mp g fb):eZ w Q mp g fb:=by
 unfold eZ at h⊢;split at h;.rename_i h0;rw[dP h0];obtain⟨rv,eb,h1,h2,h3,h4⟩:=h;exact⟨rv,eb,h1,hs _ h2 h1.lt,h3.V hs,h4.V hs⟩
 .rename_i h0;rw[dO h0];exact ng.V hs h
def gp.V (hs:∀b,P b->b<w.heap.size->Q b):∀{gs:List GF} {l:List Nat},gp w P mp gs l->gp w Q mp gs l
 | [],_,h=>h
 |_::_,_,⟨b,r,h1,h2,h3⟩=>⟨b,r,h1,h2.V hs,gp.V hs h3⟩
def jh.V (hs:∀b,P b->b<w.heap.size->Q b){b:Nat}{name:ByteArray}{gs:List GF}(h:jh w P mp b name gs):jh w Q mp b name gs:=by
 obtain⟨fv,Vp,h1,h2,h3,h4⟩:=h;exact⟨fv,Vp,h1,hs _ h2 h1.lt,h3.V hs,h4.V hs⟩
def gp.len:∀{gs:List GF} {l:List Nat},gp w P mp gs l->l.length=gs.length
 | [],_,h=>by rw[show _= []from h];rfl
 |_::_,_,⟨b,r,h1,_,h3⟩=>by rw[h1];simp[h3.len]
def gp.snoc {g:GF}{b:Nat}(h2:eZ w P mp g b):∀{gs:List GF} {l:List Nat},gp w P mp gs l->gp w P mp (gs++ [g]) (l++ [b])
 | [],_,h=>by rw[show _= []from h];exact⟨b,[],rfl,h2,rfl⟩
 |_::_,_,⟨c,r,h1,h3,h4⟩=>by rw[h1];exact⟨c,r++ [b],rfl,h3,gp.snoc h2 h4⟩
def gp.get:∀{gs:List GF} {l:List Nat},gp w P mp gs l->∀{i:Nat} {g:GF},gs[i]?=some g->∃b,l[i]?=some b/\eZ w P mp g b
 | [],_,_,i,g,h=>by simp at h
 |_::_,_,⟨b,r,h1,h3,h4⟩,0,g,h=>by
  simp at h;subst h;subst h1
  exact⟨b,rfl,h3⟩
 |_::_,_,⟨b,r,h1,h3,h4⟩,i+1,g,h=>by
  subst h1;have⟨c,q1,q2⟩:=h4.get (i:=i) (g:=g) (by simpa using h);exact⟨c,by simpa using q1,q2⟩
end
def gL:Value->Option (DataW Unit×List MemPlace)
 | .pointer none=>some (.lit (.int .i64 (-1)),[])
 | .pointer (some ⟨b,0,none⟩)=>some (.lit (.int .i64 b),[])
 |_=>none
def lM (o:Option Nat):gL (gZ o)=some (.lit (.int .i64 (match o with|some b=>(b:Int)|none=> -1)),[]):=by cases o<;>rfl
def qd {v:Value}{o:Option Nat}{ps:List MemPlace}(h:gL v=some (.lit (.int .i64 (match o with|some b=>(b:Int)|none=> -1)),ps)):v=gZ o:=by
 unfold gL at h;split at h
 .cases o with
  |none=>rfl
  |some b=>simp at h
 .cases o with
  |none=>simp at h
  |some b=>simp at h;have e:=Int.ofNat.inj h.1;subst e;rfl
 .cases h
def oH (o:Option Nat):DataW Unit:= .lit (.int .i64 (match o with|some b=>(b:Int)|none=> -1))
def gq (w:World)(b n:Nat)(mp:ByteArray->Option Nat):Prop:=
 ∃D,w.ownsMap prog 9 gL b n D/\∀s:ByteArray,D.atKey (rF s) (oH none)=oH (mp s)
def jD (mp:ByteArray->Option Nat)(s:ByteArray)(b:Nat):ByteArray->Option Nat:=λt=>if gN t s then some b else mp t
def gq.O {w w':World}{b n:Nat}{mp:ByteArray->Option Nat}(h:gq w b n mp)(hb:w'.heap[b]?=w.heap[b]?):gq w' b n mp:=by
 obtain⟨D,h1,h2⟩:=h;exact⟨D,kZ h1 hb,h2⟩
def gq.lt {w:World}{b n:Nat}{mp:ByteArray->Option Nat}(h:gq w b n mp):b<w.heap.size:=by
 obtain⟨D,h1,h2⟩:=h;exact h1.lt
def gq.made (w:World):gq (w.alloc (.map #[] 0)) w.heap.size 0 (λ_=>none):=
 ⟨_,World.ownsMap_made w prog 9 gL,λ_=>rfl⟩
def GS (s t:ByteArray):rF t=rF s<->gN t s=true:=by
 unfold rF gN;rw[ByteArray.toList_eq,ByteArray.toList_eq];simp
def Oa {D:DataW Unit}{mp:ByteArray->Option Nat}(hm:IsMap D)(h:∀s:ByteArray,D.atKey (rF s) (oH none)=oH (mp s))(s:ByteArray)(b:Nat):
  ∀t:ByteArray,(D.put (rF s) (oH (some b))).atKey (rF t) (oH none)=oH (jD mp s b t):=by
 intro t;unfold jD;by_cases e:gN t s=true;.rw[dP e,(GS s t).2 e];exact atKey_put_same hm (show WideAt.IsKeyLit (rF s)from trivial) _ _
 .rw[dO e,atKey_put_other (λh=>e ((GS s t).1 h))];exact h t
end
section
open Go.Maps
open Vo
def sN (w:aw)(f:eU)(h:lg f.num.1)(hb:jc f.num.1<=536870911)(hg:GOK w):
  Calls prog 109 #[.agg (FC f)] w λe w'=>e= .returned (aa (jC f))/\ak w w':=by
 have B0:=(Va w).alloc (aE _) (FO f);have wr:IntKind.i64.wrap (jc f.num.1:Int)=(jc f.num.1:Int):=by simp[IntKind.wrap,IntKind.bits,IntKind.signed];omega
 unfold jC;go_in
 go_wp2_with fail;refine(Td _ _ _ _ h (hg.O (Below.l _ _ _ hg.lt))).V ?_;rintro e w1 ⟨rfl,Vp⟩;go_wp2;go_ret;exact⟨rfl,B0.J (Vp.V Vd)⟩
def BOK (w:aw):Prop:=∀i v,(Fe.map Value.string)[i]?=some v->w.cell? (aj 0 i)=some v
def BOK.lt {w:aw}(h:BOK w):0<w.heap.size:=aV _ _ (h 0 _ rfl)
def BOK.O {w w':aw}(h:BOK w)(hb:w'.heap[0]?=w.heap[0]?):BOK w':=by
 intro i v hv;rw[<-h i v hv];unfold World.cell?;rw[hb]
def qe (s:au):Nat->Nat
 |0=>0
 |k+1=>if((Fe.getD k eS).toList==s.toList)then k else qe s k
def JY (k:Nat)(x:au)(h:Fe[k]?=some x)(w:aw):(Instr.index 427 (.agg #[ag ⟨#[105,110,116,51,50]⟩,ag ⟨#[105,110,116,54,52]⟩,ag ⟨#[117,105,110,116,51,50]⟩,ag ⟨#[117,105,110,116,54,52]⟩,ag ⟨#[115,105,110,116,51,50]⟩,ag ⟨#[115,105,110,116,54,52]⟩,ag ⟨#[98,111,111,108]⟩,ag ⟨#[102,105,120,101,100,51,50]⟩,ag ⟨#[102,105,120,101,100,54,52]⟩,ag ⟨#[115,102,105,120,101,100,51,50]⟩,ag ⟨#[115,102,105,120,101,100,54,52]⟩,ag ⟨#[102,108,111,97,116]⟩,ag ⟨#[100,111,117,98,108,101]⟩,ag ⟨#[115,116,114,105,110,103]⟩,ag ⟨#[98,121,116,101,115]⟩]) (aa (k:Int))).run prog w= .ok (ag x) w:=by
 have hk:k<15:=by
  by_cases h':k<15;.exact h'
  .rw[bf (by show 15<=k;omega)]at h;cases h
 rcases(show k=0\/k=1\/k=2\/k=3\/k=4\/k=5\/k=6\/k=7\/k=8\/k=9\/k=10\/k=11\/k=12\/k=13\/k=14 from by omega)with rfl|rfl|rfl|rfl|rfl|rfl|rfl|rfl|rfl|rfl|rfl|rfl|rfl|rfl|rfl
 all_goals
  obtain rfl:=Option.some.inj h;change _=_;kernel_rfl
def JZ (w:aw)(s:au)(hb:BOK w):
  Calls prog 245 #[ag s] w λe w'=>e= .returned (aa (qe s 15))/\w'=w:=by
 have c0:=hb 0 _ rfl;have c1:=hb 1 _ rfl;have c2:=hb 2 _ rfl;have c3:=hb 3 _ rfl;have c4:=hb 4 _ rfl;have c5:=hb 5 _ rfl;have c6:=hb 6 _ rfl;have c7:=hb 7 _ rfl;have c8:=hb 8 _ rfl;have c9:=hb 9 _ rfl;have c10:=hb 10 _ rfl;have Vp:=hb 11 _ rfl;have Vq:=hb 12 _ rfl;have Sc:=hb 13 _ rfl;have Sb:=hb 14 _ rfl;go_in
 go_wp2;clear c0 c1 c2 c3 c4 c5 c6 c7 c8 c9 c10 Vp Vq Sc Sb;go_loopw [3,7] (λv i wr=>∃(k:Nat),k<=15/\i=aa k/\v=aa (qe s k)/\w=wr) (λ_ i _=>15-(intOf i).toNat)
 case atStart=>exact⟨0,aP _,rfl,rfl,rfl⟩
 case round=>
  obtain⟨k,hk,rfl,rfl,rfl⟩:=hrel;by_cases hlt:k<15
  .have⟨x,hx⟩:=gx (l:=Fe) (show k<Fe.length from hlt);have e:qe s (k+1)=if x.toList==s.toList then k else qe s k:=by rw[qe,cr,hx];rfl
   have hi:=JY k x hx;have Vr:(k:Int)<15:=Vc;clear hx;cases hc:(x.toList==s.toList)
   .rw[hc,dO Vd]at e;go_wp2;go_roundw
    case rel=>exact⟨k+1,Vc,rfl,by rw[e],trivial⟩
    case measure=>simp[intOf];omega
   .rw[hc,dP rfl]at e;go_wp2;go_roundw
    case rel=>exact⟨k+1,Vc,rfl,by rw[e],trivial⟩
    case measure=>simp[intOf];omega
  .have Vr:decide ((k:Int)<15)=false:=Ve;obtain rfl:k=15:=Vc;go_wp2;go_ret;exact⟨rfl,rfl⟩
def GT (l:ap):Nat->Nat
 |0=>0
 |k+1=>if(mZ.getD k []==l)then k else GT l k
def Ob (k:Nat):(Fe.getD k eS).toList=mZ.getD k []:=by
 unfold Fe;rw[cr,cr,aT]
 cases mZ[k]? with
 |none=>simp[eS,ByteArray.toList_eq]
 |some l=>simp[ByteArray.toList_eq]
def Dv (s:au):∀k,qe s k=GT s.toList k
 |0=>rfl
 |k+1=>by rw[qe,GT,Dv s k,Ob]
def J8:∀l∈mZ,GT l 15=(Df mZ l 0).getD 0:=Vf
def J9 {s:au}(h:jI s.toList=true):qe s 15=oh s:=by
 have hm:s.toList∈mZ:=by simpa [jI]using h
 rw[Dv];exact J8 _ hm
def nh {s:au}(h:dV s=3):jI s.toList=true:=by
 unfold dV jq at h;split at h;.cases h
 .split at h;.cases h
  .split at h;.cases h
   .split at h;.assumption
    .cases h
def Ka (w:aw):(zeroValue 105).run prog w= .ok (.pointer none) w:=Vh
def gq.look {w:aw}{b n:Nat}{mp:an}(h:gq w b n mp)(s:au)(hs:s.size<=maxLen):
  (Instr.lookup 145 (.map (some b)) (ag s) false).run prog w= .ok (gZ (mp s)) w:=by
 obtain⟨D,h1,h2⟩:=h;have⟨v,ps,Vq,hR⟩:=h1.lookup IL underlying145 (Ka w) (lM none) (IM s hs);have e:=h2 s;unfold oH at e;rw[e]at hR;rw[Vq,qd hR]
def sO (mp:an)(s:au):Value:= .agg #[aa (jB mp s),gZ (zH mp s)]
def Dw (w:aw)(b:Nat)(mp:an)(s:au)(p:Nat)(hk:dV s=3)(hb:BOK w):
  Calls prog 167 #[.map (some b),.agg #[aa 3,ag s,aa p]] w λe w'=>e= .returned (sO mp s)/\ak w w':=by
 have B0:=((Va w).alloc (aE _) (am #[aa 3,ag s,aa p] 148)).alloc Vd (am #[aa 0,.pointer none] 216);have Vr:BOK ((w.U5 #[aa 3,ag s,aa p] 148).U5 #[aa 0,.pointer none] 216):=hb.O (B0.block _ hb.lt)
 have K1:∀x y,dX ((w.U5 #[aa 3,ag s,aa p] 148).U5 #[x,y] 216) (w.heap.size+1) #[x,y] 216:=λx y=>by
  have:=dX.new (w.U5 #[aa 3,ag s,aa p] 148) #[x,y] 216;simpa using this
 have B1:∀o,ak w ((w.alloc (am #[aa 3,ag s,aa p] 148)).alloc o):=λo=>(Vb w _).alloc Vd o
 have e3:qe s 15=oh s:=J9 (nh hk);have hT:sO mp s= .agg #[aa (qe s 15),.pointer none]:=(by unfold sO jB zH;rw[dP hk,dP hk,e3];rfl);rw[hT];clear hk e3 hT;go_in
 go_wp2_with fail;refine(JZ _ s Vr).V ?_;rintro e w1 ⟨rfl,rfl⟩;go_wp2;exact dR (el results167 _ _ rfl (K1 _ _) underlying216 Vh) rfl ⟨rfl,B1 _⟩
def Dx (w:aw)(b n:Nat)(mp:an)(k:Int)(s:au)(p:Nat)(H:gq w b n mp)(hs:s.size<=2000)(hk:k=dV s)(hk3:¬dV s=3):
  Calls prog 167 #[.map (some b),.agg #[aa k,ag s,aa p]] w λe w'=>e= .returned (sO mp s)/\ak w w':=by
 have B0:=((Va w).alloc (aE _) (am #[aa k,ag s,aa p] 148)).alloc Vd (am #[aa 0,.pointer none] 216);have H0:gq ((w.U5 #[aa k,ag s,aa p] 148).U5 #[aa 0,.pointer none] 216) b n mp:=H.O (B0.block _ H.lt)
 have K1:∀x y,dX ((w.U5 #[aa k,ag s,aa p] 148).U5 #[x,y] 216) (w.heap.size+1) #[x,y] 216:=λx y=>by
  have:=dX.new (w.U5 #[aa k,ag s,aa p] 148) #[x,y] 216;simpa using this
 have B1:∀o,ak w ((w.alloc (am #[aa k,ag s,aa p] 148)).alloc o):=λo=>(Vb w _).alloc Vd o
 have Vp:=H0.look s Vj;have hd:(k==3)=false:=by rw[hk];simp[hk3]
 have hd2:¬k=3:=by rw[hk];exact hk3
 unfold sO jB zH;rw[dO hk3,dO hk3];clear hk hk3 H0
 cases hm:mp s with
 |none=>
  rw[hm]at Vp;unfold gZ at Vp⊢;go_in
  go_wp2
  exact dR (el results167 _ _ rfl (K1 _ _) underlying216 Vh) rfl ⟨rfl,B1 _⟩
 |some x=>
  rw[hm]at Vp;unfold gZ at Vp⊢;go_in
  go_wp2;exact dR (el results167 _ _ rfl (K1 _ _) underlying216 Vh) rfl ⟨rfl,B1 _⟩
def xC (w:aw)(b n:Nat)(mp:an)(s:au)(p:Nat)(H:gq w b n mp)(hs:s.size<=2000)(hb:BOK w):
  U8 167 #[.map (some b),.agg #[aa (dV s),ag s,aa p]] w λe w'=>e= .returned (sO mp s)/\ak w w':=by
 by_cases hk:dV s=3;.have:=Dw w b mp s p hk hb;rw[hk];exact this
 .exact Dx w b n mp _ s p H hs rfl hk
end
section
open Vo
def ee (w:aw)(rb:Nat)(s:au)(a:Nat)(deep:Int):Prop:=dX w rb #[ag s,aa a,aa deep] 244
def Kn (w:aw)(s:au):Calls prog 84 #[ag s] w λe w'=>e= .returned (ah w.heap.size)/\w'=w.alloc (.cells #[ag s,aa 0,aa 1] 244):=by
 go_in
 go_wp2;go_ret;exact⟨rfl,rfl⟩
def sf (w:aw)(rb:Nat)(s:au)(a:Nat)(deep:Int)(h:ee w rb s a deep):Calls prog 129 #[ah rb] w λe w'=>e= .returned (.bool (decide (a<s.size)))/\∃q,w'=w.drewN q:=by
 have e0:decide (a<s.size)=decide ((a:Int)<(s.size:Int)):=by rw[cy];simp
 rw[e0];have⟨k1,k2⟩:=dX.I h;go_in
 go_wp2;go_quiet (fail);go_wp2;go_ret;exact⟨rfl,nq,rfl⟩
def Sr (w:aw)(rb:Nat)(s:au)(a:Nat)(deep:Int)(h:ee w rb s a deep):Calls prog 130 #[ah rb] w λe w'=>e= .returned (aa a)/\w'=w:=by
 have⟨k1,k2⟩:=dX.I h;go_in
 go_wp2;go_ret;exact⟨rfl,rfl⟩
def wA (w:aw)(rb:Nat)(s:au)(a:Nat)(deep:Int)(st:Nat)(h:ee w rb s a deep)(h1:st<=a)(h2:a<=s.size):
  Calls prog 136 #[ah rb,aa st] w λe w'=>e= .returned (ag (s.extract st a))/\∃q,w'=w.drewN q:=by
 have⟨k1,k2⟩:=dX.I h;go_in
 go_wp2;go_quiet (fail);go_wp2;go_ret;exact⟨rfl,nq,rfl⟩
def Fo (w:aw)(rb:Nat)(s:au)(a:Nat)(deep:Int)(h:ee w rb s a deep)(h2:a<=s.size):
  Calls prog 272 #[ah rb] w λe w'=>e= .returned (ag (s.extract a s.size))/\∃q,w'=w.drewN q:=by
 have⟨k1,k2⟩:=dX.I h;go_in
 go_wp2;go_quiet (fail);go_wp2;go_ret;exact⟨rfl,nq,rfl⟩
end
def Tryz.info102:(prog.info? 102).map (λi=>(i.zero,i.size,i.bytes))=some (some (.agg #[U7,aa 0]),2,24):=Vh
def mP (w:aw)(a b:Value)(t:TypeId):∀j u,[a,b][j]?=some u->(w.alloc (.cells #[a,b] t)).cell? (((aj w.heap.size 0):Addr).add j)=some u:=by
 intro j u hj
 match j,hj with
 |0,hj=>simp at hj;subst hj;simp[Addr.add]
 |1,hj=>simp at hj;subst hj;simp[Addr.add]
 |j+2,hj=>simp at hj
def ec.G {bs:aB}{a b c:aw}(h:ec bs a b)(k:Below b.heap.size b c):ec bs a c:=h.J (ec.oB k)
def ec.drewN {bs:aB}{a b:aw}(h:ec bs a b)(n:Nat):ec bs a (b.drewN n):=h.J ⟨rfl,rfl,rfl,aE _,λ_ _ _=>rfl⟩
def dX.kept {w w1:aw}{bs:aB}{b:Nat}{cs:aq}{T:TypeId}(h:dX w b cs T)(hk:ec bs w w1)(hn:b∉bs):dX w1 b cs T:=(hk.block b h.lt hn).J h
def kO (t:au)(k:Nat):0<=fZ t k/\fZ t k<256:=by
 unfold fZ;split;.rename_i h;have:=t[k].toNat_lt;omega
 .omega
def Ar (i:Nat):(2:Int)^(7*(i+1))=128*2^(7*i):=by
 rw[show 7*(i+1)=7*i+7 from by omega,Int.pow_add];omega
def xG {i j:Nat}(h:i<=j):(2:Int)^i<=2^j:=by
 have:=du (n:=2) Vf h
 exact_mod_cast this
def BF {i:Nat}{n c:Int}(h0:0<=n)(h1:n<2^(7*i)):0<=n+c%128*2^(7*i)/\n+c%128*2^(7*i)<2^(7*(i+1)):=by
 have hp:(0:Int)<2^(7*i):=Int.pow_pos Vf;have h2:0<=c%128:=Int.emod_nonneg _ Vf;have h3:c%128<=127:=by have:=Int.emod_lt_of_pos c (show(0:Int)<128 by decide);omega
 rw[Ar];generalize(2:Int)^(7*i)=q at*;have h4:0<=c%128*q:=Int.mul_nonneg h2 Vc;have h5:c%128*q<=127*q:=Int.mul_le_mul_of_nonneg_right h3 Vc;omega
def gD {c:Int}(h0:0<=c)(h1:c<2^64):IntKind.u64.wrap c=c:=by
 simp[IntKind.wrap,IntKind.signed,IntKind.bits];omega
def Ko {b:au}{a e:Nat}:∀f i n m z,mH b a e f i n= .ok (m,z)->i+f=10->0<=n->n<2^(7*i)->0<=m/\m<2^64/\a+i<z/\z<=e
 |0,i,n,m,z,h,_,_,_=>by simp[mH]at h
 |f+1,i,n,m,z,h,hi,h0,h1=>by
  rw[mH]at h;split at h
  .rename_i hlt;split at h;.simp at h
   .rename_i h9;have hg:=BF (i:=i) (c:=fZ b (a+i)) h0 h1;split at h
    .rename_i hc;simp only[Except.ok.injEq,Prod.mk.injEq]at h;obtain⟨rfl,rfl⟩:=h;refine⟨hg.1,?_,Vc,Vc⟩;by_cases hi9:i=9
     .subst hi9;have hr:=kO b (a+9);have hc2:¬1<fZ b (a+9):=λh=>h9 ⟨rfl,h⟩
      simp only[Nat.reduceMul,Int.reducePow]at h1⊢;omega
     .have h2:(2:Int)^(7*(i+1))<=2^63:=xG Vc;have h3:=hg.2;omega
    .have⟨q0,q1,q2,q3⟩:=Ko f (i+1) _ m z h Vc hg.1 hg.2;exact⟨q0,q1,Vc,q3⟩
  .simp at h
def jj {b:au}{a e:Nat}{m:Int}{z:Nat}(h:iT b a e= .ok (m,z)):0<=m/\m<2^64/\a<z/\z<=e:=by
 have:=Ko 10 0 0 m z h rfl Vc Vf;simpa using this
section
variable {b:au} {a e fr:Nat} {t:Int}
end
abbrev LV:=Int×au
def vP (v:LV):Value:= .agg #[.int .u64 v.1,ag v.2,ai,U7]
def IV (s:au)(k:Nat):Int:=IR s (s.size-k) k
def Hd {s:au}{k:Nat}(h:¬k<s.size):IV s k=0:=by
 unfold IV;rw[show s.size-k=0 from by omega];rfl
def DK {s:au}{k:Nat}(h:k<s.size):IV s k=256*IV s (k+1)+fZ s k:=by
 unfold IV;rw[show s.size-k=(s.size-(k+1))+1 from by omega,IR,dP h]
def ut (s:au):∀d k,s.size-k=d->0<=IV s k/\IV s k<256^d
 |0,k,h=>by rw[Hd Vc];decide
 |d+1,k,h=>by
  have hk:k<s.size:=Vc;have:=ut s d (k+1) Vc;have hb:=kO s k;rw[DK hk,Int.pow_succ];omega
def uw {s:au}(h:s.size<=8):0<=xB s/\xB s<2^64:=by
 have h1:=ut s _ 0 rfl;have e:IV s 0=xB s:=rfl;rw[e]at h1;refine⟨h1.1,Int.lt_of_lt_of_le h1.2 ?_⟩;have:=du (n:=256) (i:=s.size-0) (j:=8) Vf Vc;have h2:=Int.ofNat_le.2 this;have e8:((256^8:Nat):Int)=2^64:=Vf;rw[e8]at h2;exact h2
def dX.new1 (w:aw)(o:Obj)(cs:aq)(T:TypeId):dX ((w.alloc o).alloc (.cells cs T)) (w.heap.size+1) cs T:=by
 have h:=dX.new (w.alloc o) cs T;have e:(w.alloc o).heap.size=w.heap.size+1:=Vd;rw[e]at h;exact h
section
variable {w:aw} {P:Value->PM->Prop}
theorem eO.nil (w:aw)(Z:ax)(T:TypeId)(k:Nat):eO w Z T k (ai) 0 []:=⟨br _ _ _ _,λb hb=>by cases hb⟩
def kB (P:Value->PM->Prop):ay->List PV->Prop
 |cs,[]=>cs= []
 |cs,v::vs=>∃mv rest,cs= .int .u64 v.1::ag v.2.1::mv::ag v.2.2.unk::rest/\P mv v.2.2/\kB P rest vs
def jx (P:Value->PM->Prop)(w:aw)(Z:ax)(vv:Value)(l:List PV):Prop:=
 ∃Vp,eO w Z 55 4 vv l.length Vp/\kB P Vp l
def mz (P:Value->PM->Prop)(w:aw)(Z:ax):ay->List PF->Prop
 |cs,[]=>cs= []
 |cs,f::fs=>∃vv rest,cs=aa f.1::vv::rest/\jx P w Z vv f.2/\mz P w Z rest fs
def qY:Nat->aw->(ax)->Value->PM->Prop
 |0,_,_,_,_=>False
 |k+1,w,Z,v,m=>∃cs,eO w Z 58 2 v m.fs.length cs/\mz (qY k w Z) w Z cs m.fs
theorem kB.imp {Q:Value->PM->Prop}(h:∀v m,P v m->Q v m):∀{l:List PV} {cs:ay},kB P cs l->kB Q cs l
 | [],_,h1=>h1
 |_::_,_,⟨mv,rest,h1,h2,h3⟩=>⟨mv,rest,h1,h _ _ h2,kB.imp h h3⟩
theorem jx.V {Q:Value->PM->Prop}{Z Y:ax}(hP:∀v m,P v m->Q v m)(hz:∀b,Z b->b<w.heap.size->Y b){vv:Value}{l:List PV}(h:jx P w Z vv l):jx Q w Y vv l:=by
 obtain⟨Vp,h1,h2⟩:=h;exact⟨Vp,h1.V hz,h2.imp hP⟩
theorem mz.V {Q:Value->PM->Prop}{Z Y:ax}(hP:∀v m,P v m->Q v m)(hz:∀b,Z b->b<w.heap.size->Y b):∀{fs:List PF} {cs:ay},mz P w Z cs fs->mz Q w Y cs fs
 | [],_,h1=>h1
 |_::_,_,⟨vv,rest,h1,h2,h3⟩=>⟨vv,rest,h1,h2.V hP hz,mz.V hP hz h3⟩
theorem qY.V {Z Y:ax}(hz:∀b,Z b->b<w.heap.size->Y b):∀{k:Nat} {v:Value} {m:PM},qY k w Z v m->qY k w Y v m
 |0,_,_,h=>h
 |_+1,_,_,⟨cs,h1,h2⟩=>⟨cs,h1.V hz,h2.V (λ_ _ h=>qY.V hz h) hz⟩
theorem kB.len:∀{l:List PV} {cs:ay},kB P cs l->cs.length=l.length*4
 | [],_,h=>by rw[show _= []from h];rfl
 |_::l,_,⟨mv,rest,h1,_,h3⟩=>by rw[h1];simp[h3.len];omega
theorem kB.append:∀{l r:List PV} {cs ds:ay},kB P cs l->kB P ds r->kB P (cs++ds) (l++r)
 | [],_,_,_,h1,h2=>by rw[show _= []from h1];exact h2
 |_::l,r,_,ds,⟨mv,rest,h1,h3,h4⟩,h2=>by rw[h1];exact⟨mv,rest++ds,rfl,h3,h4.append h2⟩
theorem kB.get:∀{l:List PV} {cs:ay},kB P cs l->∀{i:Nat} {v:PV},l[i]?=some v->
  ∃mv,P mv v.2.2/\cs[i*4]?=some (.int .u64 v.1)/\cs[i*4+1]?=some (ag v.2.1)/\cs[i*4+2]?=some mv/\cs[i*4+3]?=some (ag v.2.2.unk)
 | [],_,_,i,v,h=>by simp at h
 |x::l,_,⟨mv,rest,h1,h2,h3⟩,0,v,h=>by
  simp at h;subst h;subst h1
  exact⟨mv,h2,rfl,rfl,rfl,rfl⟩
 |x::l,_,⟨mv,rest,h1,h2,h3⟩,i+1,v,h=>by
  have⟨Vq,q1,q2,q3,q4,q5⟩:=h3.get (i:=i) (v:=v) (by simpa using h);subst h1;have e:∀j,(i+1)*4+j=(i*4+j)+4:=λj=>Vc
  refine⟨Vq,q1,?_,?_,?_,?_⟩;.rw[show(i+1)*4=i*4+4 from by omega];exact q2
  .rw[e];exact q3
  .rw[e];exact q4
  .rw[e];exact q5
end

def Tryz.infoV:(prog.info? 55).map (λi=>(i.zero,i.size,i.bytes))=some (some (.agg #[.int .u64 0,U7,ai,U7]),4,64):=Vh
def Tryz.infoF:(prog.info? 58).map (λi=>(i.zero,i.size,i.bytes))=some (some (.agg #[aa 0,ai]),2,32):=Vh
def kB.one {P:Value->PM->Prop}(hf:∀v m,P v m->v.oneCell'=true):∀{l:List PV} {cs:ay},kB P cs l->∀u∈cs,u.oneCell'=true
 | [],_,h,u,hu=>by rw[show _= []from h]at hu;simp at hu
 |_::l,_,⟨mv,rest,h1,h2,h3⟩,u,hu=>by
  rw[h1]at hu;simp only[aS]at hu;rcases hu with rfl|rfl|rfl|rfl|hu;.rfl
  .rfl
  .exact hf _ _ h2
  .rfl
  .exact h3.one hf u hu
def qs (w:aw)(t:TypeId)(a b c d:Value):∀j u,[a,b,c,d][j]?=some u->(w.alloc (.cells #[a,b,c,d] t)).cell? (((aj w.heap.size 0):Addr).add j)=some u:=by
 intro j u hj
 match j,hj with
 |0,hj=>simp at hj;subst hj;exact(dX.new w #[a,b,c,d] t).cell 0
 |1,hj=>simp at hj;subst hj;exact(dX.new w #[a,b,c,d] t).cell 1
 |2,hj=>simp at hj;subst hj;exact(dX.new w #[a,b,c,d] t).cell 2
 |3,hj=>simp at hj;subst hj;exact(dX.new w #[a,b,c,d] t).cell 3
 |j+4,hj=>simp at hj
def QE (w:aw)(t:TypeId)(a b:Value):∀j u,[a,b][j]?=some u->(w.alloc (.cells #[a,b] t)).cell? (((aj w.heap.size 0):Addr).add j)=some u:=by
 intro j u hj
 match j,hj with
 |0,hj=>simp at hj;subst hj;exact(dX.new w #[a,b] t).cell 0
 |1,hj=>simp at hj;subst hj;exact(dX.new w #[a,b] t).cell 1
 |j+2,hj=>simp at hj
def fH (w:aw)(B b:Nat)(p:Value)(l:ap):Prop:=Lib.BuilderAt 285 5 B b p (Lib.byteCells l) w
abbrev eE (b:Nat):Value:=ah b
def AL:(prog.info? 5).map (λi=>(i.zero,i.size,i.bytes))=some (some (.int .u8 0),1,1):=Vh
def Eh:(prog.info? 283).map (·.size)=some 2:=Vh
def LQ:liesAt prog prog.depth 285 (2/prog.cellsOf 285) 0 283 1=true:=Vh
structure Wr (B:Nat)(w w':aw):Prop where
 bel:Below B w w'
 fr:∀i cs T,T≠5->T≠285->dX w i cs T->dX w' i cs T
def Wr.refl (B:Nat)(w:aw):Wr B w w:=⟨Below.refl _ _,λ_ _ _ _ _ h=>h⟩
def Wr.J {B:Nat}{a b c:aw}(h:Wr B a b)(k:Wr B b c):Wr B a c:=⟨h.bel.J k.bel,λi cs T q1 q2 q=>k.fr i cs T q1 q2 (h.fr i cs T q1 q2 q)⟩
def Wr.of {B:Nat}{w w':aw}(h:ak w w')(hB:B<=w.heap.size):Wr B w w':=
 ⟨⟨h.os,h.tape,h.output,h.size,λi hi=>h.block i Vc⟩,λ_ _ _ _ _ q=>q.G h q.lt⟩
def LR {w:aw}{B n k:Nat}{v:Value}{xs:ay}{e T:TypeId}{i:Nat}{cs:aq}(h:w.ownsRow B e k v n xs)(hT:T≠e)(hb:dX w i cs T):some i≠v.ownBlock:=by
 rcases h.2 with⟨rfl,_⟩|⟨g,cap,VD,rfl,_,hg,_⟩;.intro q;cases q
 .intro q;obtain rfl:i=g:=Option.some.inj q;unfold dX at hb;rw[hg]at hb;injection hb with hb
  injection hb with _ h2 _
  exact hT h2.sy
def LS {w:aw}{b i:Nat}{cs cs':aq}{T T':TypeId}(h:dX w b cs T)(h':dX w i cs' T')(hT:T'≠T):b≠i:=by
 rintro rfl;unfold dX at h h';rw[h]at h';injection h' with h'
 injection h' with _ h2 _
 exact hT h2.sy
def yy (b:Nat)(w:aw)(h0:w.cell? (aj b 0)=some (eE b)):
  Calls prog 228 #[eE b] w λe w'=>e= .returned (.tuple #[])/\w'=w:=by
 have⟨j,hj,_⟩:=bi.1 Eh;go_in
 go_wp2;rw[Lib.run_neq_ptr_same w _ underlying281 hj];go_wp2;go_end0;exact⟨rfl,rfl⟩
def Ei (b:Nat)(w:aw)(h0:w.cell? (aj b 0)=some (.pointer none))(hsh:w.shape? b=some (285,2))(hfz:w.frozen? (aj b 0)=false):
  Calls prog 228 #[eE b] w λe w'=>e= .returned (.tuple #[])/\w'=w.setCell (aj b 0) (eE b):=by
 have⟨j,hj,VE⟩:=bi.1 Eh;go_in
 go_wp2;rw[Lib.run_to_unsafe w (aj b 0) underlying281 underlying322 hj (by rw[VE];decide) hsh (Nat.zero_lt_succ 1)];simp only[Result.andThen];rw[Oper.upon_value];go_wp2;rw[run_callFunc_extern func313 Vh Vh Vh (e:=Extern.AbiNoEscape.same) Vh];rw[Lib.run_noEscape];simp only[Result.andThen];rw[Oper.upon_value];go_wp2;rw[Lib.run_from_unsafe w (aj b 0) underlying322 underlying281 hj hsh LQ];simp only[Result.andThen];rw[Oper.upon_value];go_wp2;go_end0;exact⟨rfl,rfl⟩
def Ej (B b:Nat)(l:ap)(c:UInt8)(w:aw)(h:fH w B b (eE b) l)(hlen:l.length+1<=2^47)(hBw:B<=w.heap.size):
  Calls prog 391 #[eE b,.int .u8 c.toNat] w λe w'=>e= .returned .nilIface/\fH w' B b (eE b) (l++ [c])/\Wr B w w':=by
 have⟨i0,hi,Vx,Vy,Vz⟩:=info_parts AL;obtain⟨hB,v,Vr,Vs,VA⟩:=h;have c0:w.cell? (aj b 0)=some (eE b):=by rw[Lib.cell_of_heap Vr];rfl
 have c1:w.cell? (aj b 1)=some v:=by rw[Lib.cell_of_heap Vr];rfl
 have Vw:(Lib.byteCells l).length=l.length:=Lib.byteCells_length l;go_in
 go_wp2_with fail;refine(yy b w c0).V ?_;rintro e w1 ⟨rfl,rfl⟩;go_wp2_with (at_builtin;refine wpList_append_own _ rfl _ _ 140 rfl B 5 i0 (.int .u8 0) 1 1 underlying140 hi Vx Vy Vz rfl Vf _ _ _ rfl (Vs.alloc _) (aj w1.heap.size 0) 1 1 [.int .u8 c.toNat] rfl rfl ?c1 ?c2 ?c3 ?c4 ?c5 ?_)
 case c1=>
  intro j u hj
  match j,hj with
  |0,hj=>simp at hj;subst hj;simp[Addr.add]
 case c2=>intro u hu;simp at hu;subst hu;rfl
 case c3=>unfold maxLen;omega
 case c4=>omega
 case c5=>simp;omega
 intro v' w2 Vq Vp _;have Vu:b<w1.heap.size:=dX.lt Vr;have Vt:w2.heap[b]?=some (.cells #[eE b,v] 285 (0,0)):=(by rw[Vp.block b Ve (λe=>VA e.sy),Lib.alloc_old w1 _ b Vu];exact Vr);have d0:w2.cell? (aj b 0)=some (eE b):=by rw[Lib.cell_of_heap Vt];rfl
 have d1:w2.cell? (aj b 1)=some v:=by rw[Lib.cell_of_heap Vt];rfl
 have f1:w2.frozen? (aj b 1)=false:=Lib.frozen_of_heap Vt 1
 obtain⟨g,cap,rfl⟩:∃g cap,v'= U9 g (l.length+1) cap:=by
  rcases Vq.2 with⟨_,h0⟩|⟨g,cap,VD,hv,_⟩;.omega
  .exact⟨g,cap,hv⟩
 go_wp2;go_ret;refine⟨rfl,?_,?_⟩;.unfold fH;rw[Lib.byteCells_append];exact Lib.BuilderAt.put (T:=285) (e:=5) hB Vt (bs':=Lib.byteCells l++Lib.byteCells [c]) (by simpa [Lib.byteCells,Vw]using Vq) Vf
 .exact⟨(((Below.refl B _).alloc Vc _).grown Vp Ve (λk hk=>(Vs.lt k hk).1)).setCell (p:=(aj b 1)) hB _,λi cs T q1 q2 q=>((q.alloc _).grown Vp (LR Vs q1 q)).other _ _ (LS Vr q q2)⟩
def zY (B b:Nat)(l:ap)(s:au)(w:aw)(h:fH w B b (eE b) l)(hlen:l.length+s.size<=2^47)(hBw:B<=w.heap.size):
  Calls prog 237 #[eE b,ag s] w λe w'=>e= .returned (.tuple #[aa s.size,.nilIface])/\fH w' B b (eE b) (l++s.data.toList)/\Wr B w w':=by
 have⟨i0,hi,Vx,Vy,Vz⟩:=info_parts AL;obtain⟨hB,v,Vr,Vs,VA⟩:=h;have c0:w.cell? (aj b 0)=some (eE b):=by rw[Lib.cell_of_heap Vr];rfl
 have c1:w.cell? (aj b 1)=some v:=by rw[Lib.cell_of_heap Vr];rfl
 have Vw:(Lib.byteCells l).length=l.length:=Lib.byteCells_length l;go_in
 go_wp2_with fail;refine(yy b w c0).V ?_;rintro e w1 ⟨rfl,rfl⟩;go_wp2_with (at_builtin;refine Lib.wpList_append_own_string _ rfl _ _ 140 9 rfl B 5 i0 underlying140 underlying9 hi Vx Vy Vz _ _ _ rfl Vs s rfl ?c3 ?c4 ?c5 ?_)
 case c3=>unfold maxLen;omega
 case c4=>omega
 case c5=>omega
 intro v' w2 Vq Vp _;have Vu:b<w1.heap.size:=dX.lt Vr;have Vt:w2.heap[b]?=some (.cells #[eE b,v] 285 (0,0)):=(by rw[Vp.block b Vu (λe=>VA e.sy)];exact Vr);have d0:w2.cell? (aj b 0)=some (eE b):=by rw[Lib.cell_of_heap Vt];rfl
 have d1:w2.cell? (aj b 1)=some v:=by rw[Lib.cell_of_heap Vt];rfl
 have f1:w2.frozen? (aj b 1)=false:=Lib.frozen_of_heap Vt 1
 obtain⟨ao,n',cap,rfl⟩:∃ao n' cap,v'= .slice ao n' cap:=by
  rcases Vq.2 with⟨hv,_⟩|⟨g,cap,VD,hv,_⟩;.exact⟨_,_,_,hv⟩
  .exact⟨_,_,_,hv⟩
 go_wp2;go_ret2;refine⟨rfl,?_,?_⟩;.unfold fH;rw[Lib.byteCells_append];exact Lib.BuilderAt.put (T:=285) (e:=5) hB Vt (bs':=Lib.byteCells l++Lib.strCells s) (by simpa [Lib.strCells_length,Vw]using Vq) Vf
 .exact⟨((Below.refl B _).grown Vp Vc (λk hk=>(Vs.lt k hk).1)).setCell (p:=(aj b 1)) hB _,λi cs T q1 q2 q=>(q.grown Vp (LR Vs q1 q)).other _ _ (LS Vr q q2)⟩
def QR (B b n:Nat)(w:aw)(hB:B<=b)(Vr:dX w b #[eE b,ai] 285)(hBw:B<=w.heap.size)(hn:n<=2^47):
  Calls prog 229 #[eE b,aa n] w λe w'=>e= .returned (.tuple #[])/\fH w' B b (eE b) []/\Below B w w':=by
 have mixed:prog.follows Departure.mixedOrders=true:=Vh;have⟨cs,VB,hle,VC⟩:=Lib.run_makeNoZero (P:=prog) w.drew #[3] 140 5 underlying140 n Vc;have hw:IntKind.i64.wrap (IntKind.i64.wrap 0+(n:Int))=n:=(by rw[IntKind.wrap_i64,IntKind.wrap_i64];omega);have hcall:(callFunc 314 #[aa (IntKind.i64.wrap (IntKind.i64.wrap 0+(n:Int)))]).run prog w.drew= .ok (.value (U9 w.drew.heap.size n cs.size)) (w.drew.drew.drew.alloc (.cells cs 5)):=(by rw[hw,run_callFunc_extern func314 Vh Vh Vh (e:=Extern.BytealgMakeNoZero.makeNoZero #[3] #[140]) Vh,VB];rfl);have Vu:=Vr.lt;have c1:w.drew.cell? (aj b 1)=some (ai):=Vr.cell 1;have k2:dX (w.alloc (.cells cs 5)) b #[eE b,ai] 285:=Vr.alloc _;have c2:(w.alloc (.cells cs 5)).cell? (aj b 1)=some (ai):=k2.cell 1;have f2:(w.alloc (.cells cs 5)).frozen? (aj b 1)=false:=k2.I.2 1
 have hcopy:∀W:aw,(Builtin.copy_ #[140,140] 3 #[U9 w.heap.size 0 cs.size,ai]).run prog W= .ok (goInt 0) W:=
  λW=>run_copy_none W 140 140 3 5 _ _ 0 cs.size 0 0 underlying140 Vh rfl
 clear hw;have Vv:=Lib.grown_fresh (T:=285) (e:=5) (cs:=cs) hB Vr hBw (VC Vj) Vf;rw[World.setCell_alloc_past _ _ _ _ Vu]at Vv;go_in
 go_wp2;go_region_o
 all_goals (go_wp2;go_end0;exact⟨rfl,Vv⟩)
def QS (B b n:Nat)(w:aw)(hB:B<=b)(Vp:dX w b #[.pointer none,ai] 285)(hBw:B<=w.heap.size)(hn:n<=2^47):
  Calls prog 151 #[eE b,aa n] w λe w'=>e= .returned (.tuple #[])/\fH w' B b (eE b) []/\Below B w w':=by
 have mixed:prog.follows Departure.mixedOrders=true:=Vh;have Vq:dX (w.setCell (aj b 0) (eE b)) b #[eE b,ai] 285:=Vp.set 0 _;have c1:(w.setCell (aj b 0) (eE b)).cell? (aj b 1)=some (ai):=Vq.cell 1;have Vv:Below B w (w.setCell (aj b 0) (eE b)):=(Below.refl B w).setCell (p:=(aj b 0)) hB _;have hU:fH (w.setCell (aj b 0) (eE b)) B b (eE b) []:=⟨hB,ai,Vq,br _ _ _ _,by simp[Value.ownBlock]⟩;have c1':(w.setCell (aj b 0) (eE b)).drew.cell? (aj b 1)=some (ai):=c1;go_in
 go_wp2_with fail;refine(Ei b w (Vp.cell 0) (by simp[World.shape?,show w.heap[b]?=_ from Vp]) (Vp.I.2 0)).V ?_;rintro e w' ⟨rfl,rfl⟩;go_wp2;go_region_o
 all_goals go_wp2_with (go_at_call 229;refine(QR B b n (w.setCell (aj b 0) (eE b)).drew hB Vq (by simpa [World.setCell,World.drew,-World.drew_eq]using hBw) hn).V ?_;rintro e w' ⟨rfl,h1,h2⟩)
 all_goals first
  |(go_end0;exact⟨rfl,h1,Vv.drew.J h2⟩)
  |(go_end0;exact⟨rfl,hU.drew,Vv.drew⟩)
def LT (B b:Nat)(l:ap)(w:aw)(h:fH w B b (eE b) l)(hBw:B<=w.heap.size):
  Calls prog 155 #[eE b] w λe w'=>e= .returned (ag ⟨l.toArray⟩)/\Below B w w':=by
 have mixed:prog.follows Departure.mixedOrders=true:=Vh;obtain⟨hB,v,Vp,Vr,hne⟩:=h;have Vy:∀(W:aw) (q:aC),(Builtin.unsafeString_ #[357,3] 9 #[.pointer q,aa 0]).run prog W= .ok (.string .empty) W:=λW q=>Lib.run_unsafeString_none W _ _ _ q
 rw[Lib.byteCells_length]at Vr;have hlt:=dX.lt Vp;rcases Vr.2 with⟨rfl,hz⟩|⟨g,cap,Vs,rfl,VA,hg,Vw,VB,Vx,htake⟩
 .obtain rfl:=List.length_eq_zero_iff.1 hz;have c1:w.drew.cell? (aj b 1)=some (ai):=dX.cell Vp 1;have Vt:(Builtin.unsafeSliceData_ #[140] 357 #[ai]).run prog w.drew= .ok (.pointer none) w.drew:=rfl;go_in
  go_wp2;go_region_o
  all_goals (go_wp2;go_ret;exact⟨rfl,Below.drew (Below.refl B w)⟩)
 .cases l with
  |nil=>
   by_cases hc0:cap=0
   .subst hc0;have c1:w.drew.cell? (aj b 1)=some (U9 g 0 0):=dX.cell Vp 1
    have Vt:(Builtin.unsafeSliceData_ #[140] 357 #[U9 g 0 0]).run prog w.drew= .ok (ah w.drew.heap.size) (w.drew.alloc (.view (aj g 0) 5)):=
     Lib.run_unsafeSliceData_zero w.drew _ _ 5 underlying357 (aj g 0) 0 (5,Vs.size) (by have Vu:w.drew.heap[g]?=some (.cells Vs 5 (0,0)):=hg;simp[World.shape?,Vu])
    have c2:(w.drew.alloc (.view (aj g 0) 5)).cell? (aj b 1)=some (U9 g 0 0):=(dX.alloc (w:=w.drew) Vp _).cell 1;have c3:(w.alloc (.view (aj g 0) 5)).drew.cell? (aj b 1)=some (U9 g 0 0):=c2;have c0:w.cell? (aj b 1)=some (U9 g 0 0):=c1;go_in
    go_wp2;go_region_o
    all_goals (go_wp2;go_ret;exact⟨rfl,(Below.drew (Below.refl B w)).alloc hBw _⟩)
   .have c1:w.drew.cell? (aj b 1)=some (U9 g 0 cap):=dX.cell Vp 1
    have Vt:(Builtin.unsafeSliceData_ #[140] 357 #[U9 g 0 cap]).run prog w.drew= .ok (ah g) w.drew:=
     Lib.run_unsafeSliceData_row _ _ _ _ _ _ hc0
    clear hc0 Vw Vx;go_in
    go_wp2;go_region_o
    all_goals (go_wp2;go_ret;exact⟨rfl,Below.drew (Below.refl B w)⟩)
  |cons x r=>
   have h0:x::r≠ []:=Vd;generalize x::r=l at*;have Vz:l.length≠0:=by simpa using h0
   have c1:w.drew.cell? (aj b 1)=some (U9 g l.length cap):=dX.cell Vp 1
   have Vt:(Builtin.unsafeSliceData_ #[140] 357 #[U9 g l.length cap]).run prog w.drew= .ok (ah g) w.drew:=
    Lib.run_unsafeSliceData_row _ _ _ _ _ _ Vc
   have Vy:(Builtin.unsafeString_ #[357,3] 9 #[ah g,aa l.length]).run prog w.drew= .ok (ag ⟨l.toArray⟩) (w.drew.freeze (aj g 0) l.length):=(by refine Lib.run_unsafeString_row w.drew 357 3 9 5 underlying357 Vh g Vs.size (by have Vu:w.drew.heap[g]?=some (.cells Vs 5 (0,0)):=hg;simp[World.shape?,Vu]) l h0 Vc (by unfold maxLen at VB;omega) ?_;intro j x hx;exact Vr.cells (g:=g) rfl j (.int .u8 x.toNat) (by simp[Lib.byteCells,hx]));clear Vz Vw Vx;go_in
   go_wp2;go_region_o
   all_goals (go_wp2;go_ret;exact⟨rfl,Lib.below_freeze (Below.drew (Below.refl B w)) (p:=(aj g 0)) VA _⟩)
end Go.Proofs.YtfebdimolnobaaaGreatDoor
namespace Go.Proofs
open Go.Shelf
def Tryz.laysLn_ren:Go.Shelf.Ren:=⟨fun|129=>255|n=>n,fun|53=>53|3=>3|4=>4|46=>295|5=>5|9=>9|n=>n,fun|n=>n⟩
theorem Tryz.laysLn:Go.Proofs.Lays.n129 Tryz.prog Tryz.laysLn_ren:=by constructor<;>first|kernel_rfl|(intro w;kernel_rfl)
end Go.Proofs
namespace Go.Proofs.YtfebdimolnobaaaGreatDoor
open Go.RowKit Go.Proofs.Tryz
section
variable {P:Program} {ops:Array Oper} {Q:Exit->Act->aw->Prop}
def uU (l:List Bool)(i:Nat)(h:l[i]?=some false):(l.set i true).count false+1=l.count false:=by
 induction l generalizing i with
 |nil=>cases h
 |cons x xs ih=>
  cases i with
  |zero=>simp only[cp,Option.some.injEq]at h;subst h;simp
  |succ i=>
   simp only[co]at h;have q:=ih i h;simp only[aG,List.count_cons];omega
def rj {L:Array Bool}{i:Nat}(h:L.getD i true=false):L.toList[i]?=some false:=by
 rw[bO];rw[Array.getD_eq_getD_getElem?]at h
 cases hq:L[i]? with
 |none=>rw[hq]at h;cases h
 |some x=>rw[hq]at h;exact dS some h
def If (P:Program)(ops:Array Oper)(Q:Exit->Act->aw->Prop)(J:Array Bool->Act->aw->Prop)(i:Nat)(o:Oper):Prop:=
 ∀L a w,J L a w->L.getD i true=false->(o.after.all λe=> !Region.binds .any e||L.getD e.on false)=true->
  ∀K:Act->aw->Prop,Shut (∀a' w',J (L.setIfInBounds i true) a' w'->K a' w')->
   if Region.wanted o (yielded ops a.tmps)=true then Oper.wp P o a w K Q else K (a.put o.dst undef) w
def eV {af:Array Edge}{L:Array Bool}{k:Nat}(hd:(af.all λe=> !Region.binds .any e||L.getD e.on false)=true)(hk:(af.any λe=>Region.binds .any e&&e.on==k)=true):L.getD k false=true:=by
 have⟨i,hi,h⟩:=Array.any_eq_true.1 hk;rw[aQ]at h;have q:=Array.all_eq_true.1 hd i hi;rw[h.1,dA,dy,beq_iff_eq.1 h.2]at q;exact q
def nH (P:Program)(ops:Array Oper)(Q:Exit->Act->aw->Prop)(J:Array Bool->Act->aw->Prop)(k:Nat)(l:List Oper):Prop:=∀j o,l[j]?=some o->If P ops Q J (k+j) o
def nH.nil {J:Array Bool->Act->aw->Prop}{k:Nat}:nH P ops Q J k []:=λj o h=>by cases h
def nH.cons {J:Array Bool->Act->aw->Prop}{k:Nat}{o:Oper}{l:List Oper}(h:If P ops Q J k o)(hs:nH P ops Q J (k+1) l):nH P ops Q J k (o::l):=λj x hx=>by
 cases j with
 |zero=>simp only[cp,Option.some.injEq]at hx;subst hx;exact h
 |succ j=>simp only[co]at hx;have q:=hs j x hx;rwa [Nat.add_right_comm,de]at q
def Mg (ops:Array Oper):Bool:=(List.range ops.size).all λi=>((ops[i]?).map λo=>o.after.all λe=> !Region.binds .any e||decide (e.on<i)).getD true
def Jl (hb:Mg ops=true){L:Array Bool}(h:Region.ready .any ops L= [])(n:Nat):∀i,i<n->i<ops.size->L.getD i true=true:=by
 induction n with
 |zero=>intro i hi;omega
 |succ n ih=>
  intro i hi hl;by_cases hn:i<n;.exact ih i hn hl
  have e:i=n:=Vc;subst e
  cases hg:L.getD i true with
  |true=>rfl
  |false=>
   have hm:i∈Region.ready .any ops L:=(by refine mem_ready.2 ⟨hg,_,bU hl,λe he Vr=> ?_⟩;have q:=cg.1 hb i (List.mem_range.2 hl);rw[bU hl]at q;have q1:=Array.all_eq_true_iff_forall_mem.1 q e he;rw[Vr,dA,dy]at q1;have q2:=of_decide_eq_true q1;have q3:=ih e.on q2 Vc;have q4:e.on<L.size:=(by have q5:=rj hg;rw[bO]at q5;have⟨q6,_⟩:=bI.1 q5;omega);rw[Array.getD_eq_getD_getElem?,bU q4]at q3⊢;exact q3);rw[h]at hm;cases hm
def Jm {L:Array Bool}(h:L.toList.count false=0)(i:Nat):L.getD i true=true:=by
 cases hg:L.getD i true with
 |true=>rfl
 |false=>
  have q:=uU _ _ (rj hg);omega
def Jn {J:Array Bool->Act->aw->Prop}(hb:Mg ops=true)(hs:nH P ops Q J 0 ops.toList)(hd:∀L a w,J L a w->(∀i,i<ops.size->L.getD i true=true)->Q .normal a w):
  ∀(fuel:Nat) (L:Array Bool) (a:Act) (w:aw),L.toList.count false<=fuel->J L a w->wpAny P .any ops Q fuel L a w:=by
 intro fuel
 induction fuel with
 |zero=>
  intro L a w hc hj;refine⟨List.eq_nil_iff_forall_not_mem.2 λi hi=> ?_,hd _ _ _ hj λi _=>Jm Vc i⟩;have q:=uU _ _ (rj (mem_ready.1 hi).1)
  omega
 |succ n ih=>
  intro L a w hc hj;refine⟨λh0=>hd _ _ _ hj λi hi=>Jl hb h0 (i+1) i (Nat.lt_succ_self i) hi,λi hi=> ?_⟩;have⟨h0,o,ho,Vp⟩:=mem_ready.1 hi;have q:=uU _ _ (rj h0);have Vq:=hs i o (by rw[bO];exact ho);rw[Nat.zero_add]at Vq;refine wpOp_step ho λK' hK=>Vq L a w hj h0 ?_ K' λa' w' Vs=>hK a' w' (ih _ a' w' ?_ Vs)
  .rw[Array.all_eq_true_iff_forall_mem];intro e he
   cases hb:Region.binds .any e with
   |false=>rfl
   |true=>simpa using Vp e he hb
  .rw[Array.toList_setIfInBounds];omega
def kD {id:Nat}{a:Act}{w:aw}(J:Array Bool->Act->aw->Prop)(hm:P.follows .mixedOrders=true)(h0:J (Array.replicate ops.size false) a w.drew)
  (hb:Mg ops=true) (hd:∀L a w,J L a w->(∀i,i<ops.size->L.getD i true=true)->Q .normal a w) (hs:nH P ops Q J 0 ops.toList):(Code.region id ops true).wp P Q a w:=
 wp_region_any hm (Jn hb hs hd _ _ _ _ Vd h0)
end
end Go.Proofs.YtfebdimolnobaaaGreatDoor
