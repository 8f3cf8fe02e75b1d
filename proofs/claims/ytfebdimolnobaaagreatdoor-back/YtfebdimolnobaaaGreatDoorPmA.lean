import Derived.Test.YtfebdimolnobaaaGreatDoorRdJ
import Derived.Laws.Bits64b
import Derived.Deep.CutBlock
import Derived.Laws.Bits64
import Derived.Lib.Builder
import Derived.Lib.AppendStr
import Derived.Lib.UnsafeStr
import Derived.Lib.MakeNoZero
import Derived.Shelf.RegionOpenPlain
import Derived.Shelf.Small.Bits
import Derived.Shelf.Strconv.Itoa0
set_option maxRecDepth 100000
set_option maxHeartbeats 8000000
set_option linter.all false
namespace Go.Proofs.YtfebdimolnobaaaGreatDoor
open Go.RowKit Go.Proofs.Tryz
inductive PM where
 |mk (fs:List (Int×List (Int×au×PM))) (unk:au)
abbrev PV:=Int×au×PM
abbrev PF:=Int×List PV
def PM.fs:PM->List PF
 | .mk fs _=>fs
def PM.unk:PM->au
 | .mk _ u=>u
def eS:au:=⟨#[]⟩
def PM.none:PM:= .mk [] eS
def PV.none:PV:=(0,eS,PM.none)
def gN (a b:au):Bool:=a.toList==b.toList
structure fo where
 name:au
 ty:au
 key:au
 how:au
 num:Int
structure MT where
 name:au
 fs:List fo
structure eD where
 ms:List MT
 es:aA
def xA:au:=⟨#[109,97,112]⟩
def Dt:au:=⟨#[114,101,112,101,97,116,101,100]⟩
def lK:au:=⟨#[111,112,116,105,111,110,97,108]⟩
def fo.isMap (f:fo):Bool:=gN f.how xA
def fo.isRep (f:fo):Bool:=gN f.how Dt
def lr:List MT->au->Option MT
 | [],_=>none
 |m::l,s=>if gN m.name s then some m else lr l s
def eD.msg (S:eD)(s:au):Option MT:=lr S.ms s
def oe:au:=⟨#[107,101,121]⟩
def p9:au:=⟨#[118,97,108,117,101]⟩
def eP (f:fo):MT:=⟨eS,[⟨oe,f.key,eS,lK,1⟩,⟨p9,f.ty,eS,lK,2⟩]⟩
def fy (S:eD)(f:fo):Option MT:=if f.isMap then some (eP f)else S.msg f.ty
def d9:List fo->Int->Option fo
 | [],_=>none
 |f::l,n=>if f.num=n then some f else d9 l n
def Df:List (ap)->ap->Nat->Option Nat
 | [],_,_=>none
 |x::l,s,k=>if s==x then some k else Df l s (k+1)
def eD.base (S:eD)(t:au):Nat:=
 match Df mZ t.toList 0 with
 |some k=>k
 |none=>if fi S.es t then 15 else 16
def eJ (k:Nat):Nat:=
 if k<=6 then 0 else if k=8\/k=10\/k=12 then 1 else if k=7\/k=9\/k=11 then 5 else if k=15 then 0 else 2
def eD.wire (S:eD)(t:au):Nat:=eJ (S.base t)
def fV (S:eD)(f:fo):Nat:=if f.isMap then 2 else S.wire f.ty
def mN (n:Int):Int:=if n%4294967296<2147483648 then n%4294967296 else n%4294967296+18446744069414584320
def Dg (v:Int):Int:=if v%2=1 then 18446744073709551615-v/2 else v/2
def lC (k:Nat)(n:Int):Int:=
 if k=0\/k=9\/k=15 then mN n else if k=2 then n%4294967296 else if k=4 then Dg (n%4294967296)else if k=5 then Dg n
 else if k=6 then(if 0<n then 1 else 0)else n
abbrev Fx (α:Type):=Except (Int×Int) α
def mH (b:au)(a e:Nat):Nat->Nat->Int->Fx (Int×Nat)
 |0,_,_=> .error (7,a)
 |f+1,i,n=>
  if a+i<e then
   (
    if i=9/\1<fZ b (a+i)then .error (7,a) else if fZ b (a+i)<128 then .ok (n+fZ b (a+i)%128*2^(7*i),a+i+1) else mH b a e f (i+1) (n+fZ b (a+i)%128*2^(7*i)))
  else .error (6,a)
def iT (b:au)(a e:Nat):Fx (Int×Nat):=mH b a e 10 0 0
def IR (s:au):Nat->Nat->Int
 |0,_=>0
 |f+1,i=>if i<s.size then 256*IR s f (i+1)+fZ s i else 0
def xB (s:au):Int:=IR s s.size 0
structure pK where
 num:Int
 kind:Nat
 a:Nat
 fr:Nat
 e:Nat
 n:Int
def fN (b:au)(a e:Nat):Fx pK:=
 match iT b a e with
 | .error x=> .error x
 | .ok (t,fr)=>
  if t/8<1\/536870911<t/8 then .error (8,a)
  else if t%8=0 then
   match iT b fr e with
   | .error x=> .error x
   | .ok (n,en)=> .ok ⟨t/8,0,a,fr,en,n⟩
  else if t%8=1 then(if fr+8<=e then .ok ⟨t/8,1,a,fr,fr+8,xB (b.extract fr (fr+8))⟩else .error (6,fr))
  else if t%8=5 then(if fr+4<=e then .ok ⟨t/8,5,a,fr,fr+4,xB (b.extract fr (fr+4))⟩else .error (6,fr))
  else if t%8=2 then
   match iT b fr e with
   | .error x=> .error x
   | .ok (n,bh)=>if(bh:Int)+n<=e then .ok ⟨t/8,2,a,bh,bh+n.toNat,0⟩else .error (6,bh)
  else .error (9,a)
def gR:List PF->Int->List PV
 | [],_=> []
 |x::l,n=>if x.1=n then x.2 else gR l n
def PM.get (m:PM)(n:Int):List PV:=gR m.fs n
def ic (n:Int)(l:List PV):Bool->List PF->List PF
 |done,[]=>if done then []else [(n,l)]
 |done,x::r=>
  (if !done&&decide (n<=x.1)then [(n,l)]else [])++((if x.1=n then []else [x])++ic n l (done||decide (n<=x.1)) r)
def PM.put (m:PM)(n:Int)(l:List PV):PM:= .mk (ic n l l.isEmpty m.fs) m.unk
def PM.O (m:PM)(s:au):PM:= .mk m.fs (m.unk++s)
def jm:aA:= [⟨#[105,110,116,51,50]⟩,⟨#[105,110,116,54,52]⟩,⟨#[115,105,110,116,51,50]⟩,⟨#[115,105,110,116,54,52]⟩,⟨#[115,102,105,120,101,100,51,50]⟩,⟨#[115,102,105,120,101,100,54,52]⟩]
def lD:au:=⟨#[115,116,114,105,110,103]⟩
def Du (n:Int):Int:=if n<9223372036854775808 then n else n-2^64
def kN (t:au)(x y:PV):Bool:=
 if gN t lD then Op.bytesLess x.2.1.toList y.2.1.toList else if fi jm t then decide (Du x.1<Du y.1)else decide (x.1<y.1)
def fQ (v:PV):PV:=(v.2.2.get 1).headD PV.none
def iC (x y:PV):Bool:=decide (x.1=y.1)&&gN x.2.1 y.2.1
def gz (t:au)(v:PV):Bool->List PV->List PV
 |done,[]=>if done then []else [v]
 |done,x::r=>
  (if !done&&(kN t (fQ v) (fQ x)||iC (fQ v) (fQ x))then [v]else [])++
   ((if iC (fQ v) (fQ x)then []else [x])++gz t v (done||(kN t (fQ v) (fQ x)||iC (fQ v) (fQ x))) r)
def jV (t:au)(l:List PV)(v:PV):List PV:=gz t v false l
def fT (m:PM)(n:Int):PM:=if(m.get n).isEmpty then m.put n [PV.none]else m
def gA (m:PM):PM:= .mk (fT (fT m 1) 2).fs eS
def pR (S:eD)(d:MT)(deep:Nat):Bool:=
 if !(gN d.name eS)||deep !=8 then decide (8<deep)else
 match d.fs with
 |_::f::_=>(S.msg f.ty).isSome
 |_=>false
def i8 (how:au):Bool:=fZ how 0==46
def iU (f:fo):List fo->PM->PM
 | [],m=>m
 |o::l,m=>iU f l (if gN o.how f.how&&i8 o.how&&decide (o.num≠f.num)then m.put o.num []else m)
def gX (S:eD)(d:MT)(f:fo)(m:PM)(v:PV):PM:=
 if f.isMap then m.put f.num (jV f.key (m.get f.num) (v.1,v.2.1,gA v.2.2))
 else if f.isRep then m.put f.num (m.get f.num++ [v])
 else if gN f.how eS&&(fy S f).isNone&&decide (v.1=0)&&gN v.2.1 eS then m.put f.num []
 else(iU f d.fs m).put f.num [v]
def eY (f:fo)(m:PM):PV:=if f.isRep||f.isMap then PV.none else(m.get f.num).headD PV.none
def JX (s:au):Nat->Nat->Int->Option Int
 |0,_,c=>some c
 |f+1,i,c=>if fZ s i<128\/191<fZ s i then none else JX s f (i+1) (64*c+fZ s i-128)
def Sp (s:au)(n:Nat)(low c:Int):Option Nat:=
 if s.size<n then none else
 match JX s (n-1) 1 c with
 |none=>none
 |some c=>if c<low\/1114111<c\/(55296<=c/\c<=57343)then none else some n
def Tu (s:au):Option Nat:=
 if 240<=fZ s 0 then Sp s 4 65536 (fZ s 0-240)else if 224<=fZ s 0 then Sp s 3 2048 (fZ s 0-224)
 else if 192<=fZ s 0 then Sp s 2 128 (fZ s 0-192)else if 128<=fZ s 0 then none else Sp s 1 0 (fZ s 0)
def Sq:Nat->au->Bool
 |0,_=>true
 |f+1,s=>if s.size=0 then true else
  match Tu s with
  |none=>false
  |some n=>Sq f (s.extract n s.size)
def Te (s:au):Bool:=Sq s.size s
def og (S:eD)(b:au)(f:fo)(r:pK):Fx PV:=
 if r.kind=2 then
  (if gN f.ty lD&& !(Te (b.extract r.fr r.e))then .error (10,r.fr)else .ok (0,b.extract r.fr r.e,PM.none))
 else .ok (lC (S.base f.ty) r.n,eS,PM.none)
def fW (b:au)(k:Nat)(e:Nat):Nat->List PV->Nat->Fx (List PV)
 |0,l,_=> .ok l
 |F+1,l,a=>
  if a<e then
   if eJ k=0 then
    match iT b a e with
    | .error x=> .error x
    | .ok (n,z)=>fW b k e F (l++ [(lC k n,eS,PM.none)]) z
   else
    let z:=if eJ k=5 then 4 else 8
    if a+z<=e then fW b k e F (l++ [(lC k (xB (b.extract a (a+z))),eS,PM.none)]) (a+z)else .error (6,a)
  else .ok l
def mI (S:eD)(b:au)(f:fo)(l:List PV)(a e:Nat):Fx (List PV):=fW b (S.base f.ty) e (e-a) l a
def eW (S:eD)(b:au):Nat->MT->PM->Nat->Nat->Nat->Fx PM
 |0,_,m,_,_,_=> .ok m
 |F+1,d,m,a,e,deep=>
  if a<e then
   match fN b a e with
   | .error x=> .error x
   | .ok r=>
    match d9 d.fs r.num with
    |none=>eW S b F d (m.O (b.extract r.a r.e)) r.e e deep
    |some f=>
     if r.kind=fV S f then
      match fy S f with
      |some sub=>
       if pR S sub (deep+1)then .error (11,r.fr)
       else match eW S b F sub (eY f m).2.2 r.fr r.e (deep+1)with
        | .error x=> .error x
        | .ok sm=>eW S b F d (gX S d f m ((eY f m).1,(eY f m).2.1,sm)) r.e e deep
      |none=>
       match og S b f r with
       | .error x=> .error x
       | .ok v=>eW S b F d (gX S d f m v) r.e e deep
     else if r.kind=2/\f.isRep then
      match mI S b f (m.get f.num) r.fr r.e with
      | .error x=> .error x
      | .ok l=>eW S b F d (m.put f.num l) r.e e deep
     else eW S b F d (m.O (b.extract r.a r.e)) r.e e deep
  else .ok m
def iV (S:eD)(name b:au):Fx PM:=
 match S.msg name with
 |none=> .error (5,0)
 |some d=>eW S b (b.size+1) d PM.none 0 b.size 1
abbrev U4 (x:PV)(a:aC)(c:Nat):aq:= #[.int .u64 x.1,ag x.2.1,.slice a x.2.2.fs.length c,ag x.2.2.unk]
section
open Go.Maps Go.ChangeMaps Go.WideMaps Go.WideElems
def oG (s:ByteArray):ByteArray:=⟨#[46]⟩++s
def rH (o:Option W)(form:Int):ByteArray:=
 match o with
 |some x=>oG x.1
 |none=>if form=0 then eS else if form=1 then lK else if form=2 then Dt else xA
def gW (o:Option W)(f:eU):fo:=⟨f.name.1,f.type.1,jK f.key,rH o f.form,jc f.num.1⟩
structure GF where
 f:fo
 form:Int
 riv:List Int
def jC (f:eU):Int:=jc f.num.1
def qb (p:fI)(f:eU):List Int:=(p.fields.filter λo=>decide (jC o≠jC f)).map jC
def sM (p:fI)(f:eU):GF:=⟨gW p.oneof f,f.form,qb p f⟩
def vm (b:d7):List GF:=b.parts.flatMap λp=>p.fields.map (sM p)
def oh (t:ByteArray):Nat:=(Df mZ t.toList 0).getD 0
def jB (mp:ByteArray->Option Nat)(t:ByteArray):Nat:=if dV t=3 then oh t else if(mp t).isSome then 16 else 15
def zH (mp:ByteArray->Option Nat)(t:ByteArray):Option Nat:=if dV t=3 then none else mp t
def gZ:Option Nat->Value
 |none=> .pointer none
 |some b=> .pointer (some ⟨b,0,none⟩)
def gB (l:List Int):List Value:=l.map (Value.int .i64)
def ng (w:World)(P:Nat->Prop)(mp:ByteArray->Option Nat)(g:GF)(fb:Nat):Prop:=
 ∃rv,dX w fb #[.int .i64 g.f.num,.int .i64 g.form,.int .i64 (jB mp g.f.ty),gZ (zH mp g.f.ty),rv] 220/\P fb/\eO w P 3 1 rv g.riv.length (gB g.riv)
def fx (l:List Nat):List Value:=l.map λb=>gZ (some b)
def lL (s:ByteArray)(t:ByteArray)(n:Int):GF:=⟨⟨s,t,eS,lK,n⟩,1,[]⟩
def mJ (w:World)(P:Nat->Prop)(mp:ByteArray->Option Nat)(key val:ByteArray)(eb:Nat):Prop:=
 ∃fv b1 b2,dX w eb #[.string eS,fv] 108/\P eb/\eO w P 212 1 fv 2 (fx [b1,b2])/\ng w P mp (lL oe key 1) b1/\ng w P mp (lL p9 val 2) b2
def eZ (w:World)(P:Nat->Prop)(mp:ByteArray->Option Nat)(g:GF)(fb:Nat):Prop:=
 if g.form=4 then∃rv eb,dX w fb #[.int .i64 g.f.num,.int .i64 4,.int .i64 16,gZ (some eb),rv] 220/\P fb/\eO w P 3 1 rv g.riv.length (gB g.riv)/\mJ w P mp g.f.key g.f.ty eb
 else ng w P mp g fb
def gp (w:World)(P:Nat->Prop)(mp:ByteArray->Option Nat):List GF->List Nat->Prop
 | [],l=>l= []
 |g::gs,l=>∃b r,l=b::r/\eZ w P mp g b/\gp w P mp gs r
def jh (w:World)(P:Nat->Prop)(mp:ByteArray->Option Nat)(b:Nat)(name:ByteArray)(gs:List GF):Prop:=
 ∃fv Vp,dX w b #[.string name,fv] 108/\P b/\eO w P 212 1 fv Vp.length (fx Vp)/\gp w P mp gs Vp
section
variable {w w':World} {P Q:Nat->Prop} {mp:ByteArray->Option Nat}
def ng.O (hk:∀b,P b->b<w.heap.size->w'.heap[b]?=w.heap[b]?){g:GF}{fb:Nat}(h:ng w P mp g fb):ng w' P mp g fb:=by
 obtain⟨rv,h1,h2,h3⟩:=h;exact⟨rv,(hk fb h2 h1.lt).J h1,h2,h3.O hk⟩
def mJ.O (hk:∀b,P b->b<w.heap.size->w'.heap[b]?=w.heap[b]?){k v:ByteArray}{eb:Nat}(h:mJ w P mp k v eb):mJ w' P mp k v eb:=by
 obtain⟨fv,b1,b2,h1,h2,h3,h4,h5⟩:=h;exact⟨fv,b1,b2,(hk eb h2 h1.lt).J h1,h2,h3.O hk,h4.O hk,h5.O hk⟩
def eZ.O (hk:∀b,P b->b<w.heap.size->w'.heap[b]?=w.heap[b]?){g:GF}{fb:Nat}(h:eZ w P mp g fb):eZ w' P mp g fb:=by
 unfold eZ at h⊢;split at h;.rename_i h0;rw[dP h0];obtain⟨rv,eb,h1,h2,h3,h4⟩:=h;exact⟨rv,eb,(hk fb h2 h1.lt).J h1,h2,h3.O hk,h4.O hk⟩
 .rename_i h0;rw[dO h0];exact ng.O hk h
def gp.O (hk:∀b,P b->b<w.heap.size->w'.heap[b]?=w.heap[b]?):∀{gs:List GF} {l:List Nat},gp w P mp gs l->gp w' P mp gs l
 | [],_,h=>h
 |_::_,_,⟨b,r,h1,h2,h3⟩=>⟨b,r,h1,h2.O hk,gp.O hk h3⟩
def jh.O (hk:∀b,P b->b<w.heap.size->w'.heap[b]?=w.heap[b]?){b:Nat}{name:ByteArray}{gs:List GF}(h:jh w P mp b name gs):jh w' P mp b name gs:=by
 obtain⟨fv,Vp,h1,h2,h3,h4⟩:=h;exact⟨fv,Vp,(hk b h2 h1.lt).J h1,h2,h3.O hk,h4.O hk⟩
def ng.V (hs:∀b,P b->b<w.heap.size->Q b){g:GF}{fb:Nat}(h:ng w P mp g fb):ng w Q mp g fb:=by
 obtain⟨rv,h1,h2,h3⟩:=h;exact⟨rv,h1,hs _ h2 h1.lt,h3.V hs⟩
def mJ.V (hs:∀b,P b->b<w.heap.size->Q b){k v:ByteArray}{eb:Nat}(h:mJ w P mp k v eb):mJ w Q mp k v eb:=by
 obtain⟨fv,b1,b2,h1,h2,h3,h4,h5⟩:=h;exact⟨fv,b1,b2,h1,hs _ h2 h1.lt,h3.V hs,h4.V hs,h5.V hs⟩
def eZ.V (hs:∀b,P b->b<w.heap.size->Q b){g:GF}{fb:Nat}(h:eZ w P mp g fb):eZ w Q mp g fb:=by
 unfold eZ at h⊢;split at h;.rename_i h0;rw[dP h0];obtain⟨rv,eb,h1,h2,h3,h4⟩:=h;exact⟨rv,eb,h1,hs _ h2 h1.lt,h3.V hs,h4.V hs⟩
 .rename_i h0;rw[dO h0];exact ng.V hs h
def gp.V (hs:∀b,P b->b<w.heap.size->Q b):∀{gs:List GF} {l:List Nat},gp w P mp gs l->gp w Q mp gs l
 | [],_,h=>h
 |_::_,_,⟨b,r,h1,h2,h3⟩=>⟨b,r,h1,h2.V hs,gp.V hs h3⟩
def jh.V (hs:∀b,P b->b<w.heap.size->Q b){b:Nat}{name:ByteArray}{gs:List GF}(h:jh w P mp b name gs):jh w Q mp b name gs:=by
 obtain⟨fv,Vp,h1,h2,h3,h4⟩:=h;exact⟨fv,Vp,h1,hs _ h2 h1.lt,h3.V hs,h4.V hs⟩
def gp.len:∀{gs:List GF} {l:List Nat},gp w P mp gs l->l.length=gs.length
 | [],_,h=>by rw[show _= []from h];rfl
 |_::_,_,⟨b,r,h1,_,h3⟩=>by rw[h1];simp[h3.len]
def gp.snoc {g:GF}{b:Nat}(h2:eZ w P mp g b):∀{gs:List GF} {l:List Nat},gp w P mp gs l->gp w P mp (gs++ [g]) (l++ [b])
 | [],_,h=>by rw[show _= []from h];exact⟨b,[],rfl,h2,rfl⟩
 |_::_,_,⟨c,r,h1,h3,h4⟩=>by rw[h1];exact⟨c,r++ [b],rfl,h3,gp.snoc h2 h4⟩
def gp.get:∀{gs:List GF} {l:List Nat},gp w P mp gs l->∀{i:Nat} {g:GF},gs[i]?=some g->∃b,l[i]?=some b/\eZ w P mp g b
 | [],_,_,i,g,h=>by simp at h
 |_::_,_,⟨b,r,h1,h3,h4⟩,0,g,h=>by
  simp at h;subst h;subst h1
  exact⟨b,rfl,h3⟩
 |_::_,_,⟨b,r,h1,h3,h4⟩,i+1,g,h=>by
  subst h1;have⟨c,q1,q2⟩:=h4.get (i:=i) (g:=g) (by simpa using h);exact⟨c,by simpa using q1,q2⟩
end
def gL:Value->Option (DataW Unit×List MemPlace)
 | .pointer none=>some (.lit (.int .i64 (-1)),[])
 | .pointer (some ⟨b,0,none⟩)=>some (.lit (.int .i64 b),[])
 |_=>none
def lM (o:Option Nat):gL (gZ o)=some (.lit (.int .i64 (match o with|some b=>(b:Int)|none=> -1)),[]):=by cases o<;>rfl
def qd {v:Value}{o:Option Nat}{ps:List MemPlace}(h:gL v=some (.lit (.int .i64 (match o with|some b=>(b:Int)|none=> -1)),ps)):v=gZ o:=by
 unfold gL at h;split at h
 .cases o with
  |none=>rfl
  |some b=>simp at h
 .cases o with
  |none=>simp at h
  |some b=>simp at h;have e:=Int.ofNat.inj h.1;subst e;rfl
 .cases h
def oH (o:Option Nat):DataW Unit:= .lit (.int .i64 (match o with|some b=>(b:Int)|none=> -1))
def gq (w:World)(b n:Nat)(mp:ByteArray->Option Nat):Prop:=
 ∃D,w.ownsMap prog 9 gL b n D/\∀s:ByteArray,D.atKey (rF s) (oH none)=oH (mp s)
def jD (mp:ByteArray->Option Nat)(s:ByteArray)(b:Nat):ByteArray->Option Nat:=λt=>if gN t s then some b else mp t
def gq.O {w w':World}{b n:Nat}{mp:ByteArray->Option Nat}(h:gq w b n mp)(hb:w'.heap[b]?=w.heap[b]?):gq w' b n mp:=by
 obtain⟨D,h1,h2⟩:=h;exact⟨D,kZ h1 hb,h2⟩
def gq.lt {w:World}{b n:Nat}{mp:ByteArray->Option Nat}(h:gq w b n mp):b<w.heap.size:=by
 obtain⟨D,h1,h2⟩:=h;exact h1.lt
def gq.made (w:World):gq (w.alloc (.map #[] 0)) w.heap.size 0 (λ_=>none):=
 ⟨_,World.ownsMap_made w prog 9 gL,λ_=>rfl⟩
def GS (s t:ByteArray):rF t=rF s<->gN t s=true:=by
 unfold rF gN;rw[ByteArray.toList_eq,ByteArray.toList_eq];simp
def Oa {D:DataW Unit}{mp:ByteArray->Option Nat}(hm:IsMap D)(h:∀s:ByteArray,D.atKey (rF s) (oH none)=oH (mp s))(s:ByteArray)(b:Nat):
  ∀t:ByteArray,(D.put (rF s) (oH (some b))).atKey (rF t) (oH none)=oH (jD mp s b t):=by
 intro t;unfold jD;by_cases e:gN t s=true;.rw[dP e,(GS s t).2 e];exact atKey_put_same hm (show WideAt.IsKeyLit (rF s)from trivial) _ _
 .rw[dO e,atKey_put_other (λh=>e ((GS s t).1 h))];exact h t
end
section
open Vo
def ee (w:aw)(rb:Nat)(s:au)(a:Nat)(deep:Int):Prop:=dX w rb #[ag s,aa a,aa deep] 244
def Kn (w:aw)(s:au):Calls prog 84 #[ag s] w λe w'=>e= .returned (ah w.heap.size)/\w'=w.alloc (.cells #[ag s,aa 0,aa 1] 244):=by
 go_in
 go_wp2;go_ret;exact⟨rfl,rfl⟩
def sf (w:aw)(rb:Nat)(s:au)(a:Nat)(deep:Int)(h:ee w rb s a deep):Calls prog 129 #[ah rb] w λe w'=>e= .returned (.bool (decide (a<s.size)))/\∃q,w'=w.drewN q:=by
 have e0:decide (a<s.size)=decide ((a:Int)<(s.size:Int)):=by rw[cy];simp
 rw[e0];have⟨k1,k2⟩:=dX.I h;go_in
 go_wp2;go_quiet (fail);go_wp2;go_ret;exact⟨rfl,nq,rfl⟩
def Sr (w:aw)(rb:Nat)(s:au)(a:Nat)(deep:Int)(h:ee w rb s a deep):Calls prog 130 #[ah rb] w λe w'=>e= .returned (aa a)/\w'=w:=by
 have⟨k1,k2⟩:=dX.I h;go_in
 go_wp2;go_ret;exact⟨rfl,rfl⟩
def wA (w:aw)(rb:Nat)(s:au)(a:Nat)(deep:Int)(st:Nat)(h:ee w rb s a deep)(h1:st<=a)(h2:a<=s.size):
  Calls prog 136 #[ah rb,aa st] w λe w'=>e= .returned (ag (s.extract st a))/\∃q,w'=w.drewN q:=by
 have⟨k1,k2⟩:=dX.I h;go_in
 go_wp2;go_quiet (fail);go_wp2;go_ret;exact⟨rfl,nq,rfl⟩
def Fo (w:aw)(rb:Nat)(s:au)(a:Nat)(deep:Int)(h:ee w rb s a deep)(h2:a<=s.size):
  Calls prog 272 #[ah rb] w λe w'=>e= .returned (ag (s.extract a s.size))/\∃q,w'=w.drewN q:=by
 have⟨k1,k2⟩:=dX.I h;go_in
 go_wp2;go_quiet (fail);go_wp2;go_ret;exact⟨rfl,nq,rfl⟩
end
def Tryz.info102:(prog.info? 102).map (λi=>(i.zero,i.size,i.bytes))=some (some (.agg #[U7,aa 0]),2,24):=Vh
def mP (w:aw)(a b:Value)(t:TypeId):∀j u,[a,b][j]?=some u->(w.alloc (.cells #[a,b] t)).cell? (((aj w.heap.size 0):Addr).add j)=some u:=by
 intro j u hj
 match j,hj with
 |0,hj=>simp at hj;subst hj;simp[Addr.add]
 |1,hj=>simp at hj;subst hj;simp[Addr.add]
 |j+2,hj=>simp at hj
def ec.G {bs:aB}{a b c:aw}(h:ec bs a b)(k:Below b.heap.size b c):ec bs a c:=h.J (ec.oB k)
def ec.drewN {bs:aB}{a b:aw}(h:ec bs a b)(n:Nat):ec bs a (b.drewN n):=h.J ⟨rfl,rfl,rfl,aE _,λ_ _ _=>rfl⟩
def dX.kept {w w1:aw}{bs:aB}{b:Nat}{cs:aq}{T:TypeId}(h:dX w b cs T)(hk:ec bs w w1)(hn:b∉bs):dX w1 b cs T:=(hk.block b h.lt hn).J h
def kO (t:au)(k:Nat):0<=fZ t k/\fZ t k<256:=by
 unfold fZ;split;.rename_i h;have:=t[k].toNat_lt;omega
 .omega
def Ar (i:Nat):(2:Int)^(7*(i+1))=128*2^(7*i):=by
 rw[show 7*(i+1)=7*i+7 from by omega,Int.pow_add];omega
def xG {i j:Nat}(h:i<=j):(2:Int)^i<=2^j:=by
 have:=du (n:=2) Vf h
 exact_mod_cast this
def BF {i:Nat}{n c:Int}(h0:0<=n)(h1:n<2^(7*i)):0<=n+c%128*2^(7*i)/\n+c%128*2^(7*i)<2^(7*(i+1)):=by
 have hp:(0:Int)<2^(7*i):=Int.pow_pos Vf;have h2:0<=c%128:=Int.emod_nonneg _ Vf;have h3:c%128<=127:=by have:=Int.emod_lt_of_pos c (show(0:Int)<128 by decide);omega
 rw[Ar];generalize(2:Int)^(7*i)=q at*;have h4:0<=c%128*q:=Int.mul_nonneg h2 Vc;have h5:c%128*q<=127*q:=Int.mul_le_mul_of_nonneg_right h3 Vc;omega
def gD {c:Int}(h0:0<=c)(h1:c<2^64):IntKind.u64.wrap c=c:=by
 simp[IntKind.wrap,IntKind.signed,IntKind.bits];omega
def Ko {b:au}{a e:Nat}:∀f i n m z,mH b a e f i n= .ok (m,z)->i+f=10->0<=n->n<2^(7*i)->0<=m/\m<2^64/\a+i<z/\z<=e
 |0,i,n,m,z,h,_,_,_=>by simp[mH]at h
 |f+1,i,n,m,z,h,hi,h0,h1=>by
  rw[mH]at h;split at h
  .rename_i hlt;split at h;.simp at h
   .rename_i h9;have hg:=BF (i:=i) (c:=fZ b (a+i)) h0 h1;split at h
    .rename_i hc;simp only[Except.ok.injEq,Prod.mk.injEq]at h;obtain⟨rfl,rfl⟩:=h;refine⟨hg.1,?_,Vc,Vc⟩;by_cases hi9:i=9
     .subst hi9;have hr:=kO b (a+9);have hc2:¬1<fZ b (a+9):=λh=>h9 ⟨rfl,h⟩
      simp only[Nat.reduceMul,Int.reducePow]at h1⊢;omega
     .have h2:(2:Int)^(7*(i+1))<=2^63:=xG Vc;have h3:=hg.2;omega
    .have⟨q0,q1,q2,q3⟩:=Ko f (i+1) _ m z h Vc hg.1 hg.2;exact⟨q0,q1,Vc,q3⟩
  .simp at h
def jj {b:au}{a e:Nat}{m:Int}{z:Nat}(h:iT b a e= .ok (m,z)):0<=m/\m<2^64/\a<z/\z<=e:=by
 have:=Ko 10 0 0 m z h rfl Vc Vf;simpa using this
section
variable {b:au} {a e fr:Nat} {t:Int}
end
def IV (s:au)(k:Nat):Int:=IR s (s.size-k) k
def Hd {s:au}{k:Nat}(h:¬k<s.size):IV s k=0:=by
 unfold IV;rw[show s.size-k=0 from by omega];rfl
def DK {s:au}{k:Nat}(h:k<s.size):IV s k=256*IV s (k+1)+fZ s k:=by
 unfold IV;rw[show s.size-k=(s.size-(k+1))+1 from by omega,IR,dP h]
def ut (s:au):∀d k,s.size-k=d->0<=IV s k/\IV s k<256^d
 |0,k,h=>by rw[Hd Vc];decide
 |d+1,k,h=>by
  have hk:k<s.size:=Vc;have:=ut s d (k+1) Vc;have hb:=kO s k;rw[DK hk,Int.pow_succ];omega
def uw {s:au}(h:s.size<=8):0<=xB s/\xB s<2^64:=by
 have h1:=ut s _ 0 rfl;have e:IV s 0=xB s:=rfl;rw[e]at h1;refine⟨h1.1,Int.lt_of_lt_of_le h1.2 ?_⟩;have:=du (n:=256) (i:=s.size-0) (j:=8) Vf Vc;have h2:=Int.ofNat_le.2 this;have e8:((256^8:Nat):Int)=2^64:=Vf;rw[e8]at h2;exact h2
def dX.new1 (w:aw)(o:Obj)(cs:aq)(T:TypeId):dX ((w.alloc o).alloc (.cells cs T)) (w.heap.size+1) cs T:=by
 have h:=dX.new (w.alloc o) cs T;have e:(w.alloc o).heap.size=w.heap.size+1:=Vd;rw[e]at h;exact h
def fH (w:aw)(B b:Nat)(p:Value)(l:ap):Prop:=Lib.BuilderAt 285 5 B b p (Lib.byteCells l) w
abbrev eE (b:Nat):Value:=ah b
def AL:(prog.info? 5).map (λi=>(i.zero,i.size,i.bytes))=some (some (.int .u8 0),1,1):=Vh
def Eh:(prog.info? 283).map (·.size)=some 2:=Vh
def LQ:liesAt prog prog.depth 285 (2/prog.cellsOf 285) 0 283 1=true:=Vh
structure Wr (B:Nat)(w w':aw):Prop where
 bel:Below B w w'
 fr:∀i cs T,T≠5->T≠285->dX w i cs T->dX w' i cs T
def Wr.refl (B:Nat)(w:aw):Wr B w w:=⟨Below.refl _ _,λ_ _ _ _ _ h=>h⟩
def Wr.J {B:Nat}{a b c:aw}(h:Wr B a b)(k:Wr B b c):Wr B a c:=⟨h.bel.J k.bel,λi cs T q1 q2 q=>k.fr i cs T q1 q2 (h.fr i cs T q1 q2 q)⟩
def Wr.of {B:Nat}{w w':aw}(h:ak w w')(hB:B<=w.heap.size):Wr B w w':=
 ⟨⟨h.os,h.tape,h.output,h.size,λi hi=>h.block i Vc⟩,λ_ _ _ _ _ q=>q.G h q.lt⟩
def LR {w:aw}{B n k:Nat}{v:Value}{xs:ay}{e T:TypeId}{i:Nat}{cs:aq}(h:w.ownsRow B e k v n xs)(hT:T≠e)(hb:dX w i cs T):some i≠v.ownBlock:=by
 rcases h.2 with⟨rfl,_⟩|⟨g,cap,VD,rfl,_,hg,_⟩;.intro q;cases q
 .intro q;obtain rfl:i=g:=Option.some.inj q;unfold dX at hb;rw[hg]at hb;injection hb with hb
  injection hb with _ h2 _
  exact hT h2.sy
def LS {w:aw}{b i:Nat}{cs cs':aq}{T T':TypeId}(h:dX w b cs T)(h':dX w i cs' T')(hT:T'≠T):b≠i:=by
 rintro rfl;unfold dX at h h';rw[h]at h';injection h' with h'
 injection h' with _ h2 _
 exact hT h2.sy
def yy (b:Nat)(w:aw)(h0:w.cell? (aj b 0)=some (eE b)):
  Calls prog 228 #[eE b] w λe w'=>e= .returned (.tuple #[])/\w'=w:=by
 have⟨j,hj,_⟩:=bi.1 Eh;go_in
 go_wp2;rw[Lib.run_neq_ptr_same w _ underlying281 hj];go_wp2;go_end0;exact⟨rfl,rfl⟩
def Ei (b:Nat)(w:aw)(h0:w.cell? (aj b 0)=some (.pointer none))(hsh:w.shape? b=some (285,2))(hfz:w.frozen? (aj b 0)=false):
  Calls prog 228 #[eE b] w λe w'=>e= .returned (.tuple #[])/\w'=w.setCell (aj b 0) (eE b):=by
 have⟨j,hj,VE⟩:=bi.1 Eh;go_in
 go_wp2;rw[Lib.run_to_unsafe w (aj b 0) underlying281 underlying322 hj (by rw[VE];decide) hsh (Nat.zero_lt_succ 1)];simp only[Result.andThen];rw[Oper.upon_value];go_wp2;rw[run_callFunc_extern func313 Vh Vh Vh (e:=Extern.AbiNoEscape.same) Vh];rw[Lib.run_noEscape];simp only[Result.andThen];rw[Oper.upon_value];go_wp2;rw[Lib.run_from_unsafe w (aj b 0) underlying322 underlying281 hj hsh LQ];simp only[Result.andThen];rw[Oper.upon_value];go_wp2;go_end0;exact⟨rfl,rfl⟩
def Ej (B b:Nat)(l:ap)(c:UInt8)(w:aw)(h:fH w B b (eE b) l)(hlen:l.length+1<=2^47)(hBw:B<=w.heap.size):
  Calls prog 391 #[eE b,.int .u8 c.toNat] w λe w'=>e= .returned .nilIface/\fH w' B b (eE b) (l++ [c])/\Wr B w w':=by
 have⟨i0,hi,Vx,Vy,Vz⟩:=info_parts AL;obtain⟨hB,v,Vr,Vs,VA⟩:=h;have c0:w.cell? (aj b 0)=some (eE b):=by rw[Lib.cell_of_heap Vr];rfl
 have c1:w.cell? (aj b 1)=some v:=by rw[Lib.cell_of_heap Vr];rfl
 have Vw:(Lib.byteCells l).length=l.length:=Lib.byteCells_length l;go_in
 go_wp2_with fail;refine(yy b w c0).V ?_;rintro e w1 ⟨rfl,rfl⟩;go_wp2_with (at_builtin;refine wpList_append_own _ rfl _ _ 140 rfl B 5 i0 (.int .u8 0) 1 1 underlying140 hi Vx Vy Vz rfl Vf _ _ _ rfl (Vs.alloc _) (aj w1.heap.size 0) 1 1 [.int .u8 c.toNat] rfl rfl ?c1 ?c2 ?c3 ?c4 ?c5 ?_)
 case c1=>
  intro j u hj
  match j,hj with
  |0,hj=>simp at hj;subst hj;simp[Addr.add]
 case c2=>intro u hu;simp at hu;subst hu;rfl
 case c3=>unfold maxLen;omega
 case c4=>omega
 case c5=>simp;omega
 intro v' w2 Vq Vp _;have Vu:b<w1.heap.size:=dX.lt Vr;have Vt:w2.heap[b]?=some (.cells #[eE b,v] 285 (0,0)):=(by rw[Vp.block b Ve (λe=>VA e.sy),Lib.alloc_old w1 _ b Vu];exact Vr);have d0:w2.cell? (aj b 0)=some (eE b):=by rw[Lib.cell_of_heap Vt];rfl
 have d1:w2.cell? (aj b 1)=some v:=by rw[Lib.cell_of_heap Vt];rfl
 have f1:w2.frozen? (aj b 1)=false:=Lib.frozen_of_heap Vt 1
 obtain⟨g,cap,rfl⟩:∃g cap,v'= U9 g (l.length+1) cap:=by
  rcases Vq.2 with⟨_,h0⟩|⟨g,cap,VD,hv,_⟩;.omega
  .exact⟨g,cap,hv⟩
 go_wp2;go_ret;refine⟨rfl,?_,?_⟩;.unfold fH;rw[Lib.byteCells_append];exact Lib.BuilderAt.put (T:=285) (e:=5) hB Vt (bs':=Lib.byteCells l++Lib.byteCells [c]) (by simpa [Lib.byteCells,Vw]using Vq) Vf
 .exact⟨(((Below.refl B _).alloc Vc _).grown Vp Ve (λk hk=>(Vs.lt k hk).1)).setCell (p:=(aj b 1)) hB _,λi cs T q1 q2 q=>((q.alloc _).grown Vp (LR Vs q1 q)).other _ _ (LS Vr q q2)⟩
def zY (B b:Nat)(l:ap)(s:au)(w:aw)(h:fH w B b (eE b) l)(hlen:l.length+s.size<=2^47)(hBw:B<=w.heap.size):
  Calls prog 237 #[eE b,ag s] w λe w'=>e= .returned (.tuple #[aa s.size,.nilIface])/\fH w' B b (eE b) (l++s.data.toList)/\Wr B w w':=by
 have⟨i0,hi,Vx,Vy,Vz⟩:=info_parts AL;obtain⟨hB,v,Vr,Vs,VA⟩:=h;have c0:w.cell? (aj b 0)=some (eE b):=by rw[Lib.cell_of_heap Vr];rfl
 have c1:w.cell? (aj b 1)=some v:=by rw[Lib.cell_of_heap Vr];rfl
 have Vw:(Lib.byteCells l).length=l.length:=Lib.byteCells_length l;go_in
 go_wp2_with fail;refine(yy b w c0).V ?_;rintro e w1 ⟨rfl,rfl⟩;go_wp2_with (at_builtin;refine Lib.wpList_append_own_string _ rfl _ _ 140 9 rfl B 5 i0 underlying140 underlying9 hi Vx Vy Vz _ _ _ rfl Vs s rfl ?c3 ?c4 ?c5 ?_)
 case c3=>unfold maxLen;omega
 case c4=>omega
 case c5=>omega
 intro v' w2 Vq Vp _;have Vu:b<w1.heap.size:=dX.lt Vr;have Vt:w2.heap[b]?=some (.cells #[eE b,v] 285 (0,0)):=(by rw[Vp.block b Vu (λe=>VA e.sy)];exact Vr);have d0:w2.cell? (aj b 0)=some (eE b):=by rw[Lib.cell_of_heap Vt];rfl
 have d1:w2.cell? (aj b 1)=some v:=by rw[Lib.cell_of_heap Vt];rfl
 have f1:w2.frozen? (aj b 1)=false:=Lib.frozen_of_heap Vt 1
 obtain⟨ao,n',cap,rfl⟩:∃ao n' cap,v'= .slice ao n' cap:=by
  rcases Vq.2 with⟨hv,_⟩|⟨g,cap,VD,hv,_⟩;.exact⟨_,_,_,hv⟩
  .exact⟨_,_,_,hv⟩
 go_wp2;go_ret2;refine⟨rfl,?_,?_⟩;.unfold fH;rw[Lib.byteCells_append];exact Lib.BuilderAt.put (T:=285) (e:=5) hB Vt (bs':=Lib.byteCells l++Lib.strCells s) (by simpa [Lib.strCells_length,Vw]using Vq) Vf
 .exact⟨((Below.refl B _).grown Vp Vc (λk hk=>(Vs.lt k hk).1)).setCell (p:=(aj b 1)) hB _,λi cs T q1 q2 q=>(q.grown Vp (LR Vs q1 q)).other _ _ (LS Vr q q2)⟩
def QR (B b n:Nat)(w:aw)(hB:B<=b)(Vr:dX w b #[eE b,ai] 285)(hBw:B<=w.heap.size)(hn:n<=2^47):
  Calls prog 229 #[eE b,aa n] w λe w'=>e= .returned (.tuple #[])/\fH w' B b (eE b) []/\Below B w w':=by
 have mixed:prog.follows Departure.mixedOrders=true:=Vh;have⟨cs,VB,hle,VC⟩:=Lib.run_makeNoZero (P:=prog) w.drew #[3] 140 5 underlying140 n Vc;have hw:IntKind.i64.wrap (IntKind.i64.wrap 0+(n:Int))=n:=(by rw[IntKind.wrap_i64,IntKind.wrap_i64];omega);have hcall:(callFunc 314 #[aa (IntKind.i64.wrap (IntKind.i64.wrap 0+(n:Int)))]).run prog w.drew= .ok (.value (U9 w.drew.heap.size n cs.size)) (w.drew.drew.drew.alloc (.cells cs 5)):=(by rw[hw,run_callFunc_extern func314 Vh Vh Vh (e:=Extern.BytealgMakeNoZero.makeNoZero #[3] #[140]) Vh,VB];rfl);have Vu:=Vr.lt;have c1:w.drew.cell? (aj b 1)=some (ai):=Vr.cell 1;have k2:dX (w.alloc (.cells cs 5)) b #[eE b,ai] 285:=Vr.alloc _;have c2:(w.alloc (.cells cs 5)).cell? (aj b 1)=some (ai):=k2.cell 1;have f2:(w.alloc (.cells cs 5)).frozen? (aj b 1)=false:=k2.I.2 1
 have hcopy:∀W:aw,(Builtin.copy_ #[140,140] 3 #[U9 w.heap.size 0 cs.size,ai]).run prog W= .ok (goInt 0) W:=
  λW=>run_copy_none W 140 140 3 5 _ _ 0 cs.size 0 0 underlying140 Vh rfl
 clear hw;have Vv:=Lib.grown_fresh (T:=285) (e:=5) (cs:=cs) hB Vr hBw (VC Vj) Vf;rw[World.setCell_alloc_past _ _ _ _ Vu]at Vv;go_in
 go_wp2;go_region_o
 all_goals (go_wp2;go_end0;exact⟨rfl,Vv⟩)
end Go.Proofs.YtfebdimolnobaaaGreatDoor
namespace Go.Proofs
open Go.Shelf
def Tryz.laysLn_ren:Go.Shelf.Ren:=⟨fun|129=>255|n=>n,fun|53=>53|3=>3|4=>4|46=>295|5=>5|9=>9|n=>n,fun|n=>n⟩
theorem Tryz.laysLn:Go.Proofs.Lays.n129 Tryz.prog Tryz.laysLn_ren:=by constructor<;>first|kernel_rfl|(intro w;kernel_rfl)
end Go.Proofs
namespace Go.Proofs.YtfebdimolnobaaaGreatDoor
open Go.RowKit Go.Proofs.Tryz
end Go.Proofs.YtfebdimolnobaaaGreatDoor
