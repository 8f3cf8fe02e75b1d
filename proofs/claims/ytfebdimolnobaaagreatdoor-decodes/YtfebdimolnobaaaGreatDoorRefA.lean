import Derived.Test.YtfebdimolnobaaaGreatDoorRdI
import Derived.BigQuiet
import Derived.Laws.Bits64b
import Derived.Deep.CutBlock
import Derived.Laws.Bits64
import Derived.Laws.BytesArg
import Derived.ArgAppend
set_option maxRecDepth 100000
set_option maxHeartbeats 8000000
set_option linter.all false
namespace Go.Proofs.YtfebdimolnobaaaGreatDoor
open Go.RowKit Go.Proofs.Tryz
def Hc (l:aA)(s:au)(r:Int):Prop:=if eC l s then 0<=r else r= -1
def zl (x:au)(l:aA)(s:au):eC (x::l) s=(x.toList==s.toList||eC l s):=rfl
def MD (w:aw)(lo:Nat)(v:Value)(l:aA)(s:au)(hlen:l.length<=4000)(a:w.ownsRow lo 9 1 v l.length (eh l)):
  Calls prog 41 #[v,ae s] w λe w'=>(∃r,e= .returned (aa r)/\Hc l s r)/\w'=w:=by
 obtain⟨p,u,t,rfl⟩:=dO a;have m:=d9 a;subst m;go_in
 go_wp2;go_loop [5] (λi=>∃k:Nat,k<=l.length/\Hid (eC l s=eC (l.drop k) s)/\i=aa k) (λi=>l.length-(intOf i).toNat)
 case atStart=>exact⟨0,aM _,rfl,rfl⟩
 case round=>
  obtain⟨k,o,c,rfl⟩:=hrel;by_cases hlt:k<l.length
  .have⟨x,f⟩:=gx hlt;have h:l.drop k=x::l.drop (k+1):=(by rw[aS hlt];rw[aP hlt]at f;rw[Option.some.inj f]);obtain⟨g,rfl,_,n,j⟩:=dV a Te;have q:=j w rfl k (ae x) (by simp[eh,f]);have d:Hid (eC l s=(x.toList==s.toList||eC (l.drop (k+1)) s)):=by rw[<-zl,<-h];exact c
   clear j h c f a;cases he:(x.toList==s.toList)
   .have b:Hid (eC l s=eC (l.drop (k+1)) s):=by have:=d.o;rw[he]at this;exact this
    clear d;go_wp2;go_round
    case rel=>exact⟨k+1,Te,b,by go_num⟩
    case measure=>simp[intOf];omega
   .have b:Hid (eC l s=true):=by have:=d.o;rw[he]at this;exact this
    clear d;go_wp2;go_ret;exact⟨⟨_,rfl,by unfold Hc;rw[b.o];simp⟩,rfl⟩
  .have b:Hid (eC l s=false):=(by have:=c.o;rw[ci.2 Te]at this;exact this);clear c;go_wp2;go_ret;exact⟨⟨_,rfl,by unfold Hc;rw[b.o];simp⟩,rfl⟩
def BU:aA:=lA.map λl=>⟨l.toArray⟩
def O1:aA:=Mo.map λl=>⟨l.toArray⟩
def Fv (ls:List (an)):(ls.map λl=>(⟨l.toArray⟩:au)).map ByteArray.toList=ls:=by
 rw[bI]
 conv=>rhs;rw[<-List.map_id ls]
 congr 1;funext l;simp[ByteArray.toList_eq]
def AB (s:au):eC BU s=ip s.toList:=by
 have:eC BU s=(BU.map ByteArray.toList).contains s.toList:=(by unfold eC;rw[List.contains_eq_any_beq,List.any_map];congr 1;funext x;simp[Bool.beq_comm]);rw[this,BU,Fv];rfl
def ME (s:au):eC O1 s=qW s.toList:=by
 have:eC O1 s=(O1.map ByteArray.toList).contains s.toList:=(by unfold eC;rw[List.contains_eq_any_beq,List.any_map];congr 1;funext x;simp[Bool.beq_comm]);rw[this,O1,Fv];rfl
def Ry (w:aw):
  Calls prog 128 #[] w λe w'=>∃v,e= .returned v/\w'.ownsRow w.heap.size 9 1 v BU.length (eh BU)/\aj w w':=by
 go_in
 go_wp2;go_ret;exact⟨_,rfl,⟨rfl,.inr ⟨_,15,_,rfl,aD _,heap_alloc_new w _,Th,Th,rfl,rfl⟩⟩,(Below.refl _ _).alloc (aD _) _⟩
def SI (w:aw):
  Calls prog 181 #[] w λe w'=>∃v,e= .returned v/\w'.ownsRow w.heap.size 9 1 v O1.length (eh O1)/\aj w w':=by
 go_in
 go_wp2;go_ret;exact⟨_,rfl,⟨rfl,.inr ⟨_,6,_,rfl,aD _,heap_alloc_new w _,Th,Th,rfl,rfl⟩⟩,(Below.refl _ _).alloc (aD _) _⟩
def Hc.lt {l:aA}{s:au}{r:Int}(h:Hc l s r):decide (r<0)= !eC l s:=by
 unfold Hc at h;cases hm:eC l s<;>rw[hm]at h<;>simp at h⊢<;>omega
def Hc.ge {l:aA}{s:au}{r:Int}(h:Hc l s r):decide (0<=r)=eC l s:=by
 unfold Hc at h;cases hm:eC l s<;>rw[hm]at h<;>simp at h⊢<;>omega
def lY (s:au):(s.toList== [])=decide (s.size=0):=by
 have a:s.toList.length=s.size:=by rw[ByteArray.toList_eq];rfl
 rw[bV];simp only[beq_iff_eq,decide_eq_true_eq];rw[<-List.length_eq_zero_iff,a]
def Fw {c:Int}(h:ww c=true):lM c=false:=by
 simp[ww]at h;simp[lM];omega
def wJ (s:au):(dN s==1)=(!decide (s.size=0)&&(ww (fR s 0)&&(!ip s.toList&& !qW s.toList))):=by
 unfold dN iP;by_cases h0:s.size=0;.simp[h0]
 .cases h1:ww (fR s 0);.cases h2:lM (fR s 0)<;>simp[h0]
  .rw[Fw h1];cases h3:qW s.toList<;>cases h4:ip s.toList<;>simp[h0]
def Hd (s:au):(dN s==2)=(!decide (s.size=0)&&lM (fR s 0)):=by
 unfold dN iP;by_cases h0:s.size=0;.simp[h0]
 .cases h2:lM (fR s 0);.cases h1:ww (fR s 0)<;>cases h3:qW s.toList<;>cases h4:ip s.toList<;>simp[h0]
  .simp[h0]
def wK (s:au):(dN s==3)=ip s.toList:=by
 cases h4:ip s.toList
 .unfold dN iP;by_cases h0:s.size=0;.simp[h0]
  .cases h1:ww (fR s 0)<;>cases h2:lM (fR s 0)<;>cases h3:qW s.toList<;>simp[h0,h4]
 .have b:s=⟨s.toList.toArray⟩:=by rw[ByteArray.toList_eq]
  have a:s.toList∈lA:=by simpa [ip]using h4
  have:∀l∈lA,(dN ⟨l.toArray⟩==3)=true:=Ti;rw[b];exact this _ a
inductive PM where
 |mk (fs:List (Int×List (Int×au×PM))) (unk:au)
abbrev PV:=Int×au×PM
abbrev PF:=Int×List PV
def PM.fs:PM->List PF
 | .mk fs _=>fs
def PM.unk:PM->au
 | .mk _ u=>u
def eS:au:=⟨#[]⟩
def PM.none:PM:= .mk [] eS
def PV.none:PV:=(0,eS,PM.none)
def gP (a b:au):Bool:=a.toList==b.toList
structure fB where
 name:au
 ty:au
 key:au
 how:au
 num:Int
structure MT where
 name:au
 fs:List fB
structure eE where
 ms:List MT
 es:aA
def AC:au:=⟨#[109,97,112]⟩
def MF:au:=⟨#[114,101,112,101,97,116,101,100]⟩
def nK:au:=⟨#[111,112,116,105,111,110,97,108]⟩
def fB.isMap (f:fB):Bool:=gP f.how AC
def fB.isRep (f:fB):Bool:=gP f.how MF
def jG:List MT->au->Option MT
 | [],_=>none
 |m::l,s=>if gP m.name s then some m else jG l s
def eE.msg (S:eE)(s:au):Option MT:=jG S.ms s
def oe:au:=⟨#[107,101,121]⟩
def qZ:au:=⟨#[118,97,108,117,101]⟩
def eX (f:fB):MT:=⟨eS,[⟨oe,f.key,eS,nK,1⟩,⟨qZ,f.ty,eS,nK,2⟩]⟩
def fS (S:eE)(f:fB):Option MT:=if f.isMap then some (eX f)else S.msg f.ty
def ei:List fB->Int->Option fB
 | [],_=>none
 |f::l,n=>if f.num=n then some f else ei l n
def vg:List (an)->an->Nat->Option Nat
 | [],_,_=>none
 |x::l,s,k=>if s==x then some k else vg l s (k+1)
def eE.base (S:eE)(t:au):Nat:=
 match vg lA t.toList 0 with
 |some k=>k
 |none=>if eC S.es t then 15 else 16
def ed (k:Nat):Nat:=
 if k<=6 then 0 else if k=8\/k=10\/k=12 then 1 else if k=7\/k=9\/k=11 then 5 else if k=15 then 0 else 2
def eE.wire (S:eE)(t:au):Nat:=ed (S.base t)
def ff (S:eE)(f:fB):Nat:=if f.isMap then 2 else S.wire f.ty
def vh (n:Int):Int:=if n%4294967296<2147483648 then n%4294967296 else n%4294967296+18446744069414584320
def IV (v:Int):Int:=if v%2=1 then 18446744073709551615-v/2 else v/2
def jc (k:Nat)(n:Int):Int:=
 if k=0\/k=9\/k=15 then vh n else if k=2 then n%4294967296 else if k=4 then IV (n%4294967296)else if k=5 then IV n
 else if k=6 then(if 0<n then 1 else 0)else n
abbrev Fx (α:Type):=Except (Int×Int) α
def wL (b:au)(a e:Nat):Nat->Nat->Int->Fx (Int×Nat)
 |0,_,_=> .error (7,a)
 |f+1,i,n=>
  if a+i<e then
   (
    if i=9/\1<fR b (a+i)then .error (7,a) else if fR b (a+i)<128 then .ok (n+fR b (a+i)%128*2^(7*i),a+i+1) else wL b a e f (i+1) (n+fR b (a+i)%128*2^(7*i)))
  else .error (6,a)
def j8 (b:au)(a e:Nat):Fx (Int×Nat):=wL b a e 10 0 0
def Qw (s:au):Nat->Nat->Int
 |0,_=>0
 |f+1,i=>if i<s.size then 256*Qw s f (i+1)+fR s i else 0
def vi (s:au):Int:=Qw s s.size 0
structure pO where
 num:Int
 kind:Nat
 a:Nat
 fr:Nat
 e:Nat
 n:Int
def jj (b:au)(a e:Nat):Fx pO:=
 match j8 b a e with
 | .error x=> .error x
 | .ok (t,fr)=>
  if t/8<1\/536870911<t/8 then .error (8,a)
  else if t%8=0 then
   match j8 b fr e with
   | .error x=> .error x
   | .ok (n,d)=> .ok ⟨t/8,0,a,fr,d,n⟩
  else if t%8=1 then(if fr+8<=e then .ok ⟨t/8,1,a,fr,fr+8,vi (b.extract fr (fr+8))⟩else .error (6,fr))
  else if t%8=5 then(if fr+4<=e then .ok ⟨t/8,5,a,fr,fr+4,vi (b.extract fr (fr+4))⟩else .error (6,fr))
  else if t%8=2 then
   match j8 b fr e with
   | .error x=> .error x
   | .ok (n,c)=>if(c:Int)+n<=e then .ok ⟨t/8,2,a,c,c+n.toNat,0⟩else .error (6,c)
  else .error (9,a)
def io:List PF->Int->List PV
 | [],_=> []
 |x::l,n=>if x.1=n then x.2 else io l n
def PM.get (m:PM)(n:Int):List PV:=io m.fs n
def gY (n:Int)(l:List PV):Bool->List PF->List PF
 |done,[]=>if done then []else [(n,l)]
 |done,x::r=>
  (if !done&&decide (n<=x.1)then [(n,l)]else [])++((if x.1=n then []else [x])++gY n l (done||decide (n<=x.1)) r)
def PM.put (m:PM)(n:Int)(l:List PV):PM:= .mk (gY n l l.isEmpty m.fs) m.unk
def PM.O (m:PM)(s:au):PM:= .mk m.fs (m.unk++s)
def jD:aA:= [⟨#[105,110,116,51,50]⟩,⟨#[105,110,116,54,52]⟩,⟨#[115,105,110,116,51,50]⟩,⟨#[115,105,110,116,54,52]⟩,⟨#[115,102,105,120,101,100,51,50]⟩,⟨#[115,102,105,120,101,100,54,52]⟩]
def og:au:=⟨#[115,116,114,105,110,103]⟩
def AD (n:Int):Int:=if n<9223372036854775808 then n else n-2^64
def kL (t:au)(x y:PV):Bool:=
 if gP t og then Op.bytesLess x.2.1.toList y.2.1.toList else if eC jD t then decide (AD x.1<AD y.1)else decide (x.1<y.1)
def fJ (v:PV):PV:=(v.2.2.get 1).headD PV.none
def lP (x y:PV):Bool:=decide (x.1=y.1)&&gP x.2.1 y.2.1
def gq (t:au)(v:PV):Bool->List PV->List PV
 |done,[]=>if done then []else [v]
 |done,x::r=>
  (if !done&&(kL t (fJ v) (fJ x)||lP (fJ v) (fJ x))then [v]else [])++
   ((if lP (fJ v) (fJ x)then []else [x])++gq t v (done||(kL t (fJ v) (fJ x)||lP (fJ v) (fJ x))) r)
def iF (t:au)(l:List PV)(v:PV):List PV:=gq t v false l
def fM (m:PM)(n:Int):PM:=if(m.get n).isEmpty then m.put n [PV.none]else m
def fY (m:PM):PM:= .mk (fM (fM m 1) 2).fs eS
def ng (S:eE)(d:MT)(deep:Nat):Bool:=
 if !(gP d.name eS)||deep !=8 then decide (8<deep)else
 match d.fs with
 |_::f::_=>(S.msg f.ty).isSome
 |_=>false
def iL (how:au):Bool:=fR how 0==46
def iG (f:fB):List fB->PM->PM
 | [],m=>m
 |o::l,m=>iG f l (if gP o.how f.how&&iL o.how&&decide (o.num≠f.num)then m.put o.num []else m)
def g9 (S:eE)(d:MT)(f:fB)(m:PM)(v:PV):PM:=
 if f.isMap then m.put f.num (iF f.key (m.get f.num) (v.1,v.2.1,fY v.2.2))
 else if f.isRep then m.put f.num (m.get f.num++ [v])
 else if gP f.how eS&&(fS S f).isNone&&decide (v.1=0)&&gP v.2.1 eS then m.put f.num []
 else(iG f d.fs m).put f.num [v]
def eP (f:fB)(m:PM):PV:=if f.isRep||f.isMap then PV.none else(m.get f.num).headD PV.none
def pP (s:au):Nat->Nat->Int->Option Int
 |0,_,c=>some c
 |f+1,i,c=>if fR s i<128\/191<fR s i then none else pP s f (i+1) (64*c+fR s i-128)
def wM (s:au)(n:Nat)(low c:Int):Option Nat:=
 if s.size<n then none else
 match pP s (n-1) 1 c with
 |none=>none
 |some c=>if c<low\/1114111<c\/(55296<=c/\c<=57343)then none else some n
def Ee (s:au):Option Nat:=
 if 240<=fR s 0 then wM s 4 65536 (fR s 0-240)else if 224<=fR s 0 then wM s 3 2048 (fR s 0-224)
 else if 192<=fR s 0 then wM s 2 128 (fR s 0-192)else if 128<=fR s 0 then none else wM s 1 0 (fR s 0)
def BX:Nat->au->Bool
 |0,_=>true
 |f+1,s=>if s.size=0 then true else
  match Ee s with
  |none=>false
  |some n=>BX f (s.extract n s.size)
def Qx (s:au):Bool:=BX s.size s
def rg (S:eE)(b:au)(f:fB)(r:pO):Fx PV:=
 if r.kind=2 then
  (if gP f.ty og&& !(Qx (b.extract r.fr r.e))then .error (10,r.fr)else .ok (0,b.extract r.fr r.e,PM.none))
 else .ok (jc (S.base f.ty) r.n,eS,PM.none)
def gy (b:au)(k:Nat)(e:Nat):Nat->List PV->Nat->Fx (List PV)
 |0,l,_=> .ok l
 |F+1,l,a=>
  if a<e then
   if ed k=0 then
    match j8 b a e with
    | .error x=> .error x
    | .ok (n,z)=>gy b k e F (l++ [(jc k n,eS,PM.none)]) z
   else
    let z:=if ed k=5 then 4 else 8
    if a+z<=e then gy b k e F (l++ [(jc k (vi (b.extract a (a+z))),eS,PM.none)]) (a+z)else .error (6,a)
  else .ok l
def ln (S:eE)(b:au)(f:fB)(l:List PV)(a e:Nat):Fx (List PV):=gy b (S.base f.ty) e (e-a) l a
def fj (S:eE)(b:au):Nat->MT->PM->Nat->Nat->Nat->Fx PM
 |0,_,m,_,_,_=> .ok m
 |F+1,d,m,a,e,deep=>
  if a<e then
   match jj b a e with
   | .error x=> .error x
   | .ok r=>
    match ei d.fs r.num with
    |none=>fj S b F d (m.O (b.extract r.a r.e)) r.e e deep
    |some f=>
     if r.kind=ff S f then
      match fS S f with
      |some sub=>
       if ng S sub (deep+1)then .error (11,r.fr)
       else match fj S b F sub (eP f m).2.2 r.fr r.e (deep+1)with
        | .error x=> .error x
        | .ok c=>fj S b F d (g9 S d f m ((eP f m).1,(eP f m).2.1,c)) r.e e deep
      |none=>
       match rg S b f r with
       | .error x=> .error x
       | .ok v=>fj S b F d (g9 S d f m v) r.e e deep
     else if r.kind=2/\f.isRep then
      match ln S b f (m.get f.num) r.fr r.e with
      | .error x=> .error x
      | .ok l=>fj S b F d (m.put f.num l) r.e e deep
     else fj S b F d (m.O (b.extract r.a r.e)) r.e e deep
  else .ok m
def kO (S:eE)(name b:au):Fx PM:=
 match S.msg name with
 |none=> .error (5,0)
 |some d=>fj S b (b.size+1) d PM.none 0 b.size 1
abbrev S5 (x:PV)(a:aC)(c:Nat):aq:= #[.int .u64 x.1,ae x.2.1,.slice a x.2.2.fs.length c,ae x.2.2.unk]
section
open Go.Maps Go.ChangeMaps Go.WideMaps Go.WideElems
def rh (s:ByteArray):ByteArray:=⟨#[46]⟩++s
def lp (o:Option W)(form:Int):ByteArray:=
 match o with
 |some x=>rh x.1
 |none=>if form=0 then eS else if form=1 then nK else if form=2 then MF else AC
def iD (o:Option W)(f:ek):fB:=⟨f.name.1,f.type.1,jp f.key,lp o f.form,gV f.num.1⟩
structure GF where
 f:fB
 form:Int
 riv:List Int
def iY (f:ek):Int:=gV f.num.1
def pQ (p:ft)(f:ek):List Int:=(p.fields.filter λo=>decide (iY o≠iY f)).map iY
def sF (p:ft)(f:ek):GF:=⟨iD p.oneof f,f.form,pQ p f⟩
def uA (b:dS):List GF:=b.parts.flatMap λp=>p.fields.map (sF p)
def rN (t:ByteArray):Nat:=(vg lA t.toList 0).getD 0
def jd (mp:ByteArray->Option Nat)(t:ByteArray):Nat:=if dN t=3 then rN t else if(mp t).isSome then 16 else 15
def yJ (mp:ByteArray->Option Nat)(t:ByteArray):Option Nat:=if dN t=3 then none else mp t
def gR:Option Nat->Value
 |none=> .pointer none
 |some b=> .pointer (some ⟨b,0,none⟩)
def gA (l:List Int):List Value:=l.map (Value.int .i64)
def mo (w:World)(P:Nat->Prop)(mp:ByteArray->Option Nat)(g:GF)(fb:Nat):Prop:=
 ∃rv,dP w fb #[.int .i64 g.f.num,.int .i64 g.form,.int .i64 (jd mp g.f.ty),gR (yJ mp g.f.ty),rv] 220/\P fb/\d5 w P 3 1 rv g.riv.length (gA g.riv)
def fh (l:List Nat):List Value:=l.map λb=>gR (some b)
def lF (s:ByteArray)(t:ByteArray)(n:Int):GF:=⟨⟨s,t,eS,nK,n⟩,1,[]⟩
def lQ (w:World)(P:Nat->Prop)(mp:ByteArray->Option Nat)(key val:ByteArray)(eb:Nat):Prop:=
 ∃fv b1 b2,dP w eb #[.string eS,fv] 108/\P eb/\d5 w P 212 1 fv 2 (fh [b1,b2])/\mo w P mp (lF oe key 1) b1/\mo w P mp (lF qZ val 2) b2
def eR (w:World)(P:Nat->Prop)(mp:ByteArray->Option Nat)(g:GF)(fb:Nat):Prop:=
 if g.form=4 then∃rv eb,dP w fb #[.int .i64 g.f.num,.int .i64 4,.int .i64 16,gR (some eb),rv] 220/\P fb/\d5 w P 3 1 rv g.riv.length (gA g.riv)/\lQ w P mp g.f.key g.f.ty eb
 else mo w P mp g fb
def gj (w:World)(P:Nat->Prop)(mp:ByteArray->Option Nat):List GF->List Nat->Prop
 | [],l=>l= []
 |g::gs,l=>∃b r,l=b::r/\eR w P mp g b/\gj w P mp gs r
def jX (w:World)(P:Nat->Prop)(mp:ByteArray->Option Nat)(b:Nat)(name:ByteArray)(gs:List GF):Prop:=
 ∃fv Tr,dP w b #[.string name,fv] 108/\P b/\d5 w P 212 1 fv Tr.length (fh Tr)/\gj w P mp gs Tr
section
variable {w w':World} {P Q:Nat->Prop} {mp:ByteArray->Option Nat}
def mo.O (hk:∀b,P b->b<w.heap.size->w'.heap[b]?=w.heap[b]?){g:GF}{fb:Nat}(h:mo w P mp g fb):mo w' P mp g fb:=by
 obtain⟨e,a,c,d⟩:=h;exact⟨e,(hk fb c a.lt).J a,c,d.O hk⟩
def lQ.O (hk:∀b,P b->b<w.heap.size->w'.heap[b]?=w.heap[b]?){k v:ByteArray}{eb:Nat}(h:lQ w P mp k v eb):lQ w' P mp k v eb:=by
 obtain⟨f,d,e,a,c,g,i,j⟩:=h;exact⟨f,d,e,(hk eb c a.lt).J a,c,g.O hk,i.O hk,j.O hk⟩
def eR.O (hk:∀b,P b->b<w.heap.size->w'.heap[b]?=w.heap[b]?){g:GF}{fb:Nat}(h:eR w P mp g fb):eR w' P mp g fb:=by
 unfold eR at h⊢;split at h;.rename_i a;rw[dH a];obtain⟨j,e,c,d,f,i⟩:=h;exact⟨j,e,(hk fb d c.lt).J c,d,f.O hk,i.O hk⟩
 .rename_i a;rw[dG a];exact mo.O hk h
def gj.O (hk:∀b,P b->b<w.heap.size->w'.heap[b]?=w.heap[b]?):∀{gs:List GF} {l:List Nat},gj w P mp gs l->gj w' P mp gs l
 | [],_,h=>h
 |_::_,_,⟨b,r,h1,h2,h3⟩=>⟨b,r,h1,h2.O hk,gj.O hk h3⟩
def jX.O (a:∀b,P b->b<w.heap.size->w'.heap[b]?=w.heap[b]?){b:Nat}{name:ByteArray}{gs:List GF}(h:jX w P mp b name gs):jX w' P mp b name gs:=by
 obtain⟨f,e,c,d,g,i⟩:=h;exact⟨f,e,(a b d c.lt).J c,d,g.O a,i.O a⟩
def mo.V (hs:∀b,P b->b<w.heap.size->Q b){g:GF}{fb:Nat}(h:mo w P mp g fb):mo w Q mp g fb:=by
 obtain⟨e,a,c,d⟩:=h;exact⟨e,a,hs _ c a.lt,d.V hs⟩
def lQ.V (hs:∀b,P b->b<w.heap.size->Q b){k v:ByteArray}{eb:Nat}(h:lQ w P mp k v eb):lQ w Q mp k v eb:=by
 obtain⟨e,c,d,a,f,g,i,j⟩:=h;exact⟨e,c,d,a,hs _ f a.lt,g.V hs,i.V hs,j.V hs⟩
def eR.V (hs:∀b,P b->b<w.heap.size->Q b){g:GF}{fb:Nat}(h:eR w P mp g fb):eR w Q mp g fb:=by
 unfold eR at h⊢;split at h;.rename_i a;rw[dH a];obtain⟨j,d,c,e,f,i⟩:=h;exact⟨j,d,c,hs _ e c.lt,f.V hs,i.V hs⟩
 .rename_i a;rw[dG a];exact mo.V hs h
def gj.V (hs:∀b,P b->b<w.heap.size->Q b):∀{gs:List GF} {l:List Nat},gj w P mp gs l->gj w Q mp gs l
 | [],_,h=>h
 |_::_,_,⟨b,r,h1,h2,h3⟩=>⟨b,r,h1,h2.V hs,gj.V hs h3⟩
def jX.V (a:∀b,P b->b<w.heap.size->Q b){b:Nat}{name:ByteArray}{gs:List GF}(h:jX w P mp b name gs):jX w Q mp b name gs:=by
 obtain⟨e,d,c,f,g,i⟩:=h;exact⟨e,d,c,a _ f c.lt,g.V a,i.V a⟩
def gj.len:∀{gs:List GF} {l:List Nat},gj w P mp gs l->l.length=gs.length
 | [],_,h=>by rw[show _= []from h];rfl
 |_::_,_,⟨b,r,h1,_,h3⟩=>by rw[h1];simp[h3.len]
def gj.snoc {g:GF}{b:Nat}(a:eR w P mp g b):∀{gs:List GF} {l:List Nat},gj w P mp gs l->gj w P mp (gs++ [g]) (l++ [b])
 | [],_,h=>by rw[show _= []from h];exact⟨b,[],rfl,a,rfl⟩
 |_::_,_,⟨c,r,h1,h3,h4⟩=>by rw[h1];exact⟨c,r++ [b],rfl,h3,gj.snoc a h4⟩
def gj.get:∀{gs:List GF} {l:List Nat},gj w P mp gs l->∀{i:Nat} {g:GF},gs[i]?=some g->∃b,l[i]?=some b/\eR w P mp g b
 | [],_,_,i,g,h=>by simp at h
 |_::_,_,⟨b,r,h1,h3,h4⟩,0,g,h=>by
  simp at h;subst h;subst h1
  exact⟨b,rfl,h3⟩
 |_::_,_,⟨b,r,h1,h3,h4⟩,i+1,g,h=>by
  subst h1;have⟨c,a,d⟩:=h4.get (i:=i) (g:=g) (by simpa using h);exact⟨c,by simpa using a,d⟩
end
def gG:Value->Option (DataW Unit×List MemPlace)
 | .pointer none=>some (.lit (.int .i64 (-1)),[])
 | .pointer (some ⟨b,0,none⟩)=>some (.lit (.int .i64 b),[])
 |_=>none
def kS (o:Option Nat):gG (gR o)=some (.lit (.int .i64 (match o with|some b=>(b:Int)|none=> -1)),[]):=by cases o<;>rfl
def pR {v:Value}{o:Option Nat}{ps:List MemPlace}(h:gG v=some (.lit (.int .i64 (match o with|some b=>(b:Int)|none=> -1)),ps)):v=gR o:=by
 unfold gG at h;split at h
 .cases o with
  |none=>rfl
  |some b=>simp at h
 .cases o with
  |none=>simp at h
  |some b=>simp at h;have e:=Int.ofNat.inj h.1;subst e;rfl
 .cases h
def oh (o:Option Nat):DataW Unit:= .lit (.int .i64 (match o with|some b=>(b:Int)|none=> -1))
def gk (w:World)(b n:Nat)(mp:ByteArray->Option Nat):Prop:=
 ∃D,w.ownsMap prog 9 gG b n D/\∀s:ByteArray,D.atKey (qX s) (oh none)=oh (mp s)
def iZ (mp:ByteArray->Option Nat)(s:ByteArray)(b:Nat):ByteArray->Option Nat:=λt=>if gP t s then some b else mp t
def gk.O {w w':World}{b n:Nat}{mp:ByteArray->Option Nat}(h:gk w b n mp)(d:w'.heap[b]?=w.heap[b]?):gk w' b n mp:=by
 obtain⟨D,a,c⟩:=h;exact⟨D,kh a d,c⟩
def gk.lt {w:World}{b n:Nat}{mp:ByteArray->Option Nat}(h:gk w b n mp):b<w.heap.size:=by
 obtain⟨D,a,c⟩:=h;exact a.lt
def gk.made (w:World):gk (w.alloc (.map #[] 0)) w.heap.size 0 (λ_=>none):=
 ⟨_,World.ownsMap_made w prog 9 gG,λ_=>rfl⟩
def Fy (s t:ByteArray):qX t=qX s<->gP t s=true:=by
 unfold qX gP;rw[ByteArray.toList_eq,ByteArray.toList_eq];simp
def MG {D:DataW Unit}{mp:ByteArray->Option Nat}(hm:IsMap D)(h:∀s:ByteArray,D.atKey (qX s) (oh none)=oh (mp s))(s:ByteArray)(b:Nat):
  ∀t:ByteArray,(D.put (qX s) (oh (some b))).atKey (qX t) (oh none)=oh (iZ mp s b t):=by
 intro t;unfold iZ;by_cases e:gP t s=true;.rw[dH e,(Fy s t).2 e];exact atKey_put_same hm (show WideAt.IsKeyLit (qX s)from trivial) _ _
 .rw[dG e,atKey_put_other (λh=>e ((Fy s t).1 h))];exact h t
end
section
open Go.Maps
open Tq
def sG (w:aw)(f:ek)(h:jL f.num.1)(d:gV f.num.1<=536870911)(a:GOK w):
  Calls prog 109 #[.agg (FC f)] w λe w'=>e= .returned (aa (iY f))/\aj w w':=by
 have b:=(Tb w).alloc (aD _) (FO f);have wr:IntKind.i64.wrap (gV f.num.1:Int)=(gV f.num.1:Int):=by simp[IntKind.wrap,IntKind.bits,IntKind.signed];omega
 unfold iY;go_in
 go_wp2_with fail;refine(Rl _ _ _ _ h (a.O (Below.l _ _ _ a.lt))).V ?_;rintro e w1 ⟨rfl,c⟩;go_wp2;go_ret;exact⟨rfl,b.J (c.V Tf)⟩
def BOK (w:aw):Prop:=∀i v,(BU.map Value.string)[i]?=some v->w.cell? (ai 0 i)=some v
def BOK.lt {w:aw}(h:BOK w):0<w.heap.size:=aZ _ _ (h 0 _ rfl)
def BOK.O {w w':aw}(h:BOK w)(a:w'.heap[0]?=w.heap[0]?):BOK w':=by
 intro i v b;rw[<-h i v b];unfold World.cell?;rw[a]
def pS (s:au):Nat->Nat
 |0=>0
 |k+1=>if((BU.getD k eS).toList==s.toList)then k else pS s k
def IW (k:Nat)(x:au)(h:BU[k]?=some x)(w:aw):(Instr.index 427 (.agg #[ae ⟨#[105,110,116,51,50]⟩,ae ⟨#[105,110,116,54,52]⟩,ae ⟨#[117,105,110,116,51,50]⟩,ae ⟨#[117,105,110,116,54,52]⟩,ae ⟨#[115,105,110,116,51,50]⟩,ae ⟨#[115,105,110,116,54,52]⟩,ae ⟨#[98,111,111,108]⟩,ae ⟨#[102,105,120,101,100,51,50]⟩,ae ⟨#[102,105,120,101,100,54,52]⟩,ae ⟨#[115,102,105,120,101,100,51,50]⟩,ae ⟨#[115,102,105,120,101,100,54,52]⟩,ae ⟨#[102,108,111,97,116]⟩,ae ⟨#[100,111,117,98,108,101]⟩,ae ⟨#[115,116,114,105,110,103]⟩,ae ⟨#[98,121,116,101,115]⟩]) (aa (k:Int))).run prog w= .ok (ae x) w:=by
 have a:k<15:=by
  by_cases h':k<15;.exact h'
  .rw[bi (by show 15<=k;omega)]at h;cases h
 rcases(show k=0\/k=1\/k=2\/k=3\/k=4\/k=5\/k=6\/k=7\/k=8\/k=9\/k=10\/k=11\/k=12\/k=13\/k=14 from by omega)with rfl|rfl|rfl|rfl|rfl|rfl|rfl|rfl|rfl|rfl|rfl|rfl|rfl|rfl|rfl
 all_goals
  obtain rfl:=Option.some.inj h;change _=_;kernel_rfl
def IX (w:aw)(s:au)(a:BOK w):
  Calls prog 245 #[ae s] w λe w'=>e= .returned (aa (pS s 15))/\w'=w:=by
 have g:=a 0 _ rfl;have h:=a 1 _ rfl;have j:=a 2 _ rfl;have m:=a 3 _ rfl;have n:=a 4 _ rfl;have c5:=a 5 _ rfl;have c6:=a 6 _ rfl;have c7:=a 7 _ rfl;have o:=a 8 _ rfl;have c9:=a 9 _ rfl;have QE:=a 10 _ rfl;have c:=a 11 _ rfl;have d:=a 12 _ rfl;have QC:=a 13 _ rfl;have QB:=a 14 _ rfl;go_in
 go_wp2;clear g h j m n c5 c6 c7 o c9 QE c d QC QB;go_loopw [3,7] (λv i wr=>∃(k:Nat),k<=15/\i=aa k/\v=aa (pS s k)/\w=wr) (λ_ i _=>15-(intOf i).toNat)
 case atStart=>exact⟨0,aM _,rfl,rfl,rfl⟩
 case round=>
  obtain⟨k,q,rfl,rfl,rfl⟩:=hrel;by_cases hlt:k<15
  .have⟨x,b⟩:=gx (l:=BU) (show k<BU.length from hlt);have e:pS s (k+1)=if x.toList==s.toList then k else pS s k:=by rw[pS,cD,b];rfl
   have p:=IW k x b;have f:(k:Int)<15:=Te;clear b;cases hc:(x.toList==s.toList)
   .rw[hc,dG Tf]at e;go_wp2;go_roundw
    case rel=>exact⟨k+1,Te,rfl,by rw[e],trivial⟩
    case measure=>simp[intOf];omega
   .rw[hc,dH rfl]at e;go_wp2;go_roundw
    case rel=>exact⟨k+1,Te,rfl,by rw[e],trivial⟩
    case measure=>simp[intOf];omega
  .have f:decide ((k:Int)<15)=false:=Tg;obtain rfl:k=15:=Te;go_wp2;go_ret;exact⟨rfl,rfl⟩
end
section
open Tq
def d6 (w:aw)(rb:Nat)(s:au)(a:Nat)(deep:Int):Prop:=dP w rb #[ae s,aa a,aa deep] 244
def Ow (w:aw)(s:au):Calls prog 84 #[ae s] w λe w'=>e= .returned (ag w.heap.size)/\w'=w.alloc (.cells #[ae s,aa 0,aa 1] 244):=by
 go_in
 go_wp2;go_ret;exact⟨rfl,rfl⟩
def tN (w:aw)(rb:Nat)(s:au)(a:Nat)(deep:Int)(h:d6 w rb s a deep):Calls prog 129 #[ag rb] w λe w'=>e= .returned (.bool (decide (a<s.size)))/\∃q,w'=w.drewN q:=by
 have b:decide (a<s.size)=decide ((a:Int)<(s.size:Int)):=by rw[bV];simp
 rw[b];have⟨c,d⟩:=dP.I h;go_in
 go_wp2;go_quiet (fail);go_wp2;go_ret;exact⟨rfl,nq,rfl⟩
def QN (w:aw)(rb:Nat)(s:au)(a:Nat)(deep:Int)(h:d6 w rb s a deep):Calls prog 130 #[ag rb] w λe w'=>e= .returned (aa a)/\w'=w:=by
 have⟨b,c⟩:=dP.I h;go_in
 go_wp2;go_ret;exact⟨rfl,rfl⟩
def vL (w:aw)(rb:Nat)(s:au)(a:Nat)(deep:Int)(st:Nat)(h:d6 w rb s a deep)(h1:st<=a)(b:a<=s.size):
  Calls prog 136 #[ag rb,aa st] w λe w'=>e= .returned (ae (s.extract st a))/\∃q,w'=w.drewN q:=by
 have⟨c,d⟩:=dP.I h;go_in
 go_wp2;go_quiet (fail);go_wp2;go_ret;exact⟨rfl,nq,rfl⟩
def Ej (w:aw)(rb:Nat)(s:au)(a:Nat)(deep:Int)(h:d6 w rb s a deep)(b:a<=s.size):
  Calls prog 272 #[ag rb] w λe w'=>e= .returned (ae (s.extract a s.size))/\∃q,w'=w.drewN q:=by
 have⟨c,d⟩:=dP.I h;go_in
 go_wp2;go_quiet (fail);go_wp2;go_ret;exact⟨rfl,nq,rfl⟩
end
def Rz (w:aw)(s:au):
  Calls prog 125 #[ae s] w λe w'=>e= .returned (.bool (dN s==1))/\aj w w':=by
 rw[wJ];go_in
 go_wp2_with fail;refine(Ry w).V ?_;rintro e w1 ⟨n,rfl,g,f⟩;go_wp2_with fail;refine(MD w1 _ n BU s Th g).V ?_;rintro e w2 ⟨⟨r,rfl,h⟩,rfl⟩;go_wp2_with fail;refine(SI w2).V ?_;rintro e w3 ⟨o,rfl,i,j⟩;go_wp2_with fail;refine(MD w3 _ o O1 s Th i).V ?_;rintro e p ⟨⟨t,rfl,k⟩,rfl⟩;have b:=h.lt;have d:=k.lt;rw[AB]at b;rw[ME]at d;have a:=lY s;have c:aj w p:=f.J (j.V f.size);clear g i f j h k;by_cases h0:s.size=0
 .have l:(s.toList== [])=true:=by rw[a];simp[h0]
  clear a b d;go_wp2;go_ret;exact⟨im (by simp[h0]),c⟩
 .have l:(s.toList== [])=false:=by rw[a];simp[h0]
  have m:0<s.size:=Te;have q:=gX m;clear a;cases h2:ww (fR s 0)
  .clear b d;go_wp2_with (go_at_call 72;refine(IF _ _).V ?_;rintro e w' ⟨rfl,rfl⟩)
   go_ret;exact⟨im (by simp[h2]),c⟩
  .cases h3:ip s.toList
   .cases h4:qW s.toList
    .rw[h3]at b;rw[h4]at d;go_wp2_with (go_at_call 72;refine(IF _ _).V ?_;rintro e w' ⟨rfl,rfl⟩)
     go_ret;exact⟨im (by simp[h0,h2,h3,h4]),c⟩
    .rw[h3]at b;rw[h4]at d;go_wp2_with (go_at_call 72;refine(IF _ _).V ?_;rintro e w' ⟨rfl,rfl⟩)
     go_ret;exact⟨im (by simp[h4]),c⟩
   .rw[h3]at b;go_wp2_with (go_at_call 72;refine(IF _ _).V ?_;rintro e w' ⟨rfl,rfl⟩)
    go_ret;exact⟨im (by simp[h3]),c⟩
def SJ (w:aw)(s:au):
  Calls prog 126 #[ae s] w λe w'=>e= .returned (.bool (dN s==2))/\w'=w:=by
 rw[Hd];have a:=lY s;by_cases h0:s.size=0
 .have b:(s.toList== [])=true:=by rw[a];simp[h0]
  clear a;go_in
  go_wp2;go_ret;exact⟨im (by simp[h0]),rfl⟩
 .have b:(s.toList== [])=false:=by rw[a];simp[h0]
  have c:0<s.size:=Te;have d:=gX c;clear a;go_in
  go_wp2_with (go_at_call 73;refine(Mn _ _).V ?_;rintro e w' ⟨rfl,rfl⟩)
  go_ret;exact⟨im (by simp[h0]),rfl⟩
def SK (w:aw)(s:au):
  Calls prog 127 #[ae s] w λe w'=>e= .returned (.bool (dN s==3||dN s==1))/\aj w w':=by
 rw[wK];go_in
 go_wp2_with fail;refine(Rz w s).V ?_;rintro e w1 ⟨rfl,a⟩;cases h1:(dN s==1);.go_wp2_with fail;refine(Ry w1).V ?_;rintro e w2 ⟨h,rfl,b,d⟩;go_wp2_with fail;refine(MD w2 _ h BU s Th b).V ?_;rintro e w3 ⟨⟨i,rfl,c⟩,rfl⟩;have g:=c.ge;rw[AB]at g;have f:aj w w3:=a.J (d.V a.size);clear b a d c;go_wp2;go_ret;exact⟨im (by simp at h1;simp[h1]),f⟩
 .go_wp2;go_ret;exact⟨im (by simp at h1;simp[h1]),a⟩
def vm (s:au):Nat->Nat->Int->Int
 |0,_,n=>n
 |f+1,k,n=>if k<s.size then(if 10*n+(fR s k-48)%256>1099511627776 then 1099511627776 else vm s f (k+1) (10*n+(fR s k-48)%256))else n
def iR (s:au):Int:=vm s s.size 0 0
def Jc {s:au}{f k:Nat}{n:Int}(h:¬k<s.size):vm s f k n=n:=by
 cases f<;>simp[vm,h]
def Sc (w:aw)(s:au)(p:s.size<=2000):
  Calls prog 81 #[ae s] w λe w'=>e= .returned (aa (iR s))/\w'=w:=by
 go_in
 go_wp2;go_loop [3,4] (λx i=>∃(f k:Nat) (n:Int),k<=s.size/\s.size-k<=f/\0<=n/\n<=1099511627776/\Hid (vm s f k n=iR s)/\x=aa n/\i=aa k) (λ_ i=>s.size-(intOf i).toNat)
 case atStart=>exact⟨s.size,0,0,Te,Te,Te,Te,rfl,rfl,rfl⟩
 case round=>
  obtain⟨f,k,n,m,l,h,j,b,rfl,rfl⟩:=hrel;by_cases hlt:k<s.size
  .have c:=gX hlt
   cases f with
   |zero=>omega
   |succ f=>
   have d:0<=(fR s k-48)%256:=Int.emod_nonneg _ Th;have g:(fR s k-48)%256<256:=Int.emod_lt_of_pos _ Th;by_cases hc:10*n+(fR s k-48)%256>1099511627776;.have a:Hid (iR s=1099511627776):=(by have:=b.o;rw[vm,dH hlt,dH hc]at this;exact this.sy);go_wp2;go_ret;exact⟨rJ a.o.sy,rfl⟩
   .have a:Hid (vm s f (k+1) (10*n+(fR s k-48)%256)=iR s):=(by have:=b.o;rw[vm,dH hlt,dG hc]at this;exact this);go_wp2;go_round
    case rel=>exact⟨f,k+1,_,Te,Te,Te,Te,a,by go_num,by go_num⟩
    case measure=>simp[intOf];omega
  .have a:Hid (iR s=n):=by rw[<-b.o,Jc hlt];rfl
   go_wp2;go_ret;exact⟨rJ a.o.sy,rfl⟩
def Cy (x:W):ay:= [ae x.1,aa x.2]
def FE (x:W):(Cy x).length=2:=rfl
def Tryz.info102:(prog.info? 102).map (λi=>(i.zero,i.size,i.bytes))=some (some (.agg #[S8,aa 0]),2,24):=Tj
def lU (w:aw)(a b:Value)(t:TypeId):∀j u,[a,b][j]?=some u->(w.alloc (.cells #[a,b] t)).cell? (((ai w.heap.size 0):Addr).add j)=some u:=by
 intro j u c
 match j,c with
 |0,c=>simp at c;subst c;simp[Addr.add]
 |1,c=>simp at c;subst c;simp[Addr.add]
 |j+2,c=>simp at c
def FF (t:au)(w:aw)(a:t.size<=2000):
  Calls prog 38 #[ae t] w λe w'=>∃v,e= .returned v/\w'.ownsRow w.heap.size 102 2 v (eB t).length ((eB t).flatMap Cy)/\aj w w':=by
 have⟨O,N,J,K,L⟩:=info_parts Tryz.info102;go_in
 go_wp2;go_loopw [3,4] (λv a wr=>∃(n k:Nat) (pre:List W),k<=t.size/\t.size-k<=n/\pre.length<=k/\Hid (pre++jT t n k=yH t)/\a=aa k/\wr.ownsRow w.heap.size 102 2 v pre.length (pre.flatMap Cy)/\aj w wr) (λ_ i _=>t.size-(intOf i).toNat)
 case atStart=>exact⟨t.size,0,[],Te,Te,Tf,rfl,rfl,aX _ _ _ _,Below.refl _ _⟩
 case round=>
  obtain⟨n,k,pre,a,I,Y,A,rfl,p,f⟩:=hrel;by_cases hlt:k<t.size
  .have U:=gX hlt;by_cases hg:fR t k=32
   .have h:Cg (fR t k)=true:=by simp[Cg,hg]
    have⟨m,s,g⟩:=wz I hlt h;have l:Hid (pre++jT t m (k+1)=yH t):=(by have:=A.o;rw[g]at this;simpa [Hid]using this);clear g h;go_wp2;go_roundw
    case rel=>exact⟨m,k+1,pre,Te,s,Te,l,by go_num,p,f⟩
    case measure=>simp[intOf];omega
   by_cases hg2:fR t k=10
   .have h:Cg (fR t k)=true:=by simp[Cg,hg2]
    have⟨m,s,g⟩:=wz I hlt h;have l:Hid (pre++jT t m (k+1)=yH t):=(by have:=A.o;rw[g]at this;simpa [Hid]using this);clear g h;go_wp2;go_roundw
    case rel=>exact⟨m,k+1,pre,Te,s,Te,l,by go_num,p,f⟩
    case measure=>simp[intOf];omega
   have h:Cg (fR t k)=false:=by simp[Cg,hg,hg2]
   have V:=oM t k hlt;have⟨m,s,g⟩:=zj I hlt h;have l:Hid ((pre++ [(t.extract k (ic t k),k)])++jT t m (ic t k)=yH t):=(by have:=A.o;rw[g]at this;simpa [Hid]using this);clear g h;have X:(fR t k==10)=false:=by simp[hg2]
   obtain⟨S,h1⟩:∃b,ww (fR t k)=b:=⟨_,rfl⟩;obtain⟨M,C⟩:∃b,lM (fR t k)=b:=⟨_,rfl⟩;go_upto_block 2 with(first|(go_at_call 72;refine(IF _ _).V ?_;rintro e w' ⟨rfl,rfl⟩)|(go_at_call 73;refine(Mn _ _).V ?_;rintro e w' ⟨rfl,rfl⟩))
   go_cut [5,8,9]from 36 to 73 (λx _ _ wc=>x=aa (ic t k)/\wc=w')
   case first=>
    cases S
    .cases M
     .have d:Hid (ic t k=k+1):=by unfold ic;simp[h1,C,Hid]
      go_wp2;go_loop [5] (λi=>i=aa ((k:Int)+1)) (λ_=>0)
      case atStart=>exact rfl
      case round=>
       obtain rfl:=hrel;by_cases hlt2:k+1<t.size
       .have G:(k:Int)+1<t.size:=Te;go_wp2_with (first|(go_at_call 72;refine(IF _ _).V ?_;rintro e w3 ⟨rfl,rfl⟩)|(go_at_call 73;refine(Mn _ _).V ?_;rintro e w3 ⟨rfl,rfl⟩))
        go_meet
        case rel=>exact⟨Ar (by rw[d.o];simp),rfl⟩
       .have G:¬(k:Int)+1<t.size:=Te;go_wp2;go_meet
        case rel=>exact⟨Ar (by rw[d.o];simp),rfl⟩
     cases h3:(fR t k !=48)
     .have d:Hid (ic t k=k+1):=by unfold ic;simp only[h1,C,h3,Hid];simp
      go_wp2;go_loop [5] (λi=>i=aa ((k:Int)+1)) (λ_=>0)
      case atStart=>exact rfl
      case round=>
       obtain rfl:=hrel;by_cases hlt2:k+1<t.size
       .have G:(k:Int)+1<t.size:=Te;go_wp2_with (first|(go_at_call 72;refine(IF _ _).V ?_;rintro e w3 ⟨rfl,rfl⟩)|(go_at_call 73;refine(Mn _ _).V ?_;rintro e w3 ⟨rfl,rfl⟩))
        all_goals
         go_meet
         case rel=>exact⟨Ar (by rw[d.o];simp),rfl⟩
       .have G:¬(k:Int)+1<t.size:=Te;go_wp2;go_meet
        case rel=>exact⟨Ar (by rw[d.o];simp),rfl⟩
     have d:Hid (ic t k=iW lM t t.size (k+1)):=by unfold ic;simp only[h1,C,h3,Hid];simp
     go_wp2;go_loop [5] (λi=>∃n j:Nat,j<=t.size/\t.size-j<=n/\Hid (iW lM t n j=iW lM t t.size (k+1))/\i=aa j) (λi=>t.size-(intOf i).toNat)
     case atStart=>exact⟨t.size,k+1,Te,Te,rfl,Tf⟩
     case round=>
      obtain⟨Z,j,r,H,o,rfl⟩:=hrel;by_cases hlt2:j<t.size
      .have Q:=gX hlt2;cases h4:lM (fR t j)
       .have c:Hid (j=ic t k):=by rw[d.o,<-o.o,jW (.inr h4)];exact rfl
        go_wp2_with (first|(go_at_call 72;refine(IF _ _).V ?_;rintro e w3 ⟨rfl,rfl⟩)|(go_at_call 73;refine(Mn _ _).V ?_;rintro e w3 ⟨rfl,rfl⟩))
        go_meet
        case rel=>exact⟨Ar (by rw[<-c.o]),rfl⟩
       .have⟨q,B,y⟩:=vJ H hlt2 h4;have c:Hid (iW lM t q (j+1)=iW lM t t.size (k+1)):=y.sy.J o.o;clear y;go_wp2_with (first|(go_at_call 72;refine(IF _ _).V ?_;rintro e w3 ⟨rfl,rfl⟩)|(go_at_call 73;refine(Mn _ _).V ?_;rintro e w3 ⟨rfl,rfl⟩))
        go_round
        case rel=>exact⟨q,j+1,Te,B,c,by go_num⟩
        case measure=>simp[intOf];omega
      .have c:Hid (j=ic t k):=by rw[d.o,<-o.o,jW (.inl hlt2)];exact rfl
       go_wp2;go_meet
       case rel=>exact⟨Ar (by rw[<-c.o]),rfl⟩
    .obtain rfl:M=false:=by rw[<-C,Fw h1]
     have d:Hid (ic t k=iW Aq t t.size (k+1)):=by unfold ic;simp only[h1,Hid];simp
     go_wp2;go_loop [5] (λi=>∃n j:Nat,j<=t.size/\t.size-j<=n/\Hid (iW Aq t n j=iW Aq t t.size (k+1))/\i=aa j) (λi=>t.size-(intOf i).toNat)
     case atStart=>exact⟨t.size,k+1,Te,Te,rfl,Tf⟩
     case round=>
      obtain⟨Z,j,r,H,o,rfl⟩:=hrel;by_cases hlt2:j<t.size
      .have Q:=gX hlt2;cases h4:Aq (fR t j)
       .have c:Hid (j=ic t k):=by rw[d.o,<-o.o,jW (.inr h4)];exact rfl
        have D:ww (fR t j)=false/\lM (fR t j)=false:=by simpa [Aq]using h4
        obtain⟨D,T⟩:=D;clear h4;go_wp2_with (first|(go_at_call 72;refine(IF _ _).V ?_;rintro e w3 ⟨rfl,rfl⟩)|(go_at_call 73;refine(Mn _ _).V ?_;rintro e w3 ⟨rfl,rfl⟩))
        go_meet
        case rel=>exact⟨Ar (by rw[<-c.o]),rfl⟩
       .have⟨q,B,y⟩:=vJ H hlt2 h4;have c:Hid (iW Aq t q (j+1)=iW Aq t t.size (k+1)):=y.sy.J o.o;clear y;cases D:ww (fR t j)
        .have T:lM (fR t j)=true:=by simpa [Aq,D]using h4
         clear h4;go_wp2_with (first|(go_at_call 72;refine(IF _ _).V ?_;rintro e w3 ⟨rfl,rfl⟩)|(go_at_call 73;refine(Mn _ _).V ?_;rintro e w3 ⟨rfl,rfl⟩))
         go_round
         case rel=>exact⟨q,j+1,Te,B,c,by go_num⟩
         case measure=>simp[intOf];omega
        .clear h4;go_wp2_with (first|(go_at_call 72;refine(IF _ _).V ?_;rintro e w3 ⟨rfl,rfl⟩)|(go_at_call 73;refine(Mn _ _).V ?_;rintro e w3 ⟨rfl,rfl⟩))
         go_round
         case rel=>exact⟨q,j+1,Te,B,c,by go_num⟩
         case measure=>simp[intOf];omega
      .have c:Hid (j=ic t k):=by rw[d.o,<-o.o,jW (.inl hlt2)];exact rfl
       go_wp2;go_meet
       case rel=>exact⟨Ar (by rw[<-c.o]),rfl⟩
   case rest=>
    obtain⟨rfl,rfl⟩:=hcut;go_wp2_with (first|(at_builtin;refine wpList_append_own_at _ rfl _ _ 94 rfl w.heap.size 102 O _ 2 24 underlying94 N J K L rfl Th u3 _ _ rfl (p.alloc _) _ 1 1 [_,_] rfl rfl (lU _ _ _ _) ?h1 ?h63 ?hby ?hba ?_;rotate_right;intro v' w1 E F R P))
    case h1=>intro u z;simp at z;rcases z with rfl|rfl<;>rfl
    case h63=>unfold maxLen;omega
    case hby=>omega
    case hba=>have:=f.size;simp;omega
    go_roundw
    case rel=>
     refine⟨m,ic t k,pre++ [(t.extract k (ic t k),k)],V.2,s,Tg,l,rfl,?_,?_⟩;.simpa [Cy]using E
     .exact(f.alloc f.size _).grown F (by have:=f.size;simp;omega) (λj r=>(p.lt j r).1)
    case measure=>simp[intOf];omega
  .have l:Hid (pre=yH t):=(by have:=A.o;rw[Ch hlt]at this;simpa [Hid]using this);go_wp2_with (first|(at_builtin;refine wpList_append_own_at _ rfl _ _ 94 rfl w.heap.size 102 O _ 2 24 underlying94 N J K L rfl Th u3 _ _ rfl (p.alloc _) _ 1 1 [_,_] rfl rfl (lU _ _ _ _) ?h1 ?h63 ?hby ?hba ?_;rotate_right;intro v' w1 E F R P))
   case h1=>intro u z;simp at z;rcases z with rfl|rfl<;>rfl
   case h63=>unfold maxLen;omega
   case hby=>omega
   case hba=>have:=f.size;simp;omega
   go_ret;refine⟨v',rfl,?_,?_⟩;.have:=l.o;subst this;simpa [eB,Cy]using E
   .exact(f.alloc f.size _).grown F (by have:=f.size;simp;omega) (λj r=>(p.lt j r).1)
def dY.G {bs:aB}{a b c:aw}(h:dY bs a b)(k:Below b.heap.size b c):dY bs a c:=h.J (dY.oB k)
def dY.drewN {bs:aB}{a b:aw}(h:dY bs a b)(n:Nat):dY bs a (b.drewN n):=h.J ⟨rfl,rfl,rfl,aD _,λ_ _ _=>rfl⟩
def dY.set {bs:aB}{a b:aw}(h:dY bs a b){c:Nat}(f:c∈bs)(off:Nat)(u:Value):dY bs a (b.setCell (ai c off) u):=
 h.J ⟨rfl,rfl,rfl,by simp[World.setCell],λk _ d=>Below.heap_setCell _ _ _ _ (λe=>d (e▸f))⟩
def dP.kept {w w1:aw}{bs:aB}{b:Nat}{cs:aq}{T:TypeId}(h:dP w b cs T)(a:dY bs w w1)(c:b∉bs):dP w1 b cs T:=(a.block b h.lt c).J h
def fA (wr:Int)(at_:Nat):Int:=if wr<0\/(at_:Int)<wr then at_ else wr
def ko (wr:Int)(x:W):Int:=if 20<x.1.size then fA wr x.2 else wr
def RA (w:aw)(rb:Nat)(c0 c1 c2 c4 c5 c6 c7:Value)(wr:Int)(s:au)(p:Nat)(K:dP w rb #[c0,c1,c2,aa wr,c4,c5,c6,c7] 100):
  Calls prog 42 #[ag rb,.agg #[ae s,aa p]] w λe w'=>e= .returned (.tuple #[])/\dP w' rb #[c0,c1,c2,aa (fA wr p),c4,c5,c6,c7] 100/\dY [rb] w w':=by
 have b:=K.alloc (ak #[ae s,aa p] 102);have⟨f,g⟩:=b.I;have c:dY [rb] w (w.S6 #[ae s,aa p] 102):=(dY.refl _ _).alloc _;have d:rb≠w.heap.size:=by have:=K.lt;omega
 cases h1:decide (wr<0)
 .cases h2:decide ((p:Int)<wr)
  .have a:Hid (fA wr p=wr):=by unfold fA;rw[dG];rfl;simp at h1 h2;omega
   go_in
   go_wp2;go_quiet (fail);go_wp2;go_end0;exact⟨rfl,by rw[a.o];exact b,c.drewN _⟩
  .have a:Hid (fA wr p=p):=by unfold fA;rw[dH];rfl;simp at h1 h2;omega
   go_in
   go_wp2;go_quiet (fail);go_wp2;go_end0;refine⟨rfl,by rw[a.o];exact b.drew.set 3 _,?_⟩;exact(c.drewN _).set Tf _ _
 .have a:Hid (fA wr p=p):=by unfold fA;rw[dH];rfl;simp at h1;omega
  go_in
  go_wp2;go_quiet (fail);go_wp2;go_end0;refine⟨rfl,by rw[a.o];exact b.drew.set 3 _,?_⟩;exact(c.drewN _).set Tf _ _
def SL (w:aw)(rb:Nat)(c0 c1 c2 c4 c5 c6 c7:Value)(wr:Int)(s:au)(p:Nat)(K:dP w rb #[c0,c1,c2,aa wr,c4,c5,c6,c7] 100):
  Calls prog 75 #[ag rb,.agg #[ae s,aa p]] w λe w'=>e= .returned (.tuple #[])/\dP w' rb #[c0,c1,c2,aa (ko wr (s,p)),c4,c5,c6,c7] 100/\dY [rb] w w':=by
 have c:=K.alloc (ak #[ae s,aa p] 102);have b:dY [rb] w (w.S6 #[ae s,aa p] 102):=(dY.refl _ _).alloc _;by_cases h1:20<s.size
 .have f:(20:Int)<(s.size:Int):=Te;have a:Hid (ko wr (s,p)=fA wr p):=by unfold ko;rw[dH h1];rfl
  go_in
  go_wp2_with fail;refine(RA _ rb c0 c1 c2 c4 c5 c6 c7 wr s p c).V ?_;rintro e w2 ⟨rfl,d,g⟩;go_wp2;go_end0;exact⟨rfl,by rw[a.o];exact d,b.J g⟩
 .have f:decide ((20:Int)<(s.size:Int))=false:=Tg;have a:Hid (ko wr (s,p)=wr):=by unfold ko;rw[dG h1];rfl
  go_in
  go_wp2;go_end0;exact⟨rfl,by rw[a.o];exact c,b⟩
def ol {w:aw}{lo:Nat}{va:aC}{vn vc:Nat}{ws:List W}(h:w.ownsRow lo 102 2 (.slice va vn vc) ws.length (ws.flatMap Cy)){i:Nat}{x:W}(a:ws[i]?=some x):
  vn=ws.length/\i<ws.length/\∃g,va=some (ai g 0)/\g<w.heap.size/\∀w':aw,w'.heap[g]?=w.heap[g]?->w'.cell? (ai g (i*2))=some (ae x.1)/\w'.cell? (ai g (i*2+1))=some (aa x.2):=by
 have d:=gl a;obtain⟨g,rfl,_,e,b⟩:=dV h Te;refine⟨d9 h,d,g,rfl,e,λw' c=>⟨?_,?_⟩⟩;.exact b w' c (i*2) _ ((fW Cy 2 FE ws i x a 0 Te).J rfl)
 .exact b w' c (i*2+1) _ ((fW Cy 2 FE ws i x a 1 Te).J rfl)
def RB (w:aw)(rb lo:Nat)(wv c3 c4 c5 c6 c7:Value)(i:Nat)(bad:Int)(ws:List W)(x:W)(s:au)(K:dP w rb #[wv,aa i,aa bad,c3,c4,c5,c6,c7] 100)(a:w.ownsRow lo 102 2 wv ws.length (ws.flatMap Cy))(c:ws[i]?=some x):
  Calls prog 76 #[ag rb,ae s] w λe w'=>e= .returned (.bool (decide (bad<0)&&x.1.toList==s.toList))/\aj w w':=by
 obtain⟨n,p,o,rfl⟩:=dO a;obtain⟨rfl,f,g,rfl,h,b⟩:=ol a c;have⟨l,m⟩:=b w rfl;have⟨j,k⟩:=K.I;have d:(i:Int)<(ws.length:Int):=Te;clear b c a;cases h1:decide (bad<0)
 .go_in
  go_wp2;go_quiet (fail);go_wp2;go_ret;exact⟨Tf,gN (Below.refl _ _) _⟩
 .go_in
  go_wp2;go_quiet (fail);go_wp2;go_ret;exact⟨Tf,gN (Below.refl _ _) _⟩
def fH {n c:Nat}{a:aw}(d:n<=c):∀(vs:ay) (o:Nat) {b:aw},Below n a b->Below n a (b.setCells c o vs)
 | [],_,_,h=>h
 |v::vs,o,b,h=>by
  have:=fH d vs (o+1) (h.setCell (p:=(ai c o)) d v);simpa [World.setCells]using this
def kr (w:aw)(xb:Nat)(b:au)(e p:Int):Prop:=dP w xb #[ae b,aa e,aa p] 279
def ku (w:aw)(xb:Nat)(b:au)(e0 p0 e p:Int)(K:kr w xb b e0 p0)(c:e0=0):
  Calls prog 220 #[ag xb,aa e,aa p] w λen w'=>en= .returned (.tuple #[])/\kr w' xb b e p/\dY [xb] w w':=by
 subst c;have a:dP w xb #[ae b,aa 0,aa p0] 279:=K;have⟨d,f⟩:=a.I;go_in
 go_wp2;go_end0;refine⟨rfl,?_,?_⟩;.exact(a.set 1 (aa e)).set 2 (aa p)
 .exact((dY.refl _ _).set Tf _ _).set Tf _ _
def iy (t:au)(k:Nat):0<=fR t k/\fR t k<256:=by
 unfold fR;split;.rename_i h;have:=t[k].toNat_lt;omega
 .omega
def Hi (i:Nat):(2:Int)^(7*(i+1))=128*2^(7*i):=by
 rw[show 7*(i+1)=7*i+7 from by omega,Int.pow_add];omega
def wS {i j:Nat}(h:i<=j):(2:Int)^i<=2^j:=by
 have:=cW (n:=2) Th h
 exact_mod_cast this
def AH {i:Nat}{n c:Int}(d:0<=n)(h1:n<2^(7*i)):0<=n+c%128*2^(7*i)/\n+c%128*2^(7*i)<2^(7*(i+1)):=by
 have g:(0:Int)<2^(7*i):=Int.pow_pos Th;have a:0<=c%128:=Int.emod_nonneg _ Th;have b:c%128<=127:=by have:=Int.emod_lt_of_pos c (show(0:Int)<128 by decide);omega
 rw[Hi];generalize(2:Int)^(7*i)=q at*;have e:0<=c%128*q:=Int.mul_nonneg a Te;have f:c%128*q<=127*q:=Int.mul_le_mul_of_nonneg_right b Te;omega
def QO (w:aw)(xb:Nat)(b:au)(e:Nat)(r:Fx (Int×Nat))(en:Ending)(w':aw):Prop:=
 match r with
 | .ok (n,z)=>en= .returned (.tuple #[.int .u64 n,aa z])/\w'=w
 | .error (c,p)=>en= .returned (.tuple #[.int .u64 0,aa e])/\kr w' xb b c p/\dY [xb] w w'
def gL {c:Int}(a:0<=c)(h1:c<2^64):IntKind.u64.wrap c=c:=by
 simp[IntKind.wrap,IntKind.signed,IntKind.bits];omega
def om (w:aw)(xb:Nat)(b:au)(p0:Int)(K:kr w xb b 0 p0)(a e:Nat)(S:b.size<=268435456)(X:e<=b.size)(W:a<=e):
  Calls prog 305 #[ag xb,aa a,aa e] w (QO w xb b e (j8 b a e)):=by
 have H:dP w xb #[ae b,aa 0,aa p0] 279:=K;have⟨Z,c⟩:=H.I;obtain⟨r,A⟩:=Td (j8 b a e);have l:Hid (j8 b a e=r):=A;rw[A];clear A;go_in
 go_wp2;go_loop [8,9] (λx i=>∃(k:Nat) (n:Int),k<=10/\0<=n/\Hid (n<2^(7*k))/\Hid (wL b a e (10-k) k n=r)/\x= .int .u64 n/\i=aa k) (λ_ i=>10-(intOf i).toNat)
 case atStart=>exact⟨0,0,Te,Te,(by decide:(0:Int)<2^(7*0)),l,rfl,rfl⟩
 case round=>
  obtain⟨k,n,V,N,g,f,rfl,rfl⟩:=hrel;by_cases hk10:k<10
  .have R:(k:Int)<10:=Te;obtain⟨m,s⟩:∃m,10-k=m+1:=⟨9-k,Te⟩;by_cases hlt:a+k<e
   .have I:decide ((e:Int)<=(a:Int)+(k:Int))=false:=Tg;have J:=gX (t:=b) (k:=a+k) Te;have C:=iy b (a+k);obtain⟨c,z⟩:=Td (fR b (a+k));have j:Hid (fR b (a+k)=c):=z;rw[z]at J C;clear z;obtain⟨y,Q⟩:=C;have T:=gL y Te;by_cases h9:k=9/\1<c;.obtain⟨rfl,v⟩:=h9;have d:Hid (r= .error (7,(a:Int))):=(by have:=f.o;rw[s,wL,dH hlt,dH ⟨rfl,by rw[j.o];exact v⟩]at this;exact this.sy);clear g f l;go_wp2_with fail;refine(ku _ xb b 0 p0 7 a K rfl).V ?_;rintro G w1 ⟨rfl,o,p⟩;go_wp2;go_ret2;rw[d.o];exact⟨rfl,o,p⟩
    .have q:=AH (i:=k) (c:=c) N g.o;have D:Hid (n+c%128*2^(7*k)<2^(7*(k+1))):=q.2;have u:=q.1;have E:0<=c%128*2^(7*k):=Int.mul_nonneg (Int.emod_nonneg _ Th) (Int.le_of_lt (Int.pow_pos Th))
     have B:n+c%128*2^(7*k)<2^64:=by
      by_cases h:k=9
      .subst h;have P:=g.o;have v:¬1<c:=λh=>h9 ⟨rfl,h⟩
       have:c%128=c:=Int.emod_eq_of_lt y Te;rw[this];simp only[Nat.reduceMul,Int.reducePow]at*;omega
      .have U:(2:Int)^(7*(k+1))<=2^63:=wS Te;have P:=q.2;omega
     have L:=gL E Te;have M:=gL u B;have Y:c.tmod 128=c%128:=cN y;clear q;by_cases hc8:c<128
     .have d:Hid (r= .ok (n+c%128*2^(7*k),a+k+1)):=(by have:=f.o;rw[s,wL,dH hlt,dG (by rw[j.o];exact h9),j.o,dH hc8]at this;exact this.sy);rw[d.o];clear f l d g D;by_cases F:k=9
      .subst F;have v:¬1<c:=λh=>h9 ⟨rfl,h⟩
       simp only[Nat.reduceMul,Int.reducePow]at L M u B E⊢;go_wp2;go_ret2;exact⟨by go_num,rfl⟩
      .have O:¬(k:Int)=9:=Te;go_wp2;go_ret2;exact⟨by go_num,rfl⟩
     .have F:k<9:=by
       rcases Nat.lt_or_ge k 9 with h|h;.exact h
       .exact absurd ⟨Te,Te⟩ h9
      have O:¬(k:Int)=9:=Te;have d:Hid (wL b a e (10-(k+1)) (k+1) (n+c%128*2^(7*k))=r):=(by have:=f.o;rw[s,wL,dH hlt,dG (by rw[j.o];exact h9),j.o,dG hc8]at this;rw[show 10-(k+1)=m from by omega];exact this);clear f g;go_wp2;go_round
      case rel=>exact⟨k+1,_,Te,u,D,d,by go_num,by go_num⟩
      case measure=>simp[intOf];omega
   .have I:(e:Int)<=(a:Int)+(k:Int):=Te;have d:Hid (r= .error (6,(a:Int))):=(by have:=f.o;rw[s,wL,dG hlt]at this;exact this.sy);clear g f l;go_wp2_with fail;refine(ku _ xb b 0 p0 6 a K rfl).V ?_;rintro G w1 ⟨rfl,o,p⟩;go_wp2;go_ret2;rw[d.o];exact⟨rfl,o,p⟩
  .obtain rfl:k=10:=Te;have d:Hid (r= .error (7,(a:Int))):=f.o.sy;clear g f l;go_wp2_with fail;refine(ku _ xb b 0 p0 7 a K rfl).V ?_;rintro G w1 ⟨rfl,o,p⟩;go_wp2;go_ret2;rw[d.o];exact⟨rfl,o,p⟩
abbrev LV:=Int×au
def vR (v:LV):Value:= .agg #[.int .u64 v.1,ae v.2,ah,S8]
def Hm (s:au)(k:Nat):Int:=Qw s (s.size-k) k
def FS {s:au}{k:Nat}(h:¬k<s.size):Hm s k=0:=by
 unfold Hm;rw[show s.size-k=0 from by omega];rfl
def CI {s:au}{k:Nat}(h:k<s.size):Hm s k=256*Hm s (k+1)+fR s k:=by
 unfold Hm;rw[show s.size-k=(s.size-(k+1))+1 from by omega,Qw,dH h]
def tR (s:au):∀d k,s.size-k=d->0<=Hm s k/\Hm s k<256^d
 |0,k,h=>by rw[FS Te];decide
 |d+1,k,h=>by
  have a:k<s.size:=Te;have:=tR s d (k+1) Te;have b:=iy s k;rw[CI a,Int.pow_succ];omega
def sS (w:aw)(s:au)(B:s.size<=8):
  Calls prog 306 #[ae s] w λe w'=>e= .returned (.int .u64 (vi s))/\w'=w:=by
 go_in
 go_wp2;go_loop [3,4] (λx i=>∃(k:Nat),k<=s.size/\x= .int .u64 (Hm s k)/\i=aa ((k:Int)-1)) (λ_ i=>(intOf i+1).toNat)
 case atStart=>exact⟨s.size,Te,by rw[FS Te],by go_num⟩
 case round=>
  obtain⟨k,A,rfl,rfl⟩:=hrel;by_cases h0:k=0;.subst h0;go_wp2;go_ret;exact⟨rfl,rfl⟩
  .obtain⟨j,rfl⟩:∃j,k=j+1:=⟨k-1,Te⟩;have r:(0:Int)<=((j+1:Nat):Int)-1:=Te;have p:((j+1:Nat):Int)-1=(j:Int):=Te;rw[p]at*;have l:=gX (t:=s) (k:=j) Te;have h:=iy s j;have a:=tR s _ (j+1) rfl;have d:=CI (s:=s) (k:=j) Te
   have m:Hm s (j+1)<256^7:=Int.lt_of_lt_of_le a.2 (by
    have:=cW (n:=256) (i:=s.size-(j+1)) (j:=7) Th Te
    exact Int.ofNat_le.2 this)
   have f:(256:Int)^7=72057594037927936:=Th;rw[f]at m;have u:=a.1;clear a f;have b:Hid (Hm s j=256*Hm s (j+1)+fR s j):=d;clear d;generalize Hm s (j+1)=L at*;obtain⟨c,g⟩:=Td (fR s j);rw[g]at l h b;clear g;obtain⟨o,q⟩:=h;have v:=gL o Te;have y:=gL (c:=256*L) Te Te;have z:=gL (c:=256*L+c) Te Te;go_wp2;go_round
   case rel=>exact⟨j,Te,by rw[b.o],by go_num⟩
   case measure=>simp[intOf]
def oq {s:au}(h:s.size<=8):0<=vi s/\vi s<2^64:=by
 have a:=tR s _ 0 rfl;have e:Hm s 0=vi s:=rfl;rw[e]at a;refine⟨a.1,Int.lt_of_lt_of_le a.2 ?_⟩;have:=cW (n:=256) (i:=s.size-0) (j:=8) Th Te;have b:=Int.ofNat_le.2 this;have c:((256^8:Nat):Int)=2^64:=Th;rw[c]at b;exact b
def MX {a b:Int}(h:a=b):Ending.returned (.int .u64 a)= .returned (.int .u64 b):=by rw[h]
def wY (w:aw)(n:Int):
  Calls prog 389 #[.int .u64 n] w λe w'=>e= .returned (.int .u64 (vh n))/\w'=w:=by
 go_in
 go_wp2;go_ret;refine⟨?_,rfl⟩;congr 2;simp[IntKind.wrap,IntKind.signed,IntKind.bits,vh,wrap64,wrap32];split<;>omega
def Jt (m:Nat)(h:m<2^64):18446744073709551615^^^m=18446744073709551615-m:=by
 have a:(BitVec.allOnes 64^^^BitVec.ofNat 64 m).toNat=(~~~(BitVec.ofNat 64 m)).toNat:=by rw[BitVec.allOnes_xor]
 rw[BitVec.toNat_not,BitVec.toNat_xor,BitVec.toNat_allOnes,BitVec.toNat_ofNat,dp h]at a;exact a
def CJ (w:aw)(n:Int)(a:0<=n)(h1:n<2^64):
  Calls prog 390 #[.int .u64 n] w λe w'=>e= .returned (.int .u64 (IV n))/\w'=w:=by
 have f:n.tmod 2=n%2:=cN a;have d:n.tdiv 2=n/2:=Int.tdiv_eq_ediv_of_nonneg a;have g:bits .xor .u64 IntKind.u64.max (n/2)=18446744073709551615-n/2:=(by obtain⟨m,c⟩:∃m:Nat,n/2=(m:Int):=⟨(n/2).toNat,Te⟩;rw[c];have b:m<2^64:=Te;have e:IntKind.u64.max=((18446744073709551615:Nat):Int):=Th;rw[e,bits_xor_u64_nat _ _ Th b,Jt m b];omega);by_cases hodd:n%2=1
 .go_in
  go_wp2;go_ret;exact⟨MX (by rw[IV,dH hodd]),rfl⟩
 .go_in
  go_wp2;go_ret;exact⟨MX (by rw[IV,dG hodd]),rfl⟩
def c9 (w:aw)(lo lo':Nat)(v v':Value)(l:aA)(hlen:l.length<=2001)(h:w.ownsRow lo 9 1 v l.length (eh l))(c:w.ownsRow lo' 9 1 v' l.length (eh l)):
  Calls prog 17 #[v,v'] w λe w'=>e= .returned (.bool true)/\aj w w':=by
 obtain⟨y,z,rfl⟩:=ig h;obtain⟨t,u,rfl⟩:=ig c;go_in
 go_wp2;go_loopw [5] (λi wr=>∃(k j:Nat),k<=l.length/\i=aa k/\wr=w.drewN j) (λi _=>l.length-(intOf i).toNat)
 case atStart=>exact⟨0,0,aM _,rfl,rfl⟩
 case round=>
  obtain⟨k,j,r,rfl,rfl⟩:=hrel;by_cases hlt:k<l.length
  .have⟨x,f⟩:=gx hlt;obtain⟨g,rfl,_,n,b⟩:=dV h Te;obtain⟨p,rfl,_,d,a⟩:=dV c Te;have q:=b w rfl k (ae x) (by simp[eh,f]);have s:=a w rfl k (ae x) (by simp[eh,f]);have m:(k:Int)<(l.length:Int):=Te;have o:(x.toList==x.toList)=true:=Tf;clear b a;go_wp2;go_quiet (fail);go_wp2;go_roundw
   case rel=>exact⟨k+1,_,Te,by go_num,rfl⟩
   case measure=>simp[intOf];omega
  .have m:¬(k:Int)<(l.length:Int):=Te;go_wp2;go_ret;exact⟨rfl,gN (Below.refl _ _) _⟩
def Tryz.info30:(prog.info? 30).map (λi=>(i.zero,i.size,i.bytes))=some (some (ah),1,24):=Tj
section
variable {w w5:aw} {bb n:Nat} {m:au} {v:Value} {j:Nat} {tv tn:Value} {ts:ay} {ns:aA}
end
end Go.Proofs.YtfebdimolnobaaaGreatDoor
