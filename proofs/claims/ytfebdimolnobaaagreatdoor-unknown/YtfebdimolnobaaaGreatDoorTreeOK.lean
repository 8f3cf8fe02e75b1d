import Derived.Test.YtfebdimolnobaaaGreatDoorBuE
import Derived.Shelf.SlSortCmp.Whole1
import Derived.Shelf.SlSortCmp.NoneTotal
set_option maxRecDepth 100000
set_option maxHeartbeats 8000000
set_option linter.all false
namespace Go.Proofs.YtfebdimolnobaaaGreatDoor
open Go.RowKit Go.Proofs.Tryz
section
variable {ws:List W} {i j:Nat} {form:Int} {f:eU} {α:Type} {stop:Nat->Bool} {p:fI}
structure ug (ws:List W):Prop where
 few:ws.length<=2001
 size:∀(k:Nat) (x:W),ws[k]?=some x->x.1.size<=2000
 num:∀(k:Nat) (x:W),ws[k]?=some x->dV x.1=2->lg x.1
def Le {α:Type}(ws:List W)(r:oB α):Prop:=∀a j,r= .ok (a,j)->j<=ws.length
theorem oD (ws:List W)(s:ap)(i:Nat):Le ws (gu ws s i):=λa j h=>by
 have⟨h1,x,h2,_⟩:=fC _ _ _ _ _ h;grind
theorem Br (H:ug ws){nm:W×W}(h:kW ws i= .ok (nm,j)):lg nm.2.1/\i+4<=j/\j<=ws.length:=by
 unfold kW at h;have⟨_,i1,h1,h⟩:=d6 h;have⟨_,i2,h2,h⟩:=d6 h;have⟨_,i3,h3,h⟩:=d6 h;have⟨_,i4,h4,h⟩:=d6 h;have a1:=(iQ _ _ _ _ _ h1).1;have a2:=(fC _ _ _ _ _ h2).1;have a3:=iQ _ _ _ _ _ h3;have a4:=(fC _ _ _ _ _ h4).1;have a5:=oD _ _ _ _ _ h4;simp at h;obtain⟨rfl,rfl⟩:=h;exact⟨H.num _ _ a3.2.1 a3.2.2,Vc,a5⟩
theorem oE (H:ug ws)(h:fX ws form i= .ok (f,j)):lg f.num.1/\i+5<=j/\j<=ws.length:=by
 unfold fX at h;have⟨t,i1,h1,h⟩:=d6 h;have⟨nm,i2,h2,h⟩:=d6 h;have a1:=(lW _ _ _ _ h1).1;have a2:=Br H h2;grind
theorem NZ (H:ug ws)(h:nN ws i= .ok (f,j)):lg f.num.1/\i+5<=j/\j<=ws.length:=by
 unfold nN at h;have⟨_,i1,h1,h⟩:=d6 h;have⟨_,i2,h2,h⟩:=d6 h;have⟨_,i3,h3,h⟩:=d6 h;have⟨_,i4,h4,h⟩:=d6 h;have⟨_,i5,h5,h⟩:=d6 h;have⟨_,i6,h6,h⟩:=d6 h;have⟨_,i7,h7,h⟩:=d6 h;have a1:=(fC _ _ _ _ _ h1).1;have a2:=(fC _ _ _ _ _ h2).1;have a3:=(lW _ _ _ _ h3).1;have a4:=(fC _ _ _ _ _ h4).1;have a5:=(lW _ _ _ _ h5).1;have a6:=(fC _ _ _ _ _ h6).1;have a7:=Br H h7;grind
theorem p7 {p:Nat->oB α}{Q:α->Prop}{wt:α->Nat}{N:Nat}(hp:∀i a j,p i= .ok (a,j)->Q a/\i+wt a<=j/\j<=N):
  ∀n i l j,i<=N->gI stop p n i= .ok (l,j)->(∀a∈l,Q a)/\i+(l.map wt).sum<=j/\j<=N
 |0,i,l,j,hi,h=>by simp[gI]at h;simp_all
 |n+1,i,l,j,hi,h=>by
  unfold gI at h;split at h;.simp_all
  .have⟨a,i1,h1,h⟩:=d6 h;have⟨l',i2,h2,h⟩:=d6 h;have a1:=hp _ _ _ h1;have a2:=p7 hp n i1 l' i2 a1.2.2 h2;grind
theorem Bt (l:List α):(l.map λ_=>1).sum=l.length:=by
 induction l with
 |nil=>rfl
 |cons a l ih=>(simp;omega)
theorem JS (ps:List fI):(ps.map λp=>1+p.fields.length).sum=mK ps:=by
 induction ps with
 |nil=>rfl
 |cons p ps ih=>simp only[bK,cH,ih,mK]
def Bu (p:fI):Prop:=∀f∈p.fields,lg f.num.1
theorem IN (H:ug ws)(h:jg ws i= .ok (p,j)):Bu p/\i+(1+p.fields.length)<=j/\j<=ws.length:=by
 unfold jg at h;have⟨_,i1,h1,h⟩:=d6 h;have⟨_,i2,h2,h⟩:=d6 h;have⟨_,i3,h3,h⟩:=d6 h;have⟨f,i4,h4,h⟩:=d6 h;have⟨l,i5,h5,h⟩:=d6 h;have⟨_,i6,h6,h⟩:=d6 h;have⟨l',i7,h7,h8⟩:=d6 h5;have a1:=(fC _ _ _ _ _ h1).1;have a2:=(iQ _ _ _ _ _ h2).1;have a3:=(fC _ _ _ _ _ h3).1;have a4:=oE H h4;have a7:=p7 (Q:=λf=>lg f.num.1) (wt:=λ_=>1) (N:=ws.length) (λi a j h=>by have:=oE H h;grind) _ _ _ _ a4.2.2 h7;have a6:=(fC _ _ _ _ _ h6).1;have a9:=oD _ _ _ _ _ h6;have e8:=Except.ok.inj h8;have e9:=Except.ok.inj h;cases e9;cases e8;rw[Bt]at a7;refine⟨?_,?_,a9⟩;.intro x hx;grind
 (simp;omega)
theorem JT (H:ug ws)(h:kA ws i= .ok (p,j)):Bu p/\i+(1+p.fields.length)<=j/\j<=ws.length:=by
 have al:∀(k:Nat) (r:oB eU),i<=k->(∀f j,r= .ok (f,j)->lg f.num.1/\k+5<=j/\j<=ws.length)->mw r= .ok (p,j)->Bu p/\i+(1+p.fields.length)<=j/\j<=ws.length:=(by intro k r hk hr h;have⟨f,i1,h1,h⟩:=d6 h;have:=hr _ _ h1;simp at h;obtain⟨rfl,rfl⟩:=h;refine⟨λx hx=> ?_,by grind,this.2.2⟩;simp_all);unfold kA at h;split at h;.exact IN H h
 .split at h;.exact al i _ (aE _) (λf j h=>NZ H h) h
  .split at h;.exact al (i+1) _ (bG _) (λf j h=>oE H h) h
   .split at h;.exact al (i+1) _ (bG _) (λf j h=>oE H h) h
    .exact al i _ (aE _) (λf j h=>oE H h) h
theorem IP (H:ug ws){b:d7}(h:jT ws i= .ok (b,j)):po b/\i+1<=j/\j<=ws.length:=by
 have few:=H.few;unfold jT at h;split at h;.unfold lV at h;have⟨_,i1,h1,h⟩:=d6 h;have⟨nm,i2,h2,h⟩:=d6 h;have⟨_,i3,h3,h⟩:=d6 h;have⟨l,i4,h4,h⟩:=d6 h;have⟨_,i5,h5,h⟩:=d6 h;have a1:=(fC _ _ _ _ _ h1).1;have a2:=iQ _ _ _ _ _ h2;have a3:=(fC _ _ _ _ _ h3).1;have b3:=oD _ _ _ _ _ h3;have a4:=p7 (Q:=λv:W×W=>lg v.2.1) (wt:=λ_=>1) (N:=ws.length) (λi a j h=>by have:=Br H h;grind) _ _ _ _ b3 h4;have a5:=(fC _ _ _ _ _ h5).1;have b5:=oD _ _ _ _ _ h5;simp at h;obtain⟨rfl,rfl⟩:=h;rw[Bt]at a4;exact⟨⟨H.size _ _ a2.2.1,by(simp;omega),a4.1,by simp[mK],Vd⟩,Vc,b5⟩
 .unfold ia at h;have⟨_,i1,h1,h⟩:=d6 h;have⟨nm,i2,h2,h⟩:=d6 h;have⟨_,i3,h3,h⟩:=d6 h;have⟨l,i4,h4,h⟩:=d6 h;have⟨_,i5,h5,h⟩:=d6 h;have a1:=(fC _ _ _ _ _ h1).1;have a2:=iQ _ _ _ _ _ h2;have a3:=(fC _ _ _ _ _ h3).1;have b3:=oD _ _ _ _ _ h3;have a4:=p7 (Q:=Bu) (wt:=λp=>1+p.fields.length) (N:=ws.length) (λi a j h=>JT H h) _ _ _ _ b3 h4;have a5:=(fC _ _ _ _ _ h5).1;have b5:=oD _ _ _ _ _ h5;simp at h;obtain⟨rfl,rfl⟩:=h;rw[JS]at a4;exact⟨⟨H.size _ _ a2.2.1,Vd,Vd,by(simp;omega),a4.1⟩,Vc,b5⟩
theorem xz (H:ug ws){bs:List d7}(h:pZ ws= .ok (bs,j)):(∀b∈bs,po b)/\bs.length<=2001:=by
 have few:=H.few;have:=p7 (Q:=po) (wt:=λ_=>1) (N:=ws.length) (λi a j h=>IP H h) _ _ _ _ (aP _) h;rw[Bt]at this;grind
end
section
attribute [local go_sem] jQ jR jS
def mL {t:au}{k:Nat}{x:W}(h:(fO t)[k]?=some x):(k<(Ae t).length/\x∈Ae t)\/(k=(Ae t).length/\x=(⟨#[]⟩,t.size)):=by
 unfold fO at h;by_cases hk:k<(Ae t).length;.rw[cA hk]at h;exact .inl ⟨hk,aL h⟩
 .rw[cj Vc]at h;by_cases he:k-(Ae t).length=0;.rw[he]at h;simp at h;exact .inr ⟨Vc,h.sy⟩
  .rw[bf Ve]at h;cases h
def sL (t:au):(fO t).length=(Ae t).length+1:=by simp[fO]
def GR (t:au):(Ae t).length<=t.size:=by have:=pX t t.size 0;simpa [Ae]using this
def PQ (t:au):∀n k,k<=t.size->∀i,k<=i->i<jb mt t n k->mt (fZ t i)=true
 |0,k,_,i,h1,h2=>by simp[jb]at h2;omega
 |n+1,k,hk,i,h1,h2=>by
  unfold jb at h2;by_cases hc:(decide (k<t.size)&&mt (fZ t k))=true
  .rw[dP hc]at h2;have h3:k<t.size/\mt (fZ t k)=true:=by simpa using hc
   by_cases he:i=k;.subst he;exact h3.2
   .exact PQ t n (k+1) h3.1 i Vc h2
  .rw[dO hc]at h2;omega
def Do {t:au}{a e i:Nat}(h:a+i<e)(he:e<=t.size):fZ (t.extract a e) i=fZ t (a+i):=by
 have hs:i<(t.extract a e).size:=by rw[bg];omega
 rw[<-jJ hs,<-jJ (by omega:a+i<t.size)];congr 2;exact ByteArray.getElem_extract _
def So {t:au}{a:Nat}(h:a<t.size)(hd:mt (fZ t a)=true):∀i,a<=i->i<il t a->mt (fZ t i)=true:=by
 intro i h1 h2;have hl:vM (fZ t a)=false:=(by unfold mt at hd;unfold vM;simp at hd⊢;omega);by_cases he:i=a;.subst he;exact hd
 .unfold il at h2;simp only[hl,hd,dd,aU,if_false]at h2;split at h2;.exact PQ t t.size (a+1) h i Vc h2
  .omega
def uh (t:au):∀n a,∀x∈kY t n a,∃c,c<t.size/\x=(t.extract c (il t c),c)/\Dl (fZ t c)=false
 |0,a,x,h=>by simp[kY]at h
 |n+1,a,x,h=>by
  unfold kY at h;by_cases ha:a<t.size
  .rw[dP ha]at h;by_cases hg:Dl (fZ t a)=true;.rw[dP hg]at h;exact uh t n (a+1) x h
   .rw[dO hg]at h;rcases aS.1 h with rfl|h;.exact⟨a,ha,rfl,by simpa using hg⟩
    .exact uh t n _ x h
  .rw[dO ha]at h;simp at h
def rK (M:Nat):∀(l:ap) (acc:Nat),(∀c∈l,48<=c.toNat/\c.toNat<=57)->(∃u,Lib.parseUintM M acc l= .ok u)\/Lib.parseUintM M acc l= .range
 | [],acc,_=> .inl ⟨acc,rfl⟩
 |c::l,acc,h=>by
  have hc:=h c Vd;unfold Lib.parseUintM;rw[dP hc];split;.exact .inr rfl
  .split;.exact .inr rfl
   .exact rK M l _ (λc hc=>h c (by simp[hc]))
def N2 {s:au}{i:Nat}{c:UInt8}(h:s.data.toList[i]?=some c):fZ s i=(c.toNat:Int):=by
 have hi:i<s.size:=by
  by_cases hi:i<s.data.toList.length;.simpa using hi
  .rw[bf Vc]at h;cases h
 rw[<-jJ hi];have:s.data.toList[i]?=some s[i]:=(by rw[aO (by simpa using hi)];rfl);rw[this]at h;rw[Option.some.inj h]
def N4 {c:Int}:mt c=true<->48<=c/\c<=57:=by simp[mt]
def JU {s:au}(hs:s.size<=2000)(h0:0<s.size)(hd:∀i,i<s.size->mt (fZ s i)=true):lg s:=by
 refine⟨hs,?_⟩
 have Vp:s.data.toList≠ []:=by
  intro e;have:s.data.toList.length=0:=by rw[e];rfl
  have h1:s.data.toList.length=s.size:=Vd;omega
 unfold Lib.parseUintB;rw[dO Vp];refine rK _ _ _ λc hc=> ?_
 have⟨i,hi⟩:=bY.1 hc;have h1:=N2 hi
 have Vq:i<s.size:=by
  by_cases hi2:i<s.data.toList.length;.simpa using hi2
  .rw[bf Vc]at hi;cases hi
 have h2:=N4.1 (hd i Vq);omega
def Dp {t:au}{x:W}(hx:x∈Ae t)(hd:mt (fZ x.1 0)=true):∀i,i<x.1.size->mt (fZ x.1 i)=true:=by
 obtain⟨c,hc,rfl,_⟩:=uh t t.size 0 x hx;have he:=o8 t c hc;intro i hi;simp only at hi hd⊢;rw[bg]at hi;rw[Do Vc he.2]at hd⊢;exact So hc (by simpa using hd) (c+i) Vc Vc
def JV {s:au}(h:dV s=2):mt (fZ s 0)=true:=by
 unfold dV jq at h;split at h;.omega
 .split at h;.assumption
  .split at h;.omega
   .split at h<;>omega
def p8 (t:au)(ht:t.size<=2000):ug (fO t):=by
 refine⟨?_,?_,?_⟩;.rw[sL];have:=GR t;omega
 .intro k x hx;rcases mL hx with⟨_,h⟩|⟨_,rfl⟩;.have:=pW t t.size 0 x h;omega
  .show(ByteArray.mk #[]).size<=2000;decide
 .intro k x hx hk;rcases mL hx with⟨_,h⟩|⟨_,rfl⟩;.have:=pW t t.size 0 x h;exact JU Vc Vc (Dp h (JV hk))
  .have:dV (ByteArray.mk #[])=4:=rfl;rw[this]at hk;omega
end
section
open Go.Maps
attribute [local go_sem] jQ jR jS
def iS (t:ByteArray):Except (Int×Nat) (List d7):=
 if 2000<t.size then .error (2,0)
 else
  match pZ (fO t)with
  | .error p=> .error (2,p)
  | .ok (bs,_)=>
   match fP (fJ bs) [] 0 bs with
   | .error p=> .error (3,p)
   | .ok _=> .ok bs
def IQ {w:World}{base rb:Nat}{t:ByteArray}{v:Value}(ht:t.size<=2000)(Vp:w.ownsRow base 148 3 v (fO t).length ((fO t).flatMap xq))(hrb:dX w rb #[v,.int .i64 0] 158)(hne:∀b,v.ownBlock=some b->b≠rb):∃wb,Rd w rb wb (fO t) 0:=by
 have hlen:=sL t;have hl2:=GR t;obtain⟨a,n,c,rfl⟩:=d5 Vp;have hn:=fh Vp;subst hn;obtain⟨g,rfl,hg,VK,Vs⟩:=eH Vp Vc;have hc:=Vs w rfl;have W:=p8 t ht;refine⟨g,Vc,Vc,λe=>hne g rfl e.sy,⟨c,by simpa using hrb.cell 0⟩,by simpa using hrb.cell 1,hrb.I.2 1,λk x hx=> ?_,λk x hx hs=> ?_,λk x hx=> ?_⟩
 .have l3:∀x,(xq x).length=3:=λ_=>rfl
  refine⟨?_,?_,?_⟩;.have:=hc (k*3+0) _ ((fY xq 3 l3 _ k x hx 0 Vc).J rfl);simpa using this
  .exact hc (k*3+1) _ ((fY xq 3 l3 _ k x hx 1 Vc).J rfl)
  .exact hc (k*3+2) _ ((fY xq 3 l3 _ k x hx 2 Vc).J rfl)
 .rcases mL hx with⟨h1,_⟩|⟨_,rfl⟩;.omega
  .exact absurd (show 0<(ByteArray.mk #[]).size from hs) Vf
 .refine⟨W.size k x hx,?_⟩;rcases mL hx with⟨_,h⟩|⟨_,rfl⟩;.have:=pW t t.size 0 x h;omega
  .exact ht
def N5 (w:World)(r:Except (Int×Nat) (List d7))(e:Ending)(w':World):Prop:=
 (match r with
 | .error (k,p)=>e=dY k p
 | .ok bs=>∃a n c cs,e= .returned (.agg #[.slice a n c])/\eO w' (λx=>w.heap.size<=x) 152 6 (.slice a n c) bs.length cs/\ft w' (λx=>w.heap.size<=x) cs bs)/\Below w.heap.size w w'
def UK (w:World)(t:ByteArray)(hmax:t.size<=2^47)(hg:GOK w):
  Calls prog 36 #[.string t] w (N5 w (iS t)):=by
 have⟨B0,K0⟩:=d8 w #[.slice none 0 0] 87;generalize hr:iS t=r;have HR:Hid (iS t=r):=hr;clear hr;by_cases hl:2000<t.size
 .have hd:(2000:Int)<(t.size:Int):=Vc;obtain rfl:r= .error (2,0):=by rw[<-HR.o,iS,dP hl]
  go_in
  go_wp2_with fail;refine(JM _ _ _).V ?_;rintro e w2 ⟨rfl,rfl⟩;go_wp2;exact⟨rfl,rfl,B0⟩
 .have ht:t.size<=2000:=Vc;have hd:decide ((2000:Int)<(t.size:Int))=false:=Ve
  have VG:Hid ((match pZ (fO t)with
   | .error p=> .error (2,p)
   | .ok (bs,_)=>
    match fP (fJ bs) [] 0 bs with
    | .error p=> .error (3,p)
    | .ok _=> .ok bs)=r):=by
   have:=HR.o;rw[iS,dO hl]at this;exact this
  clear hl;go_in
  go_wp2_with fail;refine(Us t _ ht).V ?_;rintro e w1 ⟨v,rfl,Vp,VJ⟩;obtain⟨va,vn,vc,rfl⟩:=d5 Vp;have C1:Below w.heap.size w w1:=B0.J (VJ.V Vd);have K1:=K0.G VJ K0.lt;have C2:=C1.alloc C1.size (Obj.cells #[.slice va vn vc,.int .i64 0] 158);have K2:=K1.alloc (Obj.cells #[.slice va vn vc,.int .i64 0] 158);have⟨wb,R2⟩:=IQ (rb:=w1.heap.size) ht (Vp.alloc (Obj.cells #[.slice va vn vc,.int .i64 0] 158)) (dX.new w1 _ _) (λb hb=>by have:=(Vp.lt b hb).2;omega);have z1:=K1.lt;clear Vp VJ hd;go_wp2_with fail;refine(Uy _ w1.heap.size wb (fO t) R2).V ?_
  cases h3:pZ (fO t)with
  |error p=>
   rintro e w3 ⟨rfl,j,A⟩;obtain rfl:r= .error (2,p):=by rw[<-VG.o,h3]
   unfold dY;go_wp2;refine⟨rfl,rfl,C2.J ⟨A.os,A.tape,A.output,A.size,λk hk=> ?_⟩⟩
   rw[Below.block A k Ve,De,dW,dO Vc]
  |ok q=>
   obtain⟨bs,j⟩:=q;rintro e w3 ⟨⟨a,n,c,cs,rfl,VL,VF⟩,R3,A⟩
   have C3:Below w.heap.size w w3:=C2.J ⟨A.os,A.tape,A.output,A.size,λk hk=>by
    rw[Below.block A k Ve,De,dW,dO Vc]⟩
   have K3:=K2.adv_ A K2.lt Vc;have z3:w1.heap.size+1<=w3.heap.size:=by have:=A.size;simpa using this
   have Vx:=VL.V (S':=λb=>w.heap.size<b) (λb hb _=>by simp at hb;omega);have Vy:=VF.V (S':=λb=>w.heap.size<b) (λb hb _=>by simp at hb;omega);have OK:=xz (p8 t ht) h3;have C4:=C3.alloc C3.size (Obj.cells #[.slice a n c] 87);have K4:=K3.alloc (Obj.cells #[.slice a n c] 87);have J4:=dX.new w3 #[.slice a n c] 87;have Vz:=Vx.O (w':=w3.U5 #[.slice a n c] 87) (λb _ hb=>Below.l _ _ _ hb);have VA:=Vy.O (w':=w3.U5 #[.slice a n c] 87) (λb _ hb=>Below.l _ _ _ hb);have VN:GOK (w3.U5 #[.slice a n c] 87):=hg.O (C4.block _ hg.lt);clear VL VF R3 Vx Vy;go_wp2_with fail;refine(UJ _ a n c bs cs _ Vz VA OK.2 OK.1 VN).V ?_
   cases h4:fP (fJ bs) [] 0 bs with
   |error p=>
    rintro e w5 ⟨he,Vw⟩;obtain rfl:e=dY 3 p:=he;obtain rfl:r= .error (3,p):=by rw[<-VG.o,h3];simp only[h4]
    unfold dY;go_wp2
    exact⟨rfl,rfl,C4.J (Vw.V C4.size)⟩
   |ok u=>
    rintro e w5 ⟨he,Vw⟩;obtain rfl:e= .returned (.tuple #[]):=he;obtain rfl:r= .ok bs:=by rw[<-VG.o,h3];simp only[h4]
    have C5:=C4.J (Vw.V C4.size);have K5:=K4.G Vw K4.lt;have J5:=J4.G Vw J4.lt;have VH:=Vz.O (w':=w5) (λb _ hb=>Vw.block b hb);have VI:=VA.O (w':=w5) (λb _ hb=>Vw.block b hb);have⟨k1,k2⟩:=K5.I;have⟨j1,j2⟩:=J5.I;go_wp2;have K6:=K5.sets_all [.slice a n c] rfl;have C6:Below w.heap.size w (w5.setCells w.heap.size 0 [.slice a n c]):=C5.J ((Below.refl w.heap.size w5).setCell (p:=⟨w.heap.size,0,none⟩) (aE _) (.slice a n c));refine dR (el results36 _ _ rfl K6 underlying87 Vh) rfl ⟨⟨a,n,c,cs,rfl,?_,?_⟩,C6⟩;.have h9:=VH.O (w':=w5.setCells w.heap.size 0 [.slice a n c]) (λb hb _=>iA _ _ (by have:w.heap.size<b:=hb;omega) _ _);exact h9.V (λb hb _=>by have:w.heap.size<b:=hb;omega)
    .have h9:=VI.O (w':=w5.setCells w.heap.size 0 [.slice a n c]) (λb hb _=>iA _ _ (by have:w.heap.size<b:=hb;omega) _ _);exact h9.V (λb hb _=>by have:w.heap.size<b:=hb;omega)
def eh (bs:List d7):List ByteArray:=(bs.filter λb=> !b.enum).map λb=>b.name.1
def UL (w:World)(ta:Option Addr)(tn tc:Nat)(bs:List d7)(cs:List Value)(S:Nat->Prop)(Vp:eO w S 152 6 (.slice ta tn tc) bs.length cs)(VF:ft w S cs bs)(hlen:bs.length<=2001)(hok:∀b∈bs,po b):
  Calls prog 66 #[.agg #[.slice ta tn tc]] w λe w'=>∃v,e= .returned v/\w'.ownsRow w.heap.size 9 1 v (eh bs).length (fS (eh bs))/\Below w.heap.size w w':=by
 have VO:=fh Vp.1;subst VO;have⟨i0,VQ,VR,VS,VT⟩:=info_parts Tryz.info9;have C0:=(Va w).alloc (aE _) (Obj.cells #[.slice ta bs.length tc] 87);go_in
 go_wp2;go_loopw [3,9] (λv i wr=>∃(k:Nat) (l:List ByteArray),k<=bs.length/\i= .int .i64 k/\l.length<=k/\Hid (l++eh (bs.drop k)=eh bs)/\wr.ownsRow w.heap.size 9 1 v l.length (fS l)/\Below w.heap.size w wr) (λ_ i _=>bs.length-(intOf i).toNat)
 case atStart=>exact⟨0,[],aP _,rfl,aE _,by simp[Hid],br _ _ _ _,C0⟩
 case round=>
  clear C0;obtain⟨k,l,hk,rfl,hll,HP,VC,CW⟩:=hrel;by_cases hlt:k<bs.length
  .have⟨b,hb⟩:=gx hlt;have VP:=hok b (aL hb);have Vq:bs.drop k=b::bs.drop (k+1):=(by rw[be hlt];rw[aO hlt]at hb;rw[Option.some.inj hb]);obtain⟨g,rfl,_,VK,Vs⟩:=eH Vp.1 Vc;have⟨pa,pn,pc,va,vn,vc,p0,p1,p2,p3,p4,p5,VU⟩:=VF.get hb;have Vv:=Vs wr (CW.block g VK);rw[Nat.add_zero]at p0;have q0:=Vv _ _ p0;have q1:=Vv _ _ p1;have q2:=Vv _ _ p2;have q3:=Vv _ _ p3;have q4:=Vv _ _ p4;have q5:=Vv _ _ p5;have KB:=dX.new wr #[.bool b.enum,.int .i64 (dV b.name.1),.string b.name.1,.int .i64 b.name.2,.slice pa pn pc,.slice va vn vc] 152;have CA:=CW.alloc CW.size (Obj.cells #[.bool b.enum,.int .i64 (dV b.name.1),.string b.name.1,.int .i64 b.name.2,.slice pa pn pc,.slice va vn vc] 152);have Vr:=VC.alloc (Obj.cells #[.bool b.enum,.int .i64 (dV b.name.1),.string b.name.1,.int .i64 b.name.2,.slice pa pn pc,.slice va vn vc] 152);clear Vs Vv p0 p1 p2 p3 p4 p5 hb VU;cases hen:b.enum
   .rw[hen]at q0 KB CA Vr;have VB:Hid ((l++ [b.name.1])++eh (bs.drop (k+1))=eh bs):=(by have:=HP.o;rw[Vq]at this;simpa [eh,hen,Hid]using this);clear Vq;go_wp2_with fail;refine(UC _ _ VP.name).V ?_;rintro e w4 ⟨rfl,VM⟩;have C4:=CA.J (VM.V CA.size);have Vt:=eX VM Vr;clear q0 q1 q2 q3 q4 q5;go_wp2_with (first|(at_builtin;refine wpList_append_own_at _ rfl _ _ 30 rfl w.heap.size 9 i0 _ 1 16 underlying30 VQ VR VS VT rfl Vf u3 _ _ rfl (Vt.alloc _) _ 1 1 [_] rfl rfl (cell_one_new _ _ _) ?h1 ?h63 ?hby ?hba ?_;rotate_right;intro v' w5 VD VE hnil hloc))
    case h1=>intro u hu;simp at hu;subst hu;rfl
    case h63=>unfold maxLen;omega
    case hby=>omega
    case hba=>have:=C4.size;simp;omega
    refine⟨⟨k+1,l++ [b.name.1],Vc,by go_num,Ve,VB,?_,?_⟩,by simp[intOf];omega⟩;.simpa [fS]using VD
    .exact(C4.alloc C4.size _).grown VE (by have:=C4.size;simp;omega) (λj hj=>(Vt.lt j hj).1)
   .rw[hen]at q0 KB CA Vr;have VB:Hid (l++eh (bs.drop (k+1))=eh bs):=(by have:=HP.o;rw[Vq]at this;simpa [eh,hen,Hid]using this);clear Vq;go_wp2;go_roundw
    case rel=>exact⟨k+1,l,Vc,by go_num,Vc,VB,Vr,CA⟩
    case measure=>simp[intOf];omega
  .have Vu:bs.drop k= []:=by rw[cS];omega
   have VB:Hid (l=eh bs):=(by have:=HP.o;rw[Vu]at this;simpa [eh,Hid]using this);clear Vu;go_wp2;go_ret;refine⟨_,rfl,?_,CW⟩;rw[<-VB.o];exact VC
end
section
variable {stop:Nat->Bool} {ws:List W} {form:Int} {i j:Nat} {f:eU} {p:fI}
structure ui (f:eU):Prop where
 size:f.type.1.size<=2000
 kind:dV f.type.1=3\/dV f.type.1=1
 key:f.form=4<->f.key.isSome=true
def uj (p:fI):Prop:=
 (∀f∈p.fields,ui f)/\((∃o,p.oneof=some o/\dV o.1=1/\∀f∈p.fields,f.form=3)\/(p.oneof=none/\∃f,p.fields= [f]/\(f.form=0\/f.form=1\/f.form=2\/f.form=4)))
def Bv (b:d7):Prop:=∀p∈b.parts,uj p
theorem oF {α:Type}{p:Nat->oB α}{Q:α->Prop}(hp:∀i a j,p i= .ok (a,j)->Q a):∀(n i:Nat) (l:List α) (j:Nat),gI stop p n i= .ok (l,j)->∀a∈l,Q a
 |0,i,l,j,h=>by
  simp[gI]at h
  simp_all
 |n+1,i,l,j,h=>by
  unfold gI at h;split at h;.simp_all
  .have⟨a,k,h1,h⟩:=d6 h;have⟨r,k2,h2,h⟩:=d6 h;simp at h;obtain⟨rfl,_⟩:=h;intro x hx;rcases aS.1 hx with rfl|hx;.grind
   .exact oF hp n k r k2 h2 x hx
theorem lq (H:ug ws)(hf:form≠4)(h:fX ws form i= .ok (f,j)):ui f/\f.form=form:=by
 unfold fX at h;have⟨t,i1,h1,h⟩:=d6 h;have⟨nm,i2,h2,h⟩:=d6 h;simp at h;obtain⟨rfl,_⟩:=h;have⟨_,h3,h4⟩:=lW _ _ _ _ h1;exact⟨⟨H.size _ _ h3,h4,by grind⟩,rfl⟩
theorem Fi (H:ug ws)(h:nN ws i= .ok (f,j)):ui f/\f.form=4:=by
 unfold nN at h;have⟨_,i1,_,h⟩:=d6 h;have⟨_,i2,_,h⟩:=d6 h;have⟨k,i3,_,h⟩:=d6 h;have⟨_,i4,_,h⟩:=d6 h;have⟨t,i5,h5,h⟩:=d6 h;have⟨_,i6,_,h⟩:=d6 h;have⟨nm,i7,_,h⟩:=d6 h;simp at h;obtain⟨rfl,_⟩:=h;have⟨_,h3,h4⟩:=lW _ _ _ _ h5;exact⟨⟨H.size _ _ h3,h4,Vd⟩,rfl⟩
theorem BA (H:ug ws)(h:jg ws i= .ok (p,j)):uj p:=by
 unfold jg at h;have⟨_,i1,_,h⟩:=d6 h;have⟨o,i2,h2,h⟩:=d6 h;have⟨_,i3,_,h⟩:=d6 h;have⟨f,i4,h4,h⟩:=d6 h;have⟨l,i5,h5,h⟩:=d6 h;have⟨_,i6,_,h⟩:=d6 h;have⟨l',i7,h7,h8⟩:=d6 h5;simp at h;obtain⟨rfl,_⟩:=h;simp at h8;obtain⟨rfl,_⟩:=h8;have a4:=lq H Vf h4;have a7:=oF (Q:=λf=>ui f/\f.form=3) (λi a j h=>lq H Vf h) _ _ _ _ h7;have ho:=(iQ _ _ _ _ _ h2).2.2;have all:∀x∈f::l',ui x/\x.form=3:=(by simp_all);exact⟨λx hx=>(all x hx).1,.inl ⟨o,rfl,ho,λx hx=>(all x hx).2⟩⟩
theorem mM {r:oB eU}(hr:∀f j,r= .ok (f,j)->ui f/\(f.form=0\/f.form=1\/f.form=2\/f.form=4))(h:mw r= .ok (p,j)):uj p:=by
 have⟨f,i1,h1,h⟩:=d6 h;simp at h;obtain⟨rfl,_⟩:=h;have:=hr _ _ h1;exact⟨by simp_all,.inr ⟨rfl,f,rfl,this.2⟩⟩
theorem Dq (H:ug ws)(h:kA ws i= .ok (p,j)):uj p:=by
 unfold kA at h;split at h;.exact BA H h
 .split at h;.exact mM (λf j hf=>by have:=Fi H hf;simp_all) h
  .split at h;.exact mM (λf j hf=>by have:=lq H Vf hf;simp_all) h
   .split at h;.exact mM (λf j hf=>by have:=lq H Vf hf;simp_all) h
    .exact mM (λf j hf=>by have:=lq H Vf hf;simp_all) h
theorem Dr (H:ug ws){bs:List d7}(h:pZ ws= .ok (bs,j)):∀b∈bs,Bv b:=by
 refine oF (Q:=Bv) (λi b j hb=> ?_) _ _ _ _ h;unfold jT at hb;split at hb;.unfold lV at hb;have⟨_,i1,_,hb⟩:=d6 hb;have⟨n,i2,_,hb⟩:=d6 hb;have⟨_,i3,_,hb⟩:=d6 hb;have⟨l,i4,_,hb⟩:=d6 hb;have⟨_,i5,_,hb⟩:=d6 hb;simp at hb;obtain⟨rfl,_⟩:=hb;intro p hp;simp at hp
 .unfold ia at hb;have⟨_,i1,_,hb⟩:=d6 hb;have⟨n,i2,_,hb⟩:=d6 hb;have⟨_,i3,_,hb⟩:=d6 hb;have⟨l,i4,h4,hb⟩:=d6 hb;have⟨_,i5,_,hb⟩:=d6 hb;simp at hb;obtain⟨rfl,_⟩:=hb;exact oF (Q:=uj) (λi p j hp=>Dq H hp) _ _ _ _ h4
end
end Go.Proofs.YtfebdimolnobaaaGreatDoor
namespace Go.Proofs
open Go.Shelf
theorem Tryz.bShelfSrt {f:FuncId}{B:Func}(h:((prog.funcs[f]?).elim "" Func.name== "runtime.NumGoroutine")=false)(k:prog.funcs[f]?=some {B with name:=(prog.funcs[f]?).elim "" Func.name}):Bears prog f B:=⟨_,h,k⟩
def Tryz.sortF_ren:Go.Shelf.Ren:=⟨fun|6=>112|15=>169|14=>168|28=>254|29=>255|20=>246|21=>247|22=>248|23=>249|24=>250|25=>251|26=>252|27=>253|46=>331|47=>332|48=>333|49=>334|50=>335|57=>400|n=>n,fun|22=>106|24=>212|25=>222|3=>3|39=>295|0=>0|53=>164|55=>53|4=>4|46=>367|45=>366|50=>331|5=>5|9=>9|66=>428|70=>431|76=>468|77=>469|n=>n,fun|n=>n⟩
theorem Tryz.sortF:Go.Proofs.SlLaysF.n6 Tryz.prog Tryz.sortF_ren:=by constructor<;>first|kernel_rfl|(intro w;kernel_rfl)|(apply Tryz.bShelfSrt<;>kernel_rfl)
end Go.Proofs
namespace Go.Proofs.YtfebdimolnobaaaGreatDoor
open Go.RowKit Go.Proofs.Tryz
section
open Go.Maps Go.Sort
open Vo
def Qv (a b:Nat)(x y:Int)(w:aw)(ha:w.cell? (aj a 0)=some (aa x))(hb:w.cell? (aj b 0)=some (aa y)):
  Calls prog 113 #[ah a,ah b] w λe w'=>e= .returned (aa (lu x y))/\∃q,w'=w.drewN q:=by
 have hC:=qR x y;generalize lu x y=c at hC⊢;have hda:w.drew.cell? (aj a 0)=some (aa x):=ha;have hdb:w.drew.cell? (aj b 0)=some (aa y):=hb;go_in
 go_wp2;go_region_with (first|(go_at_call 114;refine(hC _).V ?_;rintro e w' ⟨rfl,rfl⟩))
 all_goals
  go_wp2;go_ret;exact⟨rfl,1,rfl⟩
end
section
open Go.Maps Go.Sort
section
variable {α:Type} [Inhabited α] {enc:α->Value}
def Dz {w:aw}{g n:Nat}{os:Array Obj}{Vp:aq}{e:TypeId}{fr:Nat×Nat}(d:Array α)(hb:w.heap[g]?=some (.cells Vp e fr)):
  (sortWorld enc w g 0 n d os).heap[g]?=some (.cells (putCells enc 0 d Vp) e fr):=by
 have hg:g<w.heap.size:=(bI.1 hb).1;unfold sortWorld;rw[heap_grow_old _ _ (by simpa using hg)];simp[putRow,mapBlock,Sort.ahead,Array.getElem?_modify,hb,onCells]
def uk {w:aw}{g n:Nat}{os:Array Obj}(d:Array α):w.grownBy (sortWorld enc w g 0 n d os) (some g):=by
 refine⟨rfl,rfl,rfl,by simp[sortWorld],λk hk Vx=> ?_⟩;unfold sortWorld;rw[heap_grow_old _ _ (by simpa using hk)];have:g≠k:=λe=>Vx (by rw[e])
 simp[putRow,mapBlock,Sort.ahead,Array.getElem?_modify,this]
def DB (Vp:aq)(ts:List α)(h:ts.length<=Vp.size):(putCells enc 0 ts.toArray Vp).toList.take ts.length=ts.map enc:=by
 apply List.ext_getElem?;intro j;by_cases hj:j<ts.length;.rw[cB hj,bO];simp[putCells,hj,show j<Vp.size by omega]
 .rw[List.getElem?_take_eq_none Vc,bf Ve]
def DC {w:aw}{base g cap n m:Nat}{e:TypeId}{os:Array Obj}{Vp:aq}{ts:List α}(hl:ts.length=m)(hbase:base<=g)(hb:w.heap[g]?=some (.cells Vp e (0,0)))
  (h1:m<=cap) (h2:cap<=maxLen) (h3:Vp.size=cap*1):
  (sortWorld enc w g 0 n ts.toArray os).ownsRow base e 1 (U9 g m cap) m (ts.map enc):=
 ⟨by simp[hl],.inr ⟨g,cap,_,rfl,hbase,Dz _ hb,h1,h2,by simp[putCells,h3],by rw[Nat.mul_one,<-hl];exact DB Vp ts Vc⟩⟩
def Ah {w:aw}{g:Nat}{Vp:aq}{e:TypeId}{ss:List α}(hb:w.heap[g]?=some (.cells Vp e (0,0)))(ht:Vp.toList.take ss.length=ss.map enc):Holds enc w g 0 ss.toArray:=by
 intro j hj;have Vv:j<ss.length:=by simpa using hj
 refine⟨?_,by simp[World.frozen?,hb]⟩;have h1:(Vp.toList.take ss.length)[j]?=(ss.map enc)[j]?:=by rw[ht]
 rw[cB Vv]at h1;simp only[World.cell?,hb,Nat.zero_add];simp only[Option.isSome_none,aU,if_false];rw[<-bO,h1];simp[Vv]
end
def Ai {β:Type}{p:β->Prop}:∀l:List β,(∀x∈l,p x)->∃D:List {x:β//p x},D.map (·.1)=l
 | [],_=>⟨[],rfl⟩
 |x::l,h=>by
  have⟨D,hD⟩:=Ai l (λy hy=>h y (aY _ hy));exact⟨⟨x,h x aZ⟩::D,by simp[hD]⟩
def lE (w:aw)(g:Nat):Type:={x:Int×Nat//w.cell? (aj x.2 0)=some (aa x.1)/\x.2≠g}
def lE.enc {w:aw}{g:Nat}(x:lE w g):Value:=gZ (some x.1.2)
def lE.cf {w:aw}{g:Nat}(x y:lE w g):Int:=lu x.1.1 y.1.1
def lE.lt {w:aw}{g:Nat}(x y:lE w g):ltOf (lE.cf (w:=w) (g:=g)) x y=decide (x.1.1<y.1.1):=by
 unfold ltOf lE.cf;rw[cy];simp[nU]
def lE.swo (w:aw)(g:Nat):SWO (ltOf (lE.cf (w:=w) (g:=g)))where
 irrefl x:=by rw[lE.lt];simp
 trans x y z h1 h2:=by rw[lE.lt]at*;simp at*;omega
 ntrans x y z h1 h2:=by rw[lE.lt]at*;simp at*;omega
def Qw (w:aw)(lo:Nat)(v:Value)(l:List (Int×Nat))(e:Ending)(w':aw):Prop:=
 e= .returned (.tuple #[])/\∃l':List (Int×Nat),l'.Perm l/\l'.Pairwise (λa b=>a.1<=b.1)/\w'.ownsRow lo 212 1 v l.length (fx (l'.map (·.2)))/\w.grownBy w' v.ownBlock
def Qx (w:aw)(lo:Nat)(v:Value)(l:List (Int×Nat))(hrow:w.ownsRow lo 212 1 v l.length (fx (l.map (·.2))))(hc:∀x∈l,w.cell? (aj x.2 0)=some (aa x.1))(Vx:∀x∈l,v.ownBlock≠some x.2)(hl:l.length<=2001):
  U8 112 #[v,.func (.func 113) #[] #[]] w (Qw w lo v l):=by
 by_cases h0:l= [];.subst h0;obtain⟨a,c,rfl⟩:=iz hrow;refine(AnyF.slices_SortFunc_none (P:=prog) (ρ:=Tryz.sortF_ren) {Tryz.sortF with} a c _ w).V ?_;rintro e w' ⟨rfl,rfl⟩;exact⟨rfl,[],List.Perm.refl _,List.Pairwise.nil,hrow,⟨rfl,rfl,rfl,aE _,λ_ _ _=>rfl⟩⟩
 .rcases hrow.2 with⟨rfl,h1⟩|⟨g,cap,Vp,rfl,hg,hb,hn,hm,hs,ht⟩;.exact absurd (bE h1) h0
  .have Vz:g<w.heap.size:=dX.lt hb;have hp:∀x∈l,w.cell? (aj x.2 0)=some (aa x.1)/\x.2≠g:=λx hx=>⟨hc x hx,λe=>Vx x hx (by rw[e];rfl)⟩
   have⟨x0,VC⟩:=List.exists_mem_of_ne_nil l h0;haveI:Inhabited (lE w g):=⟨⟨x0,hp x0 VC⟩⟩;obtain⟨D,hD⟩:∃D:List (lE w g),D.map (·.1)=l:=Ai l hp;have Vy:D.length=l.length:=by rw[<-hD];simp
   have Vs:fx (l.map (·.2))=D.map lE.enc:=(by rw[<-hD];unfold fx;rw[bJ,bJ];rfl);have eg:∀args w,(callFunc 113 args).run prog w= .ok (.enter 113 args) w:=enters_of func113 Vh rfl
   have Vw:CmpLays1 prog 113 #[] (lE.enc (w:=w) (g:=g)) lE.cf g 0 D.toArray.size w:=by
    intro m os dk hsz x y
    have Vq:∀z:lE w g,(sortWorld lE.enc w g 0 m dk os).cell? (aj z.1.2 0)=some (aa z.1.1):=λz=>by
     have hz:=aV _ _ z.2.1;have VA:=(uk (enc:=lE.enc) (w:=w) (g:=g) (n:=m) (os:=os) dk).block z.1.2 hz (λe=>z.2.2 (Option.some.inj e));exact(bC (a:=(aj z.1.2 0)) VA).J z.2.1
    refine(Qv x.1.2 y.1.2 x.1.1 y.1.1 _ (Vq x) (Vq y)).V ?_;rintro e w' ⟨rfl,q,rfl⟩;exact⟨rfl,q,#[],by rw[grow_empty]⟩
   have hH:Holds lE.enc w g 0 D.toArray:=Ah hb (by rw[Vy,<-Vs];simpa using ht);have Vt:=Any.slices_SortFunc Tryz.sortF lE.enc (λ_=>rfl) lE.cf (lE.swo w g) 113 #[] g 0 cap D.toArray w eg Vw hH Vz Ve;have e1:(D.toArray.size)=l.length:=by simpa using Vy
   rw[e1]at Vt;refine Vt.V ?_;rintro e w' ⟨rfl,d',n,os,Vr,Vu,rfl⟩;have hsz:d'.size=l.length:=by rw[Vr.1];exact e1
   refine⟨rfl,d'.toList.map (·.1),?_,?_,?_,uk d'⟩;.have h2:=Vr.2.2;rw[<-e1]at h2;rw[dG,show D.toArray.size=d'.size from by rw[hsz];exact e1,dG]at h2;rw[<-hD];exact List.Perm.map _ (by simpa using h2)
   .rw[cw,bV];intro i j hi hj VD;have VB:i<d'.size:=by simpa using hi
    have Vv:j<d'.size:=by simpa using hj
    have h2:=Vu i j (aP _) VD Vc;rw[lE.lt,getElem!_pos d' i VB,getElem!_pos d' j Vv]at h2;simp at h2⊢;exact h2
   .have e2:fx ((d'.toList.map (·.1)).map (·.2))=d'.toList.map lE.enc:=(by unfold fx;rw[bJ,bJ];rfl);rw[e2];have:=DC (enc:=lE.enc) (n:=n) (os:=os) (ts:=d'.toList) (m:=l.length) (by simpa using hsz) hg hb hn hm hs;simpa using this
end
section
open Vo
def pS {α:Type}(w:aw)(rb:Nat)(s:au)(deep:Int)(r:Fx (α×Nat))(V:α->Value)(e:Ending)(w':aw):Prop:=
 ec [rb] w w'/\(match r with
 | .error x=>e=dY x.1 x.2
 | .ok x=>e= .returned (V x.1)/\ee w' rb s x.2 deep)
def ec.set1 {bs:aB}{a b:aw}(h:ec bs a b){c:Nat}(hp:c∈bs)(off:Nat)(u:Value):ec bs a (b.setCell (aj c off) u):=
 h.J ⟨rfl,rfl,rfl,Vd,λk _ hn=>by
  rw[dW,dO];intro e;rw[e]at hp
  exact hn hp⟩
def QB:∀c:Fin 256,bits .andNot .u8 ((c.val:Nat):Int) 128=((c.val%128:Nat):Int)/\(bits .and .u8 ((c.val:Nat):Int) 128==0)=decide (c.val<128):=Vg
def GV {c:Int}(h0:0<=c)(h1:c<256):bits .andNot .u8 c 128=c%128/\(bits .and .u8 c 128==0)=decide (c<128):=by
 obtain⟨n,rfl⟩:=bF h0;have:=QB ⟨n,Vc⟩;refine⟨?_,?_⟩;.rw[this.1];simp
 .rw[this.2,cy];simp;omega
def Oi {n x:Int}{k:Nat}(h0:0<=n)(h1:n<2^k)(hx:0<=x)(h2:n+x*2^k<2^64):bits .or .u64 n (x*2^k)=n+x*2^k:=by
 obtain⟨a,rfl⟩:=bF h0;obtain⟨b,rfl⟩:=bF hx;have e:((b:Int)*2^k)=((b*2^k:Nat):Int):=by push_cast;rfl
 rw[e]at h2⊢;have ha:a<2^k:=by exact_mod_cast h1
 rw[bits_or_u64_nat a (b*2^k) Vc Vc,Nat.or_comm,<-dv,<-dg ha,dv]
 push_cast
 omega
def ee.drewN {w:aw}{rb:Nat}{s:au}{a:Nat}{deep:Int}(h:ee w rb s a deep)(q:Nat):ee (w.drewN q) rb s a deep:=h
def nr (w:aw)(rb:Nat)(s:au)(a:Nat)(deep:Int)(h:ee w rb s a deep)(hs:s.size<=2^47):
  Calls prog 182 #[ah rb] w (pS w rb s deep (iT s a s.size) (Value.int .u64)):=by
 obtain⟨r,HR⟩:∃r,Hid (iT s a s.size=r):=⟨_,rfl⟩;rw[HR.o];have⟨k1,k2⟩:=dX.I h;go_in
 go_wp2;clear k1 k2;go_loopw [4,5] (λv sh wr=>∃(i:Nat) (n:Int),i<=9/\v= .int .u64 n/\sh=aa ((7*i:Nat):Int)/\0<=n/\n<2^(7*i)/\Hid (mH s a s.size (10-i) i n=r)/\ee wr rb s (a+i) deep/\ec [rb] w wr) (λ_ sh _=>63-(intOf sh).toNat)
 case atStart=>exact⟨0,0,Vc,rfl,rfl,Vc,Vd,HR,h,ec.refl _ _⟩
 case round=>
  clear HR;obtain⟨i,n,hi,rfl,rfl,VE,VF,HV,Vr,HK⟩:=hrel;have hrl:=dX.lt Vr;obtain⟨m,hm⟩:∃m,10-i=m+1:=⟨9-i,Vc⟩;have HN:Hid (n<2^(7*i)):=VF;clear VF;by_cases hlt:a+i<s.size
  .have Vu:=jJ (t:=s) (k:=a+i) hlt;have Vy:=kO s (a+i);obtain⟨c,hc⟩:=Y9 (fZ s (a+i));have HC:Hid (fZ s (a+i)=c):=hc;rw[hc]at Vu Vy;clear hc;obtain⟨Vx,VG⟩:=Vy;obtain⟨z,hz⟩:=Y9 (a+i);have HZ:Hid (a+i=z):=hz;rw[hz]at Vr hlt;have hbk2:(s[z].toNat:Int)=c:=by simp only[<-hz];exact Vu
   clear hz Vu;go_wp2_with fail;refine(sf _ _ _ _ _ Vr).V ?_;rintro e w2 ⟨rfl,q,rfl⟩;rw[decide_eq_true hlt];have Vz:=Vr.drewN q;have VH:=HK.drewN q;generalize wr.drewN q=wq at*;have hzl:(z:Int)<(s.size:Int):=Vc;have⟨k1,k2⟩:=dX.I Vz;go_upto_region 6 with fail
   go_quiet (fail);have Vs:ee (wq.drewN nq) rb s z deep:=Vz.drewN nq;have Vt:=VH.drewN nq;generalize wq.drewN nq=w3 at*;clear k1 k2;have⟨k1,k2⟩:=dX.I Vs;by_cases h9:i=9/\1<c;.obtain⟨rfl,VC⟩:=h9;have HE:Hid (r= .error (7,(a:Int))):=(by have:=HV.o;rw[hm,mH,dP (by have:=HZ.o;omega),dP ⟨rfl,by rw[HC.o];exact VC⟩]at this;exact this.sy);clear HN HV;go_wp2_with fail;refine(JM _ _ _).V ?_;rintro e w4 ⟨rfl,rfl⟩;go_wp2;rw[HE.o];exact⟨rfl,Vt,rfl⟩
   .have VA:¬(7*(i:Int)==63)=true\/¬1<c:=by
     by_cases h:i=9;.exact .inr (λhc=>h9 ⟨h,hc⟩)
     .exact .inl Ve
    have hg:=BF (i:=i) (c:=c) VE HN.o;have VB:Hid (n+c%128*2^(7*i)<2^(7*(i+1))):=hg.2;have Vv:=hg.1;have Vq:0<=c%128:=Int.emod_nonneg _ Vf;have Vw:0<=c%128*2^(7*i):=Int.mul_nonneg Vq (Int.le_of_lt (Int.pow_pos Vf))
    have Vp:n+c%128*2^(7*i)<2^64:=by
     by_cases h:i=9
     .subst h;have h1:=HN.o;have VC:¬1<c:=λh=>h9 ⟨rfl,h⟩
      have:c%128=c:=Int.emod_eq_of_lt Vx Vc;rw[this];simp only[Nat.reduceMul,Int.reducePow]at*;omega
     .have h2:(2:Int)^(7*(i+1))<=2^63:=xG Vc;have h1:=hg.2;omega
    have HX:Hid (bits BinOp.or IntKind.u64 n (IntKind.u64.wrap (IntKind.u64.wrap (bits BinOp.andNot IntKind.u8 c 128)*2^(7*i)))=n+c%128*2^(7*i)):=(by have VI:=gD Vq Vc;have VJ:=gD Vw Vc;show bits BinOp.or IntKind.u64 n (IntKind.u64.wrap (IntKind.u64.wrap (bits BinOp.andNot IntKind.u8 c 128)*2^(7*i)))=n+c%128*2^(7*i);rw[(GV Vx VG).1,VI,VJ];exact Oi VE HN.o Vq Vp);have VD:=(GV Vx VG).2;clear hg;by_cases hc8:c<128
    .have HE:Hid (r= .ok (n+c%128*2^(7*i),z+1)):=(by have:=HV.o;rw[hm,mH,dP (by have:=HZ.o;omega),dO (by rw[HC.o];exact h9),HC.o,dP hc8,HZ.o]at this;exact this.sy);rw[decide_eq_true hc8]at VD;clear HV HN VB Vv Vq Vw Vp;cases VK:(7*(i:Int)==63);.go_wp2;go_ret;rw[HE.o,<-HX.o];exact⟨Vt.set1 Vd _ _,rfl,by unfold ee;simpa using dX.set Vs 1 (aa ((z:Int)+1))⟩
     .have hc1':decide ((1:Int)<c)=false:=by rcases VA with h|h<;>simp_all
      go_wp2;go_ret;rw[HE.o,<-HX.o];exact⟨Vt.set1 Vd _ _,rfl,by unfold ee;simpa using dX.set Vs 1 (aa ((z:Int)+1))⟩
    .have hi8:i<9:=by
      by_cases h:i=9;.exact absurd ⟨h,Vc⟩ h9
      .omega
     have VK:(7*(i:Int)==63)=false:=Ve;have VL:Hid (mH s a s.size (10-(i+1)) (i+1) (n+c%128*2^(7*i))=r):=(by have:=HV.o;rw[hm,mH,dP (by have:=HZ.o;omega),dO (by rw[HC.o];exact h9),HC.o,dO hc8]at this;rw[show 10-(i+1)=m from by omega];exact this);rw[decide_eq_false hc8]at VD;have VM:Hid (0<=n+c%128*2^(7*i)):=Vv;clear HV HN Vv Vq Vw Vp VA;go_wp2;refine⟨⟨i+1,n+c%128*2^(7*i),Vc,by rw[HX.o],by congr 1,VM.o,VB.o,VL,?_,Vt.set1 Vd _ _⟩,by simp[intOf];omega⟩;have e1:((a+(i+1):Nat):Int)=(z:Int)+1:=by have:=HZ.o;omega
     unfold ee;rw[e1];simpa using dX.set Vs 1 (aa ((z:Int)+1))
  .have HE:Hid (r= .error (6,(a:Int))):=(by have:=HV.o;rw[hm,mH,dO hlt]at this;exact this.sy);clear HN HV;go_wp2_with fail;refine(sf _ _ _ _ _ Vr).V ?_;rintro e w2 ⟨rfl,q,rfl⟩;rw[decide_eq_false hlt];go_wp2_with fail;refine(JM _ _ _).V ?_;rintro e w4 ⟨rfl,rfl⟩;go_wp2;rw[HE.o];exact⟨rfl,HK.drewN q,rfl⟩
def pL (s:au)(a:Nat)(n:Int):Fx (au×Nat):=if(a:Int)+n<=s.size then .ok (s.extract a (a+n.toNat),a+n.toNat)else .error (6,a)
def xH (w:aw)(rb:Nat)(s:au)(a:Nat)(deep:Int)(n:Int)(h:ee w rb s a deep)(ha:a<=s.size)(hs:s.size<=2^47)(hn0:0<=n)(hn1:n<2^64):
  Calls prog 196 #[ah rb,.int .u64 n] w (pS w rb s deep (pL s a n) Value.string):=by
 obtain⟨L,hL⟩:=Y9 (s.extract a s.size);have hsz:L.size=s.size-a:=by rw[<-hL,bg];omega
 have Vr:Hid (∀(w:aw),ee w rb s a deep->U8 272 #[ah rb] w λe w'=>e= .returned (ag L)/\∃q,w'=w.drewN q):=λw h=>by
  rw[<-hL];exact Fo w rb s a deep h ha
 have hw:IntKind.u64.wrap (L.size:Int)=(L.size:Int):=gD Vc Vc;unfold pL;by_cases hle:(a:Int)+n<=s.size
 .rw[dP hle];obtain⟨k,rfl⟩:=bF hn0;have Vt:Hid (a+k<=s.size):=by show a+k<=s.size;omega
  have hki:(k:Int)<=2^47:=Vc;have hai:(a:Int)<=2^47:=Vc;have hd:decide (L.size<k)=false:=Ve;have hw2:IntKind.i64.wrap (k:Int)=(k:Int):=by simp[IntKind.wrap,IntKind.bits,IntKind.signed];omega
  clear hL hsz hle hn0 hn1 ha hs;go_in
  go_wp2_with fail;refine(Vr.o _ h).V ?_;rintro e w2 ⟨rfl,q,rfl⟩;have h2:=h.drewN q;have K2:ec [rb] w (w.drewN q):=(ec.refl _ _).drewN q;generalize w.drewN q=wq at*;have⟨k1,k2⟩:=dX.I h2;clear h Vr;go_wp2_with fail;have h3:ee (wq.setCell (aj rb 1) (aa ((a:Int)+(k:Int)))) rb s (a+k) deep:=by unfold ee;simpa using dX.set h2 1 (aa ((a:Int)+(k:Int)))
  have K3:=K2.set1 (c:=rb) Vd 1 (aa ((a:Int)+(k:Int)));refine(wA _ _ _ _ _ a h3 Vc Vt.o).V ?_;rintro e w3 ⟨rfl,q2,rfl⟩;go_wp2;go_ret;exact⟨K3.drewN q2,rfl,h3.drewN q2⟩
 .rw[dO hle];obtain⟨k,rfl⟩:=bF hn0;have hd:decide (L.size<k)=true:=Ve;clear hL hsz hle hn0 hn1 ha hs;go_in
  go_wp2_with fail;refine(Vr.o _ h).V ?_;rintro e w2 ⟨rfl,q,rfl⟩;have h2:=h.drewN q;have K2:ec [rb] w (w.drewN q):=(ec.refl _ _).drewN q;generalize w.drewN q=wq at*;have⟨k1,k2⟩:=dX.I h2;go_wp2_with fail;refine(JM _ _ _).V ?_;rintro e w4 ⟨rfl,rfl⟩;go_wp2;exact⟨rfl,K2,rfl⟩
def fk (s:au)(a:Nat):Fx (Nat×Nat):=
 match iT s a s.size with
 | .error x=> .error x
 | .ok x=>if(x.2:Int)+x.1<=s.size then .ok (x.2,x.2+x.1.toNat)else .error (6,x.2)
def GW (w:aw)(rb:Nat)(s:au)(deep:Int)(r:Fx (Nat×Nat))(e:Ending)(w':aw):Prop:=
 ec [rb] w w'/\(match r with
 | .error x=>e=dY x.1 x.2
 | .ok x=>∃nb,e= .returned (ah nb)/\w.heap.size<=nb/\nb≠rb/\ee w' nb (s.extract 0 x.2) x.1 deep/\ee w' rb s x.2 deep)
def oI (w:aw)(rb:Nat)(s:au)(a:Nat)(deep:Int)(h:ee w rb s a deep)(hs:s.size<=2^47):
  Calls prog 197 #[ah rb] w (GW w rb s deep (fk s a)):=by
 obtain⟨r,HR⟩:∃r,Hid (fk s a=r):=⟨_,rfl⟩;rw[HR.o];go_in
 go_wp2_with fail;refine(nr w rb s a deep h hs).V ?_
 cases hv:iT s a s.size with
 |error x=>
  rintro e w2 ⟨hk,he⟩;obtain rfl:e=dY x.1 x.2:=he;obtain rfl:r= .error x:=by rw[<-HR.o,fk,hv]
  unfold dY;go_wp2
  exact⟨rfl,hk,rfl⟩
 |ok x=>
  obtain⟨n,z⟩:=x;have⟨v0,v1,v2,v3⟩:=jj hv;rintro e w2 ⟨hk,he,hr⟩;have hr:=hr;obtain rfl:e= .returned (.int .u64 n):=he;have⟨k1,k2⟩:=dX.I hr;go_wp2_with fail;refine(xH w2 rb s z deep n hr v3 hs v0 v1).V ?_;unfold pL;by_cases hle:(z:Int)+n<=s.size
  .rw[dP hle];obtain rfl:r= .ok (z,z+n.toNat):=by rw[<-HR.o,fk,hv];simp only;rw[dP hle]
   rintro e w3 ⟨Vs,Vq,Vp⟩;have Vq:=Vq;subst Vq;obtain⟨m,hm⟩:=Y9 (z+n.toNat);have Vp:=Vp;rw[hm]at Vp;have HM:Hid (z+n.toNat=m):=hm;have hml:m<=s.size:=Vc;have K3:=hk.J Vs;have hlt:rb<w3.heap.size:=dX.lt Vp;have hlt0:rb<w.heap.size:=dX.lt h;have⟨k1,k2⟩:=dX.I Vp;have h4:dX w3.drew rb #[ag s,aa m,aa deep] 244:=Vp;go_wp2
   go_region_held3 (λw'=>w'.cell? (aj rb 0)=some (ag s)/\w'.cell? (aj rb 1)=some (aa m)/\w'.cell? (aj rb 2)=some (aa deep))
    (first|exact⟨(h4.alloc _).cell 0,(h4.alloc _).cell 1,(h4.alloc _).cell 2⟩|exact⟨h4.cell 0,h4.cell 1,h4.cell 2⟩)
    (fail)
   all_goals
    go_wp2;go_ret;have hn:=dX.newAt (w:=w3) rfl #[ag (s.extract 0 m),aa z,aa deep] 244;exact⟨(K3.alloc _).drew,_,rfl,by have:=K3.size;omega,Vc,by show ee _ _ (s.extract 0 (z+n.toNat)) z deep;rw[HM.o];exact hn,by show ee _ _ s (z+n.toNat) deep;rw[HM.o];exact h4.alloc _⟩
  .rw[dO hle];obtain rfl:r= .error (6,(z:Int)):=by rw[<-HR.o,fk,hv];simp only;rw[dO hle]
   rintro e w3 ⟨Vs,Vq⟩;obtain rfl:e=dY 6 z:=Vq;unfold dY;go_wp2;exact⟨rfl,hk.J Vs,rfl⟩
def ol (s:au)(a:Nat)(deep lv:Int):Fx (Nat×Nat):=
 match fk s a with
 | .error x=> .error x
 | .ok x=>if 8<deep+lv then .error (11,x.1)else .ok x
def Kq (w:aw)(rb:Nat)(s:au)(deep:Int)(r:Fx (Nat×Nat))(e:Ending)(w':aw):Prop:=
 ec [rb] w w'/\(match r with
 | .error x=>e=dY x.1 x.2
 | .ok x=>∃nb,e= .returned (ah nb)/\w.heap.size<=nb/\nb≠rb/\ee w' nb (s.extract 0 x.2) x.1 (deep+1)/\ee w' rb s x.2 deep)
def qU (w:aw)(rb:Nat)(s:au)(a:Nat)(deep lv:Int)(h:ee w rb s a deep)(hs:s.size<=2^47)(hd0:0<=deep)(hd1:deep<=8)(hl0:0<=lv)(hl1:lv<=2):
  Calls prog 185 #[ah rb,aa lv] w (Kq w rb s deep (ol s a deep lv)):=by
 obtain⟨r,HR⟩:∃r,Hid (ol s a deep lv=r):=⟨_,rfl⟩;rw[HR.o];go_in
 go_wp2_with fail;refine(oI w rb s a deep h hs).V ?_
 cases hv:fk s a with
 |error x=>
  rintro e w2 ⟨hk,he⟩;obtain rfl:e=dY x.1 x.2:=he;obtain rfl:r= .error x:=by rw[<-HR.o,ol,hv]
  unfold dY;go_wp2
  exact⟨rfl,hk,rfl⟩
 |ok x=>
  rintro e w2 ⟨hk,nb,rfl,Vx,Vv,Vw,Vy⟩;have⟨k1,k2⟩:=dX.I Vw;by_cases hd:8<deep+lv
  .obtain rfl:r= .error (11,(x.1:Int)):=by rw[<-HR.o,ol,hv];simp only;rw[dP hd]
   go_wp2_with fail;refine(JM _ _ _).V ?_;rintro e w4 ⟨rfl,rfl⟩;go_wp2;exact⟨rfl,hk,rfl⟩
  .have hdd:decide (8<deep+lv)=false:=Ve;obtain rfl:r= .ok x:=by rw[<-HR.o,ol,hv];simp only;rw[dO hd]
   go_wp2;go_ret;have h5:ee (w2.setCell (aj nb 2) (aa (deep+1))) nb (s.extract 0 x.2) x.1 (deep+1):=by unfold ee;simpa using dX.set Vw 2 (aa (deep+1))
   have h6:ee (w2.setCell (aj nb 2) (aa (deep+1))) rb s x.2 deep:=dX.other Vy 2 _ Vv;refine⟨?_,nb,rfl,Vx,Vv,h5,h6⟩;exact⟨hk.os,hk.tape,hk.output,by simpa using hk.size,λk Vs Vt=>by rw[dW,dO Vc];exact hk.block k Vs Vt⟩
def jW (s:au)(a:Nat):Fx ((Int×Int)×Nat):=
 match iT s a s.size with
 | .error x=> .error x
 | .ok x=>if x.1/8<1\/536870911<x.1/8 then .error (8,a)else if x.1%8=0\/x.1%8=1\/x.1%8=2\/x.1%8=5 then .ok ((x.1/8,x.1%8),x.2)else .error (9,a)
def Kr (w:aw)(rb:Nat)(s:au)(a:Nat)(deep:Int)(h:ee w rb s a deep)(hs:s.size<=2^47):
  Calls prog 131 #[ah rb] w (pS w rb s deep (jW s a) (λx=> .agg #[aa x.1,aa x.2])):=by
 obtain⟨r,HR⟩:∃r,Hid (jW s a=r):=⟨_,rfl⟩;rw[HR.o];have h1:ee (w.alloc (am #[aa 0,aa 0] 237)) rb s a deep:=dX.alloc h _;have K1:ec [rb] w (w.alloc (am #[aa 0,aa 0] 237)):=(ec.refl _ _).alloc _;have B1:=dX.new w #[aa 0,aa 0] 237;have hlt:rb<w.heap.size:=dX.lt h;have⟨k1,k2⟩:=dX.I h1;go_in
 go_wp2_with fail;generalize(w.alloc (am #[aa 0,aa 0] 237))=w1 at*;clear k1 k2;refine(nr w1 rb s a deep h1 hs).V ?_
 cases hv:iT s a s.size with
 |error x=>
  rintro e w2 ⟨hk,he⟩;obtain rfl:e=dY x.1 x.2:=he;obtain rfl:r= .error x:=by rw[<-HR.o,jW,hv]
  unfold dY;go_wp2
  exact⟨rfl,K1.J hk,rfl⟩
 |ok x=>
  obtain⟨t,z⟩:=x;have⟨v0,v1,v2,v3⟩:=jj hv;rintro e w2 ⟨hk,he,hr⟩;have hr:ee w2 rb s z deep:=hr;obtain rfl:e= .returned (.int .u64 t):=he;have K2:=K1.J hk;have B2:dX w2 w.heap.size #[aa 0,aa 0] 237:=(hk.block _ B1.lt Ve).J B1;have q1:t.tdiv 8=t/8:=Int.tdiv_eq_ediv_of_nonneg v0;have q2:t.tmod 8=t%8:=dB v0;have Vp:IntKind.i64.wrap (t%8)=t%8:=by simp[IntKind.wrap,IntKind.bits,IntKind.signed];omega
  have Vq:Hid (∀x y:Value,ec [rb] w ((w2.setCell (aj w.heap.size 0) x).setCell (aj w.heap.size 1) y)):=λx y=>
   ⟨K2.os,K2.tape,K2.output,by simpa using K2.size,λk Vs Vt=>by rw[dW,dO Vc,dW,dO Vc];exact K2.block k Vs Vt⟩
  have Vr:Hid (∀x y:Value,ee ((w2.setCell (aj w.heap.size 0) x).setCell (aj w.heap.size 1) y) rb s z deep):=λx y=>(dX.other hr 0 x Vc).other 1 y Vc
  have Vu:t/8<=536870911->IntKind.i64.wrap (t/8)=t/8:=λh=>by simp[IntKind.wrap,IntKind.bits,IntKind.signed];omega
  have⟨y7,y8⟩:=B2.I;by_cases hA:t/8=0
  .obtain rfl:r= .error (8,(a:Int)):=by rw[<-HR.o,jW,hv];simp only;rw[dP Vc]
   rw[hA]at q1;go_wp2_with fail;refine(JM _ _ _).V ?_;rintro e w4 ⟨rfl,rfl⟩;go_wp2;exact⟨rfl,K2,rfl⟩
  .have hA2:(t/8==0)=false:=Ve;by_cases hB:536870911<t/8
   .obtain rfl:r= .error (8,(a:Int)):=by rw[<-HR.o,jW,hv];simp only;rw[dP Vc]
    go_wp2_with fail;refine(JM _ _ _).V ?_;rintro e w4 ⟨rfl,rfl⟩;go_wp2;exact⟨rfl,K2,rfl⟩
   .have hB2:decide (536870911<t/8)=false:=Ve;have hw8:=Vu Vc;clear Vu;by_cases g0:t%8=0
    .obtain rfl:r= .ok ((t/8,0),z):=by rw[<-HR.o,jW,hv];simp only;rw[dO Vc,dP Vc,g0]
     rw[g0]at q2;clear g0 Vp;go_wp2;exact dR (el results131 _ _ rfl ((B2.set 0 _).set 1 _) underlying237 Vh) rfl ⟨Vq.o _ _,rfl,Vr.o _ _⟩
    have b0:(t%8==0)=false:=by simp[g0]
    by_cases g1:t%8=1
    .obtain rfl:r= .ok ((t/8,1),z):=by rw[<-HR.o,jW,hv];simp only;rw[dO Vc,dP Vc,g1]
     rw[g1]at q2;clear g1 Vp;go_wp2;exact dR (el results131 _ _ rfl ((B2.set 0 _).set 1 _) underlying237 Vh) rfl ⟨Vq.o _ _,rfl,Vr.o _ _⟩
    have b1:(t%8==1)=false:=by simp[g1]
    by_cases g2:t%8=2
    .obtain rfl:r= .ok ((t/8,2),z):=by rw[<-HR.o,jW,hv];simp only;rw[dO Vc,dP Vc,g2]
     rw[g2]at q2;clear g2 Vp;go_wp2;exact dR (el results131 _ _ rfl ((B2.set 0 _).set 1 _) underlying237 Vh) rfl ⟨Vq.o _ _,rfl,Vr.o _ _⟩
    have b2:(t%8==2)=false:=by simp[g2]
    by_cases g5:t%8=5
    .obtain rfl:r= .ok ((t/8,5),z):=by rw[<-HR.o,jW,hv];simp only;rw[dO Vc,dP Vc,g5]
     rw[g5]at q2;clear g5 Vp;go_wp2;exact dR (el results131 _ _ rfl ((B2.set 0 _).set 1 _) underlying237 Vh) rfl ⟨Vq.o _ _,rfl,Vr.o _ _⟩
    have b5:(t%8==5)=false:=by simp[g5]
    obtain rfl:r= .error (9,(a:Int)):=by rw[<-HR.o,jW,hv];simp only;rw[dO Vc,dO Vc]
    go_wp2_with fail;refine(JM _ _ _).V ?_;rintro e w4 ⟨rfl,rfl⟩;go_wp2;exact⟨rfl,K2,rfl⟩
end
section
variable {w:aw} {b:Nat} {S T:ax}
structure fK (w:aw)(S:ax)(w':aw)(S':ax):Prop where
 os:w'.os=w.os
 tape:w'.tape=w.tape
 output:w'.output=w.output
 size:w.heap.size<=w'.heap.size
 block:∀b,b<w.heap.size->¬S b->w'.heap[b]?=w.heap[b]?
 grow:∀b,S' b->S b\/w.heap.size<=b
theorem fK.refl (w:aw)(S:ax):fK w S w S:=⟨rfl,rfl,rfl,aE _,λ_ _ _=>rfl,λ_ h=> .inl h⟩
theorem fK.J {a b c:aw}{U:ax}(h:fK a S b T)(k:fK b T c U):fK a S c U:=
 ⟨k.os.J h.os,k.tape.J h.tape,k.output.J h.output,aM h.size k.size,
  λi hi hs=>(k.block i (aI hi h.size) (λht=>(h.grow i ht).elim hs (λx=>Vc))).J (h.block i hi hs),
  λi hi=>(k.grow i hi).elim (λx=>h.grow i x) (λx=> .inr (aM h.size x))⟩
theorem fK.G {a b c:aw}(h:fK a S b T)(k:Below b.heap.size b c):fK a S c T:=
 h.J ⟨k.os,k.tape,k.output,k.size,λi hi _=>k.block i hi,λ_ x=> .inl x⟩
theorem fK.alloc {a b:aw}(h:fK a S b T)(o:Obj):fK a S (b.alloc o) T:=h.G ((Below.refl _ _).alloc (aE _) o)
theorem fK.drew {a b:aw}(h:fK a S b T):fK a S b.drew T:=h.G (Below.refl _ _).drew
theorem dX.step {w1:aw}{cs:aq}{ty:TypeId}(h:dX w b cs ty)(hk:fK w S w1 T)(hn:¬S b):dX w1 b cs ty:=(hk.block b h.lt hn).J h
theorem fK.not {w1:aw}(hk:fK w S w1 T)(hb:b<w.heap.size)(hn:¬S b):¬T b:=λx=>(hk.grow b x).elim hn (λy=>Vc)
theorem kS {lo:Nat}{T:TypeId}{k n:Nat}{v:Value}{xs:ay}(h:w.ownsRow lo T k v n xs)(hb:v.ownBlock=some b):∃cs,dX w b cs T:=by
 rcases h.2 with⟨rfl,_⟩|⟨g,cap,Vp,rfl,_,h4,_⟩;.cases hb
 .simp[Value.ownBlock]at hb;subst hb;exact⟨Vp,h4⟩
end
end Go.Proofs.YtfebdimolnobaaaGreatDoor
