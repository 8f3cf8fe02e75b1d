import Derived.Test.YtfebdimolnobaaaGreatDoorMnB
import Derived.Test.YtfebdimolnobaaaGreatDoorFaceB
set_option maxRecDepth 100000
set_option maxHeartbeats 8000000
set_option linter.all false
namespace Go.Proofs.YtfebdimolnobaaaGreatDoor
open Go.RowKit Go.Proofs.Tryz
def zv (s:Mk)(c:Nat):Prop:=∀i p,(s i p).2<=p+c
def ug {raw:ar}{d t p h:Nat}{one:Bool}(a:Px raw d t h one p=false):(15<t->0<d)/\(h=4->0<d)/\(h=4->15<t->1<d):=by
 unfold Px Gy at a;simp at a;omega
section
variable {raw:ar} {s s1 s2:Mk} {c e d t p ky:Nat}
def CX:zv pd c:=λi p=>by show p<=_;omega
def GD (h:zv s c)(hc:2<=c)(z:Bool):(fF s raw t z p).2<=p+c:=by
 unfold fF;split;.exact h _ _
 .split<;>simp only<;>omega
def Iz (h:zv s c)(hc:2<=c):∀j,(iG s raw t p j).2<=p+c*j
 |0=>by show p<=_;omega
 |j+1=>by
  have ih:=Iz h hc j;have:=GD (raw:=raw) (t:=t) (p:=(iG s raw t p j).2) h hc false;show(fF s raw t false (iG s raw t p j).2).2<=_;rw[Nat.mul_succ];omega
def RU (hk:ky∈ig):(fF s raw ky false p).2<=p+2:=by
 have:¬15<ky:=by simp[ig]at hk;omega
 unfold fF;rw[dQ this];split<;>simp only<;>omega
def Nf (h:zv s c)(hc:2<=c)(hk:ky∈ig):∀j,(gZ s raw t ky p j).2<=p+(c+2)*j
 |0=>by show p<=_;omega
 |j+1=>by
  have ih:=Nf h hc hk j;have a:=RU (s:=s) (raw:=raw) (p:=(gZ s raw t ky p j).2) hk;have:=GD (raw:=raw) (t:=t) (p:=(fF s raw ky false (gZ s raw t ky p j).2).2) h hc false;show(fF s raw t false (fF s raw ky false (gZ s raw t ky p j).2).2).2<=_;rw[Nat.mul_succ];omega
def RV (h1:zv s1 c)(h2:zv s2 e)(hc:2<=c)(he:2<=e){f:F3}(a:f.2.1=4->4*(e+2)<=3*c)(b:f.2.2∈ig):(oE s1 s2 raw f p).2<=p+1+3*c:=by
 have g:iY raw p 3<3:=ia _ Vy;have i:iY raw p 4<4:=ia _ Vy;unfold oE;split;.have:=Iz (raw:=raw) (t:=f.1) (p:=p+1) h1 hc (iY raw p 3+1);have:=Nat.mul_le_mul_left c (show iY raw p 3+1<=3 by omega);omega
 .split;.rename_i h;have:=Nf (raw:=raw) (t:=f.1) (p:=p+1) h2 he b (iY raw p 4+1);have:=Nat.mul_le_mul_left (e+2) (show iY raw p 4+1<=4 by omega);have:=a h;omega
  .have:=GD (raw:=raw) (t:=f.1) (p:=p) h1 hc (decide (f.2.1=0));simp only;omega
def Ng (h1:zv s1 c)(h2:zv s2 e)(hc:2<=c)(he:2<=e)(h4:0<d->4*(e+2)<=3*c){fs:List F3}(g:∀f∈fs,f.2.2∈ig):∀k,k<=fs.length->(gA s1 s2 raw d fs p k).2.2<=p+(2+3*c)*k
 |0,_=>by show p<=_;omega
 |k+1,hkl=>by
  have ih:=Ng h1 h2 hc he h4 g k Vv;obtain⟨f,a⟩:∃f,fs[k]?=some f:=⟨_,aO Vv⟩;rw[gA,a,Nat.mul_succ];simp only[Option.getD_some];split;.simp only;omega
  .rename_i i;obtain⟨_,b,_⟩:=ug (by simpa using i);have:=RV (raw:=raw) (p:=(gA s1 s2 raw d fs p k).2.2+1) h1 h2 hc he (λh=>h4 (b h)) (g f (aL a));simp only;omega
def CY (h1:zv s1 c)(h2:zv s2 e)(hc:2<=c)(he:2<=e)(h4:0<d->4*(e+2)<=3*c){fs:List F3}(b:∀f∈fs,f.2.2∈ig)(a:fs.length<=7):(kZ s1 s2 raw d fs p).2<=p+(7*(2+3*c)+1):=by
 have:=Ng (raw:=raw) (d:=d) (p:=p) h1 h2 hc he h4 b fs.length (aE _);have:=Nat.mul_le_mul_left (2+3*c) a;unfold kZ;simp only;omega
def Bf.row {L:List (List F3)}(g:Bf L)(i:Nat):(∀f∈(L[i]?).getD [],f.2.2∈ig)/\((L[i]?).getD []).length<=7:=by
 cases h:L[i]? with
 |none=>exact⟨λf a=>(by cases a),aP _⟩
 |some fs=>
  obtain⟨_,b,a⟩:=g.fs fs (aL h);exact⟨λf h=>(a f h).2.2.1,b⟩
def cB:Nat->Nat
 |0=>57
 |d+1=>7*(2+3*cB d)+1
def Nh:∀d,57<=cB d
 |0=>aE _
 |d+1=>by have:=Nh d;unfold cB;omega
def CZ {L:List (List F3)}(a:Bf L):∀d,zv (gM raw L d) (cB d)
 |0=>λi _=>CY (c:=2) (e:=2) CX CX Vv Vv (λh=>absurd h Vv) (a.row i).1 (a.row i).2
 |1=>λi _=>CY (c:=57) (e:=2) (CZ a 0) CX Vv Vv (λ_=>Vv) (a.row i).1 (a.row i).2
 |d+2=>λi p=>by
  have:=Nh d;have:=Nh (d+1);exact CY (d:=d+2) (CZ a (d+1)) (CZ a d) Vv Vv (λ_=>by rw[cB];omega) (a.row i).1 (a.row i).2
def wP (k:Nat)(v:PV):Nat:=v.2.1.size+wK k v.2.2
def Wg (s:Mk)(k:Nat):Prop:=∀i p,wK k (s i p).1+4+8*p<=8*(s i p).2
def Ni (z:Bool)(k:Nat):(Gw z k).size<=5:=by
 unfold Gw;split;.decide
 .rw[fT];have:∀l∈EH,l.length<=5:=Vy
  cases h:EH[k]? with
  |none=>exact aP _
  |some l=>exact this l (aL h)
def IA {k:Nat}(h:15<t->Wg s k)(z:Bool):wP k (fF s raw t z p).1+2+8*p<=8*(fF s raw t z p).2:=by
 have b:=pM k;unfold fF wP;split;.rename_i a;have:=h a (t-16) p;show 0+wK k (s (t-16) p).1+2+8*p<=8*(s (t-16) p).2;omega
 .split;.have:=Ni z (iY raw p 5);simp only;omega
  .show 0+wK k PM.none+2+8*p<=8*(p+2);omega
def Nj {k:Nat}(h:15<t->Wg s k):∀j,((iG s raw t p j).1.map (wP k)).sum+8*p<=8*(iG s raw t p j).2
 |0=>by show 0+8*p<=8*p;omega
 |j+1=>by
  have ih:=Nj h j;have:=IA (raw:=raw) (p:=(iG s raw t p j).2) h false;rw[iG];simp only[bI,cK,bC,cF,ck,List.sum_nil];omega
def RW {k:Nat}(x y:PV):wP (k+1) (oD x y)=3+wP k x+wP k y:=by
 show 0+wK (k+1) (.mk [(1,[x]),(2,[y])] eS)=_;rw[jR];unfold wF wV wP;simp only[PM.fs,PM.unk,bC,cF,ck,List.sum_nil];have:eS.size=0:=rfl;omega
def Ti {k:Nat}(x y:PV)(l:List PV):((pI ky x y l).map (wP k)).sum<=(l.map (wP k)).sum+wP k (oD x y):=by
 unfold pI;split;.omega
 .have:(l.map (wP k)).sum=((l.take (mw ky x l)).map (wP k)).sum+((l.drop (mw ky x l)).map (wP k)).sum:=(by rw[<-cK,<-bI,bY]);simp only[bI,cK,bC,ck];omega
def Qt {k:Nat}(h:15<t->Wg s k)(hk:ky∈ig):∀j,((gZ s raw t ky p j).1.map (wP (k+1))).sum+8*p<=8*(gZ s raw t ky p j).2
 |0=>by show 0+8*p<=8*p;omega
 |j+1=>by
  have ih:=Qt h hk j;have f:¬15<ky:=by simp[ig]at hk;omega
  have a:=IA (s:=s) (raw:=raw) (t:=ky) (k:=k) (p:=(gZ s raw t ky p j).2) (λh=>absurd h f) false;have b:=IA (raw:=raw) (p:=(fF s raw ky false (gZ s raw t ky p j).2).2) h false;rw[gZ];have c:=Ti (k:=k+1) (ky:=ky) (fF s raw ky false (gZ s raw t ky p j).2).1 (fF s raw t false (fF s raw ky false (gZ s raw t ky p j).2).2).1 (gZ s raw t ky p j).1;rw[RW]at c;simp only;omega
def Tj {k:Nat}{f:F3}(h1:15<f.1->Wg s1 (k+1))(a:f.2.1=4->15<f.1->Wg s2 k)(g:f.2.2∈ig):((oE s1 s2 raw f p).1.map (wP (k+1))).sum+8*p<=8*(oE s1 s2 raw f p).2:=by
 unfold oE;split;.have:=Nj (raw:=raw) (p:=p+1) h1 (iY raw p 3+1);omega
 .split;.rename_i b;have:=Qt (raw:=raw) (p:=p+1) (a b) g (iY raw p 4+1);omega
  .have:=IA (raw:=raw) (p:=p) h1 (decide (f.2.1=0));simp only[bC,cF,ck,List.sum_nil];omega
def Qu {k:Nat}{fs:List F3}(h1:0<d->Wg s1 (k+1))(g:1<d->Wg s2 k)(m:∀f∈fs,f.2.2∈ig):∀j,j<=fs.length->wF (k+1) (gA s1 s2 raw d fs p j).1+8*p<=8*(gA s1 s2 raw d fs p j).2.2
 |0,_=>by show 0+8*p<=8*p;omega
 |j+1,hj=>by
  have ih:=Qu h1 g m j Vv;obtain⟨f,i⟩:∃f,fs[j]?=some f:=⟨_,aO Vv⟩;rw[gA,i];simp only[Option.getD_some];split;.simp only;omega
  .rename_i n;obtain⟨a,_,b⟩:=ug (by simpa using n);have:=Tj (k:=k) (f:=f) (s1:=s1) (s2:=s2) (raw:=raw) (p:=(gA s1 s2 raw d fs p j).2.2+1) (λh=>h1 (a h)) (λl h=>g (b l h)) (m f (aL i));unfold wF at ih⊢;simp only[bI,cK,bC,cF,ck,List.sum_nil];have e:wV (k+1) (oE s1 s2 raw f ((gA s1 s2 raw d fs p j).2.2+1)).1=((oE s1 s2 raw f ((gA s1 s2 raw d fs p j).2.2+1)).1.map (wP (k+1))).sum:=rfl;omega
def GE {k:Nat}{fs:List F3}(h1:0<d->Wg s1 (k+1))(g:1<d->Wg s2 k)(h:∀f∈fs,f.2.2∈ig):wK (k+2) (kZ s1 s2 raw d fs p).1+4+8*p<=8*(kZ s1 s2 raw d fs p).2:=by
 have:=Qu (raw:=raw) (p:=p) h1 g h fs.length (aE _);unfold kZ;simp only;rw[jR];have i:(if iY raw (gA s1 s2 raw d fs p fs.length).2.2 4=0 then tU else eS).size<=3:=by split<;>decide
 show 1+_+wF (k+1) (gA s1 s2 raw d fs p fs.length).1+4+8*p<=_;have e:∀(a:List PF) (b:au),(PM.mk a b).unk.size=b.size:=λ_ _=>rfl
 rw[e];omega
def IB {L:List (List F3)}(a:Bf L):∀d,Wg (gM raw L d) (d+3)
 |0=>λi _=>GE (k:=1) (λh=>absurd h Vv) (λh=>absurd h Vv) (a.row i).1
 |1=>λi _=>GE (k:=2) (λ_=>IB a 0) (λh=>absurd h Vv) (a.row i).1
 |d+2=>λi _=>GE (k:=d+3) (λ_=>IB a (d+1)) (λ_=>IB a d) (a.row i).1
def tP (k:Nat)(v:PV):Nat:=30+v.2.1.size+pX k v.2.2
def Wt (s:Mk)(k c:Nat):Prop:=∀i p,pX k (s i p).1<=c
def PH (k:Nat):pX k PM.none=0:=by cases k<;>rfl
def IC {k:Nat}(h:15<t->Wt s k c)(hc:5<=c)(z:Bool):tP k (fF s raw t z p).1<=30+c:=by
 have b:=PH k;unfold fF tP;split;.rename_i a;have:=h a (t-16) p;show 30+0+pX k (s (t-16) p).1<=_;omega
 .split;.have:=Ni z (iY raw p 5);simp only;omega
  .show 30+0+pX k PM.none<=_;omega
def Nk {k:Nat}(h:15<t->Wt s k c)(hc:5<=c):∀j,((iG s raw t p j).1.map (tP k)).sum<=(30+c)*j
 |0=>aP _
 |j+1=>by
  have ih:=Nk h hc j;have:=IC (raw:=raw) (p:=(iG s raw t p j).2) h hc false;rw[iG,Nat.mul_succ];simp only[bI,cK,bC,cF,ck,List.sum_nil];omega
def RX {k:Nat}(x y:PV):tP (k+1) (oD x y)=90+tP k x+tP k y:=by
 show 30+0+pX (k+1) (.mk [(1,[x]),(2,[y])] eS)=_;rw[pX];unfold tP;simp only[PM.fs,PM.unk,bC,cF,ck,List.sum_nil];have:eS.size=0:=rfl;omega
def Tl (g:PV->Nat)(x y:PV)(l:List PV):((pI ky x y l).map g).sum<=(l.map g).sum+g (oD x y):=by
 unfold pI;split;.omega
 .have:(l.map g).sum=((l.take (mw ky x l)).map g).sum+((l.drop (mw ky x l)).map g).sum:=(by rw[<-cK,<-bI,bY]);simp only[bI,cK,bC,ck];omega
def Qv {k:Nat}(h:15<t->Wt s k c)(hc:5<=c)(hk:ky∈ig):∀j,((gZ s raw t ky p j).1.map (tP (k+1))).sum<=(155+c)*j
 |0=>aP _
 |j+1=>by
  have ih:=Qv h hc hk j;have f:¬15<ky:=by simp[ig]at hk;omega
  have a:=IC (s:=s) (raw:=raw) (t:=ky) (k:=k) (c:=5) (p:=(gZ s raw t ky p j).2) (λh=>absurd h f) Vv false;have b:=IC (raw:=raw) (p:=(fF s raw ky false (gZ s raw t ky p j).2).2) h hc false;rw[gZ,Nat.mul_succ];have c:=Tl (ky:=ky) (tP (k+1)) (fF s raw ky false (gZ s raw t ky p j).2).1 (fF s raw t false (fF s raw ky false (gZ s raw t ky p j).2).2).1 (gZ s raw t ky p j).1;rw[RX]at c;simp only;omega
def Tm {k:Nat}{f:F3}(h1:15<f.1->Wt s1 (k+1) c)(a:f.2.1=4->15<f.1->Wt s2 k e)(hc:5<=c)(he:5<=e)(b:f.2.1=4->4*(155+e)<=3*(30+c))(g:f.2.2∈ig):((oE s1 s2 raw f p).1.map (tP (k+1))).sum<=3*(30+c):=by
 have i:iY raw p 3<3:=ia _ Vy;have j:iY raw p 4<4:=ia _ Vy;unfold oE;split;.have:=Nk (raw:=raw) (p:=p+1) h1 hc (iY raw p 3+1);have:=Nat.mul_le_mul_left (30+c) (show iY raw p 3+1<=3 by omega);omega
 .split;.rename_i h;have:=Qv (raw:=raw) (p:=p+1) (a h) he g (iY raw p 4+1);have:=Nat.mul_le_mul_left (155+e) (show iY raw p 4+1<=4 by omega);have:=b h;omega
  .have:=IC (raw:=raw) (p:=p) h1 hc (decide (f.2.1=0));simp only[bC,cF,ck,List.sum_nil];omega
def Qw {k:Nat}{fs:List F3}(h1:0<d->Wt s1 (k+1) c)(g:1<d->Wt s2 k e)(hc:5<=c)(he:5<=e)(h4:0<d->4*(155+e)<=3*(30+c))(m:∀f∈fs,f.2.2∈ig):∀j,j<=fs.length->((gA s1 s2 raw d fs p j).1.map λx=>30+(x.2.map (tP (k+1))).sum).sum<=(30+3*(30+c))*j
 |0,_=>aP _
 |j+1,hj=>by
  have ih:=Qw h1 g hc he h4 m j Vv;obtain⟨f,i⟩:∃f,fs[j]?=some f:=⟨_,aO Vv⟩;rw[gA,i,Nat.mul_succ];simp only[Option.getD_some];split;.simp only;omega
  .rename_i n;obtain⟨a,l,b⟩:=ug (by simpa using n);have:=Tm (k:=k) (f:=f) (s1:=s1) (s2:=s2) (raw:=raw) (p:=(gA s1 s2 raw d fs p j).2.2+1) (λh=>h1 (a h)) (λh4 h=>g (b h4 h)) hc he (λh=>h4 (l h)) (m f (aL i));simp only[bI,cK,bC,cF,ck,List.sum_nil];omega
def GG {k:Nat}{fs:List F3}(h1:0<d->Wt s1 (k+1) c)(a:1<d->Wt s2 k e)(hc:5<=c)(he:5<=e)(h4:0<d->4*(155+e)<=3*(30+c))(g:∀f∈fs,f.2.2∈ig)(b:fs.length<=7):pX (k+2) (kZ s1 s2 raw d fs p).1<=843+21*c:=by
 have:=Qw (raw:=raw) (p:=p) h1 a hc he h4 g fs.length (aE _);have:=Nat.mul_le_mul_left (30+3*(30+c)) b;unfold kZ;simp only;rw[pX];have h:(if iY raw (gA s1 s2 raw d fs p fs.length).2.2 4=0 then tU else eS).size<=3:=by split<;>decide
 show(if iY raw (gA s1 s2 raw d fs p fs.length).2.2 4=0 then tU else eS).size+((gA s1 s2 raw d fs p fs.length).1.map λx=>30+(x.2.map (tP (k+1))).sum).sum<=_;omega
def vB:Nat->Nat
 |0=>948
 |d+1=>843+21*vB d
def Nl:∀d,948<=vB d
 |0=>aE _
 |d+1=>by have:=Nl d;unfold vB;omega
def ID {L:List (List F3)}(a:Bf L):∀d,Wt (gM raw L d) (d+2) (vB d)
 |0=>λi _=>GG (k:=0) (c:=5) (e:=5) (λh=>absurd h Vv) (λh=>absurd h Vv) Vv Vv (λh=>absurd h Vv) (a.row i).1 (a.row i).2
 |1=>λi _=>GG (k:=1) (c:=948) (e:=5) (λ_=>ID a 0) (λh=>absurd h Vv) Vv Vv (λ_=>Vv) (a.row i).1 (a.row i).2
 |d+2=>λi p=>by
  have:=Nl d;have:=Nl (d+1);exact GG (d:=d+2) (k:=d+2) (λ_=>ID a (d+1)) (λ_=>ID a d) Vv Vv (λ_=>by rw[vB];omega) (a.row i).1 (a.row i).2
end
structure RY (S:eF)(M:Nat->MT)(x:F3)(f:fw):Prop where
 base:S.base f.ty=if 15<x.1 then 16 else x.1
 msg:15<x.1->S.msg f.ty=some (M (x.1-16))
 map:f.isMap=decide (x.2.1=4)
 rep:f.isRep=decide (x.2.1=1)
 one:gQ f.how eS=decide (x.2.1=0)
 key:x.2.1=4->S.base f.key=x.2.2
structure EW (S:eF)(L:List (List F3))(M:Nat->MT):Prop where
 fld:∀i fs k x,L[i]?=some fs->fs[k]?=some x->∃f,ed (M i).fs ((k+1:Nat):Int)=some f/\RY S M x f/\∀n∈lx (M i) f,x.2.1=3/\∃j y,n=((j+1:Nat):Int)/\fs[j]?=some y/\y.2.1=3
 big:∀i,i<L.length->ed (M i).fs 1023=none
section
variable {S:eF} {R:MT->PM->Bool} {f:fw} {s:Mk} {raw:ar} {t p:Nat}
def GH (z:Bool)(ht:t<16):zH t (EI z (zg raw p t))=true/\0<=EI z (zg raw p t)/\EI z (zg raw p t)<2^64:=by
 have c:iY raw p 1073741824<1073741824:=ia _ Vv;have a:yZ (iY raw p 1073741824) (iY raw (p+1) 6)<2^64:=by unfold yZ;(repeat' split)<;>omega
 unfold zg;generalize yZ (iY raw p 1073741824) (iY raw (p+1) 6)=v at*
 have b:zH t ((JI t v:Nat):Int)=true/\JI t v<2^64:=by
  unfold zH JI mQ;by_cases h1:t=0\/t=4\/t=9\/t=15;.simp only[dR h1,beq_iff_eq];split<;>split<;>omega
  .simp only[dQ h1];by_cases h2:t=2\/t=7\/t=11;.simp only[dR h2,beq_iff_eq];omega
   .simp only[dQ h2];by_cases h3:t=6;.simp only[dR h3,beq_iff_eq];split<;>omega
    .simp only[dQ h3];exact⟨trivial,a⟩
 unfold EI;split;.refine⟨?_,Vv,Vv⟩;have:∀t:Fin 16,zH t.val 1=true:=Vy;exact this ⟨t,ht⟩
 .exact⟨b.1,Vv,Vv⟩
def RZ (z:Bool){k:Nat}(h:k<5):Lib.validD (Gw z k).data.toList=true:=by
 have:k=0\/k=1\/k=2\/k=3\/k=4:=Vv;rcases this with rfl|rfl|rfl|rfl|rfl<;>cases z<;>decide+kernel
def GI (z:Bool)(hb:fB S f=if 15<t then 16 else t)(ht:t<19)(hm:15<t->∃T,fC S f=some T/\R T (s (t-16) p).1=true):eE S R f (fF s raw t z p).1=true:=by
 unfold fF;by_cases VI:15<t;.obtain⟨T,a,b⟩:=hm VI;rw[dR VI]at hb⊢;unfold eE;rw[dR hb,a];simp only;rw[b,EU];rfl
 .rw[dQ VI]at hb⊢;by_cases h13:t=13\/t=14
  .rw[dR h13];have c:iY raw p 5<5:=ia _ Vy;unfold eE;rw[hb,dQ Vv];rcases h13 with rfl|rfl;.rw[dR rfl];simp only;rw[RZ z c,GC];rfl
   .rw[dQ Vy,dR rfl];simp only;rw[GC];rfl
  .rw[dQ h13];have:=(GH (raw:=raw) (p:=p) z (by omega:t<16)).1;unfold eE;rw[hb,dQ Vv,dQ Vv,dQ Vv];simp only;rw[this,EU,GC];rfl
structure Qx (ky:Nat)(x:PV):Prop where
 lo:0<=x.1
 hi:x.1<2^64
 str:ky=13->x.1=0
 num:ky≠13->x.2.1=eS
def R8 {ky:Nat}(b:ky∈ig):Qx ky (fF s raw ky false p).1:=by
 have a:¬15<ky/\ky≠14/\ky<16:=by simp[ig]at b;omega
 unfold fF;rw[dQ a.1];by_cases h13:ky=13\/ky=14;.rw[dR h13];exact⟨dj _,Vw,λ_=>rfl,λh=>absurd h Vv⟩
 .rw[dQ h13];have:=GH (raw:=raw) (p:=p) false a.2.2;exact⟨this.2.1,this.2.2,λh=>absurd h Vv,λ_=>rfl⟩
def kK (ky:Nat)(x:PV):LV:=FQ (iM ky) (x.1,x.2.1)
def IE:Op.bytesLess eS.toList eS.toList=false:=Vz
def Nm {ky:Nat}(q:ky∈ig){a b:PV}(m:Qx ky a)(n:Qx ky b):oC ky a b=true<->lI (kK ky a) (kK ky b):=by
 have c:TG ky=iM ky:=(by have:∀k∈ig,TG k=iM k:=Vy;exact this ky q);obtain⟨l,o,g,h⟩:=m;obtain⟨r,u,i,j⟩:=n;unfold oC kK FQ lI;rw[c];by_cases h13:ky=13;.subst h13;have e:iM 13=false:=rfl;rw[e];simp[g rfl,i rfl]
 .rw[h h13,j h13];cases hs:iM ky;.simp[h13,IE]
  .simp only[if_true,dS,IE,aU,and_false,or_false];unfold Dy;split<;>split<;>omega
def Nn {ky:Nat}{x y e:PV}{l:List PV}:pI ky x y (e::l)=if oC ky (xk e) x=true then e::pI ky x y l else if((xk e).1==x.1&&(xk e).2.1.toList==x.2.1.toList)=true then e::l else oD x y::e::l:=by
 unfold pI EJ;rw[mw];by_cases ha:oC ky (xk e) x=true;.rw[dR ha,dR ha];simp only[cp,cZ,List.drop_succ_cons];split<;>split<;>rfl
 .rw[dQ ha,dQ ha];simp only[cq,List.take_zero,List.drop_zero,aX]
def PI {ky:Nat}{x y:PV}:pI ky x y []= [oD x y]:=rfl
def C9 {ky:Nat}{x y e:PV}{l:List PV}(h:e∈pI ky x y l):e∈l\/e=oD x y:=by
 unfold pI at h;split at h;.exact .inl h
 .rcases aW.1 h with h|h;.exact .inl (List.mem_of_mem_take h)
  .rcases aR.1 h with h|h;.exact .inr h
   .exact .inl (cJ h)
def No {ky:Nat}(k:ky∈ig){x y:PV}(g:Qx ky x):∀{l:List PV},(∀e∈l,Qx ky (xk e))->l.Pairwise (λa b=>lI (kK ky (xk a)) (kK ky (xk b)))->(pI ky x y l).Pairwise (λa b=>lI (kK ky (xk a)) (kK ky (xk b)))
 | [],_,_=>by rw[PI];simp
 |e::l,h,hp=>by
  rw[Nn];have i:=h e aZ;have o:∀e∈l,Qx ky (xk e):=λa b=>h a (aY _ b)
  rw[bu]at hp;split
  .rename_i j;rw[bu];refine⟨λz c=> ?_,No k g o hp.2⟩;rcases C9 c with c|rfl;.exact hp.1 z c
   .exact(Nm k i g).1 j
  .rename_i j;split;.exact bu.2 hp
   .rename_i r
    have m:lI (kK ky x) (kK ky (xk e)):=by
     rcases tu (kK ky x) (kK ky (xk e))with q|q|q;.exact q
     .exfalso;apply r;unfold jH kK FQ at q;simp only[aQ,beq_iff_eq];refine⟨?_,q.2.sy⟩;have n:=q.1;have:=g.lo;have:=g.hi;have:=i.lo;have:=i.hi;simp only at n;split at n<;>omega
     .exact absurd ((Nm k i g).2 q) j
    rw[bu];refine⟨λz c=> ?_,bu.2 hp⟩;rcases aR.1 c with rfl|c;.exact m
    .exact kh m (hp.1 z c)
def Np {ky k:Nat}(g:ky∈ig)(hm:f.isMap=true)(m:S.base f.key=ky)(n:∀p,eE S (d6 S k) (pJ f) (fF s raw t false p).1=true):∀j,(∀e∈(gZ s raw t ky p j).1,∃x y,e=oD x y/\Qx ky x/\eE S (d6 S k) (mW f) x=true/\eE S (d6 S k) (pJ f) y=true)/\(gZ s raw t ky p j).1.Pairwise (λa b=>lI (kK ky (xk a)) (kK ky (xk b)))/\(0<j->(gZ s raw t ky p j).1≠ [])
 |0=>⟨λe h=>(by cases h),List.Pairwise.nil,λh=>absurd h Vv⟩
 |j+1=>by
  have ih:=Np g hm m n j;have o:ky<14/\ky≠16:=by simp[ig]at g;omega
  have i:=R8 (s:=s) (raw:=raw) (p:=(gZ s raw t ky p j).2) g;rw[gZ];refine⟨λe c=> ?_,No g i (λe c=> ?_) ih.2.1,λ_=> ?_⟩
  .rcases C9 c with c|rfl;.exact ih.1 e c
   .exact⟨_,_,rfl,i,GI false (by rw[jQ (iQ f).1];show S.base f.key=_;rw[m,dQ Vv]) Vv (λh=>absurd h Vv),n _⟩
  .obtain⟨x,y,rfl,h,_⟩:=ih.1 e c;exact h
  .unfold pI;split;.rename_i l;intro e;rw[e]at l;cases l
   .simp
def PJ {ky k:Nat}{l:List PV}(hm:f.isMap=true)(g:S.base f.key=ky)(h1:∀e∈l,∃x y,e=oD x y/\Qx ky x/\eE S (d6 S k) (mW f) x=true/\eE S (d6 S k) (pJ f) y=true)(j:l.Pairwise (λa b=>lI (kK ky (xk a)) (kK ky (xk b))))(m:l≠ []):fG S (d6 S (k+1)) f l=true:=by
 unfold fG;simp only[aQ];refine⟨⟨?_,?_⟩,?_⟩
 .unfold nR;rw[hm]
  cases l with
  |nil=>exact absurd rfl m
  |cons a l=>cases l<;>simp
 .rw[ca];intro e i;obtain⟨x,y,rfl,_,a,b⟩:=h1 e i;unfold eE;have c:fB S f=16:=by unfold fB;rw[hm];rfl
  rw[dR c,kG hm];simp only;rw[d6];have:=EV (S:=S) (R:=d6 S k) (f:=f) a b;show((decide ((0:Int)=0)&&ox eS)&&(gX S (d6 S k) (eR f) [] [(1,[x]),(2,[y])]&&pW (o0 S (eR f)) eS))=true;rw[this,EU];rfl
 .unfold ku;rw[dR hm,g];refine CV (λe i=> ?_) (j.imp_of_mem fun{a b} n g h=> ?_) (λk h=>by cases h);.obtain⟨x,y,rfl,_⟩:=h1 e i;exact⟨rfl,EU⟩
  .obtain⟨x,y,rfl,_⟩:=h1 a n;obtain⟨x',o,rfl,_⟩:=h1 b g;exact h
end
section
variable {S:eF} {L:List (List F3)} {M:Nat->MT} {s1 s2:Mk} {raw:ar} {p d:Nat}
def R9 (S:eF)(L:List (List F3))(M:Nat->MT)(s:Mk)(k:Nat):Prop:=∀i p,i<L.length->d6 S k (M i) (s i p).1=true
def Nq {x:F3}{f:fw}(a:RY S M x f)(C:x.1<16+L.length)(hL:L.length<=3)(w:x.2.2∈ig)(h1:15<x.1->R9 S L M s1 d)(r:x.2.1=4->0<d)(n:x.2.1=4->15<x.1->R9 S L M s2 (d-1)):fG S (d6 S d) f (oE s1 s2 raw x p).1=true:=by
 have g:=a.map
 have l:x.2.1≠4->∀z p,eE S (d6 S d) f (fF s1 raw x.1 z p).1=true:=λh z p=>by
  have b:f.isMap=false:=by rw[g];exact decide_eq_false h
  exact GI z (by rw[jQ b];exact a.base) Vv λc=>⟨_,by rw[lD b];exact a.msg c,h1 c _ _ Vv⟩
 unfold oE;by_cases e1:x.2.1=1
 .rw[dR e1];have b:f.isMap=false:=by rw[g];exact decide_eq_false Vv
  have A:f.isRep=true:=by rw[a.rep];exact decide_eq_true e1
  have i:∀j,∀v∈(iG s1 raw x.1 (p+1) j).1,eE S (d6 S d) f v=true:=λj=>by
   induction j with
   |zero=>intro v h;cases h
   |succ j ih=>
    intro v h;rw[iG]at h;rcases aW.1 h with h|h;.exact ih v h
    .rw[ba.1 h];exact l Vv _ _
  have y:=vm s1 raw x.1 (p+1) (iY raw p 3+1);unfold fG;simp only[aQ];refine⟨⟨?_,ca.2 (i _)⟩,?_⟩;.unfold nR;rw[y,A,b];cases iY raw p 3<;>simp
  .unfold ku;rw[dQ (by rw[b];decide),dQ];intro h;rw[a.one,dS]at h;omega
 .rw[dQ e1];by_cases e4:x.2.1=4
  .rw[dR e4];have m:f.isMap=true:=by rw[g];exact decide_eq_true e4
   obtain⟨e,rfl⟩:∃e,d=e+1:=⟨d-1,by have:=r e4;omega⟩;have:=Np (S:=S) (f:=f) (s:=s2) (raw:=raw) (t:=x.1) (p:=p+1) (k:=e) w m (a.key e4) (λq=>GI false (by rw[jQ (iQ f).2.1];exact a.base) Vv λc=>⟨_,by rw[lD (iQ f).2.1];exact a.msg c,n e4 c _ _ Vv⟩) (iY raw p 4+1);exact PJ m (a.key e4) this.1 this.2.1 (this.2.2 Vv)
  .rw[dQ e4];have b:f.isMap=false:=by rw[g];exact decide_eq_false e4
   have i:=l e4 (decide (x.2.1=0)) p;unfold fG;simp only[List.all_cons,List.all_nil,dB,aQ];refine⟨⟨by unfold nR;rfl,i⟩,?_⟩;unfold ku;rw[dQ (by rw[b];decide)];split
   .rename_i h;rw[a.one,dS]at h;have u:fB S f=if 15<x.1 then 16 else x.1:=by rw[jQ b];exact a.base
    have c:¬15<x.1:=λq=>h.2 (by rw[u,dR q])
    show(!(decide ((fF s1 raw x.1 (decide (x.2.1=0)) p).1.1=0)&&ox (fF s1 raw x.1 (decide (x.2.1=0)) p).1.2.1))=true;rw[decide_eq_true h.1];unfold fF;rw[dQ c];split;.have o:iY raw p 5<5:=ia _ Vy;have:∀k:Fin 5,ox (Gw true k.val)=false:=Vz;have:=this ⟨iY raw p 5,o⟩;simp only at this⊢;rw[this];rfl
    .simp only;unfold EI;split;.rfl
     .rename_i B;have:¬((zg raw p x.1:Nat):Int)=0:=λe=>B ⟨Vv,rfl⟩
      rw[decide_eq_false this];rfl
   .rfl
def EX (hS:EW S L M){i:Nat}{fs:List F3}(A:L[i]?=some fs)(hL:L.length<=3)(n:∀f∈fs,f.1<16+L.length/\f.2.1<5/\f.2.2∈ig/\(f.2.1≠4->f.2.2=0))(h1:0<d->R9 S L M s1 d)(h2:1<d->R9 S L M s2 (d-1)):∀k,k<=fs.length->
  (∀x∈(gA s1 s2 raw d fs p k).1,kn S (d6 S d) (M i) x/\∃j y,j<k/\x.1=((j+1:Nat):Int)/\fs[j]?=some y/\(y.2.1=3->(gA s1 s2 raw d fs p k).2.1=true))/\(gA s1 s2 raw d fs p k).1.Pairwise (Su (M i))
 |0,_=>⟨λx h=>(by cases h),List.Pairwise.nil⟩
 |k+1,hk=>by
  have ih:=EX hS A hL n h1 h2 k Vv;obtain⟨x,q⟩:∃x,fs[k]?=some x:=⟨_,aO Vv⟩;rw[gA,q];simp only[Option.getD_some];split;.refine⟨λy l=> ?_,ih.2⟩;obtain⟨a,j,z,B,b⟩:=ih.1 y l;exact⟨a,j,z,Vv,b⟩
  .rename_i m;have m:Px raw d x.1 x.2.1 (gA s1 s2 raw d fs p k).2.1 (gA s1 s2 raw d fs p k).2.2=false:=by simpa using m
   obtain⟨a,E,b⟩:=ug m;obtain⟨f,v,F,G⟩:=hS.fld i fs k x A q;obtain⟨N,_,O,_⟩:=n x (aL q);have I:=Nq (raw:=raw) (p:=(gA s1 s2 raw d fs p k).2.2+1) F N hL O (λh=>h1 (a h)) E (λe h=>h2 (b e h));refine⟨λy l=> ?_,?_⟩
   .rcases aW.1 l with l|l;.obtain⟨c,j,z,B,o,r,u⟩:=ih.1 y l;exact⟨c,j,z,Vv,o,r,λh=>by simp only;rw[u h];rfl⟩
    .rw[ba.1 l];exact⟨⟨f,v,I⟩,k,x,Vv,rfl,q,λh=>by simp only;rw[decide_eq_true h,dH]⟩
   .rw[cl];refine⟨ih.2,List.pairwise_singleton _ _,λy l z J=> ?_⟩;rw[ba.1 J];obtain⟨_,j,w,B,o,r,u⟩:=ih.1 y l;refine⟨by simp only;rw[o];omega,λg H C=> ?_⟩;rw[show g=f from Option.some.inj (H.sy.J v)]at C;obtain⟨P,K,U,Q,D,T⟩:=G _ C;obtain rfl:j=K:=by rw[o]at Q;omega
    rw[r]at D;cases D;have h1:=u T;unfold Px at m;rw[h1,decide_eq_true P]at m;simp at m
def PL:∃r,fO tU 0 tU.size= .ok r/\r.e=3/\r.num=1023:=by
 have h:(match fO tU 0 tU.size with| .ok r=>decide (r.e=3)&&decide (r.num=1023)| .error _=>false)=true:=Vz
 cases hr:fO tU 0 tU.size with
 |error x=>rw[hr]at h;cases h
 |ok r=>
  rw[hr]at h;simp only[aQ,dS]at h;exact⟨r,rfl,h⟩
def Sa (hS:EW S L M){i:Nat}(e:i<L.length):pW (o0 S (M i)) tU=true:=by
 obtain⟨r,a,b,c⟩:=PL;refine Iy a b ?_;unfold o0;rw[c,hS.big i e]
def vt (hS:EW S L M)(hD:Bf L){i:Nat}{fs:List F3}(a:L[i]?=some fs)(h1:0<d->R9 S L M s1 d)(h2:1<d->R9 S L M s2 (d-1)):d6 S (d+1) (M i) (kZ s1 s2 raw d fs p).1=true:=by
 have:=EX (raw:=raw) (p:=p) hS a hD.few.2 (hD.fs fs (aL a)).2.2 h1 h2 fs.length (aE _);rw[d6,aQ];refine⟨pK.2 ⟨λx b=>(this.1 x b).1,this.2,λy c=>by cases c⟩,?_⟩;show pW _ (if iY raw (gA s1 s2 raw d fs p fs.length).2.2 4=0 then tU else eS)=true;split;.exact Sa hS (bn.1 a).1
 .rfl
def uh (hS:EW S L M)(hD:Bf L):∀d,R9 S L M (gM raw L d) (d+1)
 |0=>λi p b=>by
  obtain⟨fs,a⟩:=gx b;show d6 S 1 (M i) (kZ pd pd raw 0 ((L[i]?).getD []) p).1=true;rw[a]
  exact vt hS hD a (λh=>absurd h Vv) (λh=>absurd h Vv)
 |1=>λi p b=>by
  obtain⟨fs,a⟩:=gx b;show d6 S 2 (M i) (kZ (gM raw L 0) pd raw 1 ((L[i]?).getD []) p).1=true;rw[a]
  exact vt hS hD a (λ_=>uh hS hD 0) (λh=>absurd h Vv)
 |d+2=>λi p b=>by
  obtain⟨fs,a⟩:=gx b;show d6 S (d+3) (M i) (kZ (gM raw L (d+1)) (gM raw L d) raw (d+2) ((L[i]?).getD []) p).1=true;rw[a];exact vt hS hD a (λ_=>uh hS hD (d+1)) (λ_=>uh hS hD d)
end
section
variable {L:List (List F3)} {s s1 s2:Mk} {raw:ar} {p d t:Nat}
def Tn (s:Mk)(k:Nat):Prop:=∀i p,pT k (s i p).1
def Da {k:Nat}(ht:t<19)(h:15<t->Tn s (k+1))(z:Bool):Dn (k+1) (fF s raw t z p).1:=by
 unfold fF;split;.rename_i a;exact⟨dj _,Vw,h a _ _⟩
 .split;.exact⟨dj _,Vw,pT.none k⟩
  .have:=GH (raw:=raw) (p:=p) z (by omega:t<16);exact⟨this.2.1,this.2.2,pT.none k⟩
def Nr {k ky:Nat}(ht:t<19)(g:ky∈ig)(h:15<t->Tn s (k+1)):∀j,∀v∈(gZ s raw t ky p j).1,Dn (k+2) v
 |0,v,c=>by cases c
 |j+1,v,c=>by
  rw[gZ]at c;have i:ky<14:=by simp[ig]at g;omega
  rcases C9 c with c|rfl;.exact Nr ht g h j v c
  .refine⟨dj _,by show(0:Int)<_;omega,λx e v c=> ?_⟩;have a:=Da (k:=k) (s:=s) (raw:=raw) (t:=ky) (p:=(gZ s raw t ky p j).2) Vv (λh=>absurd h Vv) false;have b:=Da (raw:=raw) (p:=(fF s raw ky false (gZ s raw t ky p j).2).2) ht h false;have e:x=(1,[(fF s raw ky false (gZ s raw t ky p j).2).1])\/x=(2,[(fF s raw t false (fF s raw ky false (gZ s raw t ky p j).2).2).1]):=by simpa [oD,PM.fs]using e
   rcases e with rfl|rfl;.rw[ba.1 c];exact a
   .rw[ba.1 c];exact b
def GJ (hD:Bf L)(i:Nat):∀f∈(L[i]?).getD [],f.1<16+L.length/\f.2.1<5/\f.2.2∈ig/\(f.2.1≠4->f.2.2=0):=by
 cases h:L[i]? with
 |none=>intro f a;cases a
 |some fs=>exact(hD.fs fs (aL h)).2.2
def zA {fs:List F3}(hL:L.length<=3)(g:∀f∈fs,f.1<16+L.length/\f.2.1<5/\f.2.2∈ig/\(f.2.1≠4->f.2.2=0))(h1:0<d->Tn s1 (d+1))(h2:1<d->Tn s2 d):∀k,k<=fs.length->∀x∈(gA s1 s2 raw d fs p k).1,∀v∈x.2,Dn (d+1) v
 |0,_,x,c=>by cases c
 |k+1,hk,x,c=>by
  obtain⟨f,m⟩:∃f,fs[k]?=some f:=⟨_,aO Vv⟩;rw[gA,m]at c;simp only[Option.getD_some]at c;split at c;.exact zA hL g h1 h2 k Vv x c
  .rename_i o;obtain⟨a,n,b⟩:=ug (by simpa using o);obtain⟨r,_,q,_⟩:=g f (aL m);rcases aW.1 c with c|c;.exact zA hL g h1 h2 k Vv x c
   .rw[ba.1 c];intro v i;simp only at i;unfold oE at i;split at i
    .have:∀j,∀v∈(iG s1 raw f.1 ((gA s1 s2 raw d fs p k).2.2+1+1) j).1,Dn (d+1) v:=λj=>by
      induction j with
      |zero=>intro v h;cases h
      |succ j ih=>
       intro v h;rw[iG]at h;rcases aW.1 h with h|h;.exact ih v h
       .rw[ba.1 h];exact Da Vv (λh=>h1 (a h)) false
     exact this _ v i
    .split at i;.rename_i l;obtain⟨e,rfl⟩:∃e,d=e+1:=⟨d-1,by have:=n l;omega⟩;exact Nr (k:=e) Vv q (λh=>h2 (b l h)) _ v i
     .rw[ba.1 i];exact Da Vv (λh=>h1 (a h)) _
def Db (hD:Bf L):∀d,Tn (gM raw L d) (d+2)
 |0=>λi p=>by
  show pT 2 (kZ pd pd raw 0 ((L[i]?).getD []) p).1
  exact zA hD.few.2 (GJ hD i) (λh=>absurd h Vv) (λh=>absurd h Vv) _ (aE _)
 |1=>λi p=>by
  show pT 3 (kZ (gM raw L 0) pd raw 1 ((L[i]?).getD []) p).1
  exact zA hD.few.2 (GJ hD i) (λ_=>Db hD 0) (λh=>absurd h Vv) _ (aE _)
 |d+2=>λi p=>by
  show pT (d+4) (kZ (gM raw L (d+1)) (gM raw L d) raw (d+2) ((L[i]?).getD []) p).1;exact zA hD.few.2 (GJ hD i) (λ_=>Db hD (d+1)) (λ_=>Db hD d) _ (aE _)
end
end Go.Proofs.YtfebdimolnobaaaGreatDoor
