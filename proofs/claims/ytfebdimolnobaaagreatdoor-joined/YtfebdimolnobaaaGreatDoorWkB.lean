import Derived.Test.YtfebdimolnobaaaGreatDoorBuI
import Derived.Lib.ValidLaws
import Derived.Laws.Bits64
import Derived.Shelf.Spec.SlicesInsert
import Derived.Lib.AppendZerosOnto
set_option maxRecDepth 100000
set_option maxHeartbeats 8000000
set_option linter.all false
namespace Go.Proofs.YtfebdimolnobaaaGreatDoor
open Go.RowKit Go.Proofs.Tryz
section
open Uq
def Ez (a:Nat)(x n:Int)(w:an)(ha:w.cell? (ai a 0)=some (aa x)):
  Calls prog 236 #[ag a,aa n] w λe w'=>e= .returned (aa (kr x n))/\w'=w:=by
 have hC:=qd x n;generalize kr x n=c at hC⊢;go_in
 go_wp2_with fail;refine(hC _).mono ?_;rintro e w' ⟨rfl,rfl⟩;go_wp2;go_ret;exact⟨rfl,rfl⟩
def vM (N:List Int)(t:Int)(e:Ending):Prop:=
 ∃i:Nat,e= .returned (.tuple #[aa i,.bool (decide (N[i]?=some t))])/\i<=N.length/\(∀k x,N[k]?=some x->k<i->x<t)/\(∀k x,N[k]?=some x->i<=k->t<=x)
def Jl (w:an)(v:Value)(l:List (Int×Nat))(t:Int)(lo:Nat)(hrow:w.ownsRow lo 212 1 v l.length (eU (l.map (·.2))))(hc:∀x∈l,w.cell? (ai x.2 0)=some (aa x.1))(hs:l.Pairwise (λa b=>a.1<=b.1))(hl:l.length<=2001):
  Calls prog 235 #[v,aa t,.func (.func 236) #[] #[]] w λe w'=>vM (l.map (·.1)) t e/\w'=w:=by
 obtain⟨a,c,rfl⟩:=iD hrow
 have HS:Hid (∀(i j:Nat) (x y:Int×Nat),l[i]?=some x->l[j]?=some y->i<=j->x.1<=y.1):=λi j x y hx hy Uz=>by
  by_cases e:i=j
  ·subst e;rw[hx]at hy;obtain rfl:=Option.some.inj hy;exact dm _
  ·rw[bM]at hs;have hi:=gl hx;have hj:=gl hy;have:=hs i j hi hj Ue;rw[aK hi]at hx;rw[aK hj]at hy;rw[<-Option.some.inj hx,<-Option.some.inj hy];exact this
 have HG:Hid (∀i x,l[i]?=some x->∃g,a=some (ai g 0)/\w.cell? (ai g i)=some (ag x.2)/\w.cell? (ai x.2 0)=some (aa x.1)):=λi x hx=>by
  have hi:=gl hx;obtain⟨g,rfl,_,_,Ur⟩:=el hrow Ue;exact⟨g,rfl,Ur w rfl i _ (by simp[eU,hx,gI]),hc x (aI hx)⟩
 clear hs hc hrow;go_in
 go_wp2;go_loopw [9,10] (λiv jv wr=>∃(i j:Nat),i<=j/\j<=l.length/\iv=aa i/\jv=aa j/\Hid (∀k x,l[k]?=some x->k<i->x.1<t)/\Hid (∀k x,l[k]?=some x->j<=k->t<=x.1)/\w=wr) (λiv jv _=>((intOf jv)-(intOf iv)).toNat)
 case atStart=>exact⟨0,l.length,aL _,ay _,rfl,rfl,(λk x _ h=>Ue),(λk x hx h=>by rw[aY Ue]at hx;cases hx),rfl⟩
 case round=>
  obtain⟨i,j,Uz,UA,rfl,rfl,H1,H2,rfl⟩:=hrel
  by_cases Uy:i<j
  ·obtain⟨h,hh⟩:∃h,(i+j)/2=h:=⟨_,rfl⟩;have UC:h<l.length:=Ue;have UD:i<=h:=Ue;have hhj:h<j:=Ue;have⟨x,hx⟩:=gx UC;obtain⟨g,rfl,UE,Ux⟩:=HG.out h x hx;have hw1:IntKind.u64.wrap ((i:Int)+(j:Int))=(i:Int)+(j:Int):=gm Ue Ue;have hdiv:((i:Int)+(j:Int))/2=(h:Int):=Ue;have hw2:IntKind.i64.wrap (h:Int)=(h:Int):=by simp[IntKind.wrap,IntKind.bits,IntKind.signed];omega
   by_cases Uv:x.1<t
   ·have hd:decide (kr x.1 t<0)=true:=by simp[mY,Uv]
    have HX:Hid (l[h]?=some x):=hx;clear hh hx HG;go_wp2_with fail;refine(Ez x.2 x.1 t _ Ux).mono ?_;rintro e w2 ⟨rfl,rfl⟩;go_wp2;go_roundw
    case rel=>exact⟨h+1,j,Ue,UA,rfl,rfl,(λk y hy hk=>Int.lt_of_le_of_lt (HS.out k h y x hy HX.out Ue) Uv),H2,trivial⟩
    case measure=>simp[intOf];omega
   ·have hd:decide (kr x.1 t<0)=false:=decide_eq_false (λq=>Uv ((mY _ _).1 q));have HX:Hid (l[h]?=some x):=hx;clear hh hx HG;go_wp2_with fail;refine(Ez x.2 x.1 t _ Ux).mono ?_;rintro e w2 ⟨rfl,rfl⟩;go_wp2;go_roundw
    case rel=>exact⟨i,h,UD,Ue,rfl,rfl,H1,(λk y hy hk=>Int.le_trans Ue (HS.out h k x y HX.out hy hk)),trivial⟩
    case measure=>simp[intOf];omega
  ·obtain rfl:i=j:=Ue;have hli:decide ((i:Int)<(i:Int))=false:=Uf
   by_cases Us:i<l.length
   ·have⟨x,hx⟩:=gx Us;obtain⟨g,rfl,UE,Ux⟩:=HG.out i x hx;have HX:Hid (l[i]?=some x):=hx;have hti:=H2.out i x hx (ay _)
    have hd:(kr x.1 t==0)=decide (x.1=t):=by
     rw[co];unfold kr
     by_cases q1:x.1<t
     ·simp[q1];omega
     ·by_cases q2:t<x.1
      ·simp[q1,q2];omega
      ·simp[q1,q2];omega
    have hN:decide ((l.map (·.1))[i]?=some t)=decide (x.1=t):=by rw[aO,hx];simp
    have HE:Hid (decide ((l.map (·.1))[i]?=some t)=decide (x.1=t)):=hN;clear hx HG hN Uy Uz;go_wp2_with fail;refine(Ez x.2 x.1 t _ Ux).mono ?_;rintro e w2 ⟨rfl,rfl⟩;go_wp2;go_ret2;refine⟨⟨i,by rw[HE.out];rfl,by simpa using UA,?_,?_⟩,rfl⟩
    ·intro k y hy hk;rw[aO]at hy;obtain⟨z,hz,rfl⟩:=aW.1 hy;exact H1.out k z hz hk
    ·intro k y hy hk;rw[aO]at hy;obtain⟨z,hz,rfl⟩:=aW.1 hy;exact H2.out k z hz hk
   ·have hli2:decide ((i:Int)<(l.length:Int))=false:=Ug
    have HE:Hid (decide ((l.map (·.1))[i]?=some t)=false):=by
     show decide ((l.map (·.1))[i]?=some t)=false;rw[aY (by rw[bE];omega)];simp
    clear HG Uy Uz;go_wp2;go_ret2;refine⟨⟨i,by rw[HE.out];rfl,by simpa using UA,?_,?_⟩,rfl⟩
    ·intro k y hy hk;rw[aO]at hy;obtain⟨z,hz,rfl⟩:=aW.1 hy;exact H1.out k z hz hk
    ·intro k y hy hk;rw[aO]at hy;obtain⟨z,hz,rfl⟩:=aW.1 hy;exact H2.out k z hz hk
def ic:List GF->Int->Option GF
 | [],_=>none
 |g::l,t=>if g.f.num=t then some g else ic l t
def wU:∀{gs:List GF} {t:Int} {i:Nat} {g:GF},gs[i]?=some g->g.f.num=t->(∀k x,gs[k]?=some x->k<i->x.f.num≠t)->ic gs t=some g
 | [],_,_,_,h,_,_=>by simp at h
 |y::l,t,0,g,h,e,_=>by
  simp at h;subst h;rw[ic,dE e]
 |y::l,t,i+1,g,h,e,hn=>by
  rw[ic,dD (hn 0 y rfl Ue)];exact wU (i:=i) (by simpa using h) e (λk x hx hk=>hn (k+1) x (by simpa using hx) Ue)
def oC:∀{gs:List GF} {t:Int},(∀x∈gs,x.f.num≠t)->ic gs t=none
 | [],_,_=>rfl
 |y::l,t,h=>by
  rw[ic,dD (h y aV)];exact oC (λx hx=>h x (aT _ hx))
def Jm (w:an)(P:ap)(mp:am->Option Nat)(r:Option GF)(e:Ending):Prop:=
 match r with
 |none=>e= .returned (.pointer none)
 |some g=>∃fb,e= .returned (ag fb)/\eJ w P mp g fb
def qh (w:an)(P:ap)(mp:am->Option Nat)(mb:Nat)(name:am)(gs:List GF)(t:Int)(h:iE w P mp mb name gs)(hs:gs.Pairwise (λx y=>x.f.num<=y.f.num))(hl:gs.length<=2001):
  Calls prog 153 #[ag mb,aa t] w λe w'=>Jm w P mp (ic gs t) e/\w'=w:=by
 obtain⟨fv,fbs,h1,h2,h3,h4⟩:=h;obtain⟨z,rfl,rfl,hz⟩:=h4.zip;obtain⟨fa,fn,fc,rfl⟩:=dN h3.1;obtain rfl:fn=z.length:=by have:=eK h3.1;simpa using this
 rw[bE]at hl h3
 have HS:=Jl w (.slice fa z.length fc) (z.map λx=>(x.1.f.num,x.2)) t 0 (by rw[bE,bB,show((λx:Int×Nat=>x.2)∘λx:GF×Nat=>(x.1.f.num,x.2))=(λx=>x.2)from rfl];exact h3.1)
  (λx hx=>by obtain⟨y,hy,rfl⟩:=aP.1 hx;exact(hz y hy).cell0.1) (by rw[cm]at hs⊢;exact hs) (by simpa using hl)
 have⟨k1,k2⟩:=h1.rules;go_in
 go_wp2_with fail;refine HS.mono ?_;rintro e w2 ⟨⟨i,rfl,hi,Ut,Uu⟩,rfl⟩;have eN:(List.map (·.1) (z.map λx:GF×Nat=>(x.1.f.num,x.2)))=z.map (λx=>x.1.f.num):=by rw[bB];rfl
 rw[eN]at hi Ut Uu⊢;rw[bE]at hi
 by_cases hf:(z.map (λx=>x.1.f.num))[i]?=some t
 ·rw[decide_eq_true hf];rw[aO]at hf;have⟨x,hx,Uv⟩:=aW.1 hf
  have Uq:ic (z.map (·.1)) t=some x.1:=wU (i:=i) (by rw[aO,hx];rfl) Uv (λk y hy hk e=>by
   rw[aO]at hy;obtain⟨u,hu,rfl⟩:=aW.1 hy;have:=Ut k u.1.f.num (by rw[aO,hu];rfl) hk
   omega)
  have Us:=gl hx;obtain⟨g,rfl,_,_,Ur⟩:=el h3.1 Ue;have hg:=Ur w2 rfl i (ag x.2) (by simp[eU,hx,gI]);have Uy:(i:Int)<(z.length:Int):=Ue;have HF:Hid (ic (z.map (·.1)) t=some x.1):=Uq;have HX:Hid (eJ w2 P mp x.1 x.2):=hz x (aI hx);clear Uq Ur Ut Uu hz HS;go_wp2;go_ret;refine⟨?_,rfl⟩;rw[HF.out];exact⟨x.2,rfl,HX.out⟩
 ·rw[decide_eq_false hf]
  have Uq:ic (z.map (·.1)) t=none:=oC (λy hy e=>by
   obtain⟨u,hu,rfl⟩:=aP.1 hy;have⟨k,hk⟩:=da hu;have Uw:(z.map (λx=>x.1.f.num))[k]?=some u.1.f.num:=by rw[aO,hk];rfl
   rcases Nat.lt_or_ge k i with q|q
   ·have:=Ut k _ Uw q;omega
   ·by_cases q2:k=i
    ·subst q2;rw[e]at Uw;exact hf Uw
    ·have h5:=Uu k _ Uw q;have Us:i<z.length:=by have:=gl hk;omega
     have⟨x,hx⟩:=gx Us;have h6:=Uu i x.1.f.num (by rw[aO,hx];rfl) (ay _)
     have h7:x.1.f.num<=u.1.f.num:=by
      have UB:=gl hk;rw[cm,bM]at hs;have h8:=hs i k Us UB Ue;rw[aK Us]at hx;rw[aK UB]at hk;rw[Option.some.inj hx,Option.some.inj hk]at h8;exact h8
     exact hf (by rw[aO,hx];simp;omega))
  have HF:Hid (ic (z.map (·.1)) t=none):=Uq;clear Uq Ut Uu hz HS;go_wp2;go_ret;refine⟨?_,rfl⟩;rw[HF.out];rfl
def eh (mp:am->Option Nat)(g:GF):Nat:=if g.form=4 then 16 else i8 mp g.f.ty
def AW:∀(l:List (List UInt8)) (s:List UInt8) (k n:Nat),CF l s k=some n->n<k+l.length
 | [],s,k,n,h=>by simp[CF]at h
 |x::l,s,k,n,h=>by
  unfold CF at h
  split at h
  ·simp at h;subst h;simp
  ·have:=AW l s (k+1) n h;simp;omega
def tG (mp:am->Option Nat)(t:am):i8 mp t<=16:=by
 unfold i8 nw
 split
 ·cases h:CF mN t.toList 0 with
  |none=>simp
  |some n=>
   have:=AW mN t.toList 0 n h;have e:mN.length=15:=rfl;simp;omega
 ·split<;>omega
def lr (mp:am->Option Nat)(g:GF):eh mp g<=16:=by
 unfold eh
 split
 ·omega
 ·exact tG mp _
def eJ.blk {w:an}{P:ap}{mp:am->Option Nat}{g:GF}{fb:Nat}(h:eJ w P mp g fb):
  ∃pv rv,dM w fb #[aa g.f.num,aa g.form,aa (eh mp g),pv,rv] 220/\P fb/\eD w P 3 1 rv g.riv.length (gd g.riv)/\
   (if g.form=4 then∃eb,pv=gI (some eb)/\lM w P mp g.f.key g.f.ty eb else pv=gI (yH mp g.f.ty)):=by
 unfold eJ at h;unfold eh
 split at h
 ·rename_i h0
  obtain⟨rv,eb,h1,h2,h3,h4⟩:=h;rw[dE h0];refine⟨gI (some eb),rv,by rw[h0];exact h1,h2,h3,?_⟩;rw[dE h0];exact⟨eb,rfl,h4⟩
 ·rename_i h0
  obtain⟨rv,h1,h2,h3⟩:=h;rw[dD h0];exact⟨_,rv,h1,h2,h3,by rw[dD h0]⟩
def lM.msg {w:an}{P:ap}{mp:am->Option Nat}{k v:am}{eb:Nat}(h:lM w P mp k v eb):iE w P mp eb eS [kJ nt k 1,kJ po v 2]:=by
 obtain⟨fv,b1,b2,h1,h2,h3,h4,h5⟩:=h;refine⟨fv,[b1,b2],h1,h2,h3,b1,[b2],rfl,?_,b2,[],rfl,?_,rfl⟩
 ·unfold eJ;rw[dD (by simp[kJ])];exact h4
 ·unfold eJ;rw[dD (by simp[kJ])];exact h5
def gR (mp:am->Option Nat)(g:GF):Bool:=(g.form==2)&&eO (eh mp g)
def lT (w:an)(P:ap)(mp:am->Option Nat)(g:GF)(fb:Nat)(h:eJ w P mp g fb):
  Calls prog 209 #[ag fb] w λe w'=>e= .returned (.bool (gR mp g))/\aj w w':=by
 have⟨pv,rv,h1,_,_,_⟩:=h.blk;have hk:=Ey;have Us:=lr mp g;unfold gR;have⟨k1,k2⟩:=h1.rules
 cases hf:(g.form==2)
 ·go_in
  go_wp2;go_ret;exact⟨rfl,Below.refl _ _⟩
 ·go_in
  go_wp2_with fail;refine(hk w (eh mp g) pv Us).mono ?_;rintro e w2 ⟨rfl,b2⟩;go_wp2;go_ret;exact⟨rfl,b2⟩
def lu (mp:am->Option Nat)(g:GF)(kind:Int):Bool:=(kind==(ee (eh mp g):Int))||((kind==2)&&gR mp g)
def Px (w:an)(P:ap)(mp:am->Option Nat)(g:GF)(fb:Nat)(kind:Int)(h:eJ w P mp g fb):
  Calls prog 183 #[ag fb,aa kind] w λe w'=>e= .returned (.bool (lu mp g kind))/\aj w w':=by
 have⟨pv,rv,h1,_,_,_⟩:=h.blk;have Us:=lr mp g;have HW:=py w (eh mp g) pv Us;have HP:Hid (∀w2:an,aj w w2->Ua 209 #[ag fb] w2 λe w'=>e= .returned (.bool (gR mp g))/\aj w2 w'):=λw2 b2=>lT w2 P mp g fb (h.keep (λb _ hl=>b2.block b hl))
 unfold lu;have⟨k1,k2⟩:=h1.rules;generalize eh mp g=gb at*;generalize(ee gb:Int)=wb at*;generalize gR mp g=pg at*
 cases hf:(kind==wb)
 ·cases Ut:(kind==2)
  ·go_in
   go_wp2_with fail;refine HW.mono ?_;rintro e w2 ⟨rfl,b2⟩;go_wp2;go_ret;exact⟨rfl,b2⟩
  ·go_in
   go_wp2_with fail;refine HW.mono ?_;rintro e w2 ⟨rfl,b2⟩;go_wp2_with fail;refine(HP.out w2 b2).mono ?_;rintro e w3 ⟨rfl,b3⟩;go_wp2;go_ret;exact⟨rfl,ew b2 b3⟩
 ·go_in
  go_wp2_with fail;refine HW.mono ?_;rintro e w2 ⟨rfl,b2⟩;go_wp2;go_ret;exact⟨rfl,b2⟩
def kt (mp:am->Option Nat)(g:GF):Int:=if g.form=4/\i8 mp g.f.ty=16 then 2 else if eh mp g=16 then 1 else 0
def tH (k v:am): [kJ nt k 1,kJ po v 2].Pairwise (λx y=>x.f.num<=y.f.num):=by simp[kJ]
def CS (k v:am):ic [kJ nt k 1,kJ po v 2] 1=some (kJ nt k 1):=by simp[ic,kJ]
def CT (k v:am):ic [kJ nt k 1,kJ po v 2] 2=some (kJ po v 2):=by simp[ic,kJ]
def sj (w:an)(P:ap)(mp:am->Option Nat)(g:GF)(fb:Nat)(h:eJ w P mp g fb):
  Calls prog 186 #[ag fb] w λe w'=>e= .returned (aa (kt mp g))/\w'=w:=by
 have⟨pv,rv,h1,_,_,h4⟩:=h.blk;have⟨k1,k2⟩:=h1.rules;unfold kt
 by_cases hf:g.form=4
 ·rw[dE hf]at h4;obtain⟨eb,rfl,hE⟩:=h4;have HF:=qh w P mp eb eS _ 2 hE.msg (tH _ _) Uf;rw[CT]at HF;have Ut:(g.form==4)=true:=by simp[hf]
  unfold gI at k1;have Uq:eh mp g=16:=by unfold eh;rw[dE hf]
  rw[Uq]at k1
  by_cases ht:i8 mp g.f.ty=16
  ·rw[dE ⟨hf,ht⟩];clear hf h h1;go_in
   go_wp2_with fail;refine HF.mono ?_;rintro e w2 ⟨⟨vb,rfl,hV⟩,rfl⟩;have⟨Uu,Uv,h5,_,_,_⟩:=hV.blk;have Ur:eh mp (kJ po g.f.ty 2)=16:=by unfold eh;rw[dD (by simp[kJ])];exact ht
   rw[Ur]at h5;have⟨k3,k4⟩:=h5.rules;go_wp2;go_ret;exact⟨rfl,rfl⟩
  ·rw[dD (λq=>ht q.2),dE Uq];clear hf h h1;go_in
   go_wp2_with fail;refine HF.mono ?_;rintro e w2 ⟨⟨vb,rfl,hV⟩,rfl⟩;have⟨Uu,Uv,h5,_,_,_⟩:=hV.blk;have Ur:eh mp (kJ po g.f.ty 2)=i8 mp g.f.ty:=by unfold eh;rw[dD (by simp[kJ])];rfl
   rw[Ur]at h5;have⟨k3,k4⟩:=h5.rules;have ht2:((i8 mp g.f.ty:Int)==16)=false:=Ug;go_wp2;go_ret;exact⟨rfl,rfl⟩
 ·have Ut:(g.form==4)=false:=by simp[hf]
  rw[dD (λq=>hf q.1)];clear h4
  by_cases Uq:eh mp g=16
  ·rw[dE Uq];rw[Uq]at k1;clear hf;go_in
   go_wp2;go_ret;exact⟨rfl,rfl⟩
  ·rw[dD Uq];have hg2:((eh mp g:Int)==16)=false:=Ug;clear hf Uq;go_in
   go_wp2;go_ret;exact⟨rfl,rfl⟩
def jb (s:am)(a k:Nat):Fx (Int×Nat):=
 match(if ee k=0 then g9 s a s.size else if ee k=5 then iT s a 4 else iT s a 8)with
 | .error x=> .error x
 | .ok x=> .ok (kD k x.1,x.2)
def Th (k:Nat):Fx (Int×Nat)->Fx (Int×Nat)
 | .error x=> .error x
 | .ok x=> .ok (kD k x.1,x.2)
def EA {w:an}{rb k:Nat}{s:am}{deep:Int}{X r:Fx (Int×Nat)}{Q:Ending->an->Prop}(hX:Th k X=r)(h1:∀x w2,dX [rb] w w2->r= .error x->Q (dL x.1 x.2) w2)(h2:∀n z w2,X= .ok (n,z)->r= .ok (kD k n,z)->dX [rb] w w2->dW w2 rb s z deep->Q (.returned (.int .u64 n)) w2):
  ∀e w2,oU w rb s deep X (Value.int .u64) e w2->Q e w2:=by
 intro e w2 ⟨hk,h⟩
 cases X with
 |error x=>obtain rfl:e=dL x.1 x.2:=h;exact h1 x w2 hk hX.symm
 |ok x=>obtain⟨h,hr⟩:=h;obtain rfl:e=_:=h;exact h2 x.1 x.2 w2 rfl hX.symm hk hr
def AX (w:an)(rb:Nat)(s:am)(a:Nat)(deep:Int)(k:Nat)(h:dW w rb s a deep)(ha:a<=s.size)(hs:s.size<=140737488355328)(hn:eO k=true):
  Calls prog 271 #[aa k,ag rb] w (oU w rb s deep (jb s a k) (Value.int .u64)):=by
 have hk:k=0\/k=1\/k=2\/k=3\/k=4\/k=5\/k=6\/k=7\/k=8\/k=9\/k=10\/k=11\/k=12\/k=15:=by
  unfold eO at hn;simp at hn;omega
 have HV:=mt w rb s a deep h hs;have H4:=AS w rb s a deep h ha hs;have H8:=vI w rb s a deep h ha hs;obtain⟨r,HR⟩:∃r,Hid (Th k (if ee k=0 then g9 s a s.size else if ee k=5 then iT s a 4 else iT s a 8)=r):=⟨_,rfl⟩;rw[show jb s a k=r from HR.out];clear h
 rcases hk with rfl|rfl|rfl|rfl|rfl|rfl|rfl|rfl|rfl|rfl|rfl|rfl|rfl|rfl
 all_goals
  go_in
  go_wp2_with fail
  first
  |(go_at_call 182;refine HV.mono (EA HR.out ?_ ?_))
  |(go_at_call 352;refine H4.mono (EA HR.out ?_ ?_))
  |refine H8.mono (EA HR.out ?_ ?_)
  ·rintro x w2 hk rfl;unfold dL;go_wp2;exact⟨rfl,hk,rfl⟩
  ·rintro n z w2 hv rfl hk hr;go_wp2_with fail
   first
   |(go_ret;exact⟨hk,rfl,hr⟩)
   |(
     first |(go_at_call 347;refine(oA _ n).mono ?_) |(go_at_call 348;refine(sf _ n).mono ?_) |(go_at_call 349;refine(Jh _ n).mono ?_) |(go_at_call 350;refine(Ex _ n (iG hv).1 (iG hv).2.1).mono ?_) |(have HT:Ua 351 #[.int .u64 n] w2 λe w'=>e= .returned (.int .u64 (kD 6 n))/\w'=w2:=vJ w2 n (iG hv).1;generalize kD 6 n=b at*;refine HT.mono ?_)
     rintro e w3 ⟨rfl,rfl⟩;go_wp2;go_ret
     exact⟨hk,rfl,hr⟩)
def sl (mp:am->Option Nat)(gs:List GF)(num kind:Int):Option GF:=
 match ic gs num with
 |none=>none
 |some g=>if lu mp g kind then some g else none
def zG (w:an)(P:ap)(mp:am->Option Nat)(mb:Nat)(name:am)(gs:List GF)(num kind:Int)(h:iE w P mp mb name gs)(hs:gs.Pairwise (λx y=>x.f.num<=y.f.num))(hl:gs.length<=2001):
  Calls prog 132 #[ag mb,.agg #[aa num,aa kind]] w λe w'=>Jm w' P mp (sl mp gs num kind) e/\aj w w':=by
 have⟨B0,K0⟩:=dS w #[aa num,aa kind] 237;have h0:=h.keep (w':=w.alloc (ak #[aa num,aa kind] 237)) (λb _ hl=>Below.heap_alloc _ _ _ hl);obtain⟨r,HR⟩:∃r,Hid (sl mp gs num kind=r):=⟨_,rfl⟩;rw[HR.out];go_in
 go_wp2_with fail;generalize w.alloc (ak #[aa num,aa kind] 237)=w1 at*;refine(qh w1 P mp mb name gs num h0 hs hl).mono ?_
 cases hf:ic gs num with
 |none=>
  rintro e w2 ⟨he,rfl⟩;obtain rfl:e= .returned (.pointer none):=he;obtain rfl:r=none:=by rw[<-HR.out,sl,hf]
  go_wp2;go_ret;exact⟨rfl,B0⟩
 |some g=>
  rintro e w2 ⟨⟨fb,rfl,hF⟩,rfl⟩;have⟨k1,k2⟩:=K0.rules;have HT:Hid (Ua 183 #[ag fb,aa kind] w2 λe w'=>e= .returned (.bool (lu mp g kind))/\aj w2 w'):=Px w2 P mp g fb kind hF;have HF:Hid (∀w3:an,aj w2 w3->eJ w3 P mp g fb):=λw3 b3=>hF.keep (λb _ hl=>b3.block b hl)
  go_wp2_with fail;refine HT.out.mono ?_
  cases hq:lu mp g kind
  ·obtain rfl:r=none:=by rw[<-HR.out,sl,hf];simp[hq]
   rintro e w3 ⟨rfl,b3⟩;go_wp2;go_ret;exact⟨rfl,ew B0 b3⟩
  ·obtain rfl:r=some g:=by rw[<-HR.out,sl,hf];simp[hq]
   rintro e w3 ⟨rfl,b3⟩;go_wp2;go_ret;exact⟨⟨fb,rfl,HF.out w3 b3⟩,ew B0 b3⟩
end
abbrev LV:=Int×am
def vg (v:LV):Value:= .agg #[.int .u64 v.1,ae v.2,ah,T9]
section
open Uq
def gi (s:am)(a k:Nat):Fx (LV×Nat):=
 if k=13 then(match qU s a with| .error x=> .error x| .ok x=> .ok ((0,x.1),x.2))
 else if k=14 then(match nA s a with| .error x=> .error x| .ok x=> .ok ((0,x.1),x.2))
 else(match jb s a k with| .error x=> .error x| .ok x=> .ok ((x.1,⟨#[]⟩),x.2))
def pz (w:an)(rb:Nat)(s:am)(a:Nat)(deep:Int)(k:Nat)(pv:Value)(h:dW w rb s a deep)(ha:a<=s.size)(hs:s.size<=140737488355328)(hk:k<=15)(hu:UOK w)(hu1:rb≠2)(hu2:rb≠3):
  Calls prog 194 #[.agg #[aa k,pv],ag rb] w (oU w rb s deep (gi s a k) vg):=by
 have K1:dX [rb] w ((w.alloc (ak #[aa k,pv] 216)).alloc (ak #[.int .u64 0,T9,ah,T9] 55)):=((dX.refl _ _).alloc _).alloc _;have h1:dW ((w.alloc (ak #[aa k,pv] 216)).alloc (ak #[.int .u64 0,T9,ah,T9] 55)) rb s a deep:=(dM.alloc h _).alloc _;have T1:=(dM.new w #[aa k,pv] 216).alloc (ak #[.int .u64 0,T9,ah,T9] 55);have V1:dM ((w.alloc (ak #[aa k,pv] 216)).alloc (ak #[.int .u64 0,T9,ah,T9] 55)) (w.heap.size+1) #[.int .u64 0,T9,ah,T9] 55:=dM.newAt Uf _ _;have Ut:UOK ((w.alloc (ak #[aa k,pv] 216)).alloc (ak #[.int .u64 0,T9,ah,T9] 55)):=hu.keep (K1.block _ hu.lt1 (by simp;exact λe=>hu1 e.symm)) (K1.block _ hu.lt2 (by simp;exact λe=>hu2 e.symm));have hlt:rb<w.heap.size:=dM.lt h
 have Ur:Hid (∀(w1 w2:an) (x:LV) (z:Nat),dX [rb] w w1->dM w1 (w.heap.size+1) #[.int .u64 0,T9,ah,T9] 55->dX [rb] w1 w2->dW w2 rb s z deep->
   dM (((((w2.setCell (ai (w.heap.size+1) 0) (.int .u64 x.1)).setCell (ai (w.heap.size+1) 1) (ae x.2)).setCell (ai (w.heap.size+1) 2) (ah)).setCell (ai (w.heap.size+1) 3) (T9))) (w.heap.size+1) #[.int .u64 x.1,ae x.2,ah,T9] 55/\
   dX [rb] w (((((w2.setCell (ai (w.heap.size+1) 0) (.int .u64 x.1)).setCell (ai (w.heap.size+1) 1) (ae x.2)).setCell (ai (w.heap.size+1) 2) (ah)).setCell (ai (w.heap.size+1) 3) (T9)))/\
   dW (((((w2.setCell (ai (w.heap.size+1) 0) (.int .u64 x.1)).setCell (ai (w.heap.size+1) 1) (ae x.2)).setCell (ai (w.heap.size+1) 2) (ah)).setCell (ai (w.heap.size+1) 3) (T9))) rb s z deep):=λw1 w2 x z k1 v1 k2 r2=>by
  have v2:dM w2 (w.heap.size+1) #[.int .u64 0,T9,ah,T9] 55:=(k2.block _ v1.lt Ug).trans v1;refine⟨(((v2.set 0 _).set 1 _).set 2 _).set 3 _,?_,(((dM.other r2 0 _ Ue).other 1 _ Ue).other 2 _ Ue).other 3 _ Ue⟩;have k3:=k1.trans k2
  exact⟨k3.os,k3.tape,k3.output,by simpa using k3.size,λi hi hn=>by
   rw[dK,dD Ue,dK,dD Ue,dK,dD Ue,dK,dD Ue]
   exact k3.block i hi hn⟩
 obtain⟨r,HR⟩:∃r,Hid (gi s a k=r):=⟨_,rfl⟩;rw[HR.out]
 by_cases h13:k=13
 ·subst h13;have HV:Hid (gi s a 13=(match qU s a with| .error x=> .error x| .ok x=> .ok ((0,x.1),x.2))):=rfl;go_in
  go_wp2_with fail;generalize((w.alloc (ak #[aa ((13:Nat):Int),pv] 216)).alloc (ak #[.int .u64 0,T9,ah,T9] 55))=w1 at*;refine(Ji w1 rb s a deep h1 hs Ut hu1 hu2).mono ?_
  cases hv:qU s a with
  |error x=>
   rintro e w2 ⟨Uq,he⟩;obtain rfl:e=dL x.1 x.2:=he;obtain rfl:r= .error x:=by rw[<-HR.out,HV.out,hv]
   unfold dL;go_wp2;exact⟨rfl,K1.trans Uq,rfl⟩
  |ok x=>
   rintro e w2 ⟨Uq,rfl,hr⟩;obtain rfl:r= .ok (((0,x.1):LV),x.2):=by rw[<-HR.out,HV.out,hv]
   have⟨q1,q2,q3⟩:=Ur.out w1 w2 ((0,x.1):LV) x.2 K1 V1 Uq hr;have V2:dM w2 (w.heap.size+1) #[.int .u64 0,T9,ah,T9] 55:=(Uq.block _ V1.lt Ug).trans V1;have⟨y7,y8⟩:=V2.rules;clear Ur;go_wp2;exact dG (ec results194 _ _ rfl q1 underlying55 Uj) rfl ⟨q2,rfl,q3⟩
 ·by_cases h14:k=14
  ·subst h14;have HV:Hid (gi s a 14=(match nA s a with| .error x=> .error x| .ok x=> .ok ((0,x.1),x.2))):=rfl;go_in
   go_wp2_with fail;generalize((w.alloc (ak #[aa ((14:Nat):Int),pv] 216)).alloc (ak #[.int .u64 0,T9,ah,T9] 55))=w1 at*;refine(FY w1 rb s a deep h1 hs).mono ?_
   cases hv:nA s a with
   |error x=>
    rintro e w2 ⟨Uq,he⟩;obtain rfl:e=dL x.1 x.2:=he;obtain rfl:r= .error x:=by rw[<-HR.out,HV.out,hv]
    unfold dL;go_wp2;exact⟨rfl,K1.trans Uq,rfl⟩
   |ok x=>
    rintro e w2 ⟨Uq,rfl,hr⟩;obtain rfl:r= .ok (((0,x.1):LV),x.2):=by rw[<-HR.out,HV.out,hv]
    have⟨q1,q2,q3⟩:=Ur.out w1 w2 ((0,x.1):LV) x.2 K1 V1 Uq hr;have V2:dM w2 (w.heap.size+1) #[.int .u64 0,T9,ah,T9] 55:=(Uq.block _ V1.lt Ug).trans V1;have⟨y7,y8⟩:=V2.rules;clear Ur;go_wp2;exact dG (ec results194 _ _ rfl q1 underlying55 Uj) rfl ⟨q2,rfl,q3⟩
  ·have HV:Hid (gi s a k=(match jb s a k with| .error x=> .error x| .ok x=> .ok ((x.1,⟨#[]⟩),x.2))):=by
    show gi s a k=_;unfold gi;rw[dD h13,dD h14]
   have b13:((k:Int)==13)=false:=Ug;have b14:((k:Int)==14)=false:=Ug;have Us:eO k=true:=by unfold eO;simp;omega
   have⟨t1,t2⟩:=T1.rules;go_in
   go_wp2_with fail;generalize((w.alloc (ak #[aa k,pv] 216)).alloc (ak #[.int .u64 0,T9,ah,T9] 55))=w1 at*;refine(AX w1 rb s a deep k h1 ha hs Us).mono ?_
   cases hv:jb s a k with
   |error x=>
    rintro e w2 ⟨Uq,he⟩;obtain rfl:e=dL x.1 x.2:=he;obtain rfl:r= .error x:=by rw[<-HR.out,HV.out,hv]
    unfold dL;go_wp2;exact⟨rfl,K1.trans Uq,rfl⟩
   |ok x=>
    rintro e w2 ⟨Uq,rfl,hr⟩;obtain rfl:r= .ok (((x.1,⟨#[]⟩):LV),x.2):=by rw[<-HR.out,HV.out,hv]
    have⟨q1,q2,q3⟩:=Ur.out w1 w2 ((x.1,⟨#[]⟩):LV) x.2 K1 V1 Uq hr;have V2:dM w2 (w.heap.size+1) #[.int .u64 0,T9,ah,T9] 55:=(Uq.block _ V1.lt Ug).trans V1;have⟨y7,y8⟩:=V2.rules;clear Ur;go_wp2;exact dG (ec results194 _ _ rfl q1 underlying55 Uj) rfl ⟨q2,rfl,q3⟩
end
section
open Go.Lib
def sq (s:am)(k:Nat):fL s k=((s.data.toList.getD k 0).toNat:Int):=by
 have hz:s.data.size=s.size:=rfl;unfold fL
 by_cases h:k<s.size
 ·rw[dif_pos h,bW,bz,bF (show k<s.data.size from h)];rfl
 ·rw[dif_neg h,bW,bz,cE Ue];rfl
def ro (n:Nat)(b0 b1 b2 b3:Int):Option Nat:=
 if 240<=b0 then
  (if n<4 then none else if b1<128\/191<b1 then none else if b2<128\/191<b2 then none else if b3<128\/191<b3 then none else
   if 64*(64*(64*(b0-240)+b1-128)+b2-128)+b3-128<65536\/1114111<64*(64*(64*(b0-240)+b1-128)+b2-128)+b3-128\/(55296<=64*(64*(64*(b0-240)+b1-128)+b2-128)+b3-128/\64*(64*(64*(b0-240)+b1-128)+b2-128)+b3-128<=57343)then none else some 4)
 else if 224<=b0 then
  (if n<3 then none else if b1<128\/191<b1 then none else if b2<128\/191<b2 then none else
   if 64*(64*(b0-224)+b1-128)+b2-128<2048\/1114111<64*(64*(b0-224)+b1-128)+b2-128\/(55296<=64*(64*(b0-224)+b1-128)+b2-128/\64*(64*(b0-224)+b1-128)+b2-128<=57343)then none else some 3)
 else if 192<=b0 then
  (if n<2 then none else if b1<128\/191<b1 then none else
   if 64*(b0-192)+b1-128<128\/1114111<64*(b0-192)+b1-128\/(55296<=64*(b0-192)+b1-128/\64*(b0-192)+b1-128<=57343)then none else some 2)
 else if 128<=b0 then none
 else(if n<1 then none else if b0<0\/1114111<b0\/(55296<=b0/\b0<=57343)then none else some 1)
def Rg (s:am):Sl s=ro s.size (fL s 0) (fL s 1) (fL s 2) (fL s 3):=by
 unfold Sl ro Rc
 by_cases h1:240<=fL s 0
 ·rw[dE h1,dE h1]
  by_cases h2:s.size<4
  ·rw[dE h2,dE h2]
  ·rw[dD h2,dD h2];show(match IV s 3 1 (fL s 0-240)with|none=>none|some c=>_)=_;unfold IV
   by_cases g1:fL s 1<128\/191<fL s 1
   ·rw[dE g1,dE g1]
   ·rw[dD g1,dD g1];unfold IV
    by_cases g2:fL s 2<128\/191<fL s 2
    ·rw[dE g2,dE g2]
    ·rw[dD g2,dD g2];unfold IV
     by_cases g3:fL s 3<128\/191<fL s 3
     ·rw[dE g3,dE g3]
     ·rw[dD g3,dD g3];rfl
 ·rw[dD h1,dD h1]
  by_cases h3:224<=fL s 0
  ·rw[dE h3,dE h3]
   by_cases h2:s.size<3
   ·rw[dE h2,dE h2]
   ·rw[dD h2,dD h2];show(match IV s 2 1 (fL s 0-224)with|none=>none|some c=>_)=_;unfold IV
    by_cases g1:fL s 1<128\/191<fL s 1
    ·rw[dE g1,dE g1]
    ·rw[dD g1,dD g1];unfold IV
     by_cases g2:fL s 2<128\/191<fL s 2
     ·rw[dE g2,dE g2]
     ·rw[dD g2,dD g2];rfl
  ·rw[dD h3,dD h3]
   by_cases h4:192<=fL s 0
   ·rw[dE h4,dE h4]
    by_cases h2:s.size<2
    ·rw[dE h2,dE h2]
    ·rw[dD h2,dD h2];show(match IV s 1 1 (fL s 0-192)with|none=>none|some c=>_)=_;unfold IV
     by_cases g1:fL s 1<128\/191<fL s 1
     ·rw[dE g1,dE g1]
     ·rw[dD g1,dD g1];rfl
   ·rw[dD h4,dD h4];rfl
def wW {n b0 b1 b2 b3:Nat}(hd:decodeN n b0 b1 b2 b3=(65533,1))(hu:ro n b0 b1 b2 b3=none):
  ro n b0 b1 b2 b3=if(decodeN n b0 b1 b2 b3).1=65533/\(decodeN n b0 b1 b2 b3).2=1 then none else some (decodeN n b0 b1 b2 b3).2:=by grind
def F4 {n b0 b1 b2 b3 c k:Nat}(hd:decodeN n b0 b1 b2 b3=(c,k))(hu:ro n b0 b1 b2 b3=some k)(Uq:¬(c=65533/\k=1)):
  ro n b0 b1 b2 b3=if(decodeN n b0 b1 b2 b3).1=65533/\(decodeN n b0 b1 b2 b3).2=1 then none else some (decodeN n b0 b1 b2 b3).2:=by
 rw[hu,hd,dD Uq]
def Jn (n b0 b1 b2 b3:Nat)(hn:0<n)(h0:b0<256)(h1:b1<256)(h2:b2<256)(h3:b3<256):
  ro n b0 b1 b2 b3=if(decodeN n b0 b1 b2 b3).1=65533/\(decodeN n b0 b1 b2 b3).2=1 then none else some (decodeN n b0 b1 b2 b3).2:=by
 by_cases c0:b0<128
 ·refine F4 (c:=b0) (k:=1) ?_ ?_ Ue
  ·unfold decodeN;rw[dE c0]
  ·unfold ro;rw[dD Ue,dD Ue,dD Ue,dD Ue,dD Ue,dD Ue]
 ·by_cases c1:b0<192
  ·refine wW ?_ ?_
   ·unfold decodeN;rw[dD c0,dD (λq=>Ue),dD (λq=>Ue),dD (λq=>Ue)]
   ·unfold ro;rw[dD Ue,dD Ue,dD Ue,dE Ue]
  ·by_cases c2:b0<224
   ·have e0:b0/32=6:=Ue
    have hu:ro n b0 b1 b2 b3=if n<2 then none else if(b1:Int)<128\/191<(b1:Int)then none else
      if 64*((b0:Int)-192)+b1-128<128\/1114111<64*((b0:Int)-192)+b1-128\/(55296<=64*((b0:Int)-192)+b1-128/\64*((b0:Int)-192)+b1-128<=57343)then none else some 2:=by
     unfold ro;rw[dD Ue,dD Ue,dE Ue]
    by_cases g:1<n/\b1/64=2
    ·by_cases q:b0%32*64+b1%64>=128
     ·refine F4 (c:=b0%32*64+b1%64) (k:=2) ?_ ?_ Ue
      ·unfold decodeN;rw[dD c0,dE ⟨e0,g⟩,dE q]
      grind
     ·refine wW ?_ ?_
      ·unfold decodeN;rw[dD c0,dE ⟨e0,g⟩,dD q]
      grind
    ·refine wW ?_ ?_
     ·unfold decodeN;rw[dD c0,dD (λq=>g q.2),dD (λq=>Ue),dD (λq=>Ue)]
     grind
   ·by_cases c3:b0<240
    ·have e0:b0/16=14:=Ue
     have hu:ro n b0 b1 b2 b3=if n<3 then none else if(b1:Int)<128\/191<(b1:Int)then none else if(b2:Int)<128\/191<(b2:Int)then none else
       if 64*(64*((b0:Int)-224)+b1-128)+b2-128<2048\/1114111<64*(64*((b0:Int)-224)+b1-128)+b2-128\/(55296<=64*(64*((b0:Int)-224)+b1-128)+b2-128/\64*(64*((b0:Int)-224)+b1-128)+b2-128<=57343)then none else some 3:=by
      unfold ro;rw[dD Ue,dE Ue]
     by_cases g:(1<n/\b1/64=2)/\(2<n/\b2/64=2)
     ·obtain⟨⟨g1,g2⟩,g3,g4⟩:=g
      have hd:decodeN n b0 b1 b2 b3=if b0%16*4096+b1%64*64+b2%64>=2048/\(b0%16*4096+b1%64*64+b2%64<55296\/(57344<=b0%16*4096+b1%64*64+b2%64/\b0%16*4096+b1%64*64+b2%64<=1114111))then(b0%16*4096+b1%64*64+b2%64,3)else(65533,1):=by
       unfold decodeN;rw[dD c0,dD (λq=>Ue),dE ⟨e0,⟨g1,g2⟩,g3,g4⟩]
      grind
     ·refine wW ?_ ?_
      ·unfold decodeN;rw[dD c0,dD (λq=>Ue),dD (λq=>g q.2),dD (λq=>Ue)]
      grind
    ·have hu:ro n b0 b1 b2 b3=if n<4 then none else if(b1:Int)<128\/191<(b1:Int)then none else if(b2:Int)<128\/191<(b2:Int)then none else if(b3:Int)<128\/191<(b3:Int)then none else
       if 64*(64*(64*((b0:Int)-240)+b1-128)+b2-128)+b3-128<65536\/1114111<64*(64*(64*((b0:Int)-240)+b1-128)+b2-128)+b3-128\/(55296<=64*(64*(64*((b0:Int)-240)+b1-128)+b2-128)+b3-128/\64*(64*(64*((b0:Int)-240)+b1-128)+b2-128)+b3-128<=57343)then none else some 4:=by
      unfold ro;rw[dE Ue]
     by_cases g:b0/8=30/\(1<n/\b1/64=2)/\(2<n/\b2/64=2)/\(3<n/\b3/64=2)
     ·have hd:decodeN n b0 b1 b2 b3=if b0%8*262144+b1%64*4096+b2%64*64+b3%64>=65536/\(b0%8*262144+b1%64*4096+b2%64*64+b3%64<55296\/(57344<=b0%8*262144+b1%64*4096+b2%64*64+b3%64/\b0%8*262144+b1%64*4096+b2%64*64+b3%64<=1114111))then(b0%8*262144+b1%64*4096+b2%64*64+b3%64,4)else(65533,1):=by
       unfold decodeN;rw[dD c0,dD (λq=>Ue),dD (λq=>Ue),dE g]
      grind
     ·refine wW ?_ ?_
      ·unfold decodeN;rw[dD c0,dD (λq=>Ue),dD (λq=>Ue),dD g]
      ·rw[hu]
       by_cases q:n<4
       ·rw[dE q]
       ·rw[dD q]
        by_cases q1:(b1:Int)<128\/191<(b1:Int)
        ·rw[dE q1]
        ·rw[dD q1]
         by_cases q2:(b2:Int)<128\/191<(b2:Int)
         ·rw[dE q2]
         ·rw[dD q2]
          by_cases q3:(b3:Int)<128\/191<(b3:Int)
          ·rw[dE q3]
          ·rw[dD q3,dE Ue]
def zH:∀(f:Nat) (s:am),s.size<=f->Re f s=validD s.data.toList
 |0,s,h=>by
  have e:s.data.toList= []:=bC (by rw[dt];exact Nat.le_zero.1 h);rw[e];rfl
 |f+1,s,h=>by
  unfold Re
  by_cases h0:s.size=0
  ·rw[dE h0];have e:s.data.toList= []:=bC (by rw[dt];exact h0);rw[e];rfl
  ·rw[dD h0];have hl:s.data.toList.length=s.size:=Uk;have Uq:s.data.toList≠ []:=λe=>by grind
   rw[validD_step _ Uq,Rg,sq,sq,sq,sq,decodeL_N,hl];rw[Jn s.size _ _ _ _ Ue (UInt8.toNat_lt _) (UInt8.toNat_lt _) (UInt8.toNat_lt _) (UInt8.toNat_lt _)];have hw:=decodeL_width s.data.toList;rw[decodeL_N,hl]at hw;generalize decodeN s.size (s.data.toList.getD 0 0).toNat (s.data.toList.getD 1 0).toNat (s.data.toList.getD 2 0).toNat (s.data.toList.getD 3 0).toNat=D at*
   by_cases hD:D.1=65533/\D.2=1
   ·rw[dE hD,dE hD]
   ·rw[dD hD,dD hD];show Re f (s.extract D.2 s.size)=_;rw[zH f _ (by rw[aU];omega)]
    congr 1;rw[cI,Array.toList_extract];simp[List.extract];rw[bY (by grind)]
def tI (s:am):RZ s=validD s.data.toList:=zH s.size s (ay _)
end
section
variable {n:Int} {a:Nat} {m:PM} {S:d8} {d:MT}
theorem mw (n:Int)(vs:List PV):∀(l:List PF) (done:Bool) (x:PF),x∈gK n vs done l->(x=(n,vs)/\done=false)\/x∈l
 | [],done,x,h=>by
  cases done
  ·simp[gK]at h;exact .inl ⟨h,rfl⟩
  ·simp[gK]at h
 |y::l,done,x,h=>by
  rw[gK,aR,aR]at h
  rcases h with h|h|h
  ·by_cases q:(!done&&decide (n<=y.1))=true
   ·rw[dE q]at h;simp at h q;exact .inl ⟨h,q.1⟩
   ·rw[dD q]at h;cases h
  ·by_cases q:y.1=n
   ·rw[dE q]at h;cases h
   ·rw[dD q]at h;simp at h;exact .inr (by simp[h])
  ·rcases mw n vs l _ x h with⟨h1,h2⟩|h
   ·simp at h2;exact .inl ⟨h1,h2.1⟩
   ·exact .inr (by simp[h])
theorem sr (n:Int)(vs:List PV):∀(l:List PF) (done:Bool),(gK n vs done l).length<=l.length+(if done then 0 else 1)
 | [],done=>by cases done<;>simp[gK]
 |y::l,done=>by
  rw[gK,aH,aH];have h:=sr n vs l (done||decide (n<=y.1))
  cases done
  ·by_cases q:n<=y.1<;>by_cases e:y.1=n<;>simp[q,e]at h⊢<;>omega
  ·by_cases e:y.1=n<;>simp[e]at h⊢<;>omega
theorem mx {v:PV}:∀{l:List PF},v∈gz l n->∃x∈l,x.1=n/\x.2=gz l n
 | [],h=>by simp[gz]at h
 |x::l,h=>by
  by_cases q:x.1=n
  ·exact⟨x,Uf,q,by simp[gz,q]⟩
  ·simp only[gz,q,if_false]at h⊢;have⟨y,h1,h2,h3⟩:=mx h;exact⟨y,by simp[h1],h2,h3⟩
theorem wX:∀{l:List PF},(∀x∈l,x.2.length<=a)->(gz l n).length<=a
 | [],_=>by simp[gz]
 |x::l,h=>by
  by_cases q:x.1=n
  ·simp only[gz,q,if_true];exact h x Uf
  ·simp only[gz,q,if_false];exact wX (λy hy=>h y (by simp[hy]))
theorem sx (n:Int)(vs:List PV):∀(l:List PF),gz (gK n vs false l) n=vs
 | []=>by simp[gK,gz]
 |y::l=>by
  rw[gK]
  by_cases q:n<=y.1
  ·simp[q,gz]
  ·have e:¬y.1=n:=Ue;simp[q,e,gz,sx n vs l]
theorem qV (n n':Int)(vs:List PV)(hn:n'≠n):∀(l:List PF) (done:Bool),gz (gK n vs done l) n'=gz l n'
 | [],done=>by cases done<;>simp[gK,gz,Ne.symm hn]
 |y::l,done=>by
  rw[gK];have ih:=qV n n' vs hn l (done||decide (n<=y.1));have Ut:¬n=n':=λe=>hn e.symm
  by_cases q:(!done&&decide (n<=y.1))=true
  ·rw[dE q]
   by_cases e:y.1=n
   ·have e2:¬y.1=n':=λx=>hn (by rw[<-x,e])
    simp only[e,if_true,bf,aS,gz,Ut,if_false];rw[e]at ih;rw[ih]
   ·by_cases e2:y.1=n'
    ·subst e2;simp only[e,if_false,bf,aS,gz,if_true,Ut]
    ·simp only[e,if_false,bf,aS,gz,Ut,e2];exact ih
  ·rw[dD q]
   by_cases e:y.1=n
   ·have e2:¬y.1=n':=λx=>hn (by rw[<-x,e])
    simp only[e,if_true,aS,gz,Ut,if_false];rw[e]at ih;exact ih
   ·by_cases e2:y.1=n'
    ·subst e2;simp only[e,if_false,bf,aS,gz,if_true]
    ·simp only[e,if_false,bf,aS,gz,e2];exact ih
theorem PM.get_put (m:PM)(n:Int)(vs:List PV)(h:vs≠ []):(m.put n vs).get n=vs:=by
 have he:vs.isEmpty=false:=by cases vs with
  |nil=>exact absurd rfl h
  |cons _ _=>rfl
 unfold PM.put PM.get;rw[he];exact sx n vs m.fs
theorem PM.get_put_ne (m:PM)(n n':Int)(vs:List PV)(h:n'≠n):(m.put n vs).get n'=m.get n':=qV n n' vs h m.fs _
structure En (t:am)(v:PV):Prop where
 lo:0<=v.1
 hi:v.1<18446744073709551616
 sz:v.2.1.size<=268435456
 str:gG t kE=true->v.1=0
 num:gG t kE=false->v.2.1=eS
structure Sm (a:Nat)(t:am)(v:PV):Prop where
 key:∃rest,v.2.2.get 1=fE v::rest
 ky:En t (fE v)
 len:v.2.2.fs.length<=a+2
 m:v.1=0/\v.2.1=eS
structure Jo (S:d8)(t:am)(v:PV):Prop where
 lo:0<=v.1
 hi:v.1<18446744073709551616
 sz:v.2.1.size<=268435456
 m:v.2.2=PM.none
 txt:S.wire t=2->v.1=0
 num:S.wire t≠2->v.2.1=eS
inductive WM (S:d8)(a:Nat):MT->PM->Prop where
 |mk (d:MT) (fs:List PF) (u:am) (hl:fs.length<=a) (hu:u.size<=a) (hv:∀x∈fs,x.2.length<=a)
  (hm:∀x∈fs,∀f,dR d.fs x.1=some f->f.isMap=true->∀v∈x.2,Sm a f.key v)
  (hz:∀x∈fs,∀f sub,dR d.fs x.1=some f->f.isMap=false->eV S f=some sub->∀v∈x.2,v.1=0/\v.2.1=eS)
  (hs:∀x∈fs,∀f sub,dR d.fs x.1=some f->f.isMap=false->eV S f=some sub->∀v∈x.2,WM S a sub v.2.2)
  (ht:∀x∈fs,∀f,dR d.fs x.1=some f->eV S f=none->∀v∈x.2,Jo S f.ty v):WM S a d (.mk fs u)
theorem WM.len (h:WM S a d m):m.fs.length<=a/\m.unk.size<=a/\∀n,(m.get n).length<=a:=by
 cases h with
 |mk _ fs u hl hu hv _ _ _ _=>exact⟨hl,hu,λn=>wX hv⟩
theorem WM.mono {a':Nat}(ha:a<=a')(h:WM S a d m):WM S a' d m:=by
 induction h with
 |mk d fs u hl hu hv hm hz hs ht ih=>
  exact .mk d fs u Ue Ue (λx hx=>aG (hv x hx) ha) (λx hx f hf hi v hv=>let q:=hm x hx f hf hi v hv;⟨q.key,q.ky,by have:=q.len;omega,q.m⟩)
   hz ih ht
theorem WM.none (S:d8)(a:Nat)(d:MT):WM S a d PM.none:=
 .mk d [] eS (aL _) (aL _) (λ_ h=>by cases h) (λ_ h=>by cases h) (λ_ h=>by cases h) (λ_ h=>by cases h) (λ_ h=>by cases h)
structure Sn (S:d8)(a:Nat)(d:MT)(n:Int)(vs:List PV):Prop where
 hv:vs.length<=a
 hm:∀f,dR d.fs n=some f->f.isMap=true->∀v∈vs,Sm a f.key v
 hz:∀f sub,dR d.fs n=some f->f.isMap=false->eV S f=some sub->∀v∈vs,v.1=0/\v.2.1=eS
 hs:∀f sub,dR d.fs n=some f->f.isMap=false->eV S f=some sub->∀v∈vs,WM S a sub v.2.2
 ht:∀f,dR d.fs n=some f->eV S f=none->∀v∈vs,Jo S f.ty v
theorem WM.put {a':Nat}(h:WM S a d m)(ha:a+1<=a'){vs:List PV}(hv:Sn S a' d n vs):WM S a' d (m.put n vs):=by
 have h2:=h.mono (show a<=a' by omega);have hl:=h.len.1
 cases h2 with
 |mk _ fs u _ hu Ur hm hz hs ht=>
  refine .mk d _ u ?_ hu ?_ ?_ ?_ ?_ ?_
  ·have:=sr n vs fs vs.isEmpty;have h3:(PM.mk fs u).fs.length<=a:=hl;simp only[PM.fs]at h3⊢
   split at this<;>omega
  ·intro x hx
   rcases mw n vs fs _ x hx with⟨rfl,_⟩|hx
   ·exact hv.hv
   ·exact Ur x hx
  ·intro x hx
   rcases mw n vs fs _ x hx with⟨rfl,_⟩|hx
   ·exact hv.hm
   ·exact hm x hx
  ·intro x hx
   rcases mw n vs fs _ x hx with⟨rfl,_⟩|hx
   ·exact hv.hz
   ·exact hz x hx
  ·intro x hx
   rcases mw n vs fs _ x hx with⟨rfl,_⟩|hx
   ·exact hv.hs
   ·exact hs x hx
  ·intro x hx
   rcases mw n vs fs _ x hx with⟨rfl,_⟩|hx
   ·exact hv.ht
   ·exact ht x hx
theorem WM.drop (h:WM S a d m)(n:Int):WM S a d (m.put n []):=by
 cases h with
 |mk _ fs u hl hu Ur hm hz hs ht=>
  have Uq:∀x,x∈gK n [] true fs->x∈fs:=λx hx=>(mw n [] fs true x hx).resolve_left (λq=>by cases q.2)
  refine .mk d _ u ?_ hu (λx hx=>Ur x (Uq x hx)) (λx hx=>hm x (Uq x hx)) (λx hx=>hz x (Uq x hx)) (λx hx=>hs x (Uq x hx)) (λx hx=>ht x (Uq x hx));have:=sr n [] fs true;simp only[PM.fs,List.isEmpty_nil]at this⊢;simp at this;omega
theorem WM.keep {a':Nat}(h:WM S a d m)(s:am)(hs:a+s.size<=a'):WM S a' d (m.keep s):=by
 have hl:=h.len.2.1;have h2:=h.mono (show a<=a' by omega)
 cases h2 with
 |mk _ fs u h1 hu Ur hm hz Us ht=>
  refine .mk d fs _ h1 ?_ Ur hm hz Us ht;simp only[PM.unk]at hl⊢;rw[bj];omega
theorem WM.vals (h:WM S a d m)(n:Int):Sn S a d n (m.get n):=by
 cases h with
 |mk _ fs u hl hu Ur hm hz hs ht=>
  refine⟨wX Ur,?_,?_,?_,?_⟩
  ·intro f hf hi v hv;have⟨x,h1,h2,h3⟩:=mx hv;exact hm x h1 f (by rw[h2];exact hf) hi v (by rw[h3];exact hv)
  ·intro f sub hf hi Us v hv;have⟨x,h1,h2,h3⟩:=mx hv;exact hz x h1 f sub (by rw[h2];exact hf) hi Us v (by rw[h3];exact hv)
  ·intro f sub hf hi Us v hv;have⟨x,h1,h2,h3⟩:=mx hv;exact hs x h1 f sub (by rw[h2];exact hf) hi Us v (by rw[h3];exact hv)
  ·intro f hf Us v hv;have⟨x,h1,h2,h3⟩:=mx hv;exact ht x h1 f (by rw[h2];exact hf) Us v (by rw[h3];exact hv)
theorem WM.dropF (f:eT):∀(l:List eT) {m:PM},WM S a d m->WM S a d (io f l m)
 | [],_,h=>h
 |o::l,m,h=>by
  rw[Go.Proofs.YtfebdimolnobaaaGreatDoor.io];refine WM.dropF f l ?_
  split
  ·exact h.drop _
  ·exact h
end
def Hn (s:am)(k:Nat):Int:=Hi s (s.size-k) k
def F5 {s:am}{k:Nat}(h:¬k<s.size):Hn s k=0:=by
 unfold Hn;rw[show s.size-k=0 from by omega];rfl
def CU {s:am}{k:Nat}(h:k<s.size):Hn s k=256*Hn s (k+1)+fL s k:=by
 unfold Hn;rw[show s.size-k=(s.size-(k+1))+1 from by omega,Hi,dE h]
def tJ (s:am):∀d k,s.size-k=d->0<=Hn s k/\Hn s k<256^d
 |0,k,h=>by rw[F5 Ue];decide
 |d+1,k,h=>by
  have hk:k<s.size:=Ue;have:=tJ s d (k+1) Ue;have hb:=jX s k;rw[CU hk,Int.pow_succ];omega
def tL {s:am}(h:s.size<=8):0<=wJ s/\wJ s<18446744073709551616:=by
 have h1:=tJ s _ 0 rfl;have e:Hn s 0=wJ s:=rfl;rw[e]at h1;refine⟨h1.1,Int.lt_of_lt_of_le h1.2 ?_⟩;have:=de (n:=256) (i:=s.size-0) (j:=8) Uh Ue;have h2:=Int.ofNat_le.2 this;have e8:((256^8:Nat):Int)=18446744073709551616:=Uh;rw[e8]at h2;exact h2
def iA {b:am}{a e:Nat}{r:oj}(h:fD b a e= .ok r):r.a=a/\a<r.fr/\a+2<=r.e/\r.fr<=r.e/\r.e<=e/\0<=r.n/\r.n<18446744073709551616/\1<=r.num/\r.num<=536870911:=by
 unfold fD at h
 cases h1:g9 b a e with
 |error x=>rw[h1]at h;cases h
 |ok x=>
  obtain⟨t,fr⟩:=x;rw[h1]at h;have⟨v1,v2,v3,v4⟩:=iG h1;simp only at h
  by_cases q:t/8<1\/536870911<t/8
  ·rw[dE q]at h;cases h
  ·rw[dD q]at h
   by_cases k0:t%8=0
   ·rw[dE k0]at h
    cases h2:g9 b fr e with
    |error x=>rw[h2]at h;cases h
    |ok x=>
     obtain⟨n,en⟩:=x;rw[h2]at h;have⟨u1,u2,u3,u4⟩:=iG h2;simp only[Except.ok.injEq]at h;subst h;refine⟨rfl,?_,?_,?_,?_,u1,u2,?_,?_⟩<;>simp only<;>omega
   ·rw[dD k0]at h;have Ux:∀(k:Nat),k<=8->0<=wJ (b.extract fr (fr+k))/\wJ (b.extract fr (fr+k))<18446744073709551616:=λk hk=>tL (by rw[aU];omega)
    by_cases k1:t%8=1
    ·rw[dE k1]at h
     by_cases z:fr+8<=e
     ·rw[dE z]at h;simp only[Except.ok.injEq]at h;subst h;refine⟨rfl,?_,?_,?_,?_,(Ux 8 Ue).1,(Ux 8 Ue).2,?_,?_⟩<;>simp only<;>omega
     ·rw[dD z]at h;cases h
    ·rw[dD k1]at h
     by_cases k5:t%8=5
     ·rw[dE k5]at h
      by_cases z:fr+4<=e
      ·rw[dE z]at h;simp only[Except.ok.injEq]at h;subst h;refine⟨rfl,?_,?_,?_,?_,(Ux 4 Ue).1,(Ux 4 Ue).2,?_,?_⟩<;>simp only<;>omega
      ·rw[dD z]at h;cases h
     ·rw[dD k5]at h
      by_cases k2:t%8=2
      ·rw[dE k2]at h
       cases h2:g9 b fr e with
       |error x=>rw[h2]at h;cases h
       |ok x=>
        obtain⟨n,bh⟩:=x;rw[h2]at h;have⟨u1,u2,u3,u4⟩:=iG h2;simp only at h
        by_cases z:(bh:Int)+n<=e
        ·rw[dE z]at h;simp only[Except.ok.injEq]at h;subst h;refine⟨rfl,?_,?_,?_,?_,Uf,Uf,?_,?_⟩<;>simp only<;>omega
        ·rw[dD z]at h;cases h
      ·rw[dD k2]at h;cases h
def EB (n:Int):0<=mh n/\mh n<18446744073709551616:=by unfold mh;split<;>omega
def zI {n:Int}(h0:0<=n)(h1:n<18446744073709551616):0<=Co n/\Co n<18446744073709551616:=by unfold Co;split<;>omega
def iu {k:Nat}{n:Int}(h0:0<=n)(h1:n<18446744073709551616):0<=kD k n/\kD k n<18446744073709551616:=by
 unfold kD
 split
 ·exact EB n
 ·split
  ·omega
  ·split
   ·exact zI Ue Ue
   ·split
    ·exact zI h0 h1
    ·split
     ·split<;>omega
     ·exact⟨h0,h1⟩
def eW:∀{l:List eT} {n:Int} {f:eT},dR l n=some f->f.num=n/\f∈l
 | [],_,_,h=>by cases h
 |x::l,n,f,h=>by
  rw[dR]at h
  by_cases q:x.num=n
  ·rw[dE q]at h;cases h;exact⟨q,Uf⟩
  ·rw[dD q]at h;have⟨h1,h2⟩:=eW h;exact⟨h1,by simp[h2]⟩
def iV:∀{l:List MT} {s:am} {d:MT},mg l s=some d->d∈l
 | [],_,_,h=>by cases h
 |x::l,s,d,h=>by
  rw[mg]at h
  by_cases q:gG x.name s=true
  ·rw[dE q]at h;cases h;simp
  ·rw[dD q]at h;simp[iV h]
structure Py (S:d8)(t:am):Prop where
 no:S.msg t=none
 w1:S.wire t=2->gG t kE=true
 w2:gG t kE=true->S.wire t=2
structure zJ (S:d8):Prop where
 wire:∀t,(S.msg t).isSome=true->S.wire t=2
 key:∀d∈S.ms,∀f∈d.fs,f.isMap=true->Py S f.key
def lw (S:d8)(d:MT):Prop:=∀f∈d.fs,f.isMap=true->Py S f.key
def AY:gG kI CE=false:=by
 unfold gG;rw[ByteArray.toList_eq,ByteArray.toList_eq];decide
def zJ.sub {S:d8}(hS:zJ S){f:eT}{sub:MT}(h:eV S f=some sub):lw S sub:=by
 unfold eV at h
 by_cases q:f.isMap=true
 ·rw[dE q]at h
  cases h
  intro g hg hm;have e:∀(x y z:am) (n:Int),eT.isMap ⟨x,y,z,kI,n⟩=false:=λ_ _ _ _=>AY
  simp only[et,aN,bH,or_false]at hg
  rcases hg with rfl|rfl
  ·rw[e]at hm;cases hm
  ·rw[e]at hm;cases hm
 ·rw[dD q]at h;exact λg hg hm=>hS.key sub (iV h) g hg hm
def Jo.none (S:d8)(t:am):Jo S t PV.none:=⟨Uh,Uh,Uh,rfl,λ_=>rfl,λ_=>rfl⟩
def F6 {S:d8}{b:am}{f:eT}{r:oj}{v:PV}(h:mQ S b f r= .ok v)(hk:r.kind=S.wire f.ty)(hb:b.size<=268435456)(h0:0<=r.n)(h1:r.n<18446744073709551616):Jo S f.ty v:=by
 unfold mQ at h
 by_cases k:r.kind=2
 ·rw[dE k]at h
  split at h
  ·cases h
  ·cases h
   exact⟨Uf,Uf,by simp only[aU];omega,rfl,λ_=>rfl,λq=>absurd (hk.symm.trans k) q⟩
 ·rw[dD k]at h
  cases h
  exact⟨(iu h0 h1).1,(iu h0 h1).2,aL _,rfl,λq=>absurd (hk.trans q) k,λ_=>rfl⟩
def sy {b:am}{k e:Nat}{P:PV->Prop}(hP:∀n:Int,0<=n->n<18446744073709551616->P (kD k n,eS,PM.none)):∀(F:Nat) (l:List PV) (a:Nat) (l':List PV),fw b k e F l a= .ok l'->a<=e->l.length<=a->(∀v∈l,P v)->l'.length<=e/\∀v∈l',P v
 |0,l,a,l',h,ha,hl,hp=>by
  rw[fw]at h
  cases h
  exact⟨Ue,hp⟩
 |F+1,l,a,l',h,ha,hl,hp=>by
  rw[fw]at h
  have Uz:∀n:Int,0<=n->n<18446744073709551616->∀v∈l++ [(kD k n,eS,PM.none)],P v:=λn h0 h1 v hv=>by
   simp only[aR,bn]at hv
   rcases hv with hv|rfl
   ·exact hp v hv
   ·exact hP n h0 h1
  by_cases q:a<e
  ·rw[dE q]at h
   by_cases z:ee k=0
   ·rw[dE z]at h
    cases h2:g9 b a e with
    |error x=>rw[h2]at h;cases h
    |ok x=>
     obtain⟨n,y⟩:=x;rw[h2]at h;have⟨u1,u2,u3,u4⟩:=iG h2;exact sy hP F _ y l' h u4 Ug (Uz n u1 u2)
   ·rw[dD z]at h;simp only at h;generalize hy:(if ee k=5 then 4 else 8)=y at h
    have hy8:1<=y/\y<=8:=by
     split at hy<;>omega
    by_cases z2:a+y<=e
    ·rw[dE z2]at h;have hr:=tL (s:=b.extract a (a+y)) (by rw[aU];omega);exact sy hP F _ (a+y) l' h z2 Ug (Uz _ hr.1 hr.2)
    ·rw[dD z2]at h;cases h
  ·rw[dD q]at h
   cases h
   exact⟨Ue,hp⟩
def wY (t:am)(v:PV):∀(l:List PV) (done:Bool) (x:PV),x∈fY t v done l->x=v\/x∈l
 | [],done,x,h=>by
  cases done
  ·simp[fY]at h;exact .inl h
  ·simp[fY]at h
 |y::l,done,x,h=>by
  rw[fY,aR,aR]at h
  rcases h with h|h|h
  ·split at h
   ·simp at h;exact .inl h
   ·cases h
  ·split at h
   ·cases h
   ·simp at h;exact .inr (by simp[h])
  ·rcases wY t v l _ x h with h|h
   ·exact .inl h
   ·exact .inr (by simp[h])
def wZ (t:am)(v:PV):∀(l:List PV) (done:Bool),(fY t v done l).length<=l.length+(if done then 0 else 1)
 | [],done=>by cases done<;>simp[fY]
 |y::l,done=>by
  rw[fY,aH,aH];generalize hq:(jW t (fE v) (fE y)||gZ (fE v) (fE y))=q;have h:=wZ t v l (done||q)
  cases done<;>cases q<;>cases gZ (fE v) (fE y)<;>simp at h⊢<;>omega
def PM.put_len (m:PM)(n:Int)(vs:List PV):(m.put n vs).fs.length<=m.fs.length+1:=by
 have:=sr n vs m.fs vs.isEmpty;show(gK n vs vs.isEmpty m.fs).length<=_
 split at this<;>omega
def AZ {S:d8}{a:Nat}{f:eT}{sm:PM}(hk:Py S f.key)(h:WM S a (et f) sm):Sm a f.key (0,eS,fZ sm):=by
 have hl:=h.len.1
 have h1:=(h.vals 1).ht ⟨nt,f.key,eS,kI,1⟩ (by simp[et,dR]) (by
  unfold eV;rw[dD (by show¬gG kI CE=true;rw[AY];decide)]
  exact hk.no)
 have hg:(fZ sm).get 1=(if(sm.get 1).isEmpty then [PV.none]else sm.get 1):=by
  show(fH (fH sm 1) 2).get 1=_
  have e2:∀m:PM,(fH m 2).get 1=m.get 1:=λm=>by
   unfold fH
   split
   ·exact PM.get_put_ne m 2 1 _ Uh
   ·rfl
  rw[e2];unfold fH
  split
  ·exact PM.get_put sm 1 [PV.none] Uf
  ·rfl
 have UE:∃x rest,(fZ sm).get 1=x::rest/\Jo S f.key x:=by
  rw[hg]
  cases he:sm.get 1 with
  |nil=>exact⟨PV.none,[],rfl,Jo.none S _⟩
  |cons x rest=>exact⟨x,rest,rfl,h1 x (by rw[he];simp)⟩
 obtain⟨x,rest,e1,hx⟩:=UE
 have UA:fE (0,eS,fZ sm)=x:=by
  show((fZ sm).get 1).headD PV.none=x;rw[e1];rfl
 refine⟨⟨rest,by rw[UA];exact e1⟩,?_,?_,rfl,rfl⟩
 ·rw[UA];refine⟨hx.lo,hx.hi,hx.sz,λq=>hx.txt (hk.w2 q),λq=>hx.num (λz=> ?_)⟩;rw[hk.w1 z]at q
  cases q
 ·show(fH (fH sm 1) 2).fs.length<=a+2
  have e:∀(m:PM) (n:Int),(fH m n).fs.length<=m.fs.length+1:=λm n=>by
   unfold fH
   split
   ·exact PM.put_len m n _
   ·omega
  have:=e sm 1;have:=e (fH sm 1) 2;omega
def lX {S:d8}{a:Nat}{d:MT}{m:PM}{n:Int}{f:eT}{sub:MT}(h:WM S a d m)(hf:dR d.fs n=some f)(hs:eV S f=some sub):((eI f m).1=0/\(eI f m).2.1=eS)/\WM S a sub (eI f m).2.2:=by
 have hn:=(eW hf).1;unfold eI
 by_cases q:(f.isRep||f.isMap)=true
 ·rw[dE q];exact⟨⟨rfl,rfl⟩,WM.none S a sub⟩
 ·rw[dD q]
  have hm:f.isMap=false:=by
   cases hh:f.isMap with
   |false=>rfl
   |true=>rw[hh,cq]at q;exact absurd rfl q
  rw[hn]
  cases hg:m.get n with
  |nil=>exact⟨⟨rfl,rfl⟩,WM.none S a sub⟩
  |cons x rest=>
   have hx:x∈m.get n:=by rw[hg];simp
   exact⟨(h.vals n).hz f sub hf hm hs x hx,(h.vals n).hs f sub hf hm hs x hx⟩
def xd {S:d8}{a a':Nat}{d:MT}{m sm:PM}{n:Int}{f:eT}{sub:MT}(hd:lw S d)(h:WM S a d m)(hf:dR d.fs n=some f)(hs:eV S f=some sub)(ha:a+1<=a')(Uw:WM S a' sub sm):
  WM S a' d (gF S d f m ((eI f m).1,(eI f m).2.1,sm)):=by
 have⟨hn,UD⟩:=eW hf;have⟨⟨s1,s2⟩,_⟩:=lX h hf hs;have hlen:=h.len.2.2 n;unfold gF;rw[hn,s1,s2];have Uq:∀g,dR d.fs n=some g->g=f:=λg hg=>by rw[hf]at hg;exact(Option.some.inj hg).symm
 have hold:=h.vals n
 by_cases q:f.isMap=true
 ·rw[dE q]
  have Uy:sub=et f:=by
   unfold eV at hs;rw[dE q]at hs;exact(Option.some.inj hs).symm
  subst Uy;refine h.put ha ⟨?_,λg hg _ v hv=> ?_,λg Ur hg hm _=> ?_,λg Ur hg hm _=> ?_,λg hg Uv=> ?_⟩
  ·have:=wZ f.key (0,eS,fZ sm) (m.get n) false;show(fY f.key (0,eS,fZ sm) false (m.get n)).length<=a';simp at this;omega
  ·rw[Uq g hg]
   rcases wY _ _ _ _ _ hv with rfl|hv
   ·exact AZ (hd f UD q) Uw
   ·have:=hold.hm f hf q v hv;exact⟨this.key,this.ky,by have:=this.len;omega,this.m⟩
  ·rw[Uq g hg,q]at hm;cases hm
  ·rw[Uq g hg,q]at hm;cases hm
  ·rw[Uq g hg,hs]at Uv;cases Uv
 ·rw[dD q]
  have Ut:f.isMap=false:=by
   cases hh:f.isMap with
   |false=>rfl
   |true=>exact absurd hh q
  by_cases r:f.isRep=true
  ·rw[dE r];refine h.put ha ⟨Ug,λg hg hm=> ?_,λg Ur hg _ Us v hv=> ?_,λg Ur hg _ Us v hv=> ?_,λg hg Uv=> ?_⟩
   ·rw[Uq g hg,Ut]at hm;cases hm
   ·rw[Uq g hg]at Us;simp only[aR,bn]at hv
    rcases hv with hv|rfl
    ·exact hold.hz f Ur hf Ut Us v hv
    ·exact⟨rfl,rfl⟩
   ·rw[Uq g hg,hs]at Us
    cases Us
    simp only[aR,bn]at hv
    rcases hv with hv|rfl
    ·exact(hold.hs f sub hf Ut hs v hv).mono Ue
    ·exact Uw
   ·rw[Uq g hg,hs]at Uv;cases Uv
  ·rw[dD r,dD (by rw[hs];simp)];refine(h.dropF f d.fs).put ha ⟨Ug,λg hg hm=> ?_,λg Ur hg _ Us v hv=> ?_,λg Ur hg _ Us v hv=> ?_,λg hg Uv=> ?_⟩
   ·rw[Uq g hg,Ut]at hm;cases hm
   ·simp only[bn]at hv;subst hv;exact⟨rfl,rfl⟩
   ·rw[Uq g hg,hs]at Us
    cases Us
    simp only[bn]at hv;subst hv;exact Uw
   ·rw[Uq g hg,hs]at Uv;cases Uv
def vN {S:d8}{a:Nat}{d:MT}{n:Int}{f:eT}{vs:List PV}(hf:dR d.fs n=some f)(hs:eV S f=none)(hl:vs.length<=a)(hv:∀v∈vs,Jo S f.ty v):Sn S a d n vs:=by
 have Uq:∀g,dR d.fs n=some g->g=f:=λg hg=>by rw[hf]at hg;exact(Option.some.inj hg).symm
 refine⟨hl,λg hg hm=> ?_,λg Ur hg _ Us=> ?_,λg Ur hg _ Us=> ?_,λg hg _ v hx=> ?_⟩
 ·rw[Uq g hg]at hm;unfold eV at hs;rw[dE hm]at hs
  cases hs
 ·rw[Uq g hg,hs]at Us;cases Us
 ·rw[Uq g hg,hs]at Us;cases Us
 ·rw[Uq g hg];exact hv v hx
def xf {S:d8}{a a':Nat}{d:MT}{m:PM}{n:Int}{f:eT}{v:PV}(h:WM S a d m)(hf:dR d.fs n=some f)(hs:eV S f=none)(ha:a+1<=a')(hv:Jo S f.ty v):WM S a' d (gF S d f m v):=by
 have⟨hn,UD⟩:=eW hf;have hlen:=h.len.2.2 n;unfold gF;rw[hn]
 have Ut:¬f.isMap=true:=λq=>by
  unfold eV at hs;rw[dE q]at hs
  cases hs
 rw[dD Ut]
 split
 ·refine h.put ha (vN hf hs Ug λx hx=> ?_);simp only[aR,bn]at hx
  rcases hx with hx|rfl
  ·exact(h.vals n).ht f hf hs x hx
  ·exact hv
 ·split
  ·exact(h.drop n).mono Ue
  ·refine(h.dropF f d.fs).put ha (vN hf hs Ug λx hx=> ?_);simp only[bn]at hx;subst hx;exact hv
def ku {S:d8}{b:am}(hS:zJ S)(hb:b.size<=268435456):∀(F:Nat) (d:MT) (m:PM) (a e deep:Nat) (m':PM),eE S b F d m a e deep= .ok m'->lw S d->a<=e->e<=b.size->WM S a d m->WM S e d m'
 |0,d,m,a,e,deep,m',h,_,ha,_,hw=>by
  rw[eE]at h
  cases h
  exact hw.mono ha
 |F+1,d,m,a,e,deep,m',h,hd,ha,he,hw=>by
  rw[eE]at h
  by_cases q:a<e
  ·rw[dE q]at h
   cases hr:fD b a e with
   |error x=>rw[hr]at h;cases h
   |ok r=>
    rw[hr]at h;have⟨r1,r2,r3,r4,r5,r6,r7,_,_⟩:=iA hr;have Uu:WM S r.e d (m.keep (b.extract r.a r.e)):=hw.keep _ (by rw[aU];omega);simp only at h
    cases hf:dR d.fs r.num with
    |none=>
     rw[hf]at h;exact ku hS hb F d _ r.e e deep m' h hd r5 he Uu
    |some f=>
     rw[hf]at h;simp only at h
     by_cases k:r.kind=fG S f
     ·rw[dE k]at h
      cases hs:eV S f with
      |some sub=>
       rw[hs]at h;simp only at h
       by_cases hfar:oz S sub (deep+1)=true
       ·rw[dE hfar]at h;cases h
       ·rw[dD hfar]at h
        cases hl:eE S b F sub (eI f m).2.2 r.fr r.e (deep+1)with
        |error x=>rw[hl]at h;cases h
        |ok sm=>
         rw[hl]at h;have Uw:=ku hS hb F sub _ r.fr r.e (deep+1) sm hl (hS.sub hs) r4 Ue ((lX hw hf hs).2.mono Ue);exact ku hS hb F d _ r.e e deep m' h hd r5 he (xd hd hw hf hs Ue Uw)
      |none=>
       rw[hs]at h;simp only at h
       cases hv:mQ S b f r with
       |error x=>rw[hv]at h;cases h
       |ok v=>
        rw[hv]at h
        have hk:r.kind=S.wire f.ty:=by
         rw[k];unfold fG;rw[dD (λq=>by unfold eV at hs;rw[dE q]at hs;cases hs)]
        exact ku hS hb F d _ r.e e deep m' h hd r5 he (xf hw hf hs Ue (F6 hv hk hb r6 r7))
     ·rw[dD k]at h
      by_cases k2:r.kind=2/\f.isRep=true
      ·rw[dE k2]at h
       cases hp:ko S b f (m.get f.num) r.fr r.e with
       |error x=>rw[hp]at h;cases h
       |ok l=>
        rw[hp]at h;have Ut:¬f.isMap=true:=λq=>k (by unfold fG;rw[dE q];exact k2.1)
        have UB:S.wire f.ty≠2:=λq=>k (by unfold fG;rw[dD Ut,q];exact k2.1)
        have hs:eV S f=none:=by
         unfold eV;rw[dD Ut]
         cases hm:S.msg f.ty with
         |none=>rfl
         |some x=>exact absurd (hS.wire f.ty (by rw[hm];rfl)) UB
        have hn:=(eW hf).1;rw[hn]at hp h;have UC:=sy (P:=Jo S f.ty) (λn h0 h1=>⟨(iu h0 h1).1,(iu h0 h1).2,aL _,rfl,λq=>absurd q UB,λ_=>rfl⟩) _ _ _ _ hp r4 (by have:=hw.len.2.2 r.num;omega) ((hw.vals r.num).ht f hf hs);exact ku hS hb F d _ r.e e deep m' h hd r5 he (hw.put Ue (vN hf hs UC.1 UC.2))
      ·rw[dD k2]at h;exact ku hS hb F d _ r.e e deep m' h hd r5 he Uu
  ·rw[dD q]at h
   cases h
   exact hw.mono ha
section
variable {r:oj} {f:eT} {S:d8} {b:am} {deep:Nat} {d:MT} {m:PM}
def xg (S:d8)(b:am)(F:Nat)(d:MT)(m:PM)(a e deep:Nat):Fx PM:=
 if oz S d deep then .error (11,(a:Int))else eE S b F d m a e deep
def lU (S:d8)(b:am)(F:Nat)(f:eT)(m:PM)(r:oj)(deep:Nat):Fx PV:=
 match eV S f with
 |some sub=>
  match xg S b F sub (eI f m).2.2 r.fr r.e (deep+1)with
  | .error x=> .error x
  | .ok sm=> .ok ((eI f m).1,(eI f m).2.1,sm)
 |none=>mQ S b f r
def CV (S:d8)(d:MT)(f:eT)(m:PM):Fx PV->Fx PM
 | .error x=> .error x
 | .ok v=> .ok (gF S d f m v)
def oW (S:d8)(b:am)(F:Nat)(d:MT)(f:eT)(m:PM)(r:oj)(deep:Nat):Fx PM:=CV S d f m (lU S b F f m r deep)
section
variable {S:d8} {b:am} {F a e deep:Nat} {d:MT} {m:PM}
theorem gN (h:¬a<e):eE S b F d m a e deep= .ok m:=by
 cases F with
 |zero=>rfl
 |succ F=>rw[eE,dD h]
theorem gV (h:a<e){x:Int×Int}(hr:fD b a e= .error x):eE S b (F+1) d m a e deep= .error x:=by
 rw[eE,dE h,hr]
def Ho (S:d8)(b:am)(F:Nat)(d:MT)(a e deep:Nat):Fx PM->Fx PM
 | .error x=> .error x
 | .ok m=>eE S b F d m a e deep
theorem zK (h:a<e)(hr:fD b a e= .ok r)(hf:dR d.fs r.num=some f)(hk:r.kind=fG S f):eE S b (F+1) d m a e deep=Ho S b F d r.e e deep (oW S b F d f m r deep):=by
 rw[eE,dE h,hr];simp only;rw[hf];simp only;rw[dE hk];unfold oW lU xg
 cases hs:eV S f with
 |some sub=>
  simp only
  by_cases hfar:oz S sub (deep+1)=true
  ·rw[dE hfar,dE hfar];rfl
  ·rw[dD hfar,dD hfar]
   cases eE S b F sub (eI f m).2.2 r.fr r.e (deep+1)<;>rfl
 |none=>
  simp only
  cases mQ S b f r<;>rfl
theorem xh (h:a<e)(hr:fD b a e= .ok r)(hf:dR d.fs r.num=some f)(hk:r.kind≠fG S f)(h2:r.kind=2)(hp:f.isRep=true):
  eE S b (F+1) d m a e deep=Ho S b F d r.e e deep (match ko S b f (m.get f.num) r.fr r.e with| .error x=> .error x| .ok l=> .ok (m.put f.num l)):=by
 rw[eE,dE h,hr];simp only;rw[hf];simp only;rw[dD hk,dE ⟨h2,hp⟩]
 cases ko S b f (m.get f.num) r.fr r.e<;>rfl
theorem oD (h:a<e)(hr:fD b a e= .ok r)(hf:∀f,dR d.fs r.num=some f->r.kind≠fG S f/\¬(r.kind=2/\f.isRep=true)):
  eE S b (F+1) d m a e deep=eE S b F d (m.keep (b.extract r.a r.e)) r.e e deep:=by
 rw[eE,dE h,hr]
 grind
end
theorem M9 {F a e:Nat}{m2:PM}(hS:zJ S)(hb:b.size<=268435456)(hd:lw S d)(hw:WM S a d m)(hr:fD b a e= .ok r)(he:e<=b.size)(hf:dR d.fs r.num=some f)(hk:r.kind=fG S f)
  (h:oW S b F d f m r deep= .ok m2):WM S r.e d m2:=by
 have⟨r1,r2,r3,r4,r5,r6,r7,_,_⟩:=iA hr;unfold oW lU at h
 cases hs:eV S f with
 |some sub=>
  rw[hs]at h;simp only at h;unfold xg at h
  by_cases hfar:oz S sub (deep+1)=true
  ·rw[dE hfar]at h;cases h
  ·rw[dD hfar]at h
   cases hl:eE S b F sub (eI f m).2.2 r.fr r.e (deep+1)with
   |error x=>rw[hl]at h;cases h
   |ok sm=>
    rw[hl]at h
    cases h
    have Us:=ku hS hb F sub _ r.fr r.e (deep+1) sm hl (hS.sub hs) r4 Ue ((lX hw hf hs).2.mono Ue);exact xd hd hw hf hs Ue Us
 |none=>
  rw[hs]at h;simp only at h
  cases hv:mQ S b f r with
  |error x=>rw[hv]at h;cases h
  |ok v=>
   rw[hv]at h
   cases h
   have Ut:r.kind=S.wire f.ty:=by
    rw[hk];unfold fG;rw[dD (λq=>by unfold eV at hs;simp_all)]
   exact xf hw hf hs Ue (F6 hv Ut hb r6 r7)
theorem Na {a e:Nat}{l:List PV}(hS:zJ S)(hw:WM S a d m)(hr:fD b a e= .ok r)(hf:dR d.fs r.num=some f)(hk:r.kind≠fG S f)(h2:r.kind=2)
  (h:ko S b f (m.get f.num) r.fr r.e= .ok l):WM S r.e d (m.put f.num l)/\S.wire f.ty≠2:=by
 have⟨r1,r2,r3,r4,r5,r6,r7,_,_⟩:=iA hr;have Uu:¬f.isMap=true:=λq=>hk (by unfold fG;simp_all)
 have Uq:S.wire f.ty≠2:=λq=>hk (by unfold fG;simp_all)
 have hs:eV S f=none:=by
  unfold eV;rw[dD Uu]
  cases hm:S.msg f.ty with
  |none=>rfl
  |some x=>exact absurd (hS.wire f.ty (by simp_all)) Uq
 have hn:=(eW hf).1;rw[hn]at h⊢;have Ur:=sy (P:=Jo S f.ty) (λn h0 h1=>⟨(iu h0 h1).1,(iu h0 h1).2,aL _,rfl,λq=>absurd q Uq,λ_=>rfl⟩) _ _ _ _ h r4 (by have:=hw.len.2.2 r.num;omega) ((hw.vals r.num).ht f hf hs);exact⟨hw.put Ue (vN hf hs Ur.1 Ur.2),Uq⟩
theorem Jp {a e:Nat}{c p:Int}(h:fD b a e= .error (c,p)):c≠0:=by
 unfold fD at h
 have hv:∀{a c p},g9 b a e= .error (c,p)->c≠0:=λh=>by
  rcases(FR h).1 with rfl|rfl<;>decide
 grind
theorem Pz (h:oz S d deep=false):deep<=8:=by
 unfold oz at h
 grind
end
section
variable (s:am) {k:Nat} {S:d8} {b:am} {f:eT} {r:oj}
def fx (s:am)(a:Nat)(num kind:Int)(z:Nat):Fx oj:=
 if kind=0 then(match g9 s z s.size with| .error y=> .error y| .ok y=> .ok ⟨num,0,a,z,y.2,y.1⟩)
 else if kind=1 then(match iT s z 8 with| .error y=> .error y| .ok y=> .ok ⟨num,1,a,z,y.2,y.1⟩)
 else if kind=5 then(match iT s z 4 with| .error y=> .error y| .ok y=> .ok ⟨num,5,a,z,y.2,y.1⟩)
 else(match eP s z with| .error y=> .error y| .ok y=> .ok ⟨num,2,a,y.1,y.2,0⟩)
theorem qi (a:Nat):M8 s a=match ju s a with| .error x=> .error x| .ok x=>fx s a x.1.1 x.1.2 x.2:=by
 unfold M8 fx
 cases ju s a<;>rfl
theorem qj (a:Nat)(num kind:Int)(z:Nat):lq s z kind=match fx s a num kind z with| .error x=> .error x| .ok r=> .ok ((),r.e):=by
 unfold lq fx
 grind
def yK (s:am)(k:Nat)(r:oj):Fx LV:=
 if k=13 then(if Lib.validD (s.extract r.fr r.e).data.toList then .ok (0,s.extract r.fr r.e)else .error (10,r.fr))
 else if k=14 then .ok (0,s.extract r.fr r.e)else .ok (kD k r.n,⟨#[]⟩)
def CX (s:am)(k:Nat):Fx oj->Fx (LV×Nat)
 | .error x=> .error x
 | .ok r=>match yK s k r with| .error x=> .error x| .ok v=> .ok (v,r.e)
theorem EC (a:Nat)(num:Int)(z:Nat):fx s a num ((0:Nat):Int) z=match g9 s z s.size with| .error y=> .error y| .ok y=> .ok ⟨num,0,a,z,y.2,y.1⟩:=rfl
theorem ED (a:Nat)(num:Int)(z:Nat):fx s a num ((1:Nat):Int) z=match iT s z 8 with| .error y=> .error y| .ok y=> .ok ⟨num,1,a,z,y.2,y.1⟩:=rfl
theorem EE (a:Nat)(num:Int)(z:Nat):fx s a num ((5:Nat):Int) z=match iT s z 4 with| .error y=> .error y| .ok y=> .ok ⟨num,5,a,z,y.2,y.1⟩:=rfl
theorem tM (a:Nat)(num:Int)(z:Nat):fx s a num ((2:Nat):Int) z=match eP s z with| .error y=> .error y| .ok y=> .ok ⟨num,2,a,y.1,y.2,0⟩:=rfl
theorem Hp (hk:k<=15)(Uq:k≠13)(Ur:k≠14):ee k=0\/ee k=1\/ee k=5:=by
 unfold ee
 grind
theorem xi (a:Nat)(num:Int)(z k:Nat)(hk:k<=15):gi s z k=CX s k (fx s a num (ee k) z):=by
 unfold gi
 by_cases Uq:k=13
 ·subst Uq;rw[dE rfl,show ee 13=2 from rfl,tM];unfold qU
  cases eP s z with
  |error x=>rfl
  |ok x=>
   simp only[CX,yK,if_true]
   grind
 ·rw[dD Uq]
  by_cases Ur:k=14
  ·subst Ur;rw[dE rfl,show ee 14=2 from rfl,tM];unfold nA
   cases eP s z with
   |error x=>rfl
   |ok x=>rfl
  ·rw[dD Ur];unfold jb;have hv:∀r:oj,yK s k r= .ok (kD k r.n,⟨#[]⟩):=λr=>by unfold yK;rw[dD Uq,dD Ur]
   rcases Hp hk Uq Ur with e|e|e
   ·rw[dE e,e,EC]
    cases g9 s z s.size with
    |error x=>rfl
    |ok x=>simp only[CX,hv]
   ·rw[dD Ue,dD Ue,e,ED]
    cases iT s z 8 with
    |error x=>rfl
    |ok x=>simp only[CX,hv]
   ·rw[dD Ue,dE e,e,EE]
    cases iT s z 4 with
    |error x=>rfl
    |ok x=>simp only[CX,hv]
theorem EF:∀(l:List (List UInt8)) (s:List UInt8) (k n:Nat),CF l s k=some n->∃i,n=k+i/\l[i]?=some s
 | [],_,_,_,h=>by simp[CF]at h
 |x::l,s,k,n,h=>by
  rw[CF]at h
  split at h
  ·simp_all
  ·have⟨i,h1,h2⟩:=EF l s (k+1) n h;exact⟨i+1,Ue,by simpa using h2⟩
theorem lx {t:am}:S.base t=13<->gG t kE=true:=by
 constructor
 ·intro h;unfold d8.base at h
  split at h
  ·rename_i k hk
   subst h;have⟨i,h1,h2⟩:=EF _ _ _ _ hk;obtain rfl:i=13:=Ue
   have:t.toList=kE.toList:=by
    have e:mN[13]?=some kE.toList:=Ui
    grind
   unfold gG
   (simp;omega)
  grind
 ·intro h;have e:t.toList=kE.toList:=by simpa [gG]using h
  unfold d8.base;rw[e];have:CF mN kE.toList 0=some 13:=Ui;rw[this]
theorem Ba (hk:k<=15)(h:ee k=2):k=13\/k=14:=by
 unfold ee at h
 grind
theorem CY {e:Nat}(hb:S.base f.ty=k)(hk:k<=15)(hr:r.kind=ee k)(he:r.e<=e)(hs:e<=b.size):
  mQ S b f r=match yK (b.extract 0 e) k r with| .error x=> .error x| .ok v=> .ok (v.1,v.2,PM.none):=by
 unfold mQ yK;rw[jR hs he,hb]
 by_cases h2:r.kind=2
 ·rw[dE h2]
  rcases Ba hk (hr▸h2)with rfl|rfl
  ·have hq:=lx.1 hb;rw[hq,tI]
   grind
  ·have hq:gG f.ty kE=false:=by
    rw[ch];intro q;rw[lx.2 q]at hb;omega
   simp_all
 ·rw[dD h2];have Uq:k≠13:=λq=>h2 (by rw[hr,q];rfl)
  have Ur:k≠14:=λq=>h2 (by rw[hr,q];rfl)
  rw[dD Uq,dD Ur];rfl
theorem zL {e F a:Nat}{l:List PV}(he:e<=b.size)(ha:a<e):fw b k e (F+1) l a=match jb (b.extract 0 e) a k with| .error x=> .error x| .ok x=>fw b k e F (l++ [(x.1,eS,PM.none)]) x.2:=by
 rw[fw,dE ha];unfold jb
 by_cases h0:ee k=0
 ·rw[dE h0,dE h0,vK he]
  grind
 ·rw[dD h0,dD h0]
  by_cases h5:ee k=5
  ·simp only[h5,if_true];rw[si he]
   split<;>rfl
  ·simp only[h5,if_false];rw[si he]
   split<;>rfl
def yL (S:d8)(b:am)(F:Nat)(d:MT)(f:eT)(m:PM)(r:oj)(deep:Nat):Fx PM:=
 if r.kind=fG S f then oW S b F d f m r deep else match ko S b f (m.get f.num) r.fr r.e with| .error x=> .error x| .ok l=> .ok (m.put f.num l)
theorem Hq {F a e deep:Nat}{d:MT}{m:PM}(h:a<e)(hr:fD b a e= .ok r)(hf:dR d.fs r.num=some f)(hk:r.kind=fG S f\/(r.kind=2/\f.isRep=true)):
  eE S b (F+1) d m a e deep=Ho S b F d r.e e deep (yL S b F d f m r deep):=by
 unfold yL
 by_cases q:r.kind=fG S f
 ·rw[dE q,zK h hr hf q]
 ·rw[dD q];have⟨h2,hp⟩:=hk.resolve_left q;exact xh h hr hf q h2 hp
end
section
open Uq
abbrev gj:=Int×Value×Value×Value
def d5 (x:gj):aq:= [aa x.1,x.2.1,x.2.2.1,x.2.2.2]
def fW (x:gj):(d5 x).length=4:=rfl
def EG (x:gj)(n:Int)(w:an):
  Calls prog 403 #[.agg #[aa x.1,x.2.1,x.2.2.1,x.2.2.2],aa n] w λe w'=>e= .returned (aa (kr x.1 n))/\aj w w':=by
 have hC:=qd x.1 n;have B0:∀o,aj w (w.alloc o):=λo=>(Uc w).alloc (ay _) o
 generalize kr x.1 n=c at hC⊢;go_in
 go_wp2_with fail;refine(hC _).mono ?_;rintro e w' ⟨rfl,rfl⟩;go_wp2;go_ret;exact⟨rfl,B0 _⟩
def Jq (w:an)(v:Value)(l:List gj)(t:Int)(lo:Nat)(hrow:w.ownsRow lo 249 4 v l.length (l.flatMap d5))(h1:∀x∈l,x.2.1.oneCell'=true/\x.2.2.1.oneCell'=true/\x.2.2.2.oneCell'=true)(hs:l.Pairwise (λa b=>a.1<=b.1))(hl:l.length<=1073741824):
  Calls prog 402 #[v,aa t,.func (.func 403) #[] #[]] w λe w'=>vM (l.map (·.1)) t e/\aj w w':=by
 obtain⟨a,c,rfl⟩:=iD hrow
 have HS:Hid (∀(i j:Nat) (x y:gj),l[i]?=some x->l[j]?=some y->i<=j->x.1<=y.1):=λi j x y hx hy Uw=>by
  by_cases e:i=j
  ·subst e;rw[hx]at hy;obtain rfl:=Option.some.inj hy;exact dm _
  ·rw[bM]at hs;have hi:=gl hx;have hj:=gl hy;have:=hs i j hi hj Ue;rw[aK hi]at hx;rw[aK hj]at hy;rw[<-Option.some.inj hx,<-Option.some.inj hy];exact this
 have HG:Hid (∀(i:Nat) (x:gj),l[i]?=some x->∃g,a=some (ai g 0)/\g<w.heap.size/\∀w':an,w'.heap[g]?=w.heap[g]?->w'.cell? (ai g (i*4))=some (aa x.1)/\w'.cell? (ai g (i*4+1))=some x.2.1/\w'.cell? (ai g (i*4+2))=some x.2.2.1/\w'.cell? (ai g (i*4+3))=some x.2.2.2):=λi x hx=>by
  have hi:=gl hx;obtain⟨g,rfl,_,Ur,Uq⟩:=el hrow Ue;have hf:=λj hj=>fP d5 4 fW l i x hx j hj
  refine⟨g,rfl,Ur,λw' hw=>⟨?_,?_,?_,?_⟩⟩
  ·exact Uq w' hw _ _ ((hf 0 Ue).trans rfl)
  ·exact Uq w' hw _ _ ((hf 1 Ue).trans rfl)
  ·exact Uq w' hw _ _ ((hf 2 Ue).trans rfl)
  ·exact Uq w' hw _ _ ((hf 3 Ue).trans rfl)
 go_in
 go_wp2;go_loopw [9,10] (λiv jv wr=>∃(i j:Nat),i<=j/\j<=l.length/\iv=aa i/\jv=aa j/\Hid (∀(k:Nat) (x:gj),l[k]?=some x->k<i->x.1<t)/\Hid (∀(k:Nat) (x:gj),l[k]?=some x->j<=k->t<=x.1)/\aj w wr) (λiv jv _=>((intOf jv)-(intOf iv)).toNat)
 case atStart=>exact⟨0,l.length,aL _,ay _,rfl,rfl,(λk x _ h=>Ue),(λk x hx h=>by rw[aY Ue]at hx;cases hx),Below.refl _ _⟩
 case round=>
  obtain⟨i,j,Uw,Us,rfl,rfl,H1,H2,CW⟩:=hrel
  by_cases hlt:i<j
  ·obtain⟨h,hh⟩:∃h,(i+j)/2=h:=⟨_,rfl⟩;have Uu:h<l.length:=Ue;have Uv:i<=h:=Ue;have hhj:h<j:=Ue;have⟨x,hx⟩:=gx Uu;obtain⟨g,rfl,Ur,Ut⟩:=HG.out h x hx;have⟨c0,c1,c2,c3⟩:=Ut wr (CW.block g Ur);have⟨o1,o2,o3⟩:=h1 x (aI hx);have hw1:IntKind.u64.wrap ((i:Int)+(j:Int))=(i:Int)+(j:Int):=gm Ue Ue;have hdiv:((i:Int)+(j:Int))/2=(h:Int):=Ue;have hw2:IntKind.i64.wrap (h:Int)=(h:Int):=by simp[IntKind.wrap,IntKind.bits,IntKind.signed];omega
   by_cases hxt:x.1<t
   ·have hd:decide (kr x.1 t<0)=true:=by simp[mY,hxt]
    have HX:Hid (l[h]?=some x):=hx;go_wp2_with fail;refine(EG x t _).mono ?_;rintro e w2 ⟨rfl,b2⟩;go_wp2;go_roundw
    case rel=>exact⟨h+1,j,Ue,Us,rfl,rfl,(λk y hy hk=>Int.lt_of_le_of_lt (HS.out k h y x hy HX.out Ue) hxt),H2,ew CW b2⟩
    case measure=>simp[intOf];omega
   ·have hd:=decide_eq_false (λq=>hxt ((mY _ _).1 q));have HX:Hid (l[h]?=some x):=hx;go_wp2_with fail;refine(EG x t _).mono ?_;rintro e w2 ⟨rfl,b2⟩;go_wp2;go_roundw
    case rel=>exact⟨i,h,Uv,Ue,rfl,rfl,H1,(λk y hy hk=>Int.le_trans Ue (HS.out h k x y HX.out hy hk)),ew CW b2⟩
    case measure=>simp[intOf];omega
  ·obtain rfl:i=j:=Ue;have hli:decide ((i:Int)<(i:Int))=false:=Uf
   by_cases hil:i<l.length
   ·have⟨x,hx⟩:=gx hil;obtain⟨g,rfl,Ur,Ut⟩:=HG.out i x hx;have⟨c0,c1,c2,c3⟩:=Ut wr (CW.block g Ur);have⟨o1,o2,o3⟩:=h1 x (aI hx);have HX:=hx;have hti:=H2.out i x hx (ay _)
    have hd:(kr x.1 t==0)=decide (x.1=t):=by
     rw[co];unfold kr
     by_cases q1:x.1<t
     ·simp[q1];omega
     ·by_cases q2:t<x.1
      ·simp[q1,q2];omega
      ·simp[q1,q2];omega
    have hN:decide ((l.map (·.1))[i]?=some t)=decide (x.1=t):=by rw[aO,hx];simp
    have HE:Hid (decide ((l.map (·.1))[i]?=some t)=decide (x.1=t)):=hN;go_wp2_with fail;refine(EG x t _).mono ?_;rintro e w2 ⟨rfl,b2⟩;go_wp2;go_ret2;refine⟨⟨i,by rw[HE.out];rfl,by simpa using Us,?_,?_⟩,ew CW b2⟩
    ·intro k y hy hk;rw[aO]at hy;obtain⟨z,hz,rfl⟩:=aW.1 hy;exact H1.out k z hz hk
    ·intro k y hy hk;rw[aO]at hy;obtain⟨z,hz,rfl⟩:=aW.1 hy;exact H2.out k z hz hk
   ·have hli2:decide ((i:Int)<(l.length:Int))=false:=Ug
    have HE:Hid (decide ((l.map (·.1))[i]?=some t)=false):=by
     show decide ((l.map (·.1))[i]?=some t)=false;rw[aY (by rw[bE];omega)];simp
    go_wp2;go_ret2;refine⟨⟨i,by rw[HE.out];rfl,by simpa using Us,?_,?_⟩,CW⟩
    ·intro k y hy hk;rw[aO]at hy;obtain⟨z,hz,rfl⟩:=aW.1 hy;exact H1.out k z hz hk
    ·intro k y hy hk;rw[aO]at hy;obtain⟨z,hz,rfl⟩:=aW.1 hy;exact H2.out k z hz hk
end
def tN:(prog.info? 249).map (λi=>(i.zero,i.size,i.bytes))=some (some (.agg #[aa 0,ah,ah,.map none]),4,64):=Uj
def kU {P:Program}(w:an)(dT sT ty elem:TypeId)(k g o dLen dCap:Nat)(a:Addr)(sLen sCap:Nat)(Ur:Array Value)(t:TypeId)(cs:aq)
  (hu:P.underlying dT=some (.slice elem)) (hs:(P.info? elem).map (·.size)=some k)
  (hg:w.heap[g]?=some (.cells Ur t (0,0))) (hn:cs.length=Nat.min sLen dLen*k)
  (Uz:∀j v,cs[j]?=some v->w.cell? (a.add j)=some v) (hfit:o+cs.length<=Ur.size) (h1:∀v∈cs,v.oneCell'=true):
  (Builtin.copy_ #[dT,sT] ty #[.slice (some (ai g o)) dLen dCap,.slice (some a) sLen sCap]).run P w=
   .ok (goInt (Nat.min sLen dLen)) (w.setRow g (Ur.toList.take o++cs++Ur.toList.drop (o+cs.length)).toArray):=by
 have hl:=run_loadCells_list (P:=P) w a cs Uz;have UW:=run_storeCells_at P g o t cs 0 Ur w hg (by simpa using hfit) h1
 cases hq:P.info? elem with
 |none=>simp[hq]at hs
 |some i=>
  have hi:i.size=k:=by simpa [hq]using hs
  simp[Builtin.copy_,run_underlying hu,Builtin.lenOf,Builtin.firstCells,sizeOf,typeInfo,hq,hi,<-hn,hl,UW]
def Bb (w:an)(v:Value)(n:Nat)(cs:aq)(e:Ending)(w':an):Prop:=
 ∃g cap,e= .returned (Ub g n cap)/\w'.ownsRow 0 249 4 (Ub g n cap) n cs/\w.grownBy w' v.ownBlock/\(v.ownBlock=some g\/w.heap.size<=g)
def Bc (w:an)(v:Value)(cs xs:aq)(n vb:Nat)(hrow:w.ownsRow 0 249 4 v n cs)(hn:n<=1073741824)(hv:dM w vb xs.toArray 249)(hxl:xs.length=4)(h1v:∀u∈xs,u.oneCell'=true):
  Calls prog 346 #[v,aa n,Ub vb 1 1] w (Bb w v (n+1) (cs++xs)):=by
 have⟨i0,UB,UI,UE,US⟩:=info_parts tN;have HN:∀j u,xs[j]?=some u->w.cell? (((ai vb 0):Addr).add j)=some u:=λj u hu=>br hv j u (by simpa using hu)
 obtain⟨a,c,rfl⟩:=iD hrow;go_in
 go_wp2_with (at_builtin;refine wpList_append_lies _ rfl _ _ 181 rfl 0 249 i0 _ 4 64 underlying181 UB UI UE US rfl Ue (.slice a n c) n cs rfl hrow (ai vb 0) 1 1 xs rfl hxl HN h1v Ue Ul Ue Ue _ rfl ?_;intro g cap w1 UM UG Vk UH)
 all_goals
  go_ret;exact⟨g,cap,rfl,UM,by cases a<;>exact UG,by cases a<;>exact Vk.imp id (λe=>Ue)⟩
def jw {w w':an}{row:Option Nat}{g:Nat}{cs:Array Value}(h:w.grownBy w' row)(hg:row=some g\/w.heap.size<=g):w.grownBy (w'.setRow g cs) row:=
 ⟨h.os,h.tape,h.output,by simpa using h.size,λk hk UT=>by
  rw[setRow_other _ _ _ _ (λe=>by subst e;rcases hg with q|q;exact UT q.symm;omega)]
  exact h.block k hk UT⟩
def Jr (Ur cs xs D:aq)(n i:Nat)(hcs:Ur.take (n*4)=cs)(hcl:cs.length=n*4)(hxl:xs.length=4)(hi:i<n):
  ((Ur.take ((i+1)*4)++cs.drop (i*4)++D).take (i*4)++xs++(Ur.take ((i+1)*4)++cs.drop (i*4)++D).drop (i*4+xs.length)).take ((n+1)*4)=cs.take (i*4)++xs++cs.drop (i*4):=by
 have hcur:n*4<=Ur.length:=by rw[<-hcs,bG]at hcl;omega
 have hA:(Ur.take ((i+1)*4)).length=i*4+4:=by rw[bG];omega
 have e1:(Ur.take ((i+1)*4)++cs.drop (i*4)++D).take (i*4)=cs.take (i*4):=by
  rw[aZ,cY Ue,List.take_take,Nat.min_eq_left Ue,<-hcs,List.take_take,Nat.min_eq_left Ue]
 have e2:(Ur.take ((i+1)*4)++cs.drop (i*4)++D).drop (i*4+xs.length)=cs.drop (i*4)++D:=by
  rw[aZ,hxl];exact List.drop_left' hA
 rw[e1,e2,<-aZ];exact List.take_left' (by simp[hxl,hcl];omega)
def yM (w:an)(cs xs:aq)(g n c i vb:Nat)(Ur:Array Value)(hb:w.heap[g]?=some (.cells Ur 249 (0,0)))(hsz:Ur.size=c*4)(hcs:Ur.toList.take (n*4)=cs)(hcl:cs.length=n*4)(h1c:∀u∈cs,u.oneCell'=true)(hi:i<n)(hn:n<=1073741824)(hroom:n+1<=c)(hc:c<=maxLen)(hv:dM w vb xs.toArray 249)(hxl:xs.length=4)(h1v:∀u∈xs,u.oneCell'=true)(hvb:vb≠g):
  Calls prog 346 #[Ub g n c,aa i,Ub vb 1 1] w (Bb w (Ub g n c) (n+1) (cs.take (i*4)++xs++cs.drop (i*4))):=by
 have hu:prog.underlying 181=some (.slice 249):=underlying181
 have UC:(prog.info? 249).map (·.size)=some 4:=by
  have⟨i0,UB,UI,UE,US⟩:=info_parts tN;rw[UB];simp[UE]
 have HN:∀(W:an),W.heap[vb]?=w.heap[vb]?->∀j u,xs[j]?=some u->W.cell? (((ai vb 0):Addr).add j)=some u:=λW hW j u hu=>br (hW.trans hv) j u (by simpa using hu)
 have UX:∀lb cb,(callFunc 404 #[Ub vb 1 1,.slice (some (ai g ((i+1)*4))) lb cb]).run prog w= .ok (.value (.bool false)) w:=λlb cb=>by
  rw[run_callFunc_extern func404 Uj Uj Uj (e:=Extern.SlicesOverlaps.overlaps #[181,181] #[4]) Uj,
   Lib.run_overlaps_apart w 181 4 249 hu 4 sizeOf249 (ai vb 0) (ai g ((i+1)*4)) 1 1 lb cb hvb 249 249 4 Ur.size (by unfold World.shape?;rw[hv];simp[hxl]) (by unfold World.shape?;rw[hb]) Ue (hv.rules.2 _) (hv.rules.2 _)]
  rfl
 obtain⟨Uq,Uv⟩:∃r:Array Value,Hid (r=(Ur.toList.take ((i+1)*4)++cs.drop (i*4)++Ur.toList.drop ((i+1)*4+(cs.drop (i*4)).length)).toArray):=⟨_,rfl⟩;have Ux:(cs.drop (i*4)).length=(n-i)*4:=by rw[List.length_drop,hcl];omega
 have Uy:Uq.size=Ur.size:=by rw[Uv.out];simp[Ux];omega
 have Uz:∀(W:an),W.heap[g]?=w.heap[g]?->∀j v,(cs.drop (i*4))[j]?=some v->W.cell? (((ai g (i*4)):Addr).add j)=some v:=λW hW j v hj=>by
  rw[Addr.add_lit,bu (w:=w) (by exact hW),cell_of_row w g _ Ur _ _ hb,<-bz];rw[List.getElem?_drop]at hj
  have UH:i*4+j<n*4:=by
   rw[<-hcl]
   by_cases q:i*4+j<cs.length
   ·exact q
   ·rw[aY Ue]at hj;cases hj
  rw[<-hcs,cr UH]at hj;exact hj
 have UD:∀(W:an) ty dc sc,W.heap[g]?=w.heap[g]?->(Builtin.copy_ #[181,181] ty #[.slice (some (ai g ((i+1)*4))) (n+1-(i+1)) dc,.slice (some (ai g (i*4))) (n+1-i) sc]).run prog W= .ok (goInt (Nat.min (n+1-i) (n+1-(i+1)))) (W.setRow g Uq):=λW ty dc sc hW=>by
  rw[Uv.out];exact kU W _ _ ty 249 4 g ((i+1)*4) (n+1-(i+1)) dc (ai g (i*4)) (n+1-i) sc Ur 249 (cs.drop (i*4)) hu UC (hW.trans hb) (by rw[Ux];simp only[Nat.min_def];split<;>omega) (Uz W hW) (by rw[Ux];omega) (λv hv=>h1c v (List.mem_of_mem_drop hv))
 obtain⟨Ut,Uw⟩:∃r:Array Value,Hid (r=(Uq.toList.take (i*4)++xs++Uq.toList.drop (i*4+xs.length)).toArray):=⟨_,rfl⟩
 have UJ:∀(W:an) ty dc,W.heap[g]?=some (.cells Uq 249 (0,0))->W.heap[vb]?=w.heap[vb]?->(Builtin.copy_ #[181,181] ty #[.slice (some (ai g (i*4))) (n+1-i) dc,Ub vb 1 1]).run prog W= .ok (goInt (Nat.min 1 (n+1-i))) (W.setRow g Ut):=λW ty dc hW hV=>by
  rw[Uw.out];exact kU W _ _ ty 249 4 g (i*4) (n+1-i) dc (ai vb 0) 1 1 Uq 249 xs hu UC hW (by rw[hxl];simp only[Nat.min_def];split<;>omega) (HN W hV) Ue h1v
 have UE:¬((i:Int)=(n:Int)):=Ue;have UY:IntKind.i64.wrap ((i:Int)+1)=(i:Int)+1:=by rw[IntKind.wrap_i64];omega
 have UZ:IntKind.i64.wrap ((n:Int)+1)=(n:Int)+1:=by rw[IntKind.wrap_i64];omega
 go_in
 go_wp2_with (simp only[UX])
 have mixed:prog.follows Departure.mixedOrders=true:=Uj;have U0:(0:Int)<=(i:Int)+1:=Ue;have U1:i<=n:=Ue;have U2:((i:Int)+1).toNat=i+1:=Ue;have hb2:¬(c=i+1):=Ue;have U3:(i:Int)<=(n:Int)+1:=Ue;have hb4:¬(c=i):=Ue;have UP:(w.drew).heap[g]?=w.heap[g]?:=rfl;have U4:n+1-(i+1)=n-i:=Ue;rw[U4]at UD;have UQ:(w.drew.setRow g Uq).heap[g]?=some (.cells Uq 249 (0,0)):=setRow_heap _ _ _ _ _ _ (UP.trans hb);have U5:(w.drew.setRow g Uq).heap[vb]?=w.heap[vb]?:=setRow_other _ _ _ _ hvb;go_region_law_o (refine step_copy_runI rfl _ _ 181 181 rfl (.slice (some (ai g ((i+1)*4))) (n-i) (c-(i+1))) (.slice (some (ai g (i*4))) (n+1-i) (c-i)) (by simp[Act.eval,Act.put]) (by simp[Act.eval,Act.put]) (UD _ _ _ _ UP) ?_)
 go_wp2_with (at_builtin;refine wpList_copy_runI _ rfl _ _ 181 181 rfl _ _ rfl rfl (UJ _ _ _ UQ U5) ?_)
 go_ret;have G1:w.grownBy ((w.drew.setRow g Uq).setRow g Ut) (some g):=jw (jw ⟨rfl,rfl,rfl,ay _,λ_ _ _=>rfl⟩ (.inl rfl)) (.inl rfl);have hh:=setRow_heap _ g _ Ut _ _ UQ;refine⟨g,c,rfl,⟨?_,.inr ⟨g,c,Ut,rfl,aL _,hh,Ue,hc,?_,?_⟩⟩,G1,.inl rfl⟩
 ·simp[hxl,hcl];omega
 ·rw[Uw.out];simp;omega
 ·rw[Uw.out,Uv.out];exact Jr Ur.toList cs xs _ n i hcs hcl hxl hi
def Js (cs xs Z Y:aq)(n i:Nat)(hcl:cs.length=n*4)(hxl:xs.length=4)(hi:i<n):
  (((cs.take (i*4)++Z++Y).take (i*4)++xs++(cs.take (i*4)++Z++Y).drop (i*4+xs.length)).take ((i+1)*4)++cs.drop (i*4)++
   ((cs.take (i*4)++Z++Y).take (i*4)++xs++(cs.take (i*4)++Z++Y).drop (i*4+xs.length)).drop ((i+1)*4+(cs.drop (i*4)).length)).take ((n+1)*4)=cs.take (i*4)++xs++cs.drop (i*4):=by
 have hA:(cs.take (i*4)).length=i*4:=by rw[bG];omega
 have e1:(cs.take (i*4)++Z++Y).take (i*4)=cs.take (i*4):=by
  rw[aZ];exact List.take_left' hA
 rw[e1];rw[List.take_left' (l₁:=cs.take (i*4)++xs) (i:=(i+1)*4) (by simp[hxl,hA];omega)];exact List.take_left' (by simp[hxl,hcl];omega)
def yN (w:an)(cs xs:aq)(g n c i vb:Nat)(Ur:Array Value)(hb:w.heap[g]?=some (.cells Ur 249 (0,0)))(hcs:Ur.toList.take (n*4)=cs)(hcl:cs.length=n*4)(h1c:∀u∈cs,u.oneCell'=true)(hi:i<n)(hn:n<=1073741824)(hroom:c<n+1)(hc:n<=c)(hv:dM w vb xs.toArray 249)(hxl:xs.length=4)(h1v:∀u∈xs,u.oneCell'=true):
  Calls prog 346 #[Ub g n c,aa i,Ub vb 1 1] w (Bb w (Ub g n c) (n+1) (cs.take (i*4)++xs++cs.drop (i*4))):=by
 obtain rfl:c=n:=Ue;have hu:prog.underlying 181=some (.slice 249):=underlying181;have⟨i0,UB,UI,UU,UV⟩:=info_parts tN;have UC:(prog.info? 249).map (·.size)=some 4:=by rw[UB];simp[UU]
 have U6:g<w.heap.size:=dM.lt hb;have U7:vb<w.heap.size:=hv.lt;have Ux:(cs.drop (i*4)).length=(c-i)*4:=by rw[List.length_drop,hcl];omega
 have Uu:∀(W:an),W.heap[g]?=w.heap[g]?->∀j v,cs[j]?=some v->W.cell? (ai g j)=some v:=λW hW j v hj=>by
  rw[bu (w:=w) (by exact hW),cell_of_row w g _ Ur _ _ hb,<-bz]
  have UH:j<c*4:=by
   rw[<-hcl]
   by_cases q:j<cs.length
   ·exact q
   ·rw[aY Ue]at hj;cases hj
  rw[<-hcs,cr UH]at hj;exact hj
 have hold:(Builtin.firstCells i0.size i (Ub g i c)).run prog w.drew= .ok (cs.take (i*4)).toArray w.drew:=by
  rw[UU]
  exact run_firstCells_some w.drew 4 i (ai g 0) i c (cs.take (i*4)) (by rw[bG];omega) (λj v hj=>by
   rw[Addr.add_lit,Nat.zero_add];rw[List.getElem?_take]at hj
   split at hj
   ·exact Uu _ rfl j v hj
   ·cases hj)
 obtain⟨G,HG⟩:∃G,Hid (G=grownCap w (c+1) c 249):=⟨_,rfl⟩;obtain⟨Z,HZ⟩:∃Z:Array Value,Hid (Z=Builtin.zeroCells (Value.agg #[aa 0,ah,ah,.map none]).cells (c+1-i)):=⟨_,rfl⟩;obtain⟨Y,HY⟩:∃Y:Array Value,Hid (Y=Builtin.zeroCells (Value.agg #[aa 0,ah,ah,.map none]).cells (G-(c+1))):=⟨_,rfl⟩;obtain⟨Us,UA⟩:∃R:Array Value,Hid (R=(cs.take (i*4)).toArray++Z++Y):=⟨_,rfl⟩;have U8:Z.size=(c+1-i)*4:=by rw[HZ.out];simp[Builtin.zeroCells,Value.cells]
 have U9:c+1<=G:=by rw[HG.out];exact grownCap_ge w _ _ _
 have Va:G<=maxLen:=by rw[HG.out];exact grownCap_le_maxLen w _ _ _ Ul
 have Vb:Y.size=(G-(c+1))*4:=by rw[HY.out];simp[Builtin.zeroCells,Value.cells]
 have UK:Us.size=G*4:=by rw[UA.out];simp[U8,Vb,hcl];omega
 have UR:∀ty,(Builtin.append_ #[181,3] ty #[Ub g i c,aa ((c:Int)+1-(i:Int))]).run prog w=
   .ok (Ub w.heap.size (c+1) G) (w.drew.alloc (.cells Us 249)):=λty=>by
  have h:=Lib.run_append_grow_zeros w 181 3 ty 249 i0 _ .i64 .i64 hu underlying3 UB UI (some (ai g 0)) i c (cs.take (i*4)) hold (c+1-i) Ue Ue Ue Ue (by rw[UV];omega) (by rw[UV,show i+(c+1-i)=c+1 by omega];exact growslice_fits hroom Ue);rw[show i+(c+1-i)=c+1 by omega,<-HG.out,<-HY.out,<-HZ.out,<-UA.out]at h;rw[show(c:Int)+1-(i:Int)=((c+1-i:Nat):Int)by omega];exact h
 obtain⟨Uq,UN⟩:∃r:Array Value,Hid (r=(Us.toList.take (i*4)++xs++Us.toList.drop (i*4+xs.length)).toArray):=⟨_,rfl⟩;have Uy:Uq.size=Us.size:=by rw[UN.out];simp[hxl,UK];omega
 have UF:∀(W:an) ty dc,W.heap[w.heap.size]?=some (.cells Us 249 (0,0))->W.heap[vb]?=w.heap[vb]?->(Builtin.copy_ #[181,181] ty #[.slice (some (ai w.heap.size (i*4))) (c+1-i) dc,Ub vb 1 1]).run prog W= .ok (goInt (Nat.min 1 (c+1-i))) (W.setRow w.heap.size Uq):=λW ty dc hW hV=>by
  rw[UN.out];exact kU W _ _ ty 249 4 w.heap.size (i*4) (c+1-i) dc (ai vb 0) 1 1 Us 249 xs hu UC hW (by rw[hxl];simp only[Nat.min_def];split<;>omega) (λj u hu=>br (hV.trans hv) j u (by simpa using hu)) Ue h1v
 obtain⟨Ut,UO⟩:∃r:Array Value,Hid (r=(Uq.toList.take ((i+1)*4)++cs.drop (i*4)++Uq.toList.drop ((i+1)*4+(cs.drop (i*4)).length)).toArray):=⟨_,rfl⟩
 have UL:∀(W:an) ty dc sc,W.heap[w.heap.size]?=some (.cells Uq 249 (0,0))->W.heap[g]?=w.heap[g]?->(Builtin.copy_ #[181,181] ty #[.slice (some (ai w.heap.size ((i+1)*4))) (c-i) dc,.slice (some (ai g (i*4))) (c-i) sc]).run prog W= .ok (goInt (Nat.min (c-i) (c-i))) (W.setRow w.heap.size Ut):=λW ty dc sc hW hV=>by
  rw[UO.out]
  exact kU W _ _ ty 249 4 w.heap.size ((i+1)*4) (c-i) dc (ai g (i*4)) (c-i) sc Uq 249 (cs.drop (i*4)) hu UC hW (by rw[Ux];simp only[Nat.min_def];split<;>omega) (λj v hj=>by
   rw[Addr.add_lit];rw[List.getElem?_drop]at hj
   exact Uu W hV _ v hj) (by rw[Ux,Uy,UK];omega) (λv hv=>h1c v (List.mem_of_mem_drop hv))
 have E0:(w.alloc (.cells Us 249)).drew.heap[w.heap.size]?=some (.cells Us 249 (0,0)):=heap_alloc_new w.drew _;have Vc:(w.alloc (.cells Us 249)).drew.heap[vb]?=w.heap[vb]?:=Below.heap_alloc w.drew _ vb U7;have Vd:(w.alloc (.cells Us 249)).drew.heap[g]?=w.heap[g]?:=Below.heap_alloc w.drew _ g U6;have E1:((w.alloc (.cells Us 249)).drew.setRow w.heap.size Uq).heap[w.heap.size]?=some (.cells Uq 249 (0,0)):=setRow_heap _ _ _ _ _ _ E0;have Ve:((w.alloc (.cells Us 249)).drew.setRow w.heap.size Uq).heap[g]?=w.heap[g]?:=(setRow_other _ _ _ _ Ue).trans Vd;have UE:¬((i:Int)=(c:Int)):=Ue;have hz3:(c:Int)<(c:Int)+1:=Ue;have UY:IntKind.i64.wrap ((i:Int)+1)=(i:Int)+1:=by rw[IntKind.wrap_i64];omega
 have UZ:IntKind.i64.wrap ((c:Int)+1)=(c:Int)+1:=by rw[IntKind.wrap_i64];omega
 have hw3:IntKind.i64.wrap ((c:Int)+1-(i:Int))=(c:Int)+1-(i:Int):=by rw[IntKind.wrap_i64];omega
 have mixed:prog.follows Departure.mixedOrders=true:=Uj;have U0:(0:Int)<=(i:Int)+1:=Ue;have U1:i<=c:=Ue;have U2:((i:Int)+1).toNat=i+1:=Ue;have hGi:¬(G=i):=Ue;have hGim:¬(G=i+1):=Ue;have hci:¬(c=i):=Ue;have U3:(i:Int)<=(c:Int):=Ue;have hc1:c+1-(i+1)=c-i:=Ue;go_in
 have Vf:Hid (∀ty,(Builtin.append_ #[181,3] ty #[Ub g i c,aa ((c:Int)+1-(i:Int))]).run prog w= .ok (Ub w.heap.size (c+1) G) ((w.alloc (.cells Us 249)).drew)):=UR;clear UR Uu hold;have Vg:=λty dc=>UF (w.alloc (.cells Us 249)).drew ty dc E0 Vc
 clear UF;go_wp2_with (at_builtin;(first|(refine Lib.wpList_append_run _ rfl _ _ _ _ rfl _ _ rfl rfl _ _ (Vf.out _) ?_)|(refine wpList_copy_runI _ rfl _ _ 181 181 rfl _ _ rfl rfl (Vg _ _) ?_)))
 have E2:(((w.alloc (.cells Us 249)).drew.setRow w.heap.size Uq).drew).heap[w.heap.size]?=some (.cells Uq 249 (0,0)):=E1;have Vh:(((w.alloc (.cells Us 249)).drew.setRow w.heap.size Uq).drew).heap[g]?=w.heap[g]?:=Ve;go_region_law_o (refine step_copy_runI rfl _ _ 181 181 rfl (.slice (some (ai w.heap.size ((i+1)*4))) (c-i) (G-(i+1))) (.slice (some (ai g (i*4))) (c-i) (c-i)) (by simp[Act.eval,Act.put]) (by simp[Act.eval,Act.put]) (UL _ _ _ _ E2 Vh) ?_)
 go_wp2;go_ret
 have G1:w.grownBy ((((w.alloc (.cells Us 249)).drew.setRow w.heap.size Uq).drew).setRow w.heap.size Ut) (some g):=by
  have G0:w.grownBy ((w.alloc (.cells Us 249)).drew) (some g):=⟨rfl,rfl,rfl,Uf,λk hk _=>Below.heap_alloc w _ k hk⟩;have G2:w.grownBy (((w.alloc (.cells Us 249)).drew.setRow w.heap.size Uq).drew) (some g):=jw (cs:=Uq) G0 (.inr (ay _))|>λq=>⟨q.os,q.tape,q.output,q.size,q.block⟩
  exact jw G2 (.inr (ay _))
 have hh:=setRow_heap _ w.heap.size _ Ut _ _ E2;refine⟨w.heap.size,G,rfl,⟨?_,.inr ⟨w.heap.size,G,Ut,rfl,aL _,hh,U9,Va,?_,?_⟩⟩,G1,.inr (ay _)⟩
 ·simp[hxl,hcl];omega
 ·rw[UO.out];simp[Ux,Uy,UK];omega
 ·have Vi:Us.toList=cs.take (i*4)++Z.toList++Y.toList:=by rw[UA.out];simp
  rw[UO.out,UN.out,Vi];exact Js cs xs Z.toList Y.toList c i hcl hxl hi
def Jt (l:List gj)(i:Nat)(x:gj):(l.flatMap d5).take (i*4)++d5 x++(l.flatMap d5).drop (i*4)=(l.take i++x::l.drop i).flatMap d5:=by
 have h:∀(l:List gj) (i:Nat),(l.flatMap d5).take (i*4)=(l.take i).flatMap d5/\(l.flatMap d5).drop (i*4)=(l.drop i).flatMap d5:=by
  intro l
  induction l with
  |nil=>intro i;simp
  |cons y l ih=>
   intro i
   cases i with
   |zero=>simp
   |succ i=>
    have⟨h1,h2⟩:=ih i
    constructor
    ·rw[bi,List.take_succ_cons,bi,<-h1,show(i+1)*4=(d5 y).length+i*4 by rw[fW];omega,List.take_append,bY Ue]
     congr 2;omega
    ·rw[bi,List.drop_succ_cons,<-h2,show(i+1)*4=(d5 y).length+i*4 by rw[fW];omega,List.drop_append,cl Ue];simp
 have⟨h1,h2⟩:=h l i;rw[h1,h2];simp
def Ju (w:an)(v:Value)(l:List gj)(i:Nat)(x:gj)(vb:Nat)(hrow:w.ownsRow 0 249 4 v l.length (l.flatMap d5))(h1:∀u∈l.flatMap d5,u.oneCell'=true)(hi:i<=l.length)(hl:l.length<=1073741824)(hv:dM w vb (d5 x).toArray 249)(hx:∀u∈d5 x,u.oneCell'=true)(hvb:v.ownBlock≠some vb):
  Ua 346 #[v,aa i,Ub vb 1 1] w (Bb w v (l.length+1) ((l.take i++x::l.drop i).flatMap d5)):=by
 rw[<-Jt]
 by_cases he:i=l.length
 ·subst he;have:=Bc w v (l.flatMap d5) (d5 x) l.length vb hrow hl hv rfl hx;have e1:(l.flatMap d5).take (l.length*4)=l.flatMap d5:=bY (by rw[hrow.1];exact ay _);have e2:(l.flatMap d5).drop (l.length*4)= []:=cl (by rw[hrow.1];exact ay _);rw[e1,e2,bN];exact this
 ·rcases hrow.2 with⟨rfl,h0⟩|⟨g,cap,Ur,rfl,hg,hb,hn,hm,hs,ht⟩
  ·omega
  ·have Vj:vb≠g:=λe=>hvb (by rw[e];rfl)
   by_cases hr:l.length+1<=cap
   ·exact yM w _ (d5 x) g l.length cap i vb Ur hb hs ht hrow.1 h1 Ue hl hr hm hv rfl hx Vj
   ·exact yN w _ (d5 x) g l.length cap i vb Ur hb ht hrow.1 h1 Ue hl Ue hn hv rfl hx
section
open Uq
section
variable {w:an} {c db i:Nat} {x:gj} {l:List gj}
theorem ly {T:TypeId}{k n g o:Nat}{xs:aq}(h:w.ownsRow 0 T k (Ub g n c) n xs)(v:Value)(_ho:o<n*k):
  (w.setCell (ai g o) v).ownsRow 0 T k (Ub g n c) n (xs.set o v):=by
 rcases h.2 with⟨h1,_⟩|⟨g',cap,Uz,h1,h2,h3,h4,h5,h6,h7⟩
 ·cases h1
 ·cases h1
  have hb:dM w g Uz T:=h3;refine⟨by simpa using h.1,.inr ⟨g,c,Uz.setIfInBounds o v,rfl,h2,hb.set o v,h4,h5,by simpa using h6,?_⟩⟩;rw[<-h7,Array.toList_setIfInBounds,List.take_set]
def pB (x:gj):Prop:=(∃a n c,x.2.1= .slice a n c)/\(∃a n c,x.2.2.1= .slice a n c)/\∃o,x.2.2.2= .map o
theorem pB.one (h:pB x):x.2.1.oneCell'=true/\x.2.2.1.oneCell'=true/\x.2.2.2.oneCell'=true:=by
 obtain⟨⟨a,n,c,h1⟩,⟨a',n',c',h2⟩,o,h3⟩:=h;rw[h1,h2,h3];exact⟨rfl,rfl,rfl⟩
theorem pB.new (n:Int):pB (n,ah,ah,.map none):=⟨⟨_,_,_,rfl⟩,⟨_,_,_,rfl⟩,_,rfl⟩
structure CZ (w:an)(db:Nat)(sv uv:Value)(l:List gj):Prop where
 blk:dM w db #[sv,uv] 183
 row:w.ownsRow 0 249 4 sv l.length (l.flatMap d5)
 form:∀x∈l,pB x
 srt:l.Pairwise (λa b=>a.1<b.1)
 ne:sv.ownBlock≠some db
 len:l.length<=1073741824
theorem CZ.keep {w':an}{sv uv:Value}(h:CZ w db sv uv l)(h1:w'.heap[db]?=w.heap[db]?)(h2:∀b,sv.ownBlock=some b->w'.heap[b]?=w.heap[b]?):CZ w' db sv uv l:=
 ⟨h1.trans h.blk,d6 h.row h2,h.form,h.srt,h.ne,h.len⟩
theorem CZ.below {w':an}{sv uv:Value}(h:CZ w db sv uv l)(hb:aj w w'):CZ w' db sv uv l:=
 h.keep (hb.block _ h.blk.lt) (λb e=>hb.block b (h.row.lt b e).2)
theorem F7 (w:an)(db:Nat)(sv uv:Value)(l:List gj)(n:Int)(h:CZ w db sv uv l):
  Calls prog 345 #[ag db,aa n] w λe w'=>vM (l.map (·.1)) n e/\aj w w':=by
 have hS:=Jq w sv l n 0 h.row (λx hx=>(h.form x hx).one) (h.srt.imp (λh=>Int.le_of_lt h)) h.len;have⟨k1,k2⟩:=h.blk.rules;obtain⟨a,m,c,rfl⟩:=dN h.row;go_in
 go_wp2_with fail;refine hS.mono ?_;rintro e w' ⟨⟨i,rfl,h1,h2,h3⟩,hb⟩;go_wp2;go_ret2;exact⟨⟨i,rfl,h1,h2,h3⟩,hb⟩
def vO (w:an)(db:Nat)(sv uv:Value)(l:List gj)(n:Int)(e:Ending)(w':an):Prop:=
 ∃g c pre x post,e= .returned (.pointer (some (ai g (pre.length*4))))/\CZ w' db (.slice (some (ai g 0)) (pre++x::post).length c) uv (pre++x::post)/\x.1=n/\
  ((l=pre++x::post/\sv= .slice (some (ai g 0)) (pre++x::post).length c)\/(l=pre++post/\x=(n,ah,ah,.map none)))/\dX (db::sv.ownBlock.toList) w w'/\(sv.ownBlock=some g\/w.heap.size<=g)
theorem uF (h:x.2.1.oneCell'=true/\x.2.2.1.oneCell'=true/\x.2.2.2.oneCell'=true):∀u∈d5 x,u.oneCell'=true:=by
 intro u hu;simp[d5]at hu
 rcases hu with rfl|rfl|rfl|rfl
 ·rfl
 ·exact h.1
 ·exact h.2.1
 ·exact h.2.2
theorem EH {n:Int}(hx:x.1=n)(hs:l.Pairwise (λa b=>a.1<b.1))(h1:∀k y,(l.map (·.1))[k]?=some y->k<i->y<n)(h2:∀k y,(l.map (·.1))[k]?=some y->i<=k->n<=y)(h3:(l.map (·.1))[i]?≠some n):
  (l.take i++x::l.drop i).Pairwise (λa b=>a.1<b.1):=by
 have hd:∀y∈l.drop i,n<y.1:=by
  intro y hy;have⟨j,hj⟩:=bK.1 hy;rw[List.getElem?_drop]at hj;have q:=h2 (i+j) y.1 (by rw[aO,hj];rfl) Ue
  by_cases e:y.1=n
  ·exfalso;apply h3
   cases j with
   |zero=>rw[aO,show i=i+0 by omega,hj];simp[e]
   |succ j=>
    have Uw:i+(j+1)<l.length:=by
     by_cases q:i+(j+1)<l.length
     ·exact q
     ·rw[aY Ue]at hj;cases hj
    have q2:=h2 i (l[i]'Ue).1 (by rw[aO,aK Ue];rfl) (ay _);rw[bM]at hs;have q3:=hs i (i+(j+1)) Ue Uw Ue;rw[aK Uw]at hj;rw[Option.some.inj hj]at q3;omega
  ·omega
 have ht:∀y∈l.take i,y.1<n:=by
  intro y hy;have⟨j,hj⟩:=bK.1 hy
  have Ux:j<i:=by
   by_cases q:j<i
   ·exact q
   ·rw[aY (by rw[bG];omega)]at hj;cases hj
  rw[cr Ux]at hj;exact h1 j y.1 (by rw[aO,hj];rfl) Ux
 rw[bU];refine⟨hs.sublist (List.take_sublist _ _),bg.2 ⟨λy hy=>by rw[hx];exact hd y hy,hs.sublist (List.drop_sublist _ _)⟩,?_⟩;intro a ha b hb
 rcases aN.1 hb with rfl|hb
 ·rw[hx];exact ht a ha
 ·have:=ht a ha;have:=hd b hb;omega
theorem tO (w:an)(db:Nat)(sv uv:Value)(l:List gj)(n:Int)(h:CZ w db sv uv l)(hl:l.length<1073741824):
  Calls prog 266 #[ag db,aa n] w (vO w db sv uv l n):=by
 have hF:=F7 w db sv uv l n h;obtain⟨a,c,rfl⟩:=iD h.row;go_in
 go_wp2_with fail;refine hF.mono ?_;rintro e w1 ⟨⟨i,rfl,h1,h2,h3⟩,hb⟩;rw[bE]at h1;have D1:=h.below hb
 by_cases hin:(l.map (·.1))[i]?=some n
 ·have hd:decide ((l.map (·.1))[i]?=some n)=true:=decide_eq_true hin;rw[hd];rw[aO]at hin;have⟨x,hx,UG⟩:=aW.1 hin;have UB:=gl hx;obtain⟨g,rfl,_,Us,_⟩:=el h.row Ue;have⟨k1,k2⟩:=D1.blk.rules;have UC:i<=l.length:=Ue
  have HL:Hid (l=l.take i++x::l.drop (i+1)):=by
   show l=_;have:=bX.1 hx;obtain⟨hh,rfl⟩:=this;simp
  have HT:Hid ((l.take i).length=i):=by show(l.take i).length=i;rw[bG];omega
  have UD:decide ((i:Int)<(l.length:Int))=true:=by simpa using UB
  clear hx hin hd;go_wp2;go_ret;refine⟨g,c,l.take i,x,l.drop (i+1),by rw[HT.out];rfl,?_,UG,.inl ⟨HL.out,by rw[<-HL.out]⟩,dX.of_below hb,.inl rfl⟩;rw[<-HL.out];exact D1
 ·have hd:decide ((l.map (·.1))[i]?=some n)=false:=decide_eq_false hin;rw[hd];have⟨k1,k2⟩:=D1.blk.rules;have hwl:w.heap.size<=w1.heap.size:=hb.size;have HB:dM (w1.alloc (ak #[aa n,ah,ah,.map none] 249)) w1.heap.size (d5 (n,ah,ah,.map none)).toArray 249:=dM.new w1 _ _;have D2:=D1.below ((Uc w1).alloc (ay _) (ak #[aa n,ah,ah,.map none] 249));have UE:(Value.slice a l.length c).ownBlock≠some w1.heap.size:=λe=>by have:=(D1.row.lt _ e).2;omega
  have hI:=Ju _ (.slice a l.length c) l i (n,ah,ah,.map none) w1.heap.size D2.row (λu hu=>by
   have⟨x,hx,hu⟩:=List.mem_flatMap.1 hu
   exact uF (h.form x hx).one u hu) h1 Ue HB (uF ⟨rfl,rfl,rfl⟩) UE
  have UF:Hid (((l.map (·.1))[i]?=some n)->False):=hin;clear hin hd;go_wp2_with fail;refine hI.mono ?_;rintro e w2 ⟨g,cap,rfl,Uv,Uq,UA⟩
  have K2:dX (db::(Value.slice a l.length c).ownBlock.toList) w w2:=by
   have e1:dX (db::(Value.slice a l.length c).ownBlock.toList) w (w1.alloc (ak #[aa n,ah,ah,.map none] 249)):=(dX.of_below hb).alloc _;refine e1.trans ⟨Uq.os,Uq.tape,Uq.output,Uq.size,λk hk Ut=>Uq.block k hk (λe=>Ut ?_)⟩;rw[<-e];simp
  have hdl:db<w1.heap.size:=D1.blk.lt;have B2:dM w2 db #[.slice a l.length c,uv] 183:=(Uq.block db Ug (λe=>h.ne e.symm)).trans D2.blk
  have Uy:db≠g:=by
   rcases UA with q|q
   ·exact λe=>h.ne (by rw[e];exact q)
   ·simp at q;omega
  have Us:(Value.slice a l.length c).ownBlock=some g\/w.heap.size<=g:=UA.imp id (λq=>by simp at q;omega);have⟨y1,y2⟩:=B2.rules;have⟨z1,z2⟩:=(B2.set 0 (Ub g (l.length+1) cap)).rules;have HT:Hid ((l.take i).length=i):=by show(l.take i).length=i;rw[bG];omega
  have Uu:Hid ((l.take i++(n,Value.slice none 0 0,Value.slice none 0 0,Value.map none)::l.drop i).length=l.length+1):=by show List.length _=_;simp;omega
  have UD:decide ((i:Int)<(l.length:Int)+1)=true:=Ug;have UC:i<=l.length:=h1;go_wp2;go_ret;refine⟨g,cap,l.take i,(n,ah,ah,.map none),l.drop i,by rw[HT.out];rfl,?_,rfl,.inr ⟨(ca i l).symm,rfl⟩,?_,Us⟩
  ·rw[Uu.out];refine⟨B2.set 0 _,?_,?_,EH rfl h.srt h2 h3 UF.out,λe=>Uy (by simpa [Value.ownBlock]using e.symm),by rw[Uu.out];omega⟩
   ·rw[Uu.out];refine d6 Uv λb hb=> ?_
    obtain rfl:g=b:=by simpa [Value.ownBlock]using hb
    rw[dK,dD (λe=>Uy e)]
   ·intro x hx;simp only[aR,aN]at hx
    rcases hx with hx|rfl|hx
    ·exact h.form x (List.mem_of_mem_take hx)
    ·exact pB.new n
    ·exact h.form x (List.mem_of_mem_drop hx)
  ·exact⟨K2.os,K2.tape,K2.output,by simpa using K2.size,λk hk Ut=>by
    rw[dK,dD (λe=>Ut (by simp[e]))]
    exact K2.block k hk Ut⟩
theorem rt {a:aw}(hrow:w.ownsRow 0 249 4 (.slice a l.length c) l.length (l.flatMap d5))(hx:l[i]?=some x):
  ∃g,a=some (ai g 0)/\g<w.heap.size/\∀w':an,w'.heap[g]?=w.heap[g]?->w'.cell? (ai g (i*4))=some (aa x.1)/\w'.cell? (ai g (i*4+1))=some x.2.1/\w'.cell? (ai g (i*4+2))=some x.2.2.1/\w'.cell? (ai g (i*4+3))=some x.2.2.2:=by
 have hi:=gl hx;obtain⟨g,rfl,_,Us,Ur⟩:=el hrow Ue;have hf:=λj hj=>fP d5 4 fW l i x hx j hj
 refine⟨g,rfl,Us,λw' hw=>⟨?_,?_,?_,?_⟩⟩
 ·exact Ur w' hw _ _ ((hf 0 Ue).trans rfl)
 ·exact Ur w' hw _ _ ((hf 1 Ue).trans rfl)
 ·exact Ur w' hw _ _ ((hf 2 Ue).trans rfl)
 ·exact Ur w' hw _ _ ((hf 3 Ue).trans rfl)
end
end
def dM.new1 (w:an)(o:Obj)(cs:Array Value)(T:TypeId):dM ((w.alloc o).alloc (.cells cs T)) (w.heap.size+1) cs T:=by
 have h:=dM.new (w.alloc o) cs T;have e:(w.alloc o).heap.size=w.heap.size+1:=Uf;rw[e]at h;exact h
def eD.nil (w:an)(Z:ap)(T:TypeId)(k:Nat):eD w Z T k (ah) 0 []:=⟨bm _ _ _ _,λb hb=>by cases hb⟩
def nR (P:Value->PM->Prop):aq->List PV->Prop
 |cs,[]=>cs= []
 |cs,v::vs=>∃mv rest,cs= .int .u64 v.1::ae v.2.1::mv::ae v.2.2.unk::rest/\P mv v.2.2/\nR P rest vs
def iW (P:Value->PM->Prop)(w:an)(Z:ap)(vv:Value)(l:List PV):Prop:=
 ∃Uq,eD w Z 55 4 vv l.length Uq/\nR P Uq l
def lF (P:Value->PM->Prop)(w:an)(Z:ap):aq->List PF->Prop
 |cs,[]=>cs= []
 |cs,f::fs=>∃vv rest,cs=aa f.1::vv::rest/\iW P w Z vv f.2/\lF P w Z rest fs
def qm:Nat->an->(ap)->Value->PM->Prop
 |0,_,_,_,_=>False
 |k+1,w,Z,v,m=>∃cs,eD w Z 58 2 v m.fs.length cs/\lF (qm k w Z) w Z cs m.fs
def nR.imp {P Q:Value->PM->Prop}(h:∀v m,P v m->Q v m):∀{l:List PV} {cs:aq},nR P cs l->nR Q cs l
 | [],_,h1=>h1
 |_::_,_,⟨mv,rest,h1,h2,h3⟩=>⟨mv,rest,h1,h _ _ h2,nR.imp h h3⟩
def iW.mono {P Q:Value->PM->Prop}{w:an}{Z Y:ap}(hP:∀v m,P v m->Q v m)(hz:∀b,Z b->b<w.heap.size->Y b){vv:Value}{l:List PV}(h:iW P w Z vv l):iW Q w Y vv l:=by
 obtain⟨Uq,h1,h2⟩:=h;exact⟨Uq,h1.mono hz,h2.imp hP⟩
def lF.mono {P Q:Value->PM->Prop}{w:an}{Z Y:ap}(hP:∀v m,P v m->Q v m)(hz:∀b,Z b->b<w.heap.size->Y b):∀{fs:List PF} {cs:aq},lF P w Z cs fs->lF Q w Y cs fs
 | [],_,h1=>h1
 |_::_,_,⟨vv,rest,h1,h2,h3⟩=>⟨vv,rest,h1,h2.mono hP hz,lF.mono hP hz h3⟩
def qm.mono {w:an}{Z Y:ap}(hz:∀b,Z b->b<w.heap.size->Y b):∀{k:Nat} {v:Value} {m:PM},qm k w Z v m->qm k w Y v m
 |0,_,_,h=>h
 |_+1,_,_,⟨cs,h1,h2⟩=>⟨cs,h1.mono hz,h2.mono (λ_ _ h=>qm.mono hz h) hz⟩
def nR.get {P:Value->PM->Prop}:∀{l:List PV} {cs:aq},nR P cs l->∀{i:Nat} {v:PV},l[i]?=some v->
  ∃mv,P mv v.2.2/\cs[i*4]?=some (.int .u64 v.1)/\cs[i*4+1]?=some (ae v.2.1)/\cs[i*4+2]?=some mv/\cs[i*4+3]?=some (ae v.2.2.unk)
 | [],_,_,i,v,h=>by simp at h
 |x::l,_,⟨mv,rest,h1,h2,h3⟩,0,v,h=>by
  simp at h;subst h;subst h1;exact⟨mv,h2,rfl,rfl,rfl,rfl⟩
 |x::l,_,⟨mv,rest,h1,h2,h3⟩,i+1,v,h=>by
  have⟨Ur,q1,q2,q3,q4,q5⟩:=h3.get (i:=i) (v:=v) (by simpa using h);subst h1;have e:∀j,(i+1)*4+j=(i*4+j)+4:=λj=>Ue
  refine⟨Ur,q1,?_,?_,?_,?_⟩
  ·rw[show(i+1)*4=i*4+4 from by omega];exact q2
  ·rw[e];exact q3
  ·rw[e];exact q4
  ·rw[e];exact q5

section
variable {w:an} {b:Nat} {S T:ap}
structure fk (w:an)(S:ap)(w':an)(S':ap):Prop where
 os:w'.os=w.os
 tape:w'.tape=w.tape
 output:w'.output=w.output
 size:w.heap.size<=w'.heap.size
 block:∀b,b<w.heap.size->¬S b->w'.heap[b]?=w.heap[b]?
 grow:∀b,S' b->S b\/w.heap.size<=b
theorem fk.refl (w:an)(S:ap):fk w S w S:=⟨rfl,rfl,rfl,ay _,λ_ _ _=>rfl,λ_ h=> .inl h⟩
theorem fk.trans {a b c:an}{U:ap}(h:fk a S b T)(k:fk b T c U):fk a S c U:=
 ⟨k.os.trans h.os,k.tape.trans h.tape,k.output.trans h.output,aG h.size k.size,
  λi hi hs=>(k.block i (aD hi h.size) (λht=>(h.grow i ht).elim hs (λx=>Ue))).trans (h.block i hi hs),
  λi hi=>(k.grow i hi).elim (λx=>h.grow i x) (λx=> .inr (aG h.size x))⟩
theorem fk.below {a b c:an}(h:fk a S b T)(k:Below b.heap.size b c):fk a S c T:=
 h.trans ⟨k.os,k.tape,k.output,k.size,λi hi _=>k.block i hi,λ_ x=> .inl x⟩
theorem fk.alloc {a b:an}(h:fk a S b T)(o:Obj):fk a S (b.alloc o) T:=h.below ((Below.refl _ _).alloc (ay _) o)
theorem fk.drew {a b:an}(h:fk a S b T):fk a S b.drew T:=h.below (Below.refl _ _).drew
theorem dM.step {w1:an}{cs:Array Value}{ty:TypeId}(h:dM w b cs ty)(hk:fk w S w1 T)(hn:¬S b):dM w1 b cs ty:=(hk.block b h.lt hn).trans h
theorem fk.not {w1:an}(hk:fk w S w1 T)(hb:b<w.heap.size)(hn:¬S b):¬T b:=λx=>(hk.grow b x).elim hn (λy=>Ue)
theorem jY {lo:Nat}{T:TypeId}{k n:Nat}{v:Value}{xs:aq}(h:w.ownsRow lo T k v n xs)(hb:v.ownBlock=some b):∃cs,dM w b cs T:=by
 rcases h.2 with⟨rfl,_⟩|⟨g,cap,Uq,rfl,_,h4,_⟩
 ·cases hb
 ·simp[Value.ownBlock]at hb;subst hb;exact⟨Uq,h4⟩
end
end Go.Proofs.YtfebdimolnobaaaGreatDoor
