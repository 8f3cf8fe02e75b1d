import Derived.Test.YtfebdimolnobaaaGreatDoorBuE
import Derived.Shelf.Spec.SlicesInsert
import Derived.Lib.AppendZerosOnto
set_option maxRecDepth 100000
set_option maxHeartbeats 8000000
set_option linter.all false
namespace Go.Proofs.YtfebdimolnobaaaGreatDoor
open Go.RowKit Go.Proofs.Tryz
section
open Vo
def Fr (a:Nat)(x n:Int)(w:aw)(ha:w.cell? (aj a 0)=some (aa x)):
  Calls prog 236 #[ah a,aa n] w λe w'=>e= .returned (aa (lu x n))/\w'=w:=by
 have hC:=qR x n;generalize lu x n=c at hC⊢;go_in
 go_wp2_with fail;refine(hC _).V ?_;rintro e w' ⟨rfl,rfl⟩;go_wp2;go_ret;exact⟨rfl,rfl⟩
def Y4 {α:Type}{f:α->Int}{l:List α}(hs:l.Pairwise λa b=>f a<=f b)(i j:Nat)(x y:α)(hx:l[i]?=some x)(hy:l[j]?=some y)(Vy:i<=j):f x<=f y:=by
 by_cases e:i=j;.subst e;rw[hx]at hy;obtain rfl:=Option.some.inj hy;exact cK _
 .rw[bV]at hs;have hi:=gl hx;have hj:=gl hy;have:=hs i j hi hj Vc;rw[aO hi]at hx;rw[aO hj]at hy;rw[<-Option.some.inj hx,<-Option.some.inj hy];exact this
def Y5 {i j h:Nat}(hh:(i+j)/2=h)(hb:i+j<9223372036854775808):IntKind.u64.wrap ((i:Int)+(j:Int))=(i:Int)+(j:Int)/\((i:Int)+(j:Int))/2=(h:Int)/\IntKind.i64.wrap (h:Int)=(h:Int):=
 ⟨gD Vc Vc,Vc,by simp[IntKind.wrap,IntKind.bits,IntKind.signed];omega⟩
def Y6 (x t:Int):(lu x t==0)=decide (x=t):=by
 rw[cy];unfold lu;by_cases q1:x<t;.simp[q1];omega
 .by_cases q2:t<x;.simp[q1,q2];omega
  .simp[q1,q2];omega
def wH (N:ar)(t:Int)(e:Ending):Prop:=
 ∃i:Nat,e= .returned (.tuple #[aa i,.bool (decide (N[i]?=some t))])/\i<=N.length/\(∀k x,N[k]?=some x->k<i->x<t)/\(∀k x,N[k]?=some x->i<=k->t<=x)
def Kw (w:aw)(v:Value)(l:List (Int×Nat))(t:Int)(lo:Nat)(hrow:w.ownsRow lo 212 1 v l.length (fx (l.map (·.2))))(hc:∀x∈l,w.cell? (aj x.2 0)=some (aa x.1))(hs:l.Pairwise (λa b=>a.1<=b.1))(hl:l.length<=2001):
  Calls prog 235 #[v,aa t,.func (.func 236) #[] #[]] w λe w'=>wH (l.map (·.1)) t e/\w'=w:=by
 obtain⟨a,c,rfl⟩:=iz hrow;have HS:Hid (∀(i j:Nat) (x y:Int×Nat),l[i]?=some x->l[j]?=some y->i<=j->x.1<=y.1):=Y4 hs
 have HG:Hid (∀i x,l[i]?=some x->∃g,a=some (aj g 0)/\w.cell? (aj g i)=some (ah x.2)/\w.cell? (aj x.2 0)=some (aa x.1)):=λi x hx=>by
  have hi:=gl hx;obtain⟨g,rfl,_,_,Vq⟩:=eH hrow Vc;exact⟨g,rfl,Vq w rfl i _ (by simp[fx,hx,gZ]),hc x (aL hx)⟩
 clear hs hc hrow;go_in
 go_wp2;go_loopw [9,10] (λiv jv wr=>∃(i j:Nat),i<=j/\j<=l.length/\iv=aa i/\jv=aa j/\Hid (∀k x,l[k]?=some x->k<i->x.1<t)/\Hid (∀k x,l[k]?=some x->j<=k->t<=x.1)/\w=wr) (λiv jv _=>((intOf jv)-(intOf iv)).toNat)
 case atStart=>exact⟨0,l.length,aP _,aE _,rfl,rfl,(λk x _ h=>Vc),(λk x hx h=>by rw[bf Vc]at hx;cases hx),rfl⟩
 case round=>
  obtain⟨i,j,Vy,Vz,rfl,rfl,H1,H2,rfl⟩:=hrel;by_cases Vx:i<j
  .obtain⟨h,hh⟩:=Y9 ((i+j)/2);have VB:h<l.length:=Vc;have VC:i<=h:=Vc;have hhj:h<j:=Vc;have⟨x,hx⟩:=gx VB;obtain⟨g,rfl,VD,Vw⟩:=HG.o h x hx;have⟨hw1,hdiv,hw2⟩:=Y5 hh Vc;by_cases Vu:x.1<t
   .have hd:decide (lu x.1 t<0)=true:=by simp[nU,Vu]
    have HX:Hid (l[h]?=some x):=hx;clear hh hx HG;go_wp2_with fail;refine(Fr x.2 x.1 t _ Vw).V ?_;rintro e w2 ⟨rfl,rfl⟩;go_wp2;go_roundw
    case rel=>exact⟨h+1,j,Vc,Vz,rfl,rfl,(λk y hy hk=>Int.lt_of_le_of_lt (HS.o k h y x hy HX.o Vc) Vu),H2,trivial⟩
    case measure=>simp[intOf];omega
   .have hd:decide (lu x.1 t<0)=false:=decide_eq_false (λq=>Vu ((nU _ _).1 q));have HX:Hid (l[h]?=some x):=hx;clear hh hx HG;go_wp2_with fail;refine(Fr x.2 x.1 t _ Vw).V ?_;rintro e w2 ⟨rfl,rfl⟩;go_wp2;go_roundw
    case rel=>exact⟨i,h,VC,Vc,rfl,rfl,H1,(λk y hy hk=>Int.le_trans Vc (HS.o h k x y HX.o hy hk)),trivial⟩
    case measure=>simp[intOf];omega
  .obtain rfl:i=j:=Vc;have hli:decide ((i:Int)<(i:Int))=false:=Vd;by_cases Vr:i<l.length
   .have⟨x,hx⟩:=gx Vr;obtain⟨g,rfl,VD,Vw⟩:=HG.o i x hx;have HX:Hid (l[i]?=some x):=hx;have hti:=H2.o i x hx (aE _);have hd:(lu x.1 t==0)=decide (x.1=t):=Y6 _ _;have hN:decide ((l.map (·.1))[i]?=some t)=decide (x.1=t):=by rw[aT,hx];simp
    have HE:Hid (decide ((l.map (·.1))[i]?=some t)=decide (x.1=t)):=hN;clear hx HG hN Vx Vy;go_wp2_with fail;refine(Fr x.2 x.1 t _ Vw).V ?_;rintro e w2 ⟨rfl,rfl⟩;go_wp2;go_ret2;refine⟨⟨i,by rw[HE.o];rfl,by simpa using Vz,?_,?_⟩,rfl⟩;.intro k y hy hk;rw[aT]at hy;obtain⟨z,hz,rfl⟩:=bi.1 hy;exact H1.o k z hz hk
    .intro k y hy hk;rw[aT]at hy;obtain⟨z,hz,rfl⟩:=bi.1 hy;exact H2.o k z hz hk
   .have hli2:decide ((i:Int)<(l.length:Int))=false:=Ve
    have HE:Hid (decide ((l.map (·.1))[i]?=some t)=false):=by
     show decide ((l.map (·.1))[i]?=some t)=false;rw[bf (by rw[bN];omega)];simp
    clear HG Vx Vy;go_wp2;go_ret2;refine⟨⟨i,by rw[HE.o];rfl,by simpa using Vz,?_,?_⟩,rfl⟩;.intro k y hy hk;rw[aT]at hy;obtain⟨z,hz,rfl⟩:=bi.1 hy;exact H1.o k z hz hk
    .intro k y hy hk;rw[aT]at hy;obtain⟨z,hz,rfl⟩:=bi.1 hy;exact H2.o k z hz hk
def iI:List GF->Int->Option GF
 | [],_=>none
 |g::l,t=>if g.f.num=t then some g else iI l t
def xI:∀{gs:List GF} {t:Int} {i:Nat} {g:GF},gs[i]?=some g->g.f.num=t->(∀k x,gs[k]?=some x->k<i->x.f.num≠t)->iI gs t=some g
 | [],_,_,_,h,_,_=>by simp at h
 |y::l,t,0,g,h,e,_=>by
  simp at h;subst h
  rw[iI,dP e]
 |y::l,t,i+1,g,h,e,hn=>by
  rw[iI,dO (hn 0 y rfl Vc)];exact xI (i:=i) (by simpa using h) e (λk x hx hk=>hn (k+1) x (by simpa using hx) Vc)
def pt:∀{gs:List GF} {t:Int},(∀x∈gs,x.f.num≠t)->iI gs t=none
 | [],_,_=>rfl
 |y::l,t,h=>by
  rw[iI,dO (h y aZ)];exact pt (λx hx=>h x (aY _ hx))
def Kx (w:aw)(P:ax)(mp:an)(r:Option GF)(e:Ending):Prop:=
 match r with
 |none=>e= .returned (.pointer none)
 |some g=>∃fb,e= .returned (ah fb)/\eZ w P mp g fb
def qV (w:aw)(P:ax)(mp:an)(mb:Nat)(name:au)(gs:List GF)(t:Int)(h:jh w P mp mb name gs)(hs:gs.Pairwise (λx y=>x.f.num<=y.f.num))(hl:gs.length<=2001):
  Calls prog 153 #[ah mb,aa t] w λe w'=>Kx w P mp (iI gs t) e/\w'=w:=by
 obtain⟨fv,fbs,h1,h2,h3,h4⟩:=h;obtain⟨z,rfl,rfl,hz⟩:=h4.zip;obtain⟨fa,fn,fc,rfl⟩:=d5 h3.1;obtain rfl:fn=z.length:=by have:=fh h3.1;simpa using this
 rw[bN]at hl h3
 have HS:=Kw w (.slice fa z.length fc) (z.map λx=>(x.1.f.num,x.2)) t 0 (by rw[bN,bJ,show((λx:Int×Nat=>x.2)∘λx:GF×Nat=>(x.1.f.num,x.2))=(λx=>x.2)from rfl];exact h3.1)
  (λx hx=>by obtain⟨y,hy,rfl⟩:=aR.1 hx;exact(hz y hy).cell0.1) (by rw[cw]at hs⊢;exact hs) (by simpa using hl)
 have⟨k1,k2⟩:=h1.I;go_in
 go_wp2_with fail;refine HS.V ?_;rintro e w2 ⟨⟨i,rfl,hi,Vs,Vt⟩,rfl⟩;have eN:(List.map (·.1) (z.map λx:GF×Nat=>(x.1.f.num,x.2)))=z.map (λx=>x.1.f.num):=by rw[bJ];rfl
 rw[eN]at hi Vs Vt⊢;rw[bN]at hi;by_cases hf:(z.map (λx=>x.1.f.num))[i]?=some t
 .rw[decide_eq_true hf];rw[aT]at hf;have⟨x,hx,Vu⟩:=bi.1 hf
  have Vp:iI (z.map (·.1)) t=some x.1:=xI (i:=i) (by rw[aT,hx];rfl) Vu (λk y hy hk e=>by
   rw[aT]at hy;obtain⟨u,hu,rfl⟩:=bi.1 hy;have:=Vs k u.1.f.num (by rw[aT,hu];rfl) hk
   omega)
  have Vr:=gl hx;obtain⟨g,rfl,_,_,Vq⟩:=eH h3.1 Vc;have hg:=Vq w2 rfl i (ah x.2) (by simp[fx,hx,gZ]);have Vx:(i:Int)<(z.length:Int):=Vc;have HF:Hid (iI (z.map (·.1)) t=some x.1):=Vp;have HX:Hid (eZ w2 P mp x.1 x.2):=hz x (aL hx);clear Vp Vq Vs Vt hz HS;go_wp2;go_ret;refine⟨?_,rfl⟩;rw[HF.o];exact⟨x.2,rfl,HX.o⟩
 .rw[decide_eq_false hf]
  have Vp:iI (z.map (·.1)) t=none:=pt (λy hy e=>by
   obtain⟨u,hu,rfl⟩:=aR.1 hy;have⟨k,hk⟩:=dq hu;have Vv:(z.map (λx=>x.1.f.num))[k]?=some u.1.f.num:=by rw[aT,hk];rfl
   rcases Nat.lt_or_ge k i with q|q;.have:=Vs k _ Vv q;omega
   .by_cases q2:k=i;.subst q2;rw[e]at Vv;exact hf Vv
    .have h5:=Vt k _ Vv q;have Vr:i<z.length:=by have:=gl hk;omega
     have⟨x,hx⟩:=gx Vr;have h6:=Vt i x.1.f.num (by rw[aT,hx];rfl) (aE _);have h7:x.1.f.num<=u.1.f.num:=(by have VA:=gl hk;rw[cw,bV]at hs;have h8:=hs i k Vr VA Vc;rw[aO Vr]at hx;rw[aO VA]at hk;rw[Option.some.inj hx,Option.some.inj hk]at h8;exact h8)
     exact hf (by rw[aT,hx];simp;omega))
  have HF:Hid (iI (z.map (·.1)) t=none):=Vp;clear Vp Vs Vt hz HS;go_wp2;go_ret;refine⟨?_,rfl⟩;rw[HF.o];rfl
abbrev gF:=Int×Value×Value×Value
def et (x:gF):ay:= [aa x.1,x.2.1,x.2.2.1,x.2.2.2]
def gw (x:gF):(et x).length=4:=rfl
def FA (x:gF)(n:Int)(w:aw):
  Calls prog 403 #[.agg #[aa x.1,x.2.1,x.2.2.1,x.2.2.2],aa n] w λe w'=>e= .returned (aa (lu x.1 n))/\ak w w':=by
 have hC:=qR x.1 n;have B0:∀o,ak w (w.alloc o):=λo=>(Va w).alloc (aE _) o
 generalize lu x.1 n=c at hC⊢;go_in
 go_wp2_with fail;refine(hC _).V ?_;rintro e w' ⟨rfl,rfl⟩;go_wp2;go_ret;exact⟨rfl,B0 _⟩
def KJ (w:aw)(v:Value)(l:List gF)(t:Int)(lo:Nat)(hrow:w.ownsRow lo 249 4 v l.length (l.flatMap et))(h1:∀x∈l,x.2.1.oneCell'=true/\x.2.2.1.oneCell'=true/\x.2.2.2.oneCell'=true)(hs:l.Pairwise (λa b=>a.1<=b.1))(hl:l.length<=1073741824):
  Calls prog 402 #[v,aa t,.func (.func 403) #[] #[]] w λe w'=>wH (l.map (·.1)) t e/\ak w w':=by
 obtain⟨a,c,rfl⟩:=iz hrow;have HS:Hid (∀(i j:Nat) (x y:gF),l[i]?=some x->l[j]?=some y->i<=j->x.1<=y.1):=Y4 hs
 have HG:Hid (∀(i:Nat) (x:gF),l[i]?=some x->∃g,a=some (aj g 0)/\g<w.heap.size/\∀w':aw,w'.heap[g]?=w.heap[g]?->w'.cell? (aj g (i*4))=some (aa x.1)/\w'.cell? (aj g (i*4+1))=some x.2.1/\w'.cell? (aj g (i*4+2))=some x.2.2.1/\w'.cell? (aj g (i*4+3))=some x.2.2.2):=λi x hx=>by
  have hi:=gl hx;obtain⟨g,rfl,_,Vq,Vp⟩:=eH hrow Vc;have hf:=λj hj=>fY et 4 gw l i x hx j hj
  refine⟨g,rfl,Vq,λw' hw=>⟨?_,?_,?_,?_⟩⟩;.exact Vp w' hw _ _ ((hf 0 Vc).J rfl)
  .exact Vp w' hw _ _ ((hf 1 Vc).J rfl)
  .exact Vp w' hw _ _ ((hf 2 Vc).J rfl)
  .exact Vp w' hw _ _ ((hf 3 Vc).J rfl)
 go_in
 go_wp2;go_loopw [9,10] (λiv jv wr=>∃(i j:Nat),i<=j/\j<=l.length/\iv=aa i/\jv=aa j/\Hid (∀(k:Nat) (x:gF),l[k]?=some x->k<i->x.1<t)/\Hid (∀(k:Nat) (x:gF),l[k]?=some x->j<=k->t<=x.1)/\ak w wr) (λiv jv _=>((intOf jv)-(intOf iv)).toNat)
 case atStart=>exact⟨0,l.length,aP _,aE _,rfl,rfl,(λk x _ h=>Vc),(λk x hx h=>by rw[bf Vc]at hx;cases hx),Below.refl _ _⟩
 case round=>
  obtain⟨i,j,hij,Vr,rfl,rfl,H1,H2,CW⟩:=hrel;by_cases hlt:i<j
  .obtain⟨h,hh⟩:=Y9 ((i+j)/2);have Vt:h<l.length:=Vc;have Vu:i<=h:=Vc;have hhj:h<j:=Vc;have⟨x,hx⟩:=gx Vt;obtain⟨g,rfl,Vq,Vs⟩:=HG.o h x hx;have⟨c0,c1,c2,c3⟩:=Vs wr (CW.block g Vq);have⟨o1,o2,o3⟩:=h1 x (aL hx);have⟨hw1,hdiv,hw2⟩:=Y5 hh Vc;by_cases hxt:x.1<t
   .have hd:decide (lu x.1 t<0)=true:=by simp[nU,hxt]
    have HX:Hid (l[h]?=some x):=hx;go_wp2_with fail;refine(FA x t _).V ?_;rintro e w2 ⟨rfl,b2⟩;go_wp2;go_roundw
    case rel=>exact⟨h+1,j,Vc,Vr,rfl,rfl,(λk y hy hk=>Int.lt_of_le_of_lt (HS.o k h y x hy HX.o Vc) hxt),H2,eQ CW b2⟩
    case measure=>simp[intOf];omega
   .have hd:=decide_eq_false (λq=>hxt ((nU _ _).1 q));have HX:Hid (l[h]?=some x):=hx;go_wp2_with fail;refine(FA x t _).V ?_;rintro e w2 ⟨rfl,b2⟩;go_wp2;go_roundw
    case rel=>exact⟨i,h,Vu,Vc,rfl,rfl,H1,(λk y hy hk=>Int.le_trans Vc (HS.o h k x y HX.o hy hk)),eQ CW b2⟩
    case measure=>simp[intOf];omega
  .obtain rfl:i=j:=Vc;have hli:decide ((i:Int)<(i:Int))=false:=Vd;by_cases hil:i<l.length
   .have⟨x,hx⟩:=gx hil;obtain⟨g,rfl,Vq,Vs⟩:=HG.o i x hx;have⟨c0,c1,c2,c3⟩:=Vs wr (CW.block g Vq);have⟨o1,o2,o3⟩:=h1 x (aL hx);have HX:=hx;have hti:=H2.o i x hx (aE _);have hd:(lu x.1 t==0)=decide (x.1=t):=Y6 _ _;have hN:decide ((l.map (·.1))[i]?=some t)=decide (x.1=t):=by rw[aT,hx];simp
    have HE:Hid (decide ((l.map (·.1))[i]?=some t)=decide (x.1=t)):=hN;go_wp2_with fail;refine(FA x t _).V ?_;rintro e w2 ⟨rfl,b2⟩;go_wp2;go_ret2;refine⟨⟨i,by rw[HE.o];rfl,by simpa using Vr,?_,?_⟩,eQ CW b2⟩;.intro k y hy hk;rw[aT]at hy;obtain⟨z,hz,rfl⟩:=bi.1 hy;exact H1.o k z hz hk
    .intro k y hy hk;rw[aT]at hy;obtain⟨z,hz,rfl⟩:=bi.1 hy;exact H2.o k z hz hk
   .have hli2:decide ((i:Int)<(l.length:Int))=false:=Ve
    have HE:Hid (decide ((l.map (·.1))[i]?=some t)=false):=by
     show decide ((l.map (·.1))[i]?=some t)=false;rw[bf (by rw[bN];omega)];simp
    go_wp2;go_ret2;refine⟨⟨i,by rw[HE.o];rfl,by simpa using Vr,?_,?_⟩,CW⟩;.intro k y hy hk;rw[aT]at hy;obtain⟨z,hz,rfl⟩:=bi.1 hy;exact H1.o k z hz hk
    .intro k y hy hk;rw[aT]at hy;obtain⟨z,hz,rfl⟩:=bi.1 hy;exact H2.o k z hz hk
end
def uy:(prog.info? 249).map (λi=>(i.zero,i.size,i.bytes))=some (some (.agg #[aa 0,ai,ai,.map none]),4,64):=Vh
def lS {P:Program}(w:aw)(dT sT ty elem:TypeId)(k g o dLen dCap:Nat)(a:Addr)(sLen sCap:Nat)(Vq:aq)(t:TypeId)(cs:ay)
  (hu:P.underlying dT=some (.slice elem)) (hs:(P.info? elem).map (·.size)=some k)
  (hg:w.heap[g]?=some (.cells Vq t (0,0))) (hn:cs.length=Nat.min sLen dLen*k)
  (Vy:∀j v,cs[j]?=some v->w.cell? (a.add j)=some v) (hfit:o+cs.length<=Vq.size) (h1:∀v∈cs,v.oneCell'=true):
  (Builtin.copy_ #[dT,sT] ty #[.slice (some (aj g o)) dLen dCap,.slice (some a) sLen sCap]).run P w=
   .ok (goInt (Nat.min sLen dLen)) (w.setRow g (Vq.toList.take o++cs++Vq.toList.drop (o+cs.length)).toArray):=by
 have hl:=run_loadCells_list (P:=P) w a cs Vy;have VV:=run_storeCells_at P g o t cs 0 Vq w hg (by simpa using hfit) h1
 cases hq:P.info? elem with
 |none=>simp[hq]at hs
 |some i=>
  have hi:i.size=k:=by simpa [hq]using hs
  simp[Builtin.copy_,run_underlying hu,Builtin.lenOf,Builtin.firstCells,sizeOf,typeInfo,hq,hi,<-hn,hl,VV]
def BS (w:aw)(v:Value)(n:Nat)(cs:ay)(e:Ending)(w':aw):Prop:=
 ∃g cap,e= .returned (U9 g n cap)/\w'.ownsRow 0 249 4 (U9 g n cap) n cs/\w.grownBy w' v.ownBlock/\(v.ownBlock=some g\/w.heap.size<=g)
def BT (w:aw)(v:Value)(cs xs:ay)(n vb:Nat)(hrow:w.ownsRow 0 249 4 v n cs)(hn:n<=1073741824)(hv:dX w vb xs.toArray 249)(hxl:xs.length=4)(h1v:∀u∈xs,u.oneCell'=true):
  Calls prog 346 #[v,aa n,U9 vb 1 1] w (BS w v (n+1) (cs++xs)):=by
 have⟨i0,VA,VH,VD,VR⟩:=info_parts uy;have HN:∀j u,xs[j]?=some u->w.cell? (((aj vb 0):Addr).add j)=some u:=λj u hu=>bz hv j u (by simpa using hu)
 obtain⟨a,c,rfl⟩:=iz hrow;go_in
 go_wp2_with (at_builtin;refine wpList_append_lies _ rfl _ _ 181 rfl 0 249 i0 _ 4 64 underlying181 VA VH VD VR rfl Vc (.slice a n c) n cs rfl hrow (aj vb 0) 1 1 xs rfl hxl HN h1v Vc Vj Vc Vc _ rfl ?_;intro g cap w1 VL VF Wv VG)
 all_goals
  go_ret;exact⟨g,cap,rfl,VL,by cases a<;>exact VF,by cases a<;>exact Wv.imp id (λe=>Vc)⟩
def jX {w w':aw}{row:Option Nat}{g:Nat}{cs:aq}(h:w.grownBy w' row)(hg:row=some g\/w.heap.size<=g):w.grownBy (w'.setRow g cs) row:=
 ⟨h.os,h.tape,h.output,by simpa using h.size,λk hk VS=>by
  rw[setRow_other _ _ _ _ (λe=>by subst e;rcases hg with q|q;exact VS q.sy;omega)]
  exact h.block k hk VS⟩
def KL (Vq cs xs D:ay)(n i:Nat)(hcs:Vq.take (n*4)=cs)(hcl:cs.length=n*4)(hxl:xs.length=4)(hi:i<n):
  ((Vq.take ((i+1)*4)++cs.drop (i*4)++D).take (i*4)++xs++(Vq.take ((i+1)*4)++cs.drop (i*4)++D).drop (i*4+xs.length)).take ((n+1)*4)=cs.take (i*4)++xs++cs.drop (i*4):=by
 have hcur:n*4<=Vq.length:=by rw[<-hcs,bM]at hcl;omega
 have hA:(Vq.take ((i+1)*4)).length=i*4+4:=by rw[bM];omega
 have e1:(Vq.take ((i+1)*4)++cs.drop (i*4)++D).take (i*4)=cs.take (i*4):=(by rw[bj,dh Vc,List.take_take,Nat.min_eq_left Vc,<-hcs,List.take_take,Nat.min_eq_left Vc]);have e2:(Vq.take ((i+1)*4)++cs.drop (i*4)++D).drop (i*4+xs.length)=cs.drop (i*4)++D:=(by rw[bj,hxl];exact List.drop_left' hA);rw[e1,e2,<-bj];exact List.take_left' (by simp[hxl,hcl];omega)
def zS (w:aw)(cs xs:ay)(g n c i vb:Nat)(Vq:aq)(hb:w.heap[g]?=some (.cells Vq 249 (0,0)))(hsz:Vq.size=c*4)(hcs:Vq.toList.take (n*4)=cs)(hcl:cs.length=n*4)(h1c:∀u∈cs,u.oneCell'=true)(hi:i<n)(hn:n<=1073741824)(hroom:n+1<=c)(hc:c<=maxLen)(hv:dX w vb xs.toArray 249)(hxl:xs.length=4)(h1v:∀u∈xs,u.oneCell'=true)(hvb:vb≠g):
  Calls prog 346 #[U9 g n c,aa i,U9 vb 1 1] w (BS w (U9 g n c) (n+1) (cs.take (i*4)++xs++cs.drop (i*4))):=by
 have hu:prog.underlying 181=some (.slice 249):=underlying181;have VB:(prog.info? 249).map (·.size)=some 4:=(by have⟨i0,VA,VH,VD,VR⟩:=info_parts uy;rw[VA];simp[VD]);have HN:∀(W:aw),W.heap[vb]?=w.heap[vb]?->∀j u,xs[j]?=some u->W.cell? (((aj vb 0):Addr).add j)=some u:=λW hW j u hu=>bz (hW.J hv) j u (by simpa using hu)
 have VW:∀lb cb,(callFunc 404 #[U9 vb 1 1,.slice (some (aj g ((i+1)*4))) lb cb]).run prog w= .ok (.value (.bool false)) w:=λlb cb=>by
  rw[run_callFunc_extern func404 Vh Vh Vh (e:=Extern.SlicesOverlaps.overlaps #[181,181] #[4]) Vh,
   Lib.run_overlaps_apart w 181 4 249 hu 4 sizeOf249 (aj vb 0) (aj g ((i+1)*4)) 1 1 lb cb hvb 249 249 4 Vq.size (by unfold World.shape?;rw[hv];simp[hxl]) (by unfold World.shape?;rw[hb]) Vc (hv.I.2 _) (hv.I.2 _)]
  rfl
 obtain⟨Vp,Vu⟩:∃r:aq,Hid (r=(Vq.toList.take ((i+1)*4)++cs.drop (i*4)++Vq.toList.drop ((i+1)*4+(cs.drop (i*4)).length)).toArray):=⟨_,rfl⟩;have Vw:(cs.drop (i*4)).length=(n-i)*4:=by rw[List.length_drop,hcl];omega
 have Vx:Vp.size=Vq.size:=by rw[Vu.o];simp[Vw];omega
 have Vy:∀(W:aw),W.heap[g]?=w.heap[g]?->∀j v,(cs.drop (i*4))[j]?=some v->W.cell? (((aj g (i*4)):Addr).add j)=some v:=λW hW j v hj=>by
  rw[Addr.add_lit,bC (w:=w) (by exact hW),cell_of_row w g _ Vq _ _ hb,<-bO];rw[dH]at hj
  have VG:i*4+j<n*4:=by
   rw[<-hcl];by_cases q:i*4+j<cs.length;.exact q
   .rw[bf Vc]at hj;cases hj
  rw[<-hcs,cB VG]at hj;exact hj
 have VC:∀(W:aw) ty dc sc,W.heap[g]?=w.heap[g]?->(Builtin.copy_ #[181,181] ty #[.slice (some (aj g ((i+1)*4))) (n+1-(i+1)) dc,.slice (some (aj g (i*4))) (n+1-i) sc]).run prog W= .ok (goInt (Nat.min (n+1-i) (n+1-(i+1)))) (W.setRow g Vp):=λW ty dc sc hW=>by
  rw[Vu.o];exact lS W _ _ ty 249 4 g ((i+1)*4) (n+1-(i+1)) dc (aj g (i*4)) (n+1-i) sc Vq 249 (cs.drop (i*4)) hu VB (hW.J hb) (by rw[Vw];simp only[Nat.min_def];split<;>omega) (Vy W hW) (by rw[Vw];omega) (λv hv=>h1c v (cG hv))
 obtain⟨Vs,Vv⟩:∃r:aq,Hid (r=(Vp.toList.take (i*4)++xs++Vp.toList.drop (i*4+xs.length)).toArray):=⟨_,rfl⟩
 have VI:∀(W:aw) ty dc,W.heap[g]?=some (.cells Vp 249 (0,0))->W.heap[vb]?=w.heap[vb]?->(Builtin.copy_ #[181,181] ty #[.slice (some (aj g (i*4))) (n+1-i) dc,U9 vb 1 1]).run prog W= .ok (goInt (Nat.min 1 (n+1-i))) (W.setRow g Vs):=λW ty dc hW hV=>by
  rw[Vv.o];exact lS W _ _ ty 249 4 g (i*4) (n+1-i) dc (aj vb 0) 1 1 Vp 249 xs hu VB hW (by rw[hxl];simp only[Nat.min_def];split<;>omega) (HN W hV) Vc h1v
 have VD:¬((i:Int)=(n:Int)):=Vc;have VX:IntKind.i64.wrap ((i:Int)+1)=(i:Int)+1:=by rw[IntKind.wrap_i64];omega
 have VY:IntKind.i64.wrap ((n:Int)+1)=(n:Int)+1:=by rw[IntKind.wrap_i64];omega
 go_in
 go_wp2_with (simp only[VW])
 have mixed:prog.follows Departure.mixedOrders=true:=Vh;have VZ:(0:Int)<=(i:Int)+1:=Vc;have V0:i<=n:=Vc;have V7:((i:Int)+1).toNat=i+1:=Vc;have hb2:¬(c=i+1):=Vc;have V8:(i:Int)<=(n:Int)+1:=Vc;have hb4:¬(c=i):=Vc;have VO:(w.drew).heap[g]?=w.heap[g]?:=rfl;have V9:n+1-(i+1)=n-i:=Vc;rw[V9]at VC;have VP:(w.drew.setRow g Vp).heap[g]?=some (.cells Vp 249 (0,0)):=setRow_heap _ _ _ _ _ _ (VO.J hb);have Wb:(w.drew.setRow g Vp).heap[vb]?=w.heap[vb]?:=setRow_other _ _ _ _ hvb;go_region_law_o (refine step_copy_runI rfl _ _ 181 181 rfl (.slice (some (aj g ((i+1)*4))) (n-i) (c-(i+1))) (.slice (some (aj g (i*4))) (n+1-i) (c-i)) (by simp[Act.eval,Act.put]) (by simp[Act.eval,Act.put]) (VC _ _ _ _ VO) ?_)
 go_wp2_with (at_builtin;refine wpList_copy_runI _ rfl _ _ 181 181 rfl _ _ rfl rfl (VI _ _ _ VP Wb) ?_)
 go_ret;have G1:w.grownBy ((w.drew.setRow g Vp).setRow g Vs) (some g):=jX (jX ⟨rfl,rfl,rfl,aE _,λ_ _ _=>rfl⟩ (.inl rfl)) (.inl rfl);have hh:=setRow_heap _ g _ Vs _ _ VP;refine⟨g,c,rfl,⟨?_,.inr ⟨g,c,Vs,rfl,aP _,hh,Vc,hc,?_,?_⟩⟩,G1,.inl rfl⟩;.simp[hxl,hcl];omega
 .rw[Vv.o];simp;omega
 .rw[Vv.o,Vu.o];exact KL Vq.toList cs xs _ n i hcs hcl hxl hi
def KU (cs xs Z Y:ay)(n i:Nat)(hcl:cs.length=n*4)(hxl:xs.length=4)(hi:i<n):
  (((cs.take (i*4)++Z++Y).take (i*4)++xs++(cs.take (i*4)++Z++Y).drop (i*4+xs.length)).take ((i+1)*4)++cs.drop (i*4)++
   ((cs.take (i*4)++Z++Y).take (i*4)++xs++(cs.take (i*4)++Z++Y).drop (i*4+xs.length)).drop ((i+1)*4+(cs.drop (i*4)).length)).take ((n+1)*4)=cs.take (i*4)++xs++cs.drop (i*4):=by
 have hA:(cs.take (i*4)).length=i*4:=by rw[bM];omega
 have e1:(cs.take (i*4)++Z++Y).take (i*4)=cs.take (i*4):=(by rw[bj];exact List.take_left' hA);rw[e1];rw[List.take_left' (l₁:=cs.take (i*4)++xs) (i:=(i+1)*4) (by simp[hxl,hA];omega)];exact List.take_left' (by simp[hxl,hcl];omega)
def zT (w:aw)(cs xs:ay)(g n c i vb:Nat)(Vq:aq)(hb:w.heap[g]?=some (.cells Vq 249 (0,0)))(hcs:Vq.toList.take (n*4)=cs)(hcl:cs.length=n*4)(h1c:∀u∈cs,u.oneCell'=true)(hi:i<n)(hn:n<=1073741824)(hroom:c<n+1)(hc:n<=c)(hv:dX w vb xs.toArray 249)(hxl:xs.length=4)(h1v:∀u∈xs,u.oneCell'=true):
  Calls prog 346 #[U9 g n c,aa i,U9 vb 1 1] w (BS w (U9 g n c) (n+1) (cs.take (i*4)++xs++cs.drop (i*4))):=by
 obtain rfl:c=n:=Vc;have hu:prog.underlying 181=some (.slice 249):=underlying181;have⟨i0,VA,VH,VT,VU⟩:=info_parts uy;have VB:(prog.info? 249).map (·.size)=some 4:=by rw[VA];simp[VT]
 have Wd:g<w.heap.size:=dX.lt hb;have We:vb<w.heap.size:=hv.lt;have Vw:(cs.drop (i*4)).length=(c-i)*4:=by rw[List.length_drop,hcl];omega
 have Vt:∀(W:aw),W.heap[g]?=w.heap[g]?->∀j v,cs[j]?=some v->W.cell? (aj g j)=some v:=λW hW j v hj=>by
  rw[bC (w:=w) (by exact hW),cell_of_row w g _ Vq _ _ hb,<-bO]
  have VG:j<c*4:=by
   rw[<-hcl];by_cases q:j<cs.length;.exact q
   .rw[bf Vc]at hj;cases hj
  rw[<-hcs,cB VG]at hj;exact hj
 have hold:(Builtin.firstCells i0.size i (U9 g i c)).run prog w.drew= .ok (cs.take (i*4)).toArray w.drew:=by
  rw[VT]
  exact run_firstCells_some w.drew 4 i (aj g 0) i c (cs.take (i*4)) (by rw[bM];omega) (λj v hj=>by
   rw[Addr.add_lit,Nat.zero_add];rw[List.getElem?_take]at hj;split at hj;.exact Vt _ rfl j v hj
   .cases hj)
 obtain⟨G,HG⟩:∃G,Hid (G=grownCap w (c+1) c 249):=⟨_,rfl⟩;obtain⟨Z,HZ⟩:∃Z:aq,Hid (Z=Builtin.zeroCells (Value.agg #[aa 0,ai,ai,.map none]).cells (c+1-i)):=⟨_,rfl⟩;obtain⟨Y,HY⟩:∃Y:aq,Hid (Y=Builtin.zeroCells (Value.agg #[aa 0,ai,ai,.map none]).cells (G-(c+1))):=⟨_,rfl⟩;obtain⟨Vr,Vz⟩:∃R:aq,Hid (R=(cs.take (i*4)).toArray++Z++Y):=⟨_,rfl⟩;have Wf:Z.size=(c+1-i)*4:=by rw[HZ.o];simp[Builtin.zeroCells,Value.cells]
 have Wh:c+1<=G:=by rw[HG.o];exact grownCap_ge w _ _ _
 have Wk:G<=maxLen:=by rw[HG.o];exact grownCap_le_maxLen w _ _ _ Vj
 have Wl:Y.size=(G-(c+1))*4:=by rw[HY.o];simp[Builtin.zeroCells,Value.cells]
 have VJ:Vr.size=G*4:=by rw[Vz.o];simp[Wf,Wl,hcl];omega
 have VQ:∀ty,(Builtin.append_ #[181,3] ty #[U9 g i c,aa ((c:Int)+1-(i:Int))]).run prog w=
   .ok (U9 w.heap.size (c+1) G) (w.drew.alloc (.cells Vr 249)):=λty=>by
  have h:=Lib.run_append_grow_zeros w 181 3 ty 249 i0 _ .i64 .i64 hu underlying3 VA VH (some (aj g 0)) i c (cs.take (i*4)) hold (c+1-i) Vc Vc Vc Vc (by rw[VU];omega) (by rw[VU,show i+(c+1-i)=c+1 by omega];exact growslice_fits hroom Vc);rw[show i+(c+1-i)=c+1 by omega,<-HG.o,<-HY.o,<-HZ.o,<-Vz.o]at h;rw[show(c:Int)+1-(i:Int)=((c+1-i:Nat):Int)by omega];exact h
 obtain⟨Vp,VM⟩:∃r:aq,Hid (r=(Vr.toList.take (i*4)++xs++Vr.toList.drop (i*4+xs.length)).toArray):=⟨_,rfl⟩;have Vx:Vp.size=Vr.size:=by rw[VM.o];simp[hxl,VJ];omega
 have VE:∀(W:aw) ty dc,W.heap[w.heap.size]?=some (.cells Vr 249 (0,0))->W.heap[vb]?=w.heap[vb]?->(Builtin.copy_ #[181,181] ty #[.slice (some (aj w.heap.size (i*4))) (c+1-i) dc,U9 vb 1 1]).run prog W= .ok (goInt (Nat.min 1 (c+1-i))) (W.setRow w.heap.size Vp):=λW ty dc hW hV=>by
  rw[VM.o];exact lS W _ _ ty 249 4 w.heap.size (i*4) (c+1-i) dc (aj vb 0) 1 1 Vr 249 xs hu VB hW (by rw[hxl];simp only[Nat.min_def];split<;>omega) (λj u hu=>bz (hV.J hv) j u (by simpa using hu)) Vc h1v
 obtain⟨Vs,VN⟩:∃r:aq,Hid (r=(Vp.toList.take ((i+1)*4)++cs.drop (i*4)++Vp.toList.drop ((i+1)*4+(cs.drop (i*4)).length)).toArray):=⟨_,rfl⟩
 have VK:∀(W:aw) ty dc sc,W.heap[w.heap.size]?=some (.cells Vp 249 (0,0))->W.heap[g]?=w.heap[g]?->(Builtin.copy_ #[181,181] ty #[.slice (some (aj w.heap.size ((i+1)*4))) (c-i) dc,.slice (some (aj g (i*4))) (c-i) sc]).run prog W= .ok (goInt (Nat.min (c-i) (c-i))) (W.setRow w.heap.size Vs):=λW ty dc sc hW hV=>by
  rw[VN.o]
  exact lS W _ _ ty 249 4 w.heap.size ((i+1)*4) (c-i) dc (aj g (i*4)) (c-i) sc Vp 249 (cs.drop (i*4)) hu VB hW (by rw[Vw];simp only[Nat.min_def];split<;>omega) (λj v hj=>by
   rw[Addr.add_lit];rw[dH]at hj
   exact Vt W hV _ v hj) (by rw[Vw,Vx,VJ];omega) (λv hv=>h1c v (cG hv))
 have E0:(w.alloc (.cells Vr 249)).drew.heap[w.heap.size]?=some (.cells Vr 249 (0,0)):=heap_alloc_new w.drew _;have Wm:(w.alloc (.cells Vr 249)).drew.heap[vb]?=w.heap[vb]?:=Below.l w.drew _ vb We;have Wn:(w.alloc (.cells Vr 249)).drew.heap[g]?=w.heap[g]?:=Below.l w.drew _ g Wd;have E1:((w.alloc (.cells Vr 249)).drew.setRow w.heap.size Vp).heap[w.heap.size]?=some (.cells Vp 249 (0,0)):=setRow_heap _ _ _ _ _ _ E0;have Wo:((w.alloc (.cells Vr 249)).drew.setRow w.heap.size Vp).heap[g]?=w.heap[g]?:=(setRow_other _ _ _ _ Vc).J Wn;have VD:¬((i:Int)=(c:Int)):=Vc;have hz3:(c:Int)<(c:Int)+1:=Vc;have VX:IntKind.i64.wrap ((i:Int)+1)=(i:Int)+1:=by rw[IntKind.wrap_i64];omega
 have VY:IntKind.i64.wrap ((c:Int)+1)=(c:Int)+1:=by rw[IntKind.wrap_i64];omega
 have hw3:IntKind.i64.wrap ((c:Int)+1-(i:Int))=(c:Int)+1-(i:Int):=by rw[IntKind.wrap_i64];omega
 have mixed:prog.follows Departure.mixedOrders=true:=Vh;have VZ:(0:Int)<=(i:Int)+1:=Vc;have V0:i<=c:=Vc;have V7:((i:Int)+1).toNat=i+1:=Vc;have hGi:¬(G=i):=Vc;have hGim:¬(G=i+1):=Vc;have hci:¬(c=i):=Vc;have V8:(i:Int)<=(c:Int):=Vc;have hc1:c+1-(i+1)=c-i:=Vc;go_in
 have Wp:Hid (∀ty,(Builtin.append_ #[181,3] ty #[U9 g i c,aa ((c:Int)+1-(i:Int))]).run prog w= .ok (U9 w.heap.size (c+1) G) ((w.alloc (.cells Vr 249)).drew)):=VQ;clear VQ Vt hold;have Wq:=λty dc=>VE (w.alloc (.cells Vr 249)).drew ty dc E0 Wm
 clear VE;go_wp2_with (at_builtin;(first|(refine Lib.wpList_append_run _ rfl _ _ _ _ rfl _ _ rfl rfl _ _ (Wp.o _) ?_)|(refine wpList_copy_runI _ rfl _ _ 181 181 rfl _ _ rfl rfl (Wq _ _) ?_)))
 have E2:(((w.alloc (.cells Vr 249)).drew.setRow w.heap.size Vp).drew).heap[w.heap.size]?=some (.cells Vp 249 (0,0)):=E1;have Ws:(((w.alloc (.cells Vr 249)).drew.setRow w.heap.size Vp).drew).heap[g]?=w.heap[g]?:=Wo;go_region_law_o (refine step_copy_runI rfl _ _ 181 181 rfl (.slice (some (aj w.heap.size ((i+1)*4))) (c-i) (G-(i+1))) (.slice (some (aj g (i*4))) (c-i) (c-i)) (by simp[Act.eval,Act.put]) (by simp[Act.eval,Act.put]) (VK _ _ _ _ E2 Ws) ?_)
 go_wp2;go_ret
 have G1:w.grownBy ((((w.alloc (.cells Vr 249)).drew.setRow w.heap.size Vp).drew).setRow w.heap.size Vs) (some g):=by
  have G0:w.grownBy ((w.alloc (.cells Vr 249)).drew) (some g):=⟨rfl,rfl,rfl,Vd,λk hk _=>Below.l w _ k hk⟩;have G2:w.grownBy (((w.alloc (.cells Vr 249)).drew.setRow w.heap.size Vp).drew) (some g):=jX (cs:=Vp) G0 (.inr (aE _))|>λq=>⟨q.os,q.tape,q.output,q.size,q.block⟩
  exact jX G2 (.inr (aE _))
 have hh:=setRow_heap _ w.heap.size _ Vs _ _ E2;refine⟨w.heap.size,G,rfl,⟨?_,.inr ⟨w.heap.size,G,Vs,rfl,aP _,hh,Wh,Wk,?_,?_⟩⟩,G1,.inr (aE _)⟩;.simp[hxl,hcl];omega
 .rw[VN.o];simp[Vw,Vx,VJ];omega
 .have Wt:Vr.toList=cs.take (i*4)++Z.toList++Y.toList:=by rw[Vz.o];simp
  rw[VN.o,VM.o,Wt];exact KU cs xs Z.toList Y.toList c i hcl hxl hi
def KX (l:List gF)(i:Nat)(x:gF):(l.flatMap et).take (i*4)++et x++(l.flatMap et).drop (i*4)=(l.take i++x::l.drop i).flatMap et:=by
 have h:∀(l:List gF) (i:Nat),(l.flatMap et).take (i*4)=(l.take i).flatMap et/\(l.flatMap et).drop (i*4)=(l.drop i).flatMap et:=by
  intro l
  induction l with
  |nil=>intro i;simp
  |cons y l ih=>
   intro i
   cases i with
   |zero=>simp
   |succ i=>
    have⟨h1,h2⟩:=ih i;constructor;.rw[bt,cX,bt,<-h1,show(i+1)*4=(et y).length+i*4 by rw[gw];omega,List.take_append,ch Vc];congr 2;omega
    .rw[bt,List.drop_succ_cons,<-h2,show(i+1)*4=(et y).length+i*4 by rw[gw];omega,List.drop_append,cu Vc];simp
 have⟨h1,h2⟩:=h l i;rw[h1,h2];simp
def KZ (w:aw)(v:Value)(l:List gF)(i:Nat)(x:gF)(vb:Nat)(hrow:w.ownsRow 0 249 4 v l.length (l.flatMap et))(h1:∀u∈l.flatMap et,u.oneCell'=true)(hi:i<=l.length)(hl:l.length<=1073741824)(hv:dX w vb (et x).toArray 249)(hx:∀u∈et x,u.oneCell'=true)(hvb:v.ownBlock≠some vb):
  U8 346 #[v,aa i,U9 vb 1 1] w (BS w v (l.length+1) ((l.take i++x::l.drop i).flatMap et)):=by
 rw[<-KX];by_cases he:i=l.length;.subst he;have:=BT w v (l.flatMap et) (et x) l.length vb hrow hl hv rfl hx;have e1:(l.flatMap et).take (l.length*4)=l.flatMap et:=ch (by rw[hrow.1];exact aE _);have e2:(l.flatMap et).drop (l.length*4)= []:=cu (by rw[hrow.1];exact aE _);rw[e1,e2,bW];exact this
 .rcases hrow.2 with⟨rfl,h0⟩|⟨g,cap,Vq,rfl,hg,hb,hn,hm,hs,ht⟩;.omega
  .have Wu:vb≠g:=λe=>hvb (by rw[e];rfl)
   by_cases hr:l.length+1<=cap;.exact zS w _ (et x) g l.length cap i vb Vq hb hs ht hrow.1 h1 Vc hl hr hm hv rfl hx Wu
   .exact zT w _ (et x) g l.length cap i vb Vq hb ht hrow.1 h1 Vc hl Vc hn hv rfl hx
section
open Vo
section
variable {w:aw} {c db i:Nat} {x:gF} {l:List gF}
theorem mj {T:TypeId}{k n g o:Nat}{xs:ay}(h:w.ownsRow 0 T k (U9 g n c) n xs)(v:Value)(_ho:o<n*k):
  (w.setCell (aj g o) v).ownsRow 0 T k (U9 g n c) n (xs.set o v):=by
 rcases h.2 with⟨h1,_⟩|⟨g',cap,Vy,h1,h2,h3,h4,h5,h6,h7⟩;.cases h1
 .cases h1;have hb:dX w g Vy T:=h3;refine⟨by simpa using h.1,.inr ⟨g,c,Vy.setIfInBounds o v,rfl,h2,hb.set o v,h4,h5,by simpa using h6,?_⟩⟩;rw[<-h7,Array.toList_setIfInBounds,List.take_set]
def qp (x:gF):Prop:=(∃a n c,x.2.1= .slice a n c)/\(∃a n c,x.2.2.1= .slice a n c)/\∃o,x.2.2.2= .map o
theorem qp.one (h:qp x):x.2.1.oneCell'=true/\x.2.2.1.oneCell'=true/\x.2.2.2.oneCell'=true:=by
 obtain⟨⟨a,n,c,h1⟩,⟨a',n',c',h2⟩,o,h3⟩:=h;rw[h1,h2,h3];exact⟨rfl,rfl,rfl⟩
theorem qp.new (n:Int):qp (n,ai,ai,.map none):=⟨⟨_,_,_,rfl⟩,⟨_,_,_,rfl⟩,_,rfl⟩
structure DN (w:aw)(db:Nat)(sv uv:Value)(l:List gF):Prop where
 blk:dX w db #[sv,uv] 183
 row:w.ownsRow 0 249 4 sv l.length (l.flatMap et)
 form:∀x∈l,qp x
 srt:l.Pairwise (λa b=>a.1<b.1)
 ne:sv.ownBlock≠some db
 len:l.length<=1073741824
theorem DN.O {w':aw}{sv uv:Value}(h:DN w db sv uv l)(h1:w'.heap[db]?=w.heap[db]?)(h2:∀b,sv.ownBlock=some b->w'.heap[b]?=w.heap[b]?):DN w' db sv uv l:=
 ⟨h1.J h.blk,ew h.row h2,h.form,h.srt,h.ne,h.len⟩
theorem DN.G {w':aw}{sv uv:Value}(h:DN w db sv uv l)(hb:ak w w'):DN w' db sv uv l:=
 h.O (hb.block _ h.blk.lt) (λb e=>hb.block b (h.row.lt b e).2)
theorem Hg (w:aw)(db:Nat)(sv uv:Value)(l:List gF)(n:Int)(h:DN w db sv uv l):
  Calls prog 345 #[ah db,aa n] w λe w'=>wH (l.map (·.1)) n e/\ak w w':=by
 have hS:=KJ w sv l n 0 h.row (λx hx=>(h.form x hx).one) (h.srt.imp (λh=>Int.le_of_lt h)) h.len;have⟨k1,k2⟩:=h.blk.I;obtain⟨a,m,c,rfl⟩:=d5 h.row;go_in
 go_wp2_with fail;refine hS.V ?_;rintro e w' ⟨⟨i,rfl,h1,h2,h3⟩,hb⟩;go_wp2;go_ret2;exact⟨⟨i,rfl,h1,h2,h3⟩,hb⟩
def wJ (w:aw)(db:Nat)(sv uv:Value)(l:List gF)(n:Int)(e:Ending)(w':aw):Prop:=
 ∃g c pre x post,e= .returned (.pointer (some (aj g (pre.length*4))))/\DN w' db (.slice (some (aj g 0)) (pre++x::post).length c) uv (pre++x::post)/\x.1=n/\
  ((l=pre++x::post/\sv= .slice (some (aj g 0)) (pre++x::post).length c)\/(l=pre++post/\x=(n,ai,ai,.map none)))/\ec (db::sv.ownBlock.toList) w w'/\(sv.ownBlock=some g\/w.heap.size<=g)
theorem vt (h:x.2.1.oneCell'=true/\x.2.2.1.oneCell'=true/\x.2.2.2.oneCell'=true):∀u∈et x,u.oneCell'=true:=by
 intro u hu;simp[et]at hu;rcases hu with rfl|rfl|rfl|rfl;.rfl
 .exact h.1
 .exact h.2.1
 .exact h.2.2
theorem FB {n:Int}(hx:x.1=n)(hs:l.Pairwise (λa b=>a.1<b.1))(h1:∀k y,(l.map (·.1))[k]?=some y->k<i->y<n)(h2:∀k y,(l.map (·.1))[k]?=some y->i<=k->n<=y)(h3:(l.map (·.1))[i]?≠some n):
  (l.take i++x::l.drop i).Pairwise (λa b=>a.1<b.1):=by
 have hd:∀y∈l.drop i,n<y.1:=by
  intro y hy;have⟨j,hj⟩:=bY.1 hy;rw[dH]at hj;have q:=h2 (i+j) y.1 (by rw[aT,hj];rfl) Vc;by_cases e:y.1=n
  .exfalso;apply h3
   cases j with
   |zero=>rw[aT,show i=i+0 by omega,hj];simp[e]
   |succ j=>
    have Vv:i+(j+1)<l.length:=by
     by_cases q:i+(j+1)<l.length;.exact q
     .rw[bf Vc]at hj;cases hj
    have q2:=h2 i (l[i]'Vc).1 (by rw[aT,aO Vc];rfl) (aE _);rw[bV]at hs;have q3:=hs i (i+(j+1)) Vc Vv Vc;rw[aO Vv]at hj;rw[Option.some.inj hj]at q3;omega
  .omega
 have ht:∀y∈l.take i,y.1<n:=by
  intro y hy;have⟨j,hj⟩:=bY.1 hy
  have Vw:j<i:=by
   by_cases q:j<i;.exact q
   .rw[bf (by rw[bM];omega)]at hj;cases hj
  rw[cB Vw]at hj;exact h1 j y.1 (by rw[aT,hj];rfl) Vw
 rw[ck];refine⟨hs.sublist (List.take_sublist _ _),bu.2 ⟨λy hy=>by rw[hx];exact hd y hy,hs.sublist (List.drop_sublist _ _)⟩,?_⟩;intro a ha b hb;rcases aS.1 hb with rfl|hb;.rw[hx];exact ht a ha
 .have:=ht a ha;have:=hd b hb;omega
theorem uz (w:aw)(db:Nat)(sv uv:Value)(l:List gF)(n:Int)(h:DN w db sv uv l)(hl:l.length<1073741824):
  Calls prog 266 #[ah db,aa n] w (wJ w db sv uv l n):=by
 have hF:=Hg w db sv uv l n h;obtain⟨a,c,rfl⟩:=iz h.row;go_in
 go_wp2_with fail;refine hF.V ?_;rintro e w1 ⟨⟨i,rfl,h1,h2,h3⟩,hb⟩;rw[bN]at h1;have D1:=h.G hb;by_cases hin:(l.map (·.1))[i]?=some n
 .have hd:decide ((l.map (·.1))[i]?=some n)=true:=decide_eq_true hin;rw[hd];rw[aT]at hin;have⟨x,hx,VF⟩:=bi.1 hin;have VA:=gl hx;obtain⟨g,rfl,_,Vr,_⟩:=eH h.row Vc;have⟨k1,k2⟩:=D1.blk.I;have VB:i<=l.length:=Vc;have HL:Hid (l=l.take i++x::l.drop (i+1)):=(by show l=_;have:=bn.1 hx;obtain⟨hh,rfl⟩:=this;simp);have HT:Hid ((l.take i).length=i):=by show(l.take i).length=i;rw[bM];omega
  have VC:decide ((i:Int)<(l.length:Int))=true:=by simpa using VA
  clear hx hin hd;go_wp2;go_ret;refine⟨g,c,l.take i,x,l.drop (i+1),by rw[HT.o];rfl,?_,VF,.inl ⟨HL.o,by rw[<-HL.o]⟩,ec.oB hb,.inl rfl⟩;rw[<-HL.o];exact D1
 .have hd:decide ((l.map (·.1))[i]?=some n)=false:=decide_eq_false hin;rw[hd];have⟨k1,k2⟩:=D1.blk.I;have hwl:w.heap.size<=w1.heap.size:=hb.size;have HB:dX (w1.U5 #[aa n,ai,ai,.map none] 249) w1.heap.size (et (n,ai,ai,.map none)).toArray 249:=dX.new w1 _ _;have D2:=D1.G ((Va w1).alloc (aE _) (am #[aa n,ai,ai,.map none] 249));have VD:(Value.slice a l.length c).ownBlock≠some w1.heap.size:=λe=>by have:=(D1.row.lt _ e).2;omega
  have hI:=KZ _ (.slice a l.length c) l i (n,ai,ai,.map none) w1.heap.size D2.row (λu hu=>by
   have⟨x,hx,hu⟩:=List.mem_flatMap.1 hu
   exact vt (h.form x hx).one u hu) h1 Vc HB (vt ⟨rfl,rfl,rfl⟩) VD
  have VE:Hid (((l.map (·.1))[i]?=some n)->False):=hin;clear hin hd;go_wp2_with fail;refine hI.V ?_;rintro e w2 ⟨g,cap,rfl,Vu,Vp,Vz⟩;have K2:ec (db::(Value.slice a l.length c).ownBlock.toList) w w2:=(by have e1:ec (db::(Value.slice a l.length c).ownBlock.toList) w (w1.U5 #[aa n,ai,ai,.map none] 249):=(ec.oB hb).alloc _;refine e1.J ⟨Vp.os,Vp.tape,Vp.output,Vp.size,λk hk Vs=>Vp.block k hk (λe=>Vs ?_)⟩;rw[<-e];simp);have hdl:db<w1.heap.size:=D1.blk.lt;have B2:dX w2 db #[.slice a l.length c,uv] 183:=(Vp.block db Ve (λe=>h.ne e.sy)).J D2.blk
  have Vx:db≠g:=by
   rcases Vz with q|q;.exact λe=>h.ne (by rw[e];exact q)
   .simp at q;omega
  have Vr:(Value.slice a l.length c).ownBlock=some g\/w.heap.size<=g:=Vz.imp id (λq=>by simp at q;omega);have⟨y1,y2⟩:=B2.I;have⟨z1,z2⟩:=(B2.set 0 (U9 g (l.length+1) cap)).I;have HT:Hid ((l.take i).length=i):=by show(l.take i).length=i;rw[bM];omega
  have Vt:Hid ((l.take i++(n,Value.slice none 0 0,Value.slice none 0 0,Value.map none)::l.drop i).length=l.length+1):=by show List.length _=_;simp;omega
  have VC:decide ((i:Int)<(l.length:Int)+1)=true:=Ve;have VB:i<=l.length:=h1;go_wp2;go_ret;refine⟨g,cap,l.take i,(n,ai,ai,.map none),l.drop i,by rw[HT.o];rfl,?_,rfl,.inr ⟨(ca i l).sy,rfl⟩,?_,Vr⟩
  .rw[Vt.o];refine⟨B2.set 0 _,?_,?_,FB rfl h.srt h2 h3 VE.o,λe=>Vx (by simpa [Value.ownBlock]using e.sy),by rw[Vt.o];omega⟩
   .rw[Vt.o];refine ew Vu λb hb=> ?_
    obtain rfl:g=b:=by simpa [Value.ownBlock]using hb
    rw[dW,dO (λe=>Vx e)]
   .intro x hx;simp only[aW,aS]at hx;rcases hx with hx|rfl|hx;.exact h.form x (List.mem_of_mem_take hx)
    .exact qp.new n
    .exact h.form x (cG hx)
  .exact⟨K2.os,K2.tape,K2.output,by simpa using K2.size,λk hk Vs=>by
    rw[dW,dO (λe=>Vs (by simp[e]))]
    exact K2.block k hk Vs⟩
theorem sj {a:aC}(hrow:w.ownsRow 0 249 4 (.slice a l.length c) l.length (l.flatMap et))(hx:l[i]?=some x):
  ∃g,a=some (aj g 0)/\g<w.heap.size/\∀w':aw,w'.heap[g]?=w.heap[g]?->w'.cell? (aj g (i*4))=some (aa x.1)/\w'.cell? (aj g (i*4+1))=some x.2.1/\w'.cell? (aj g (i*4+2))=some x.2.2.1/\w'.cell? (aj g (i*4+3))=some x.2.2.2:=by
 have hi:=gl hx;obtain⟨g,rfl,_,Vr,Vq⟩:=eH hrow Vc;have hf:=λj hj=>fY et 4 gw l i x hx j hj
 refine⟨g,rfl,Vr,λw' hw=>⟨?_,?_,?_,?_⟩⟩;.exact Vq w' hw _ _ ((hf 0 Vc).J rfl)
 .exact Vq w' hw _ _ ((hf 1 Vc).J rfl)
 .exact Vq w' hw _ _ ((hf 2 Vc).J rfl)
 .exact Vq w' hw _ _ ((hf 3 Vc).J rfl)
end
end
end Go.Proofs.YtfebdimolnobaaaGreatDoor
