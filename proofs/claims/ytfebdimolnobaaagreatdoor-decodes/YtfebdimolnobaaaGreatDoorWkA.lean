import Derived.Test.YtfebdimolnobaaaGreatDoorBuD
import Derived.Test.YtfebdimolnobaaaGreatDoorCkH
import Derived.Laws.EntriesVeiled
set_option maxRecDepth 100000
set_option maxHeartbeats 8000000
set_option linter.all false
namespace Go.Proofs.YtfebdimolnobaaaGreatDoor
open Go.RowKit Go.Proofs.Tryz
section
open Tq
def jf (k:Nat):Bool:=decide (k<=12)||decide (k=15)
def tP (k:Nat):Bool:=decide (k=0)||decide (k=1)||decide (k=4)||decide (k=5)||decide (k=9)||decide (k=10)||decide (k=15)
def En (w:aw)(k:Nat)(pv:Value)(b:k<=16):Calls prog 283 #[.agg #[aa k,pv]] w λe w'=>e= .returned (Value.bool (jf k))/\aj w w':=by
 have a:∀o,aj w (w.alloc o):=λo=>(Tb w).alloc (aD _) o
 rcases(show k=0\/k=1\/k=2\/k=3\/k=4\/k=5\/k=6\/k=7\/k=8\/k=9\/k=10\/k=11\/k=12\/k=13\/k=14\/k=15\/k=16 from by omega)with rfl|rfl|rfl|rfl|rfl|rfl|rfl|rfl|rfl|rfl|rfl|rfl|rfl|rfl|rfl|rfl|rfl
 all_goals
  go_in
  go_wp2;go_ret;exact⟨rfl,a _⟩
def rP (w:aw)(k:Nat)(pv:Value)(b:k<=16):Calls prog 189 #[.agg #[aa k,pv]] w λe w'=>e= .returned (Value.bool (tP k))/\aj w w':=by
 have a:∀o,aj w (w.alloc o):=λo=>(Tb w).alloc (aD _) o
 rcases(show k=0\/k=1\/k=2\/k=3\/k=4\/k=5\/k=6\/k=7\/k=8\/k=9\/k=10\/k=11\/k=12\/k=13\/k=14\/k=15\/k=16 from by omega)with rfl|rfl|rfl|rfl|rfl|rfl|rfl|rfl|rfl|rfl|rfl|rfl|rfl|rfl|rfl|rfl|rfl
 all_goals
  go_in
  go_wp2;go_ret;exact⟨rfl,a _⟩
def rQ (w:aw)(k:Nat)(pv:Value)(b:k<=16):Calls prog 208 #[.agg #[aa k,pv]] w λe w'=>e= .returned (Value.int .i64 (ed k))/\aj w w':=by
 have a:∀o,aj w (w.alloc o):=λo=>(Tb w).alloc (aD _) o
 rcases(show k=0\/k=1\/k=2\/k=3\/k=4\/k=5\/k=6\/k=7\/k=8\/k=9\/k=10\/k=11\/k=12\/k=13\/k=14\/k=15\/k=16 from by omega)with rfl|rfl|rfl|rfl|rfl|rfl|rfl|rfl|rfl|rfl|rfl|rfl|rfl|rfl|rfl|rfl|rfl
 all_goals
  go_in
  go_wp2;go_ret;exact⟨rfl,a _⟩
def Eo (a:Nat)(x n:Int)(w:aw)(d:w.cell? (ai a 0)=some (aa x)):
  Calls prog 236 #[ag a,aa n] w λe w'=>e= .returned (aa (kI x n))/\w'=w:=by
 have b:=qA x n;generalize kI x n=c at b⊢;go_in
 go_wp2_with fail;refine(b _).V ?_;rintro e w' ⟨rfl,rfl⟩;go_wp2;go_ret;exact⟨rfl,rfl⟩
def Jn {α:Type}{f:α->Int}{l:List α}(k:l.Pairwise λa b=>f a<=f b)(i j:Nat)(x y:α)(d:l[i]?=some x)(c:l[j]?=some y)(m:i<=j):f x<=f y:=by
 by_cases e:i=j;.subst e;rw[d]at c;obtain rfl:=Option.some.inj c;exact Int.le_refl _
 .rw[cj]at k;have g:=gl d;have h:=gl c;have:=k i j g h Te;rw[aP g]at d;rw[aP h]at c;rw[<-Option.some.inj d,<-Option.some.inj c];exact this
def Jo {i j h:Nat}(b:(i+j)/2=h)(a:i+j<9223372036854775808):IntKind.u64.wrap ((i:Int)+(j:Int))=(i:Int)+(j:Int)/\((i:Int)+(j:Int))/2=(h:Int)/\IntKind.i64.wrap (h:Int)=(h:Int):=
 ⟨gL Te Te,Te,by simp[IntKind.wrap,IntKind.bits,IntKind.signed];omega⟩
def O8 (x t:Int):(kI x t==0)=decide (x=t):=by
 rw[bV];unfold kI;by_cases q1:x<t;.simp[q1];omega
 .by_cases q2:t<x;.simp[q1,q2];omega
  .simp[q1,q2];omega
def vQ (N:ar)(t:Int)(e:Ending):Prop:=
 ∃i:Nat,e= .returned (.tuple #[aa i,.bool (decide (N[i]?=some t))])/\i<=N.length/\(∀k x,N[k]?=some x->k<i->x<t)/\(∀k x,N[k]?=some x->i<=k->t<=x)
def Jp (w:aw)(v:Value)(l:List (Int×Nat))(t:Int)(lo:Nat)(m:w.ownsRow lo 212 1 v l.length (fh (l.map (·.2))))(K:∀x∈l,w.cell? (ai x.2 0)=some (aa x.1))(N:l.Pairwise (λa b=>a.1<=b.1))(Y:l.length<=2001):
  Calls prog 235 #[v,aa t,.func (.func 236) #[] #[]] w λe w'=>vQ (l.map (·.1)) t e/\w'=w:=by
 obtain⟨a,c,rfl⟩:=ig m;have G:Hid (∀(i j:Nat) (x y:Int×Nat),l[i]?=some x->l[j]?=some y->i<=j->x.1<=y.1):=Jn N
 have p:Hid (∀i x,l[i]?=some x->∃g,a=some (ai g 0)/\w.cell? (ai g i)=some (ag x.2)/\w.cell? (ai x.2 0)=some (aa x.1)):=λi x d=>by
  have X:=gl d;obtain⟨g,rfl,_,_,R⟩:=dV m Te;exact⟨g,rfl,R w rfl i _ (by simp[fh,d,gR]),K x (aO d)⟩
 clear N K m;go_in
 go_wp2;go_loopw [9,10] (λE F wr=>∃(i j:Nat),i<=j/\j<=l.length/\E=aa i/\F=aa j/\Hid (∀k x,l[k]?=some x->k<i->x.1<t)/\Hid (∀k x,l[k]?=some x->j<=k->t<=x.1)/\w=wr) (λE F _=>((intOf F)-(intOf E)).toNat)
 case atStart=>exact⟨0,l.length,aM _,aD _,rfl,rfl,(λk x _ h=>Te),(λk x d h=>by rw[bi Te]at d;cases d),rfl⟩
 case round=>
  obtain⟨i,j,H,C,rfl,rfl,A,r,rfl⟩:=hrel;by_cases Tz:i<j
  .obtain⟨h,D⟩:=Td ((i+j)/2);have O:h<l.length:=Te;have P:i<=h:=Te;have S:h<j:=Te;have⟨x,d⟩:=gx O;obtain⟨g,rfl,Q,u⟩:=p.o h x d;have⟨V,L,W⟩:=Jo D Te;by_cases Tw:x.1<t
   .have J:decide (kI x.1 t<0)=true:=by simp[nC,Tw]
    have s:Hid (l[h]?=some x):=d;clear D d p;go_wp2_with fail;refine(Eo x.2 x.1 t _ u).V ?_;rintro e w2 ⟨rfl,rfl⟩;go_wp2;go_roundw
    case rel=>exact⟨h+1,j,Te,C,rfl,rfl,(λk y f n=>Int.lt_of_le_of_lt (G.o k h y x f s.o Te) Tw),r,trivial⟩
    case measure=>simp[intOf];omega
   .have J:decide (kI x.1 t<0)=false:=decide_eq_false (λq=>Tw ((nC _ _).1 q));have s:Hid (l[h]?=some x):=d;clear D d p;go_wp2_with fail;refine(Eo x.2 x.1 t _ u).V ?_;rintro e w2 ⟨rfl,rfl⟩;go_wp2;go_roundw
    case rel=>exact⟨i,h,P,Te,rfl,rfl,A,(λk y f n=>Int.le_trans Te (G.o h k x y s.o f n)),trivial⟩
    case measure=>simp[intOf];omega
  .obtain rfl:i=j:=Te;have T:decide ((i:Int)<(i:Int))=false:=Tf;by_cases Tt:i<l.length
   .have⟨x,d⟩:=gx Tt;obtain⟨g,rfl,Q,u⟩:=p.o i x d;have s:Hid (l[i]?=some x):=d;have U:=r.o i x d (aD _);have J:(kI x.1 t==0)=decide (x.1=t):=O8 _ _;have I:decide ((l.map (·.1))[i]?=some t)=decide (x.1=t):=by rw[aT,d];simp
    have B:Hid (decide ((l.map (·.1))[i]?=some t)=decide (x.1=t)):=I;clear d p I Tz H;go_wp2_with fail;refine(Eo x.2 x.1 t _ u).V ?_;rintro e w2 ⟨rfl,rfl⟩;go_wp2;go_ret2;refine⟨⟨i,by rw[B.o];rfl,by simpa using C,?_,?_⟩,rfl⟩;.intro k y f n;rw[aT]at f;obtain⟨z,o,rfl⟩:=bg.1 f;exact A.o k z o n
    .intro k y f n;rw[aT]at f;obtain⟨z,o,rfl⟩:=bg.1 f;exact r.o k z o n
   .have M:decide ((i:Int)<(l.length:Int))=false:=Tg
    have B:Hid (decide ((l.map (·.1))[i]?=some t)=false):=by
     show decide ((l.map (·.1))[i]?=some t)=false;rw[bi (by rw[bm];omega)];simp
    clear p Tz H;go_wp2;go_ret2;refine⟨⟨i,by rw[B.o];rfl,by simpa using C,?_,?_⟩,rfl⟩;.intro k y f n;rw[aT]at f;obtain⟨z,o,rfl⟩:=bg.1 f;exact A.o k z o n
    .intro k y f n;rw[aT]at f;obtain⟨z,o,rfl⟩:=bg.1 f;exact r.o k z o n
def iI:List GF->Int->Option GF
 | [],_=>none
 |g::l,t=>if g.f.num=t then some g else iI l t
def wV:∀{gs:List GF} {t:Int} {i:Nat} {g:GF},gs[i]?=some g->g.f.num=t->(∀k x,gs[k]?=some x->k<i->x.f.num≠t)->iI gs t=some g
 | [],_,_,_,h,_,_=>by simp at h
 |y::l,t,0,g,h,e,_=>by
  simp at h;subst h
  rw[iI,dH e]
 |y::l,t,i+1,g,h,e,hn=>by
  rw[iI,dG (hn 0 y rfl Te)];exact wV (i:=i) (by simpa using h) e (λk x a b=>hn (k+1) x (by simpa using a) Te)
def oW:∀{gs:List GF} {t:Int},(∀x∈gs,x.f.num≠t)->iI gs t=none
 | [],_,_=>rfl
 |y::l,t,h=>by
  rw[iI,dG (h y co)];exact oW (λx a=>h x (cv _ a))
def Jq (w:aw)(P:ax)(mp:am)(r:Option GF)(e:Ending):Prop:=
 match r with
 |none=>e= .returned (.pointer none)
 |some g=>∃fb,e= .returned (ag fb)/\eR w P mp g fb
def AM (w:aw)(P:ax)(mp:am)(mb:Nat)(name:au)(gs:List GF)(t:Int)(h:jX w P mp mb name gs)(p:gs.Pairwise (λx y=>x.f.num<=y.f.num))(E:gs.length<=2001):
  Calls prog 153 #[ag mb,aa t] w λe w'=>Jq w P mp (iI gs t) e/\w'=w:=by
 obtain⟨N,I,K,O,l,L⟩:=h;obtain⟨z,rfl,rfl,o⟩:=L.zip;obtain⟨H,fn,J,rfl⟩:=dO l.1;obtain rfl:fn=z.length:=by have:=d9 l.1;simpa using this
 rw[bm]at E l
 have s:=Jp w (.slice H z.length J) (z.map λx=>(x.1.f.num,x.2)) t 0 (by rw[bm,bI,show((λx:Int×Nat=>x.2)∘λx:GF×Nat=>(x.1.f.num,x.2))=(λx=>x.2)from rfl];exact l.1)
  (λx a=>by obtain⟨y,c,rfl⟩:=aV.1 a;exact(o y c).cell0.1) (by rw[cn]at p⊢;exact p) (by simpa using E)
 have⟨U,V⟩:=K.I;go_in
 go_wp2_with fail;refine s.V ?_;rintro e w2 ⟨⟨i,rfl,D,f,j⟩,rfl⟩;have eN:(List.map (·.1) (z.map λx:GF×Nat=>(x.1.f.num,x.2)))=z.map (λx=>x.1.f.num):=by rw[bI];rfl
 rw[eN]at D f j⊢;rw[bm]at D;by_cases hf:(z.map (λx=>x.1.f.num))[i]?=some t
 .rw[decide_eq_true hf];rw[aT]at hf;have⟨x,a,G⟩:=bg.1 hf
  have d:iI (z.map (·.1)) t=some x.1:=wV (i:=i) (by rw[aT,a];rfl) G (λk y c b e=>by
   rw[aT]at c;obtain⟨u,v,rfl⟩:=bg.1 c;have:=f k u.1.f.num (by rw[aT,v];rfl) b
   omega)
  have m:=gl a;obtain⟨g,rfl,_,_,B⟩:=dV l.1 Te;have T:=B w2 rfl i (ag x.2) (by simp[fh,a,gR]);have M:(i:Int)<(z.length:Int):=Te;have r:Hid (iI (z.map (·.1)) t=some x.1):=d;have F:Hid (eR w2 P mp x.1 x.2):=o x (aO a);clear d B f j o s;go_wp2;go_ret;refine⟨?_,rfl⟩;rw[r.o];exact⟨x.2,rfl,F.o⟩
 .rw[decide_eq_false hf]
  have d:iI (z.map (·.1)) t=none:=oW (λy c e=>by
   obtain⟨u,v,rfl⟩:=aV.1 c;have⟨k,b⟩:=dm v;have n:(z.map (λx=>x.1.f.num))[k]?=some u.1.f.num:=by rw[aT,b];rfl
   rcases Nat.lt_or_ge k i with q|q;.have:=f k _ n q;omega
   .by_cases q2:k=i;.subst q2;rw[e]at n;exact hf n
    .have Q:=j k _ n q;have m:i<z.length:=by have:=gl b;omega
     have⟨x,a⟩:=gx m;have R:=j i x.1.f.num (by rw[aT,a];rfl) (aD _);have S:x.1.f.num<=u.1.f.num:=(by have A:=gl b;rw[cn,cj]at p;have C:=p i k m A Te;rw[aP m]at a;rw[aP A]at b;rw[Option.some.inj a,Option.some.inj b]at C;exact C)
     exact hf (by rw[aT,a];simp;omega))
  have r:Hid (iI (z.map (·.1)) t=none):=d;clear d f j o s;go_wp2;go_ret;refine⟨?_,rfl⟩;rw[r.o];rfl
abbrev gw:=Int×Value×Value×Value
def d8 (x:gw):ay:= [aa x.1,x.2.1,x.2.2.1,x.2.2.2]
def gp (x:gw):(d8 x).length=4:=rfl
def Es (x:gw)(n:Int)(w:aw):
  Calls prog 403 #[.agg #[aa x.1,x.2.1,x.2.2.1,x.2.2.2],aa n] w λe w'=>e= .returned (aa (kI x.1 n))/\aj w w':=by
 have a:=qA x.1 n;have b:∀o,aj w (w.alloc o):=λo=>(Tb w).alloc (aD _) o
 generalize kI x.1 n=c at a⊢;go_in
 go_wp2_with fail;refine(a _).V ?_;rintro e w' ⟨rfl,rfl⟩;go_wp2;go_ret;exact⟨rfl,b _⟩
def JA (w:aw)(v:Value)(l:List gw)(t:Int)(lo:Nat)(n:w.ownsRow lo 249 4 v l.length (l.flatMap d8))(h1:∀x∈l,x.2.1.oneCell'=true/\x.2.2.1.oneCell'=true/\x.2.2.2.oneCell'=true)(d:l.Pairwise (λa b=>a.1<=b.1))(c:l.length<=1073741824):
  Calls prog 402 #[v,aa t,.func (.func 403) #[] #[]] w λe w'=>vQ (l.map (·.1)) t e/\aj w w':=by
 obtain⟨a,c,rfl⟩:=ig n;have L:Hid (∀(i j:Nat) (x y:gw),l[i]?=some x->l[j]?=some y->i<=j->x.1<=y.1):=Jn d
 have K:Hid (∀(i:Nat) (x:gw),l[i]?=some x->∃g,a=some (ai g 0)/\g<w.heap.size/\∀w':aw,w'.heap[g]?=w.heap[g]?->w'.cell? (ai g (i*4))=some (aa x.1)/\w'.cell? (ai g (i*4+1))=some x.2.1/\w'.cell? (ai g (i*4+2))=some x.2.2.1/\w'.cell? (ai g (i*4+3))=some x.2.2.2):=λi x d=>by
  have c:=gl d;obtain⟨g,rfl,_,r,B⟩:=dV n Te;have C:=λj Z=>fW d8 4 gp l i x d j Z
  refine⟨g,rfl,r,λw' D=>⟨?_,?_,?_,?_⟩⟩;.exact B w' D _ _ ((C 0 Te).J rfl)
  .exact B w' D _ _ ((C 1 Te).J rfl)
  .exact B w' D _ _ ((C 2 Te).J rfl)
  .exact B w' D _ _ ((C 3 Te).J rfl)
 go_in
 go_wp2;go_loopw [9,10] (λI J wr=>∃(i j:Nat),i<=j/\j<=l.length/\I=aa i/\J=aa j/\Hid (∀(k:Nat) (x:gw),l[k]?=some x->k<i->x.1<t)/\Hid (∀(k:Nat) (x:gw),l[k]?=some x->j<=k->t<=x.1)/\aj w wr) (λI J _=>((intOf J)-(intOf I)).toNat)
 case atStart=>exact⟨0,l.length,aM _,aD _,rfl,rfl,(λk x _ h=>Te),(λk x d h=>by rw[bi Te]at d;cases d),Below.refl _ _⟩
 case round=>
  obtain⟨i,j,Y,G,rfl,rfl,E,u,p⟩:=hrel;by_cases hlt:i<j
  .obtain⟨h,W⟩:=Td ((i+j)/2);have P:h<l.length:=Te;have Q:i<=h:=Te;have X:h<j:=Te;have⟨x,d⟩:=gx P;obtain⟨g,rfl,r,H⟩:=K.o h x d;have⟨R,S,T,U⟩:=H wr (p.block g r);have⟨n,o,z⟩:=h1 x (aO d);have⟨c,N,f⟩:=Jo W Te;by_cases hxt:x.1<t
   .have M:decide (kI x.1 t<0)=true:=by simp[nC,hxt]
    have A:Hid (l[h]?=some x):=d;go_wp2_with fail;refine(Es x t _).V ?_;rintro e w2 ⟨rfl,s⟩;go_wp2;go_roundw
    case rel=>exact⟨h+1,j,Te,G,rfl,rfl,(λk y f m=>Int.lt_of_le_of_lt (L.o k h y x f A.o Te) hxt),u,eD p s⟩
    case measure=>simp[intOf];omega
   .have M:=decide_eq_false (λq=>hxt ((nC _ _).1 q));have A:Hid (l[h]?=some x):=d;go_wp2_with fail;refine(Es x t _).V ?_;rintro e w2 ⟨rfl,s⟩;go_wp2;go_roundw
    case rel=>exact⟨i,h,Q,Te,rfl,rfl,E,(λk y f m=>Int.le_trans Te (L.o h k x y A.o f m)),eD p s⟩
    case measure=>simp[intOf];omega
  .obtain rfl:i=j:=Te;have c:decide ((i:Int)<(i:Int))=false:=Tf;by_cases hil:i<l.length
   .have⟨x,d⟩:=gx hil;obtain⟨g,rfl,r,H⟩:=K.o i x d;have⟨R,S,T,U⟩:=H wr (p.block g r);have⟨n,o,z⟩:=h1 x (aO d);have A:=d;have c:=u.o i x d (aD _);have M:(kI x.1 t==0)=decide (x.1=t):=O8 _ _;have V:decide ((l.map (·.1))[i]?=some t)=decide (x.1=t):=by rw[aT,d];simp
    have F:Hid (decide ((l.map (·.1))[i]?=some t)=decide (x.1=t)):=V;go_wp2_with fail;refine(Es x t _).V ?_;rintro e w2 ⟨rfl,s⟩;go_wp2;go_ret2;refine⟨⟨i,by rw[F.o];rfl,by simpa using G,?_,?_⟩,eD p s⟩;.intro k y f m;rw[aT]at f;obtain⟨z,o,rfl⟩:=bg.1 f;exact E.o k z o m
    .intro k y f m;rw[aT]at f;obtain⟨z,o,rfl⟩:=bg.1 f;exact u.o k z o m
   .have O:decide ((i:Int)<(l.length:Int))=false:=Tg
    have F:Hid (decide ((l.map (·.1))[i]?=some t)=false):=by
     show decide ((l.map (·.1))[i]?=some t)=false;rw[bi (by rw[bm];omega)];simp
    go_wp2;go_ret2;refine⟨⟨i,by rw[F.o];rfl,by simpa using G,?_,?_⟩,p⟩;.intro k y f m;rw[aT]at f;obtain⟨z,o,rfl⟩:=bg.1 f;exact E.o k z o m
    .intro k y f m;rw[aT]at f;obtain⟨z,o,rfl⟩:=bg.1 f;exact u.o k z o m
end
section
variable {w w':aw} {P:ax} {v:Value} {fs:List fB} {sb:Nat} {S:eE}
def fI (f:fB):ay:= [ae f.name,ae f.ty,ae f.key,ae f.how,aa f.num]
theorem oY (f:fB):(fI f).length=5:=rfl
def kB (w:aw)(P:ax)(v:Value)(fs:List fB):Prop:=d5 w P 178 5 v fs.length (fs.flatMap fI)
def mE (w:aw)(P:ax):ay->List MT->Prop
 |cs,[]=>cs= []
 |cs,m::ms=>∃fv rest,cs=ae m.name::fv::rest/\kB w P fv m.fs/\mE w P rest ms
structure iE (w:aw)(P:ax)(sb:Nat)(S:eE):Prop where
 at_:∃mv ev cs,dP w sb #[mv,ev] 98/\P sb/\d5 w P 111 2 mv S.ms.length cs/\mE w P cs S.ms/\d5 w P 9 1 ev S.es.length (eh S.es)
theorem kB.O (a:∀b,P b->b<w.heap.size->w'.heap[b]?=w.heap[b]?)(h:kB w P v fs):kB w' P v fs:=d5.O h a
theorem mE.O (a:∀b,P b->b<w.heap.size->w'.heap[b]?=w.heap[b]?):∀{ms:List MT} {cs:ay},mE w P cs ms->mE w' P cs ms
 | [],_,h=>h
 |_::_,_,⟨fv,rest,h1,h2,h3⟩=>⟨fv,rest,h1,h2.O a,mE.O a h3⟩
theorem iE.O (h:iE w P sb S)(a:∀b,P b->b<w.heap.size->w'.heap[b]?=w.heap[b]?):iE w' P sb S:=by
 have⟨j,e,cs,c,d,f,g,i⟩:=h.at_;exact⟨j,e,cs,(a sb d c.lt).J c,d,f.O a,g.O a,i.O a⟩
theorem iE.G (h:iE w P sb S)(a:aj w w'):iE w' P sb S:=h.O (λb _ c=>a.block b c)
theorem kB.G (h:kB w P v fs)(a:aj w w'):kB w' P v fs:=h.O (λb _ c=>a.block b c)
theorem mE.get:∀{l:List MT} {cs:ay},mE w P cs l->∀{i:Nat} {m:MT},l[i]?=some m->
  ∃fv,kB w P fv m.fs/\cs[i*2]?=some (ae m.name)/\cs[i*2+1]?=some fv
 | [],_,_,i,v,h=>by simp at h
 |x::l,_,⟨vv,rest,h1,h2,h3⟩,0,v,h=>by
  simp at h;subst h;subst h1
  exact⟨vv,h2,rfl,rfl⟩
 |x::l,_,⟨vv,rest,h1,h2,h3⟩,i+1,v,h=>by
  have⟨a,b,c,d⟩:=h3.get (i:=i) (m:=v) (by simpa using h);subst h1;refine⟨a,b,?_,?_⟩;.rw[show(i+1)*2=i*2+2 from by omega];exact c
  .rw[show(i+1)*2+1=(i*2+1)+2 from by omega];exact d
theorem kB.form (h:kB w P v fs):∃a c,v= .slice a fs.length c:=by
 obtain⟨a,n,c,rfl⟩:=dO h.1;rw[d9 h.1];exact⟨a,c,rfl⟩
theorem kB.get {a:aC}{c:Nat}(h:kB w P (.slice a fs.length c) fs){i:Nat}{f:fB}(k:fs[i]?=some f):
  ∃g,a=some (ai g 0)/\P g/\g<w.heap.size/\∀w':aw,w'.heap[g]?=w.heap[g]?->w'.cell? (ai g (i*5))=some (ae f.name)/\w'.cell? (ai g (i*5+1))=some (ae f.ty)/\
   w'.cell? (ai g (i*5+2))=some (ae f.key)/\w'.cell? (ai g (i*5+3))=some (ae f.how)/\w'.cell? (ai g (i*5+4))=some (aa f.num):=by
 have n:=gl k;obtain⟨g,rfl,_,l,b⟩:=dV h.1 Te;have d:=λj m=>fW fI 5 oY fs i f k j m
 refine⟨g,rfl,h.2 g rfl,l,λw' e=>⟨?_,?_,?_,?_,?_⟩⟩;.exact b w' e _ _ ((d 0 Te).J rfl)
 .exact b w' e _ _ ((d 1 Te).J rfl)
 .exact b w' e _ _ ((d 2 Te).J rfl)
 .exact b w' e _ _ ((d 3 Te).J rfl)
 .exact b w' e _ _ ((d 4 Te).J rfl)
end
section
open Tq
structure tG where
 n:Int
 c1:Value
 c2:Value
 c3:Value
 c4:Value
 c5:Value
 c6:Value
 c7:Value
def iT (x:tG):ay:= [aa x.n,x.c1,x.c2,x.c3,x.c4,x.c5,x.c6,x.c7]
def uN (x:tG):(iT x).length=8:=rfl
def EU (x:tG)(n:Int)(w:aw):
  Calls prog 215 #[.agg #[aa x.n,x.c1,x.c2,x.c3,x.c4,x.c5,x.c6,x.c7],aa n] w λe w'=>e= .returned (aa (kI x.n n))/\aj w w':=by
 have a:=qA x.n n;have b:∀o,aj w (w.alloc o):=λo=>(Tb w).alloc (aD _) o
 generalize kI x.n n=c at a⊢;go_in
 go_wp2_with fail;refine(a _).V ?_;rintro e w' ⟨rfl,rfl⟩;go_wp2;go_ret;exact⟨rfl,b _⟩
def KJ (w:aw)(v:Value)(l:List tG)(t:Int)(lo:Nat)(m:w.ownsRow lo 268 8 v l.length (l.flatMap iT))(h1:∀x∈l,x.c1.oneCell'=true/\x.c2.oneCell'=true/\x.c3.oneCell'=true/\x.c4.oneCell'=true/\x.c5.oneCell'=true/\x.c6.oneCell'=true/\x.c7.oneCell'=true)(S:l.Pairwise (λa b=>a.n<=b.n))(c:l.length<=1073741824):
  Calls prog 214 #[v,aa t,.func (.func 215) #[] #[]] w λe w'=>vQ (l.map (·.n)) t e/\aj w w':=by
 obtain⟨a,c,rfl⟩:=ig m;have M:Hid (∀(i j:Nat) (x y:tG),l[i]?=some x->l[j]?=some y->i<=j->x.n<=y.n):=Jn S
 have A:Hid (∀(i:Nat) (x:tG),l[i]?=some x->∃g,a=some (ai g 0)/\g<w.heap.size/\∀w':aw,w'.heap[g]?=w.heap[g]?->w'.cell? (ai g (i*8))=some (aa x.n)/\w'.cell? (ai g (i*8+1))=some x.c1/\w'.cell? (ai g (i*8+2))=some x.c2/\w'.cell? (ai g (i*8+3))=some x.c3/\w'.cell? (ai g (i*8+4))=some x.c4/\w'.cell? (ai g (i*8+5))=some x.c5/\w'.cell? (ai g (i*8+6))=some x.c6/\w'.cell? (ai g (i*8+7))=some x.c7):=λi x d=>by
  have c:=gl d;obtain⟨g,rfl,_,B,o⟩:=dV m Te;have p:=λj X=>fW iT 8 uN l i x d j X
  refine⟨g,rfl,B,λw' r=>⟨?_,?_,?_,?_,?_,?_,?_,?_⟩⟩;.exact o w' r _ _ ((p 0 Te).J rfl)
  .exact o w' r _ _ ((p 1 Te).J rfl)
  .exact o w' r _ _ ((p 2 Te).J rfl)
  .exact o w' r _ _ ((p 3 Te).J rfl)
  .exact o w' r _ _ ((p 4 Te).J rfl)
  .exact o w' r _ _ ((p 5 Te).J rfl)
  .exact o w' r _ _ ((p 6 Te).J rfl)
  .exact o w' r _ _ ((p 7 Te).J rfl)
 clear S m;go_in
 go_wp2;go_loopw [9,10] (λK L wr=>∃(i j:Nat),i<=j/\j<=l.length/\K=aa i/\L=aa j/\Hid (∀(k:Nat) (x:tG),l[k]?=some x->k<i->x.n<t)/\Hid (∀(k:Nat) (x:tG),l[k]?=some x->j<=k->t<=x.n)/\aj w wr) (λK L _=>((intOf L)-(intOf K)).toNat)
 case atStart=>exact⟨0,l.length,aM _,aD _,rfl,rfl,(λk x _ h=>Te),(λk x d h=>by rw[bi Te]at d;cases d),Below.refl _ _⟩
 case round=>
  obtain⟨i,j,N,I,rfl,rfl,G,E,u⟩:=hrel;by_cases hlt:i<j
  .obtain⟨h,J⟩:=Td ((i+j)/2);have T:h<l.length:=Te;have U:i<=h:=Te;have W:h<j:=Te;have⟨x,d⟩:=gx T;obtain⟨g,rfl,B,C⟩:=A.o h x d;have⟨V,c1,c2,c3,c4,c5,c6,c7⟩:=C wr (u.block g B);have⟨m,o,p,r,s,z,H⟩:=h1 x (aO d);clear C;have⟨c,Q,f⟩:=Jo J Te;by_cases hxt:x.n<t
   .have P:decide (kI x.n t<0)=true:=by simp[nC,hxt]
    have F:Hid (l[h]?=some x):=d;clear J d A;go_wp2_with fail;refine(EU x t _).V ?_;rintro e w2 ⟨rfl,D⟩;go_wp2;go_roundw
    case rel=>exact⟨h+1,j,Te,I,rfl,rfl,(λk y f n=>Int.lt_of_le_of_lt (M.o k h y x f F.o Te) hxt),E,eD u D⟩
    case measure=>simp[intOf];omega
   .have P:decide (kI x.n t<0)=false:=decide_eq_false (λq=>hxt ((nC _ _).1 q));have F:Hid (l[h]?=some x):=d;clear J d A;go_wp2_with fail;refine(EU x t _).V ?_;rintro e w2 ⟨rfl,D⟩;go_wp2;go_roundw
    case rel=>exact⟨i,h,U,Te,rfl,rfl,G,(λk y f n=>Int.le_trans Te (M.o h k x y F.o f n)),eD u D⟩
    case measure=>simp[intOf];omega
  .obtain rfl:i=j:=Te;have Y:decide ((i:Int)<(i:Int))=false:=Tf;by_cases hil:i<l.length
   .have⟨x,d⟩:=gx hil;obtain⟨g,rfl,B,C⟩:=A.o i x d;have⟨V,c1,c2,c3,c4,c5,c6,c7⟩:=C wr (u.block g B);have⟨m,o,p,r,s,z,H⟩:=h1 x (aO d);clear C;have F:Hid (l[i]?=some x):=d;have Z:=E.o i x d (aD _);have P:(kI x.n t==0)=decide (x.n=t):=O8 _ _;have O:decide ((l.map (·.n))[i]?=some t)=decide (x.n=t):=by rw[aT,d];simp
    have H:Hid (decide ((l.map (·.n))[i]?=some t)=decide (x.n=t)):=O;clear d A O hlt N;go_wp2_with fail;refine(EU x t _).V ?_;rintro e w2 ⟨rfl,D⟩;go_wp2;go_ret2;refine⟨⟨i,by rw[H.o];rfl,by simpa using I,?_,?_⟩,eD u D⟩;.intro k y f n;rw[aT]at f;obtain⟨z,s,rfl⟩:=bg.1 f;exact G.o k z s n
    .intro k y f n;rw[aT]at f;obtain⟨z,s,rfl⟩:=bg.1 f;exact E.o k z s n
   .have R:decide ((i:Int)<(l.length:Int))=false:=Tg
    have H:Hid (decide ((l.map (·.n))[i]?=some t)=false):=by
     show decide ((l.map (·.n))[i]?=some t)=false;rw[bi (by rw[bm];omega)];simp
    clear A hlt N;go_wp2;go_ret2;refine⟨⟨i,by rw[H.o];rfl,by simpa using I,?_,?_⟩,u⟩;.intro k y f n;rw[aT]at f;obtain⟨z,s,rfl⟩:=bg.1 f;exact G.o k z s n
    .intro k y f n;rw[aT]at f;obtain⟨z,s,rfl⟩:=bg.1 f;exact E.o k z s n
end
end Go.Proofs.YtfebdimolnobaaaGreatDoor
