import Derived.Test.YtfebdimolnobaaaGreatDoorBuA
import Derived.Test.YtfebdimolnobaaaGreatDoorCkH
import Derived.Laws.AppendOwnNone
import Derived.Laws.IdiomStrings
import Derived.ChangeSlices
set_option maxRecDepth 100000
set_option maxHeartbeats 8000000
set_option linter.all false
namespace Go.Proofs.YtfebdimolnobaaaGreatDoor
open Go.RowKit Go.Proofs.Tryz
section
open VH
def pV {α:Type}(w:aw)(rb:Nat)(s:au)(deep:Int)(r:Fx (α×Nat))(V:α->Value)(e:Ending)(w':aw):Prop:=
 ee [rb] w w'/\(match r with
 | .error x=>e=d5 x.1 x.2
 | .ok x=>e= .returned (V x.1)/\ei w' rb s x.2 deep)
def ee.set1 {bs:aB}{a b:aw}(h:ee bs a b){c:Nat}(d:c∈bs)(off:Nat)(u:Value):ee bs a (b.setCell (aj c off) u):=
 h.J ⟨rfl,rfl,rfl,Vw,λk _ f=>by
  rw[dY,dQ];intro e;rw[e]at d
  exact f d⟩
def QR:∀c:Fin 256,bits .andNot .u8 ((c.val:Nat):Int) 128=((c.val%128:Nat):Int)/\(bits .and .u8 ((c.val:Nat):Int) 128==0)=decide (c.val<128):=Vz
def GY {c:Int}(a:0<=c)(h1:c<256):bits .andNot .u8 c 128=c%128/\(bits .and .u8 c 128==0)=decide (c<128):=by
 obtain⟨n,rfl⟩:=bG a;have:=QR ⟨n,Vv⟩;refine⟨?_,?_⟩;.rw[this.1];simp
 .rw[this.2,cH];simp;omega
def Ow {n x:Int}{k:Nat}(c:0<=n)(h1:n<2^k)(g:0<=x)(d:n+x*2^k<2^64):bits .or .u64 n (x*2^k)=n+x*2^k:=by
 obtain⟨a,rfl⟩:=bG c;obtain⟨b,rfl⟩:=bG g;have e:((b:Int)*2^k)=((b*2^k:Nat):Int):=by push_cast;rfl
 rw[e]at d⊢;have f:a<2^k:=by exact_mod_cast h1
 rw[bits_or_u64_nat a (b*2^k) Vv Vv,Nat.or_comm,<-dx,<-dl f,dx]
 push_cast
 omega
def ei.drewN {w:aw}{rb:Nat}{s:au}{a:Nat}{deep:Int}(h:ei w rb s a deep)(q:Nat):ei (w.drewN q) rb s a deep:=h
def nw (w:aw)(rb:Nat)(s:au)(a:Nat)(deep:Int)(h:ei w rb s a deep)(hs:s.size<=2^47):
  Calls prog 182 #[ah rb] w (pV w rb s deep (iV s a s.size) (Value.int .u64)):=by
 obtain⟨r,E⟩:∃r,Hid (iV s a s.size=r):=⟨_,rfl⟩;rw[E.o];have⟨C,D⟩:=dZ.I h;go_in
 go_wp2;clear C D;go_loopw [4,5] (λv L wr=>∃(i:Nat) (n:Int),i<=9/\v= .int .u64 n/\L=aa ((7*i:Nat):Int)/\0<=n/\n<2^(7*i)/\Hid (mK s a s.size (10-i) i n=r)/\ei wr rb s (a+i) deep/\ee [rb] w wr) (λ_ L _=>63-(intOf L).toNat)
 case atStart=>exact⟨0,0,Vv,rfl,rfl,Vv,Vw,E,h,ee.refl _ _⟩
 case round=>
  clear E;obtain⟨i,n,hi,rfl,rfl,T,U,b,o,M⟩:=hrel;have hrl:=dZ.lt o;obtain⟨m,A⟩:∃m,10-i=m+1:=⟨9-i,Vv⟩;have d:Hid (n<2^(7*i)):=U;clear U;by_cases hlt:a+i<s.size
  .have H:=jL (t:=s) (k:=a+i) hlt;have N:=kT s (a+i);obtain⟨c,p⟩:=Vu (gh s (a+i));have g:Hid (gh s (a+i)=c):=p;rw[p]at H N;clear p;obtain⟨K,V⟩:=N;obtain⟨z,B⟩:=Vu (a+i);have j:Hid (a+i=z):=B;rw[B]at o hlt;have W:(s[z].toNat:Int)=c:=by simp only[<-B];exact H
   clear B H;go_wp2_with fail;refine(si _ _ _ _ _ o).V ?_;rintro e w2 ⟨rfl,q,rfl⟩;rw[decide_eq_true hlt];have O:=o.drewN q;have Y:=M.drewN q;generalize wr.drewN q=wq at*;have hzl:(z:Int)<(s.size:Int):=Vv;have⟨C,D⟩:=dZ.I O;go_upto_region 6 with fail
   go_quiet (fail);have u:ei (wq.drewN nq) rb s z deep:=O.drewN nq;have x:=Y.drewN nq;generalize wq.drewN nq=w3 at*;clear C D;have⟨C,D⟩:=dZ.I u;by_cases h9:i=9/\1<c;.obtain⟨rfl,R⟩:=h9;have f:Hid (r= .error (7,(a:Int))):=(by have:=b.o;rw[A,mK,dR (by have:=j.o;omega),dR ⟨rfl,by rw[g.o];exact R⟩]at this;exact this.sy);clear d b;go_wp2_with fail;refine(JQ _ _ _).V ?_;rintro e w4 ⟨rfl,rfl⟩;go_wp2;rw[f.o];exact⟨rfl,x,rfl⟩
   .have P:¬(7*(i:Int)==63)=true\/¬1<c:=by
     by_cases h:i=9;.exact .inr (λp=>h9 ⟨h,p⟩)
     .exact .inl Vx
    have y:=BJ (i:=i) (c:=c) T d.o;have Q:Hid (n+c%128*2^(7*i)<2^(7*(i+1))):=y.2;have I:=y.1;have l:0<=c%128:=Int.emod_nonneg _ Vy;have J:0<=c%128*2^(7*i):=Int.mul_nonneg l (Int.le_of_lt (Int.pow_pos Vy))
    have G:n+c%128*2^(7*i)<2^64:=by
     by_cases h:i=9
     .subst h;have h1:=d.o;have R:¬1<c:=λh=>h9 ⟨rfl,h⟩
      have:c%128=c:=Int.emod_eq_of_lt K Vv;rw[this];simp only[Nat.reduceMul,Int.reducePow]at*;omega
     .have h2:(2:Int)^(7*(i+1))<=2^63:=xJ Vv;have h1:=y.2;omega
    have F:Hid (bits BinOp.or IntKind.u64 n (IntKind.u64.wrap (IntKind.u64.wrap (bits BinOp.andNot IntKind.u8 c 128)*2^(7*i)))=n+c%128*2^(7*i)):=(by have Z:=gU l Vv;have V8:=gU J Vv;show bits BinOp.or IntKind.u64 n (IntKind.u64.wrap (IntKind.u64.wrap (bits BinOp.andNot IntKind.u8 c 128)*2^(7*i)))=n+c%128*2^(7*i);rw[(GY K V).1,Z,V8];exact Ow T d.o l G);have S:=(GY K V).2;clear y;by_cases hc8:c<128
    .have f:Hid (r= .ok (n+c%128*2^(7*i),z+1)):=(by have:=b.o;rw[A,mK,dR (by have:=j.o;omega),dQ (by rw[g.o];exact h9),g.o,dR hc8,j.o]at this;exact this.sy);rw[decide_eq_true hc8]at S;clear b d Q I l J G;cases V9:(7*(i:Int)==63);.go_wp2;go_ret;rw[f.o,<-F.o];exact⟨x.set1 Vw _ _,rfl,by unfold ei;simpa using dZ.set u 1 (aa ((z:Int)+1))⟩
     .have X:decide ((1:Int)<c)=false:=by rcases P with h|h<;>simp_all
      go_wp2;go_ret;rw[f.o,<-F.o];exact⟨x.set1 Vw _ _,rfl,by unfold ei;simpa using dZ.set u 1 (aa ((z:Int)+1))⟩
    .have hi8:i<9:=by
      by_cases h:i=9;.exact absurd ⟨h,Vv⟩ h9
      .omega
     have V9:(7*(i:Int)==63)=false:=Vx;have Wb:Hid (mK s a s.size (10-(i+1)) (i+1) (n+c%128*2^(7*i))=r):=(by have:=b.o;rw[A,mK,dR (by have:=j.o;omega),dQ (by rw[g.o];exact h9),g.o,dQ hc8]at this;rw[show 10-(i+1)=m from by omega];exact this);rw[decide_eq_false hc8]at S;have Wd:Hid (0<=n+c%128*2^(7*i)):=I;clear b d I l J G P;go_wp2;refine⟨⟨i+1,n+c%128*2^(7*i),Vv,by rw[F.o],by congr 1,Wd.o,Q.o,Wb,?_,x.set1 Vw _ _⟩,by simp[intOf];omega⟩;have e1:((a+(i+1):Nat):Int)=(z:Int)+1:=by have:=j.o;omega
     unfold ei;rw[e1];simpa using dZ.set u 1 (aa ((z:Int)+1))
  .have f:Hid (r= .error (6,(a:Int))):=(by have:=b.o;rw[A,mK,dQ hlt]at this;exact this.sy);clear d b;go_wp2_with fail;refine(si _ _ _ _ _ o).V ?_;rintro e w2 ⟨rfl,q,rfl⟩;rw[decide_eq_false hlt];go_wp2_with fail;refine(JQ _ _ _).V ?_;rintro e w4 ⟨rfl,rfl⟩;go_wp2;rw[f.o];exact⟨rfl,M.drewN q,rfl⟩
def fo (k:Nat):Bool:=decide (k<=12)||decide (k=15)
def iM (k:Nat):Bool:=decide (k=0)||decide (k=1)||decide (k=4)||decide (k=5)||decide (k=9)||decide (k=10)||decide (k=15)
def Fu (w:aw)(k:Nat)(pv:Value)(b:k<=16):Calls prog 283 #[.agg #[aa k,pv]] w λe w'=>e= .returned (Value.bool (fo k))/\ak w w':=by
 have a:∀o,ak w (w.alloc o):=λo=>(Vs w).alloc (aE _) o
 rcases(show k=0\/k=1\/k=2\/k=3\/k=4\/k=5\/k=6\/k=7\/k=8\/k=9\/k=10\/k=11\/k=12\/k=13\/k=14\/k=15\/k=16 from by omega)with rfl|rfl|rfl|rfl|rfl|rfl|rfl|rfl|rfl|rfl|rfl|rfl|rfl|rfl|rfl|rfl|rfl
 all_goals
  go_in
  go_wp2;go_ret;exact⟨rfl,a _⟩
def py (w:aw)(k:Nat)(pv:Value)(b:k<=16):Calls prog 189 #[.agg #[aa k,pv]] w λe w'=>e= .returned (Value.bool (iM k))/\ak w w':=by
 have a:∀o,ak w (w.alloc o):=λo=>(Vs w).alloc (aE _) o
 rcases(show k=0\/k=1\/k=2\/k=3\/k=4\/k=5\/k=6\/k=7\/k=8\/k=9\/k=10\/k=11\/k=12\/k=13\/k=14\/k=15\/k=16 from by omega)with rfl|rfl|rfl|rfl|rfl|rfl|rfl|rfl|rfl|rfl|rfl|rfl|rfl|rfl|rfl|rfl|rfl
 all_goals
  go_in
  go_wp2;go_ret;exact⟨rfl,a _⟩
def qp (w:aw)(k:Nat)(pv:Value)(b:k<=16):Calls prog 208 #[.agg #[aa k,pv]] w λe w'=>e= .returned (Value.int .i64 (eM k))/\ak w w':=by
 have a:∀o,ak w (w.alloc o):=λo=>(Vs w).alloc (aE _) o
 rcases(show k=0\/k=1\/k=2\/k=3\/k=4\/k=5\/k=6\/k=7\/k=8\/k=9\/k=10\/k=11\/k=12\/k=13\/k=14\/k=15\/k=16 from by omega)with rfl|rfl|rfl|rfl|rfl|rfl|rfl|rfl|rfl|rfl|rfl|rfl|rfl|rfl|rfl|rfl|rfl
 all_goals
  go_in
  go_wp2;go_ret;exact⟨rfl,a _⟩
def Fv (a:Nat)(x n:Int)(w:aw)(d:w.cell? (aj a 0)=some (aa x)):
  Calls prog 236 #[ah a,aa n] w λe w'=>e= .returned (aa (lG x n))/\w'=w:=by
 have b:=qS x n;generalize lG x n=c at b⊢;go_in
 go_wp2_with fail;refine(b _).V ?_;rintro e w' ⟨rfl,rfl⟩;go_wp2;go_ret;exact⟨rfl,rfl⟩
def KH {α:Type}{f:α->Int}{l:List α}(k:l.Pairwise λa b=>f a<=f b)(i j:Nat)(x y:α)(d:l[i]?=some x)(c:l[j]?=some y)(m:i<=j):f x<=f y:=by
 by_cases e:i=j;.subst e;rw[d]at c;obtain rfl:=Option.some.inj c;exact dj _
 .rw[cg]at k;have g:=gl d;have h:=gl c;have:=k i j g h Vv;rw[aO g]at d;rw[aO h]at c;rw[<-Option.some.inj d,<-Option.some.inj c];exact this
def KJ {i j h:Nat}(b:(i+j)/2=h)(a:i+j<9223372036854775808):IntKind.u64.wrap ((i:Int)+(j:Int))=(i:Int)+(j:Int)/\((i:Int)+(j:Int))/2=(h:Int)/\IntKind.i64.wrap (h:Int)=(h:Int):=
 ⟨gU Vv Vv,Vv,by simp[IntKind.wrap,IntKind.bits,IntKind.signed];omega⟩
def QS (x t:Int):(lG x t==0)=decide (x=t):=by
 rw[cH];unfold lG;by_cases q1:x<t;.simp[q1];omega
 .by_cases q2:t<x;.simp[q1,q2];omega
  .simp[q1,q2];omega
def wM (N:ar)(t:Int)(e:Ending):Prop:=
 ∃i:Nat,e= .returned (.tuple #[aa i,.bool (decide (N[i]?=some t))])/\i<=N.length/\(∀k x,N[k]?=some x->k<i->x<t)/\(∀k x,N[k]?=some x->i<=k->t<=x)
def KL (w:aw)(v:Value)(l:List (Int×Nat))(t:Int)(lo:Nat)(m:w.ownsRow lo 212 1 v l.length (fA (l.map (·.2))))(K:∀x∈l,w.cell? (aj x.2 0)=some (aa x.1))(N:l.Pairwise (λa b=>a.1<=b.1))(Y:l.length<=2001):
  Calls prog 235 #[v,aa t,.func (.func 236) #[] #[]] w λe w'=>wM (l.map (·.1)) t e/\w'=w:=by
 obtain⟨a,c,rfl⟩:=iB m;have G:Hid (∀(i j:Nat) (x y:Int×Nat),l[i]?=some x->l[j]?=some y->i<=j->x.1<=y.1):=KH N
 have p:Hid (∀i x,l[i]?=some x->∃g,a=some (aj g 0)/\w.cell? (aj g i)=some (ah x.2)/\w.cell? (aj x.2 0)=some (aa x.1)):=λi x d=>by
  have X:=gl d;obtain⟨g,rfl,_,_,O⟩:=eJ m Vv;exact⟨g,rfl,O w rfl i _ (by simp[fA,d,ii]),K x (aL d)⟩
 clear N K m;go_in
 go_wp2;go_loopw [9,10] (λE F wr=>∃(i j:Nat),i<=j/\j<=l.length/\E=aa i/\F=aa j/\Hid (∀k x,l[k]?=some x->k<i->x.1<t)/\Hid (∀k x,l[k]?=some x->j<=k->t<=x.1)/\w=wr) (λE F _=>((intOf F)-(intOf E)).toNat)
 case atStart=>exact⟨0,l.length,aP _,aE _,rfl,rfl,(λk x _ h=>Vv),(λk x d h=>by rw[bg Vv]at d;cases d),rfl⟩
 case round=>
  obtain⟨i,j,H,C,rfl,rfl,A,r,rfl⟩:=hrel;by_cases VQ:i<j
  .obtain⟨h,D⟩:=Vu ((i+j)/2);have P:h<l.length:=Vv;have Q:i<=h:=Vv;have S:h<j:=Vv;have⟨x,d⟩:=gx P;obtain⟨g,rfl,R,u⟩:=p.o h x d;have⟨V,L,W⟩:=KJ D Vv;by_cases VN:x.1<t
   .have J:decide (lG x.1 t<0)=true:=by simp[nW,VN]
    have s:Hid (l[h]?=some x):=d;clear D d p;go_wp2_with fail;refine(Fv x.2 x.1 t _ u).V ?_;rintro e w2 ⟨rfl,rfl⟩;go_wp2;go_roundw
    case rel=>exact⟨h+1,j,Vv,C,rfl,rfl,(λk y f n=>Int.lt_of_le_of_lt (G.o k h y x f s.o Vv) VN),r,trivial⟩
    case measure=>simp[intOf];omega
   .have J:decide (lG x.1 t<0)=false:=decide_eq_false (λq=>VN ((nW _ _).1 q));have s:Hid (l[h]?=some x):=d;clear D d p;go_wp2_with fail;refine(Fv x.2 x.1 t _ u).V ?_;rintro e w2 ⟨rfl,rfl⟩;go_wp2;go_roundw
    case rel=>exact⟨i,h,Q,Vv,rfl,rfl,A,(λk y f n=>Int.le_trans Vv (G.o h k x y s.o f n)),trivial⟩
    case measure=>simp[intOf];omega
  .obtain rfl:i=j:=Vv;have T:decide ((i:Int)<(i:Int))=false:=Vw;by_cases VK:i<l.length
   .have⟨x,d⟩:=gx VK;obtain⟨g,rfl,R,u⟩:=p.o i x d;have s:Hid (l[i]?=some x):=d;have U:=r.o i x d (aE _);have J:(lG x.1 t==0)=decide (x.1=t):=QS _ _;have I:decide ((l.map (·.1))[i]?=some t)=decide (x.1=t):=by rw[aT,d];simp
    have B:Hid (decide ((l.map (·.1))[i]?=some t)=decide (x.1=t)):=I;clear d p I VQ H;go_wp2_with fail;refine(Fv x.2 x.1 t _ u).V ?_;rintro e w2 ⟨rfl,rfl⟩;go_wp2;go_ret2;refine⟨⟨i,by rw[B.o];rfl,by simpa using C,?_,?_⟩,rfl⟩;.intro k y f n;rw[aT]at f;obtain⟨z,o,rfl⟩:=bi.1 f;exact A.o k z o n
    .intro k y f n;rw[aT]at f;obtain⟨z,o,rfl⟩:=bi.1 f;exact r.o k z o n
   .have M:decide ((i:Int)<(l.length:Int))=false:=Vx
    have B:Hid (decide ((l.map (·.1))[i]?=some t)=false):=by
     show decide ((l.map (·.1))[i]?=some t)=false;rw[bg (by rw[bO];omega)];simp
    clear p VQ H;go_wp2;go_ret2;refine⟨⟨i,by rw[B.o];rfl,by simpa using C,?_,?_⟩,rfl⟩;.intro k y f n;rw[aT]at f;obtain⟨z,o,rfl⟩:=bi.1 f;exact A.o k z o n
    .intro k y f n;rw[aT]at f;obtain⟨z,o,rfl⟩:=bi.1 f;exact r.o k z o n
def iL:List GF->Int->Option GF
 | [],_=>none
 |g::l,t=>if g.f.num=t then some g else iL l t
def xL:∀{gs:List GF} {t:Int} {i:Nat} {g:GF},gs[i]?=some g->g.f.num=t->(∀k x,gs[k]?=some x->k<i->x.f.num≠t)->iL gs t=some g
 | [],_,_,_,h,_,_=>by simp at h
 |y::l,t,0,g,h,e,_=>by
  simp at h;subst h
  rw[iL,dR e]
 |y::l,t,i+1,g,h,e,hn=>by
  rw[iL,dQ (hn 0 y rfl Vv)];exact xL (i:=i) (by simpa using h) e (λk x a b=>hn (k+1) x (by simpa using a) Vv)
def pz:∀{gs:List GF} {t:Int},(∀x∈gs,x.f.num≠t)->iL gs t=none
 | [],_,_=>rfl
 |y::l,t,h=>by
  rw[iL,dQ (h y aZ)];exact pz (λx a=>h x (aY _ a))
def KU (w:aw)(P:ax)(mp:an)(r:Option GF)(e:Ending):Prop:=
 match r with
 |none=>e= .returned (.pointer none)
 |some g=>∃fb,e= .returned (ah fb)/\fi w P mp g fb
def qW (w:aw)(P:ax)(mp:an)(mb:Nat)(name:au)(gs:List GF)(t:Int)(h:jk w P mp mb name gs)(p:gs.Pairwise (λx y=>x.f.num<=y.f.num))(E:gs.length<=2001):
  Calls prog 153 #[ah mb,aa t] w λe w'=>KU w P mp (iL gs t) e/\w'=w:=by
 obtain⟨O,J,L,Q,l,M⟩:=h;obtain⟨z,rfl,rfl,o⟩:=M.zip;obtain⟨I,fn,K,rfl⟩:=d7 l.1;obtain rfl:fn=z.length:=by have:=fj l.1;simpa using this
 rw[bO]at E l
 have s:=KL w (.slice I z.length K) (z.map λx=>(x.1.f.num,x.2)) t 0 (by rw[bO,bM,show((λx:Int×Nat=>x.2)∘λx:GF×Nat=>(x.1.f.num,x.2))=(λx=>x.2)from rfl];exact l.1)
  (λx a=>by obtain⟨y,c,rfl⟩:=aS.1 a;exact(o y c).cell0.1) (by rw[cw]at p⊢;exact p) (by simpa using E)
 have⟨V,W⟩:=L.I;go_in
 go_wp2_with fail;refine s.V ?_;rintro e w2 ⟨⟨i,rfl,D,f,j⟩,rfl⟩;have H:(List.map (·.1) (z.map λx:GF×Nat=>(x.1.f.num,x.2)))=z.map (λx=>x.1.f.num):=by rw[bM];rfl
 rw[H]at D f j⊢;rw[bO]at D;by_cases hf:(z.map (λx=>x.1.f.num))[i]?=some t
 .rw[decide_eq_true hf];rw[aT]at hf;have⟨x,a,G⟩:=bi.1 hf
  have d:iL (z.map (·.1)) t=some x.1:=xL (i:=i) (by rw[aT,a];rfl) G (λk y c b e=>by
   rw[aT]at c;obtain⟨u,v,rfl⟩:=bi.1 c;have:=f k u.1.f.num (by rw[aT,v];rfl) b
   omega)
  have m:=gl a;obtain⟨g,rfl,_,_,A⟩:=eJ l.1 Vv;have U:=A w2 rfl i (ah x.2) (by simp[fA,a,ii]);have N:(i:Int)<(z.length:Int):=Vv;have r:Hid (iL (z.map (·.1)) t=some x.1):=d;have F:Hid (fi w2 P mp x.1 x.2):=o x (aL a);clear d A f j o s;go_wp2;go_ret;refine⟨?_,rfl⟩;rw[r.o];exact⟨x.2,rfl,F.o⟩
 .rw[decide_eq_false hf]
  have d:iL (z.map (·.1)) t=none:=pz (λy c e=>by
   obtain⟨u,v,rfl⟩:=aS.1 c;have⟨k,b⟩:=du v;have n:(z.map (λx=>x.1.f.num))[k]?=some u.1.f.num:=by rw[aT,b];rfl
   rcases Nat.lt_or_ge k i with q|q;.have:=f k _ n q;omega
   .by_cases q2:k=i;.subst q2;rw[e]at n;exact hf n
    .have R:=j k _ n q;have m:i<z.length:=by have:=gl b;omega
     have⟨x,a⟩:=gx m;have S:=j i x.1.f.num (by rw[aT,a];rfl) (aE _);have T:x.1.f.num<=u.1.f.num:=(by have B:=gl b;rw[cw,cg]at p;have C:=p i k m B Vv;rw[aO m]at a;rw[aO B]at b;rw[Option.some.inj a,Option.some.inj b]at C;exact C)
     exact hf (by rw[aT,a];simp;omega))
  have r:Hid (iL (z.map (·.1)) t=none):=d;clear d f j o s;go_wp2;go_ret;refine⟨?_,rfl⟩;rw[r.o];rfl
abbrev gH:=Int×Value×Value×Value
def eC (x:gH):ay:= [aa x.1,x.2.1,x.2.2.1,x.2.2.2]
def gz (x:gH):(eC x).length=4:=rfl
def FF (x:gH)(n:Int)(w:aw):
  Calls prog 403 #[.agg #[aa x.1,x.2.1,x.2.2.1,x.2.2.2],aa n] w λe w'=>e= .returned (aa (lG x.1 n))/\ak w w':=by
 have a:=qS x.1 n;have b:∀o,ak w (w.alloc o):=λo=>(Vs w).alloc (aE _) o
 generalize lG x.1 n=c at a⊢;go_in
 go_wp2_with fail;refine(a _).V ?_;rintro e w' ⟨rfl,rfl⟩;go_wp2;go_ret;exact⟨rfl,b _⟩
def Lb (w:aw)(v:Value)(l:List gH)(t:Int)(lo:Nat)(n:w.ownsRow lo 249 4 v l.length (l.flatMap eC))(h1:∀x∈l,x.2.1.oneCell'=true/\x.2.2.1.oneCell'=true/\x.2.2.2.oneCell'=true)(d:l.Pairwise (λa b=>a.1<=b.1))(c:l.length<=2199023255000):
  Calls prog 402 #[v,aa t,.func (.func 403) #[] #[]] w λe w'=>wM (l.map (·.1)) t e/\ak w w':=by
 obtain⟨a,c,rfl⟩:=iB n;have L:Hid (∀(i j:Nat) (x y:gH),l[i]?=some x->l[j]?=some y->i<=j->x.1<=y.1):=KH d
 have K:Hid (∀(i:Nat) (x:gH),l[i]?=some x->∃g,a=some (aj g 0)/\g<w.heap.size/\∀w':aw,w'.heap[g]?=w.heap[g]?->w'.cell? (aj g (i*4))=some (aa x.1)/\w'.cell? (aj g (i*4+1))=some x.2.1/\w'.cell? (aj g (i*4+2))=some x.2.2.1/\w'.cell? (aj g (i*4+3))=some x.2.2.2):=λi x d=>by
  have c:=gl d;obtain⟨g,rfl,_,r,B⟩:=eJ n Vv;have C:=λj Z=>gd eC 4 gz l i x d j Z
  refine⟨g,rfl,r,λw' D=>⟨?_,?_,?_,?_⟩⟩;.exact B w' D _ _ ((C 0 Vv).J rfl)
  .exact B w' D _ _ ((C 1 Vv).J rfl)
  .exact B w' D _ _ ((C 2 Vv).J rfl)
  .exact B w' D _ _ ((C 3 Vv).J rfl)
 go_in
 go_wp2;go_loopw [9,10] (λI J wr=>∃(i j:Nat),i<=j/\j<=l.length/\I=aa i/\J=aa j/\Hid (∀(k:Nat) (x:gH),l[k]?=some x->k<i->x.1<t)/\Hid (∀(k:Nat) (x:gH),l[k]?=some x->j<=k->t<=x.1)/\ak w wr) (λI J _=>((intOf J)-(intOf I)).toNat)
 case atStart=>exact⟨0,l.length,aP _,aE _,rfl,rfl,(λk x _ h=>Vv),(λk x d h=>by rw[bg Vv]at d;cases d),Below.refl _ _⟩
 case round=>
  obtain⟨i,j,Y,G,rfl,rfl,E,u,p⟩:=hrel;by_cases hlt:i<j
  .obtain⟨h,W⟩:=Vu ((i+j)/2);have P:h<l.length:=Vv;have Q:i<=h:=Vv;have X:h<j:=Vv;have⟨x,d⟩:=gx P;obtain⟨g,rfl,r,H⟩:=K.o h x d;have⟨R,S,T,U⟩:=H wr (p.block g r);have⟨n,o,z⟩:=h1 x (aL d);have⟨c,N,f⟩:=KJ W Vv;by_cases hxt:x.1<t
   .have M:decide (lG x.1 t<0)=true:=by simp[nW,hxt]
    have A:Hid (l[h]?=some x):=d;go_wp2_with fail;refine(FF x t _).V ?_;rintro e w2 ⟨rfl,s⟩;go_wp2;go_roundw
    case rel=>exact⟨h+1,j,Vv,G,rfl,rfl,(λk y f m=>Int.lt_of_le_of_lt (L.o k h y x f A.o Vv) hxt),u,eT p s⟩
    case measure=>simp[intOf];omega
   .have M:=decide_eq_false (λq=>hxt ((nW _ _).1 q));have A:Hid (l[h]?=some x):=d;go_wp2_with fail;refine(FF x t _).V ?_;rintro e w2 ⟨rfl,s⟩;go_wp2;go_roundw
    case rel=>exact⟨i,h,Q,Vv,rfl,rfl,E,(λk y f m=>Int.le_trans Vv (L.o h k x y A.o f m)),eT p s⟩
    case measure=>simp[intOf];omega
  .obtain rfl:i=j:=Vv;have c:decide ((i:Int)<(i:Int))=false:=Vw;by_cases hil:i<l.length
   .have⟨x,d⟩:=gx hil;obtain⟨g,rfl,r,H⟩:=K.o i x d;have⟨R,S,T,U⟩:=H wr (p.block g r);have⟨n,o,z⟩:=h1 x (aL d);have A:=d;have c:=u.o i x d (aE _);have M:(lG x.1 t==0)=decide (x.1=t):=QS _ _;have V:decide ((l.map (·.1))[i]?=some t)=decide (x.1=t):=by rw[aT,d];simp
    have F:Hid (decide ((l.map (·.1))[i]?=some t)=decide (x.1=t)):=V;go_wp2_with fail;refine(FF x t _).V ?_;rintro e w2 ⟨rfl,s⟩;go_wp2;go_ret2;refine⟨⟨i,by rw[F.o];rfl,by simpa using G,?_,?_⟩,eT p s⟩;.intro k y f m;rw[aT]at f;obtain⟨z,o,rfl⟩:=bi.1 f;exact E.o k z o m
    .intro k y f m;rw[aT]at f;obtain⟨z,o,rfl⟩:=bi.1 f;exact u.o k z o m
   .have O:decide ((i:Int)<(l.length:Int))=false:=Vx
    have F:Hid (decide ((l.map (·.1))[i]?=some t)=false):=by
     show decide ((l.map (·.1))[i]?=some t)=false;rw[bg (by rw[bO];omega)];simp
    go_wp2;go_ret2;refine⟨⟨i,by rw[F.o];rfl,by simpa using G,?_,?_⟩,p⟩;.intro k y f m;rw[aT]at f;obtain⟨z,o,rfl⟩:=bi.1 f;exact E.o k z o m
    .intro k y f m;rw[aT]at f;obtain⟨z,o,rfl⟩:=bi.1 f;exact u.o k z o m
end
def Tryz.infoV:(prog.info? 55).map (λi=>(i.zero,i.size,i.bytes))=some (some (.agg #[.int .u64 0,Vp,ai,Vp]),4,64):=VA
def Tryz.infoF:(prog.info? 58).map (λi=>(i.zero,i.size,i.bytes))=some (some (.agg #[aa 0,ai]),2,32):=VA
def kC.one {P:Value->PM->Prop}(b:∀v m,P v m->v.oneCell'=true):∀{l:List PV} {cs:ay},kC P cs l->∀u∈cs,u.oneCell'=true
 | [],_,h,u,a=>by rw[show _= []from h]at a;simp at a
 |_::l,_,⟨mv,rest,h1,h2,h3⟩,u,a=>by
  rw[h1]at a;simp only[aR]at a;rcases a with rfl|rfl|rfl|rfl|a;.rfl
  .rfl
  .exact b _ _ h2
  .rfl
  .exact h3.one b u a
def qu (w:aw)(t:TypeId)(a b c d:Value):∀j u,[a,b,c,d][j]?=some u->(w.alloc (.cells #[a,b,c,d] t)).cell? (((aj w.heap.size 0):Addr).add j)=some u:=by
 intro j u e
 match j,e with
 |0,e=>simp at e;subst e;exact(dZ.new w #[a,b,c,d] t).cell 0
 |1,e=>simp at e;subst e;exact(dZ.new w #[a,b,c,d] t).cell 1
 |2,e=>simp at e;subst e;exact(dZ.new w #[a,b,c,d] t).cell 2
 |3,e=>simp at e;subst e;exact(dZ.new w #[a,b,c,d] t).cell 3
 |j+4,e=>simp at e
def QV (w:aw)(t:TypeId)(a b:Value):∀j u,[a,b][j]?=some u->(w.alloc (.cells #[a,b] t)).cell? (((aj w.heap.size 0):Addr).add j)=some u:=by
 intro j u c
 match j,c with
 |0,c=>simp at c;subst c;exact(dZ.new w #[a,b] t).cell 0
 |1,c=>simp at c;subst c;exact(dZ.new w #[a,b] t).cell 1
 |j+2,c=>simp at c
section
open VH
def JH (c:Int):Prop:= -9223372036854775808<=c/\c<=9223372036854775807
def tQ (c:Int)(n:Nat):Nat:=((if c<0 then-(c+1)else c)%n).toNat
def ia (c:Int){n:Nat}(h:0<n):tQ c n<n:=by
 unfold tQ;have a:0<=(if c<0 then-(c+1)else c)%(n:Int):=Int.emod_nonneg _ Vv;have b:(if c<0 then-(c+1)else c)%(n:Int)<n:=Int.emod_lt_of_pos _ Vv;omega
def MM (w:aw)(c:Int)(n:Nat)(d:JH c)(h:0<n):Calls prog 32 #[aa c,aa n] w λe w'=>e= .returned (aa (tQ c n))/\w'=w:=by
 obtain⟨f,g⟩:=d;have b:((tQ c n:Nat):Int)=(if c<0 then-(c+1)else c)%n:=(by unfold tQ;have i:0<=(if c<0 then-(c+1)else c)%(n:Int):=Int.emod_nonneg _ Vv;omega);generalize tQ c n=q at*;have a:Hid _:=b;clear b;by_cases hl:c<0
 .go_in
  go_wp2;go_ret;rw[a.o,dR hl,<-Int.neg_tmod,dD Vv];exact⟨rfl,rfl⟩
 .go_in
  go_wp2;go_ret;rw[a.o,dQ Vv];exact⟨rfl,rfl⟩
def iY (raw:ar)(i n:Nat):Nat:=tQ ((raw[i]?).getD 0) n
structure Gv (w:aw)(Z:ax)(gb:Nat)(raw:ar)(i:Nat):Prop where
 rng:∀x∈raw,JH x
 few:raw.length<=9223372036854775807
 at_:∃rv,dZ w gb #[rv,aa i] 73/\iz w Z rv raw.length (raw.map λx=>aa x)
 ne:¬Z gb
def Gv.O {w w':aw}{Z:ax}{gb i:Nat}{raw:ar}(h:Gv w Z gb raw i)(g:w'.heap[gb]?=w.heap[gb]?)(j:∀b,Z b->b<w.heap.size->w'.heap[b]?=w.heap[b]?):Gv w' Z gb raw i:=by
 obtain⟨c,a,⟨k,d,e⟩,f⟩:=h;exact⟨c,a,⟨k,g.J d,e.O j⟩,f⟩
def mJ (w:aw)(Z:ax)(gb:Nat)(raw:ar)(i n:Nat)(v:Gv w Z gb raw i)(h:0<n)(C:i<4398046511104):Calls prog 60 #[ah gb,aa n] w λe w'=>e= .returned (aa (iY raw i n))/\Gv w' Z gb raw (i+1)/\ee [gb] w w':=by
 obtain⟨s,z,⟨F,g,d⟩,t⟩:=v;obtain⟨a,c,rfl⟩:=d.form;have⟨D,E⟩:=g.I;have B:wrap64 ((i:Int)+1)=((i+1:Nat):Int):=(by simp only[wrap64];omega)
 have p:∀W,ak w W->Gv (W.setCell (aj gb 1) (aa ((i+1:Nat):Int))) Z gb raw (i+1)/\ee [gb] w (W.setCell (aj gb 1) (aa ((i+1:Nat):Int))):=λW j=>
  ⟨⟨s,z,⟨_,by have:=(g.G j g.lt).set 1 (aa ((i+1:Nat):Int));simpa using this,d.O λb q l=>(by rw[dY,dQ (show¬gb=b from λe=>t (by rw[e];exact q))];exact j.block b l)⟩,t⟩,(ee.oB j).set1 Vw _ _⟩
 have o:Hid _:=p;clear p;by_cases hl:i<raw.length
 .obtain⟨A,rfl,_,_,r⟩:=d.at Vv;have m:raw[i]?=some raw[i]:=aO hl;have y:=r w rfl i (aa raw[i]) (by rw[aT,m];rfl);have k:=λW=>MM W raw[i] n (s _ (List.getElem_mem hl)) h
  have f:iY raw i n=tQ raw[i] n:=by unfold iY;rw[m];rfl
  rw[f];generalize raw[i]=x at*;have u:(i:Int)<(raw.length:Int):=Vv;clear g d r m f;go_in
  go_upto_region 2 with fail
  go_quiet (fail);go_wp2;go_quiet (fail);go_wp2_with fail;refine(k _).V ?_;rintro e w2 ⟨rfl,rfl⟩;go_wp2;go_ret;exact⟨rfl,o.o _ (iu (Below.refl _ _) _)⟩
 .have k:=λW=>MM W 0 n ⟨Vy,Vy⟩ h
  have f:iY raw i n=tQ 0 n:=by unfold iY;rw[bg Vv];rfl
  rw[f];have u:¬(i:Int)<(raw.length:Int):=Vv;clear g d f;go_in
  go_upto_region 2 with fail
  go_quiet (fail);go_wp2_with fail;refine(k _).V ?_;rintro e w2 ⟨rfl,rfl⟩;go_wp2;go_ret;exact⟨rfl,o.o _ (iu (Below.refl _ _) _)⟩
def gu (n:Nat):ap:= [UInt8.ofNat (48+n)]
def tR (w:aw)(n:Nat)(f:n<10):Calls prog 61 #[aa n] w λe w'=>e= .returned (ag (bl (gu n)))/\ak w w':=by
 have d:¬(9:Int)<(n:Int):=Vv
 have a:=run_convert_bytes_back (P:=prog) (w.Vn #[.int .u8 (48+n)] 5) 140 9 5 (aj w.heap.size 0) 1 (gu n) underlying140 underlying5 underlying9 λj c=>by
  have c:j<1:=c;obtain rfl:j=0:=Vv;have:=(dZ.new w #[.int .u8 (48+n)] 5).cell 0;rw[Jf,this];simp[gu];omega
 have b:(convert 140 9 (Vr w.heap.size 1 1)).run prog (w.Vn #[.int .u8 (48+n)] 5)= .ok (ag (bl (gu n))) (w.Vn #[.int .u8 (48+n)] 5):=a;clear a;generalize bl (gu n)=s at*;go_in
 go_wp2;go_ret;exact⟨rfl,(Below.refl _ _).alloc (aE _) _⟩
def TE:List (ap):= [[105,110,116,51,50],[105,110,116,54,52],[117,105,110,116,51,50],[117,105,110,116,54,52],[115,105,110,116,51,50],[115,105,110,116,54,52],[98,111,111,108],[102,105,120,101,100,51,50],[102,105,120,101,100,54,52],[115,102,105,120,101,100,51,50],[115,102,105,120,101,100,54,52],[102,108,111,97,116],[100,111,117,98,108,101],[115,116,114,105,110,103],[98,121,116,101,115],[69]]
def gI (t:Nat):ap:=if 15<t then 77::gu (t-16)else(TE[t]?).getD []
def TF:aq:=(TE.map λs=>ag (bl s)).toArray
def Pq (w:aw):Calls prog 105 #[] w λe w'=>∃b,e= .returned (Vr b 16 16)/\dZ w' b TF 9/\ak w w':=by
 go_in
 go_wp2;go_ret;exact⟨_,rfl,dZ.new w TF 9,(Below.refl _ _).alloc (aE _) _⟩
def RC {t:Nat}(h:t<16):TF[t]?=some (ag (bl (gI t))):=by
 unfold gI TF;rw[dQ Vv];have:∀t:Fin 16,TE[t.val]?=some ((TE[t.val]?).getD []):=Vy;have a:=this ⟨t,h⟩;simp only[cG,aT];rw[a];rfl
def MN (w:aw)(t:Nat)(m:t<25):Calls prog 62 #[aa t] w λe w'=>e= .returned (ag (bl (gI t)))/\ak w w':=by
 by_cases h:15<t
 .have c:=tR w (t-16) Vv;rw[show((t-16:Nat):Int)=(t:Int)-16 by omega]at c;have d:gI t=77::gu (t-16):=by unfold gI;rw[dR h]
  have j:(15:Int)<(t:Int):=Vv;have l:(bl (gu (t-16))).size=1:=by rw[fT];rfl
  rw[d,show(77::gu (t-16))= [77]++gu (t-16)from rfl,pH];generalize bl (gu (t-16))=s at*;go_in
  go_wp2_with fail;refine c.V ?_;rintro e w2 ⟨rfl,a⟩;clear c d;go_wp2;go_ret;exact⟨rfl,a⟩
 .have f:=Pq w;have i:=RC (show t<16 by omega);have j:¬(15:Int)<(t:Int):=Vv;generalize bl (gI t)=s at*;go_in
  go_wp2_with fail;refine f.V ?_;rintro e w2 ⟨b,rfl,g,a⟩;have k:=(g.cell t).J i;clear i f g;go_wp2;go_ret;exact⟨rfl,a⟩
end
section
open Go.ChangeShapes Go.WideShapes Go.RowKit Go.Deep Go.Proofs.YtfebdimolnobaaaGreatDoor.Rows
def Df (a:Addr)(i:Nat):(a.add i).block=a.block:=by unfold Addr.add;split<;>rfl
def Fa {H:Type}{enc:TypeId×Value->H}{w:aw}{a:aC}{n c:Nat}{d:DataW H}{ps:List MemPlace}(h:DataW.Trod enc prog w 0 (λ_=>true) true 35 (.slice a n c) d ps):
  ∃raw:ar,(∀x∈raw,JH x)/\raw.length<=9223372036854775807/\iz w (λb=>b<w.heap.size) (.slice a n c) raw.length (raw.map λx=>aa x):=by
 obtain⟨fuel,v⟩:=h;rcases open_ints underlying35 underlying3 NG v with⟨j,f⟩|⟨g,k,i,l,j,_,A,q,s,f,m,t⟩
 .have e:(Value.slice a n c)=ai:=List.cons.inj j|>.1
  cases e;exact⟨[],λx h=>(by cases h),aP _,none,0,rfl,aE _,λh=>absurd h Vy⟩
 .have e:(Value.slice a n c)= .slice (some g) k i:=List.cons.inj j|>.1
  cases e;have s:l.length=c:=s;have hlen:(l.take n).length=n:=by rw[bN];omega
  refine⟨l.take n,λx f=>Sm (t x (List.mem_of_mem_take f)),?_,some g,c,by rw[hlen],Vv,λB=> ?_⟩;.have q:c<=2^63-1:=q;omega
  .have o:=m 0 Vv;refine⟨g,rfl,by have:=aV _ _ o;rwa [Df]at this,by have:=aV _ _ o;rwa [Df]at this,λw' z p u r=> ?_⟩;rw[aT]at r;obtain⟨x,f,rfl⟩:=bi.1 r;obtain⟨y,rfl⟩:=bn.1 f;rw[hlen]at y;have:=m p Vv;rw[bE (w:=w) (by rw[Df];exact z),this,List.getElem_take,cr,aO Vv];rfl
end
end Go.Proofs.YtfebdimolnobaaaGreatDoor
