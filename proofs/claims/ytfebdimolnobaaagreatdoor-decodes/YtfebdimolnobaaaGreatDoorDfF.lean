import Derived.Test.YtfebdimolnobaaaGreatDoorDfB
import Derived.Test.YtfebdimolnobaaaGreatDoorReadA
import Derived.Lib.AppendStr
set_option maxRecDepth 100000
set_option maxHeartbeats 8000000
set_option linter.all false
namespace Go.Proofs.YtfebdimolnobaaaGreatDoor
open Go.RowKit Go.Proofs.Tryz
section
variable {α β:Type}
def i8 {α β:Type}(P:α->β->(ax)->Prop):(ax)->List α->List β->Prop
 |_,[],[]=>True
 |Y,x::l,y::r=>∃A B:ax,P x y A/\i8 P B l r/\(∀b,A b->Y b)/\(∀b,B b->Y b)/\∀b,A b->¬B b
 |_,[],_::_=>False
 |_,_::_,[]=>False
theorem i8.V {P:α->β->(ax)->Prop}{Y Z:ax}(a:∀b,Y b->Z b):∀{l:List α} {r:List β},i8 P Y l r->i8 P Z l r
 | [],[],_=>trivial
 |_::_,_::_,⟨A,B,h1,h2,h3,h4,h5⟩=>⟨A,B,h1,h2,λb h=>a b (h3 b h),λb h=>a b (h4 b h),h5⟩
 | [],_::_,h=>h.elim
 |_::_,[],h=>h.elim
theorem i8.imp {P Q:α->β->(ax)->Prop}:∀{l:List α} {r:List β} {Y:ax},i8 P Y l r->(∀x y A,x∈l->y∈r->(∀b,A b->Y b)->P x y A->Q x y A)->i8 Q Y l r
 | [],[],_,_,_=>trivial
 |_::_,_::_,_,⟨A,B,h1,h2,h3,h4,h5⟩,h=>⟨A,B,h _ _ A Tf Tf h3 h1,h2.imp (λx y C d e a=>h x y C (by simp[d]) (by simp[e]) (λb c=>h4 b (a b c))),h3,h4,h5⟩
 | [],_::_,_,h,_=>h.elim
 |_::_,[],_,h,_=>h.elim
theorem i8.len {P:α->β->(ax)->Prop}:∀{l:List α} {r:List β} {Y:ax},i8 P Y l r->l.length=r.length
 | [],[],_,_=>rfl
 |_::_,_::_,_,⟨_,_,_,h2,_⟩=>by simp[h2.len]
 | [],_::_,_,h=>h.elim
 |_::_,[],_,h=>h.elim
theorem i8.split {P:α->β->(ax)->Prop}:∀{pre:List α} {x:α} {post:List α} {r:List β} {Y:ax},i8 P Y (pre++x::post) r->
  ∃rp y rq,r=rp++y::rq/\rp.length=pre.length/\∃A B:ax,P x y A/\i8 P B (pre++post) (rp++rq)/\(∀b,A b->Y b)/\(∀b,B b->Y b)/\∀b,A b->¬B b
 | [],_,_,[],_,h=>h.elim
 | [],_,_,y::rq,_,⟨A,B,h1,h2,h3,h4,h5⟩=>⟨[],y,rq,rfl,rfl,A,B,h1,h2,h3,h4,h5⟩
 |_::_,_,_,[],_,h=>h.elim
 |_::_,_,_,q::_,_,⟨A,B,h1,h2,h3,h4,h5⟩=>by
  obtain⟨rp,y,rq,rfl,i,f,c,j,k,d,e,l⟩:=h2.split;refine⟨q::rp,y,rq,rfl,by simp[i],f,λb=>A b\/c b,j,⟨A,c,h1,k,λb h=> .inl h,λb h=> .inr h,λb a g=>h5 b a (e b g)⟩,λb h=>h4 b (d b h),?_,?_⟩
  .rintro b (h|h);.exact h3 b h
   .exact h4 b (e b h)
  .rintro b a (h|h);.exact h5 b h (d b a)
   .exact l b a h
theorem i8.join {P:α->β->(ax)->Prop}:∀{pre:List α} {x:α} {post:List α} {rp:List β} {y:β} {rq:List β} {A B Y:ax},rp.length=pre.length->P x y A->i8 P B (pre++post) (rp++rq)->
  (∀b,A b->Y b)->(∀b,B b->Y b)->(∀b,A b->¬B b)->i8 P Y (pre++x::post) (rp++y::rq)
 | [],_,_,[],_,_,A,B,_,_,h1,h2,h3,h4,h5=>⟨A,B,h1,h2,h3,h4,h5⟩
 | [],_,_,_::_,_,_,_,_,_,hl,_,_,_,_,_=>by simp at hl
 |_::_,_,_,[],_,_,_,_,_,hl,_,_,_,_,_=>by simp at hl
 |_::_,_,_,_::_,_,_,A,_,_,hl,h1,⟨C,D,q1,q2,q3,q4,q5⟩,h3,h4,h5=>by
  refine⟨C,λb=>A b\/D b,q1,i8.join (by simpa using hl) h1 q2 (λb h=> .inl h) (λb h=> .inr h) (λb h c=>h5 b h (q4 b c)),λb h=>h4 b (q3 b h),?_,?_⟩
  .rintro b (h|h);.exact h3 b h
   .exact h4 b (q4 b h)
  .rintro b a (h|h);.exact h5 b h (q3 b a)
   .exact q5 b a h
theorem i8.filter {P:α->β->(ax)->Prop}{p:α->Bool}{q:β->Bool}(a:∀x y A,P x y A->p x=q y):∀{l:List α} {r:List β} {Y:ax},i8 P Y l r->i8 P Y (l.filter p) (r.filter q)
 | [],[],_,_=>trivial
 |x::_,y::_,_,⟨A,B,h1,h2,h3,h4,h5⟩=>by
  rw[cq,cq,a x y A h1]
  cases q y with
  |true=>exact⟨A,B,h1,h2.filter a,h3,h4,h5⟩
  |false=>exact(h2.filter a).V h4
 | [],_::_,_,h=>h.elim
 |_::_,[],_,h=>h.elim
theorem i8.append {P:α->β->(ax)->Prop}:∀{l:List α} {r:List β} {l':List α} {r':List β} {A B Y:ax},i8 P A l r->i8 P B l' r'->(∀b,A b->Y b)->(∀b,B b->Y b)->(∀b,A b->¬B b)->i8 P Y (l++l') (r++r')
 | [],[],_,_,_,_,_,_,h2,_,h4,_=>h2.V h4
 |_::_,_::_,_,_,A,B,_,⟨C,D,q1,q2,q3,q4,q5⟩,h2,h3,h4,h5=>by
  refine⟨C,λb=>D b\/B b,q1,q2.append h2 (λb h=> .inl h) (λb h=> .inr h) (λb h=>h5 b (q4 b h)),λb h=>h3 b (q3 b h),?_,?_⟩
  .rintro b (h|h);.exact h3 b (q4 b h)
   .exact h4 b h
  .rintro b a (h|h);.exact q5 b a h
   .exact h5 b (q3 b a) h
 | [],_::_,_,_,_,_,_,h,_,_,_,_=>h.elim
 |_::_,[],_,_,_,_,_,h,_,_,_,_=>h.elim
inductive Kd where
 |vals
 |msgs
 |ents (t:au)
def pt (S:eE)(f:fB):Kd:=if f.isMap then .ents f.key else if(fS S f).isSome then .msgs else .vals
def ot (S:eE)(T:Option MT)(n:Int)(kd:Kd):Prop:=∀d f,T=some d->ei d.fs n=some f->kd=pt S f
def nR (S:eE)(T:Option MT)(n:Int):Option MT:=T.bind λd=>(ei d.fs n).bind (fS S)
def uE (T:Option MT)(n:Int):Prop:=∃d f,T=some d/\ei d.fs n=some f/\f.isRep=false
def lV (v:LV):ay:= [.int .u64 v.1,ae v.2,ah,S8]
def qF (v:LV):PV:=(v.1,v.2,PM.none)
def rk (p:Nat):Value:=ag p
def lC (t:au)(v:PV):LV:=(if eC jD t then(v.1+9223372036854775808)%2^64 else v.1,v.2.1)
def oK (a b:LV):Prop:=a.1<b.1\/(a.1=b.1/\Op.bytesLess a.2.toList b.2.toList=true)
def jt:List LV->aB->LV->Option Nat
 |k::l,p::r,q=>if k.1=q.1/\gP k.2 q.2=true then some p else jt l r q
 |_,_,_=>none
def QS:Option Nat->DataW Unit->DataW Unit
 |some p,_=>oh (some p)
 |none,z=>z
def kV (k:LV):Value:= .agg #[.int .u64 k.1,ae k.2]
def ju (w:aw)(mb:Nat)(ks:List LV)(ps:aB):Prop:=
 ∃D,w.ownsMap prog 386 gG mb ks.length D/\Go.Maps.size D=ks.length/\(∀(k:LV) kl,Go.keyOf prog 386 (kV k)=some kl->∀z,D.atKey kl z=QS (jt ks ps k) z)
abbrev Oy:=Option MT->aw->(ax)->Nat->PM->Prop
structure Se (w:aw)(x:gw)(f:PF)(A:ax)(lv:List LV):Prop where
 ne:lv≠ []
 pm:f.2=lv.map qF
 row:d5 w A 55 4 x.2.1 lv.length (lv.flatMap lV)
 c2:x.2.2.1=ah
 c3:x.2.2.2= .map none
def mV (m:PM):PV:=(0,eS,m)
structure Sf (R:Oy)(w:aw)(T:Option MT)(L:Prop)(x:gw)(f:PF)(A:ax)(ps:aB)(B:ax):Prop where
 ne:ps≠ []
 lone:L->ps.length=1
 c1:x.2.1=ah
 c3:x.2.2.2= .map none
 row:d5 w A 180 1 x.2.2.1 ps.length (ps.map rk)
 inA:∀b,B b->A b
 own:∀b,x.2.2.1.ownBlock=some b->¬B b
 sub:i8 (λp v C=>v=mV v.2.2/\R T w C p v.2.2) B ps f.2
 len:ps.length<=1073741824
structure Sg (R:Oy)(w:aw)(x:gw)(f:PF)(A:ax)(t:au)(mb:Nat)(ps:aB)(B:ax):Prop where
 ne:ps≠ []
 c1:x.2.1=ah
 c2:x.2.2.1=ah
 c3:x.2.2.2= .map (some mb)
 map:ju w mb (f.2.map λv=>lC t (fJ v)) ps
 inA:∀b,B b->A b
 inM:A mb
 own:¬B mb
 key:∀v∈f.2,D7 t (fJ v)
 srt:f.2.Pairwise (λa b=>oK (lC t (fJ a)) (lC t (fJ b)))
 sub:i8 (λp v C=>v=mV v.2.2/\R none w C p v.2.2) B ps f.2
 len:ps.length<=1073741824
def gO (S:eE)(R:Oy)(w:aw)(T:Option MT)(x:gw)(f:PF)(A:ax):Prop:=
 x.1=f.1/\((ot S T x.1 .vals/\∃lv,Se w x f A lv)\/(ot S T x.1 .msgs/\∃ps B,Sf R w (nR S T x.1) (uE T x.1) x f A ps B)\/∃t,ot S T x.1 (.ents t)/\∃mb ps B,Sg R w x f A t mb ps B)
structure DrB (w:aw)(Z:ax)(db:Nat)(sv uv:Value)(u:au)(l:List gw):Prop where
 c:CO w db sv uv l
 un:w.ownsRow 0 5 1 uv u.size (Lib.strCells u)
 zd:Z db
 zs:∀b,sv.ownBlock=some b->Z b
 zu:∀b,uv.ownBlock=some b->Z b
 su:∀b,sv.ownBlock=some b->uv.ownBlock≠some b
 ud:uv.ownBlock≠some db
structure MZ (w:aw)(Z:ax)(db:Nat)(sv uv:Value)(u:au)(l:List gw)(Y:ax):Prop extends DrB w Z db sv uv u l where
 yz:∀b,Y b->Z b
 yl:∀b,Y b->b<w.heap.size
 yd:¬Y db
 ys:∀b,sv.ownBlock=some b->¬Y b
 yu:∀b,uv.ownBlock=some b->¬Y b
def el (S:eE):Nat->Oy
 |0,_,_,_,_,_=>False
 |k+1,T,w,Z,db,m=>∃sv uv l Y,MZ w Z db sv uv m.unk l Y/\i8 (gO S (el S k) w T) Y l m.fs
end
def lZ (n:Int)(vs:List PV):∀l:List PF,gY n vs true l=l.filter (λx=>decide (x.1≠n))
 | []=>rfl
 |x::l=>by
  rw[gY,cq];simp only[du,dh,aN,if_false,be,cF];rw[lZ n vs l];by_cases h:x.1=n<;>simp[h]
def me (n:Int):∀l:List PF,(∀x∈l,x.1≠n)->l.filter (λx=>decide (x.1≠n))=l:=λl h=>dx.2 (λx a=>by simp[h x a])
def sZ (n:Int)(vs:List PV)(fq:List PF)(c:∀x∈fq,n<x.1):∀fp:List PF,(∀x∈fp,x.1<n)->gY n vs false (fp++fq)=fp++(n,vs)::fq
 | [],_=>by
  cases fq with
  |nil=>rfl
  |cons y r=>
   have e:=c y Tf;simp only[be];have a:decide (n<=y.1)=true:=Tg;have b:¬y.1=n:=Te;rw[gY,a,dj,lZ,me n r (λx d=>by have:=c x (by simp[d]);omega)]
   simp[b]
 |x::fp,hp=>by
  have d:=hp x Tf;rw[bo,gY];have a:decide (n<=x.1)=false:=Tg;have b:¬x.1=n:=Te;rw[a];simp only[Bool.not_false,dl,aN,if_false,be,b,dd];rw[sZ n vs fq c fp (λy e=>hp y (by simp[e]))];rfl
def vW (n:Int)(vs old:List PV)(fq:List PF)(a:∀x∈fq,n<x.1):∀fp:List PF,(∀x∈fp,x.1<n)->gY n vs false (fp++(n,old)::fq)=fp++(n,vs)::fq
 | [],_=>by
  simp only[be];rw[gY];simp only[Int.le_refl,decide_true,Bool.not_false,Bool.and_true,if_true,be,dj];rw[lZ,me n fq (λx b=>by have:=a x b;omega)]
  rfl
 |x::fp,hp=>by
  have b:=hp x Tf;rw[bo,gY];have c:decide (n<=x.1)=false:=Tg;have d:¬x.1=n:=Te;rw[c];simp only[Bool.not_false,dl,aN,if_false,be,d,dd];rw[vW n vs old fq a fp (λy e=>hp y (by simp[e]))];rfl
def qG (n:Int)(old:List PV)(fq:List PF):∀fp:List PF,(∀x∈fp,x.1<n)->io (fp++(n,old)::fq) n=old
 | [],_=>by simp[io]
 |x::fp,hp=>by
  have c:=hp x Tf;have a:¬x.1=n:=Te;simp only[bo,io,a,if_false];exact qG n old fq fp (λy b=>hp y (by simp[b]))
def nD (n:Int):∀l:List PF,(∀x∈l,x.1≠n)->io l n= []
 | [],_=>rfl
 |x::l,h=>by
  simp only[io,h x Tf,if_false];exact nD n l (λy a=>h y (by simp[a]))
def ju.O {w w':aw}{mb:Nat}{ks:List LV}{ps:aB}(h:ju w mb ks ps)(d:w'.heap[mb]?=w.heap[mb]?):ju w' mb ks ps:=by
 obtain⟨D,a,b,c⟩:=h;exact⟨D,kh a d,b,c⟩
def ju.lt {w:aw}{mb:Nat}{ks:List LV}{ps:aB}(h:ju w mb ks ps):mb<w.heap.size:=by
 obtain⟨D,a,_⟩:=h;exact a.lt
def s9 {w w':aw}{b:Nat}(a:b<w.heap.size)(h:w'.heap[b]?=w.heap[b]?):b<w'.heap.size:=by
 by_cases q:b<w'.heap.size;.exact q
 .rw[cS Te,cr a]at h;cases h
def gO.O {S:eE}{R:Oy}{w w':aw}{T:Option MT}{x:gw}{f:PF}{A:ax}(g:∀T C p m,(∀b,C b->A b)->R T w C p m->R T w' C p m)
  (e:∀b,A b->b<w.heap.size->w'.heap[b]?=w.heap[b]?) (h:gO S R w T x f A):gO S R w' T x f A:=by
 obtain⟨j,k⟩:=h;refine⟨j,?_⟩;rcases k with⟨q,lv,h⟩|⟨q,ps,B,h⟩|⟨t,q,i,ps,B,h⟩;.exact .inl ⟨q,lv,{h with row:=h.row.O e}⟩
 .exact .inr (.inl ⟨q,ps,B,{h with row:=h.row.O e,sub:=h.sub.imp λp v C _ _ c a=>⟨a.1,g _ _ _ _ (λb d=>h.inA b (c b d)) a.2⟩}⟩)
 .exact .inr (.inr ⟨t,q,i,ps,B,{h with map:=h.map.O (e i h.inM h.map.lt),sub:=h.sub.imp λp v C _ _ c a=>⟨a.1,g _ _ _ _ (λb d=>h.inA b (c b d)) a.2⟩}⟩)
def DrB.O {w w':aw}{Z:ax}{db:Nat}{sv uv:Value}{u:au}{l:List gw}(h:DrB w Z db sv uv u l)(d:∀b,Z b->b<w.heap.size->w'.heap[b]?=w.heap[b]?):DrB w' Z db sv uv u l:=
 {h with
  c:=h.c.O (d db h.zd h.c.blk.lt) (λb a=>d b (h.zs b a) (h.c.row.lt b a).2)
  un:=dR h.un λb a=>d b (h.zu b a) (h.un.lt b a).2}
def el.O {S:eE}:∀{k:Nat} {T:Option MT} {w w':aw} {Z:ax} {db:Nat} {m:PM},el S k T w Z db m->(∀b,Z b->b<w.heap.size->w'.heap[b]?=w.heap[b]?)->el S k T w' Z db m
 |0,_,_,_,_,_,_,h,_=>h
 |_+1,_,_,_,_,_,_,⟨sv,uv,l,Y,hy,hs⟩,hk=>
  ⟨sv,uv,l,Y,{hy with toDrB:=hy.toDrB.O hk,yl:=λb a=>s9 (hy.yl b a) (hk b (hy.yz b a) (hy.yl b a))},hs.imp λ_ _ _ _ _ d h=>
   h.O (λ_ _ _ _ e f=>el.O f λb a c=>hk b (hy.yz b (d b (e b a))) c) (λb a c=>hk b (hy.yz b (d b a)) c)⟩
def el.V {S:eE}{k:Nat}{T:Option MT}{w:aw}{Z Z':ax}{db:Nat}{m:PM}(h:el S k T w Z db m)(d:∀b,Z b->Z' b):el S k T w Z' db m:=by
 cases k with
 |zero=>exact h
 |succ k=>
  obtain⟨sv,uv,l,Y,c,e⟩:=h;exact⟨sv,uv,l,Y,{c with zd:=d _ c.zd,zs:=λb a=>d b (c.zs b a),zu:=λb a=>d b (c.zu b a),yz:=λb a=>d b (c.yz b a)},e⟩
def el.lt {S:eE}{k:Nat}{T:Option MT}{w:aw}{Z:ax}{db:Nat}{m:PM}(h:el S k T w Z db m):db<w.heap.size/\Z db:=by
 cases k with
 |zero=>exact h.elim
 |succ k=>
  obtain⟨sv,uv,l,Y,a,b⟩:=h;exact⟨a.c.blk.lt,a.zd⟩
def i8.nums {S:eE}{R:Oy}{w:aw}{T:Option MT}:∀{l:List gw} {fs:List PF} {Y:ax},i8 (gO S R w T) Y l fs->fs.map (·.1)=l.map (·.1)
 | [],[],_,_=>rfl
 |_::_,_::_,_,⟨_,_,h1,h2,_⟩=>by simp[h2.nums,h1.1]
 | [],_::_,_,h=>h.elim
 |_::_,[],_,h=>h.elim
structure vX (S:eE)(k:Nat)(T:Option MT)(w1:aw)(Z1:ax)(db:Nat)(m:PM)(n:Int)(g:Nat)(pre:List gw)(x:gw)(post:List gw)(sv uv:Value)(A B:ax)(fp fq:List PF):Prop where
 own:sv.ownBlock=some g
 y:MZ w1 Z1 db sv uv m.unk (pre++x::post) (λb=>A b\/B b)
 len:fp.length=pre.length
 sep:i8 (gO S (el S k) w1 T) B (pre++post) (fp++fq)
 dis:∀b,A b->¬B b
 xn:x.1=n
 lo:∀f∈fp,f.1<n
 hi:∀f∈fq,n<f.1
 was:(∃old,m.fs=fp++(n,old)::fq/\gO S (el S k) w1 T x (n,old) A)\/(m.fs=fp++fq/\x=(n,ah,ah,.map none)/\∀b,¬A b)
def vX.put {S:eE}{k:Nat}{T:Option MT}{w1:aw}{Z1:ax}{db:Nat}{m:PM}{n:Int}{g:Nat}{pre:List gw}{x:gw}{post:List gw}{sv uv:Value}{A B:ax}{fp fq:List PF}
  (h:vX S k T w1 Z1 db m n g pre x post sv uv A B fp fq) {vs:List PV} (c:vs≠ []):m.put n vs= .mk (fp++(n,vs)::fq) m.unk:=by
 have b:vs.isEmpty=false:=by cases vs with
  |nil=>exact absurd rfl c
  |cons _ _=>rfl
 unfold PM.put;rw[b];rcases h.was with⟨a,e,_⟩|⟨e,_⟩;.rw[e,vW n vs a fq h.hi fp h.lo]
 .rw[e,sZ n vs fq h.hi fp h.lo]
def vX.close {S:eE}{k:Nat}{T:Option MT}{w1:aw}{Z1:ax}{db:Nat}{m:PM}{n:Int}{g:Nat}{pre:List gw}{x:gw}{post:List gw}{sv uv:Value}{A B:ax}{fp fq:List PF}
  (h:vX S k T w1 Z1 db m n g pre x post sv uv A B fp fq) {w2:aw} {x':gw} {vs:List PV} {A':ax} (s:CO w2 db sv uv (pre++x'::post)) (v:gO S (el S k) w2 T x' (n,vs) A') (u:vs≠ [])
  (i:∀b,A' b->Z1 b->b<w1.heap.size->A b) (j:∀b,A' b->b<w2.heap.size) (p:∀b,Z1 b->b<w1.heap.size->b≠g->¬A b->w2.heap[b]?=w1.heap[b]?):el S (k+1) T w2 (λb=>Z1 b\/A' b) db (m.put n vs):=by
 rw[h.put u];have l:∀b,B b->w2.heap[b]?=w1.heap[b]?:=λb a=>p b (h.y.yz b (.inr a)) (h.y.yl b (.inr a)) (λe=>h.y.ys g h.own (.inr (e▸a))) (λd=>h.dis b d a)
 have q:=h.y.c.blk.lt;refine⟨sv,uv,pre++x'::post,λb=>A' b\/B b,⟨⟨s,?_,.inl h.y.zd,λb a=> .inl (h.y.zs b a),λb a=> .inl (h.y.zu b a),h.y.su,h.y.ud⟩,?_,?_,?_,?_,?_⟩,?_⟩;.exact dR h.y.un λb a=>p b (h.y.zu b a) (h.y.un.lt b a).2 (λe=>h.y.su g h.own (e▸a)) (λd=>h.y.yu b a (.inl d))
 .rintro b (a|a);.exact .inr a
  .exact .inl (h.y.yz b (.inr a))
 .rintro b (a|a);.exact j b a
  .exact s9 (h.y.yl b (.inr a)) (l b a)
 .rintro(a|a);.exact h.y.yd (.inl (i db a h.y.zd q))
  .exact h.y.yd (.inr a)
 .rintro b c (a|a);.exact h.y.ys b c (.inl (i b a (h.y.zs b c) (h.y.c.row.lt b c).2))
  .exact h.y.ys b c (.inr a)
 .rintro b c (a|a);.exact h.y.yu b c (.inl (i b a (h.y.zu b c) (h.y.un.lt b c).2))
  .exact h.y.yu b c (.inr a)
 .refine i8.join (A:=A') (B:=B) h.len v ?_ (λb a=> .inl a) (λb a=> .inr a) (λb d a=>h.dis b (i b d (h.y.yz b (.inr a)) (h.y.yl b (.inr a))) a);exact h.sep.imp λy f C _ _ o c=>c.O (λ_ _ _ _ r t=>t.O λb a _=>l b (o b (r b a))) (λb a _=>l b (o b a))
section
open Tq
section
variable {S:eE} {k db:Nat} {T:Option MT} {w w1 w':aw} {m:PM} {uv:Value} {n:Int} {pre post:List gw} {x:gw} {Z1:ax} {src:Option Nat}
theorem pZ {Z:ax}{sv:Value}{l:List gw}{Y:ax}(d:MZ w Z db sv uv m.unk l Y)(z:i8 (gO S (el S k) w T) Y l m.fs)
  {e:Ending} (h:vU w db sv uv l n e w1):
  ∃g c pre x post A B fp fq,e= .returned (.pointer (some (ai g (pre.length*4))))/\vX S k T w1 (λb=>Z b\/b=g) db m n g pre x post (.slice (some (ai g 0)) (pre++x::post).length c) uv A B fp fq/\et w Z w1 (λb=>Z b\/b=g)/\(∀b,A b->Y b)/\dY (db::sv.ownBlock.toList) w w1:=by
 obtain⟨g,c,pre,x,post,rfl,U,D,G,o,j⟩:=h
 have L:∀b,Y b->w1.heap[b]?=w.heap[b]?:=λb a=>o.block b (d.yl b a) (λi=>by
  simp only[aR,df]at i;rcases i with rfl|i;.exact d.yd a
  .exact d.ys b i a)
 have E:∀b,uv.ownBlock=some b->w1.heap[b]?=w.heap[b]?:=λb a=>o.block b (d.un.lt b a).2 (λi=>by
  simp only[aR,df]at i;rcases i with rfl|i;.exact d.ud a
  .exact d.su b i a)
 have q:¬Y g:=λa=>by
  rcases j with j|j;.exact d.ys g j a
  .have:=d.yl g a;omega
 have u:uv.ownBlock≠some g:=λa=>by
  rcases j with j|j;.exact d.su g j a
  .have:=(d.un.lt g a).2;omega
 have I:∀b,(Value.slice (some (ai g 0)) (pre++x::post).length c).ownBlock=some b->b=g:=λb a=>by simpa [Value.ownBlock]using a.sy
 have N:et w Z w1 (λb=>Z b\/b=g):=⟨o.os,o.tape,o.output,o.size,λb a V=>o.block b a (λi=>by
   simp only[aR,df]at i;rcases i with rfl|i;.exact V d.zd
   .exact V (d.zs b i)),λb a=>by
   rcases a with a|rfl;.exact .inl a
   .rcases j with j|j;.exact .inl (d.zs _ j)
    .exact .inr j⟩
 have J:∀{y:gw} {f:PF} {C:ax},(∀b,C b->Y b)->gO S (el S k) w T y f C->gO S (el S k) w1 T y f C:=λs v=>v.O (λ_ _ _ _ i j=>j.O λb a _=>L b (s b (i b a))) (λb a _=>L b (s b a))
 have p:=U.srt;rw[cB,bU]at p
 have O:∀{fp:List PF},fp.map (·.1)=pre.map (·.1)->∀f∈fp,f.1<n:=fun{fp} e f t=>by
  have:f.1∈pre.map (·.1):=e▸aV.2 ⟨f,t,rfl⟩;have⟨y,d,F⟩:=aV.1 this;rw[<-F,<-D];exact p.2.2 y d x Tf
 have P:∀{fq:List PF},fq.map (·.1)=post.map (·.1)->∀f∈fq,n<f.1:=fun{fq} e f t=>by
  have:f.1∈post.map (·.1):=e▸aV.2 ⟨f,t,rfl⟩;have⟨y,d,F⟩:=aV.1 this;rw[<-F,<-D];exact p.2.1.1 y d
 have Q:∀(A B:ax),(∀b,A b->Y b)->(∀b,B b->Y b)->MZ w1 (λb=>Z b\/b=g) db (.slice (some (ai g 0)) (pre++x::post).length c) uv m.unk (pre++x::post) (λb=>A b\/B b):=λA B i j=>by
  have r:∀b,A b\/B b->Y b:=λb a=>a.elim (i b) (j b)
  exact⟨⟨U,dR d.un E,.inl d.zd,λb a=> .inr (I b a),λb a=> .inl (d.zu b a),λb a=>by rw[I b a];exact u,d.ud⟩,
   λb a=> .inl (d.yz b (r b a)),λb a=>s9 (d.yl b (r b a)) (L b (r b a)),λa=>d.yd (r db a),λb a E=>by rw[I b a]at E;exact q (r g E),λb a E=>d.yu b a (r b E)⟩
 rcases G with⟨rfl,d⟩|⟨rfl,i⟩
 .have⟨fp,f,fq,j,hlen,A,B,W,X,M,d,p⟩:=z.split;have t:f=(n,f.2):=by rw[<-D,W.1]
  have u:=X.nums;rw[bM,bM]at u;have⟨G,H⟩:=List.append_inj u (by simpa using hlen);refine⟨g,c,pre,x,post,A,B,fp,fq,rfl,⟨rfl,Q A B M d,hlen,X.imp λy q C _ _ s v=>J (λb a=>d b (s b a)) v,p,D,O G,P H,.inl ⟨f.2,by rw[j];rw[<-t],by rw[<-t];exact J M W⟩⟩,N,M,o⟩
 .have u:=z.nums;have a:=z.len;have K:m.fs=m.fs.take pre.length++m.fs.drop pre.length:=(b8 _ _).sy;rw[K,bM,bM]at u;have R:(m.fs.take pre.length).length=pre.length:=by rw[bG,<-a,bf];omega
  have⟨G,H⟩:=List.append_inj u (by simpa using R);rw[K]at z;refine⟨g,c,pre,x,post,λ_=>False,Y,m.fs.take pre.length,m.fs.drop pre.length,rfl,⟨rfl,Q _ Y (λ_ h=>h.elim) (λ_ h=>h),R,z.imp λy q C _ _ s v=>J s v,λ_ h=>h.elim,D,O G,P H,.inr ⟨K,i,λ_ h=>h⟩⟩,N,λ_ h=>h.elim,o⟩
theorem JF (pre post:List gw)(x x':gw)(j:Nat)(a:j<4)(v:Value)(h:(d8 x).set j v=d8 x'):((pre++x::post).flatMap d8).set (pre.length*4+j) v=(pre++x'::post).flatMap d8:=by
 have b:(pre.flatMap d8).length=pre.length*4:=by
  clear h
  induction pre with
  |nil=>rfl
  |cons y l ih=>rw[aW,bf,ih,gp,bF];omega
 rw[cZ,cZ,List.set_append_right _ _ Te,b,Nat.add_sub_cancel_left,aW,aW,<-h,List.set_append_left _ _ (by rw[gp];exact a)]
theorem CO.put {g c:Nat}{x':gw}(h:CO w db (.slice (some (ai g 0)) (pre++x::post).length c) uv (pre++x::post)){j:Nat}(n:j<4){v:Value}(k:x'.1=x.1)(m:pY x')(p:(d8 x).set j v=d8 x'):
  CO (w.setCell (ai g (pre.length*4+j)) v) db (.slice (some (ai g 0)) (pre++x::post).length c) uv (pre++x'::post):=by
 have l:g≠db:=λe=>h.ne (by rw[e];rfl)
 have hlen:(pre++x'::post).length=(pre++x::post).length:=Tf;refine⟨h.blk.other _ _ l,?_,?_,?_,h.ne,by rw[hlen];exact h.len⟩;.have:=lu h.row (o:=pre.length*4+j) v Tg;rw[JF pre post x x' j n v p]at this;rw[hlen];exact this
 .intro y d;simp only[aQ,aR]at d;rcases d with d|rfl|d;.exact h.form y (by simp[d])
  .exact m
  .exact h.form y (by simp[d])
 .have:=h.srt;rw[cB,bU]at this⊢;refine⟨this.1,⟨λy d=>by rw[k];exact this.2.1.1 y d,this.2.1.2⟩,λa i b f=> ?_⟩;rcases aR.1 f with rfl|f;.rw[k];exact this.2.2 a i x Tf
  .exact this.2.2 a i b (by simp[f])
theorem vX.cells {g c:Nat}{A B:ax}{fp fq:List PF}
  (h:vX S k T w1 Z1 db m n g pre x post (.slice (some (ai g 0)) (pre++x::post).length c) uv A B fp fq) (b:w'.heap[g]?=w1.heap[g]?):
  w'.cell? (ai g (pre.length*4))=some (aa n)/\w'.cell? (ai g (pre.length*4+1))=some x.2.1/\w'.cell? (ai g (pre.length*4+2))=some x.2.2.1/\w'.cell? (ai g (pre.length*4+3))=some x.2.2.2/\∀o,w'.frozen? (ai g o)=false:=by
 have p:(pre++x::post)[pre.length]?=some x:=Tf;have⟨q,e,_,l⟩:=rS h.y.c.row p;cases e;have⟨a,d,f,i⟩:=l w' b;rw[h.xn]at a;refine⟨a,d,f,i,?_⟩;have⟨cs,j⟩:=eo h.y.c.row h.own;exact(dP.I (b.J j)).2
theorem vX.vals {g c:Nat}{A B:ax}{fp fq:List PF}
  (h:vX S k T w1 Z1 db m n g pre x post (.slice (some (ai g 0)) (pre++x::post).length c) uv A B fp fq) {w9:aw} {gg cap N:Nat} {lv:List LV} {cs:ay} (f:∀b,src=some b->A b) (y:lv≠ []) (p:aj w1 w') (a:w'.grownBy w9 src)
  (w:w9.ownsRow 0 55 4 (Ta gg N cap) N cs) (K:N=lv.length) (q:cs=lv.flatMap lV) (i:src=some gg\/w1.heap.size<=gg) (r:ot S T n .vals) (s:x.2.2.1=ah) (t:x.2.2.2= .map none):
  ∃Z',et w1 Z1 (w9.setCell (ai g (pre.length*4+1)) (Ta gg N cap)) Z'/\el S (k+1) T (w9.setCell (ai g (pre.length*4+1)) (Ta gg N cap)) Z' db (m.put n (lv.map qF)):=by
 subst K q;have E:=(h.y.c.row.lt g h.own).2;have F:=h.y.c.blk.lt;have o:∀b,b<w1.heap.size->¬A b->w9.heap[b]?=w1.heap[b]?:=λb d l=>(a.block b (aI d p.size) (λe=>l (f b e.sy))).J (p.block b d)
 have u:¬A g:=λl=>h.y.ys g h.own (.inl l)
 have G:¬A db:=λl=>h.y.yd (.inl l)
 have J:gg<w9.heap.size:=(w.lt gg rfl).2
 have C:gg≠g:=λe=>by
  rcases i with i|i;.exact u (f g (e▸i))
  .omega
 have H:=h.y.c.O (w':=w9) (o db F G) (λb d=>by
  have:g=b:=by simpa [Value.ownBlock]using d
  subst this
  exact o _ E u)
 have D:=H.put (j:=1) Te (v:= Ta gg lv.length cap) (x':=(x.1,Ta gg lv.length cap,ah,.map none)) rfl ⟨⟨_,_,_,rfl⟩,⟨_,_,_,rfl⟩,_,rfl⟩ (by simp[d8,s,t]);refine⟨λb=>Z1 b\/b=gg,⟨?_,?_,?_,?_,?_,?_⟩,h.close D (A':=λb=>b=gg) ⟨h.xn,.inl ⟨by rw[h.xn];exact r,lv,y,rfl,⟨?_,?_⟩,rfl,rfl⟩⟩ (by simpa using y) ?_ ?_ ?_⟩;.exact a.os.J p.os
 .exact a.tape.J p.tape
 .exact a.output.J p.output
 .simpa using aL p.size a.size
 .intro b d z;rw[dM,dG (λe=>z (by rw[<-e];exact h.y.zs g h.own))];exact o b d (λl=>z (h.y.yz b (.inl l)))
 .rintro b (d|rfl);.exact .inl d
  .rcases i with i|i;.exact .inl (h.y.yz _ (.inl (f _ i)))
   .exact .inr i
 .refine dR w λb d=> ?_
  obtain rfl:gg=b:=by simpa [Value.ownBlock]using d
  rw[dM,dG (λe=>C e.sy)]
 .intro b d;simpa [Value.ownBlock]using d.sy
 .rintro b rfl _ L;rcases i with i|i;.exact f _ i
  .omega
 .rintro b rfl;simpa using J
 .intro b _ d I l;rw[dM,dG (λe=>I e.sy)];exact o b d l
end
section
variable {db k:Nat} {l pre post:List gw} {Y:ax} {S:eE} {T:Option MT}
theorem MZ.O {w w':aw}{Z:ax}{sv uv:Value}{u:au}(a:MZ w Z db sv uv u l Y)(d:∀b,Z b->b<w.heap.size->w'.heap[b]?=w.heap[b]?):MZ w' Z db sv uv u l Y:=
 {a with toDrB:=a.toDrB.O d,yl:=λb c=>s9 (a.yl b c) (d b (a.yz b c) (a.yl b c))}
theorem mF {w w':aw}{fs:List PF}(i:i8 (gO S (el S k) w T) Y l fs)(e:∀b,Y b->b<w.heap.size->w'.heap[b]?=w.heap[b]?):i8 (gO S (el S k) w' T) Y l fs:=
 i.imp λ_ _ _ _ _ d h=>h.O (λ_ _ _ _ f g=>g.O λb a c=>e b (d b (f b a)) c) (λb a c=>e b (d b a) c)
theorem vX.ofVals {w1:aw}{Z1:ax}{m:PM}{n:Int}{g:Nat}{x:gw}{sv uv:Value}{A B:ax}{fp fq:List PF}
  (h:vX S k T w1 Z1 db m n g pre x post sv uv A B fp fq) (i:(∀kd,ot S T n kd->kd= .vals)\/∀f∈m.fs,f.1≠n):
  (x.2.2.1=ah/\x.2.2.2= .map none)/\((x.2.1=ah/\m.get n= [])\/∃gv cc lv,lv≠ []/\x.2.1= Ta gv lv.length cc/\A gv/\m.get n=lv.map qF/\w1.ownsRow 0 55 4 (Ta gv lv.length cc) lv.length (lv.flatMap lV)):=by
 rcases h.was with⟨a,e,s⟩|⟨e,rfl,_⟩
 .obtain⟨w,o⟩:=s;have p:(n,a)∈m.fs:=by rw[e];simp
  have r:m.get n=a:=(by unfold PM.get;rw[e];exact qG n a fq fp h.lo);rw[h.xn]at o;have j:=i.resolve_right (λq=>q _ p rfl);rcases o with⟨_,lv,b⟩|⟨q,_⟩|⟨t,q,_⟩
  .refine⟨⟨b.c2,b.c3⟩,.inr ?_⟩;have d:=b.row;rcases d.1.2 with⟨_,u⟩|⟨gv,cc,v,l,_⟩;.exact absurd (br u) b.ne
   .rw[l]at d;exact⟨gv,cc,lv,b.ne,l,d.2 gv rfl,r.J b.pm,d.1⟩
  .exact absurd (j _ q) Tf
  .exact absurd (j _ q) Tf
 .refine⟨⟨rfl,rfl⟩,.inl ⟨rfl,?_⟩⟩;unfold PM.get;rw[e];refine nD n _ λf c=> ?_
  rcases aQ.1 c with c|c;.have:=h.lo f c;omega
  .have:=h.hi f c;omega
def jN (S:eE)(k:Nat)(T:Option MT)(w:aw)(Z:ax)(db:Nat)(m:PM)(e:Ending)(w':aw):Prop:=e= .returned (.tuple #[])/\∃Z',et w Z w' Z'/\el S (k+1) T w' Z' db m
theorem AT (S:eE)(k:Nat)(T:Option MT)(w:aw)(Z:ax)(db:Nat)(m:PM)(n:Int)(v:LV)(h:el S (k+1) T w Z db m)(L:ot S T n .vals)(H:(∀kd,ot S T n kd->kd= .vals)\/∀f∈m.fs,f.1≠n)(c:m.fs.length<1073741824):
  Calls prog 195 #[ag db,aa n,vR v] w (jN S k T w Z db (m.put n [qF v])):=by
 have⟨i0,R,U,V,W⟩:=info_parts Tryz.infoV;obtain⟨sv,uv,l,Y,y,o⟩:=h;have⟨z,d⟩:=eY w #[.int .u64 v.1,ae v.2,ah,S8] 55;have a:=y.c.blk.lt;have i:=y.c.row.lt;have a:=y.O (λb _ F=>z.block b F);have j:=mF o (λb _ F=>z.block b F);have e:=tU _ db sv uv l n a.c (by rw[o.len];exact c);have c:∀b,Y b->b<w.heap.size:=y.yl;unfold vR;go_in
 go_wp2_with fail;generalize w.alloc (ak #[.int .u64 v.1,ae v.2,ah,S8] 55)=w0 at*;refine e.V ?_;rintro e w1 p;obtain⟨g,c,pre,x,post,A,B,q,r,rfl,O,s,l,K⟩:=pZ a j p
 have P:=d.kept K (by
  simp only[aR,df,not_or]
  exact⟨Te,λe=>by have:=(i _ e).2;omega⟩)
 have⟨a,c⟩:=P.I;have⟨⟨x,y⟩,t⟩:=O.ofVals H;have⟨a,c,d,i,j⟩:=O.cells rfl;have Q:=(O.y.c.row.lt g rfl).2;have a:w.heap.size<w1.heap.size:=P.lt
 have d:∀(w' i:aw) (a:Option Nat),aj w1 w'->w'.grownBy i a->(∀b,a=some b->A b)->i.heap[g]?=w1.heap[g]?:=λw' i a u G o=>
  (G.block g (aI Q u.size) (λe=>O.y.ys g rfl (.inl (o g e.sy)))).J (u.block g Q)
 have M:Hid (∀(w' i:aw) (a:Option Nat),aj w1 w'->w'.grownBy i a->(∀b,a=some b->A b)->i.heap[g]?=w1.heap[g]?):=d
 have N:Hid (∀(w' i:aw) (a:Option Nat) (j d:Nat) (cs:ay),aj w1 w'->w'.grownBy i a->(∀b,a=some b->A b)->i.ownsRow 0 55 4 (Ta j 1 d) 1 cs->cs=lV v->(a=some j\/j=w1.heap.size+1)->
   jN S k T w Z db (m.put n [qF v]) (.returned (.tuple #[])) (i.setCell (ai g (pre.length*4+1)) (Ta j 1 d))):=by
  intro w' i a j d cs u G o p g l;have⟨a,q,r⟩:=O.vals (lv:= [v]) o Tf u G p rfl (by simp[g]) (l.imp id (λe=>Te)) L x y;refine⟨rfl,a,?_,r⟩;have a:et w Z w0 Z:=(et.refl w Z).G z;exact(a.J s).J q
 rcases t with⟨J,g⟩|⟨s,E,lv,o,J,X,l,a⟩
 .rw[J]at c;have p:aj w1 (w1.drew.alloc (ak #[.int .u64 v.1,ae v.2,ah,S8] 55)):=((Below.refl _ _).drew).alloc (aD _) _;go_upto_region 2 with fail
  go_region_law (first|(refine step_append_lies _ Tk _ _ _ Tk 0 55 i0 _ 4 64 underlying56 R U V W rfl Te (ah) 0 [] Tk (aX _ _ _ _) (ai w1.heap.size 0) 1 1 [_,_,_,_] Tk Tk (aY (t:=55) (fr:=(0,0)) (heap_alloc_new w1.drew _)) Tm Te Tl Te Te (w1.heap.size+1) Tf ?_;intro j d i C r D g;have⟨x,y,z,A,B⟩:=O.cells (M.o _ i _ p r (λb e=>by cases e))))
  all_goals
   go_end0;exact N.o _ i _ j d _ p r (λb e=>by cases e) C rfl D
 .rw[J]at c;have p:aj w1 (w1.drew.alloc (ak #[.int .u64 v.1,ae v.2,ah,S8] 55)):=((Below.refl _ _).drew).alloc (aD _) _
  have I:w1.ownsRow 0 55 4 (Ta s 0 E) 0 []:=by
   refine⟨rfl,.inr ?_⟩;rcases a.2 with⟨q,_⟩|⟨F,d,c,q,G,l,H,o,u,J⟩;.cases q
   .cases q;exact⟨s,E,c,rfl,aM _,l,aM _,o,u,Tf⟩
  have c:=(a.lt s rfl).2;go_upto_region 2 with fail
  go_region_law (first|(refine step_append_lies _ Tk _ _ _ Tk 0 55 i0 _ 4 64 underlying56 R U V W rfl Te (Ta s 0 E) 0 [] Tk (I.drew.alloc _) (ai w1.heap.size 0) 1 1 [_,_,_,_] Tk Tk (aY (t:=55) (fr:=(0,0)) (heap_alloc_new w1.drew _)) Tm Te Tl Te Te (w1.heap.size+1) Tf ?_;intro j d i C r D g;have⟨x,y,z,A,B⟩:=O.cells (M.o _ i _ p r (λb e=>by cases e;exact X))))
  all_goals
   go_end0;exact N.o _ i _ j d _ p r (λb e=>by cases e;exact X) C rfl D
end
end
end Go.Proofs.YtfebdimolnobaaaGreatDoor
