import Derived.Test.YtfebdimolnobaaaGreatDoorWkA
import Derived.Test.YtfebdimolnobaaaGreatDoorTreeOK
set_option maxRecDepth 100000
set_option maxHeartbeats 8000000
set_option linter.all false
namespace Go.Proofs.YtfebdimolnobaaaGreatDoor
open Go.RowKit Go.Proofs.Tryz
section
variable {α β:Type}
def jY {α β:Type}(P:α->β->(ax)->Prop):(ax)->List α->List β->Prop
 |_,[],[]=>True
 |Y,x::l,y::r=>∃A B:ax,P x y A/\jY P B l r/\(∀b,A b->Y b)/\(∀b,B b->Y b)/\∀b,A b->¬B b
 |_,[],_::_=>False
 |_,_::_,[]=>False
theorem jY.V {P:α->β->(ax)->Prop}{Y Z:ax}(hY:∀b,Y b->Z b):∀{l:List α} {r:List β},jY P Y l r->jY P Z l r
 | [],[],_=>trivial
 |_::_,_::_,⟨A,B,h1,h2,h3,h4,h5⟩=>⟨A,B,h1,h2,λb h=>hY b (h3 b h),λb h=>hY b (h4 b h),h5⟩
 | [],_::_,h=>h.elim
 |_::_,[],h=>h.elim
theorem jY.imp {P Q:α->β->(ax)->Prop}:∀{l:List α} {r:List β} {Y:ax},jY P Y l r->(∀x y A,x∈l->y∈r->(∀b,A b->Y b)->P x y A->Q x y A)->jY Q Y l r
 | [],[],_,_,_=>trivial
 |_::_,_::_,_,⟨A,B,h1,h2,h3,h4,h5⟩,h=>⟨A,B,h _ _ A Vd Vd h3 h1,h2.imp (λx y C hx hy hC=>h x y C (by simp[hx]) (by simp[hy]) (λb hb=>h4 b (hC b hb))),h3,h4,h5⟩
 | [],_::_,_,h,_=>h.elim
 |_::_,[],_,h,_=>h.elim
theorem jY.len {P:α->β->(ax)->Prop}:∀{l:List α} {r:List β} {Y:ax},jY P Y l r->l.length=r.length
 | [],[],_,_=>rfl
 |_::_,_::_,_,⟨_,_,_,h2,_⟩=>by simp[h2.len]
 | [],_::_,_,h=>h.elim
 |_::_,[],_,h=>h.elim
theorem jY.split {P:α->β->(ax)->Prop}:∀{pre:List α} {x:α} {post:List α} {r:List β} {Y:ax},jY P Y (pre++x::post) r->
  ∃rp y rq,r=rp++y::rq/\rp.length=pre.length/\∃A B:ax,P x y A/\jY P B (pre++post) (rp++rq)/\(∀b,A b->Y b)/\(∀b,B b->Y b)/\∀b,A b->¬B b
 | [],_,_,[],_,h=>h.elim
 | [],_,_,y::rq,_,⟨A,B,h1,h2,h3,h4,h5⟩=>⟨[],y,rq,rfl,rfl,A,B,h1,h2,h3,h4,h5⟩
 |_::_,_,_,[],_,h=>h.elim
 |_::_,_,_,q::_,_,⟨A,B,h1,h2,h3,h4,h5⟩=>by
  obtain⟨rp,y,rq,rfl,hl,A1,B1,q1,q2,q3,q4,q5⟩:=h2.split;refine⟨q::rp,y,rq,rfl,by simp[hl],A1,λb=>A b\/B1 b,q1,⟨A,B1,h1,q2,λb h=> .inl h,λb h=> .inr h,λb ha hb=>h5 b ha (q4 b hb)⟩,λb h=>h4 b (q3 b h),?_,?_⟩
  .rintro b (h|h);.exact h3 b h
   .exact h4 b (q4 b h)
  .rintro b ha (h|h);.exact h5 b h (q3 b ha)
   .exact q5 b ha h
theorem jY.join {P:α->β->(ax)->Prop}:∀{pre:List α} {x:α} {post:List α} {rp:List β} {y:β} {rq:List β} {A B Y:ax},rp.length=pre.length->P x y A->jY P B (pre++post) (rp++rq)->
  (∀b,A b->Y b)->(∀b,B b->Y b)->(∀b,A b->¬B b)->jY P Y (pre++x::post) (rp++y::rq)
 | [],_,_,[],_,_,A,B,_,_,h1,h2,h3,h4,h5=>⟨A,B,h1,h2,h3,h4,h5⟩
 | [],_,_,_::_,_,_,_,_,_,hl,_,_,_,_,_=>by simp at hl
 |_::_,_,_,[],_,_,_,_,_,hl,_,_,_,_,_=>by simp at hl
 |_::_,_,_,_::_,_,_,A,_,_,hl,h1,⟨C,D,q1,q2,q3,q4,q5⟩,h3,h4,h5=>by
  refine⟨C,λb=>A b\/D b,q1,jY.join (by simpa using hl) h1 q2 (λb h=> .inl h) (λb h=> .inr h) (λb h hd=>h5 b h (q4 b hd)),λb h=>h4 b (q3 b h),?_,?_⟩
  .rintro b (h|h);.exact h3 b h
   .exact h4 b (q4 b h)
  .rintro b hc (h|h);.exact h5 b h (q3 b hc)
   .exact q5 b hc h
theorem jY.filter {P:α->β->(ax)->Prop}{p:α->Bool}{q:β->Bool}(hpq:∀x y A,P x y A->p x=q y):∀{l:List α} {r:List β} {Y:ax},jY P Y l r->jY P Y (l.filter p) (r.filter q)
 | [],[],_,_=>trivial
 |x::_,y::_,_,⟨A,B,h1,h2,h3,h4,h5⟩=>by
  rw[cl,cl,hpq x y A h1]
  cases q y with
  |true=>exact⟨A,B,h1,h2.filter hpq,h3,h4,h5⟩
  |false=>exact(h2.filter hpq).V h4
 | [],_::_,_,h=>h.elim
 |_::_,[],_,h=>h.elim
theorem jY.append {P:α->β->(ax)->Prop}:∀{l:List α} {r:List β} {l':List α} {r':List β} {A B Y:ax},jY P A l r->jY P B l' r'->(∀b,A b->Y b)->(∀b,B b->Y b)->(∀b,A b->¬B b)->jY P Y (l++l') (r++r')
 | [],[],_,_,_,_,_,_,h2,_,h4,_=>h2.V h4
 |_::_,_::_,_,_,A,B,_,⟨C,D,q1,q2,q3,q4,q5⟩,h2,h3,h4,h5=>by
  refine⟨C,λb=>D b\/B b,q1,q2.append h2 (λb h=> .inl h) (λb h=> .inr h) (λb h=>h5 b (q4 b h)),λb h=>h3 b (q3 b h),?_,?_⟩
  .rintro b (h|h);.exact h3 b (q4 b h)
   .exact h4 b h
  .rintro b hc (h|h);.exact q5 b hc h
   .exact h5 b (q3 b hc) h
 | [],_::_,_,_,_,_,_,h,_,_,_,_=>h.elim
 |_::_,[],_,_,_,_,_,h,_,_,_,_=>h.elim
inductive Kd where
 |vals
 |msgs
 |ents (t:au)
def pM (S:eD)(f:fo):Kd:=if f.isMap then .ents f.key else if(fy S f).isSome then .msgs else .vals
def oJ (S:eD)(T:Option MT)(n:Int)(kd:Kd):Prop:=∀d f,T=some d->d9 d.fs n=some f->kd=pM S f
def oq (S:eD)(T:Option MT)(n:Int):Option MT:=T.bind λd=>(d9 d.fs n).bind (fy S)
def vu (T:Option MT)(n:Int):Prop:=∃d f,T=some d/\d9 d.fs n=some f/\f.isRep=false
def mR (v:LV):ay:= [.int .u64 v.1,ag v.2,ai,U7]
def qq (v:LV):PV:=(v.1,v.2,PM.none)
def rJ (p:Nat):Value:=ah p
def ko (t:au)(v:PV):LV:=(if fi jm t then(v.1+9223372036854775808)%2^64 else v.1,v.2.1)
def lG (a b:LV):Prop:=a.1<b.1\/(a.1=b.1/\Op.bytesLess a.2.toList b.2.toList=true)
def jZ:List LV->aB->LV->Option Nat
 |k::l,p::r,q=>if k.1=q.1/\gN k.2 q.2=true then some p else jZ l r q
 |_,_,_=>none
def St:Option Nat->DataW Unit->DataW Unit
 |some p,_=>oH (some p)
 |none,z=>z
def kV (k:LV):Value:= .agg #[.int .u64 k.1,ag k.2]
def j0 (w:aw)(mb:Nat)(ks:List LV)(ps:aB):Prop:=
 ∃D,w.ownsMap prog 386 gL mb ks.length D/\Go.Maps.size D=ks.length/\(∀(k:LV) kl,Go.keyOf prog 386 (kV k)=some kl->∀z,D.atKey kl z=St (jZ ks ps k) z)
abbrev PU:=Option MT->aw->(ax)->Nat->PM->Prop
structure Uh (w:aw)(x:gF)(f:PF)(A:ax)(lv:List LV):Prop where
 ne:lv≠ []
 pm:f.2=lv.map qq
 row:eO w A 55 4 x.2.1 lv.length (lv.flatMap mR)
 c2:x.2.2.1=ai
 c3:x.2.2.2= .map none
def mV (m:PM):PV:=(0,eS,m)
structure Ui (R:PU)(w:aw)(T:Option MT)(L:Prop)(x:gF)(f:PF)(A:ax)(ps:aB)(B:ax):Prop where
 ne:ps≠ []
 lone:L->ps.length=1
 c1:x.2.1=ai
 c3:x.2.2.2= .map none
 row:eO w A 180 1 x.2.2.1 ps.length (ps.map rJ)
 inA:∀b,B b->A b
 own:∀b,x.2.2.1.ownBlock=some b->¬B b
 sub:jY (λp v C=>v=mV v.2.2/\R T w C p v.2.2) B ps f.2
 len:ps.length<=1073741824
structure Uj (R:PU)(w:aw)(x:gF)(f:PF)(A:ax)(t:au)(mb:Nat)(ps:aB)(B:ax):Prop where
 ne:ps≠ []
 c1:x.2.1=ai
 c2:x.2.2.1=ai
 c3:x.2.2.2= .map (some mb)
 map:j0 w mb (f.2.map λv=>ko t (fQ v)) ps
 inA:∀b,B b->A b
 inM:A mb
 own:¬B mb
 key:∀v∈f.2,Ff t (fQ v)
 srt:f.2.Pairwise (λa b=>lG (ko t (fQ a)) (ko t (fQ b)))
 sub:jY (λp v C=>v=mV v.2.2/\R none w C p v.2.2) B ps f.2
 len:ps.length<=1073741824
def gV (S:eD)(R:PU)(w:aw)(T:Option MT)(x:gF)(f:PF)(A:ax):Prop:=
 x.1=f.1/\((oJ S T x.1 .vals/\∃lv,Uh w x f A lv)\/(oJ S T x.1 .msgs/\∃ps B,Ui R w (oq S T x.1) (vu T x.1) x f A ps B)\/∃t,oJ S T x.1 (.ents t)/\∃mb ps B,Uj R w x f A t mb ps B)
structure DrB (w:aw)(Z:ax)(db:Nat)(sv uv:Value)(u:au)(l:List gF):Prop where
 c:DN w db sv uv l
 un:w.ownsRow 0 5 1 uv u.size (Lib.strCells u)
 zd:Z db
 zs:∀b,sv.ownBlock=some b->Z b
 zu:∀b,uv.ownBlock=some b->Z b
 su:∀b,sv.ownBlock=some b->uv.ownBlock≠some b
 ud:uv.ownBlock≠some db
structure Oo (w:aw)(Z:ax)(db:Nat)(sv uv:Value)(u:au)(l:List gF)(Y:ax):Prop extends DrB w Z db sv uv u l where
 yz:∀b,Y b->Z b
 yl:∀b,Y b->b<w.heap.size
 yd:¬Y db
 ys:∀b,sv.ownBlock=some b->¬Y b
 yu:∀b,uv.ownBlock=some b->¬Y b
def eM (S:eD):Nat->PU
 |0,_,_,_,_,_=>False
 |k+1,T,w,Z,db,m=>∃sv uv l Y,Oo w Z db sv uv m.unk l Y/\jY (gV S (eM S k) w T) Y l m.fs
end
def mX (n:Int)(vs:List PV):∀l:List PF,ic n vs true l=l.filter (λx=>decide (x.1≠n))
 | []=>rfl
 |x::l=>by
  rw[ic,cl];simp only[dA,cT,aU,if_false,aX,dl];rw[mX n vs l];by_cases h:x.1=n<;>simp[h]
def mY (n:Int):∀l:List PF,(∀x∈l,x.1≠n)->l.filter (λx=>decide (x.1≠n))=l:=λl h=>cZ.2 (λx hx=>by simp[h x hx])
def ti (n:Int)(vs:List PV)(fq:List PF)(hq:∀x∈fq,n<x.1):∀fp:List PF,(∀x∈fp,x.1<n)->ic n vs false (fp++fq)=fp++(n,vs)::fq
 | [],_=>by
  cases fq with
  |nil=>rfl
  |cons y r=>
   have hy:=hq y Vd;simp only[aX];have h1:decide (n<=y.1)=true:=Ve;have h2:¬y.1=n:=Vc;rw[ic,h1,dF,mX,mY n r (λx hx=>by have:=hq x (by simp[hx]);omega)]
   simp[h2]
 |x::fp,hp=>by
  have hx:=hp x Vd;rw[bo,ic];have h1:decide (n<=x.1)=false:=Ve;have h2:¬x.1=n:=Vc;rw[h1];simp only[dI,cU,aU,if_false,aX,h2,da];rw[ti n vs fq hq fp (λy hy=>hp y (by simp[hy]))];rfl
def wL (n:Int)(vs old:List PV)(fq:List PF)(hq:∀x∈fq,n<x.1):∀fp:List PF,(∀x∈fp,x.1<n)->ic n vs false (fp++(n,old)::fq)=fp++(n,vs)::fq
 | [],_=>by
  simp only[aX];rw[ic];simp only[cK,decide_true,dI,dz,if_true,aX,dF];rw[mX,mY n fq (λx hx=>by have:=hq x hx;omega)]
  rfl
 |x::fp,hp=>by
  have hx:=hp x Vd;rw[bo,ic];have h1:decide (n<=x.1)=false:=Ve;have h2:¬x.1=n:=Vc;rw[h1];simp only[dI,cU,aU,if_false,aX,h2,da];rw[wL n vs old fq hq fp (λy hy=>hp y (by simp[hy]))];rfl
def qZ (n:Int)(old:List PV)(fq:List PF):∀fp:List PF,(∀x∈fp,x.1<n)->gR (fp++(n,old)::fq) n=old
 | [],_=>by simp[gR]
 |x::fp,hp=>by
  have hx:=hp x Vd;have h2:¬x.1=n:=Vc;simp only[bo,gR,h2,if_false];exact qZ n old fq fp (λy hy=>hp y (by simp[hy]))
def nV (n:Int):∀l:List PF,(∀x∈l,x.1≠n)->gR l n= []
 | [],_=>rfl
 |x::l,h=>by
  simp only[gR,h x Vd,if_false];exact nV n l (λy hy=>h y (by simp[hy]))
def j0.O {w w':aw}{mb:Nat}{ks:List LV}{ps:aB}(h:j0 w mb ks ps)(hb:w'.heap[mb]?=w.heap[mb]?):j0 w' mb ks ps:=by
 obtain⟨D,h1,h2,h3⟩:=h;exact⟨D,kZ h1 hb,h2,h3⟩
def j0.lt {w:aw}{mb:Nat}{ks:List LV}{ps:aB}(h:j0 w mb ks ps):mb<w.heap.size:=by
 obtain⟨D,h1,_⟩:=h;exact h1.lt
def tj {w w':aw}{b:Nat}(hl:b<w.heap.size)(h:w'.heap[b]?=w.heap[b]?):b<w'.heap.size:=by
 by_cases q:b<w'.heap.size;.exact q
 .rw[cI Vc,bU hl]at h;cases h
def gV.O {S:eD}{R:PU}{w w':aw}{T:Option MT}{x:gF}{f:PF}{A:ax}(hR:∀T C p m,(∀b,C b->A b)->R T w C p m->R T w' C p m)
  (hk:∀b,A b->b<w.heap.size->w'.heap[b]?=w.heap[b]?) (h:gV S R w T x f A):gV S R w' T x f A:=by
 obtain⟨h1,h2⟩:=h;refine⟨h1,?_⟩;rcases h2 with⟨q,lv,h⟩|⟨q,ps,B,h⟩|⟨t,q,mb,ps,B,h⟩;.exact .inl ⟨q,lv,{h with row:=h.row.O hk}⟩
 .exact .inr (.inl ⟨q,ps,B,{h with row:=h.row.O hk,sub:=h.sub.imp λp v C _ _ hC hp=>⟨hp.1,hR _ _ _ _ (λb hb=>h.inA b (hC b hb)) hp.2⟩}⟩)
 .exact .inr (.inr ⟨t,q,mb,ps,B,{h with map:=h.map.O (hk mb h.inM h.map.lt),sub:=h.sub.imp λp v C _ _ hC hp=>⟨hp.1,hR _ _ _ _ (λb hb=>h.inA b (hC b hb)) hp.2⟩}⟩)
def DrB.O {w w':aw}{Z:ax}{db:Nat}{sv uv:Value}{u:au}{l:List gF}(h:DrB w Z db sv uv u l)(hk:∀b,Z b->b<w.heap.size->w'.heap[b]?=w.heap[b]?):DrB w' Z db sv uv u l:=
 {h with
  c:=h.c.O (hk db h.zd h.c.blk.lt) (λb hb=>hk b (h.zs b hb) (h.c.row.lt b hb).2)
  un:=ew h.un λb hb=>hk b (h.zu b hb) (h.un.lt b hb).2}
def eM.O {S:eD}:∀{k:Nat} {T:Option MT} {w w':aw} {Z:ax} {db:Nat} {m:PM},eM S k T w Z db m->(∀b,Z b->b<w.heap.size->w'.heap[b]?=w.heap[b]?)->eM S k T w' Z db m
 |0,_,_,_,_,_,_,h,_=>h
 |_+1,_,_,_,_,_,_,⟨sv,uv,l,Y,hy,hs⟩,hk=>
  ⟨sv,uv,l,Y,{hy with toDrB:=hy.toDrB.O hk,yl:=λb hb=>tj (hy.yl b hb) (hk b (hy.yz b hb) (hy.yl b hb))},hs.imp λ_ _ _ _ _ hA h=>
   h.O (λ_ _ _ _ hC hr=>eM.O hr λb hb hl=>hk b (hy.yz b (hA b (hC b hb))) hl) (λb hb hl=>hk b (hy.yz b (hA b hb)) hl)⟩
def eM.V {S:eD}{k:Nat}{T:Option MT}{w:aw}{Z Z':ax}{db:Nat}{m:PM}(h:eM S k T w Z db m)(hz:∀b,Z b->Z' b):eM S k T w Z' db m:=by
 cases k with
 |zero=>exact h
 |succ k=>
  obtain⟨sv,uv,l,Y,hy,hs⟩:=h;exact⟨sv,uv,l,Y,{hy with zd:=hz _ hy.zd,zs:=λb hb=>hz b (hy.zs b hb),zu:=λb hb=>hz b (hy.zu b hb),yz:=λb hb=>hz b (hy.yz b hb)},hs⟩
def eM.lt {S:eD}{k:Nat}{T:Option MT}{w:aw}{Z:ax}{db:Nat}{m:PM}(h:eM S k T w Z db m):db<w.heap.size/\Z db:=by
 cases k with
 |zero=>exact h.elim
 |succ k=>
  obtain⟨sv,uv,l,Y,hy,hs⟩:=h;exact⟨hy.c.blk.lt,hy.zd⟩
def jY.nums {S:eD}{R:PU}{w:aw}{T:Option MT}:∀{l:List gF} {fs:List PF} {Y:ax},jY (gV S R w T) Y l fs->fs.map (·.1)=l.map (·.1)
 | [],[],_,_=>rfl
 |_::_,_::_,_,⟨_,_,h1,h2,_⟩=>by simp[h2.nums,h1.1]
 | [],_::_,_,h=>h.elim
 |_::_,[],_,h=>h.elim
structure wM (S:eD)(k:Nat)(T:Option MT)(w1:aw)(Z1:ax)(db:Nat)(m:PM)(n:Int)(g:Nat)(pre:List gF)(x:gF)(post:List gF)(sv uv:Value)(A B:ax)(fp fq:List PF):Prop where
 own:sv.ownBlock=some g
 y:Oo w1 Z1 db sv uv m.unk (pre++x::post) (λb=>A b\/B b)
 len:fp.length=pre.length
 sep:jY (gV S (eM S k) w1 T) B (pre++post) (fp++fq)
 dis:∀b,A b->¬B b
 xn:x.1=n
 lo:∀f∈fp,f.1<n
 hi:∀f∈fq,n<f.1
 was:(∃old,m.fs=fp++(n,old)::fq/\gV S (eM S k) w1 T x (n,old) A)\/(m.fs=fp++fq/\x=(n,ai,ai,.map none)/\∀b,¬A b)
def wM.put {S:eD}{k:Nat}{T:Option MT}{w1:aw}{Z1:ax}{db:Nat}{m:PM}{n:Int}{g:Nat}{pre:List gF}{x:gF}{post:List gF}{sv uv:Value}{A B:ax}{fp fq:List PF}
  (h:wM S k T w1 Z1 db m n g pre x post sv uv A B fp fq) {vs:List PV} (hv:vs≠ []):m.put n vs= .mk (fp++(n,vs)::fq) m.unk:=by
 have he:vs.isEmpty=false:=by cases vs with
  |nil=>exact absurd rfl hv
  |cons _ _=>rfl
 unfold PM.put;rw[he];rcases h.was with⟨old,e,_⟩|⟨e,_⟩;.rw[e,wL n vs old fq h.hi fp h.lo]
 .rw[e,ti n vs fq h.hi fp h.lo]
def wM.close {S:eD}{k:Nat}{T:Option MT}{w1:aw}{Z1:ax}{db:Nat}{m:PM}{n:Int}{g:Nat}{pre:List gF}{x:gF}{post:List gF}{sv uv:Value}{A B:ax}{fp fq:List PF}
  (h:wM S k T w1 Z1 db m n g pre x post sv uv A B fp fq) {w2:aw} {x':gF} {vs:List PV} {A':ax} (hc:DN w2 db sv uv (pre++x'::post)) (hx:gV S (eM S k) w2 T x' (n,vs) A') (hv:vs≠ [])
  (hA:∀b,A' b->Z1 b->b<w1.heap.size->A b) (hAl:∀b,A' b->b<w2.heap.size) (hk:∀b,Z1 b->b<w1.heap.size->b≠g->¬A b->w2.heap[b]?=w1.heap[b]?):eM S (k+1) T w2 (λb=>Z1 b\/A' b) db (m.put n vs):=by
 rw[h.put hv];have hB:∀b,B b->w2.heap[b]?=w1.heap[b]?:=λb hb=>hk b (h.y.yz b (.inr hb)) (h.y.yl b (.inr hb)) (λe=>h.y.ys g h.own (.inr (e▸hb))) (λha=>h.dis b ha hb)
 have Vp:=h.y.c.blk.lt;refine⟨sv,uv,pre++x'::post,λb=>A' b\/B b,⟨⟨hc,?_,.inl h.y.zd,λb hb=> .inl (h.y.zs b hb),λb hb=> .inl (h.y.zu b hb),h.y.su,h.y.ud⟩,?_,?_,?_,?_,?_⟩,?_⟩;.exact ew h.y.un λb hb=>hk b (h.y.zu b hb) (h.y.un.lt b hb).2 (λe=>h.y.su g h.own (e▸hb)) (λha=>h.y.yu b hb (.inl ha))
 .rintro b (hb|hb);.exact .inr hb
  .exact .inl (h.y.yz b (.inr hb))
 .rintro b (hb|hb);.exact hAl b hb
  .exact tj (h.y.yl b (.inr hb)) (hB b hb)
 .rintro(hb|hb);.exact h.y.yd (.inl (hA db hb h.y.zd Vp))
  .exact h.y.yd (.inr hb)
 .rintro b hs (hb|hb);.exact h.y.ys b hs (.inl (hA b hb (h.y.zs b hs) (h.y.c.row.lt b hs).2))
  .exact h.y.ys b hs (.inr hb)
 .rintro b hs (hb|hb);.exact h.y.yu b hs (.inl (hA b hb (h.y.zu b hs) (h.y.un.lt b hs).2))
  .exact h.y.yu b hs (.inr hb)
 .refine jY.join (A:=A') (B:=B) h.len hx ?_ (λb hb=> .inl hb) (λb hb=> .inr hb) (λb ha hb=>h.dis b (hA b ha (h.y.yz b (.inr hb)) (h.y.yl b (.inr hb))) hb);exact h.sep.imp λy f C _ _ hC hs=>hs.O (λ_ _ _ _ hD hr=>hr.O λb hb _=>hB b (hC b (hD b hb))) (λb hb _=>hB b (hC b hb))
section
open Vo
section
variable {S:eD} {k db:Nat} {T:Option MT} {w w1 w':aw} {m:PM} {uv:Value} {n:Int} {pre post:List gF} {x:gF} {Z1:ax} {src:Option Nat}
theorem qr {Z:ax}{sv:Value}{l:List gF}{Y:ax}(hy:Oo w Z db sv uv m.unk l Y)(hs:jY (gV S (eM S k) w T) Y l m.fs)
  {e:Ending} (h:wJ w db sv uv l n e w1):
  ∃g c pre x post A B fp fq,e= .returned (.pointer (some (aj g (pre.length*4))))/\wM S k T w1 (λb=>Z b\/b=g) db m n g pre x post (.slice (some (aj g 0)) (pre++x::post).length c) uv A B fp fq/\fK w Z w1 (λb=>Z b\/b=g)/\(∀b,A b->Y b)/\ec (db::sv.ownBlock.toList) w w1:=by
 obtain⟨g,c,pre,x,post,rfl,hc,hx,hw,hk,hg⟩:=h
 have hY:∀b,Y b->w1.heap[b]?=w.heap[b]?:=λb hb=>hk.block b (hy.yl b hb) (λhm=>by
  simp only[aS,dj]at hm;rcases hm with rfl|hm;.exact hy.yd hb
  .exact hy.ys b hm hb)
 have hU:∀b,uv.ownBlock=some b->w1.heap[b]?=w.heap[b]?:=λb hb=>hk.block b (hy.un.lt b hb).2 (λhm=>by
  simp only[aS,dj]at hm;rcases hm with rfl|hm;.exact hy.ud hb
  .exact hy.su b hm hb)
 have VJ:¬Y g:=λhb=>by
  rcases hg with hg|hg;.exact hy.ys g hg hb
  .have:=hy.yl g hb;omega
 have VK:uv.ownBlock≠some g:=λhb=>by
  rcases hg with hg|hg;.exact hy.su g hg hb
  .have:=(hy.un.lt g hb).2;omega
 have Vq:∀b,(Value.slice (some (aj g 0)) (pre++x::post).length c).ownBlock=some b->b=g:=λb hb=>by simpa [Value.ownBlock]using hb.sy
 have VD:fK w Z w1 (λb=>Z b\/b=g):=⟨hk.os,hk.tape,hk.output,hk.size,λb hb hz=>hk.block b hb (λhm=>by
   simp only[aS,dj]at hm;rcases hm with rfl|hm;.exact hz hy.zd
   .exact hz (hy.zs b hm)),λb hb=>by
   rcases hb with hb|rfl;.exact .inl hb
   .rcases hg with hg|hg;.exact .inl (hy.zs _ hg)
    .exact .inr hg⟩
 have Vv:∀{y:gF} {f:PF} {C:ax},(∀b,C b->Y b)->gV S (eM S k) w T y f C->gV S (eM S k) w1 T y f C:=λhC hh=>hh.O (λ_ _ _ _ hD hr=>hr.O λb hb _=>hY b (hC b (hD b hb))) (λb hb _=>hY b (hC b hb))
 have srt:=hc.srt;rw[ck,bu]at srt
 have VE:∀{fp:List PF},fp.map (·.1)=pre.map (·.1)->∀f∈fp,f.1<n:=fun{fp} e f hf=>by
  have:f.1∈pre.map (·.1):=e▸aR.2 ⟨f,hf,rfl⟩;have⟨y,hy,VA⟩:=aR.1 this;rw[<-VA,<-hx];exact srt.2.2 y hy x Vd
 have VF:∀{fq:List PF},fq.map (·.1)=post.map (·.1)->∀f∈fq,n<f.1:=fun{fq} e f hf=>by
  have:f.1∈post.map (·.1):=e▸aR.2 ⟨f,hf,rfl⟩;have⟨y,hy,VA⟩:=aR.1 this;rw[<-VA,<-hx];exact srt.2.1.1 y hy
 have VG:∀(A B:ax),(∀b,A b->Y b)->(∀b,B b->Y b)->Oo w1 (λb=>Z b\/b=g) db (.slice (some (aj g 0)) (pre++x::post).length c) uv m.unk (pre++x::post) (λb=>A b\/B b):=λA B hA hB=>by
  have Vs:∀b,A b\/B b->Y b:=λb hb=>hb.elim (hA b) (hB b)
  exact⟨⟨hc,ew hy.un hU,.inl hy.zd,λb hb=> .inr (Vq b hb),λb hb=> .inl (hy.zu b hb),λb hb=>by rw[Vq b hb];exact VK,hy.ud⟩,
   λb hb=> .inl (hy.yz b (Vs b hb)),λb hb=>tj (hy.yl b (Vs b hb)) (hY b (Vs b hb)),λhb=>hy.yd (Vs db hb),λb hb hq=>by rw[Vq b hb]at hq;exact VJ (Vs g hq),λb hb hq=>hy.yu b hb (Vs b hq)⟩
 rcases hw with⟨rfl,hsv⟩|⟨rfl,VQ⟩
 .have⟨fp,f,fq,VR,hlen,A,B,p1,p2,p3,p4,p5⟩:=hs.split;have hf:f=(n,f.2):=by rw[<-hx,p1.1]
  have Vt:=p2.nums;rw[bS,bS]at Vt;have⟨VB,VC⟩:=List.append_inj Vt (by simpa using hlen);refine⟨g,c,pre,x,post,A,B,fp,fq,rfl,⟨rfl,VG A B p3 p4,hlen,p2.imp λy q C _ _ hC hh=>Vv (λb hb=>p4 b (hC b hb)) hh,p5,hx,VE VB,VF VC,.inl ⟨f.2,by rw[VR];rw[<-hf],by rw[<-hf];exact Vv p3 p1⟩⟩,VD,p3,hk⟩
 .have Vt:=hs.nums;have VL:=hs.len;have Vw:m.fs=m.fs.take pre.length++m.fs.drop pre.length:=(ca _ _).sy;rw[Vw,bS,bS]at Vt;have VH:(m.fs.take pre.length).length=pre.length:=by rw[bM,<-VL,aN];omega
  have⟨VB,VC⟩:=List.append_inj Vt (by simpa using VH);rw[Vw]at hs;refine⟨g,c,pre,x,post,λ_=>False,Y,m.fs.take pre.length,m.fs.drop pre.length,rfl,⟨rfl,VG _ Y (λ_ h=>h.elim) (λ_ h=>h),VH,hs.imp λy q C _ _ hC hh=>Vv hC hh,λ_ h=>h.elim,hx,VE VB,VF VC,.inr ⟨Vw,VQ,λ_ h=>h⟩⟩,VD,λ_ h=>h.elim,hk⟩
theorem La (pre post:List gF)(x x':gF)(j:Nat)(hj:j<4)(v:Value)(h:(et x).set j v=et x'):((pre++x::post).flatMap et).set (pre.length*4+j) v=(pre++x'::post).flatMap et:=by
 have hl:(pre.flatMap et).length=pre.length*4:=by
  clear h
  induction pre with
  |nil=>rfl
  |cons y l ih=>rw[bt,aN,ih,gw,bw];omega
 rw[cY,cY,List.set_append_right _ _ Vc,hl,Nat.add_sub_cancel_left,bt,bt,<-h,List.set_append_left _ _ (by rw[gw];exact hj)]
theorem DN.put {g c:Nat}{x':gF}(h:DN w db (.slice (some (aj g 0)) (pre++x::post).length c) uv (pre++x::post)){j:Nat}(hj:j<4){v:Value}(hx:x'.1=x.1)(hf:qp x')(hs:(et x).set j v=et x'):
  DN (w.setCell (aj g (pre.length*4+j)) v) db (.slice (some (aj g 0)) (pre++x::post).length c) uv (pre++x'::post):=by
 have Vu:g≠db:=λe=>h.ne (by rw[e];rfl)
 have hlen:(pre++x'::post).length=(pre++x::post).length:=Vd;refine⟨h.blk.other _ _ Vu,?_,?_,?_,h.ne,by rw[hlen];exact h.len⟩;.have:=mj h.row (o:=pre.length*4+j) v Ve;rw[La pre post x x' j hj v hs]at this;rw[hlen];exact this
 .intro y hy;simp only[aW,aS]at hy;rcases hy with hy|rfl|hy;.exact h.form y (by simp[hy])
  .exact hf
  .exact h.form y (by simp[hy])
 .have:=h.srt;rw[ck,bu]at this⊢;refine⟨this.1,⟨λy hy=>by rw[hx];exact this.2.1.1 y hy,this.2.1.2⟩,λa ha b hb=> ?_⟩;rcases aS.1 hb with rfl|hb;.rw[hx];exact this.2.2 a ha x Vd
  .exact this.2.2 a ha b (by simp[hb])
theorem wM.cells {g c:Nat}{A B:ax}{fp fq:List PF}
  (h:wM S k T w1 Z1 db m n g pre x post (.slice (some (aj g 0)) (pre++x::post).length c) uv A B fp fq) (hw:w'.heap[g]?=w1.heap[g]?):
  w'.cell? (aj g (pre.length*4))=some (aa n)/\w'.cell? (aj g (pre.length*4+1))=some x.2.1/\w'.cell? (aj g (pre.length*4+2))=some x.2.2.1/\w'.cell? (aj g (pre.length*4+3))=some x.2.2.2/\∀o,w'.frozen? (aj g o)=false:=by
 have hx:(pre++x::post)[pre.length]?=some x:=Vd;have⟨g',e,_,hc⟩:=sj h.y.c.row hx;cases e;have⟨c0,c1,c2,c3⟩:=hc w' hw;rw[h.xn]at c0;refine⟨c0,c1,c2,c3,?_⟩;have⟨cs,hb⟩:=kS h.y.c.row h.own;exact(dX.I (hw.J hb)).2
theorem wM.vals {g c:Nat}{A B:ax}{fp fq:List PF}
  (h:wM S k T w1 Z1 db m n g pre x post (.slice (some (aj g 0)) (pre++x::post).length c) uv A B fp fq) {w9:aw} {gg cap N:Nat} {lv:List LV} {cs:ay} (hsrc:∀b,src=some b->A b) (Vu:lv≠ []) (hB:ak w1 w') (hgrow:w'.grownBy w9 src)
  (Vq:w9.ownsRow 0 55 4 (U9 gg N cap) N cs) (hN:N=lv.length) (hcs:cs=lv.flatMap mR) (Vr:src=some gg\/w1.heap.size<=gg) (hok:oJ S T n .vals) (hx2:x.2.2.1=ai) (hx3:x.2.2.2= .map none):
  ∃Z',fK w1 Z1 (w9.setCell (aj g (pre.length*4+1)) (U9 gg N cap)) Z'/\eM S (k+1) T (w9.setCell (aj g (pre.length*4+1)) (U9 gg N cap)) Z' db (m.put n (lv.map qq)):=by
 subst hN hcs;have VM:=(h.y.c.row.lt g h.own).2;have VN:=h.y.c.blk.lt;have Vp:∀b,b<w1.heap.size->¬A b->w9.heap[b]?=w1.heap[b]?:=λb hb ha=>(hgrow.block b (aI hb hB.size) (λe=>ha (hsrc b e.sy))).J (hB.block b hb)
 have VI:¬A g:=λha=>h.y.ys g h.own (.inl ha)
 have VO:¬A db:=λha=>h.y.yd (.inl ha)
 have Vx:gg<w9.heap.size:=(Vq.lt gg rfl).2
 have Vy:gg≠g:=λe=>by
  rcases Vr with Vr|Vr;.exact VI (hsrc g (e▸Vr))
  .omega
 have VP:=h.y.c.O (w':=w9) (Vp db VN VO) (λb hb=>by
  have:g=b:=by simpa [Value.ownBlock]using hb
  subst this
  exact Vp _ VM VI)
 have Vz:=VP.put (j:=1) Vc (v:= U9 gg lv.length cap) (x':=(x.1,U9 gg lv.length cap,ai,.map none)) rfl ⟨⟨_,_,_,rfl⟩,⟨_,_,_,rfl⟩,_,rfl⟩ (by simp[et,hx2,hx3]);refine⟨λb=>Z1 b\/b=gg,⟨?_,?_,?_,?_,?_,?_⟩,h.close Vz (A':=λb=>b=gg) ⟨h.xn,.inl ⟨by rw[h.xn];exact hok,lv,Vu,rfl,⟨?_,?_⟩,rfl,rfl⟩⟩ (by simpa using Vu) ?_ ?_ ?_⟩;.exact hgrow.os.J hB.os
 .exact hgrow.tape.J hB.tape
 .exact hgrow.output.J hB.output
 .simpa using aM hB.size hgrow.size
 .intro b hb hz;rw[dW,dO (λe=>hz (by rw[<-e];exact h.y.zs g h.own))];exact Vp b hb (λha=>hz (h.y.yz b (.inl ha)))
 .rintro b (hb|rfl);.exact .inl hb
  .rcases Vr with Vr|Vr;.exact .inl (h.y.yz _ (.inl (hsrc _ Vr)))
   .exact .inr Vr
 .refine ew Vq λb hb=> ?_
  obtain rfl:gg=b:=by simpa [Value.ownBlock]using hb
  rw[dW,dO (λe=>Vy e.sy)]
 .intro b hb;simpa [Value.ownBlock]using hb.sy
 .rintro b rfl _ hl;rcases Vr with Vr|Vr;.exact hsrc _ Vr
  .omega
 .rintro b rfl;simpa using Vx
 .intro b _ hb VS ha;rw[dW,dO (λe=>VS e.sy)];exact Vp b hb ha
end
section
variable {db k:Nat} {l pre post:List gF} {Y:ax} {S:eD} {T:Option MT}
theorem Oo.O {w w':aw}{Z:ax}{sv uv:Value}{u:au}(hy:Oo w Z db sv uv u l Y)(hk:∀b,Z b->b<w.heap.size->w'.heap[b]?=w.heap[b]?):Oo w' Z db sv uv u l Y:=
 {hy with toDrB:=hy.toDrB.O hk,yl:=λb hb=>tj (hy.yl b hb) (hk b (hy.yz b hb) (hy.yl b hb))}
theorem nx {w w':aw}{fs:List PF}(hs:jY (gV S (eM S k) w T) Y l fs)(hk:∀b,Y b->b<w.heap.size->w'.heap[b]?=w.heap[b]?):jY (gV S (eM S k) w' T) Y l fs:=
 hs.imp λ_ _ _ _ _ hA h=>h.O (λ_ _ _ _ hC hr=>hr.O λb hb hl=>hk b (hA b (hC b hb)) hl) (λb hb hl=>hk b (hA b hb) hl)
theorem wM.ofVals {w1:aw}{Z1:ax}{m:PM}{n:Int}{g:Nat}{x:gF}{sv uv:Value}{A B:ax}{fp fq:List PF}
  (h:wM S k T w1 Z1 db m n g pre x post sv uv A B fp fq) (hkd:(∀kd,oJ S T n kd->kd= .vals)\/∀f∈m.fs,f.1≠n):
  (x.2.2.1=ai/\x.2.2.2= .map none)/\((x.2.1=ai/\m.get n= [])\/∃gv cc lv,lv≠ []/\x.2.1= U9 gv lv.length cc/\A gv/\m.get n=lv.map qq/\w1.ownsRow 0 55 4 (U9 gv lv.length cc) lv.length (lv.flatMap mR)):=by
 rcases h.was with⟨old,e,hs⟩|⟨e,rfl,_⟩
 .obtain⟨h1,h2⟩:=hs;have VG:(n,old)∈m.fs:=by rw[e];simp
  have VH:m.get n=old:=(by unfold PM.get;rw[e];exact qZ n old fq fp h.lo);rw[h.xn]at h2;have Vu:=hkd.resolve_right (λq=>q _ VG rfl);rcases h2 with⟨_,lv,hv⟩|⟨q,_⟩|⟨t,q,_⟩
  .refine⟨⟨hv.c2,hv.c3⟩,.inr ?_⟩;have Vq:=hv.row;rcases Vq.1.2 with⟨_,hz⟩|⟨gv,cc,VA,e2,_⟩;.exact absurd (bE hz) hv.ne
   .rw[e2]at Vq;exact⟨gv,cc,lv,hv.ne,e2,Vq.2 gv rfl,VH.J hv.pm,Vq.1⟩
  .exact absurd (Vu _ q) Vd
  .exact absurd (Vu _ q) Vd
 .refine⟨⟨rfl,rfl⟩,.inl ⟨rfl,?_⟩⟩;unfold PM.get;rw[e];refine nV n _ λf hf=> ?_
  rcases aW.1 hf with hf|hf;.have:=h.lo f hf;omega
  .have:=h.hi f hf;omega
def kr (S:eD)(k:Nat)(T:Option MT)(w:aw)(Z:ax)(db:Nat)(m:PM)(e:Ending)(w':aw):Prop:=e= .returned (.tuple #[])/\∃Z',fK w Z w' Z'/\eM S (k+1) T w' Z' db m
theorem xU (S:eD)(k:Nat)(T:Option MT)(w:aw)(Z:ax)(db:Nat)(m:PM)(n:Int)(v:LV)(h:eM S (k+1) T w Z db m)(hok:oJ S T n .vals)(hkd:(∀kd,oJ S T n kd->kd= .vals)\/∀f∈m.fs,f.1≠n)(hl:m.fs.length<1073741824):
  Calls prog 195 #[ah db,aa n,vP v] w (kr S k T w Z db (m.put n [qq v])):=by
 have⟨i0,VB,VC,VD,VE⟩:=info_parts Tryz.infoV;obtain⟨sv,uv,l,Y,hy,hs⟩:=h;have⟨B0,KB⟩:=d8 w #[.int .u64 v.1,ag v.2,ai,U7] 55;have hdl:=hy.c.blk.lt;have VI:=hy.c.row.lt;have Vx:=hy.O (λb _ hb=>B0.block b hb);have VJ:=nx hs (λb _ hb=>B0.block b hb);have hS:=uz _ db sv uv l n Vx.c (by rw[hs.len];exact hl);have hAl:∀b,Y b->b<w.heap.size:=hy.yl;unfold vP;go_in
 go_wp2_with fail;generalize w.alloc (am #[.int .u64 v.1,ag v.2,ai,U7] 55)=w0 at*;refine hS.V ?_;rintro e w1 hR;obtain⟨g,c,pre,x,post,A,B,fp,fq,rfl,O,st,hAY,K⟩:=qr Vx VJ hR
 have Vy:=KB.kept K (by
  simp only[aS,dj,not_or]
  exact⟨Vc,λe=>by have:=(VI _ e).2;omega⟩)
 have⟨k1,k2⟩:=Vy.I;have⟨⟨x2,x3⟩,hx⟩:=O.ofVals hkd;have⟨c0,c1,c2,c3,cf⟩:=O.cells rfl;have Vz:=(O.y.c.row.lt g rfl).2;have hgn:w.heap.size<w1.heap.size:=Vy.lt
 have Vs:∀(w' w9:aw) (src:Option Nat),ak w1 w'->w'.grownBy w9 src->(∀b,src=some b->A b)->w9.heap[g]?=w1.heap[g]?:=λw' w9 src hB hg hs=>
  (hg.block g (aI Vz hB.size) (λe=>O.y.ys g rfl (.inl (hs g e.sy)))).J (hB.block g Vz)
 have HC:Hid (∀(w' w9:aw) (src:Option Nat),ak w1 w'->w'.grownBy w9 src->(∀b,src=some b->A b)->w9.heap[g]?=w1.heap[g]?):=Vs
 have HF:Hid (∀(w' w9:aw) (src:Option Nat) (gg cap:Nat) (cs:ay),ak w1 w'->w'.grownBy w9 src->(∀b,src=some b->A b)->w9.ownsRow 0 55 4 (U9 gg 1 cap) 1 cs->cs=mR v->(src=some gg\/gg=w1.heap.size+1)->
   kr S k T w Z db (m.put n [qq v]) (.returned (.tuple #[])) (w9.setCell (aj g (pre.length*4+1)) (U9 gg 1 cap))):=by
  intro w' w9 src gg cap cs hB hg hs Vv VK VL;have⟨Z',h1,h2⟩:=O.vals (lv:= [v]) hs Vd hB hg Vv rfl (by simp[VK]) (VL.imp id (λe=>Vc)) hok x2 x3;refine⟨rfl,Z',?_,h2⟩;have s0:fK w Z w0 Z:=(fK.refl w Z).G B0;exact(s0.J st).J h1
 rcases hx with⟨x1,hg0⟩|⟨gv,cc,lv,hne,x1,VF,hg1,Vq⟩
 .rw[x1]at c1;have BB:ak w1 (w1.drew.alloc (am #[.int .u64 v.1,ag v.2,ai,U7] 55)):=((Below.refl _ _).drew).alloc (aE _) _;go_upto_region 2 with fail
  go_region_law (first|(refine step_append_lies _ Vi _ _ _ Vi 0 55 i0 _ 4 64 underlying56 VB VC VD VE rfl Vc (ai) 0 [] Vi (br _ _ _ _) (aj w1.heap.size 0) 1 1 [_,_,_,_] Vi Vi (bz (t:=55) (fr:=(0,0)) (heap_alloc_new w1.drew _)) Vk Vc Vj Vc Vc (w1.heap.size+1) Vd ?_;intro gg cap w9 Vr Vp Vt Vw;have⟨z0,z1,z2,z3,zf⟩:=O.cells (HC.o _ w9 _ BB Vp (λb e=>by cases e))))
  all_goals
   go_end0;exact HF.o _ w9 _ gg cap _ BB Vp (λb e=>by cases e) Vr rfl Vt
 .rw[x1]at c1;have BB:ak w1 (w1.drew.alloc (am #[.int .u64 v.1,ag v.2,ai,U7] 55)):=((Below.refl _ _).drew).alloc (aE _) _
  have hr0:w1.ownsRow 0 55 4 (U9 gv 0 cc) 0 []:=by
   refine⟨rfl,.inr ?_⟩;rcases Vq.2 with⟨q,_⟩|⟨g',cap,VA,q,q1,q2,q3,q4,q5,q6⟩;.cases q
   .cases q;exact⟨gv,cc,VA,rfl,aP _,q2,aP _,q4,q5,Vd⟩
  have hgvl:=(Vq.lt gv rfl).2;go_upto_region 2 with fail
  go_region_law (first|(refine step_append_lies _ Vi _ _ _ Vi 0 55 i0 _ 4 64 underlying56 VB VC VD VE rfl Vc (U9 gv 0 cc) 0 [] Vi (hr0.drew.alloc _) (aj w1.heap.size 0) 1 1 [_,_,_,_] Vi Vi (bz (t:=55) (fr:=(0,0)) (heap_alloc_new w1.drew _)) Vk Vc Vj Vc Vc (w1.heap.size+1) Vd ?_;intro gg cap w9 Vr Vp Vt Vw;have⟨z0,z1,z2,z3,zf⟩:=O.cells (HC.o _ w9 _ BB Vp (λb e=>by cases e;exact VF))))
  all_goals
   go_end0;exact HF.o _ w9 _ gg cap _ BB Vp (λb e=>by cases e;exact VF) Vr rfl Vt
end
end
end Go.Proofs.YtfebdimolnobaaaGreatDoor
