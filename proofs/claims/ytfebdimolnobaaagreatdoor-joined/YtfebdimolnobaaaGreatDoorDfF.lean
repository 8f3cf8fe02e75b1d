import Derived.Test.YtfebdimolnobaaaGreatDoorWkB
import Derived.Lib.AppendStr
import Derived.Laws.AppendOwnNone
import Derived.Sort.Walk0
import Derived.DeepKeys4
set_option maxRecDepth 100000
set_option maxHeartbeats 8000000
set_option linter.all false
namespace Go.Proofs.YtfebdimolnobaaaGreatDoor
open Go.RowKit Go.Proofs.Tryz
section
variable {α β:Type}
def jx {α β:Type}(P:α->β->(ap)->Prop):(ap)->List α->List β->Prop
 |_,[],[]=>True
 |Y,x::l,y::r=>∃A B:ap,P x y A/\jx P B l r/\(∀b,A b->Y b)/\(∀b,B b->Y b)/\∀b,A b->¬B b
 |_,[],_::_=>False
 |_,_::_,[]=>False
theorem jx.mono {P:α->β->(ap)->Prop}{Y Z:ap}(hY:∀b,Y b->Z b):∀{l:List α} {r:List β},jx P Y l r->jx P Z l r
 | [],[],_=>trivial
 |_::_,_::_,⟨A,B,h1,h2,h3,h4,h5⟩=>⟨A,B,h1,h2,λb h=>hY b (h3 b h),λb h=>hY b (h4 b h),h5⟩
 | [],_::_,h=>h.elim
 |_::_,[],h=>h.elim
theorem jx.imp {P Q:α->β->(ap)->Prop}:∀{l:List α} {r:List β} {Y:ap},jx P Y l r->(∀x y A,x∈l->y∈r->(∀b,A b->Y b)->P x y A->Q x y A)->jx Q Y l r
 | [],[],_,_,_=>trivial
 |_::_,_::_,_,⟨A,B,h1,h2,h3,h4,h5⟩,h=>⟨A,B,h _ _ A Uf Uf h3 h1,h2.imp (λx y C hx hy hC=>h x y C (by simp[hx]) (by simp[hy]) (λb hb=>h4 b (hC b hb))),h3,h4,h5⟩
 | [],_::_,_,h,_=>h.elim
 |_::_,[],_,h,_=>h.elim
theorem jx.len {P:α->β->(ap)->Prop}:∀{l:List α} {r:List β} {Y:ap},jx P Y l r->l.length=r.length
 | [],[],_,_=>rfl
 |_::_,_::_,_,⟨_,_,_,h2,_⟩=>by simp[h2.len]
 | [],_::_,_,h=>h.elim
 |_::_,[],_,h=>h.elim
theorem jx.split {P:α->β->(ap)->Prop}:∀{pre:List α} {x:α} {post:List α} {r:List β} {Y:ap},jx P Y (pre++x::post) r->
  ∃rp y rq,r=rp++y::rq/\rp.length=pre.length/\∃A B:ap,P x y A/\jx P B (pre++post) (rp++rq)/\(∀b,A b->Y b)/\(∀b,B b->Y b)/\∀b,A b->¬B b
 | [],_,_,[],_,h=>h.elim
 | [],_,_,y::rq,_,⟨A,B,h1,h2,h3,h4,h5⟩=>⟨[],y,rq,rfl,rfl,A,B,h1,h2,h3,h4,h5⟩
 |_::_,_,_,[],_,h=>h.elim
 |_::_,_,_,q::_,_,⟨A,B,h1,h2,h3,h4,h5⟩=>by
  obtain⟨rp,y,rq,rfl,hl,A1,B1,q1,q2,q3,q4,q5⟩:=h2.split;refine⟨q::rp,y,rq,rfl,by simp[hl],A1,λb=>A b\/B1 b,q1,⟨A,B1,h1,q2,λb h=> .inl h,λb h=> .inr h,λb ha hb=>h5 b ha (q4 b hb)⟩,λb h=>h4 b (q3 b h),?_,?_⟩
  ·rintro b (h|h)
   ·exact h3 b h
   ·exact h4 b (q4 b h)
  ·rintro b ha (h|h)
   ·exact h5 b h (q3 b ha)
   ·exact q5 b ha h
theorem jx.join {P:α->β->(ap)->Prop}:∀{pre:List α} {x:α} {post:List α} {rp:List β} {y:β} {rq:List β} {A B Y:ap},rp.length=pre.length->P x y A->jx P B (pre++post) (rp++rq)->
  (∀b,A b->Y b)->(∀b,B b->Y b)->(∀b,A b->¬B b)->jx P Y (pre++x::post) (rp++y::rq)
 | [],_,_,[],_,_,A,B,_,_,h1,h2,h3,h4,h5=>⟨A,B,h1,h2,h3,h4,h5⟩
 | [],_,_,_::_,_,_,_,_,_,hl,_,_,_,_,_=>by simp at hl
 |_::_,_,_,[],_,_,_,_,_,hl,_,_,_,_,_=>by simp at hl
 |_::_,_,_,_::_,_,_,A,_,_,hl,h1,⟨C,D,q1,q2,q3,q4,q5⟩,h3,h4,h5=>by
  refine⟨C,λb=>A b\/D b,q1,jx.join (by simpa using hl) h1 q2 (λb h=> .inl h) (λb h=> .inr h) (λb h hd=>h5 b h (q4 b hd)),λb h=>h4 b (q3 b h),?_,?_⟩
  ·rintro b (h|h)
   ·exact h3 b h
   ·exact h4 b (q4 b h)
  ·rintro b hc (h|h)
   ·exact h5 b h (q3 b hc)
   ·exact q5 b hc h
theorem jx.filter {P:α->β->(ap)->Prop}{p:α->Bool}{q:β->Bool}(hpq:∀x y A,P x y A->p x=q y):∀{l:List α} {r:List β} {Y:ap},jx P Y l r->jx P Y (l.filter p) (r.filter q)
 | [],[],_,_=>trivial
 |x::_,y::_,_,⟨A,B,h1,h2,h3,h4,h5⟩=>by
  rw[cu,cu,hpq x y A h1]
  cases q y with
  |true=>exact⟨A,B,h1,h2.filter hpq,h3,h4,h5⟩
  |false=>exact(h2.filter hpq).mono h4
 | [],_::_,_,h=>h.elim
 |_::_,[],_,h=>h.elim
theorem jx.append {P:α->β->(ap)->Prop}:∀{l:List α} {r:List β} {l':List α} {r':List β} {A B Y:ap},jx P A l r->jx P B l' r'->(∀b,A b->Y b)->(∀b,B b->Y b)->(∀b,A b->¬B b)->jx P Y (l++l') (r++r')
 | [],[],_,_,_,_,_,_,h2,_,h4,_=>h2.mono h4
 |_::_,_::_,_,_,A,B,_,⟨C,D,q1,q2,q3,q4,q5⟩,h2,h3,h4,h5=>by
  refine⟨C,λb=>D b\/B b,q1,q2.append h2 (λb h=> .inl h) (λb h=> .inr h) (λb h=>h5 b (q4 b h)),λb h=>h3 b (q3 b h),?_,?_⟩
  ·rintro b (h|h)
   ·exact h3 b (q4 b h)
   ·exact h4 b h
  ·rintro b hc (h|h)
   ·exact q5 b hc h
   ·exact h5 b (q3 b hc) h
 | [],_::_,_,_,_,_,_,h,_,_,_,_=>h.elim
 |_::_,[],_,_,_,_,_,h,_,_,_,_=>h.elim
inductive Kd where
 |vals
 |msgs
 |ents (t:am)
def oO (S:d8)(f:eT):Kd:=if f.isMap then .ents f.key else if(eV S f).isSome then .msgs else .vals
def nS (S:d8)(T:Option MT)(n:Int)(kd:Kd):Prop:=∀d f,T=some d->dR d.fs n=some f->kd=oO S f
def nB (S:d8)(T:Option MT)(n:Int):Option MT:=T.bind λd=>(dR d.fs n).bind (eV S)
def uG (T:Option MT)(n:Int):Prop:=∃d f,T=some d/\dR d.fs n=some f/\f.isRep=false
def lV (v:LV):aq:= [.int .u64 v.1,ae v.2,ah,T9]
def pC (v:LV):PV:=(v.1,v.2,PM.none)
def qL (p:Nat):Value:=ag p
def jF (t:am)(v:PV):LV:=(if eM iL t then(v.1+9223372036854775808)%18446744073709551616 else v.1,v.2.1)
def lN (a b:LV):Prop:=a.1<b.1\/(a.1=b.1/\Op.bytesLess a.2.toList b.2.toList=true)
def jy:List LV->au->LV->Option Nat
 |k::l,p::r,q=>if k.1=q.1/\gG k.2 q.2=true then some p else jy l r q
 |_,_,_=>none
def Rh:Option Nat->DataW Unit->DataW Unit
 |some p,_=>nO (some p)
 |none,z=>z
def kV (k:LV):Value:= .agg #[.int .u64 k.1,ae k.2]
def jz (w:an)(mb:Nat)(ks:List LV)(ps:au):Prop:=
 ∃D,w.ownsMap prog 386 gr mb ks.length D/\Go.Maps.size D=ks.length/\(∀(k:LV) kl,Go.keyOf prog 386 (kV k)=some kl->∀z,D.atKey kl z=Rh (jy ks ps k) z)
abbrev OR:=Option MT->an->(ap)->Nat->PM->Prop
structure Ti (w:an)(x:gj)(f:PF)(A:ap)(lv:List LV):Prop where
 ne:lv≠ []
 pm:f.2=lv.map pC
 row:eD w A 55 4 x.2.1 lv.length (lv.flatMap lV)
 c2:x.2.2.1=ah
 c3:x.2.2.2= .map none
def mV (m:PM):PV:=(0,eS,m)
structure Tj (R:OR)(w:an)(T:Option MT)(L:Prop)(x:gj)(f:PF)(A:ap)(ps:au)(B:ap):Prop where
 ne:ps≠ []
 lone:L->ps.length=1
 c1:x.2.1=ah
 c3:x.2.2.2= .map none
 row:eD w A 180 1 x.2.2.1 ps.length (ps.map qL)
 inA:∀b,B b->A b
 own:∀b,x.2.2.1.ownBlock=some b->¬B b
 sub:jx (λp v C=>v=mV v.2.2/\R T w C p v.2.2) B ps f.2
 len:ps.length<=1073741824
structure Tl (R:OR)(w:an)(x:gj)(f:PF)(A:ap)(t:am)(mb:Nat)(ps:au)(B:ap):Prop where
 ne:ps≠ []
 c1:x.2.1=ah
 c2:x.2.2.1=ah
 c3:x.2.2.2= .map (some mb)
 map:jz w mb (f.2.map λv=>jF t (fE v)) ps
 inA:∀b,B b->A b
 inM:A mb
 own:¬B mb
 key:∀v∈f.2,En t (fE v)
 srt:f.2.Pairwise (λa b=>lN (jF t (fE a)) (jF t (fE b)))
 sub:jx (λp v C=>v=mV v.2.2/\R none w C p v.2.2) B ps f.2
 len:ps.length<=1073741824
def gD (S:d8)(R:OR)(w:an)(T:Option MT)(x:gj)(f:PF)(A:ap):Prop:=
 x.1=f.1/\((nS S T x.1 .vals/\∃lv,Ti w x f A lv)\/(nS S T x.1 .msgs/\∃ps B,Tj R w (nB S T x.1) (uG T x.1) x f A ps B)\/∃t,nS S T x.1 (.ents t)/\∃mb ps B,Tl R w x f A t mb ps B)
structure DrB (w:an)(Z:ap)(db:Nat)(sv uv:Value)(u:am)(l:List gj):Prop where
 c:CZ w db sv uv l
 un:w.ownsRow 0 5 1 uv u.size (Lib.strCells u)
 zd:Z db
 zs:∀b,sv.ownBlock=some b->Z b
 zu:∀b,uv.ownBlock=some b->Z b
 su:∀b,sv.ownBlock=some b->uv.ownBlock≠some b
 ud:uv.ownBlock≠some db
structure Nb (w:an)(Z:ap)(db:Nat)(sv uv:Value)(u:am)(l:List gj)(Y:ap):Prop extends DrB w Z db sv uv u l where
 yz:∀b,Y b->Z b
 yl:∀b,Y b->b<w.heap.size
 yd:¬Y db
 ys:∀b,sv.ownBlock=some b->¬Y b
 yu:∀b,uv.ownBlock=some b->¬Y b
def ek (S:d8):Nat->OR
 |0,_,_,_,_,_=>False
 |k+1,T,w,Z,db,m=>∃sv uv l Y,Nb w Z db sv uv m.unk l Y/\jx (gD S (ek S k) w T) Y l m.fs
end
def lY (n:Int)(vs:List PV):∀l:List PF,gK n vs true l=l.filter (λx=>decide (x.1≠n))
 | []=>rfl
 |x::l=>by
  rw[gK,cu];simp only[cL,cA,aM,if_false,aS,cJ];rw[lY n vs l]
  by_cases h:x.1=n<;>simp[h]
def lZ (n:Int):∀l:List PF,(∀x∈l,x.1≠n)->l.filter (λx=>decide (x.1≠n))=l:=λl h=>du.2 (λx hx=>by simp[h x hx])
def sA (n:Int)(vs:List PV)(fq:List PF)(hq:∀x∈fq,n<x.1):∀fp:List PF,(∀x∈fp,x.1<n)->gK n vs false (fp++fq)=fp++(n,vs)::fq
 | [],_=>by
  cases fq with
  |nil=>rfl
  |cons y r=>
   have hy:=hq y Uf;simp only[aS];have h1:decide (n<=y.1)=true:=Ug;have h2:¬y.1=n:=Ue;rw[gK,h1,cq,lY,lZ n r (λx hx=>by have:=hq x (by simp[hx]);omega)];simp[h2]
 |x::fp,hp=>by
  have hx:=hp x Uf;rw[bf,gK];have h1:decide (n<=x.1)=false:=Ug;have h2:¬x.1=n:=Ue;rw[h1];simp only[cS,cB,aM,if_false,aS,h2,cF];rw[sA n vs fq hq fp (λy hy=>hp y (by simp[hy]))];rfl
def vP (n:Int)(vs old:List PV)(fq:List PF)(hq:∀x∈fq,n<x.1):∀fp:List PF,(∀x∈fp,x.1<n)->gK n vs false (fp++(n,old)::fq)=fp++(n,vs)::fq
 | [],_=>by
  simp only[aS];rw[gK];simp only[dm,decide_true,cS,dl,if_true,aS,cq];rw[lY,lZ n fq (λx hx=>by have:=hq x hx;omega)];rfl
 |x::fp,hp=>by
  have hx:=hp x Uf;rw[bf,gK];have h1:decide (n<=x.1)=false:=Ug;have h2:¬x.1=n:=Ue;rw[h1];simp only[cS,cB,aM,if_false,aS,h2,cF];rw[vP n vs old fq hq fp (λy hy=>hp y (by simp[hy]))];rfl
def qo (n:Int)(old:List PV)(fq:List PF):∀fp:List PF,(∀x∈fp,x.1<n)->gz (fp++(n,old)::fq) n=old
 | [],_=>by simp[gz]
 |x::fp,hp=>by
  have hx:=hp x Uf;have h2:¬x.1=n:=Ue;simp only[bf,gz,h2,if_false];exact qo n old fq fp (λy hy=>hp y (by simp[hy]))
def mZ (n:Int):∀l:List PF,(∀x∈l,x.1≠n)->gz l n= []
 | [],_=>rfl
 |x::l,h=>by
  simp only[gz,h x Uf,if_false];exact mZ n l (λy hy=>h y (by simp[hy]))
def jz.keep {w w':an}{mb:Nat}{ks:List LV}{ps:au}(h:jz w mb ks ps)(hb:w'.heap[mb]?=w.heap[mb]?):jz w' mb ks ps:=by
 obtain⟨D,h1,h2,h3⟩:=h;exact⟨D,ka h1 hb,h2,h3⟩
def jz.lt {w:an}{mb:Nat}{ks:List LV}{ps:au}(h:jz w mb ks ps):mb<w.heap.size:=by
 obtain⟨D,h1,_⟩:=h;exact h1.lt
def sB {w w':an}{b:Nat}(hl:b<w.heap.size)(h:w'.heap[b]?=w.heap[b]?):b<w'.heap.size:=by
 by_cases q:b<w'.heap.size
 ·exact q
 ·rw[cE Ue,bF hl]at h;cases h
def gD.keep {S:d8}{R:OR}{w w':an}{T:Option MT}{x:gj}{f:PF}{A:ap}(hR:∀T C p m,(∀b,C b->A b)->R T w C p m->R T w' C p m)
  (hk:∀b,A b->b<w.heap.size->w'.heap[b]?=w.heap[b]?) (h:gD S R w T x f A):gD S R w' T x f A:=by
 obtain⟨h1,h2⟩:=h;refine⟨h1,?_⟩
 rcases h2 with⟨q,lv,h⟩|⟨q,ps,B,h⟩|⟨t,q,mb,ps,B,h⟩
 ·exact .inl ⟨q,lv,{h with row:=h.row.keep hk}⟩
 ·exact .inr (.inl ⟨q,ps,B,{h with row:=h.row.keep hk,sub:=h.sub.imp λp v C _ _ hC hp=>⟨hp.1,hR _ _ _ _ (λb hb=>h.inA b (hC b hb)) hp.2⟩}⟩)
 ·exact .inr (.inr ⟨t,q,mb,ps,B,{h with map:=h.map.keep (hk mb h.inM h.map.lt),sub:=h.sub.imp λp v C _ _ hC hp=>⟨hp.1,hR _ _ _ _ (λb hb=>h.inA b (hC b hb)) hp.2⟩}⟩)
def DrB.keep {w w':an}{Z:ap}{db:Nat}{sv uv:Value}{u:am}{l:List gj}(h:DrB w Z db sv uv u l)(hk:∀b,Z b->b<w.heap.size->w'.heap[b]?=w.heap[b]?):DrB w' Z db sv uv u l:=
 {h with
  c:=h.c.keep (hk db h.zd h.c.blk.lt) (λb hb=>hk b (h.zs b hb) (h.c.row.lt b hb).2)
  un:=d6 h.un λb hb=>hk b (h.zu b hb) (h.un.lt b hb).2}
def ek.keep {S:d8}:∀{k:Nat} {T:Option MT} {w w':an} {Z:ap} {db:Nat} {m:PM},ek S k T w Z db m->(∀b,Z b->b<w.heap.size->w'.heap[b]?=w.heap[b]?)->ek S k T w' Z db m
 |0,_,_,_,_,_,_,h,_=>h
 |_+1,_,_,_,_,_,_,⟨sv,uv,l,Y,hy,hs⟩,hk=>
  ⟨sv,uv,l,Y,{hy with toDrB:=hy.toDrB.keep hk,yl:=λb hb=>sB (hy.yl b hb) (hk b (hy.yz b hb) (hy.yl b hb))},hs.imp λ_ _ _ _ _ hA h=>
   h.keep (λ_ _ _ _ hC hr=>ek.keep hr λb hb hl=>hk b (hy.yz b (hA b (hC b hb))) hl) (λb hb hl=>hk b (hy.yz b (hA b hb)) hl)⟩
def ek.mono {S:d8}{k:Nat}{T:Option MT}{w:an}{Z Z':ap}{db:Nat}{m:PM}(h:ek S k T w Z db m)(hz:∀b,Z b->Z' b):ek S k T w Z' db m:=by
 cases k with
 |zero=>exact h
 |succ k=>
  obtain⟨sv,uv,l,Y,hy,hs⟩:=h;exact⟨sv,uv,l,Y,{hy with zd:=hz _ hy.zd,zs:=λb hb=>hz b (hy.zs b hb),zu:=λb hb=>hz b (hy.zu b hb),yz:=λb hb=>hz b (hy.yz b hb)},hs⟩
def ek.lt {S:d8}{k:Nat}{T:Option MT}{w:an}{Z:ap}{db:Nat}{m:PM}(h:ek S k T w Z db m):db<w.heap.size/\Z db:=by
 cases k with
 |zero=>exact h.elim
 |succ k=>
  obtain⟨sv,uv,l,Y,hy,hs⟩:=h;exact⟨hy.c.blk.lt,hy.zd⟩
def jx.nums {S:d8}{R:OR}{w:an}{T:Option MT}:∀{l:List gj} {fs:List PF} {Y:ap},jx (gD S R w T) Y l fs->fs.map (·.1)=l.map (·.1)
 | [],[],_,_=>rfl
 |_::_,_::_,_,⟨_,_,h1,h2,_⟩=>by simp[h2.nums,h1.1]
 | [],_::_,_,h=>h.elim
 |_::_,[],_,h=>h.elim
structure vQ (S:d8)(k:Nat)(T:Option MT)(w1:an)(Z1:ap)(db:Nat)(m:PM)(n:Int)(g:Nat)(pre:List gj)(x:gj)(post:List gj)(sv uv:Value)(A B:ap)(fp fq:List PF):Prop where
 own:sv.ownBlock=some g
 y:Nb w1 Z1 db sv uv m.unk (pre++x::post) (λb=>A b\/B b)
 len:fp.length=pre.length
 sep:jx (gD S (ek S k) w1 T) B (pre++post) (fp++fq)
 dis:∀b,A b->¬B b
 xn:x.1=n
 lo:∀f∈fp,f.1<n
 hi:∀f∈fq,n<f.1
 was:(∃old,m.fs=fp++(n,old)::fq/\gD S (ek S k) w1 T x (n,old) A)\/(m.fs=fp++fq/\x=(n,ah,ah,.map none)/\∀b,¬A b)
def vQ.put {S:d8}{k:Nat}{T:Option MT}{w1:an}{Z1:ap}{db:Nat}{m:PM}{n:Int}{g:Nat}{pre:List gj}{x:gj}{post:List gj}{sv uv:Value}{A B:ap}{fp fq:List PF}
  (h:vQ S k T w1 Z1 db m n g pre x post sv uv A B fp fq) {vs:List PV} (hv:vs≠ []):m.put n vs= .mk (fp++(n,vs)::fq) m.unk:=by
 have he:vs.isEmpty=false:=by cases vs with
  |nil=>exact absurd rfl hv
  |cons _ _=>rfl
 unfold PM.put;rw[he]
 rcases h.was with⟨old,e,_⟩|⟨e,_⟩
 ·rw[e,vP n vs old fq h.hi fp h.lo]
 ·rw[e,sA n vs fq h.hi fp h.lo]
def vQ.close {S:d8}{k:Nat}{T:Option MT}{w1:an}{Z1:ap}{db:Nat}{m:PM}{n:Int}{g:Nat}{pre:List gj}{x:gj}{post:List gj}{sv uv:Value}{A B:ap}{fp fq:List PF}
  (h:vQ S k T w1 Z1 db m n g pre x post sv uv A B fp fq) {w2:an} {x':gj} {vs:List PV} {A':ap} (hc:CZ w2 db sv uv (pre++x'::post)) (hx:gD S (ek S k) w2 T x' (n,vs) A') (hv:vs≠ [])
  (hA:∀b,A' b->Z1 b->b<w1.heap.size->A b) (hAl:∀b,A' b->b<w2.heap.size) (hk:∀b,Z1 b->b<w1.heap.size->b≠g->¬A b->w2.heap[b]?=w1.heap[b]?):ek S (k+1) T w2 (λb=>Z1 b\/A' b) db (m.put n vs):=by
 rw[h.put hv];have hB:∀b,B b->w2.heap[b]?=w1.heap[b]?:=λb hb=>hk b (h.y.yz b (.inr hb)) (h.y.yl b (.inr hb)) (λe=>h.y.ys g h.own (.inr (e▸hb))) (λha=>h.dis b ha hb)
 have Uq:=h.y.c.blk.lt;refine⟨sv,uv,pre++x'::post,λb=>A' b\/B b,⟨⟨hc,?_,.inl h.y.zd,λb hb=> .inl (h.y.zs b hb),λb hb=> .inl (h.y.zu b hb),h.y.su,h.y.ud⟩,?_,?_,?_,?_,?_⟩,?_⟩
 ·exact d6 h.y.un λb hb=>hk b (h.y.zu b hb) (h.y.un.lt b hb).2 (λe=>h.y.su g h.own (e▸hb)) (λha=>h.y.yu b hb (.inl ha))
 ·rintro b (hb|hb)
  ·exact .inr hb
  ·exact .inl (h.y.yz b (.inr hb))
 ·rintro b (hb|hb)
  ·exact hAl b hb
  ·exact sB (h.y.yl b (.inr hb)) (hB b hb)
 ·rintro(hb|hb)
  ·exact h.y.yd (.inl (hA db hb h.y.zd Uq))
  ·exact h.y.yd (.inr hb)
 ·rintro b hs (hb|hb)
  ·exact h.y.ys b hs (.inl (hA b hb (h.y.zs b hs) (h.y.c.row.lt b hs).2))
  ·exact h.y.ys b hs (.inr hb)
 ·rintro b hs (hb|hb)
  ·exact h.y.yu b hs (.inl (hA b hb (h.y.zu b hs) (h.y.un.lt b hs).2))
  ·exact h.y.yu b hs (.inr hb)
 ·refine jx.join (A:=A') (B:=B) h.len hx ?_ (λb hb=> .inl hb) (λb hb=> .inr hb) (λb ha hb=>h.dis b (hA b ha (h.y.yz b (.inr hb)) (h.y.yl b (.inr hb))) hb);exact h.sep.imp λy f C _ _ hC hs=>hs.keep (λ_ _ _ _ hD hr=>hr.keep λb hb _=>hB b (hC b (hD b hb))) (λb hb _=>hB b (hC b hb))
section
open Uq
section
variable {S:d8} {k db:Nat} {T:Option MT} {w w1 w':an} {m:PM} {uv:Value} {n:Int} {pre post:List gj} {x:gj} {Z1:ap} {src:Option Nat}
theorem pE {Z:ap}{sv:Value}{l:List gj}{Y:ap}(hy:Nb w Z db sv uv m.unk l Y)(hs:jx (gD S (ek S k) w T) Y l m.fs)
  {e:Ending} (h:vO w db sv uv l n e w1):
  ∃g c pre x post A B fp fq,e= .returned (.pointer (some (ai g (pre.length*4))))/\vQ S k T w1 (λb=>Z b\/b=g) db m n g pre x post (.slice (some (ai g 0)) (pre++x::post).length c) uv A B fp fq/\fk w Z w1 (λb=>Z b\/b=g)/\(∀b,A b->Y b)/\dX (db::sv.ownBlock.toList) w w1:=by
 obtain⟨g,c,pre,x,post,rfl,hc,hx,hw,hk,hg⟩:=h
 have hY:∀b,Y b->w1.heap[b]?=w.heap[b]?:=λb hb=>hk.block b (hy.yl b hb) (λhm=>by
  simp only[aN,cZ]at hm
  rcases hm with rfl|hm
  ·exact hy.yd hb
  ·exact hy.ys b hm hb)
 have hU:∀b,uv.ownBlock=some b->w1.heap[b]?=w.heap[b]?:=λb hb=>hk.block b (hy.un.lt b hb).2 (λhm=>by
  simp only[aN,cZ]at hm
  rcases hm with rfl|hm
  ·exact hy.ud hb
  ·exact hy.su b hm hb)
 have UK:¬Y g:=λhb=>by
  rcases hg with hg|hg
  ·exact hy.ys g hg hb
  ·have:=hy.yl g hb;omega
 have UL:uv.ownBlock≠some g:=λhb=>by
  rcases hg with hg|hg
  ·exact hy.su g hg hb
  ·have:=(hy.un.lt g hb).2;omega
 have Ur:∀b,(Value.slice (some (ai g 0)) (pre++x::post).length c).ownBlock=some b->b=g:=λb hb=>by simpa [Value.ownBlock]using hb.symm
 have UE:fk w Z w1 (λb=>Z b\/b=g):=⟨hk.os,hk.tape,hk.output,hk.size,λb hb hz=>hk.block b hb (λhm=>by
   simp only[aN,cZ]at hm
   rcases hm with rfl|hm
   ·exact hz hy.zd
   ·exact hz (hy.zs b hm)),λb hb=>by
   rcases hb with hb|rfl
   ·exact .inl hb
   ·rcases hg with hg|hg
    ·exact .inl (hy.zs _ hg)
    ·exact .inr hg⟩
 have Uw:∀{y:gj} {f:PF} {C:ap},(∀b,C b->Y b)->gD S (ek S k) w T y f C->gD S (ek S k) w1 T y f C:=λhC hh=>hh.keep (λ_ _ _ _ hD hr=>hr.keep λb hb _=>hY b (hC b (hD b hb))) (λb hb _=>hY b (hC b hb))
 have srt:=hc.srt;rw[bU,bg]at srt
 have UF:∀{fp:List PF},fp.map (·.1)=pre.map (·.1)->∀f∈fp,f.1<n:=fun{fp} e f hf=>by
  have:f.1∈pre.map (·.1):=e▸aP.2 ⟨f,hf,rfl⟩;have⟨y,hy,UB⟩:=aP.1 this;rw[<-UB,<-hx];exact srt.2.2 y hy x Uf
 have UG:∀{fq:List PF},fq.map (·.1)=post.map (·.1)->∀f∈fq,n<f.1:=fun{fq} e f hf=>by
  have:f.1∈post.map (·.1):=e▸aP.2 ⟨f,hf,rfl⟩;have⟨y,hy,UB⟩:=aP.1 this;rw[<-UB,<-hx];exact srt.2.1.1 y hy
 have UH:∀(A B:ap),(∀b,A b->Y b)->(∀b,B b->Y b)->Nb w1 (λb=>Z b\/b=g) db (.slice (some (ai g 0)) (pre++x::post).length c) uv m.unk (pre++x::post) (λb=>A b\/B b):=λA B hA hB=>by
  have Ut:∀b,A b\/B b->Y b:=λb hb=>hb.elim (hA b) (hB b)
  exact⟨⟨hc,d6 hy.un hU,.inl hy.zd,λb hb=> .inr (Ur b hb),λb hb=> .inl (hy.zu b hb),λb hb=>by rw[Ur b hb];exact UL,hy.ud⟩,
   λb hb=> .inl (hy.yz b (Ut b hb)),λb hb=>sB (hy.yl b (Ut b hb)) (hY b (Ut b hb)),λhb=>hy.yd (Ut db hb),λb hb hq=>by rw[Ur b hb]at hq;exact UK (Ut g hq),λb hb hq=>hy.yu b hb (Ut b hq)⟩
 rcases hw with⟨rfl,hsv⟩|⟨rfl,UR⟩
 ·have⟨fp,f,fq,US,hlen,A,B,p1,p2,p3,p4,p5⟩:=hs.split;have hf:f=(n,f.2):=by rw[<-hx,p1.1]
  have Uu:=p2.nums;rw[bI,bI]at Uu;have⟨UC,UD⟩:=List.append_inj Uu (by simpa using hlen);refine⟨g,c,pre,x,post,A,B,fp,fq,rfl,⟨rfl,UH A B p3 p4,hlen,p2.imp λy q C _ _ hC hh=>Uw (λb hb=>p4 b (hC b hb)) hh,p5,hx,UF UC,UG UD,.inl ⟨f.2,by rw[US];rw[<-hf],by rw[<-hf];exact Uw p3 p1⟩⟩,UE,p3,hk⟩
 ·have Uu:=hs.nums;have UM:=hs.len;have Ux:m.fs=m.fs.take pre.length++m.fs.drop pre.length:=(ca _ _).symm;rw[Ux,bI,bI]at Uu;have UI:(m.fs.take pre.length).length=pre.length:=by rw[bG,<-UM,aH];omega
  have⟨UC,UD⟩:=List.append_inj Uu (by simpa using UI);rw[Ux]at hs;refine⟨g,c,pre,x,post,λ_=>False,Y,m.fs.take pre.length,m.fs.drop pre.length,rfl,⟨rfl,UH _ Y (λ_ h=>h.elim) (λ_ h=>h),UI,hs.imp λy q C _ _ hC hh=>Uw hC hh,λ_ h=>h.elim,hx,UF UC,UG UD,.inr ⟨Ux,UR,λ_ h=>h⟩⟩,UE,λ_ h=>h.elim,hk⟩
theorem Jv (pre post:List gj)(x x':gj)(j:Nat)(hj:j<4)(v:Value)(h:(d5 x).set j v=d5 x'):((pre++x::post).flatMap d5).set (pre.length*4+j) v=(pre++x'::post).flatMap d5:=by
 have hl:(pre.flatMap d5).length=pre.length*4:=by
  clear h
  induction pre with
  |nil=>rfl
  |cons y l ih=>rw[bi,aH,ih,fW,be];omega
 rw[cV,cV,List.set_append_right _ _ Ue,hl,Nat.add_sub_cancel_left,bi,bi,<-h,List.set_append_left _ _ (by rw[fW];exact hj)]
theorem CZ.put {g c:Nat}{x':gj}(h:CZ w db (.slice (some (ai g 0)) (pre++x::post).length c) uv (pre++x::post)){j:Nat}(hj:j<4){v:Value}(hx:x'.1=x.1)(hf:pB x')(hs:(d5 x).set j v=d5 x'):
  CZ (w.setCell (ai g (pre.length*4+j)) v) db (.slice (some (ai g 0)) (pre++x::post).length c) uv (pre++x'::post):=by
 have Uv:g≠db:=λe=>h.ne (by rw[e];rfl)
 have hlen:(pre++x'::post).length=(pre++x::post).length:=Uf;refine⟨h.blk.other _ _ Uv,?_,?_,?_,h.ne,by rw[hlen];exact h.len⟩
 ·have:=ly h.row (o:=pre.length*4+j) v Ug;rw[Jv pre post x x' j hj v hs]at this;rw[hlen];exact this
 ·intro y hy;simp only[aR,aN]at hy
  rcases hy with hy|rfl|hy
  ·exact h.form y (by simp[hy])
  ·exact hf
  ·exact h.form y (by simp[hy])
 ·have:=h.srt;rw[bU,bg]at this⊢;refine⟨this.1,⟨λy hy=>by rw[hx];exact this.2.1.1 y hy,this.2.1.2⟩,λa ha b hb=> ?_⟩
  rcases aN.1 hb with rfl|hb
  ·rw[hx];exact this.2.2 a ha x Uf
  ·exact this.2.2 a ha b (by simp[hb])
theorem vQ.cells {g c:Nat}{A B:ap}{fp fq:List PF}
  (h:vQ S k T w1 Z1 db m n g pre x post (.slice (some (ai g 0)) (pre++x::post).length c) uv A B fp fq) (hw:w'.heap[g]?=w1.heap[g]?):
  w'.cell? (ai g (pre.length*4))=some (aa n)/\w'.cell? (ai g (pre.length*4+1))=some x.2.1/\w'.cell? (ai g (pre.length*4+2))=some x.2.2.1/\w'.cell? (ai g (pre.length*4+3))=some x.2.2.2/\∀o,w'.frozen? (ai g o)=false:=by
 have hx:(pre++x::post)[pre.length]?=some x:=Uf;have⟨g',e,_,hc⟩:=rt h.y.c.row hx
 cases e
 have⟨c0,c1,c2,c3⟩:=hc w' hw;rw[h.xn]at c0;refine⟨c0,c1,c2,c3,?_⟩;have⟨cs,hb⟩:=jY h.y.c.row h.own;exact(dM.rules (hw.trans hb)).2
theorem vQ.vals {g c:Nat}{A B:ap}{fp fq:List PF}
  (h:vQ S k T w1 Z1 db m n g pre x post (.slice (some (ai g 0)) (pre++x::post).length c) uv A B fp fq) {w9:an} {gg cap N:Nat} {lv:List LV} {cs:aq} (hsrc:∀b,src=some b->A b) (Uv:lv≠ []) (hB:aj w1 w') (hgrow:w'.grownBy w9 src)
  (Ur:w9.ownsRow 0 55 4 (Ub gg N cap) N cs) (hN:N=lv.length) (hcs:cs=lv.flatMap lV) (Us:src=some gg\/w1.heap.size<=gg) (hok:nS S T n .vals) (hx2:x.2.2.1=ah) (hx3:x.2.2.2= .map none):
  ∃Z',fk w1 Z1 (w9.setCell (ai g (pre.length*4+1)) (Ub gg N cap)) Z'/\ek S (k+1) T (w9.setCell (ai g (pre.length*4+1)) (Ub gg N cap)) Z' db (m.put n (lv.map pC)):=by
 subst hN hcs;have UN:=(h.y.c.row.lt g h.own).2;have UO:=h.y.c.blk.lt;have Uq:∀b,b<w1.heap.size->¬A b->w9.heap[b]?=w1.heap[b]?:=λb hb ha=>(hgrow.block b (aD hb hB.size) (λe=>ha (hsrc b e.symm))).trans (hB.block b hb)
 have UJ:¬A g:=λha=>h.y.ys g h.own (.inl ha)
 have UP:¬A db:=λha=>h.y.yd (.inl ha)
 have Uy:gg<w9.heap.size:=(Ur.lt gg rfl).2
 have Uz:gg≠g:=λe=>by
  rcases Us with Us|Us
  ·exact UJ (hsrc g (e▸Us))
  ·omega
 have UQ:=h.y.c.keep (w':=w9) (Uq db UO UP) (λb hb=>by
  have:g=b:=by simpa [Value.ownBlock]using hb
  subst this
  exact Uq _ UN UJ)
 have UA:=UQ.put (j:=1) Ue (v:= Ub gg lv.length cap) (x':=(x.1,Ub gg lv.length cap,ah,.map none)) rfl ⟨⟨_,_,_,rfl⟩,⟨_,_,_,rfl⟩,_,rfl⟩ (by simp[d5,hx2,hx3]);refine⟨λb=>Z1 b\/b=gg,⟨?_,?_,?_,?_,?_,?_⟩,h.close UA (A':=λb=>b=gg) ⟨h.xn,.inl ⟨by rw[h.xn];exact hok,lv,Uv,rfl,⟨?_,?_⟩,rfl,rfl⟩⟩ (by simpa using Uv) ?_ ?_ ?_⟩
 ·exact hgrow.os.trans hB.os
 ·exact hgrow.tape.trans hB.tape
 ·exact hgrow.output.trans hB.output
 ·simpa using aG hB.size hgrow.size
 ·intro b hb hz;rw[dK,dD (λe=>hz (by rw[<-e];exact h.y.zs g h.own))];exact Uq b hb (λha=>hz (h.y.yz b (.inl ha)))
 ·rintro b (hb|rfl)
  ·exact .inl hb
  ·rcases Us with Us|Us
   ·exact .inl (h.y.yz _ (.inl (hsrc _ Us)))
   ·exact .inr Us
 ·refine d6 Ur λb hb=> ?_
  obtain rfl:gg=b:=by simpa [Value.ownBlock]using hb
  rw[dK,dD (λe=>Uz e.symm)]
 ·intro b hb;simpa [Value.ownBlock]using hb.symm
 ·rintro b rfl _ hl
  rcases Us with Us|Us
  ·exact hsrc _ Us
  ·omega
 ·rintro b rfl;simpa using Uy
 ·intro b _ hb UT ha;rw[dK,dD (λe=>UT e.symm)];exact Uq b hb ha
end
end
def Tryz.infoV:(prog.info? 55).map (λi=>(i.zero,i.size,i.bytes))=some (some (.agg #[.int .u64 0,T9,ah,T9]),4,64):=Uj
def Tryz.infoF:(prog.info? 58).map (λi=>(i.zero,i.size,i.bytes))=some (some (.agg #[aa 0,ah]),2,32):=Uj
section
open Uq
section
variable {db k:Nat} {l pre post:List gj} {Y:ap} {S:d8} {T:Option MT}
theorem Nb.keep {w w':an}{Z:ap}{sv uv:Value}{u:am}(hy:Nb w Z db sv uv u l Y)(hk:∀b,Z b->b<w.heap.size->w'.heap[b]?=w.heap[b]?):Nb w' Z db sv uv u l Y:=
 {hy with toDrB:=hy.toDrB.keep hk,yl:=λb hb=>sB (hy.yl b hb) (hk b (hy.yz b hb) (hy.yl b hb))}
theorem my {w w':an}{fs:List PF}(hs:jx (gD S (ek S k) w T) Y l fs)(hk:∀b,Y b->b<w.heap.size->w'.heap[b]?=w.heap[b]?):jx (gD S (ek S k) w' T) Y l fs:=
 hs.imp λ_ _ _ _ _ hA h=>h.keep (λ_ _ _ _ hC hr=>hr.keep λb hb hl=>hk b (hA b (hC b hb)) hl) (λb hb hl=>hk b (hA b hb) hl)
theorem vQ.ofVals {w1:an}{Z1:ap}{m:PM}{n:Int}{g:Nat}{x:gj}{sv uv:Value}{A B:ap}{fp fq:List PF}
  (h:vQ S k T w1 Z1 db m n g pre x post sv uv A B fp fq) (hkd:(∀kd,nS S T n kd->kd= .vals)\/∀f∈m.fs,f.1≠n):
  (x.2.2.1=ah/\x.2.2.2= .map none)/\((x.2.1=ah/\m.get n= [])\/∃gv cc lv,lv≠ []/\x.2.1= Ub gv lv.length cc/\A gv/\m.get n=lv.map pC/\w1.ownsRow 0 55 4 (Ub gv lv.length cc) lv.length (lv.flatMap lV)):=by
 rcases h.was with⟨old,e,hs⟩|⟨e,rfl,_⟩
 ·obtain⟨h1,h2⟩:=hs;have UH:(n,old)∈m.fs:=by rw[e];simp
  have UI:m.get n=old:=by
   unfold PM.get;rw[e];exact qo n old fq fp h.lo
  rw[h.xn]at h2;have Uv:=hkd.resolve_right (λq=>q _ UH rfl)
  rcases h2 with⟨_,lv,hv⟩|⟨q,_⟩|⟨t,q,_⟩
  ·refine⟨⟨hv.c2,hv.c3⟩,.inr ?_⟩;have Ur:=hv.row
   rcases Ur.1.2 with⟨_,hz⟩|⟨gv,cc,UB,e2,_⟩
   ·exact absurd (bC hz) hv.ne
   ·rw[e2]at Ur;exact⟨gv,cc,lv,hv.ne,e2,Ur.2 gv rfl,UI.trans hv.pm,Ur.1⟩
  ·exact absurd (Uv _ q) Uf
  ·exact absurd (Uv _ q) Uf
 ·refine⟨⟨rfl,rfl⟩,.inl ⟨rfl,?_⟩⟩;unfold PM.get;rw[e];refine mZ n _ λf hf=> ?_
  rcases aR.1 hf with hf|hf
  ·have:=h.lo f hf;omega
  ·have:=h.hi f hf;omega
def jG (S:d8)(k:Nat)(T:Option MT)(w:an)(Z:ap)(db:Nat)(m:PM)(e:Ending)(w':an):Prop:=e= .returned (.tuple #[])/\∃Z',fk w Z w' Z'/\ek S (k+1) T w' Z' db m
theorem xj (S:d8)(k:Nat)(T:Option MT)(w:an)(Z:ap)(db:Nat)(m:PM)(n:Int)(v:LV)(h:ek S (k+1) T w Z db m)(hok:nS S T n .vals)(hkd:(∀kd,nS S T n kd->kd= .vals)\/∀f∈m.fs,f.1≠n)(hl:m.fs.length<1073741824):
  Calls prog 195 #[ag db,aa n,vg v] w (jG S k T w Z db (m.put n [pC v])):=by
 have⟨i0,UC,UD,UE,UF⟩:=info_parts Tryz.infoV;obtain⟨sv,uv,l,Y,hy,hs⟩:=h;have⟨B0,KB⟩:=dS w #[.int .u64 v.1,ae v.2,ah,T9] 55;have hdl:=hy.c.blk.lt;have UJ:=hy.c.row.lt;have Uy:=hy.keep (λb _ hb=>B0.block b hb);have UK:=my hs (λb _ hb=>B0.block b hb);have hS:=tO _ db sv uv l n Uy.c (by rw[hs.len];exact hl);have hAl:∀b,Y b->b<w.heap.size:=hy.yl;unfold vg;go_in
 go_wp2_with fail;generalize w.alloc (ak #[.int .u64 v.1,ae v.2,ah,T9] 55)=w0 at*;refine hS.mono ?_;rintro e w1 hR;obtain⟨g,c,pre,x,post,A,B,fp,fq,rfl,O,st,hAY,K⟩:=pE Uy UK hR
 have Uz:=KB.kept K (by
  simp only[aN,cZ,not_or]
  exact⟨Ue,λe=>by have:=(UJ _ e).2;omega⟩)
 have⟨k1,k2⟩:=Uz.rules;have⟨⟨x2,x3⟩,hx⟩:=O.ofVals hkd;have⟨c0,c1,c2,c3,cf⟩:=O.cells rfl;have UA:=(O.y.c.row.lt g rfl).2;have hgn:w.heap.size<w1.heap.size:=Uz.lt
 have Ut:∀(w' w9:an) (src:Option Nat),aj w1 w'->w'.grownBy w9 src->(∀b,src=some b->A b)->w9.heap[g]?=w1.heap[g]?:=λw' w9 src hB hg hs=>
  (hg.block g (aD UA hB.size) (λe=>O.y.ys g rfl (.inl (hs g e.symm)))).trans (hB.block g UA)
 have HC:Hid (∀(w' w9:an) (src:Option Nat),aj w1 w'->w'.grownBy w9 src->(∀b,src=some b->A b)->w9.heap[g]?=w1.heap[g]?):=Ut
 have HF:Hid (∀(w' w9:an) (src:Option Nat) (gg cap:Nat) (cs:aq),aj w1 w'->w'.grownBy w9 src->(∀b,src=some b->A b)->w9.ownsRow 0 55 4 (Ub gg 1 cap) 1 cs->cs=lV v->(src=some gg\/gg=w1.heap.size+1)->
   jG S k T w Z db (m.put n [pC v]) (.returned (.tuple #[])) (w9.setCell (ai g (pre.length*4+1)) (Ub gg 1 cap))):=by
  intro w' w9 src gg cap cs hB hg hs Uw UL UM;have⟨Z',h1,h2⟩:=O.vals (lv:= [v]) hs Uf hB hg Uw rfl (by simp[UL]) (UM.imp id (λe=>Ue)) hok x2 x3;refine⟨rfl,Z',?_,h2⟩;have s0:fk w Z w0 Z:=(fk.refl w Z).below B0;exact(s0.trans st).trans h1
 rcases hx with⟨x1,hg0⟩|⟨gv,cc,lv,hne,x1,UG,hg1,Ur⟩
 ·rw[x1]at c1;have BB:aj w1 (w1.drew.alloc (ak #[.int .u64 v.1,ae v.2,ah,T9] 55)):=((Below.refl _ _).drew).alloc (ay _) _;go_upto_region 2 with fail
  go_region_law (first|(refine step_append_lies _ Uk _ _ _ Uk 0 55 i0 _ 4 64 underlying56 UC UD UE UF rfl Ue (ah) 0 [] Uk (bm _ _ _ _) (ai w1.heap.size 0) 1 1 [_,_,_,_] Uk Uk (br (t:=55) (fr:=(0,0)) (heap_alloc_new w1.drew _)) Um Ue Ul Ue Ue (w1.heap.size+1) Uf ?_;intro gg cap w9 Us Uq Uu Ux;have⟨z0,z1,z2,z3,zf⟩:=O.cells (HC.out _ w9 _ BB Uq (λb e=>by cases e))))
  all_goals
   go_end0;exact HF.out _ w9 _ gg cap _ BB Uq (λb e=>by cases e) Us rfl Uu
 ·rw[x1]at c1;have BB:aj w1 (w1.drew.alloc (ak #[.int .u64 v.1,ae v.2,ah,T9] 55)):=((Below.refl _ _).drew).alloc (ay _) _
  have hr0:w1.ownsRow 0 55 4 (Ub gv 0 cc) 0 []:=by
   refine⟨rfl,.inr ?_⟩
   rcases Ur.2 with⟨q,_⟩|⟨g',cap,UB,q,q1,q2,q3,q4,q5,q6⟩
   ·cases q
   ·cases q
    exact⟨gv,cc,UB,rfl,aL _,q2,aL _,q4,q5,Uf⟩
  have hgvl:=(Ur.lt gv rfl).2;go_upto_region 2 with fail
  go_region_law (first|(refine step_append_lies _ Uk _ _ _ Uk 0 55 i0 _ 4 64 underlying56 UC UD UE UF rfl Ue (Ub gv 0 cc) 0 [] Uk (hr0.drew.alloc _) (ai w1.heap.size 0) 1 1 [_,_,_,_] Uk Uk (br (t:=55) (fr:=(0,0)) (heap_alloc_new w1.drew _)) Um Ue Ul Ue Ue (w1.heap.size+1) Uf ?_;intro gg cap w9 Us Uq Uu Ux;have⟨z0,z1,z2,z3,zf⟩:=O.cells (HC.out _ w9 _ BB Uq (λb e=>by cases e;exact UG))))
  all_goals
   go_end0;exact HF.out _ w9 _ gg cap _ BB Uq (λb e=>by cases e;exact UG) Us rfl Uu
end
end
section
variable {S:d8} {k db:Nat} {T:Option MT} {w:an} {Z:ap} {pre post:List gj} {ps1 ps2:au}
theorem ek.clip {m:PM}(h:ek S k T w Z db m):ek S k T w (λb=>Z b/\b<w.heap.size) db m:=by
 cases k with
 |zero=>exact h
 |succ k=>
  obtain⟨sv,uv,l,Y,hy,hs⟩:=h;exact⟨sv,uv,l,Y,{hy with zd:=⟨hy.zd,hy.c.blk.lt⟩,zs:=λb hb=>⟨hy.zs b hb,(hy.c.row.lt b hb).2⟩,zu:=λb hb=>⟨hy.zu b hb,(hy.un.lt b hb).2⟩,yz:=λb hb=>⟨hy.yz b hb,hy.yl b hb⟩},hs⟩
def Nc (S:d8)(k:Nat)(T:Option MT)(w:an)(Z:ap)(db p:Nat)(C:ap)(T':Option MT)(M:PM->PM):Prop:=
 (∀b,C b->Z b)/\∀(w':an) (C':ap) (m':PM),(∀b,Z b->¬C b->b<w.heap.size->w'.heap[b]?=w.heap[b]?)->w.heap.size<=w'.heap.size->(∀b,C' b->C b\/w.heap.size<=b)->ek S k T' w' C' p m'->ek S (k+1) T w' (λb=>Z b\/C' b) db (M m')
structure Be (S:d8)(k:Nat)(T:Option MT)(w:an)(Z:ap)(db:Nat)(u:am)(n:Int)(pre:List gj)(x:gj)(post:List gj)(sv uv:Value)(A B:ap)(fp fq:List PF)(ps1:au)(p:Nat)(ps2:au)(vs1 vs2:List PV)(C D:ap):Prop where
 y:Nb w Z db sv uv u (pre++x::post) (λb=>A b\/B b)
 len:fp.length=pre.length
 sep:jx (gD S (ek S k) w T) B (pre++post) (fp++fq)
 dis:∀b,A b->¬B b
 xn:x.1=n
 c1:x.2.1=ah
 c3:x.2.2.2= .map none
 row:eD w A 180 1 x.2.2.1 (ps1++p::ps2).length ((ps1++p::ps2).map qL)
 inC:∀b,C b->A b
 inD:∀b,D b->A b
 own:∀b,x.2.2.1.ownBlock=some b->¬C b/\¬D b
 cd:∀b,C b->¬D b
 vl:vs1.length=ps1.length
 sub:jx (λp v C=>v=mV v.2.2/\ek S k (nB S T n) w C p v.2.2) D (ps1++ps2) (vs1++vs2)
 ok:nS S T n .msgs
 lone:uG T n->(ps1++p::ps2).length=1
 pl:(ps1++p::ps2).length<=1073741824
theorem Be.hole {u:am}{n:Int}{x:gj}{sv uv:Value}{A B:ap}{fp fq:List PF}{p:Nat}{vs1 vs2:List PV}{C D:ap}
  (h:Be S k T w Z db u n pre x post sv uv A B fp fq ps1 p ps2 vs1 vs2 C D):Nc S k T w Z db p C (nB S T n) (λm'=> .mk (fp++(n,vs1++mV m'::vs2)::fq) u):=by
 refine⟨λb hb=>h.y.yz b (.inl (h.inC b hb)),λw' Uw m' hk hsz Ut Uq=> ?_⟩;obtain⟨C',Uu,Us,Ux,Uy⟩:∃C':ap,ek S k (nB S T n) w' C' p m'/\(∀b,C' b->C b\/w.heap.size<=b)/\(∀b,C' b->b<w'.heap.size)/\∀b,C' b->Uw b:=⟨_,Uq.clip,λb hb=>Ut b hb.1,λb hb=>hb.2,λb hb=>hb.1⟩;refine ek.mono (Z:=λb=>Z b\/C' b) ?_ (λb hb=>hb.imp id (Uy b));have hA:∀b,b<w.heap.size->C' b->A b:=λb hb hc=>(Us b hc).elim (h.inC b) (λq=>Ue)
 have hY:∀b,b<w.heap.size->((A b/\¬C b)\/C' b)\/B b->A b\/B b:=λb hb q=>q.imp (λq=>q.elim (λq=>q.1) (hA b hb)) id
 have Ur:∀b,Z b->b<w.heap.size->¬A b->w'.heap[b]?=w.heap[b]?:=λb hz hb ha=>hk b hz (λq=>ha (h.inC b q)) hb
 have hB:∀b,B b->w'.heap[b]?=w.heap[b]?:=λb hb=>Ur b (h.y.yz b (.inr hb)) (h.y.yl b (.inr hb)) (λq=>h.dis b q hb)
 have hD:∀b,D b->w'.heap[b]?=w.heap[b]?:=λb hb=>hk b (h.y.yz b (.inl (h.inD b hb))) (λq=>h.cd b q hb) (h.y.yl b (.inl (h.inD b hb)))
 have Uv:=h.y.c.blk.lt
 refine⟨sv,uv,pre++x::post,λb=>((A b/\¬C b)\/C' b)\/B b,⟨⟨h.y.c.keep (Ur db h.y.zd Uv λq=>h.y.yd (.inl q)) (λb hb=>Ur b (h.y.zs b hb) (h.y.c.row.lt b hb).2 λq=>h.y.ys b hb (.inl q)),d6 h.y.un (λb hb=>Ur b (h.y.zu b hb) (h.y.un.lt b hb).2 λq=>h.y.yu b hb (.inl q)),
  .inl h.y.zd,λb hb=> .inl (h.y.zs b hb),λb hb=> .inl (h.y.zu b hb),h.y.su,h.y.ud⟩,?_,?_,λq=>h.y.yd (hY db Uv q),λb hb q=>h.y.ys b hb (hY b (h.y.c.row.lt b hb).2 q),λb hb q=>h.y.yu b hb (hY b (h.y.un.lt b hb).2 q)⟩,?_⟩
 ·rintro b ((q|q)|q)
  ·exact .inl (h.y.yz b (.inl q.1))
  ·exact .inr q
  ·exact .inl (h.y.yz b (.inr q))
 ·rintro b ((q|q)|q)
  ·exact aD (h.y.yl b (.inl q.1)) hsz
  ·exact Ux b q
  ·exact aD (h.y.yl b (.inr q)) hsz
 ·refine jx.join (A:=λb=>(A b/\¬C b)\/C' b) (B:=B) h.len ?_ ?_ (λb q=> .inl q) (λb q=> .inr q) ?_
  ·refine⟨h.xn,?_⟩;rw[h.xn];refine .inr (.inl ⟨h.ok,ps1++p::ps2,λb=>D b\/C' b,⟨Uf,h.lone,h.c1,h.c3,⟨d6 h.row.1 λb hb=>hk b (h.y.yz b (.inl (h.row.2 b hb))) (h.own b hb).1 (h.row.1.lt b hb).2,λb hb=> .inl ⟨h.row.2 b hb,(h.own b hb).1⟩⟩,?_,?_,?_,h.pl⟩⟩)
   ·rintro b (q|q)
    ·exact .inl ⟨h.inD b q,λc=>h.cd b c q⟩
    ·exact .inr q
   ·rintro b hb (q|q)
    ·exact(h.own b hb).2 q
    ·exact(Us b q).elim (h.own b hb).1 (λe=>by have:=(h.row.1.lt b hb).2;omega)
   ·refine jx.join (A:=C') (B:=D) h.vl ⟨rfl,Uu⟩ (h.sub.imp λq v E _ _ hE hq=>⟨hq.1,hq.2.keep λb hb _=>hD b (hE b hb)⟩) (λb q=> .inr q) (λb q=> .inl q) ?_;intro b hc hd;exact(Us b hc).elim (λc=>h.cd b c hd) (λe=>by have:=h.y.yl b (.inl (h.inD b hd));omega)
  ·exact h.sep.imp λy f E _ _ hE hs=>hs.keep (λ_ _ _ _ hF hr=>hr.keep λb hb _=>hB b (hE b (hF b hb))) (λb hb _=>hB b (hE b hb))
  ·rintro b (q|q) hb
   ·exact h.dis b q.1 hb
   ·exact(Us b q).elim (λc=>h.dis b (h.inC b c) hb) (λe=>by have:=h.y.yl b (.inr hb);omega)
end
section
open Uq
section
variable {S:d8} {k db g:Nat} {T:Option MT} {w w1:an} {m:PM} {n:Int} {Z1:ap} {pre post:List gj} {x:gj} {uv:Value}
theorem ek.fresh {b:Nat}(h:dM w b #[ah,ah] 183):ek S (k+1) T w (λx=>x=b) b PM.none:=
 ⟨ah,ah,[],λ_=>False,⟨⟨⟨h,bm _ _ _ _,Uf,List.Pairwise.nil,by simp[Value.ownBlock],Uf⟩,bm _ _ _ _,rfl,by simp[Value.ownBlock],by simp[Value.ownBlock],by simp[Value.ownBlock],by simp[Value.ownBlock]⟩,λ_ q=>q.elim,λ_ q=>q.elim,λq=>q,λ_ _ q=>q,λ_ _ q=>q⟩,trivial⟩
def EI (S:d8)(k:Nat)(T:Option MT)(w:an)(Z:ap)(db:Nat)(m:PM)(n:Int):Prop:=
 ∃sv uv l,CZ w db sv uv l/\l.length<1073741824/\∀w0 e w1,aj w w0->vO w0 db sv uv l n e w1->
  ∃g c pre x post A B fp fq,e= .returned (.pointer (some (ai g (pre.length*4))))/\vQ S k T w1 (λb=>Z b\/b=g) db m n g pre x post (.slice (some (ai g 0)) (pre++x::post).length c) uv A B fp fq/\fk w0 Z w1 (λb=>Z b\/b=g)/\(∀b,A b->b<w.heap.size)/\dX (db::sv.ownBlock.toList) w0 w1/\(sv.ownBlock=some g\/w0.heap.size<=g)
theorem ek.slot {Z:ap}(h:ek S (k+1) T w Z db m)(hl:m.fs.length<1073741824):EI S k T w Z db m n:=by
 obtain⟨sv,uv,l,Y,hy,hs⟩:=h;refine⟨sv,uv,l,hy.c,by rw[hs.len];exact hl,λw0 e w1 hb hR=> ?_⟩;have⟨g,c,pre,x,post,A,B,fp,fq,h1,O,st,U9,K⟩:=pE (hy.keep λb _ q=>hb.block b q) (my hs λb _ q=>hb.block b q) hR
 have hg:sv.ownBlock=some g\/w0.heap.size<=g:=by
  obtain⟨g',_,pre',_,_,rfl,_,_,_,_,hg⟩:=hR
  grind
 exact⟨g,c,pre,x,post,A,B,fp,fq,h1,O,st,λb q=>hy.yl b (U9 b q),K,hg⟩
theorem vQ.ofMsgs {sv:Value}{A B:ap}{fp fq:List PF}
  (h:vQ S k T w1 Z1 db m n g pre x post sv uv A B fp fq) (hkd:∀kd,nS S T n kd->kd= .msgs):
  (x.2.1=ah/\x.2.2.2= .map none)/\∃ps D,eD w1 A 180 1 x.2.2.1 ps.length (ps.map qL)/\(∀b,D b->A b)/\(∀b,x.2.2.1.ownBlock=some b->¬D b)/\jx (λp v C=>v=mV v.2.2/\ek S k (nB S T n) w1 C p v.2.2) D ps (m.get n)/\(uG T n->ps.length<=1)/\(ps= []->x=(n,ah,ah,.map none)):=by
 rcases h.was with⟨old,e,hs⟩|⟨e,rfl,hA⟩
 ·obtain⟨h1,h2⟩:=hs
  have UX:m.get n=old:=by
   unfold PM.get;rw[e];exact qo n old fq fp h.lo
  rw[h.xn]at h2
  rcases h2 with⟨q,_⟩|⟨_,ps,B,hv⟩|⟨t,q,_⟩
  ·grind
  ·exact⟨⟨hv.c1,hv.c3⟩,ps,B,hv.row,hv.inA,hv.own,by rw[UX];exact hv.sub,λq=>by rw[hv.lone q];omega,λq=>absurd q hv.ne⟩
  grind
 ·refine⟨⟨rfl,rfl⟩,[],λ_=>False,eD.nil _ _ _ _,λ_ q=>q.elim,λ_ _ q=>q,?_,λ_=>Uf,λ_=>rfl⟩
  have:m.get n= []:=by
   unfold PM.get;rw[e];refine mZ n _ λf hf=> ?_
   rcases aR.1 hf with hf|hf
   ·have:=h.lo f hf;omega
   ·have:=h.hi f hf;omega
  rw[this];trivial
def sC (S:d8)(k:Nat)(T:Option MT)(w:an)(Z:ap)(db:Nat)(T':Option MT)(m0:PM)(M:PM->PM)(e:Ending)(w':an):Prop:=
 ∃p Z' C,e= .returned (ag p)/\fk w Z w' Z'/\ek S k T' w' C p m0/\Nc S k T w' Z' db p C T' M/\∀b,C b->b<w'.heap.size
theorem vQ.addMsg {c:Nat}{A B:ap}{fp fq:List PF}
  (h:vQ S (k+1) T w1 Z1 db m n g pre x post (.slice (some (ai g 0)) (pre++x::post).length c) uv A B fp fq) {w' w9:an} {gg cap N wb:Nat} {ps:au} {D:ap} {cs:aq}
  (x1:x.2.1=ah) (x3:x.2.2.2= .map none) (Uq:eD w1 A 180 1 x.2.2.1 ps.length (ps.map qL)) (UF:∀b,D b->A b) (UW:∀b,x.2.2.1.ownBlock=some b->¬D b) (Ur:jx (λp v C=>v=mV v.2.2/\ek S (k+1) (nB S T n) w1 C p v.2.2) D ps (m.get n))
  (hB:aj w1 w') (hgrow:w'.grownBy w9 x.2.2.1.ownBlock) (Us:w9.ownsRow 0 180 1 (Ub gg N cap) N cs) (hN:N=ps.length+1) (UQ:cs=ps.map qL++ [qL wb]) (UH:x.2.2.1.ownBlock=some gg\/w1.heap.size<=gg)
  (Kb:dM w1 wb #[ah,ah] 183) (hwZ:¬Z1 wb) (hok:nS S T n .msgs) (hln:uG T n->ps.length=0) (UU:ps.length<1073741824):
  fk w1 Z1 (w9.setCell (ai g (pre.length*4+2)) (Ub gg N cap)) (λb=>Z1 b\/b=gg)/\ek S (k+1) (nB S T n) (w9.setCell (ai g (pre.length*4+2)) (Ub gg N cap)) (λb=>b=wb) wb PM.none/\
   Nc S (k+1) T (w9.setCell (ai g (pre.length*4+2)) (Ub gg N cap)) (λb=>(Z1 b\/b=gg)\/b=wb) db wb (λb=>b=wb) (nB S T n) (λm'=>m.put n (m.get n++ [mV m'])):=by
 subst hN UQ;have UD:=(h.y.c.row.lt g h.own).2;have UI:=h.y.c.blk.lt;have Ux:∀b,b<w1.heap.size->x.2.2.1.ownBlock≠some b->w9.heap[b]?=w1.heap[b]?:=λb hb ha=>(hgrow.block b (aD hb hB.size) (λe=>ha e.symm)).trans (hB.block b hb)
 have US:∀b,b<w1.heap.size->¬A b->w9.heap[b]?=w1.heap[b]?:=λb hb ha=>Ux b hb (λe=>ha (Uq.2 b e))
 have UY:¬A g:=λha=>h.y.ys g h.own (.inl ha)
 have UZ:¬A db:=λha=>h.y.yd (.inl ha)
 have UJ:gg<w9.heap.size:=(Us.lt gg rfl).2;have Uw:gg<w1.heap.size->A gg:=λq=>UH.elim (Uq.2 gg) (λe=>Ue)
 have UK:gg≠g:=λe=>UY (e▸Uw (e▸UD))
 have U0:=Kb.lt;have U1:wb≠g:=λe=>hwZ (by rw[e];exact h.y.zs g h.own)
 have U2:¬A wb:=λq=>hwZ (h.y.yz wb (.inl q))
 have Uy:∀b,b≠g->(w9.setCell (ai g (pre.length*4+2)) (Ub gg (ps.length+1) cap)).heap[b]?=w9.heap[b]?:=λb q=>by rw[dK,dD (λe=>q e.symm)]
 have U3:=h.y.c.keep (w':=w9) (US db UI UZ) (λb hb=>by
  have:g=b:=by simpa [Value.ownBlock]using hb
  grind)
 have UL:=U3.put (j:=2) Ue (v:= Ub gg (ps.length+1) cap) (x':=(x.1,ah,Ub gg (ps.length+1) cap,.map none)) rfl ⟨⟨_,_,_,rfl⟩,⟨_,_,_,rfl⟩,_,rfl⟩ (by simp[d5,x1,x3]);have hsz:w1.heap.size<=(w9.setCell (ai g (pre.length*4+2)) (Ub gg (ps.length+1) cap)).heap.size:=by simpa using aG hB.size hgrow.size
 have UM:(w9.setCell (ai g (pre.length*4+2)) (Ub gg (ps.length+1) cap)).heap.size=w9.heap.size:=Uf;have hown10:(w9.setCell (ai g (pre.length*4+2)) (Ub gg (ps.length+1) cap)).ownsRow 0 180 1 (Ub gg (ps.length+1) cap) (ps.length+1) (ps.map qL++ [qL wb]):=d6 Us λb hb=>Uy b (λe=>UK ((show gg=b by simpa [Value.ownBlock]using hb).trans e))
 have Uu:∀b,b<w1.heap.size->b≠g->¬A b->(w9.setCell (ai g (pre.length*4+2)) (Ub gg (ps.length+1) cap)).heap[b]?=w1.heap[b]?:=λb hb q ha=>(Uy b q).trans (US b hb ha)
 have U4:∀b,D b->(w9.setCell (ai g (pre.length*4+2)) (Ub gg (ps.length+1) cap)).heap[b]?=w1.heap[b]?:=λb hb=>by
  have hA:=UF b hb;have hl:=h.y.yl b (.inl hA)
  grind
 have UN:=(Uu wb U0 U1 U2).trans Kb;have U5:=hgrow.os.trans hB.os;have U6:=hgrow.tape.trans hB.tape;have U7:=hgrow.output.trans hB.output;clear Us hgrow hB;have Uz:(w9.setCell (ai g (pre.length*4+2)) (Ub gg (ps.length+1) cap)).os=w1.os:=U5;have UA:(w9.setCell (ai g (pre.length*4+2)) (Ub gg (ps.length+1) cap)).tape=w1.tape:=U6;have UB:(w9.setCell (ai g (pre.length*4+2)) (Ub gg (ps.length+1) cap)).output=w1.output:=U7;rw[<-UM]at UJ;generalize w9.setCell (ai g (pre.length*4+2)) (Ub gg (ps.length+1) cap)=w10 at*;refine⟨⟨Uz,UA,UB,hsz,λb hb hz=>Uu b hb (λe=>hz (e▸h.y.zs g h.own)) (λha=>hz (h.y.yz b (.inl ha))),?_⟩,ek.fresh UN,?_⟩
 ·rintro b (hb|rfl)
  ·grind
  ·by_cases q:b<w1.heap.size
   ·exact .inl (h.y.yz b (.inl (Uw q)))
   omega
 ·have hM:(λm'=>m.put n (m.get n++ [mV m']))=λm'=>PM.mk (fp++(n,m.get n++mV m':: [])::fq) m.unk:=funext λm'=>h.put Uf
  rw[hM];have UE:∀b,(A b\/b=gg)\/b=wb->b<w1.heap.size->A b\/b=wb:=λb q hb=>q.imp (λq=>q.elim id (λe=>e▸Uw (e▸hb))) id
  refine Be.hole (pre:=pre) (x:=(x.1,ah,Ub gg (ps.length+1) cap,.map none)) (post:=post) (sv:= .slice (some (ai g 0)) (pre++x::post).length c) (uv:=uv) (A:=λb=>(A b\/b=gg)\/b=wb) (B:=B) (ps1:=ps) (ps2:= []) (D:=D)
   ⟨⟨⟨UL,?_,.inl (.inl h.y.zd),λb hb=> .inl (.inl (h.y.zs b hb)),λb hb=> .inl (.inl (h.y.zu b hb)),h.y.su,h.y.ud⟩,?_,?_,?_,?_,?_⟩,h.len,?_,?_,h.xn,rfl,rfl,⟨?_,?_⟩,λb q=> .inr q,λb q=> .inl (.inl (UF b q)),?_,?_,Ur.len.symm,?_,hok,?_,by grind⟩
  ·exact d6 h.y.un λb hb=>Uu b (h.y.un.lt b hb).2 (λe=>h.y.su g h.own (e▸hb)) (λha=>h.y.yu b hb (.inl ha))
  ·rintro b (((hb|hb)|hb)|hb)
   ·exact .inl (.inl (h.y.yz b (.inl hb)))
   ·omega
   ·omega
   ·exact .inl (.inl (h.y.yz b (.inr hb)))
  ·rintro b (((hb|rfl)|rfl)|hb)
   ·exact aD (h.y.yl b (.inl hb)) hsz
   ·omega
   ·omega
   ·exact aD (h.y.yl b (.inr hb)) hsz
  ·rintro(hb|hb)
   ·rcases UE db hb UI with q|q
    ·grind
    ·exact hwZ (q▸h.y.zd)
   ·exact h.y.yd (.inr hb)
  ·rintro b hs (hb|hb)
   ·rcases UE b hb (h.y.c.row.lt b hs).2 with q|q
    ·exact h.y.ys b hs (.inl q)
    ·exact hwZ (q▸h.y.zs b hs)
   ·exact h.y.ys b hs (.inr hb)
  ·rintro b hs (hb|hb)
   ·rcases UE b hb (h.y.un.lt b hs).2 with q|q
    ·exact h.y.yu b hs (.inl q)
    ·exact hwZ (q▸h.y.zu b hs)
   ·exact h.y.yu b hs (.inr hb)
  ·have UT:∀b,B b->w10.heap[b]?=w1.heap[b]?:=λb hb=>Uu b (h.y.yl b (.inr hb)) (λe=>h.y.ys g h.own (.inr (e▸hb))) (λha=>h.dis b ha hb)
   exact h.sep.imp λy f C _ _ hC hs=>hs.keep (λ_ _ _ _ hD hr=>hr.keep λb hb _=>UT b (hC b (hD b hb))) (λb hb _=>UT b (hC b hb))
  ·intro b q hb
   rcases UE b q (h.y.yl b (.inr hb))with q|q
   ·exact h.dis b q hb
   ·exact hwZ (q▸h.y.yz b (.inr hb))
  ·grind
  ·intro b hb;have:gg=b:=by simpa [Value.ownBlock]using hb
   omega
  ·intro b hb;have e:gg=b:=by simpa [Value.ownBlock]using hb
   grind
  ·grind
  ·rw[bN,bN];exact Ur.imp λp v C _ _ hC hp=>⟨hp.1,hp.2.keep λb hb _=>U4 b (hC b hb)⟩
  grind
theorem PA:(prog.info? 180).map (λi=>(i.zero,i.size,i.bytes))=some (some (.pointer none),1,8):=Uj
theorem nC (S:d8)(k:Nat)(T:Option MT)(w:an)(Z:ap)(db:Nat)(m:PM)(n:Int)(h:EI S (k+1) T w Z db m n)(hok:nS S T n .msgs)(hkd:∀kd,nS S T n kd->kd= .msgs)(hln:uG T n->m.get n= [])(hvl:(m.get n).length<1073741824)(hZ:¬Z w.heap.size):
  Calls prog 190 #[ag db,aa n] w (sC S (k+1) T w Z db (nB S T n) PM.none (λm'=>m.put n (m.get n++ [mV m']))):=by
 have⟨i0,Va,Vb,Vc,Vd⟩:=info_parts PA;obtain⟨sv,uv,l,hc,hl,hR⟩:=h;have⟨B0,KB⟩:=dS w #[ah,ah] 183;have hS:=tO _ db sv uv l n (hc.below B0) hl;have UI:=hc.blk.lt;have hsl:=hc.row.lt;go_in
 go_wp2_with fail;generalize w.alloc (ak #[ah,ah] 183)=w0 at*;refine hS.mono ?_;rintro e w1 UV;obtain⟨g,c,pre,x,post,A,B,fp,fq,rfl,O,st,hAl,K,hg⟩:=hR w0 _ w1 B0 UV;clear UV hR hS;have hw0:=KB.lt
 have U8:=KB.kept K (by
  grind)
 have⟨⟨x1,x3⟩,ps,D,Uq,UF,UW,Ur,hlo,_⟩:=O.ofMsgs hkd;have⟨c0,c1,c2,c3,cf⟩:=O.cells rfl;have⟨xa,xn,xc,UP⟩:=dN Uq.1;have UU:ps.length<1073741824:=by have:=Ur.len;omega
 have Uv:=Uq.1;rw[UP]at c2 Uv;have UO:uG T n->ps.length=0:=λq=>by rw[Ur.len,hln q];rfl
 have HF:Hid (∀(w' w9:an) (gg cap N:Nat) (cs:aq),aj w1 w'->w'.grownBy w9 (Value.slice xa xn xc).ownBlock->w9.ownsRow 0 180 1 (Ub gg N cap) N cs->N=ps.length+1->cs=ps.map qL++ [qL w.heap.size]->((Value.slice xa xn xc).ownBlock=some gg\/w1.heap.size<=gg)->
   sC S (k+1) T w Z db (nB S T n) PM.none (λm'=>m.put n (m.get n++ [mV m'])) (.returned (ag w.heap.size)) (w9.setCell (ai g (pre.length*4+2)) (Ub gg N cap))):=by
  intro w' w9 gg cap N cs hB UG Us hN UQ UH;rw[<-UP]at UG UH
  have⟨h1,h2,h3⟩:=O.addMsg x1 x3 Uq UF UW Ur hB UG Us hN UQ UH U8 (by
   grind) hok UO UU
  refine⟨_,_,_,rfl,?_,h2,h3,λb q=>by rw[q];exact h2.lt.1⟩;have s0:fk w Z w0 Z:=(fk.refl w Z).below B0;have s1:=(s0.trans st).trans h1;exact⟨s1.os,s1.tape,s1.output,s1.size,s1.block,λb hb=>hb.elim (s1.grow b) (λe=> .inr Ue)⟩
 have HC:Hid (∀(w' w9:an),aj w1 w'->w'.grownBy w9 (Value.slice xa xn xc).ownBlock->w9.heap[g]?=w1.heap[g]?):=λw' w9 hB UG=>by
  have UD:=(O.y.c.row.lt g rfl).2;exact(UG.block g (aD UD hB.size) (λe=>O.y.ys g rfl (.inl (Uq.2 g (by grind))))).trans (hB.block g UD)
 have BB:aj w1 (w1.alloc (ak #[ag w.heap.size] 180)):=(Below.refl _ _).alloc (ay _) _;clear c0 c1 c3 x1 x3 UP Uq hkd;go_wp2_with (at_builtin;refine wpList_append_lies _ rfl _ _ 245 rfl 0 180 i0 _ 1 8 underlying245 Va Vb Vc Vd rfl Ue (.slice xa xn xc) ps.length (ps.map qL) rfl (Uv.alloc _) (ai w1.heap.size 0) 1 1 [_] rfl rfl (br (t:=180) (fr:=(0,0)) (heap_alloc_new w1 _)) Um Ue Ul Ue Ue _ rfl ?_;intro gg cap w9 UC Ut UR hlt9;have⟨z0,z1,z2,z3,zf⟩:=O.cells (HC.out _ w9 BB Ut))
 go_ret;exact HF.out _ w9 gg cap _ _ BB Ut UC rfl rfl (UR.imp id (λe=>by rw[e];exact BB.size))
end
def xk:∀{pre Ut post Uq:List gj} {x x':gj},(pre++x::post).Pairwise (λa b=>a.1<b.1)->pre++x::post=Ut++x'::Uq->x.1=x'.1->pre=Ut/\x=x'/\post=Uq
 | [],[],_,_,_,_,_,e,_=>by
  simp only[aS,List.cons.injEq]at e;exact⟨rfl,e⟩
 | [],y::p,_,_,_,x',hs,e,hx=>by
  simp only[aS,bf,List.cons.injEq]at e hs;rw[bg]at hs;have:=hs.1 x' (by rw[e.2];simp);omega
 |y::p,[],_,_,x,_,hs,e,hx=>by
  simp only[aS,bf,List.cons.injEq]at e hs;rw[bg]at hs;have:=hs.1 x Uf;rw[e.1]at this;omega
 |y::p,z::q,_,_,_,_,hs,e,hx=>by
  simp only[bf,List.cons.injEq]at e hs;rw[bg]at hs;have⟨h1,h2,h3⟩:=xk hs.2 e.2 hx;exact⟨by rw[e.1,h1],h2,h3⟩
def vQ.again {S:d8}{k:Nat}{T:Option MT}{w1:an}{Z1:ap}{db:Nat}{m:PM}{n:Int}{g c:Nat}{pre:List gj}{x:gj}{post:List gj}{uv:Value}{A B:ap}{fp fq:List PF}
  (h:vQ S k T w1 Z1 db m n g pre x post (.slice (some (ai g 0)) (pre++x::post).length c) uv A B fp fq) (hl:(pre++x::post).length<1073741824):EI S k T w1 Z1 db m n:=by
 refine⟨_,uv,_,h.y.c,hl,λw0 e w2 hb hR=> ?_⟩;obtain⟨g',c',Ut,x',Uq,rfl,hc,hx,hw,hk,hg⟩:=hR
 rcases hw with⟨e1,e2⟩|⟨e1,_⟩
 ·obtain⟨rfl,rfl,rfl⟩:=xk h.y.c.srt e1 (h.xn.trans hx.symm);simp only[Value.slice.injEq,Option.some.injEq,Addr.mk.injEq]at e2;obtain⟨⟨rfl,_⟩,_,rfl⟩:=e2;have hK:∀b,b<w1.heap.size->b≠db->b≠g->w2.heap[b]?=w1.heap[b]?:=λb hl h1 h2=>(hk.block b (aD hl hb.size) (by simp[Value.ownBlock,h1,h2])).trans (hb.block b hl)
  have Uy:∀b,A b\/B b->w2.heap[b]?=w1.heap[b]?:=λb q=>hK b (h.y.yl b q) (λe=>h.y.yd (e▸q)) (λe=>h.y.ys g rfl (e▸q))
  have Uz:∀{y:gj} {f:PF} {C:ap},(∀b,C b->A b\/B b)->gD S (ek S k) w1 T y f C->gD S (ek S k) w2 T y f C:=λhC hh=>hh.keep (λ_ _ _ _ hD hr=>hr.keep λb q _=>Uy b (hC b (hD b q))) (λb q _=>Uy b (hC b q))
  refine⟨g,c,pre,x,post,A,B,fp,fq,rfl,⟨rfl,⟨⟨hc,d6 h.y.un λb q=>hK b (h.y.un.lt b q).2 (λe=>h.y.ud (e▸q)) (λe=>h.y.su g rfl (e▸q)),.inl h.y.zd,λb q=> .inl (h.y.zs b q),λb q=> .inl (h.y.zu b q),h.y.su,h.y.ud⟩,
   λb q=> .inl (h.y.yz b q),λb q=>aD (h.y.yl b q) (aG hb.size hk.size),h.y.yd,h.y.ys,h.y.yu⟩,h.len,h.sep.imp λy f C _ _ hC hs=>Uz (λb q=> .inr (hC b q)) hs,h.dis,h.xn,h.lo,h.hi,?_⟩,?_,λb q=>h.y.yl b (.inl q),hk,hg⟩
  ·exact h.was.imp (λ⟨old,q1,q2⟩=>⟨old,q1,Uz (λb q=> .inl q) q2⟩) id
  ·refine⟨hk.os,hk.tape,hk.output,hk.size,λb hl hz=>hk.block b hl ?_,λb q=> .inl (q.elim id λe=>e▸h.y.zs g rfl)⟩;simp only[aN,Value.ownBlock,Option.toList_some,bH,or_false,not_or];exact⟨λe=>hz (e▸h.y.zd),λe=>hz (e▸h.y.zs g rfl)⟩
 ·have hs:=hc.srt;rw[bU,bg]at hs;have hm:x∈Ut++Uq:=by rw[<-e1];simp
  have hn:=h.xn
  rcases aR.1 hm with q|q
  ·have:=hs.2.2 x q x' Uf;omega
  ·have:=hs.2.1.1 x q;omega
def xl (S:d8)(k:Nat)(T:Option MT)(w:an)(Z:ap)(db:Nat)(m:PM)(n:Int)(h:ek S (k+1+1) T w Z db m)(hok:nS S T n .msgs)(hkd:∀kd,nS S T n kd->kd= .msgs)(hln:uG T n)(hl:m.fs.length<1073741823)(hZ:∀b,Z b->b<w.heap.size):
  Calls prog 191 #[ag db,aa n] w (sC S (k+1) T w Z db (nB S T n) ((m.get n).headD PV.none).2.2 (λm'=>m.put n [mV m'])):=by
 have⟨sv,uv,l,hc,UE,hR⟩:=h.slot (n:=n) Ue;have hS:=tO w db sv uv l n hc UE;go_in
 go_wp2_with fail;refine hS.mono ?_;rintro e w1 UB;obtain⟨g,c,pre,x,post,A,B,fp,fq,rfl,O,st,hAl,K,hg⟩:=hR w _ w1 (Below.refl _ _) UB;clear UB hR hS;have⟨⟨x1,x3⟩,ps,D,Us,UC,UF,Uu,UG,Ux⟩:=O.ofMsgs hkd;have⟨c0,c1,c2,c3,cf⟩:=O.cells rfl;have UA:=UG hln;have hgl:=(O.y.c.row.lt g rfl).2
 rcases ps with _|⟨p,ps⟩
 ·have hx:=Ux rfl;have Uw:m.get n= []:=bC Uu.len.symm
  have hlen:(pre++x::post).length<1073741824:=by
   have h1:=O.len;have h2:=O.sep.len
   rcases O.was with⟨_,e,_⟩|⟨e,_⟩
   ·have:=dH List.length e;simp at this h2⊢;omega
   ·have:=dH List.length e;simp at this h2⊢;omega
  have hA:=nC S k T w1 (λb=>Z b\/b=g) db m n (O.again hlen) hok hkd (λ_=>Uw) (by rw[Uw];simp) (by
   rintro(q|q)
   ·have:=hZ _ q;have:=st.size;omega
   ·omega)
  rw[hx]at c2
  have HM:Hid (∀e w',sC S (k+1) T w1 (λb=>Z b\/b=g) db (nB S T n) PM.none (λm'=>m.put n (m.get n++ [mV m'])) e w'->(∃p,e= .returned (ag p)/\sC S (k+1) T w Z db (nB S T n) ((m.get n).headD PV.none).2.2 (λm'=>m.put n [mV m']) e w')):=by
   rintro e w' ⟨p,Z',C,rfl,q2,q3,q4,q5⟩;rw[Uw]at q4⊢;exact⟨p,rfl,p,Z',C,rfl,st.trans q2,q3,q4,q5⟩
  clear c0 c1 c3 x1 x3 hx Us hkd Ux Uw;go_wp2_with fail;refine hA.mono ?_;rintro e w2 hq;obtain⟨p,rfl,UH⟩:=HM.out _ _ hq;clear hq;go_wp2;go_ret;exact UH
 ·obtain rfl:ps= []:=by simp at UA;exact UA
  obtain⟨v,hv⟩:∃v,m.get n= [v]:=by
   have:=Uu.len
   match hm:m.get n,this with
   | [v],_=>exact⟨v,rfl⟩
  rw[hv]at Uu;obtain⟨C,D',⟨hv1,UI⟩,_,hC,_,_⟩:=Uu
  have HM:Hid (sC S (k+1) T w Z db (nB S T n) ((m.get n).headD PV.none).2.2 (λm'=>m.put n [mV m']) (.returned (ag p)) w1):=by
   rw[hv];refine⟨p,_,C,rfl,st,UI,?_,λb q=>O.y.yl b (.inl (UC b (hC b q)))⟩;have hM:(λm'=>m.put n [mV m'])=λm'=>PM.mk (fp++(n,[]++mV m':: [])::fq) m.unk:=funext λm'=>O.put Uf
   rw[hM];exact Be.hole (ps1:= []) (ps2:= []) (D:=λ_=>False) ⟨O.y,O.len,O.sep,O.dis,O.xn,x1,x3,Us,λb q=>UC b (hC b q),λ_ q=>q.elim,λb q=>⟨λq2=>UF b q (hC b q2),λq=>q⟩,λ_ _ q=>q,rfl,trivial,hok,λ_=>rfl,Uf⟩
  have⟨xa,xn,xc,UD⟩:=dN Us.1;have Ur:=Us.1;rw[UD]at c2 Ur;obtain⟨r,rfl,_,hr,Uv⟩:=el Ur Uf;have p0:w1.cell? (ai r 0)=some (ag p):=Uv w1 rfl 0 _ rfl
  obtain rfl:xn=1:=by
   rcases Ur.2 with⟨q,_⟩|⟨_,_,_,q,_⟩
   ·cases q
   ·injection q
  clear c0 c1 c3 x1 x3 UD Us hkd Ux Uv;go_wp2;go_ret;exact HM.out
def Nd (w:an)(v:Value)(ns:List Int)(t:Int)(hrow:w.ownsRow 0 3 1 v ns.length (gd ns))(hl:ns.length<=1073741824):
  Calls prog 322 #[v,aa t] w λe w'=>(∃r:Int,e= .returned (aa r)/\decide (0<=r)=decide (t∈ns))/\w'=w:=by
 obtain⟨a,c,rfl⟩:=iD hrow
 have HG:Hid (∀(i:Nat) (x:Int),ns[i]?=some x->∃g,a=some (ai g 0)/\w.cell? (ai g i)=some (aa x)):=λi x hx=>by
  have hi:=gl hx;obtain⟨g,rfl,_,hgl,Ur⟩:=el hrow Ue;exact⟨g,rfl,Ur w rfl i _ (by unfold gd;rw[aO,hx];rfl)⟩
 clear hrow;go_in
 go_wp2;go_loopw [8] (λiv wr=>∃(i:Nat),i<=ns.length/\iv=aa i/\Hid (∀(k:Nat) (x:Int),ns[k]?=some x->k<i->x≠t)/\wr=w) (λiv _=>((ns.length:Int)-(intOf iv)).toNat)
 case atStart=>exact⟨0,aL _,rfl,(λk x _ h=>Ue),rfl⟩
 case round=>
  obtain⟨i,hil,rfl,H1,rfl⟩:=hrel
  by_cases hlt:i<ns.length
  ·have⟨x,hx⟩:=gx hlt;obtain⟨g,rfl,hgc⟩:=HG.out i x hx;have HX:Hid (ns[i]?=some x):=hx;have hw1:IntKind.i64.wrap ((i:Int)+1)=(i:Int)+1:=by rw[IntKind.wrap_i64];omega
   by_cases hxt:t=x
   ·subst hxt;clear hx HG;go_wp2;go_ret;refine⟨⟨i,rfl,?_⟩,rfl⟩;have:t∈ns:=aI HX.out;simp[this]
   ·have hd:(t==x)=false:=by simpa using hxt
    have Us:Hid (t≠x):=hxt;clear hx HG hxt;go_wp2;go_roundw
    case rel=>exact⟨i+1,Ue,rfl,(λk y hy hk=>by
     by_cases e:k=i
     ·subst e;rw[HX.out]at hy;obtain rfl:=Option.some.inj hy;exact λe=>Us.out e.symm
     ·exact H1.out k y hy Ue),trivial⟩
    case measure=>simp[intOf];omega
  ·obtain rfl:i=ns.length:=Ue;clear HG;go_wp2;go_ret;refine⟨⟨-1,rfl,?_⟩,rfl⟩
   have:t∉ns:=λh=>by
    have⟨k,hk⟩:=bK.1 h;have Ut:=gl hk;exact H1.out k t hk Ut rfl
   simp[this]
def xp (w:an)(v:Value)(ns:List Int)(t:Int)(hrow:w.ownsRow 0 3 1 v ns.length (gd ns))(hl:ns.length<=1073741824):
  Calls prog 238 #[v,aa t] w λe w'=>e= .returned (.bool (decide (t∈ns)))/\w'=w:=by
 have hI:=Nd w v ns t hrow hl;generalize decide (t∈ns)=q at hI⊢;go_in
 go_wp2_with fail;refine hI.mono ?_;rintro e w' ⟨⟨r,rfl,rfl⟩,rfl⟩;go_wp2;go_ret;exact⟨rfl,rfl⟩
def xq (nb:Nat):Value:= .func (.func 264) #[] #[ag nb]
def Jw (w:an)(nb:Nat)(nv:Value)(ns:List Int)(x:gj)(hb:dM w nb #[nv] 35)(hrow:w.ownsRow 0 3 1 nv ns.length (gd ns))(hl:ns.length<=1073741824):
  Calls prog 264 #[.agg #[aa x.1,x.2.1,x.2.2.1,x.2.2.2],ag nb] w λe w'=>e= .returned (.bool (decide (x.1∈ns)))/\aj w w':=by
 have Uu:=hb.alloc (ak #[aa x.1,x.2.1,x.2.2.1,x.2.2.2] 249);have Uq:=hrow.alloc (ak #[aa x.1,x.2.1,x.2.2.1,x.2.2.2] 249);have hC:=xp _ nv ns x.1 Uq hl;have⟨k1,k2⟩:=Uu.rules;obtain⟨a,n,c,rfl⟩:=dN hrow;have B0:aj w (w.alloc (ak #[aa x.1,x.2.1,x.2.2.1,x.2.2.2] 249)):=(Uc w).alloc (ay _) _;generalize decide (x.1∈ns)=q at hC⊢;go_in
 go_wp2_with fail;refine hC.mono ?_;rintro e w' ⟨rfl,rfl⟩;go_wp2;go_ret;exact⟨rfl,B0⟩
section
variable (w:World) {α:Type} {j g c i:Nat} {ns:List Int} {l:List gj} {x:gj} {wr w2:World} {row:Option Nat}
def Jx (l:List gj)(ns:List Int)(e:Ending):Prop:=
 (e= .returned (.int .i64 (-1))/\∀x∈l,x.1∉ns)\/∃i:Nat,e= .returned (.int .i64 i)/\i<l.length/\(∀k x,l[k]?=some x->k<i->x.1∉ns)/\∀x,l[i]?=some x->x.1∈ns
theorem Jy (v:Value)(l:List gj)(nb:Nat)(nv:Value)(ns:List Int)(hrow:w.ownsRow 0 249 4 v l.length (l.flatMap d5))(h1:∀x∈l,x.2.1.oneCell'=true/\x.2.2.1.oneCell'=true/\x.2.2.2.oneCell'=true)(hl:l.length<=1073741824)
  (hb:dM w nb #[nv] 35) (hnr:w.ownsRow 0 3 1 nv ns.length (gd ns)) (hnl:ns.length<=1073741824):
  Calls prog 344 #[v,xq nb] w λe w'=>Jx l ns e/\Below w.heap.size w w':=by
 obtain⟨a,c,rfl⟩:=iD hrow;have HG:Hid (∀(i:Nat) (x:gj),l[i]?=some x->∃g,a=some ⟨g,0,none⟩/\g<w.heap.size/\∀w':World,w'.heap[g]?=w.heap[g]?->w'.cell? ⟨g,i*4,none⟩=some (.int .i64 x.1)/\w'.cell? ⟨g,i*4+1,none⟩=some x.2.1/\w'.cell? ⟨g,i*4+2,none⟩=some x.2.2.1/\w'.cell? ⟨g,i*4+3,none⟩=some x.2.2.2):=λi x hx=>rt hrow hx
 have HN:Hid (∀(wr:World) (x:gj),Below w.heap.size w wr->Ua 264 #[.agg #[.int .i64 x.1,x.2.1,x.2.2.1,x.2.2.2],.pointer (some ⟨nb,0,none⟩)] wr λe w'=>e= .returned (.bool (decide (x.1∈ns)))/\Below wr.heap.size wr w'):=λwr x hB=>Jw wr nb nv ns x ((hB.block nb hb.lt).trans hb) (d6 hnr λb e=>hB.block b (hnr.lt b e).2) hnl
 clear hrow;unfold xq;go_in
 go_wp2;go_loopw [8] (λiv wr=>∃(i:Nat),i<=l.length/\iv= .int .i64 i/\Hid (∀(k:Nat) (x:gj),l[k]?=some x->k<i->x.1∉ns)/\Below w.heap.size w wr) (λiv _=>((l.length:Int)-(intOf iv)).toNat)
 case atStart=>exact⟨0,aL _,rfl,(λk x _ h=>Ue),Below.refl _ _⟩
 case round=>
  obtain⟨i,UC,rfl,H1,CW⟩:=hrel
  by_cases hlt:i<l.length
  ·have⟨x,hx⟩:=gx hlt;obtain⟨g,rfl,Uw,UD⟩:=HG.out i x hx;have⟨c0,c1,c2,c3⟩:=UD wr (CW.block g Uw);have⟨o1,o2,o3⟩:=h1 x (aI hx);clear UD;have HX:Hid (l[i]?=some x):=hx;have hD:=HN.out wr x CW;have UE:IntKind.i64.wrap ((i:Int)+1)=(i:Int)+1:=by rw[IntKind.wrap_i64];omega
   by_cases hxt:x.1∈ns
   ·have hd:decide (x.1∈ns)=true:=decide_eq_true hxt;rw[hd]at hD;have Ut:Hid (x.1∈ns):=hxt;clear hx HG hxt hd;go_wp2_with fail;refine hD.mono ?_;rintro e w2 ⟨rfl,b2⟩;go_wp2;go_ret;exact⟨.inr ⟨i,rfl,hlt,H1.out,λy hy=>by rw[HX.out]at hy;rw[<-Option.some.inj hy];exact Ut.out⟩,ew CW b2⟩
   ·have hd:decide (x.1∈ns)=false:=decide_eq_false hxt;rw[hd]at hD;have Ut:Hid (x.1∉ns):=hxt;clear hx HG hxt hd;go_wp2_with fail;refine hD.mono ?_;rintro e w2 ⟨rfl,b2⟩;go_wp2;go_roundw
    case rel=>exact⟨i+1,Ue,rfl,(λk y hy hk=>by
     by_cases e:k=i
     ·subst e;rw[HX.out]at hy;rw[<-Option.some.inj hy];exact Ut.out
     ·exact H1.out k y hy Ue),ew CW b2⟩
    case measure=>simp[intOf];omega
  ·obtain rfl:i=l.length:=Ue;clear HG HN;go_wp2;go_ret;refine⟨.inl ⟨rfl,λx hx=> ?_⟩,CW⟩;have⟨k,hk⟩:=bK.1 hx;have UF:=gl hk;exact H1.out k x hk UF
theorem So (A R:List Value)(m0 m1 m2 m3 a b c d:Value)(k:Nat)(hk:A.length=k):((((A++m0::m1::m2::m3::R).set k a).set (k+1) b).set (k+2) c).set (k+3) d=A++a::b::c::d::R:=by
 subst hk;simp
def mz (n:Nat):List Value:=(Builtin.zeroCells #[.int .i64 0,.slice none 0 0,.slice none 0 0,.map none] n).toList
theorem vh (ty:TypeId)(g o n c:Nat)(Uq:Array Value)(hn:0<n)(hg:w.heap[g]?=some (.cells Uq 249 (0,0)))(hfit:o+n*4<=Uq.size):
  (Builtin.clear_ #[181] ty #[.slice (some ⟨g,o,none⟩) n c]).run prog w= .ok (.tuple #[]) (w.setRow g (Uq.toList.take o++mz n++Uq.toList.drop (o+n*4)).toArray):=by
 have UB:(mz n).length=n*4:=by simp[mz,Builtin.zeroCells]
 have h1:∀v∈mz n,v.oneCell'=true:=by
  intro v hv;simp[mz,Builtin.zeroCells]at hv;obtain⟨i,_,rfl⟩:=hv;have:i%4<4:=Nat.mod_lt _ Ue;generalize i%4=q at this
  match q,this with
  |0,_=>rfl
  |1,_=>rfl
  |2,_=>rfl
  |3,_=>rfl
 have Uy:=run_storeCells_at prog g o 249 (mz n) 0 Uq w hg Ue h1;rw[UB]at Uy;have hu:prog.underlying 181=some (.slice 249):=underlying181;obtain⟨m,rfl⟩:∃m,n=m+1:=⟨n-1,Ue⟩;unfold mz at Uy;simp[Builtin.clear_,run_underlying hu,zeroValue249,Value.cells,Uy,mz]
def xr (ns:List Int)(x:gj):Bool:=decide (x.1∉ns)
def jH (ns:List Int)(l:List gj):List gj:=l.filter (xr ns)
theorem zO {l:List α}{x:α}(h:l[j]?=some x):l.take (j+1)=l.take j++ [x]:=by
 rw[bJ,h];rfl
theorem vR {l:List α}{x:α}(h:l[j]?=some x):l.drop j=x::l.drop (j+1):=by
 obtain⟨hh,rfl⟩:=bX.1 h;exact(aX hh)
theorem lG (h:l[j]?=some x)(hx:x.1∈ns):jH ns (l.take (j+1))=jH ns (l.take j):=by
 unfold jH;rw[zO h,cK];simp[xr,hx]
theorem nT (h:l[j]?=some x)(hx:x.1∉ns):jH ns (l.take (j+1))=jH ns (l.take j)++ [x]:=by
 unfold jH;rw[zO h,cK];simp[xr,hx]
theorem zS (h:∀x∈l,x.1∉ns):jH ns l=l:=du.2 (λx hx=>by simp[xr,h x hx])
theorem Jz:(jH ns l).length<=l.length:=bV _ _
theorem nU (l:List gj):(l.flatMap d5).length=l.length*4:=by
 induction l with
 |nil=>rfl
 |cons x l ih=>rw[bi,aH,ih,fW,be];omega
def PB (w:World)(v:Value)(l:List gj)(ns:List Int)(e:Ending)(w':World):Prop:=
 ∃v',e= .returned v'/\v'.ownBlock=v.ownBlock/\w'.ownsRow 0 249 4 v' (jH ns l).length ((jH ns l).flatMap d5)/\w.grownBy w' v.ownBlock
def mA (w:World)(g c:Nat)(l:List gj)(ns:List Int)(i j:Nat)(wr:World):Prop:=
 i=(jH ns (l.take j)).length/\i<j/\∃M,M.length=(j-i)*4/\wr.ownsRow 0 249 4 (.slice (some ⟨g,0,none⟩) l.length c) l.length ((jH ns (l.take j)).flatMap d5++M++(l.drop j).flatMap d5)/\w.grownBy wr (some g)
theorem mA.cells {w:World}(h:mA w g c l ns i j wr)(hx:l[j]?=some x):
  wr.cell? ⟨g,j*4,none⟩=some (.int .i64 x.1)/\wr.cell? ⟨g,j*4+1,none⟩=some x.2.1/\wr.cell? ⟨g,j*4+2,none⟩=some x.2.2.1/\wr.cell? ⟨g,j*4+3,none⟩=some x.2.2.2/\g<wr.heap.size:=by
 obtain⟨h1,h2,M,h3,h4,h5⟩:=h;have Uz:=gl hx;have⟨g',hg,_,Uw,Ur⟩:=el h4 Ue
 cases hg
 have hA:((jH ns (l.take j)).flatMap d5++M).length=j*4:=by rw[aH,nU,<-h1,h3];omega
 rw[vR hx]at Ur
 have hf:∀q u,(d5 x)[q]?=some u->wr.cell? ⟨g,j*4+q,none⟩=some u:=λq u hq=>by
  refine Ur wr rfl _ u ?_
  have UG:q<(d5 x).length:=by
   grind
  rw[cg Ue,hA,Nat.add_sub_cancel_left,bi,cp UG];exact hq
 exact⟨hf 0 _ rfl,hf 1 _ rfl,hf 2 _ rfl,hf 3 _ rfl,Uw⟩
theorem kW {w w':World}(h:w.grownBy w' row)(o:Obj):w.grownBy (w'.alloc o) row:=
 ⟨h.os,h.tape,h.output,aG h.size Uf,λk hk Uu=>(Below.heap_alloc w' o k (aD hk h.size)).trans (h.block k hk Uu)⟩
theorem qW {w w':World}(h:w.grownBy w' row)(hb:Below w'.heap.size w' w2):w.grownBy w2 row:=
 ⟨hb.os.trans h.os,hb.tape.trans h.tape,hb.output.trans h.output,aG h.size hb.size,λk hk Uu=>(hb.block k (aD hk h.size)).trans (h.block k hk Uu)⟩
theorem jS {w w':World}(h:w.grownBy w' (some g))(o:Nat)(v:Value):w.grownBy (w'.setCell ⟨g,o,none⟩ v) (some g):=
 ⟨h.os,h.tape,h.output,by simpa using h.size,λk hk Uu=>by
  rw[dK,dD (λe=>Uu (by rw[e]))]
  exact h.block k hk Uu⟩
theorem mA.room {w:World}(h:mA w g c l ns i j wr)(hj:j<=l.length)(hb:Below wr.heap.size wr w2):
  ∃u0 u1 u2 u3,w2.cell? ⟨g,i*4,none⟩=some u0/\w2.cell? ⟨g,i*4+1,none⟩=some u1/\w2.cell? ⟨g,i*4+2,none⟩=some u2/\w2.cell? ⟨g,i*4+3,none⟩=some u3/\∀o,w2.frozen? ⟨g,o,none⟩=false:=by
 obtain⟨h1,h2,M,h3,h4,h5⟩:=h
 rcases h4.2 with⟨q,_⟩|⟨g',cap,Uq,q,q1,q2,q3,q4,q5,q6⟩
 ·cases q
 ·cases q
  have UH:dM w2 g Uq 249:=(hb.block g (dM.lt q2)).trans q2;have⟨y1,y2⟩:=UH.rules
  grind
theorem mA.gone {w:World}(h:mA w g c l ns i j wr)(hx:l[j]?=some x)(hn:x.1∈ns)(hb:Below wr.heap.size wr w2):mA w g c l ns i (j+1) w2:=by
 obtain⟨h1,h2,M,h3,h4,h5⟩:=h;refine⟨by rw[lG hx hn];exact h1,Ue,M++d5 x,by rw[aH,h3,fW];omega,?_,qW h5 hb⟩;rw[lG hx hn];rw[vR hx,bi]at h4;refine d6 ?_ (λb UA=>hb.block b (h4.lt b UA).2)
 grind
theorem mA.stays {w:World}(h:mA w g c l ns i j wr)(hx:l[j]?=some x)(hn:x.1∉ns)(hb:Below wr.heap.size wr w2):
  mA w g c l ns (i+1) (j+1) ((((w2.setCell ⟨g,i*4,none⟩ (.int .i64 x.1)).setCell ⟨g,i*4+1,none⟩ x.2.1).setCell ⟨g,i*4+2,none⟩ x.2.2.1).setCell ⟨g,i*4+3,none⟩ x.2.2.2):=by
 obtain⟨h1,h2,M,h3,h4,h5⟩:=h;have Uz:=gl hx;have h6:=d6 h4 (λb UA=>hb.block b (h4.lt b UA).2);rw[vR hx,bi]at h6
 obtain⟨m0,m1,m2,m3,R,hR⟩:∃m0 m1 m2 m3 R,M++d5 x=m0::m1::m2::m3::R:=by
  have:4<=M.length:=Ue
  match M,this with
  |m0::m1::m2::m3::R,_=>grind
 have hRl:R.length=(j-i)*4:=by
  have:=dH List.length hR;simp[h3,fW]at this;omega
 rw[show((jH ns (l.take j)).flatMap d5++M++(d5 x++(l.drop (j+1)).flatMap d5))=(jH ns (l.take j)).flatMap d5++m0::m1::m2::m3::(R++(l.drop (j+1)).flatMap d5)from by
  grind]at h6
 have UI:((jH ns (l.take j)).flatMap d5).length=i*4:=by rw[nU,<-h1]
 have h7:=ly (ly (ly (ly h6 (o:=i*4) (.int .i64 x.1) Ue) (o:=i*4+1) x.2.1 Ue) (o:=i*4+2) x.2.2.1 Ue) (o:=i*4+3) x.2.2.2 Ue;rw[So _ _ _ _ _ _ _ _ _ _ _ UI]at h7;refine⟨by rw[nT hx hn,aH];grind,Ue,R,Ue,?_,jS (jS (jS (jS (qW h5 hb) _ _) _ _) _ _) _ _⟩;rw[nT hx hn,cV];simpa [d5]using h7
theorem mA.stays4 {w:World}(h:mA w g c l ns i j wr){n:Int}{v1 v2 v3:Value}(hx:l[j]?=some (n,v1,v2,v3))(hn:n∉ns)(hb:Below wr.heap.size wr w2):
  Hid (mA w g c l ns (i+1) (j+1) ((((w2.setCell ⟨g,i*4,none⟩ (.int .i64 n)).setCell ⟨g,i*4+1,none⟩ v1).setCell ⟨g,i*4+2,none⟩ v2).setCell ⟨g,i*4+3,none⟩ v3)):=
 h.stays (x:=(n,v1,v2,v3)) hx hn hb
theorem Hr (v:Value)(l:List gj)(nb:Nat)(nv:Value)(ns:List Int)(hrow:w.ownsRow 0 249 4 v l.length (l.flatMap d5))(h1:∀x∈l,pB x)(hl:l.length<=1073741824)
  (hb:dM w nb #[nv] 35) (hnr:w.ownsRow 0 3 1 nv ns.length (gd ns)) (hnl:ns.length<=1073741824) (hne1:v.ownBlock≠some nb) (hne2:∀b,nv.ownBlock=some b->v.ownBlock≠some b):
  Calls prog 263 #[v,xq nb] w (PB w v l ns):=by
 have hF:=Jy w v l nb nv ns hrow (λx hx=>(h1 x hx).one) hl hb hnr hnl;have HN:Hid (∀(wr:World) (x:gj),w.grownBy wr v.ownBlock->Ua 264 #[.agg #[.int .i64 x.1,x.2.1,x.2.2.1,x.2.2.2],.pointer (some ⟨nb,0,none⟩)] wr λe w'=>e= .returned (.bool (decide (x.1∈ns)))/\Below wr.heap.size wr w'):=λwr x hB=>Jw wr nb nv ns x ((hB.block nb hb.lt (λe=>hne1 e.symm)).trans hb) (d6 hnr λb e=>hB.block b (hnr.lt b e).2 (λe'=>hne2 b e e'.symm)) hnl
 obtain⟨a,c,rfl⟩:=iD hrow;unfold xq at hF⊢;go_in
 go_wp2_with fail;refine hF.mono ?_;rintro e w1 ⟨hR,hB⟩
 rcases hR with⟨rfl,Uv⟩|⟨i0,rfl,UK,UL,Us⟩
 ·have HA:Hid (jH ns l=l):=zS Uv;clear Uv HN hF;go_wp2;go_ret;refine⟨_,rfl,rfl,?_,⟨hB.os,hB.tape,hB.output,hB.size,λk hk _=>hB.block k hk⟩⟩;rw[HA.out];exact d6 hrow λb e=>hB.block b (hrow.lt b e).2
 ·obtain⟨g,rfl,_,Uw,_⟩:=el hrow Ue;obtain⟨x0,Ux⟩:∃x,l[i0]?=some x:=⟨_,aK UK⟩;have hw0:IntKind.i64.wrap ((i0:Int)+1)=(i0:Int)+1:=by rw[IntKind.wrap_i64];omega
  have Uu:((i0:Int)== -1)=false:=Uf
  have hcc:∃Uq,w.heap[g]?=some (.cells Uq 249 (0,0))/\Uq.size=c*4/\l.length<=c/\c<=maxLen:=by
   rcases hrow.2 with⟨q,_⟩|⟨g',cap,Uq,q,q1,q2,q3,q4,q5,q6⟩
   ·cases q
   grind
  have D0:mA w g c l ns i0 (i0+1) w1:=by
   have e1:jH ns (l.take i0)=l.take i0:=zS λx hx=>by
    have⟨k,hk⟩:=bK.1 hx
    grind
   have e2:=lG Ux (Us x0 Ux);refine⟨by grind,Ue,d5 x0,by rw[fW];omega,?_,⟨hB.os,hB.tape,hB.output,hB.size,λk hk _=>hB.block k hk⟩⟩;rw[e2,e1]
   have e3:(l.take i0).flatMap d5++d5 x0++(l.drop (i0+1)).flatMap d5=l.flatMap d5:=by
    have:l=l.take i0++x0::l.drop (i0+1):=by rw[<-vR Ux,ca]
    grind
   rw[e3];exact d6 hrow λb e=>hB.block b (hrow.lt b e).2
  have UJ:Hid (∀(wr:World) (x:gj),w.grownBy wr (some g)->Ua 264 #[.agg #[.int .i64 x.1,x.2.1,x.2.2.1,x.2.2.2],.pointer (some ⟨nb,0,none⟩)] wr λe w'=>e= .returned (.bool (decide (x.1∈ns)))/\Below wr.heap.size wr w'):=HN.out;clear HN hF UL Us Ux hrow hnr hB;go_wp2;go_loopw [5,6] (λiv jv wr=>∃(i j:Nat),j<=l.length/\iv= .int .i64 i/\jv= .int .i64 j/\mA w g c l ns i j wr) (λ_ jv _=>((l.length:Int)-(intOf jv)).toNat)
  case atStart=>grind
  case round=>
   obtain⟨i,j,Uz,rfl,rfl,DA⟩:=hrel
   by_cases hlt:j<l.length
   ·have⟨x,hx⟩:=gx hlt;have⟨c0,c1,c2,c3,hgw⟩:=DA.cells hx;have⟨⟨a1,n1,k1,o1⟩,⟨a2,n2,k2,o2⟩,a3,o3⟩:=h1 x (aI hx);obtain⟨xn,x1,x2,x3⟩:=x;simp only at o1 o2 o3 c0 c1 c2 c3;subst o1 o2 o3;have HX:Hid (l[j]?=some (xn,.slice a1 n1 k1,.slice a2 n2 k2,.map a3)):=hx;have hij:i<j:=DA.2.1;have UE:IntKind.i64.wrap ((j:Int)+1)=(j:Int)+1:=by rw[IntKind.wrap_i64];omega
    have hw2:IntKind.i64.wrap ((i:Int)+1)=(i:Int)+1:=by rw[IntKind.wrap_i64];omega
    have B1:Below wr.heap.size wr (wr.alloc (Obj.cells #[.int .i64 xn,.slice a1 n1 k1,.slice a2 n2 k2,.map a3] 249)):=(Below.refl _ _).alloc (ay _) _;have hG:w.grownBy wr (some g):=by obtain⟨_,_,_,_,_,q⟩:=DA;exact q
    have hD:=UJ.out (wr.alloc (Obj.cells #[.int .i64 xn,.slice a1 n1 k1,.slice a2 n2 k2,.map a3] 249)) (xn,.slice a1 n1 k1,.slice a2 n2 k2,.map a3) (kW hG _)
    by_cases hxt:xn∈ns
    ·have hd:decide (xn∈ns)=true:=decide_eq_true hxt;simp only[hd]at hD;have Ut:Hid (xn∈ns):=hxt;clear hx hxt hd;go_wp2_with fail;refine hD.mono ?_;rintro e w2 ⟨rfl,b2⟩;go_wp2;go_roundw
     case rel=>exact⟨i,j+1,Ue,rfl,rfl,DA.gone HX.out Ut.out (ew B1 Ue)⟩
     case measure=>simp[intOf];omega
    ·have hd:decide (xn∈ns)=false:=decide_eq_false hxt;simp only[hd]at hD;have Ut:Hid (xn∉ns):=hxt;clear hx hxt hd;go_wp2_with fail;refine hD.mono ?_;rintro e w2 ⟨rfl,b2⟩;have b3:Below wr.heap.size wr w2:=ew B1 Ue;have BV:dM w2 wr.heap.size #[.int .i64 xn,.slice a1 n1 k1,.slice a2 n2 k2,.map a3] 249:=(b2.block _ Uf).trans (dM.new wr _ _);have⟨v1,v2⟩:=BV.rules;have⟨u0,u1,u2,u3,e0,e1,e2,e3,ef⟩:=DA.room Uz b3;have UC:i<l.length:=Ue;have hgv:wr.heap.size≠g:=Ue;have DS:=DA.stays4 HX.out Ut.out b3;go_wp2;go_roundw
     case rel=>
      refine⟨i+1,j+1,Ue,rfl,rfl,?_⟩;exact DS.out
     case measure=>simp[intOf];omega
   ·obtain rfl:j=l.length:=Ue;obtain⟨q1,q2,M,q3,q4,q5⟩:=DA;have HQ:Hid (i=(jH ns l).length):=by show i=_;rw[q1,bY (ay _)]
    clear q1;rw[bY (ay _),cl (ay _)]at q4
    obtain⟨Uq,p1,p2,p3,p4,p5⟩:∃Uq,wr.heap[g]?=some (.cells Uq 249 (0,0))/\Uq.size=c*4/\c<=maxLen/\l.length<=c/\Hid (Uq.toList.take (i*4)=(jH ns l).flatMap d5):=by
     rcases q4.2 with⟨q,_⟩|⟨g',cap,Uq,q,r1,r2,r3,r4,r5,r6⟩
     ·cases q
     ·cases q
      refine⟨Uq,r2,r5,r4,r3,?_⟩;show _=_;have e1:Uq.toList.take (i*4)=(Uq.toList.take (l.length*4)).take (i*4):=by rw[List.take_take,Nat.min_eq_left Ue]
      have e2:i*4=((jH ns l).flatMap d5).length:=by rw[nU,<-HQ.out]
      rw[e1,r6,aZ,e2,List.take_left]
    have HCl:∀ty dc,(Builtin.clear_ #[181] ty #[.slice (some ⟨g,i*4,none⟩) (l.length-i) dc]).run prog wr= .ok (.tuple #[]) (wr.setRow g (Uq.toList.take (i*4)++mz (l.length-i)++Uq.toList.drop (i*4+(l.length-i)*4)).toArray):=λty dc=>vh wr ty g (i*4) (l.length-i) dc Uq Ue p1 Ue
    have UC:i<l.length:=Ue;clear q4;go_wp2;go_ret;have UB:(mz (l.length-i)).length=(l.length-i)*4:=by simp[mz,Builtin.zeroCells]
    refine⟨_,rfl,rfl,?_,jw q5 (.inl rfl)⟩;rw[<-HQ.out];refine⟨by rw[nU,<-HQ.out],.inr ⟨g,c,_,rfl,aL _,setRow_heap _ _ _ _ _ _ p1,Ue,p3,?_,?_⟩⟩
    ·grind
    ·have e1:i*4=(Uq.toList.take (i*4)).length:=by grind
     have e2:∀A B:List Value,A.length=i*4->(A++B).take (i*4)=A:=λA B h=>by rw[<-h,List.take_left]
     rw[List.toList_toArray,e2 _ _ e1.symm];exact p5.out
end
def PM.without (m:PM)(ns:List Int):PM:= .mk (m.fs.filter λf=>decide (f.1∉ns)) m.unk
def uH (m:PM)(n:Int):m.without [n]=m.put n []:=by
 show PM.mk _ _=PM.mk (gK n [] true m.fs) m.unk;rw[lY];simp
def qp (S:d8)(k:Nat)(T:Option MT)(w:an)(Z:ap)(db:Nat)(m:PM)(nv:Value)(ns:List Int)(h:ek S (k+1) T w Z db m)(hnr:w.ownsRow 0 3 1 nv ns.length (gd ns))(hnl:ns.length<=1073741824)(hnz:∀b,nv.ownBlock=some b->¬Z b):
  Calls prog 184 #[ag db,nv] w (jG S k T w Z db (m.without ns)):=by
 obtain⟨na,nn,nc,rfl⟩:=dN hnr;obtain⟨sv,uv,l,Y,hy,hs⟩:=h;have⟨B0,KB⟩:=dS w #[.slice na nn nc] 35;have Ur:=hy.keep (λb _ hb=>B0.block b hb);have Uw:=my hs (λb _ hb=>B0.block b hb);have Ux:=d6 hnr λb hb=>B0.block b (hnr.lt b hb).2
 have Uy:=hy.c.row.lt;have hdl:=hy.c.blk.lt;have hD:=Hr _ sv l w.heap.size (.slice na nn nc) ns Ur.c.row Ur.c.form Ur.c.len KB Ux hnl (λe=>by have:=(Uy _ e).2;omega) (λb hb e=>hnz b hb (hy.zs b e));obtain⟨sa,sn,sc,rfl⟩:=dN hy.c.row;have⟨k1,k2⟩:=Ur.c.blk.rules;have Uz:=hy.yl;have hsz:w.heap.size<=(w.alloc (ak #[.slice na nn nc] 35)).heap.size:=B0.size;clear hs;unfold xq at hD;go_in
 go_wp2_with fail;generalize w.alloc (ak #[.slice na nn nc] 35)=w0 at*;refine hD.mono ?_;rintro e w1 ⟨v',rfl,hv,Ut,hg⟩;obtain⟨ra,rn,rc,rfl⟩:=dN Ut;clear k1 k2;have Uu:w1.heap[db]?=w0.heap[db]?:=hg.block db Ur.c.blk.lt (λe=>hy.c.ne e.symm);have Us:dM w1 db #[.slice sa sn sc,uv] 183:=Uu.trans Ur.c.blk;have⟨k1,k2⟩:=Us.rules;go_wp2;go_end0
 have Uq:∀b,b<w0.heap.size->b≠db->(Value.slice sa sn sc).ownBlock≠some b->(w1.setCell (ai db 0) (.slice ra rn rc)).heap[b]?=w0.heap[b]?:=λb hb UA UB=>by
  rw[dK,dD (λe=>UA e.symm)];exact hg.block b hb (λe=>UB e.symm)
 have Uv:(Value.slice ra rn rc).ownBlock≠some db:=by rw[hv];exact hy.c.ne
 have s0:fk w Z w0 Z:=(fk.refl w Z).below B0;refine⟨rfl,Z,s0.trans ⟨hg.os,hg.tape,hg.output,by simpa using hg.size,λb hb hz=>Uq b hb (λe=>hz (e▸hy.zd)) (λe=>hz (hy.zs b e)),λb hb=> .inl hb⟩,?_⟩;refine⟨.slice ra rn rc,uv,jH ns l,Y,⟨⟨⟨Us.set 0 _,?_,λx hx=>hy.c.form x (bw.1 hx).1,hy.c.srt.filter _,Uv,aG Jz hy.c.len⟩,?_,hy.zd,λb hb=>hy.zs b (hv▸hb),hy.zu,λb hb=>hy.su b (hv▸hb),hy.ud⟩,hy.yz,?_,hy.yd,λb hb=>hy.ys b (hv▸hb),hy.yu⟩,?_⟩
 ·refine d6 Ut λb hb=> ?_
  rw[dK,dD (λe=>Uv (by rw[hb,e]))]
 ·exact d6 Ur.un λb hb=>Uq b (Ur.un.lt b hb).2 (λe=>hy.ud (e▸hb)) (λe=>hy.su b e hb)
 ·intro b hb;have h1:=Uz b hb;have h2:=hg.size;simp;omega
 ·refine my ?_ (λb hb hl=>Uq b hl (λe=>hy.yd (e▸hb)) (λe=>hy.ys b e hb));exact Uw.filter λx f A hx=>by rw[xr,hx.1]
def PC:(prog.info? 5).map (λi=>(i.zero,i.size,i.bytes))=some (some (.int .u8 0),1,1):=Uj
def vj (w:an)(ty:TypeId)(v:Value)(n:Nat)(xs:aq)(Ur:w.ownsRow 0 5 1 v n xs)(s:am)(hb:n+s.size<=140737488355328):
  ∃v' w',(Builtin.append_ #[140,9] ty #[v,ae s]).run prog w= .ok v' w'/\w'.ownsRow 0 5 1 v' (n+s.size) (xs++Lib.strCells s)/\w.grownBy w' v.ownBlock/\∀b,v'.ownBlock=some b->v.ownBlock=some b\/w.heap.size<=b:=by
 have⟨i0,Uw,Uu,Ux,UB⟩:=info_parts PC;have hu:prog.underlying 140=some (.slice 5):=underlying140;have Uv:prog.underlying 9=some .string:=underlying9;have UD:n+s.size<=maxLen:=Ul
 rcases Ur.2 with⟨rfl,rfl⟩|⟨g,cap,UJ,rfl,q1,q2,q3,q4,q5,q6⟩
 ·have⟨v',w',h1,h2,h3,_⟩:=Lib.run_append_own_string (P:=prog) w w.heap.size 140 9 ty 5 i0 hu Uv Uw Uu Ux UB (ah) 0 xs (by have:=Ur.1;exact⟨this,.inl ⟨rfl,rfl⟩⟩) s UD hb (ay _);exact⟨v',w',h1,ou h2 (aL _),h3,λb hb=> .inr (h2.lt b hb).1⟩
 ·have⟨v',w',h1,h2,h3,_⟩:=Lib.run_append_own_string (P:=prog) w 0 140 9 ty 5 i0 hu Uv Uw Uu Ux UB _ n xs Ur s UD hb (aL _);refine⟨v',w',h1,h2,h3,λb UF=> ?_⟩
  by_cases hr:n+s.size<=cap
  ·have:=Lib.run_append_room_string (P:=prog) w 140 9 ty 5 i0 hu Uv Uw Ux g n cap UJ q2 s hr Ue;rw[this]at h1
   cases h1
   exact .inl UF
  ·have hlen:xs.length=n*i0.size:=by rw[Ux];exact Ur.1
   have:=Lib.run_append_grow_string (P:=prog) w 140 9 ty 5 i0 _ hu Uv Uw Uu (ai g 0) n cap xs hlen (λj u hj=>(el Ur (by
    by_cases q:0<n
    ·exact q
    ·have h0:xs.length=0:=by rw[hlen];simp[show n=0 by omega]
     rw[bC h0]at hj;simp at hj)).elim λg' UK=>by
     obtain⟨e1,_,_,hc⟩:=UK
     cases e1
     rw[Addr.add_lit];simpa using hc w rfl j u hj) s Ue Ue (by rw[UB];exact growslice_fits Ue Ue)
   rw[this]at h1
   cases h1
   exact .inr (by cases UF;exact ay _)
def Bf (S:d8)(k:Nat)(T:Option MT)(w:an)(Z:ap)(db:Nat)(m:PM)(s:am)(h:ek S (k+1) T w Z db m)(hl:m.unk.size+s.size<=140737488355328):
  Calls prog 135 #[ag db,ae s] w (jG S k T w Z db (m.keep s)):=by
 obtain⟨sv,uv,l,Y,hy,hs⟩:=h;obtain⟨ua,un,uc,rfl⟩:=dN hy.un;have⟨v',w1,UC,Ur,Uq,Uy⟩:=vj w 140 _ _ _ hy.un s hl;obtain⟨va,vn,vc,rfl⟩:=dN Ur;have⟨k1,k2⟩:=hy.c.blk.rules;have Uz:w1.heap[db]?=w.heap[db]?:=Uq.block db hy.c.blk.lt (λe=>hy.ud e.symm);have Ut:dM w1 db #[sv,.slice ua un uc] 183:=Uz.trans hy.c.blk;have⟨j1,j2⟩:=Ut.rules
 have HF:Hid (jG S k T w Z db (m.keep s) (.returned (.tuple #[])) (w1.setCell (ai db 1) (.slice va vn vc))):=by
  have hdl:=hy.c.blk.lt
  have Us:∀b,b<w.heap.size->b≠db->(Value.slice ua un uc).ownBlock≠some b->(w1.setCell (ai db 1) (.slice va vn vc)).heap[b]?=w.heap[b]?:=λb hb h1 h2=>by
   rw[dK,dD (λe=>h1 e.symm)];exact Uq.block b hb (λe=>h2 e.symm)
  have UE:(Value.slice va vn vc).ownBlock≠some db:=λe=>(Uy db e).elim hy.ud (λq=>Ue)
  have UG:∀b,(Value.slice va vn vc).ownBlock=some b->¬Y b:=λb e q=>(Uy b e).elim (λe=>hy.yu b e q) (λe=>by have:=hy.yl b q;omega)
  have UH:∀b,sv.ownBlock=some b->(Value.slice va vn vc).ownBlock≠some b:=λb e q=>(Uy b q).elim (hy.su b e) (λq=>by have:=(hy.c.row.lt b e).2;omega)
  have hsz:w.heap.size<=(w1.setCell (ai db 1) (.slice va vn vc)).heap.size:=by simpa using Uq.size
  refine⟨rfl,λb=>Z b\/(Value.slice va vn vc).ownBlock=some b,⟨Uq.os,Uq.tape,Uq.output,hsz,λb hb hz=>Us b hb (λe=>hz (e▸hy.zd)) (λe=>hz (hy.zu b e)),λb hb=>hb.elim .inl (λe=>(Uy b e).imp (hy.zu b) id)⟩,?_⟩;refine⟨sv,.slice va vn vc,l,Y,⟨⟨⟨Ut.set 1 _,?_,hy.c.form,hy.c.srt,hy.c.ne,hy.c.len⟩,?_,.inl hy.zd,λb e=> .inl (hy.zs b e),λb e=> .inr e,UH,UE⟩,λb q=> .inl (hy.yz b q),λb q=>aD (hy.yl b q) hsz,hy.yd,hy.ys,UG⟩,?_⟩
  ·exact d6 hy.c.row λb e=>Us b (hy.c.row.lt b e).2 (λq=>hy.c.ne (q▸e)) (hy.su b e)
  ·have e1:(m.keep s).unk=m.unk++s:=rfl
   have e2:Lib.strCells (m.unk++s)=Lib.strCells m.unk++Lib.strCells s:=by
    unfold Lib.strCells;rw[ByteArray.data_append,Array.toList_append,bI]
   rw[e1,bj,e2];exact d6 Ur λb e=>by rw[dK,dD (λq:db=b=>UE (by rw[q];exact e))]
  ·exact my hs λb q hl=>Us b hl (λe=>hy.yd (e▸q)) (λe=>hy.yu b e q)
 clear hy hs;go_in
 go_wp2_with (at_builtin;refine Lib.wpList_append_run _ rfl _ _ _ _ rfl _ _ rfl rfl _ _ UC ?_)
 go_end0;exact HF.out
def F8 (S:d8)(k:Nat)(T:Option MT)(w:an)(Z:ap)(db:Nat)(m:PM)(n:Int)(v:LV)(h:ek S (k+1) T w Z db m)(hok:nS S T n .vals)(hkd:(∀kd,nS S T n kd->kd= .vals)\/∀f∈m.fs,f.1≠n)(hl:m.fs.length<1073741824)(hZ:∀b,Z b->b<w.heap.size):
  Calls prog 193 #[ag db,aa n,vg v] w (jG S k T w Z db (if v.1=0/\gG v.2 eS=true then m.put n []else m.put n [pC v])):=by
 have⟨B0,KB⟩:=dS w #[.int .u64 v.1,ae v.2,ah,T9] 55;have⟨k1,k2⟩:=KB.rules;have h0:=h.keep (λb _ hb=>B0.block b hb);have hC:=xj S k T _ Z db m n v h0 hok hkd hl;have HS:∀{m':PM} {e:Ending} {w':an},jG S k T (w.alloc (ak #[.int .u64 v.1,ae v.2,ah,T9] 55)) Z db m' e w'->jG S k T w Z db m' e w':=λ⟨q1,Z',q2,q3⟩=>⟨q1,Z',((fk.refl w Z).below B0).trans q2,q3⟩
 have KN:dM _ (w.heap.size+1) _ _:=dM.new1 w (ak #[.int .u64 v.1,ae v.2,ah,T9] 55) #[aa n] 3
 have hD:=qp S k T ((w.alloc (ak #[.int .u64 v.1,ae v.2,ah,T9] 55)).alloc (ak #[aa n] 3)) Z db m (Ub (w.heap.size+1) 1 1) [n] (h0.keep (λb _ hb=>Below.heap_alloc _ _ b hb)) ⟨rfl,.inr ⟨w.heap.size+1,1,#[aa n],rfl,aL _,KN,Uf,by simp[maxLen],rfl,rfl⟩⟩ Uf (λb hb hz=>by
  have:w.heap.size+1=b:=by simpa [Value.ownBlock]using hb
  have:=hZ b hz
  omega)
 rw[uH]at hD;have UA:∀{m':PM} {e:Ending} {w':an},jG S k T ((w.alloc (ak #[.int .u64 v.1,ae v.2,ah,T9] 55)).alloc (ak #[aa n] 3)) Z db m' e w'->jG S k T w Z db m' e w':=λ⟨q1,Z',q2,q3⟩=>⟨q1,Z',(((fk.refl w Z).below B0).alloc _).trans q2,q3⟩
 by_cases hz:v.1=0
 ·have Uu:(v.1==0)=true:=by simp[hz]
  by_cases hs:gG v.2 eS=true
  ·have UI:(v.2.toList== [])=true:=by rw[<-show eS.toList= []from by decide+kernel];exact hs
   rw[dE ⟨hz,hs⟩];clear hz hs hC HS;unfold vg;go_in
   go_wp2_with fail;refine hD.mono ?_;rintro e w1 hq;obtain rfl:=hq.1;go_wp2;go_end0;exact UA hq
  ·have UI:(v.2.toList== [])=false:=by rw[<-show eS.toList= []from by decide+kernel];exact ch.2 hs
   rw[dD (λq=>hs q.2)];clear hz hs hD UA;unfold vg at hC⊢;go_in
   go_wp2_with fail;refine hC.mono ?_;rintro e w1 hq;obtain rfl:=hq.1;go_wp2;go_end0;exact HS hq
 ·have Uu:(v.1==0)=false:=by simp[hz]
  rw[dD (λq=>hz q.1)];clear hz hD UA;unfold vg at hC⊢;go_in
  go_wp2_with fail;refine hC.mono ?_;rintro e w1 hq;obtain rfl:=hq.1;go_wp2;go_end0;exact HS hq
def ek.forget {S:d8}:∀{k:Nat} {T:Option MT} {w:an} {Z:ap} {db:Nat} {m:PM},ek S k T w Z db m->ek S k none w Z db m
 |0,_,_,_,_,_,h=>h
 |k+1,T,w,_,_,_,⟨sv,uv,l,Y,hy,hs⟩=>⟨sv,uv,l,Y,hy,hs.imp λx f A _ _ _ h=>by
   obtain⟨h1,h2⟩:=h;refine⟨h1,?_⟩;have hk:∀n kd,nS S none n kd:=λ_ _ _ _ e=>by cases e
   rcases h2 with⟨_,lv,h⟩|⟨_,ps,B,h⟩|⟨t,_,mb,ps,B,h⟩
   ·exact .inl ⟨hk _ _,lv,h⟩
   ·exact .inr (.inl ⟨hk _ _,ps,B,{h with lone:=(λ⟨_,_,e,_⟩=>by cases e),sub:=h.sub.imp λp v C _ _ _ q=>⟨q.1,ek.forget q.2⟩}⟩)
   ·exact .inr (.inr ⟨t,hk _ _,mb,ps,B,h⟩)⟩
end
def ji (a b:LV):Prop:=a.1=b.1/\a.2.toList=b.2.toList
def EJ (x y:List UInt8):Op.bytesLess x y=true<->x<y:=by rw[bytesLess_eq];simp
def oE (a:LV):¬lN a a:=by
 rintro(h|⟨_,h⟩)
 ·omega
 ·rw[EJ]at h;grind
def jZ {a b c:LV}(h:lN a b)(k:lN b c):lN a c:=by
 unfold lN at*;simp only[EJ]at*
 grind
def vS (a b:LV):lN a b\/ji a b\/lN b a:=by
 unfold lN ji;simp only[EJ]
 grind
def sD {a b c:LV}(k:ji a b)(h:lN b c):lN a c:=by
 obtain⟨k1,k2⟩:=k;unfold lN at*
 simp_all
def ji.symm {a b:LV}(h:ji a b):ji b a:=⟨h.1.symm,h.2.symm⟩
def kM {a b:LV}(h:lN a b):¬ji a b:=λk=>oE b (sD k.symm h)
def gw {a b:am}:gG a b=true<->a.toList=b.toList:=by unfold gG;simp
def Nf {t:am}(h:gG t kE=true):eM iL t=false:=by
 have e:=gw.1 h;unfold eM;rw[e];decide+kernel
def JA {t:am}{x y:PV}(hx:En t x)(hy:En t y):jW t x y=true<->lN (jF t x) (jF t y):=by
 obtain⟨a1,a2,_,a4,a5⟩:=hx;obtain⟨b1,b2,_,b4,b5⟩:=hy;unfold jW lN jF
 cases hs:gG t kE with
 |true=>
  simp_all
 |false=>
  rw[a5 hs,b5 hs];have e:¬Op.bytesLess eS.toList eS.toList=true:=Ui;simp only[e,and_false,or_false,aM,if_false]
  cases eM iL t with
  |true=>
   simp only[if_true,dF];unfold MU
   split<;>split<;>omega
  |false=>simp
def Bg {t:am}{x y:PV}(hx:En t x)(hy:En t y):gZ x y=true<->ji (jF t x) (jF t y):=by
 unfold gZ ji jF;have:=hx.lo;have:=hx.hi;have:=hy.lo;have:=hy.hi;simp only[aJ,dF,gw]
 grind
def uI {t:am}{v:PV}:∀{l:List PV},(∀x∈l,gZ (fE v) (fE x)=false)->fY t v true l=l
 | [],_=>rfl
 |x::l,h=>by
  rw[fY];simp only[cL,cA,aM,if_false,aS,h x Uf,cJ];rw[uI λy hy=>h y (by grind)];rfl
def uJ {t:am}{v:PV}(hv:En t (fE v)):∀{l:List PV},(∀x∈l,En t (fE x))->l.Pairwise (λa b=>lN (jF t (fE a)) (jF t (fE b)))->
  ∃l1 mid l2,l=l1++(mid++l2)/\jt t l v=l1++v::l2/\(mid= []\/∃x,mid= [x]/\ji (jF t (fE v)) (jF t (fE x)))/\(∀x∈l1,lN (jF t (fE x)) (jF t (fE v)))/\∀x∈l2,lN (jF t (fE v)) (jF t (fE x))
 | [],_,_=>⟨[],[],[],rfl,rfl,.inl rfl,Uf,Uf⟩
 |x::l,hk,hs=>by
  have hx:=hk x Uf;rw[bg]at hs;have Uq:lN (jF t (fE v)) (jF t (fE x))\/ji (jF t (fE v)) (jF t (fE x))->∀y∈l,lN (jF t (fE v)) (jF t (fE y)):=λh y hy=>h.elim (λq=>jZ q (hs.1 y hy)) (λq=>sD q (hs.1 y hy))
  have hdone:lN (jF t (fE v)) (jF t (fE x))\/ji (jF t (fE v)) (jF t (fE x))->fY t v true l=l:=λh=>uI λy hy=>by
   rw[ch];intro q;exact kM (Uq h y hy) ((Bg hv (hk y (by grind))).1 q)
  rcases vS (jF t (fE v)) (jF t (fE x))with h|h|h
  ·have e1:=(JA hv hx).2 h
   have e2:gZ (fE v) (fE x)=false:=by
    rw[ch];exact λq=>kM h ((Bg hv hx).1 q)
   refine⟨[],[],x::l,rfl,?_,.inl rfl,Uf,?_⟩
   ·unfold jt;rw[fY,e1,e2]
    simp_all
   simp_all
  ·have e2:=(Bg hv hx).2 h;refine⟨[],[x],l,rfl,?_,.inr ⟨x,rfl,h⟩,Uf,Uq (.inr h)⟩;unfold jt;rw[fY,e2]
   simp_all
  ·have e1:jW t (fE v) (fE x)=false:=by
    rw[ch];exact λq=>oE _ (jZ ((JA hv hx).1 q) h)
   have e2:gZ (fE v) (fE x)=false:=by
    rw[ch];exact λq=>kM h ((Bg hv hx).1 q).symm
   have⟨l1,mid,l2,q1,q2,q3,q4,q5⟩:=uJ hv (l:=l) (λy hy=>hk y (by grind)) hs.2;refine⟨x::l1,mid,l2,by simp_all,?_,q3,?_,q5⟩
   ·unfold jt at q2⊢;rw[fY,e1,e2]
    (simp;omega)
   simp_all
section
open Go.Maps
section
variable {k q:LV} {p:Nat} {ks2 km:List LV} {ps2 pm:au} {w:an} {D:DataW Unit}
theorem EK:Keyed prog 386:=Keyed.of_law (deep_law (m:=2) Ue Uj Uj Uj)
theorem JB:prog.keyType 386=true:=Uj
theorem EL:prog.cellsOf 386=2:=Uj
theorem JC:prog.cellsOf 53=1:=Uj
theorem C7:prog.cellsOf 9=1:=Uj
structure yO (k:LV):Prop where
 lo:0<=k.1
 hi:k.1<18446744073709551616
 sz:k.2.size<=maxLen
theorem PD (h:yO k):∃kl,Go.keyOf prog 386 (kV k)=some kl:=by
 unfold keyOf kV;have hb:Nat.ble 1 prog.types.size=true:=Uj;have hb2:=Nat.le_of_ble_eq_true hb;obtain⟨N,hN⟩:∃N,prog.types.size+1=N+1+1:=⟨prog.types.size-1,Ue⟩
 have Ur:(Lit.int .u64 k.1).wf=true:=by
  show(decide (0<=k.1)&&decide (k.1<=18446744073709551615))=true;have:=h.lo;have:=h.hi;simp;omega
 have hsz:=h.sz;rw[JB,hN];simp[underlying386,Value.formed,EL,Program.keyLits,JC,C7,underlying53,underlying9,Ur,hsz,Value.cells]
theorem jd {a b:am}(h:a.toList=b.toList):a=b:=by
 rw[ByteArray.toList_eq,ByteArray.toList_eq]at h
 cases a
 cases b
 simp at h;rw[h]
theorem xt:∀{ks:List LV} {ps:au},(∀x∈ks,¬ji x q)->jy ks ps q=none
 | [],_,_=>by rw[jy];intros;simp_all
 |_::_,[],_=>by rw[jy];intros;simp_all
 |x::ks,y::ps,h=>by
  rw[jy,dD (λe=>h x Uf ⟨e.1,gw.1 e.2⟩)];exact xt λz hz=>h z (by simp[hz])
theorem tP (hm:(km= []/\pm= [])\/∃k' p',km= [k']/\pm= [p']/\ji k k'):∀{ks1:List LV} {ps1:au},ks1.length=ps1.length->(∀x∈ks1,¬ji x k)->
  jy (ks1++k::ks2) (ps1++p::ps2) q=if k.1=q.1/\gG k.2 q.2=true then some p else jy (ks1++(km++ks2)) (ps1++(pm++ps2)) q
 | [],[],_,_=>by
  simp only[aS];rw[jy]
  split
  ·rfl
  ·rename_i hn
   rcases hm with⟨rfl,rfl⟩|⟨k',p',rfl,rfl,hs⟩
   ·rfl
   ·simp only[bf,aS];rw[jy,dD (λe=>hn ⟨hs.1.trans e.1,gw.2 (hs.2.trans (gw.1 e.2))⟩)]
 | [],_::_,h,_=>by simp at h
 |_::_,[],h,_=>by simp at h
 |x::ks1,y::ps1,h,hn=>by
  simp only[bf];rw[jy,jy,tP hm (by simpa using h) (λz hz=>hn z (by simp[hz]))]
  by_cases hx:x.1=q.1/\gG x.2 q.2=true
  ·rw[dE hx,dE hx,dD (λe=>hn x Uf ⟨hx.1.trans e.1.symm,(gw.1 hx.2).trans (gw.1 e.2).symm⟩)]
  ·rw[dD hx,dD hx]
theorem xu {k:TypeId}{R:Value->Option (DataW Unit×List MemPlace)}{b n:Nat}(h:w.ownsMap prog k R b n D):w.ownsMap prog k R b (Go.Maps.size D) D:=by
 obtain⟨es,clock,hb,F,hs,rfl⟩:=h;exact⟨es,clock,hb,F,by simp[Go.Maps.size,length_sorted],rfl⟩
theorem jz.put {w':an}{mb n:Nat}{kl:Lit}{ks1:List LV}{ps1:au}(hm:(km= []/\pm= [])\/∃k' p',km= [k']/\pm= [p']/\ji k k')(hl:ks1.length=ps1.length)(h1:∀x∈ks1,¬ji x k)(h2:∀x∈ks2,¬ji x k)
  (hown:w.ownsMap prog 386 gr mb n D) (hsz:Go.Maps.size D=(ks1++(km++ks2)).length) (hat:∀(k:LV) kl,Go.keyOf prog 386 (kV k)=some kl->∀z,D.atKey kl z=Rh (jy (ks1++(km++ks2)) (ps1++(pm++ps2)) k) z)
  (hk:Go.keyOf prog 386 (kV k)=some kl) (hput:w'.ownsMap prog 386 gr mb (n+1) (D.put kl (nO (some p)))):jz w' mb (ks1++k::ks2) (ps1++p::ps2):=by
 have hlen:Go.Maps.size (D.put kl (nO (some p)))=(ks1++k::ks2).length:=by
  rw[size_put (hown.tidy EK)]
  rcases hm with⟨rfl,rfl⟩|⟨k',p',rfl,rfl,hs⟩
  ·have Us:jy (ks1++([]++ks2)) (ps1++([]++ps2)) k=none:=xt λx hx=>by
    simp only[aS,aR]at hx;exact hx.elim (h1 x) (h2 x)
   rw[has_false_of_atKey (λz=>by rw[hat k kl hk z,Us];rfl),hsz];simp;omega
  ·have Uq:∃p0,jy (ks1++([k']++ks2)) (ps1++([p']++ps2)) k=some p0:=by
    have:=tP (k:=k') (q:=k) (p:=p') (ks2:=ks2) (ps2:=ps2) (km:= []) (pm:= []) (.inl ⟨rfl,rfl⟩) hl (λx hx q=>h1 x hx ⟨q.1.trans hs.1.symm,q.2.trans hs.2.symm⟩);exact⟨p',this.trans (dE ⟨hs.1.symm,gw.2 hs.2.symm⟩)⟩
   obtain⟨p0,Ut⟩:=Uq;rw[has_true_of_atKey (y:=nO (some p0)) (λz=>by rw[hat k kl hk z,Ut];rfl),hsz];simp
 refine⟨_,by rw[<-hlen];exact xu hput,hlen,λq ql hq z=> ?_⟩;rw[tP hm hl h1]
 by_cases e:k.1=q.1/\gG k.2 q.2=true
 ·rw[dE e];have e2:k.2=q.2:=jd (gw.1 e.2);have e3:kV k=kV q:=by unfold kV;rw[e.1,e2]
  rw[<-e3,hk]at hq
  cases hq
  exact atKey_put_same hown.isMap (EK.key hk) _ _
 ·rw[dD e,atKey_put_other]
  ·exact hat q ql hq z
  ·intro h;subst h;have h3:=EK.inj hq hk;unfold kV at h3;simp at h3;exact e ⟨h3.1.symm,by rw[h3.2];exact gw.2 rfl⟩
theorem jz.made (w:an):jz (w.alloc (.map #[] 0)) w.heap.size [] []:=
 ⟨_,World.ownsMap_made w prog 386 gr,rfl,λ_ _ _ _=>rfl⟩
end
end
section
open Uq
def Ng (n:Nat)(h:n<18446744073709551616):n^^^9223372036854775808=(n+9223372036854775808)%18446744073709551616:=by
 have e:(9223372036854775808:Nat)=2^63:=Uh
 have key:∀r,r<2^63->r^^^2^63=2^63+r:=λr hr=>by
  apply Nat.eq_of_testBit_eq;intro i;rw[Nat.testBit_xor,Nat.testBit_two_pow]
  by_cases h1:i<63
  ·rw[Nat.testBit_two_pow_add_gt h1];have:decide (63=i)=false:=Ug;simp[this]
  ·by_cases h2:i=63
   ·subst h2;rw[Nat.testBit_two_pow_add_eq];simp
   ·have h3:2^64<=2^i:=de Ue Ue;have h4:r.testBit i=false:=Nat.testBit_lt_two_pow Ue;have h5:(2^63+r).testBit i=false:=Nat.testBit_lt_two_pow Ue;rw[h4,h5];simp;omega
 rw[e]
 by_cases hn:n<2^63
 ·rw[key n hn,Nat.mod_eq_of_lt Ue];omega
 ·obtain⟨r,rfl⟩:∃r,n=2^63+r:=⟨n-2^63,Ue⟩;have hr:r<2^63:=Ue;rw[<-key r hr,Nat.xor_assoc,Nat.xor_self,Nat.xor_zero,key r hr];omega
def sE {n:Int}(h0:0<=n)(h1:n<18446744073709551616):bits .xor .u64 n 9223372036854775808=(n+9223372036854775808)%18446744073709551616:=by
 obtain⟨a,rfl⟩:=bt h0
 have hx:(BitVec.ofInt 64 (a:Int)).toNat=a:=by
  rw[BitVec.ofInt_natCast,BitVec.toNat_ofNat];exact Nat.mod_eq_of_lt Ue
 show IntKind.u64.wrap (((BitVec.ofInt 64 (a:Int))^^^(BitVec.ofInt 64 9223372036854775808)).toNat:Int)=_;rw[BitVec.toNat_xor,hx,show(BitVec.ofInt 64 9223372036854775808).toNat=9223372036854775808 from by decide,Ng a Ue];rw[gm Ue Ue];omega
def II (sg:Bool)(v:LV):LV:=(if sg then(v.1+9223372036854775808)%18446744073709551616 else v.1,v.2)
def Nh (w:an)(v:LV)(sg:Bool)(h0:0<=v.1)(h1:v.1<18446744073709551616):
  Calls prog 267 #[vg v,.bool sg] w λe w'=>e= .returned (kV (II sg v))/\aj w w':=by
 have hx:=sE h0 h1;have K0:=dM.new w #[.int .u64 v.1,ae v.2,ah,T9] 55;have K1:=K0.alloc (ak #[.int .u64 0,T9] 386);have⟨k1,k2⟩:=K1.rules;unfold vg kV II
 cases sg with
 |true=>
  rw[dE rfl];go_in
  go_wp2;refine dG (ec results267 _ _ rfl (dM.new1 w _ _ _) underlying386 Uj) rfl ?_;exact⟨rfl,((Below.refl _ _).alloc (ay _) _).alloc Uf _⟩
 |false=>
  rw[dD Uf];go_in
  go_wp2;refine dG (ec results267 _ _ rfl (dM.new1 w _ _ _) underlying386 Uj) rfl ?_;exact⟨rfl,((Below.refl _ _).alloc (ay _) _).alloc Uf _⟩
def jx.filled {S:d8}{R:OR}{w:an}{T:Option MT}:∀{l:List gj} {fs:List PF} {Y:ap},jx (gD S R w T) Y l fs->∀f∈fs,f.2≠ []
 | [],[],_,_=>Uf
 |_::_,g::_,_,⟨_,_,h1,h2,_⟩=>λf hf=>by
  rcases aN.1 hf with rfl|hf
  ·rcases h1.2 with⟨_,lv,h⟩|⟨_,ps,B,h⟩|⟨t,_,mb,ps,B,h⟩
   ·rw[h.pm];simpa using h.ne
   ·intro e;have:=h.sub.len;rw[e]at this;exact h.ne (bC this)
   ·intro e;have:=h.sub.len;rw[e]at this;exact h.ne (bC this)
  ·exact h2.filled f hf
 | [],_::_,_,h=>h.elim
 |_::_,[],_,h=>h.elim
def C8 {n:Int}:∀{fs:List PF},(∀f∈fs,f.2≠ [])->(∃f∈fs,f.1=n)->gz fs n≠ []
 | [],_,⟨_,h,_⟩=>by simp at h
 |x::l,h,⟨f,hf,e⟩=>by
  rw[gz]
  split
  ·exact h x Uf
  ·rename_i q
   rcases aN.1 hf with rfl|hf
   ·exact absurd e q
   ·exact C8 (λy hy=>h y (by simp[hy])) ⟨f,hf,e⟩
def JD {S:d8}{k:Nat}{T:Option MT}{w:an}{Z Y:ap}{db:Nat}{m:PM}{sv uv:Value}{l:List gj}(hy:Nb w Z db sv uv m.unk l Y)(hs:jx (gD S (ek S k) w T) Y l m.fs){n:Int}{i:Nat}(h1:∀k x,(l.map (·.1))[k]?=some x->k<i->x<n)(h2:∀k x,(l.map (·.1))[k]?=some x->i<=k->n<=x):
  ((l.map (·.1))[i]?=some n->(m.get n).isEmpty=false)/\((l.map (·.1))[i]?≠some n->(m.get n).isEmpty=true/\∀f∈m.fs,f.1≠n):=by
 have hn:=hs.nums
 constructor
 ·intro h;have hm:n∈m.fs.map (·.1):=by rw[hn];exact aI h
  have⟨f,hf,e⟩:=aP.1 hm;have:=C8 hs.filled ⟨f,hf,e⟩;unfold PM.get
  cases hg:gz m.fs n with
  |nil=>exact absurd hg this
  |cons _ _=>rfl
 ·intro h
  have Uy:∀f∈m.fs,f.1≠n:=λf hf e=>by
   have hm:n∈l.map (·.1):=by rw[<-hn];exact aP.2 ⟨f,hf,e⟩
   have⟨j,hj⟩:=bK.1 hm
   have UH:i<j:=by
    by_cases q:j<i
    ·have:=h1 j n hj q;omega
    ·by_cases q2:j=i
     ·exact absurd (q2▸hj) h
     ·omega
   have UI:(l.map (·.1)).Pairwise (·< ·):=cm.2 hy.c.srt;have⟨UN,ej⟩:=bX.1 hj;have Ur:=bM.1 UI i j Ue UN UH;have:=h2 i _ (aK Ue) (ay _);omega
  exact⟨by unfold PM.get;rw[mZ n m.fs Uy];rfl,Uy⟩
def mB (m:PM):Nat->PM
 |0=> .mk m.fs eS
 |1=>fH (.mk m.fs eS) 1
 |_=>fH (fH (.mk m.fs eS) 1) 2
def Hs (m:PM):mB m 2=fZ m:=by
 have hu:∀(fs:List PF) (u u':am) (n:Int),(fH (.mk fs u) n).fs=(fH (.mk fs u') n).fs/\(fH (.mk fs u) n).unk=u:=λfs u u' n=>by
  unfold fH PM.get PM.put
  cases h:(gz fs n).isEmpty<;>simp[PM.fs,PM.unk,h]
 have hm:∀m:PM,m= .mk m.fs m.unk:=λm=>by cases m;rfl
 unfold fZ;show fH (fH (.mk m.fs eS) 1) 2=_;rw[hm (fH (fH (.mk m.fs eS) 1) 2)];have e1:=hu m.fs eS m.unk 1;rw[<-hm m]at e1;rw[hm (fH (.mk m.fs eS) 1),e1.2,e1.1];rw[(hu (fH m 1).fs eS (fH m 1).unk 2).1,<-hm (fH m 1),(hu (fH m 1).fs eS eS 2).2]
def C9 (S:d8)(k:Nat)(T:Option MT)(w:an)(Z:ap)(db:Nat)(m:PM)(h:ek S (k+1) T w Z db m)(hok1:nS S T 1 .vals)(hok2:nS S T 2 .vals)(hl:m.fs.length<1073741822)(hZ:∀b,Z b->b<w.heap.size):
  Calls prog 265 #[ag db] w (jG S k T w Z db (fZ m)):=by
 obtain⟨sv,uv,l,Y,hy,hs⟩:=h;have⟨k1,k2⟩:=hy.c.blk.rules;have hdl:=hy.c.blk.lt
 have h0:ek S (k+1) T (w.setCell (ai db 1) (ah)) Z db (mB m 0):=by
  have Uq:∀b,b≠db->(w.setCell (ai db 1) (ah)).heap[b]?=w.heap[b]?:=λb q=>by rw[dK,dD (λe=>q e.symm)]
  refine⟨sv,ah,l,Y,⟨⟨⟨hy.c.blk.set 1 _,d6 hy.c.row (λb e=>Uq b (λq=>hy.c.ne (q▸e))),hy.c.form,hy.c.srt,hy.c.ne,hy.c.len⟩,bm _ _ _ _,hy.zd,hy.zs,(λb e=>by cases e),(λb _ e=>by cases e),(λe=>by cases e)⟩,hy.yz,λb q=>by simpa using hy.yl b q,hy.yd,hy.ys,(λb e=>by cases e)⟩,?_⟩;exact my hs λb q _=>Uq b (λe=>hy.yd (e▸q))
 have UJ:fk w Z (w.setCell (ai db 1) (ah)) Z:=⟨rfl,rfl,rfl,Uf,λb _ q=>by rw[dK,dD (λe:db=b=>q (by rw[<-e];exact hy.zd))],λb q=> .inl q⟩;have KR:=dM.new (w.setCell (ai db 1) (ah)) #[aa 1,aa 2] 3;have BR:Below _ (w.setCell (ai db 1) (ah)) ((w.setCell (ai db 1) (ah)).alloc (ak #[aa 1,aa 2] 3)):=(Below.refl _ _).alloc (ay _) _;have hsz:(w.setCell (ai db 1) (ah)).heap.size=w.heap.size:=Uf;have UK:(mB m 0).fs.length<1073741822:=hl;clear hy hs
 have Us:∀(m:PM) (n:Int),(fH m n).fs.length<=m.fs.length+1:=λm n=>by
  unfold fH
  split
  ·exact PM.put_len m n _
  ·omega
 have hlen:∀j,(mB m j).fs.length<1073741824:=λj=>by
  match j with
  |0=>have:=UK;omega
  |1=>have:=Us (mB m 0) 1;show(fH (mB m 0) 1).fs.length<_;omega
  |_+2=>
   have h1:=Us (mB m 0) 1;have h2:=Us (fH (mB m 0) 1) 2;show(fH (fH (mB m 0) 1) 2).fs.length<_;omega
 have Uz:∀j,j<2->mB m (j+1)=fH (mB m j) ((j:Int)+1):=λj hj=>by
  match j with
  |0=>rfl
  |1=>rfl
 have UA:Hid (∀j,j<2->mB m (j+1)=fH (mB m j) ((j:Int)+1)):=Uz;clear Uz
 have Ut:∀j:Nat,j<2->nS S T ((j:Int)+1) .vals:=λj hj=>by
  match j with
  |0=>exact hok1
  |1=>exact hok2
 go_in
 rw[hsz]at KR;clear hsz;go_wp2;go_loopw [11] (λiv wr=>∃j:Nat,j<=2/\iv=aa j/\∃Z',fk w Z wr Z'/\ek S (k+1) T wr Z' db (mB m j)/\dM wr w.heap.size #[aa 1,aa 2] 3/\¬Z' w.heap.size) (λiv _=>(2-intOf iv).toNat)
 case atStart=>exact⟨0,Ue,rfl,Z,UJ.below BR,h0.keep (λb _ q=>BR.block b q),KR,λq=>by have:=hZ _ q;omega⟩
 case round=>
  obtain⟨j,hj,rfl,Z',st,hD,Uv,Uw⟩:=hrel
  by_cases Ur:j<2
  ·have hc:wr.cell? (ai w.heap.size j)=some (aa ((j:Int)+1)):=by
    rw[Uv.cell]
    match j,Ur with
    |0,_=>rfl
    |1,_=>rfl
   have hli:(j:Int)<2:=Ue;obtain⟨UD,UE,l',Y',Ux,UF⟩:=hD;have hD:ek S (k+1) T wr Z' db (mB m j):=⟨UD,UE,l',Y',Ux,UF⟩;have hF:=F7 wr db UD UE l' ((j:Int)+1) Ux.c;go_wp2_with fail;refine hF.mono ?_;rintro e w1 ⟨⟨i,rfl,hi,UO,UP⟩,B1⟩;have hH:=JD Ux UF UO UP;have UB:=hD.keep (λb _ q=>B1.block b q);have Uu:=Uv.below B1 Uv.lt
   by_cases hfd:(l'.map (·.1))[i]?=some ((j:Int)+1)
   ·have hd:decide ((l'.map (·.1))[i]?=some ((j:Int)+1))=true:=decide_eq_true hfd
    have HE:Hid (mB m (j+1)=mB m j):=by
     show mB m (j+1)=mB m j;rw[UA.out j Ur,fH,hH.1 hfd];rfl
    clear hfd hH hc;go_wp2;go_roundw
    case rel=>exact⟨j+1,Ue,by go_num,Z',st.below B1,by rw[HE.out];exact UB,Uu,Uw⟩
    case measure=>simp[intOf];omega
   ·have hd:decide ((l'.map (·.1))[i]?=some ((j:Int)+1))=false:=decide_eq_false hfd;have⟨UG,UQ⟩:=hH.2 hfd
    have HE:Hid (mB m (j+1)=(mB m j).put ((j:Int)+1) [pC (0,⟨#[]⟩)]):=by
     show mB m (j+1)=_;rw[UA.out j Ur,fH,UG];rfl
    have UC:=xj S k T w1 Z' db (mB m j) ((j:Int)+1) (0,⟨#[]⟩) UB (Ut j Ur) (.inr UQ) (hlen j);unfold vg at UC;clear hfd hH hc UG;go_wp2_with fail;refine UC.mono ?_;rintro e w2 ⟨rfl,Z2,st2,UR⟩;have UL:=Uu.step st2 Uw;have UM:¬Z2 w.heap.size:=st2.not Uu.lt Uw;go_wp2;go_roundw
    case rel=>exact⟨j+1,Ue,by go_num,Z2,(st.below B1).trans st2,by rw[HE.out];exact UR,UL,UM⟩
    case measure=>simp[intOf];omega
  ·obtain rfl:j=2:=Ue;go_wp2;go_end0;rw[<-Hs];exact⟨rfl,Z',st,hD⟩
end
end Go.Proofs.YtfebdimolnobaaaGreatDoor
