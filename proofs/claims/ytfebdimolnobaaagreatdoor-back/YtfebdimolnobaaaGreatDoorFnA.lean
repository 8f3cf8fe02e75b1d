import Derived.Test.YtfebdimolnobaaaGreatDoorWkK
import Derived.Test.YtfebdimolnobaaaGreatDoorItA
set_option maxRecDepth 100000
set_option maxHeartbeats 8000000
set_option linter.all false
namespace Go.Proofs.YtfebdimolnobaaaGreatDoor
open Go.RowKit Go.Proofs.Tryz
def sx:ay->List PV->ay
 |mv::ms,v::vs=> .int .u64 v.1::ag v.2.1::mv::ag v.2.2.unk::sx ms vs
 |_,_=> []
def sy:ay->List PF->ay
 |vv::r,f::fs=>aa f.1::vv::sy r fs
 |_,_=> []
def vB:∀{a:ay} {l:List PV} {b:ay} {r:List PV},a.length=l.length->sx (a++b) (l++r)=sx a l++sx b r
 | [],[],_,_,_=>Vi
 | [],_::_,_,_,h=>by grind
 |_::_,[],_,_,h=>by grind
 |mv::a,v::l,b,r,h=>by simp[sx,vB (a:=a) (l:=l) (b:=b) (r:=r) (by grind)]
def vC:∀{a:ay} {l:List PF} {b:ay} {r:List PF},a.length=l.length->sy (a++b) (l++r)=sy a l++sy b r
 | [],[],_,_,_=>Vi
 | [],_::_,_,_,h=>by grind
 |_::_,[],_,_,h=>by grind
 |mv::a,v::l,b,r,h=>by simp[sy,vC (a:=a) (l:=l) (b:=b) (r:=r) (by grind)]
abbrev FU:=Value->PM->(ax)->Prop
def kz (P:FU)(w:aw)(A:ax)(vv:Value)(l:List PV):Prop:=
 ∃ms Y,eO w A 55 4 vv l.length (sx ms l)/\(∀b,vv.ownBlock=some b->¬Y b)/\(∀b,Y b->A b)/\jY (λmv v C=>P mv v.2.2 C) Y ms l
def qw:Nat->aw->FU
 |0,_,_,_,_=>False
 |k+1,w,v,m,Z=>∃Vr Y,eO w Z 58 2 v m.fs.length (sy Vr m.fs)/\(∀b,v.ownBlock=some b->¬Y b)/\(∀b,Y b->Z b)/\jY (λvv f A=>kz (qw k w) w A vv f.2) Y Vr m.fs
def kz.O {P Q:FU}{w w':aw}{A:ax}{vv:Value}{l:List PV}(h:kz P w A vv l)(hk:∀b,A b->b<w.heap.size->w'.heap[b]?=w.heap[b]?)
  (hPQ:∀mv m C,(∀b,C b->A b)->P mv m C->Q mv m C):kz Q w' A vv l:=by
 obtain⟨ms,Y,h1,h2,h3,h4⟩:=h;exact⟨ms,Y,h1.O hk,h2,h3,h4.imp λmv v C _ _ hC h=>hPQ mv _ C (λb hb=>h3 b (hC b hb)) h⟩
def qw.O:∀{k:Nat} {w w':aw} {v:Value} {m:PM} {Z:ax},qw k w v m Z->(∀b,Z b->b<w.heap.size->w'.heap[b]?=w.heap[b]?)->qw k w' v m Z
 |0,_,_,_,_,_,h,_=>h
 |_+1,_,_,_,_,_,⟨Vr,Y,h1,h2,h3,h4⟩,hk=>⟨Vr,Y,h1.O hk,h2,h3,h4.imp λ_ _ _ _ _ hA h=>
   h.O (λb hb hl=>hk b (h3 b (hA b hb)) hl) (λ_ _ _ hC hm=>hm.O λb hb hl=>hk b (h3 b (hA b (hC b hb))) hl)⟩
def qw.none (k:Nat)(w:aw)(Z:ax):qw (k+1) w (.slice .none 0 0) PM.none Z:=⟨[],λ_=>False,eO.nil _ _ _ _,(by grind),(by grind),trivial⟩
def qw.form {k:Nat}{w:aw}{v:Value}{m:PM}{Z:ax}(h:qw k w v m Z):∃a c,v= .slice a m.fs.length c:=by
 cases k with
 |zero=>exact h.elim
 |succ k=>
  obtain⟨Vr,Y,h1,_⟩:=h;obtain⟨a,n,c,rfl⟩:=d5 h1.1;rw[fh h1.1];grind
def kz.form {P:FU}{w:aw}{A:ax}{vv:Value}{l:List PV}(h:kz P w A vv l):∃a c,vv= .slice a l.length c:=by
 obtain⟨ms,Y,h1,_⟩:=h;obtain⟨a,n,c,rfl⟩:=d5 h1.1;rw[fh h1.1];grind
def Oz {k:Nat}{w:aw}{A:ax}{vv:Value}{lv:List LV}(h:eO w A 55 4 vv lv.length (lv.flatMap mR)):kz (qw (k+1) w) w A vv (lv.map qq):=by
 have e:∀lv:List LV,lv.flatMap mR=sx (lv.map λ_=>ai) (lv.map qq):=λlv=>by
  induction lv with
  |nil=>rfl
  |cons x lv ih=>rw[bt,ih];rfl
 refine⟨lv.map λ_=>ai,λ_=>False,?_,λb _ h=>h,λb h=>h.elim,?_⟩;.grind
 .have:∀lv:List LV,jY (λmv (v:PV) C=>qw (k+1) w mv v.2.2 C) (λ_=>False) (lv.map λ_=>ai) (lv.map qq):=λlv=>by
   induction lv with
   |nil=>trivial
   |cons x lv ih=>exact⟨λ_=>False,λ_=>False,qw.none k w _,ih,λb h=>h,λb h=>h,λb h=>h.elim⟩
  grind
def Sv (k:Nat)(w:aw)(Z:ax)(m:PM)(e:Ending)(w':aw):Prop:=
 ∃v Z',e= .returned (.agg #[v,ag m.unk])/\qw (k+1) w' v m Z'/\(∀b,Z' b->b<w'.heap.size/\(Z b\/w.heap.size<=b))/\ak w w'
def sA (k:Nat)(w:aw)(A:ax)(l:List PV)(e:Ending)(w':aw):Prop:=
 ∃v Z',e= .returned v/\kz (qw (k+1) w') w' Z' v l/\(∀b,Z' b->b<w'.heap.size/\(A b\/w.heap.size<=b))/\ak w w'
def vT (S:eD)(k:Nat)(T:Option MT)(w0:aw)(B:ax)(wr:aw)(u:Value)(done:List PV)(ps:aB)(rest:List PV):Prop:=
 ∃ms Y,∃B1 B2:ax,jY (λp v C=>v=mV v.2.2/\eM S k T w0 C p v.2.2) B2 ps rest/\(∀b,B1 b->B b)/\(∀b,B2 b->B b)/\(∀b,B1 b->¬B2 b)/\
  wr.ownsRow w0.heap.size 55 4 u done.length (sx ms done)/\(∀b,u.ownBlock=some b->¬Y b)/\jY (λmv v C=>qw (k+1) wr mv v.2.2 C) Y ms done/\(∀b,Y b->b<wr.heap.size/\(B1 b\/w0.heap.size<=b))
def vT.start {S:eD}{k:Nat}{T:Option MT}{w0:aw}{B:ax}{wr:aw}{ps:aB}{l:List PV}(h:jY (λp v C=>v=mV v.2.2/\eM S k T w0 C p v.2.2) B ps l):vT S k T w0 B wr (ai) [] ps l:=
 ⟨[],λ_=>False,λ_=>False,B,h,λ_ q=>q.elim,λ_ q=>q,λ_ q=>q.elim,br _ _ _ _,(λ_ q=>by cases q),trivial,λ_ q=>q.elim⟩
def vT.done {S:eD}{k:Nat}{T:Option MT}{w0:aw}{B:ax}{wr:aw}{u:Value}{l:List PV}(h:vT S k T w0 B wr u l [] []):
  ∃Z',kz (qw (k+1) wr) wr Z' u l/\∀b,Z' b->b<wr.heap.size/\(B b\/w0.heap.size<=b):=by
 obtain⟨ms,Y,B1,B2,_,Vv,_,_,Vp,Vs,Vq,hY⟩:=h;refine⟨λb=>Y b\/u.ownBlock=some b,⟨ms,Y,⟨ownsRow_base_a Vp (aP _),λb hb=> .inr hb⟩,Vs,λb hb=> .inl hb,Vq⟩,?_⟩;rintro b (hb|hb);.grind
 .exact⟨(Vp.lt b hb).2,.inr (Vp.lt b hb).1⟩
def vT.step {S:eD}{k:Nat}{T:Option MT}{w0:aw}{B:ax}{wr w1 w2:aw}{u u' mv:Value}{done rest:List PV}{ps:aB}{v:PV}{A B2 B2' B1 Y Z':ax}{ms:ay}
  (hlB:∀b,B b->b<w0.heap.size) (h0:w0.heap.size<=wr.heap.size)
  (hs:jY (λp v C=>v=mV v.2.2/\eM S k T w0 C p v.2.2) B2' ps rest) (hA:∀b,A b->B2 b) (hB':∀b,B2' b->B2 b) (hAB:∀b,A b->¬B2' b)
  (Vv:∀b,B1 b->B b) (hB2:∀b,B2 b->B b) (h12:∀b,B1 b->¬B2 b) (Vp:wr.ownsRow w0.heap.size 55 4 u done.length (sx ms done)) (Vs:∀b,u.ownBlock=some b->¬Y b)
  (Vq:jY (λmv v C=>qw (k+1) wr mv v.2.2 C) Y ms done) (hY:∀b,Y b->b<wr.heap.size/\(B1 b\/w0.heap.size<=b))
  (hb1:ak wr w1) (hm:qw (k+1) w1 mv v.2.2 Z') (hZ:∀b,Z' b->b<w1.heap.size/\(A b\/wr.heap.size<=b))
  (hg:w1.grownBy w2 u.ownBlock) (hrow':w2.ownsRow w0.heap.size 55 4 u' (done.length+1) (sx ms done++sx [mv] [v])) (hu':u'.ownBlock=u.ownBlock\/∃g,u'.ownBlock=some g/\w1.heap.size<=g):
  vT S k T w0 B w2 u' (done++ [v]) ps rest:=by
 have hlen:ms.length=done.length:=Vq.len
 have Vt:∀b,Y b->¬Z' b:=λb hb hz=>by
  grind
 have Vu:∀b,u.ownBlock=some b->¬(Y b\/Z' b):=λb hb h=>by
  rcases h with h|h;.grind
  .have q:=Vp.lt b hb;grind
 have hk:∀b,(Y b\/Z' b)->b<w1.heap.size->w2.heap[b]?=w1.heap[b]?:=λb hb hl=>hg.block b hl (λe=>Vu b e.sy hb)
 refine⟨ms++ [mv],λb=>Y b\/Z' b,λb=>B1 b\/A b,B2',hs,?_,λb hb=>hB2 b (hB' b hb),?_,?_,?_,?_,?_⟩;.grind
 .grind
 .rw[vB hlen];grind
 .intro b hb h;rcases hu' with e|⟨g,e,hge⟩;.grind
  .rw[e]at hb;cases hb;rcases h with h|h;.have:=(hY _ h).1;have:=hb1.size;omega
   grind
 .refine jY.append (A:=Y) (B:=Z') ?_ ?_ (λb h=> .inl h) (λb h=> .inr h) Vt
  .refine Vq.imp λmv v C _ _ hC h=>h.O λb hb hl=> ?_
   exact(hk b (.inl (hC b hb)) (aI hl hb1.size)).J (hb1.block b hl)
  .exact⟨Z',λ_=>False,hm.O λb hb hl=>hk b (.inr hb) hl,trivial,λb h=>h,λb h=>h.elim,λb _ h=>h⟩
 .have hsz:=hg.size;rintro b (hb|hb);.have q:=hY b hb;have:=hb1.size;grind
  grind
def tP {b:au}{x y:ap}{c:UInt8}{i:Nat}(h:b.data.toList=x++c::y)(hi:i=x.length):fZ b i=(c.toNat:Int):=by
 subst hi;rw[mq,h,cj (aE _)];simp
def EI {b:au}{a e:Nat}:∀(f:Nat) (v:Int) (i:Nat) (n:Int) (x y:ap),i+f=9->0<=v->v<2^(64-7*i)->b.data.toList=x++(uK f v++y)->x.length=a+i->a+i+(uK f v).length<=e->
  mH b a e (f+1) i n= .ok (n+v*2^(7*i),a+i+(uK f v).length)
 |0,v,i,n,x,y,hi,h0,h1,hb,hx,he=>by
  obtain rfl:i=9:=Vc;have h2:v<2:=h1;have hc:fZ b (a+9)=v:=(by rw[tP (c:=Di v) (y:=y) hb hx.sy,yA h0 Vc]);rw[mH,hc,dP (by simp[uK]at he;omega),dO Vc,dP Vc,show v%128=v by omega]
  rfl
 |f+1,v,i,n,x,y,hi,h0,h1,hb,hx,he=>by
  rw[uK]at*;by_cases hv:v<128;.rw[dP hv]at*;have hc:fZ b (a+i)=v:=(by rw[tP (c:=Di v) (y:=y) hb hx.sy,yA h0 Vc]);rw[mH,hc,dP (by grind),dO Vc,dP hv,show v%128=v by omega];rfl
  .rw[dO hv]at*;have hc:fZ b (a+i)=v%128+128:=(by rw[tP (c:=Di (v%128+128)) (y:=uK f (v/128)++y) (by simp_all) hx.sy,yA Vc Vc]);have hp:(2:Int)^(64-7*i)=2^(64-7*(i+1))*128:=(by rw[show 64-7*i=64-7*(i+1)+7 by omega,Int.pow_add];rfl);rw[hp]at h1;have ih:=EI (b:=b) (a:=a) (e:=e) f (v/128) (i+1) (n+(v%128+128)%128*2^(7*i)) (x++ [Di (v%128+128)]) y Vc Vc (Int.ediv_lt_of_lt_mul Vf h1) (by simp_all) (by grind) (by grind);rw[mH,hc,dP (by grind),dO Vc,dO Vc,ih,Ar];have e1:(v%128+128)%128=v%128:=Vc;have e2:v*2^(7*i)=v%128*2^(7*i)+v/128*(128*2^(7*i)):=(by grind);rw[e1,e2,bw];simp only[Except.ok.injEq,Prod.mk.injEq];constructor<;>omega
def xh {b:au}{e:Nat}{v:Int}{x y:ap}(hb:b.data.toList=x++(vi v++y))(h0:0<=v)(h1:v<2^64)(he:x.length+(vi v).length<=e):iT b x.length e= .ok (v,x.length+(vi v).length):=by
 have:=EI (b:=b) (a:=x.length) (e:=e) 9 v 0 0 x y rfl h0 h1 hb rfl he;rw[iT,this];simp[vi]
def EJ {b:au}:∀(n:Nat) (v:Int) (x:ap) (i:Nat),0<=v->v<256^n->b.data.toList=x++o0 n v->i=x.length->IR b n i=v
 |0,v,x,i,h0,h1,_,_=>by
  have:v<1:=h1;rw[IR]
  omega
 |n+1,v,x,i,h0,h1,hb,hi=>by
  subst hi;have hs:x.length<b.size:=(by have:b.data.toList.length=b.size:=Vd;rw[hb]at this;simp[o0]at this;omega);rw[o0]at hb;rw[IR,dP hs,tP hb rfl,yA Vc Vc,EJ n (v/256) (x++ [Di (v%256)]) (x.length+1) Vc (Int.ediv_lt_of_lt_mul Vf Vc) (by simpa using hb) Vd];omega
def xi {n:Nat}{v:Int}(h0:0<=v)(h1:v<256^n):xB (bl (o0 n v))=v:=by
 unfold xB;rw[fR,iG];exact EJ n v [] 0 h0 h1 rfl rfl
def qL {b:au}{x y z:ap}(hb:b.data.toList=x++(y++z)):b.extract x.length (x.length+y.length)=bl y:=by
 refine jz ?_;rw[oY,hb,iH,<-bj,dh Vd,ch Vd];simp
section
variable {n:Int} (h0:1<=n) (h1:n<=536870911)
include h0 h1
def tQ {b:au}{e:Nat}{k:Int}{y:ap}(hk0:0<=k)(hk1:k<8)(hb:b.data.toList=fD n k++y)(he:(fD n k).length<=e):iT b 0 e= .ok (n*8+k,(fD n k).length):=by
 have:=xh (b:=b) (e:=e) (v:=n*8+k) (x:= []) (y:=y) hb Vc Vc (by unfold fD at he;simpa using he);simpa [fD]using this
def Ru {v:Int}(hv0:0<=v)(hv1:v<2^64):fN (bl (fD n 0++vi v)) 0 (bl (fD n 0++vi v)).size= .ok ⟨n,0,0,(fD n 0).length,(bl (fD n 0++vi v)).size,v⟩:=by
 unfold fN;rw[tQ h0 h1 (y:=vi v) Vf Vf rfl (by rw[fR,aN];omega)];simp only;rw[dO Vc,dP Vc,xh (x:=fD n 0) (y:= []) (by rw[bW];rfl) hv0 hv1 (by rw[fR,aN];omega)];simp only;rw[fR,aN,show(n*8+0)/8=n by omega]
def SS {v:Int}(hv0:0<=v)(hv1:v<2^64):fN (bl (fD n 1++o0 8 v)) 0 (bl (fD n 1++o0 8 v)).size= .ok ⟨n,1,0,(fD n 1).length,(bl (fD n 1++o0 8 v)).size,v⟩:=by
 have hx:=qL (b:=bl (fD n 1++o0 8 v)) (x:=fD n 1) (y:=o0 8 v) (z:= []) Vi;rw[iG]at hx;unfold fN;rw[tQ h0 h1 (y:=o0 8 v) Vf Vf rfl (by rw[fR,aN];omega)];simp only;rw[dO Vc,dO Vc,dP Vc,dP (by rw[fR,aN,iG];omega),hx,xi hv0 hv1,fR,aN,iG,show(n*8+1)/8=n by omega]
def SU {v:Int}(hv0:0<=v)(hv1:v<4294967296):fN (bl (fD n 5++o0 4 v)) 0 (bl (fD n 5++o0 4 v)).size= .ok ⟨n,5,0,(fD n 5).length,(bl (fD n 5++o0 4 v)).size,v⟩:=by
 have hx:=qL (b:=bl (fD n 5++o0 4 v)) (x:=fD n 5) (y:=o0 4 v) (z:= []) Vi;rw[iG]at hx;unfold fN;rw[tQ h0 h1 (y:=o0 4 v) Vf Vf rfl (by rw[fR,aN];omega)];simp only;rw[dO Vc,dO Vc,dO Vc,dP Vc,dP (by rw[fR,aN,iG];omega),hx,xi hv0 hv1,fR,aN,iG,show(n*8+5)/8=n by omega]
def MS {y:ap}(hy:y.length<2^64):fN (bl (fD n 2++fF y)) 0 (bl (fD n 2++fF y)).size= .ok ⟨n,2,0,(fD n 2).length+(vi y.length).length,(bl (fD n 2++fF y)).size,0⟩:=by
 unfold fN;rw[tQ h0 h1 (y:=fF y) Vf Vf rfl (by rw[fR,aN];omega)];simp only;rw[dO Vc,dO Vc,dO Vc,dO Vc,dP Vc,xh (x:=fD n 2) (v:=y.length) (y:=y) rfl Vc Vc (by rw[fR,aN,fF,aN];omega)];simp only;rw[fR,aN,fF,aN,dP Vc,show(n*8+2)/8=n by omega]
 (simp;omega)
end
def CK (a:List PF)(n:Int)(l:List PV):List PF:=if l.isEmpty then a else a++ [(n,l)]
section
variable {n:Int}
def Ba:∀{a:List PF},(∀x∈a,x.1≠n)->gR a n= []
 | [],_=>rfl
 |x::a,h=>by rw[gR,dO (h x aZ),Ba λy hy=>h y (aY _ hy)]
def EK {l:List PV}:∀{a:List PF},(∀x∈a,x.1<n)->gR (a++ [(n,l)]) n=l
 | [],_=>by simp[gR]
 |x::a,h=>by
  have:=h x aZ;rw[bo,gR,dO Vc,EK λy hy=>h y (aY _ hy)]
def EL {l:List PV}:∀{a:List PF},(∀x∈a,x.1<n)->ic n l false a=a++ [(n,l)]
 | [],_=>rfl
 |x::a,h=>by
  have:=h x aZ;rw[ic,decide_eq_false Vc,dO Vd,dO Vc];simp only[da];rw[EL λy hy=>h y (aY _ hy)];rfl
def Bb {l l':List PV}:∀{a:List PF},(∀x∈a,x.1<n)->ic n l false (a++ [(n,l')])=a++ [(n,l)]
 | [],_=>by simp[ic]
 |x::a,h=>by
  have:=h x aZ;rw[bo,ic,decide_eq_false Vc,dO Vd,dO Vc];simp only[da];rw[Bb λy hy=>h y (aY _ hy)];rfl
def EM:∀{a:List PF},(∀x∈a,x.1≠n)->ic n [] true a=a
 | [],_=>rfl
 |x::a,h=>by
  rw[ic,dO Vd,dO (h x aZ)];simp only[dl];rw[EM λy hy=>h y (aY _ hy)];rfl
variable {a:List PF} (h:∀x∈a,x.1<n)
include h
def CL (l:List PV)(u:au):(PM.mk (CK a n l) u).get n=l:=by
 show gR (CK a n l) n=l;unfold CK
 cases l with
 |nil=>exact Ba λx hx=>by grind
 |cons v l=>exact EK h
def CM (l l':List PV)(u:au)(hl:l'≠ []):(PM.mk (CK a n l) u).put n l'= .mk (CK a n l') u:=by
 have he:l'.isEmpty=false:=by(simp;omega)
 show PM.mk (ic n l' l'.isEmpty (CK a n l)) u=_;rw[he];unfold CK;rw[he]
 cases l with
 |nil=>rw[dP Vi,EL h];rfl
 |cons v l=>rw[dO Vd,Bb h];rfl
omit h in
end
def Pm {m:PM}{n:Int}(h:∀x∈m.fs,x.1≠n):m.put n []=m:=by
 obtain⟨fs,u⟩:=m;show PM.mk (ic n [] true fs) u=_;rw[EM (a:=fs) h]
def zi {f:fo}{m:PM}:∀{l:List fo},(∀o∈l,(gN o.how f.how&&i8 o.how&&decide (o.num≠f.num))=true->∀x∈m.fs,x.1≠o.num)->iU f l m=m
 | [],_=>rfl
 |o::l,h=>by
  rw[iU];split;.rw[Pm (h o aZ ‹_›)];exact zi λp hp=>h p (aY _ hp)
  .exact zi λp hp=>h p (aY _ hp)
def zj {t:au}{v:PV}:∀{l:List PV},(∀x∈l,kN t (fQ v) (fQ x)=false/\iC (fQ v) (fQ x)=false)->gz t v false l=l++ [v]
 | [],_=>rfl
 |x::l,h=>by
  have⟨h1,h2⟩:=h x aZ;rw[gz,h1,h2];simp only[Bool.or_self,cU,dI];rw[zj λy hy=>h y (aY _ hy)];rfl
def ve {s:au}(h:ou s=true):s=eS:=by
 refine jz ?_;unfold ou at h;rw[List.isEmpty_iff,ByteArray.toList_eq]at h;rw[h];rfl
def tR {m:PM}(h:zD m=true):m=PM.none:=by
 obtain⟨fs,u⟩:=m;unfold zD at h;simp only[aQ,List.isEmpty_iff]at h;obtain⟨h1,h2⟩:=h;have h1:fs= []:=h1;have h2:ou u=true:=h2;rw[h1,ve h2];rfl
def Iq (v:Int):o0 4 v=o0 4 (v%4294967296):=by
 simp only[o0,List.cons.injEq,and_true];refine⟨?_,?_,?_,?_⟩<;>(grind)
def SV {v:Int}(h0:0<=v)(h1:v<2^64):Dg (Cl v)=v:=by
 unfold Dg Cl;split<;>split<;>omega
def MU {v:Int}(h0:0<=v)(h1:v<2^64):0<=Cl v/\Cl v<2^64:=by
 unfold Cl;split<;>omega
def Pn {v:Int}(h0:0<=v)(h1:v<2^64)(h:v=mN v):Dg (Cl v%4294967296)=v:=by
 unfold mN at h;unfold Dg Cl;split at h<;>split<;>split<;>omega
def EN (k:Nat)(v:Int):ap:=
 if k=7\/k=9\/k=11 then o0 4 v else if k=8\/k=10\/k=12 then o0 8 v else if k=4\/k=5 then vi (Cl v)else vi v
def zl {k:Nat}{v:Int}(hk:fj k=true)(hv0:0<=v)(hv1:v<2^64)(ho:zF k v=true):
  (eJ k=0/\∃u,EN k v=vi u/\0<=u/\u<2^64/\lC k u=v)\/(eJ k=5/\EN k v=o0 4 v/\lC k (v%4294967296)=v)\/(eJ k=1/\EN k v=o0 8 v/\lC k v=v):=by
 have Vp:k=0\/k=1\/k=2\/k=3\/k=4\/k=5\/k=6\/k=7\/k=8\/k=9\/k=10\/k=11\/k=12\/k=15:=(by unfold fj at hk;grind);have⟨z0,z1⟩:=MU hv0 hv1;have q:∀{x:Int},(v==x)=true->x=v:=λh=>(beq_iff_eq.1 h).sy
 rcases Vp with rfl|rfl|rfl|rfl|rfl|rfl|rfl|rfl|rfl|rfl|rfl|rfl|rfl|rfl;.exact .inl ⟨rfl,v,rfl,hv0,hv1,q ho⟩
 .exact .inl ⟨rfl,v,rfl,hv0,hv1,rfl⟩
 .exact .inl ⟨rfl,v,rfl,hv0,hv1,q ho⟩
 .exact .inl ⟨rfl,v,rfl,hv0,hv1,rfl⟩
 .exact .inl ⟨rfl,_,rfl,z0,z1,Pn hv0 hv1 (q ho).sy⟩
 .exact .inl ⟨rfl,_,rfl,z0,z1,SV hv0 hv1⟩
 .exact .inl ⟨rfl,v,rfl,hv0,hv1,q ho⟩
 .exact .inr (.inl ⟨rfl,rfl,q ho⟩)
 .exact .inr (.inr ⟨rfl,rfl,rfl⟩)
 .refine .inr (.inl ⟨rfl,rfl,?_⟩);have h:=q ho;show mN (v%4294967296)=v;unfold mN at*;split at h<;>split<;>omega
 .exact .inr (.inr ⟨rfl,rfl,rfl⟩)
 .exact .inr (.inl ⟨rfl,rfl,q ho⟩)
 .exact .inr (.inr ⟨rfl,rfl,rfl⟩)
 .exact .inl ⟨rfl,v,rfl,hv0,hv1,q ho⟩
def Po {k:Nat}{n v:Int}(hk:fj k=true)(h0:1<=n)(h1:n<=536870911)(hv0:0<=v)(hv1:v<2^64)(ho:zF k v=true):
  ∃r,fN (bl (fD n (eJ k)++EN k v)) 0 (bl (fD n (eJ k)++EN k v)).size= .ok r/\r.num=n/\r.kind=eJ k/\r.e=(bl (fD n (eJ k)++EN k v)).size/\lC k r.n=v:=by
 rcases zl hk hv0 hv1 ho with⟨e1,u,e2,u0,u1,e3⟩|⟨e1,e2,e3⟩|⟨e1,e2,e3⟩;.rw[e1,e2];exact⟨_,Ru h0 h1 u0 u1,rfl,rfl,rfl,e3⟩
 .rw[e1,e2,Iq];exact⟨_,SU h0 h1 Vc Vc,rfl,rfl,rfl,e3⟩
 .rw[e1,e2];exact⟨_,SS h0 h1 hv0 hv1,rfl,rfl,rfl,e3⟩
theorem lA (S:eD)(f:fo):fV S f=eJ (fB S f):=by
 unfold fV fB eD.wire;cases f.isMap<;>rfl
section
variable {S:eD} {d:MT} {f:fo} {m:PM} {deep:Nat} {n:Int} (h0:1<=n) (h1:n<=536870911) (hf:d9 d.fs n=some f)
include h0 h1 hf
theorem Rw {v:Int}(hM:f.isMap=false)(hs:fy S f=none)(hk:fj (fB S f)=true)(hv0:0<=v)(hv1:v<2^64)(ho:zF (fB S f) v=true):
  rd S (bl (fD n (eJ (fB S f))++EN (fB S f) v)) d m deep= .ok (gX S d f m (v,eS,PM.none)):=by
 have⟨r,hr,r1,r2,r3,r4⟩:=Po hk h0 h1 hv0 hv1 ho;refine CD hr r3 ?_;have hb:fB S f=S.base f.ty:=by unfold fB;simp_all
 have h2:r.kind≠2:=(by rw[r2];rcases zl hk hv0 hv1 ho with⟨e,_⟩|⟨e,_⟩|⟨e,_⟩<;>rw[e]<;>decide);unfold kE;rw[r1,hf];simp only;rw[if_pos (by rw[r2,lA])];unfold qo oo;rw[hs];simp only;unfold og;rw[if_neg h2,<-hb,r4];rfl
theorem MV {s:au}(hs:fy S f=none)(hw:fV S f=2)(hu:gN f.ty lD=true->Te s=true)(hz:s.size<2^64):
  rd S (bl (fD n 2++fF s.data.toList)) d m deep= .ok (gX S d f m (0,s,PM.none)):=by
 have hl:s.data.toList.length=s.size:=by simp
 have hr:=MS h0 h1 (y:=s.data.toList) (by omega);refine CD hr rfl ?_;have hx:(bl (fD n 2++fF s.data.toList)).extract ((fD n 2).length+(vi s.data.toList.length).length) (bl (fD n 2++fF s.data.toList)).size=s:=(by have:=qL (b:=bl (fD n 2++fF s.data.toList)) (x:=fD n 2++vi s.data.toList.length) (y:=s.data.toList) (z:= []) (by rw[iH,fF];simp);rw[aN,CE]at this;rw[fR,aN,fF,aN,<-de];exact this);unfold kE;simp only;rw[hf];simp only;rw[if_pos hw.sy];unfold qo oo;rw[hs];simp only;unfold og;simp only
 rw[if_pos trivial,hx,if_neg (by
  (simp;omega))]
 rfl
theorem Rx {sub:MT}{y:ap}{sm:PM}(hs:fy S f=some sub)(hw:fV S f=2)(hfar:pR S sub (deep+1)=false)(hy:rd S (bl y) sub (eY f m).2.2 (deep+1)= .ok sm)(hz:y.length<2^64):
  rd S (bl (fD n 2++fF y)) d m deep= .ok (gX S d f m ((eY f m).1,(eY f m).2.1,sm)):=by
 have hr:=MS h0 h1 (y:=y) hz;refine CD hr rfl ?_
 have hx:=SR (s:=bl (fD n 2++vi y.length)) hy (F:=(bl (fD n 2++fF y)).size) (by
  rw[fR,fR,aN,fF,aN];have:=(nW 9 (n*8+2)).2;have e:(fD n 2).length=(uK 9 (n*8+2)).length:=rfl
  omega)
 have eL:(bl (fD n 2++fF y)).size=(fD n 2).length+(vi y.length).length+y.length:=by rw[fR,aN,fF,aN];omega
 have eB:bl (fD n 2++vi y.length)++bl y=bl (fD n 2++fF y):=by rw[<-pB,bj];rfl
 have eA:(bl (fD n 2++vi y.length)).size=(fD n 2).length+(vi y.length).length:=by rw[fR,aN]
 rw[eB,eA,eL,fR]at hx;unfold kE;simp only;rw[hf];simp only;rw[if_pos hw.sy];unfold qo oo zK;rw[hs];simp only;rw[if_neg (by(simp;omega)),eL];rw[hx];rfl
omit h0 h1 hf in
theorem Be {k:Nat}{b:au}(hk:fj k=true):∀(l acc:List PV) (x:ap) (F:Nat),b.data.toList=x++l.flatMap (fun v=>EN k v.1)->(∀v∈l,v.2=(eS,PM.none)/\0<=v.1/\v.1<2^64/\zF k v.1=true)->b.size-x.length<=F->fW b k b.size F acc x.length= .ok (acc++l)
 | [],acc,x,F,hb,_,_=>by
  have hz:b.data.toList.length=b.size:=by simp
  rw[hb]at hz;simp at hz
  cases F with
  |zero=>simp[fW]
  |succ F=>rw[fW,if_neg (by omega)];simp
 |v::l,acc,x,F,hb,hv,hF=>by
  have hz:b.data.toList.length=b.size:=by simp
  rw[bt]at hb;rw[hb,aN,aN]at hz;have⟨e0,v0,v1,vo⟩:=hv v aZ;have e0:v=(v.1,eS,PM.none):=cW rfl e0;have ih:=fun(y:ap) (F:Nat) (hy:y=EN k v.1) (q:b.size-(x++y).length<=F)=>Be hk l (acc++ [v]) (x++y) F (by rw[hb,hy,bj]) (fun u hu=>hv u (aY _ hu)) q
  rw[List.append_cons];rcases zl hk v0 v1 vo with⟨e1,u,e2,u0,u1,e3⟩|⟨e1,e2,e3⟩|⟨e1,e2,e3⟩
  .rw[e2]at hb hz;have hp:=(nW 9 u).2;have ep:(vi u).length=(uK 9 u).length:=rfl
   cases F with
   |zero=>omega
   |succ F=>
    rw[fW,if_pos (by omega),if_pos e1,xh hb u0 u1 (by omega)];grind
  .rw[e2]at hb hz;have ep:=iG 4 v.1;have hx:=qL hb;rw[ep]at hx
   cases F with
   |zero=>omega
   |succ F=>
    rw[fW,if_pos (by omega),if_neg (by omega)];simp only;rw[if_pos e1,if_pos (by omega),hx,Iq,xi (by omega) (by omega),e3,<-e0];have:=ih _ F e2.sy (by(simp;omega))
    rwa [aN,ep]at this
  .rw[e2]at hb hz;have ep:=iG 8 v.1;have hx:=qL hb;rw[ep]at hx
   cases F with
   |zero=>omega
   |succ F=>
    rw[fW,if_pos (by omega),if_neg (by omega)];simp only;rw[if_neg (show¬eJ k=5 by omega),if_pos (by omega),hx,xi v0 v1,e3,<-e0];have:=ih _ F e2.sy (by(simp;omega))
    rwa [aN,ep]at this
theorem Pp {l:List PV}(hM:f.isMap=false)(hR:f.isRep=true)(hk:fj (fB S f)=true)(hn:f.num=n)(hv:∀v∈l,v.2=(eS,PM.none)/\0<=v.1/\v.1<2^64/\zF (fB S f) v.1=true)(hz:(l.flatMap fun v=>EN (fB S f) v.1).length<2^64):
  rd S (bl (fD n 2++fF (l.flatMap fun v=>EN (fB S f) v.1))) d m deep= .ok (m.put n (m.get n++l)):=by
 have hr:=MS h0 h1 hz;refine CD hr rfl ?_;have hb:fB S f=S.base f.ty:=by unfold fB;simp_all
 have hw:eJ (fB S f)≠2:=by
  unfold fj at hk;simp only[cM,decide_eq_true_eq]at hk;have:fB S f=0\/fB S f=1\/fB S f=2\/fB S f=3\/fB S f=4\/fB S f=5\/fB S f=6\/fB S f=7\/fB S f=8\/fB S f=9\/fB S f=10\/fB S f=11\/fB S f=12\/fB S f=15:=by omega
  rcases this with h|h|h|h|h|h|h|h|h|h|h|h|h|h<;>rw[h]<;>decide
 unfold kE;simp only;rw[hf];simp only;rw[if_neg (by rw[lA];omega),if_pos ⟨trivial,hR⟩];unfold mI;rw[<-hb,hn];have:=Be (b:=bl (fD n 2++fF (l.flatMap fun v=>EN (fB S f) v.1))) hk l (m.get n) (fD n 2++vi (l.flatMap fun v=>EN (fB S f) v.1).length) _ (by rw[iH,fF,bj]) hv (aE _);rw[aN]at this;rw[this]
end
section
variable (S:eD) {f:fo} {R:MT->PM->Bool} {B:MT->PM->ap} {v:PV}
def Pq (S:eD)(f:fo):Prop:=fB S f=16<->(fy S f).isSome=true
theorem JI (t:au):S.base t<=16:=by
 unfold eD.base;split
 .rename_i k hk;have⟨i,h1,h2⟩:=Fz _ _ _ _ hk;have:=(bn.1 h2).1;have e:mZ.length=15:=by decide
  omega
 grind
theorem tS (f:fo):fB S f<=16:=by
 unfold fB;split;.omega
 .exact JI S _
theorem Ir (h:f.isRep=true):f.isMap=false:=by
 unfold fo.isRep at h;unfold fo.isMap;rw[gO]at h;unfold gN;rw[h];decide+kernel
theorem zp {S:eD}(h:f.isMap=true):fB S f=16:=by
 unfold fB;simp_all
section
variable {S:eD} {d:MT} {f:fo} {deep:Nat} {n:Int} {a:List PF} {u:au}
theorem Pr {g:PV->ap}(l:List PV)(step:∀done v rest,l=done++v::rest->rd S (bl (g v)) d (.mk (CK a n done) u) deep= .ok (.mk (CK a n (done++ [v])) u)):
  rd S (bl (l.flatMap g)) d (.mk a u) deep= .ok (.mk (CK a n l) u):=by
 have:∀rest done,l=done++rest->rd S (bl (rest.flatMap g)) d (.mk (CK a n done) u) deep= .ok (.mk (CK a n l) u):=fun rest=>by
  induction rest with
  |nil=>
   intro done h;rw[bW]at h;subst h
   rfl
  |cons v rest ih=>
   intro done h;rw[bt,pB];exact Gs (step done v rest h) (ih (done++ [v]) (by(simp;omega)))
 exact this l [] rfl
variable (h0:1<=n) (h1:n<=536870911) (hf:d9 d.fs n=some f) (hS:Pq S f)
include h0 h1 hf hS
theorem Ry {m:PM}(hp:iL S f=false)(Vt:eY f m=PV.none)(hv:eC S R f v=true)
  (hv0:0<=v.1) (hv1:v.1<2^64) (hvs:v.2.1.size<2^64)
  (ih:∀t,fy S f=some t->R t v.2.2=true->rd S (bl (B t v.2.2)) t PM.none (deep+1)= .ok v.2.2/\pR S t (deep+1)=false/\(B t v.2.2).length<2^64):
  rd S (bl (fD n (oU S f)++gm S B f v)) d m deep= .ok (gX S d f m v):=by
 have Vv:oU S f=eJ (fB S f):=by unfold oU;simp_all
 rw[Vv];unfold eC at hv;unfold gm;by_cases Vq:fB S f=16
 .rw[if_pos Vq]at*;have⟨t,ht⟩:=cn.1 (hS.1 Vq);rw[ht]at hv⊢;simp only[aQ,decide_eq_true_eq]at hv;obtain⟨⟨z1,z2⟩,z3⟩:=hv;have⟨i1,i2,i3⟩:=ih t ht z3;have hw:fV S f=2:=by rw[lA,Vq];rfl
  have:=Rx (m:=m) h0 h1 hf ht hw i2 (by rw[Vt];exact i1) i3;rw[Vt]at this;rw[Vq];have e:v=(PV.none.1,PV.none.2.1,v.2.2):=cW z1 (cW (ve z2) rfl);exact this.J (by rw[<-e])
 .have Vw:fy S f=none:=by
   cases hs:fy S f with
   |none=>rfl
   |some t=>exact absurd (hS.2 (by simp_all)) Vq
  have hM:f.isMap=false:=by
   cases hm:f.isMap with
   |false=>rfl
   |true=>exact absurd (zp hm) Vq
  have hb:fB S f=S.base f.ty:=by unfold fB;simp_all
  rw[if_neg Vq]at*;by_cases h13:fB S f=13
  .rw[if_pos h13]at hv;rw[if_pos (.inl h13)];simp only[aQ,decide_eq_true_eq]at hv;obtain⟨⟨z1,z2⟩,z3⟩:=hv;have hw:fV S f=2:=by rw[lA,h13];rfl
   have:=MV (m:=m) (deep:=deep) h0 h1 hf Vw hw (s:=v.2.1) (fun _=>by rw[ur];exact z3) hvs;rw[h13];have e:v=(0,v.2.1,PM.none):=cW z1 (cW rfl (tR z2));exact this.J (by rw[<-e])
  .rw[if_neg h13]at hv;by_cases h14:fB S f=14
   .rw[if_pos h14]at hv;rw[if_pos (.inr h14)];simp only[aQ,decide_eq_true_eq]at hv;obtain⟨z1,z2⟩:=hv;have hw:fV S f=2:=by rw[lA,h14];rfl
    have:=MV (m:=m) (deep:=deep) h0 h1 hf Vw hw (s:=v.2.1) (fun q=>by
     have:=mh (S:=S).2 q
     omega) hvs
    rw[h14];have e:v=(0,v.2.1,PM.none):=cW z1 (cW rfl (tR z2));exact this.J (by rw[<-e])
   .rw[if_neg h14]at hv;rw[if_neg (by omega)];simp only[aQ]at hv;obtain⟨⟨z1,z2⟩,z3⟩:=hv
    have hk:fj (fB S f)=true:=by
     have:=tS S f;unfold fj
     (simp;omega)
    have:=Rw (m:=m) (deep:=deep) h0 h1 hf hM Vw hk hv0 hv1 z3;have e:v=(v.1,eS,PM.none):=cW rfl (cW (ve z1) (tR z2));exact this.J (by rw[<-e])
omit h0 h1 hf hS in
theorem MW (hk:fj (fB S f)=true):gm S B f v=EN (fB S f) v.1:=by
 unfold fj at hk;simp only[cM,decide_eq_true_eq]at hk;unfold gm EN;rw[if_neg (by omega),if_neg (by omega)]
omit h0 h1 hf hS in
theorem rx (hk:fj (fB S f)=true)(hv:eC S R f v=true):v.2=(eS,PM.none)/\zF (fB S f) v.1=true:=by
 unfold fj at hk;simp only[cM,decide_eq_true_eq]at hk;unfold eC at hv;rw[if_neg (by omega),if_neg (by omega),if_neg (by omega)]at hv;simp only[aQ]at hv;exact⟨cW (ve hv.1.1) (tR hv.1.2),hv.2⟩
theorem MX {l:List PV}(hnx:kC (lF d f) n a=true)(hL:fE S R f l=true)
  (hv:∀v∈l,0<=v.1/\v.1<2^64/\v.2.1.size<2^64) (hz:(l.flatMap fun v=>gm S B f v).length<2^64)
  (ih:∀v∈l,∀t,fy S f=some t->R t v.2.2=true->rd S (bl (B t v.2.2)) t PM.none (deep+1)= .ok v.2.2/\pR S t (deep+1)=false/\(B t v.2.2).length<2^64)
  (hE:f.isMap=true->(∀v∈l,gA v.2.2=v.2.2)/\l.Pairwise fun x y=>kN f.key (fQ y) (fQ x)=false/\iC (fQ y) (fQ x)=false):
  rd S (bl (kL S B f l)) d (.mk a u) deep= .ok (.mk (a++ [(n,l)]) u):=by
 have Vp:f.num=n:=(fA hf).1;unfold kC at hnx;simp only[cg,aQ,decide_eq_true_eq,cO,decide_eq_false_iff_not]at hnx;have ha:∀x∈a,x.1<n:=fun x hx=>(hnx x hx).1
 unfold fE at hL;simp only[aQ,cg]at hL;obtain⟨⟨hH,hV⟩,Vu⟩:=hL;have Vy:l≠ []:=(by rintro rfl;unfold nP at hH;simp at hH);have Vz:CK a n l=a++ [(n,l)]:=(by unfold CK;rw[if_neg (by simpa using Vy)]);rw[<-Vz];unfold kL;by_cases hp:iL S f=true
 .rw[if_pos hp];have Vx:=hp;unfold iL at Vx;simp only[aQ]at Vx;obtain⟨hR,hk⟩:=Vx;have hM:=Ir hR;have Vv:oU S f=2:=by unfold oU;simp_all
  have eb:nF S B f l=l.flatMap fun v=>EN (fB S f) v.1:=(by unfold nF;congr 1;funext v;exact MW hk)
  have ez:(l.flatMap fun v=>gm S B f v)=l.flatMap fun v=>EN (fB S f) v.1:=eb
  rw[ez]at hz;rw[Vv,Vp,eb,Pp h0 h1 hf hM hR hk Vp (fun v hm=>⟨(rx hk (hV v hm)).1,(hv v hm).1,(hv v hm).2.1,(rx hk (hV v hm)).2⟩) hz];have e0:a=CK a n []:=rfl;rw[e0,CL ha,CM ha _ _ _ (by simpa using Vy)];rfl
 .have hp:iL S f=false:=by simp_all
  rw[if_neg (by omega)];refine Pr l fun done v rest hl=> ?_
  have hm:v∈l:=by simp_all
  have Vr:(f.isRep||f.isMap)=true\/done= []:=by
   cases hrm:(f.isRep||f.isMap)with
   |true=>simp
   |false=>
    right;unfold nP at hH;rw[hrm,hl]at hH;simp at hH
    cases done with
    |nil=>rfl
    |cons x r=>grind
  have Vt:eY f (.mk (CK a n done) u)=PV.none:=by
   unfold eY;rcases Vr with h|h;.rw[if_pos h]
   .subst h;rw[Vp,CL ha];split<;>rfl
  rw[Vp,Ry h0 h1 hf hS (R:=R) (m:= .mk (CK a n done) u) hp Vt (hV v hm) (hv v hm).1 (hv v hm).2.1 (hv v hm).2.2 (ih v hm)];congr 1;unfold gX;rw[Vp];by_cases hM:f.isMap=true
  .have⟨Vs,hpw⟩:=hE hM;rw[if_pos hM,CL ha,Vs v hm];unfold jV
   rw[show(v.1,v.2.1,v.2.2)=v from rfl,zj (fun x hx=>by
    grind),CM ha _ _ _ (by simp)]
  .rw[if_neg hM];by_cases hR:f.isRep=true;.rw[if_pos hR,CL ha,CM ha _ _ _ (by simp)]
   .rw[if_neg hR];have VA:done= []:=(by simp_all);subst VA;have VB:l= [v]:=(by unfold nP at hH;simp_all)
    have VC:(gN f.how eS&&(fy S f).isNone&&decide (v.1=0)&&gN v.2.1 eS)=false:=by
     cases hq:(gN f.how eS&&(fy S f).isNone&&decide (v.1=0)&&gN v.2.1 eS)with
     |false=>rfl
     |true=>
      exfalso;simp only[aQ,decide_eq_true_eq]at hq;obtain⟨⟨⟨q1,q2⟩,q3⟩,q4⟩:=hq
      have Vq:fB S f≠16:=fun e=>by
       have:=hS.1 e;simp_all
      unfold ku at Vu;rw[if_neg hM,if_pos ⟨q1,Vq⟩,VB]at Vu;simp only[cO,Bool.and_eq_false_iff,decide_eq_false_iff_not]at Vu;rcases Vu with h|h;.omega
      .rw[gO]at q4;unfold ou at h;rw[q4]at h
       revert h;decide+kernel
    rw[VC,if_neg (by decide),zi (fun o ho hc x hx=>by
     have hx:x∈a:=hx;have:=(hnx x hx).2;intro e;refine this ?_;unfold lF
     grind),CM ha _ _ _ (by simp)]
    rfl
end
end
section
variable {s:au} {a k deep:Nat} {kind:Int} {S:eD} {d:MT}
theorem Is {z:Nat}{num:Int}{r:pK}(hk:kind=0\/kind=1\/kind=2\/kind=5)(h:fM s a num kind z= .ok r):r.num=num/\(r.kind:Int)=kind/\r.a=a:=by
 rcases hk with rfl|rfl|rfl|rfl;.have h:=(Fv s a num z).sy.J h;grind
 .have h:=(Fw s a num z).sy.J h;grind
 .have h:=(ux s a num z).sy.J h;grind
 .have h:=(Fy s a num z).sy.J h;grind
theorem EO {x:(Int×Int)×Nat}(h:jW s a= .ok x):x.1.2=0\/x.1.2=1\/x.1.2=2\/x.1.2=5:=by
 unfold jW at h;grind
theorem CN (s:au):s.extract 0 s.size=s:=jz Vd
theorem MY (s:au){e:Nat}(ha:a<=e):s.extract a e++s.extract e s.size=s.extract a s.size:=by
 refine jz ?_;have hl:s.data.toList.length=s.size:=Vd;rw[oX,oY,oY,oY,ch (Nat.le_of_eq hl),List.drop_take];have:s.data.toList.drop a=(s.data.toList.drop a).take (e-a)++(s.data.toList.drop a).drop (e-a):=(ca _ _).sy;rw[List.drop_drop,show a+(e-a)=e by omega]at this;grind
theorem Ps {num:Int}(hk:(k:Int)=kind)(h:oW S d num kind=false):∀f,d9 d.fs num=some f->k≠fV S f/\¬(k=2/\f.isRep=true):=λf hf=>by
 unfold oW at h;rw[hf]at h;simp only[dt,Bool.and_eq_false_iff,beq_eq_false_iff_ne]at h;obtain⟨h1,h2⟩:=h;rw[lA];refine⟨λe=>h1 (by rw[<-hk,e]),λ⟨e1,e2⟩=> ?_⟩;have hp:iL S f=false:=(by simp_all);unfold iL at hp;rw[e2,dd]at hp;unfold fj at hp;simp only[dt,decide_eq_false_iff_not]at hp;have hle:=tS S f;have:fB S f=13\/fB S f=14\/fB S f=16:=Vc;refine h1 ?_;rw[<-hk,e1];rcases this with h|h|h<;>rw[h]<;>rfl
theorem It:∀(G F a:Nat) (m:PM),nQ (oW S d) s G a=true->a<=s.size->s.size-a<F->eW S s F d m a s.size deep= .ok (m.O (s.extract a s.size))
 |0,_,_,_,h,_,_=>by cases h
 |_+1,0,_,_,_,_,h=>absurd h Vc
 |G+1,F+1,a,m,h,ha,hF=>by
  rw[nQ]at h;by_cases hl:a<s.size
  .rw[dP hl]at h;unfold OM at h;split at h;.cases h
   .rename_i x ht;simp only[aQ,cO]at h;obtain⟨h1,h2⟩:=h;unfold L0 at h2;split at h2;.cases h2
    .rename_i y hy;rw[qX s a x.1.1]at hy;split at hy;.cases hy
     .rename_i r hr;cases hy;have Vp:fN s a s.size= .ok r:=(by rw[<-wG (aE _),CN,qW,ht];exact hr);have⟨r1,r2,r3⟩:=Is (EO ht) hr;have⟨q1,q2,q3,q4,q5,_⟩:=je Vp;rw[pu hl Vp (by rw[r1];exact Ps r2 h1),It G F r.e _ h2 q5 Vc];obtain⟨fs,u⟩:=m;show Except.ok (PM.mk fs (u++s.extract r.a r.e++s.extract r.e s.size))=Except.ok (PM.mk fs (u++s.extract a s.size));rw[r3,ByteArray.append_assoc,MY s Vc]
  .rw[iP hl];obtain⟨fs,u⟩:=m;show _=Except.ok (PM.mk fs (u++s.extract a s.size))
   have:s.extract a s.size=eS:=jz (by
    rw[oY,List.drop_eq_nil_of_le Ve]
    rfl)
   rw[this];have:u++eS=u:=jz (by rw[oX];exact bW _);rw[this]
theorem Rz {m:PM}(h:pT (oW S d) s=true):rd S s d m deep= .ok (m.O s):=by
 have:=It (deep:=deep) (s.size+1) (s.size+1) 0 m h (aP _) Vc
 rwa [CN]at this
def mT (f:fo):fo:=⟨oe,f.key,eS,lK,1⟩
def pF (f:fo):fo:=⟨p9,f.ty,eS,lK,2⟩
theorem lU:(lK.toList==xA.toList)=false/\(lK.toList==Dt.toList)=false/\(lK.toList==eS.toList)=false:=Vg
theorem Bf {f:fo}{e:PM}(h:dZ S (k+1) (eP f) e=true)(hl:(e.fs.length==2)=true)(hu:ou e.unk=true):
  ∃x y,e= .mk [(1,[x]),(2,[y])] eS/\eC S (dZ S k) (mT f) x=true/\eC S (dZ S k) (pF f) y=true:=by
 obtain⟨fs,u⟩:=e;have hu:u=eS:=ve hu;subst hu;have hl:(fs.length==2)=true:=hl;have hl:fs.length=2:=by simp_all
 obtain⟨p,q,rfl⟩:∃p q,fs= [p,q]:=by
  match fs,hl with
  | [p,q],_=>simp
 obtain⟨n1,l1⟩:=p;obtain⟨n2,l2⟩:=q;rw[dZ]at h;simp only[aQ]at h;have h:=h.1;have hx:gU S (dZ S k) (eP f) [] [(n1,l1),(n2,l2)]=true:=h;rw[gU,gU,gU]at hx;simp only[dz,aQ,aX]at hx;obtain⟨h1,h2⟩:=hx
 have fnd:∀n g,d9 (eP f).fs n=some g->(n=1/\g=mT f)\/(n=2/\g=pF f):=λn g hg=>by
  simp only[eP,d9]at hg;split at hg;.cases hg;exact .inl ⟨Vc,rfl⟩
  .split at hg;.cases hg;exact .inr ⟨Vc,rfl⟩
   .cases hg
 have one:∀g l,g=mT f\/g=pF f->fE S (dZ S k) g l=true->∃x,l= [x]/\eC S (dZ S k) g x=true:=λg l hg hL=>by
  have Vq:g.isRep=false/\g.isMap=false:=(by rcases hg with rfl|rfl<;>exact⟨lU.2.1,lU.1⟩);unfold fE nP at hL;rw[Vq.1,Vq.2]at hL;simp only[da,cT,aQ,beq_iff_eq,cg]at hL;obtain⟨⟨q1,q2⟩,_⟩:=hL
  match l,q1 with
  | [x],_=>simp_all
 cases hf1:d9 (eP f).fs n1 with
 |none=>simp_all
 |some g1=>
  rw[hf1]at h1
  cases hf2:d9 (eP f).fs n2 with
  |none=>simp_all
  |some g2=>
   rw[hf2]at h2;simp only[aQ]at h1 h2;have hlt:n1<n2:=(by have:=h2.1;unfold kC at this;simp_all);grind
theorem EP (x y:PV):gA (.mk [(1,[x]),(2,[y])] eS)= .mk [(1,[x]),(2,[y])] eS:=by
 rfl
end
def pA (c:UInt8):Bool:=xk c.toNat
def pD (c:UInt8):Bool:=mt c.toNat
def mr:Nat->ap->List (ap)
 |0,_=> []
 |_,[]=> []
 |n+1,c::r=>
  if Dl c.toNat then mr n r
  else if vM c.toNat then(c::r.takeWhile pA)::mr n (r.dropWhile pA)
  else if mt c.toNat&&(c.toNat:Int) !=48 then(c::r.takeWhile pD)::mr n (r.dropWhile pD)
  else [c]::mr n r
def Bg (p:Int->Bool)(t:au):∀n k,t.size-k<=n->k<=t.size->jb p t n k=k+((t.data.toList.drop k).takeWhile λc=>p c.toNat).length
 |0,k,h,hk=>by
  have:t.data.toList.length=t.size:=Vd;rw[jb,cu Vc]
  rfl
 |n+1,k,h,hk=>by
  have hl:t.data.toList.length=t.size:=Vd;by_cases hs:k<t.size
  .have hb:fZ t k=((t.data.toList[k]'Vc).toNat:Int):=(by rw[mq,aO Vc];rfl);rw[jb,be Vc,List.takeWhile_cons,hb]
   cases hp:p ((t.data.toList[k]'Vc).toNat:Int)with
   |true=>
    rw[dP (by grind),Bg p t n (k+1) Vc hs]
    (simp;omega)
   |false=>simp
  .rw[j8 (.inl hs),cu Vc];rfl
def GH (t:au):∀n m a,t.size-a<=n->t.size-a<=m->a<=t.size->(kY t n a).map (λx=>x.1.data.toList)=mr m (t.data.toList.drop a)
 |0,m,a,h,_,ha=>by
  have hl:t.data.toList.length=t.size:=Vd;rw[cu Vc]
  cases m<;>rfl
 |n+1,m,a,h,hm,ha=>by
  have hl:t.data.toList.length=t.size:=Vd;by_cases hs:a<t.size
  .obtain⟨m,rfl⟩:∃k,m=k+1:=⟨m-1,Vc⟩;have hb:fZ t a=((t.data.toList[a]'Vc).toNat:Int):=(by rw[mq,aO Vc];rfl);have hd:=be (l:=t.data.toList) (i:=a) Vc
   have hx:∀j,(t.extract a j).data.toList=((t.data.toList.drop a).take (j-a)):=λj=>by
    rw[oY,List.drop_take]
   have hw:=o8 t a hs;rw[kY,dP hs,hd,mr,hb];generalize hc:(t.data.toList[a]'Vc)=c at*;split;.exact GH t n m (a+1) Vc Vc hs
   .rw[bK,GH t n m (il t a) Vc Vc hw.2];simp only;rw[hx]
    have key:∀p:Int->Bool,il t a=jb p t t.size (a+1)->(t.data.toList.drop a).take (il t a-a)=c::(t.data.toList.drop (a+1)).takeWhile (λc=>p c.toNat)/\t.data.toList.drop (il t a)=(t.data.toList.drop (a+1)).dropWhile (λc=>p c.toNat):=λp e=>by
     have h2:(t.data.toList.drop (a+1)).takeWhile (λc=>p c.toNat)++(t.data.toList.drop (a+1)).dropWhile (λc=>p c.toNat)=t.data.toList.drop (a+1):=List.takeWhile_append_dropWhile;rw[e,Bg p t _ _ Vc hs,hd,show a+1+((t.data.toList.drop (a+1)).takeWhile λc=>p c.toNat).length-a=((t.data.toList.drop (a+1)).takeWhile λc=>p c.toNat).length+1 by omega,cX,show∀k,t.data.toList.drop (a+1+k)=(t.data.toList.drop (a+1)).drop k from λk=>by rw[List.drop_drop]];grind
    unfold il at key⊢;rw[hb]at key⊢;split;.rename_i hL;have⟨k1,k2⟩:=key xk (by rw[dP hL]);rw[dP hL]at k1 k2;rw[k1,k2];rfl
    .rename_i hL;split;.rename_i hD;have⟨k1,k2⟩:=key mt (by rw[dO hL,dP hD]);rw[dO hL,dP hD]at k1 k2;rw[k1,k2];rfl
     .rw[hd,show a+1-a=1 by omega];rfl
  .rw[xl hs,cu Vc];cases m<;>rfl
def lQ:∀n m (l:ap),l.length<=n->l.length<=m->mr n l=mr m l
 |n,m,[],_,_=>by cases n<;>cases m<;>rfl
 |0,_,_::_,h,_=>by grind
 |_,0,_::_,_,h=>by grind
 |n+1,m+1,c::r,h,h'=>by
  have hd:∀p,(r.dropWhile p).length<=r.length:=λp=>(List.dropWhile_sublist p).length_le
  have h1:=hd pA;have h2:=hd pD;simp only[bw]at h h';rw[mr,mr,lQ n m r Vc Vc,lQ n m _ Vc Vc,lQ n m _ Vc Vc]
def Bd (s:ap):Prop:=∀c,s.getLast?=some c->pA c=false
def Bd.tail {c:UInt8}{r:ap}(h:Bd (c::r)):Bd r:=λx hx=>h x (by
 grind)
def S0 {c:UInt8}(h:pA c=false):pD c=false:=by
 unfold pA xk at h;unfold pD;simp_all
def EU {p:UInt8->Bool}:∀{s r:ap},s≠ []->(∀c,s.getLast?=some c->p c=false)->(s++r).takeWhile p=s.takeWhile p/\(s++r).dropWhile p=s.dropWhile p++r/\∀c,(s.dropWhile p).getLast?=some c->s.getLast?=some c
 | [],_,h,_=>absurd rfl h
 |c::s,r,_,h=>by
  rw[bo,List.takeWhile_cons,List.takeWhile_cons,List.dropWhile_cons,List.dropWhile_cons]
  cases hp:p c with
  |false=>simp
  |true=>
   cases s with
   |nil=>simp_all
   |cons d s=>
    have⟨h1,h2,h3⟩:=EU (p:=p) (s:=d::s) (r:=r) Vd (λx hx=>h x (by simpa using hx));simp_all
def zv:∀n (s r:ap),s.length+r.length<=n->Bd s->mr n (s++r)=mr n s++mr n r
 |n,[],r,_,_=>by cases n<;>rfl
 |0,_::_,_,h,_=>Vi
 |n+1,c::s,r,h,hb=>by
  simp only[bw]at h;have hf:∀l:ap,l.length<=n->mr (n+1) l=mr n l:=λl hl=>lQ _ _ l Vc hl
  have Vq:∀p,(s.dropWhile p).length<=s.length:=λp=>(List.dropWhile_sublist p).length_le
  rw[hf r Vc,bo,mr,mr];have ih:=zv n s r Vc hb.tail
  have go:∀p:UInt8->Bool,p c=true->(∀c,pA c=false->p c=false)->(s++r).takeWhile p=s.takeWhile p/\mr n ((s++r).dropWhile p)=mr n (s.dropWhile p)++mr n r:=λp hp Vp=>by
   have hs:s≠ []:=λe=>by subst e;have:=Vp _ (hb c rfl);simp_all
   have⟨h1,h2,h3⟩:=EU (p:=p) (r:=r) hs (λx hx=>Vp x (hb.tail x hx));have:=Vq p;exact⟨h1,by rw[h2];exact zv n _ r Vc (λx hx=>hb.tail x (h3 x hx))⟩
  split;.exact ih
  .split;.rename_i hL;have⟨h1,h2⟩:=go pA (by unfold pA xk;simp_all) (λ_ h=>h);simp_all
   .split;.rename_i hD;have⟨h1,h2⟩:=go pD (by unfold pD;simp_all) (λ_ h=>S0 h);simp_all
    (simp;omega)
end Go.Proofs.YtfebdimolnobaaaGreatDoor
