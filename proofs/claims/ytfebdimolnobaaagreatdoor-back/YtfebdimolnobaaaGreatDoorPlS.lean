import Derived.Test.YtfebdimolnobaaaGreatDoorOrB
set_option maxRecDepth 100000
set_option maxHeartbeats 8000000
set_option linter.all false
namespace Go.Proofs.YtfebdimolnobaaaGreatDoor
open Go.RowKit Go.Proofs.Tryz
section
open Vo
def jd.form {w:aw}{Q:ax}{mp pm:an}{g:GF}{iv:Value}(h:jd w Q mp pm g iv):∃q,iv= .pointer q:=by
 unfold jd at h;split at h;.obtain⟨p,rfl,_⟩:=h;exact⟨_,rfl⟩
 .split at h;.obtain⟨p,rfl,_⟩:=h;exact⟨_,rfl⟩
  .exact⟨_,h⟩
def yH:Prop:=∀(w:aw) (Q P:ax) (mp:an) (g:GF) (fb:Nat),(∀b,w.heap.size<=b->Q b)->eZ w P mp g fb->g.form≠4->jB mp g.f.ty<=15->U8 379 #[ah fb] w (jM w λw' v=>O3 w' Q mp g v)
def Cp:Prop:=∀(w:aw) (Q P:ax) (mp:an) (g:GF) (fb p:Nat),(∀b,w.heap.size<=b->Q b)->eZ w P mp g fb->g.form=4->U8 377 #[ah fb,ah p] w (jM w λw' v=>P8 w' Q mp (λx=>x=p) g v)
section
variable (w:aw) (Q P:ax) (mp pm:an) (g:GF) (fb:Nat)
def uT (p:Nat)(hQ:∀b,w.heap.size<=b->Q b)(h:eZ w P mp g fb)(hp:pm g.f.ty=some p):Calls prog 378 #[ah fb,ah p] w (jM w λw' v=>Q2 w' Q mp pm g v):=by
 have VA:= @wo;have⟨pv,rv,h1,_,Vp,Vr⟩:=h.blk;obtain⟨pq,rfl⟩:=gK Vr;obtain⟨ra,rn,rc,rfl⟩:=d5 Vp.1;have hL:∀W,(∀b,b<w.heap.size->W.heap[b]?=w.heap[b]?)->U8 186 #[ah fb] W λe w'=>e= .returned (aa (lw mp g))/\w'=W:=λW hW=>sX W P mp g fb (h.O (λb _ hl=>hW b hl))
 have l1:∀o1,∀b,b<w.heap.size->(w.alloc o1).drew.heap[b]?=w.heap[b]?:=λo1 b hb=>Below.l w o1 b hb
 have l2:∀o1 o2,∀b,b<w.heap.size->((w.alloc o1).alloc o2).drew.heap[b]?=w.heap[b]?:=λo1 o2 b hb=>(Below.a2 w o1 o2).block b hb
 have l3:∀o1 o2 o3,∀b,b<w.heap.size->(((w.alloc o1).alloc o2).alloc o3).drew.heap[b]?=w.heap[b]?:=λo1 o2 o3 b hb=>(Below.a3 w o1 o2 o3).block b hb
 have⟨k0,k1,k2,k3,k4⟩:=h1.deep;clear Vr Vp h
 have Vs:(g.form==2)=true/\jL g.form=190\/(g.form==2)=false/\jL g.form=191:=by
  unfold jL;by_cases h2:g.form=2;.exact .inl ⟨by simp[h2],by rw[dP h2]⟩
  .exact .inr ⟨by simp[h2],by rw[dO h2]⟩
 obtain⟨Vy,Vt⟩:=Y9 (lw mp g);rw[Vt]at hL;rcases Vs with⟨f2,hf⟩|⟨f2,hf⟩
 all_goals
  go_in
  go_upto_region 1 with fail
  go_region_held3 (λW=>W.cell? (aj fb 0)=some (aa g.f.num))
   (first|exact k3 _ _ _ 0|exact k2 _ _ 0|exact k1 _ 0)
   (first|(go_at_call 186;refine(hL _ (l1 _)).V ?_;rintro e w2 ⟨rfl,rfl⟩)|(go_at_call 186;refine(hL _ (l2 _ _)).V ?_;rintro e w2 ⟨rfl,rfl⟩)|(go_at_call 186;refine(hL _ (l3 _ _ _)).V ?_;rintro e w2 ⟨rfl,rfl⟩))
  all_goals
   go_wp2;go_ret;refine⟨_,rfl,⟨_,_,_,_,p,rfl,?_,?_,?_,?_,hp,hQ _ Vc,hQ _ Vc,hQ _ Vc,hQ _ Vc⟩,(Below.a4 w _ _ _ _).drew⟩;all_goals simp[Ji,Me,Dh,hf,Vt]<;>omega
def mo.fn {w:aw}{Q:ax}{mp pm:an}{g:GF}{v:Value}(h:mo w Q mp pm g v):Jh v:=by
 unfold mo at h;split at h;.obtain⟨_,_,_,_,_,rfl,_⟩:=h;exact⟨_,_,rfl⟩
 .unfold Dj at h;split at h;.obtain⟨_,_,_,_,_,rfl,_⟩:=h;exact⟨_,_,rfl⟩
  .split at h;.obtain⟨_,_,_,_,rfl,_⟩:=h;exact⟨_,_,rfl⟩
   .obtain⟨_,_,_,_,rfl,_⟩:=h;exact⟨_,_,rfl⟩
def yI (iv:Value)(HP:yH)(HE:Cp)(hQ:∀b,w.heap.size<=b->Q b)(h:eZ w P mp g fb)(hi:jd w Q mp pm g iv):Calls prog 295 #[ah fb,iv] w (jM w λw' v=>mo w' Q mp pm g v):=by
 have⟨pv,rv,h1,_,Vp,Vr⟩:=h.blk;obtain⟨pq,rfl⟩:=gK Vr;obtain⟨ra,rn,rc,rfl⟩:=d5 Vp.1;have Vu:=mQ w P mp g fb h;have Vw:∀w1:aw,ak w w1->∀b,w1.heap.size<=b->Q b:=λw1 h1 b hb=>hQ b (by have:=h1.size;omega)
 have Vx:∀w1:aw,ak w w1->eZ w1 P mp g fb:=λw1 hb=>h.O (λb _ hl=>hb.block b hl)
 clear Vr Vp;unfold jd at hi;by_cases h4:g.form=4
 .rw[dP h4]at hi;obtain⟨p,rfl,Vs⟩:=hi;have f4:(g.form==4)=true:=by simp[h4]
  have hC:=HE w Q P mp g fb p hQ h h4;have⟨k1,k2⟩:=h1.I;go_in
  go_wp2_with fail;refine hC.V ?_;rintro e w2 ⟨v,rfl,hv,b2⟩
  have hr:mo w2 Q mp pm g v:=by
   unfold mo;rw[dP h4]
   exact hv.mV (.O λ_ _ _=>rfl) λx hx=>by
    subst hx;exact Vs.mV (.O λb _ l=>b2.block b l) (λ_ _ _ q=>q.mV (.O λb _ l=>b2.block b l) (λ_ _ q=>q)) λ_ _ _ q=>q
  obtain⟨vf,Vq,rfl⟩:=hr.fn;go_wp2;go_ret;exact⟨_,rfl,hr,b2⟩
 .rw[dO h4]at hi;have f4:(g.form==4)=false:=by simp[h4]
  have VB:eI mp g=jB mp g.f.ty:=by unfold eI;rw[dO h4]
  rw[VB]at h1;have Vv:∀w' v,Dj w' Q mp pm g v->mo w' Q mp pm g v:=λw' v q=>by unfold mo;rw[dO h4];exact q
  have⟨k1,k2⟩:=h1.I;by_cases h16:jB mp g.f.ty=16
  .rw[dP h16]at hi;obtain⟨p,rfl,Vs⟩:=hi;have VC:((jB mp g.f.ty:Int)==16)=true:=by simp[h16]
   have hC:=uT w Q P mp pm g fb p hQ h Vs;go_in
   go_wp2_with fail;refine hC.V ?_;rintro e w2 ⟨v,rfl,hv,b2⟩;have hr:mo w2 Q mp pm g v:=Vv _ _ (by unfold Dj;rw[dP h16];exact hv);obtain⟨vf,Vq,rfl⟩:=hr.fn;go_wp2;go_ret;exact⟨_,rfl,hr,b2⟩
  .rw[dO h16]at hi;subst hi;have VC:((jB mp g.f.ty:Int)==16)=false:=Ve;have hle:=uo mp g.f.ty
   cases hpk:io mp g with
   |true=>
    rw[hpk]at Vu;go_in
    go_wp2_with fail;refine Vu.V ?_;rintro e w1 ⟨rfl,b1⟩;go_wp2_with fail;refine(HP w1 Q P mp g fb (Vw w1 b1) (Vx w1 b1) h4 Vc).V ?_;rintro e w2 ⟨v,rfl,hv,b2⟩;have hr:mo w2 Q mp pm g v:=Vv _ _ (by unfold Dj;rw[dO h16,dP hpk];exact hv);obtain⟨vf,Vq,rfl⟩:=hr.fn;go_wp2;go_ret
    exact⟨_,rfl,hr,dU b1 b2⟩
   |false=>
    rw[hpk]at Vu;go_in
    go_wp2_with fail;refine Vu.V ?_;rintro e w1 ⟨rfl,b1⟩;go_wp2_with fail;refine(yG w1 Q P mp g fb (Vw w1 b1) (Vx w1 b1) h4 Vc).V ?_;rintro e w2 ⟨v,rfl,hv,b2⟩;have hr:mo w2 Q mp pm g v:=Vv _ _ (by unfold Dj;rw[dO h16,dO (by rw[hpk];simp)];exact hv);obtain⟨vf,Vq,rfl⟩:=hr.fn;go_wp2;go_ret;exact⟨_,rfl,hr,dU b1 b2⟩
def zZ (iv:Value)(HP:yH)(HE:Cp)(hQ:∀b,w.heap.size<=b->Q b)(hPQ:∀b,P b->Q b)(h:eZ w P mp g fb)(hi:jd w Q mp pm g iv):Calls prog 213 #[ah fb,iv] w (jM w λw' v=>wW w' Q (mo w' Q mp pm) g v):=by
 have VA:= @wo;have⟨pv,rv,h1,_,Vp,Vr⟩:=h.blk;have hC:=yI w Q P mp pm g fb iv HP HE hQ h hi;obtain⟨iq,rfl⟩:=hi.form;obtain⟨pq,rfl⟩:=gK Vr;obtain⟨ra,rc,rfl⟩:=iz Vp.1;clear Vr hi h;go_in
 go_wp2_with fail;refine hC.V ?_;rintro e w2 ⟨v,rfl,hv,b2⟩;have⟨vf,Vq,Vz⟩:=hv.fn;have h2:=h1.G b2 h1.lt;have⟨k5,k6,k7,k8,k9⟩:=h2.deep;have hw2:=b2.size;by_cases h0:g.riv= []
 .have e0:((g.riv.length:Int)==0)=true:=by simp[h0]
  subst Vz;go_wp2;go_ret;have B3:∀o,ak w2 (w2.alloc o):=λo=>(Below.refl _ _).alloc (aE _) _
  refine⟨_,rfl,(show wW _ Q (mo _ Q mp pm) g _ from ?_),dU b2 (B3 _)⟩;unfold wW;rw[dP h0];exact hv.mV (.O λb _ l=>(B3 _).block b l) (λ_ _ q=>q)
 .have e0:((g.riv.length:Int)==0)=false:=by simpa using h0
  subst Vz;go_wp2;go_ret;refine⟨_,rfl,(show wW _ Q (mo _ Q mp pm) g _ from ?_),dU b2 (Below.a2 w2 _ _)⟩;unfold wW;rw[dO h0];refine⟨_,_,_,_,rfl,dX.newAt Vd _ _,?_,(dX.new w2 _ _).alloc _,hQ _ Vc,hQ _ Vc,?_⟩;.exact eO.mV (λb q l=>⟨hPQ b q,(dU b2 (Below.a2 w2 _ _)).block b l⟩) Vp
  .exact hv.mV (.O λb _ l=>(Below.a2 w2 _ _).block b l) (λ_ _ q=>q)
end
end
section
open Go.Maps
open Vo
def nX:∀{l:List MT} {s:au} {d:MT},lr l s=some d->d.name=s
 | [],_,_,h=>by cases h
 |m::l,s,d,h=>by
  rw[lr]at h;split at h;.rename_i q;cases h;exact jH (gO.1 q)
  .exact nX h
def ec.freshP {bs:aB}{a b:aw}(h:ec bs a b){c:Nat}(hc:a.heap.size<=c)(off:Nat)(u:Value):ec bs a (b.setCell (aj c off) u):=
 ⟨h.os,h.tape,h.output,by simpa using h.size,λi hi hn=>by rw[er Vc];exact h.block i hi hn⟩
def Qk (kp mk:Nat)(U:aB)(X:ax)(b:Nat):Prop:=b≠mk/\b≠kp/\b∉U/\X b
def ow (S:eD)(pm:an):Nat:=(S.ms.filter λd=>(pm d.name).isNone).length
def pz {α:Type}{p q:α->Bool}(h:∀x,p x=true->q x=true):∀l:List α,(l.filter p).length<=(l.filter q).length
 | []=>aE _
 |x::l=>by
  have ih:=pz h l;grind
def tH {α:Type}{p q:α->Bool}(h:∀x,p x=true->q x=true){y:α}(hy1:p y=false)(hy2:q y=true):∀l:List α,y∈l->(l.filter p).length<(l.filter q).length
 |x::l,hm=>by
  rw[cl,cl];rcases aS.1 hm with rfl|hm;.rw[hy1,hy2];have:=pz h l;grind
  .have ih:=tH h hy1 hy2 l hm;grind
def Jj {S:eD}{pm Vp:an}(h:∀t p,pm t=some p->Vp t=some p):ow S Vp<=ow S pm:=by
 refine pz (λd hd=> ?_) S.ms
 cases hq:pm d.name with
 |none=>rfl
 |some p=>grind
def AW {S:eD}{pm Vp:an}(h:∀t p,pm t=some p->Vp t=some p){d:MT}(hd:d∈S.ms)(h0:pm d.name=none){p:Nat}(h1:Vp d.name=some p):ow S Vp<ow S pm:=by
 refine tH (λd hd=> ?_) (y:=d) (by grind) (by grind) S.ms hd
 cases hq:pm d.name with
 |none=>rfl
 |some p=>grind
structure vI (kp mk:Nat)(mu:Int)(S:eD)(mp:an)(w:aw)(N:Nat)(pm:an)(U:aB)(X:ax):Prop where
 kb:dX w kp #[.int .i32 mu,.int .u32 0,.map (some mk)] 170
 mb:gq w mk N pm
 ne:mk≠kp
 ct:N+ow S pm<=4000
 inj:∀t t' p,pm t=some p->pm t'=some p->t=t'
 pl:∀t p,pm t=some p->(p∈U/\dX w p #[ai] 254/\∃d,S.msg t=some d)\/∃d gs,S.msg t=some d/\lH S mp d gs/\iN w (Qk kp mk U X) mp pm gs p
structure Mf (w:aw)(P:ax)(S:eD)(mp:an):Prop where
 md:∀t d,S.msg t=some d->∃mb gs,zH mp t=some mb/\jh w P mp mb d.name gs/\lH S mp d gs/\d.name.size<=2000
 ty:∀t,jB mp t=16->∃d,S.msg t=some d
def Mf.O {w w':aw}{P:ax}{S:eD}{mp:an}(h:Mf w P S mp)(hk:∀b,P b->b<w.heap.size->w'.heap[b]?=w.heap[b]?):Mf w' P S mp:=
 ⟨λt d q=>by
  have⟨mb,gs,h1,h2,h3,h4⟩:=h.md t d q
  exact⟨mb,gs,h1,h2.O hk,h3,h4⟩,h.ty⟩
structure Cq (kp mk W0:Nat)(mu:Int)(S:eD)(mp:an)(P:ax)(w:aw)(N:Nat)(pm:an)(U:aB)(X:ax):Prop where
 ok:vI kp mk mu S mp w N pm U X
 md:Mf w P S mp
 w0:W0<=w.heap.size
 uu:∀u∈U,W0<=u/\u<w.heap.size
 xx:∀b,P b->X b
 xn:∀b,w.heap.size<=b->X b
 hp:∀b,P b->b<W0/\b≠mk/\b≠kp
 kl:kp<W0
 ml:mk<W0
def Q4 (kp mk:Nat)(mu:Int)(S:eD)(mp:an)(w:aw)(pm:an)(U:aB)(X:ax)(A:aw->(an)->Value->Prop)(e:Ending)(w':aw):Prop:=
 ∃v N' Vp,e= .returned v/\A w' Vp v/\vI kp mk mu S mp w' N' Vp U X/\(∀t p,pm t=some p->Vp t=some p)/\ec [mk] w w'
section
variable {kp mk W0:Nat} {mu:Int} {S:eD} {mp:an} {P:ax} {w w':aw} {N N':Nat} {pm Vp:an} {U:aB} {X:ax}
def Cq.pq (h:Cq kp mk W0 mu S mp P w N pm U X){b:Nat}(hb:P b):Qk kp mk U X b:=by
 have⟨h1,h2,h3⟩:=h.hp b hb;exact⟨h2,h3,λq=>by have:=(h.uu b q).1;omega,h.xx b hb⟩
def Cq.nq (h:Cq kp mk W0 mu S mp P w N pm U X){b:Nat}(hb:w.heap.size<=b):Qk kp mk U X b:=by
 have:=h.w0;have:=h.kl;have:=h.ml;exact⟨Vc,Vc,λq=>by have:=(h.uu b q).2;omega,h.xn b hb⟩
def Cq.on (h:Cq kp mk W0 mu S mp P w N pm U X)(hk:vI kp mk mu S mp w' N' Vp U X)(hw:ec [mk] w w'):Cq kp mk W0 mu S mp P w' N' Vp U X:=
 ⟨hk,h.md.O λb hb hl=>hw.block b hl (by simp;exact(h.hp b hb).2.1),aM h.w0 hw.size,λu hu=>⟨(h.uu u hu).1,aI (h.uu u hu).2 hw.size⟩,h.xx,λb hb=>h.xn b (aM hw.size hb),h.hp,h.kl,h.ml⟩
def vI.O (h:vI kp mk mu S mp w N pm U X)(hk:∀b,b<w.heap.size->w'.heap[b]?=w.heap[b]?):vI kp mk mu S mp w' N pm U X:=
 ⟨(hk _ h.kb.lt).J h.kb,h.mb.O (hk _ h.mb.lt),h.ne,h.ct,h.inj,λt p hp=>by
  rcases h.pl t p hp with⟨h1,h2,h3⟩|⟨d,gs,h1,h2,h3⟩;.exact .inl ⟨h1,(hk _ h2.lt).J h2,h3⟩
  .exact .inr ⟨d,gs,h1,h2,h3.O (λb _ hl=>hk b hl) (λ_ _ q=>q)⟩⟩
def vI.lt (h:vI kp mk mu S mp w N pm U X){t:au}{p:Nat}(hp:pm t=some p):p<w.heap.size:=by
 rcases h.pl t p hp with⟨_,h2,_⟩|⟨d,gs,_,_,v,l,h3,_⟩;.exact h2.lt
 .exact h3.lt
def Cq.O (h:Cq kp mk W0 mu S mp P w N pm U X)(hb:ak w w'):Cq kp mk W0 mu S mp P w' N pm U X:=h.on (h.ok.O λb hl=>hb.block b hl) (.oB hb)
def vI.begin {w2:aw}{d:MT}(h:vI kp mk mu S mp w N pm U X)(hd:S.msg d.name=some d)(h0:pm d.name=none)(hg:((w.alloc (.cells #[ai] 254))).grownBy w2 (some mk))(hm:gq w2 mk (N+1) (jD pm d.name w.heap.size)):
  vI kp mk mu S mp w2 (N+1) (jD pm d.name w.heap.size) (w.heap.size::U) X:=by
 have Vr:∀t p,pm t=some p->jD pm d.name w.heap.size t=some p:=λt p hp=>by
  unfold jD;split;.rename_i q;rw[show t=d.name from jH (gO.1 q),h0]at hp;cases hp
  omega
 have h1:jD pm d.name w.heap.size d.name=some w.heap.size:=(by unfold jD;rw[dP (gO.2 rfl)])
 have Vs:∀t p,jD pm d.name w.heap.size t=some p->(t=d.name/\p=w.heap.size)\/pm t=some p:=λt p hp=>by
  unfold jD at hp;split at hp;.rename_i q;cases hp;exact .inl ⟨jH (gO.1 q),rfl⟩
  grind
 have Vq:∀b,b≠mk->b<w.heap.size->w2.heap[b]?=w.heap[b]?:=λb hb hl=>(hg.block b Ve (λe=>hb (Option.some.inj e))).J (Below.l _ _ b hl)
 have KP:dX w2 w.heap.size #[ai] 254:=(dX.new w _ _).grown hg (λe=>by have:=h.mb.lt;grind);have VK:=AW Vr (jw hd) h0 h1;refine⟨(Vq _ (λe=>h.ne e.sy) h.kb.lt).J h.kb,hm,h.ne,by have:=h.ct;omega,λt t' p q1 q2=> ?_,λt p hp=> ?_⟩
 .rcases Vs t p q1 with⟨e1,e2⟩|e1
  .rcases Vs t' p q2 with⟨e3,_⟩|e3;.rw[e1,e3]
   .have:=h.lt e3;omega
  .rcases Vs t' p q2 with⟨e3,e4⟩|e3;.have:=h.lt e1;omega
   .exact h.inj t t' p e1 e3
 .rcases Vs t p hp with⟨rfl,rfl⟩|VR;.grind
  .rcases h.pl t p VR with⟨q1,q2,q3⟩|⟨d',gs,q1,q2,q3⟩;.refine .inl ⟨by grind,(Vq p (λe=> ?_) q2.lt).J q2,q3⟩;subst e;have⟨D,hD,_⟩:=h.mb;obtain⟨_,_,hobj,_⟩:=hD;unfold dX at q2;grind
   .refine .inr ⟨d',gs,q1,q2,q3.mV (λb hb hl=>⟨⟨hb.1,hb.2.1,?_,hb.2.2.2⟩,Vq b hb.1 hl⟩) Vr⟩;intro e;rcases aS.1 e with e|e;.omega
    .exact hb.2.2.1 e
def vI.done {w3:aw}{p:Nat}{v:Value}{l:List sC}{d:MT}{gs:List GF}(h:vI kp mk mu S mp w3 N pm (p::U) X)(hp:pm d.name=some p)(hd:S.msg d.name=some d)(hG:lH S mp d gs)(hpU:p∉U)(hpk:p≠mk/\p≠kp/\X p)(hb:dX w3 p #[ai] 254)
  (Vt:eO w3 (Qk kp mk (p::U) X) 268 8 v l.length (l.flatMap jf)) (hs:iM w3 (Qk kp mk (p::U) X) mp (mo w3 (Qk kp mk (p::U) X) mp pm) (jd w3 (Qk kp mk (p::U) X) mp pm) gs l):vI kp mk mu S mp (w3.setCell (aj p 0) v) N pm U X:=by
 have Vq:∀b,b≠p->(w3.setCell (aj p 0) v).heap[b]?=w3.heap[b]?:=λb VS=>er (λe=>VS e.sy)
 have Vy:Mv w3 (Qk kp mk (p::U) X) (w3.setCell (aj p 0) v) (Qk kp mk U X):=λb q _=>⟨⟨q.1,q.2.1,λe=>q.2.2.1 (by simp[e]),q.2.2.2⟩,Vq b (λe=>q.2.2.1 (by simp[e]))⟩
 refine⟨(Vq _ (λe=>hpk.2.1 e.sy)).J h.kb,h.mb.O (Vq _ (λe=>hpk.1 e.sy)),h.ne,h.ct,h.inj,λt q hq=> ?_⟩;by_cases e:q=p;.subst e;obtain rfl:=h.inj _ _ _ hq hp;refine .inr ⟨d,gs,hd,hG,v,l,by simpa using hb.set 0 v,⟨hpk.1,hpk.2.1,hpU,hpk.2.2⟩,Vt.mV Vy,hs.mV Vy (λg _ u hu=>hu.mV Vy (λ_ _ q=>q)) λg _ u hu=>hu.mV Vy (λ_ _ q=>q)⟩
 .rcases h.pl t q hq with⟨q1,q2,q3⟩|⟨d',VT,q1,q2,q3⟩
  .rcases aS.1 q1 with e'|e';.omega
   .exact .inl ⟨e',(Vq q e).J q2,q3⟩
  .exact .inr ⟨d',VT,q1,q2,q3.mV Vy (λ_ _ q=>q)⟩
end
section
variable (kp mk W0:Nat) (mu:Int) (S:eD) (mp:an) (P:ax)
def Gi (n:Nat)(gs:List GF):Prop:=∀(w:aw) (N:Nat) (pm:an) (U:aB) (X:ax) (mb:Nat) (nm:au),Cq kp mk W0 mu S mp P w N pm U X->ow S pm<=n->jh w P mp mb nm gs->gs.length<=2001->
 U8 140 #[ah kp,ah mb] w (Q4 kp mk mu S mp w pm U X λw' Vp v=>∃l,eO w' (Qk kp mk U X) 268 8 v l.length (l.flatMap jf)/\iM w' (Qk kp mk U X) mp (mo w' (Qk kp mk U X) mp Vp) (jd w' (Qk kp mk U X) mp Vp) gs l)
def TT (n:Nat):Prop:=∀(w:aw) (N:Nat) (pm:an) (U:aB) (X:ax) (mb:Nat) (d:MT) (gs:List GF),Cq kp mk W0 mu S mp P w N pm U X->ow S pm<=n->S.msg d.name=some d->jh w P mp mb d.name gs->lH S mp d gs->d.name.size<=2000->
 U8 88 #[ah kp,ah mb] w (Q4 kp mk mu S mp w pm U X λ_ Vp v=>∃p,v=ah p/\Vp d.name=some p)
def wX (n:Nat)(g:GF):Prop:=∀(w:aw) (N:Nat) (pm:an) (U:aB) (X:ax) (fb:Nat),Cq kp mk W0 mu S mp P w N pm U X->ow S pm<=n->eZ w P mp g fb->
 U8 207 #[ah kp,ah fb] w (Q4 kp mk mu S mp w pm U X λw' Vp v=>jd w' (Qk kp mk U X) mp Vp g v)
def Jk (w:aw):(zeroValue 116).run prog w= .ok (.pointer none) w:=Vh
def gq.lookP {w:aw}{b n:Nat}{mp:an}(h:gq w b n mp)(s:au)(hs:s.size<=maxLen):
  (Instr.lookup 161 (.map (some b)) (ag s) false).run prog w= .ok (gZ (mp s)) w:=by
 obtain⟨D,h1,h2⟩:=h;have⟨v,ps,VB,hR⟩:=h1.lookup IL underlying161 (Jk w) (lM none) (IM s hs);have e:=h2 s;unfold oH at e;rw[e]at hR;rw[VB,qd hR]
def TU (n:Nat)(HS:∀m gs,m<n->Gi kp mk W0 mu S mp P m gs):TT kp mk W0 mu S mp P n:=by
 intro w N pm U X mb d gs I hn hd hM hG hsz;have⟨fv,fbs,h1,hPb,Vt,VU⟩:=id hM;obtain⟨fa,fn,fc,rfl⟩:=d5 Vt.1;have hl:=λq=>gq.lookP (w:=w.drewN q) (I.ok.mb.O rfl) d.name Vj
 have⟨k1,k2⟩:=I.ok.kb.I;have⟨k3,k4⟩:=h1.I
 cases hpm:pm d.name with
 |some p=>
  rw[hpm]at hl;unfold gZ at hl;have hl0:=hl 0;go_enter func88,ntmps88;go_upto_region 1 with fail
  go_quiet (fail);go_wp2;go_ret
  exact⟨_,N,pm,rfl,⟨p,rfl,hpm⟩,I.ok.O (λ_ _=>rfl),λ_ _ q=>q,(ec.refl _ _).drewN _⟩
 |none=>
  rw[hpm]at hl;unfold gZ at hl;go_enter func88,ntmps88;go_upto_region 1 with fail
  go_quiet (fail);have bq:ak w (w.drewN nq):=im (Below.refl _ _) nq;have I1:=I.O bq;have VL:=h1.G bq h1.lt;have VM:=hM.O (w':=w.drewN nq) (λb _ hl=>bq.block b hl);have kq:ec [mk] w (w.drewN nq):= .oB bq;clear k1 k2 k3 k4 hl h1 hM Vt VU I bq;generalize w.drewN nq=w1 at*;have⟨D,VD,VI⟩:=I1.ok.mb;have VC:(w1.U5 #[ai] 254).drew.ownsMap prog 9 gL mk N D:=VD.alloc _;have hct:=I1.ok.ct;have⟨w2,VB,Vu,Vx⟩:=VC.update IL underlying161 Vj (key:=ag d.name) (val:=ah w1.heap.size) (IM d.name Vj) (lM (some w1.heap.size));have Vz:(w1.U5 #[ai] 254).grownBy w2 (some mk):=⟨Vx.os,Vx.tape,Vx.output,Vx.size,Vx.block⟩;have VG:=gq.put (b:=w1.heap.size) VC VI Vu;have ok2:=I1.ok.begin hd hpm Vz VG;have rD:ec [mk] w1 w2:=((ec.refl _ _).alloc _).J (ec.of_grown Vz);have VN:w1.heap.size<w2.heap.size:=by have:=Vz.size;simp at this;omega
  have I2:Cq kp mk W0 mu S mp P w2 (N+1) (jD pm d.name w1.heap.size) (w1.heap.size::U) X:=
   ⟨ok2,I1.md.O λb hb hl=>rD.block b hl (by simp;exact(I1.hp b hb).2.1),aM I1.w0 rD.size,λu hu=>by
    rcases aS.1 hu with rfl|hu;.exact⟨I1.w0,VN⟩
    .exact⟨(I1.uu u hu).1,aI (I1.uu u hu).2 rD.size⟩,I1.xx,λb hb=>I1.xn b (aM rD.size hb),I1.hp,I1.kl,I1.ml⟩
  have Vr:∀t p,pm t=some p->jD pm d.name w1.heap.size t=some p:=λt p hp=>by
   unfold jD;split;.rename_i q;rw[show t=d.name from jH (gO.1 q),hpm]at hp;cases hp
   omega
  have Vw:jD pm d.name w1.heap.size d.name=some w1.heap.size:=(by unfold jD;rw[dP (gO.2 rfl)]);have VK:=AW Vr (jw hd) hpm Vw;obtain⟨n',rfl⟩:∃n',n=n'+1:=⟨n-1,Vc⟩;have VO:=HS n' gs Vc w2 (N+1) _ _ X mb d.name I2 Vc (VM.O λb hb hl=>rD.block b hl (by simp;exact(I1.hp b hb).2.1)) hG.len;have VP:dX w2 w1.heap.size #[ai] 254:=(dX.new w1 _ _).grown Vz (λe=>by have:=VD.lt;grind);have VA:=I1.nq (aE _);have⟨k1,k2⟩:=(I1.ok.kb.alloc (am #[ai] 254)).I;have⟨k3,k4⟩:=(VL.alloc (am #[ai] 254)).I
  have VQ:Hid (∀(w3:aw) (N':Nat) (Vp:an) (v:Value) (l:List sC),vI kp mk mu S mp w3 N' Vp (w1.heap.size::U) X->Vp d.name=some w1.heap.size->dX w3 w1.heap.size #[ai] 254->eO w3 (Qk kp mk (w1.heap.size::U) X) 268 8 v l.length (l.flatMap jf)->iM w3 (Qk kp mk (w1.heap.size::U) X) mp (mo w3 (Qk kp mk (w1.heap.size::U) X) mp Vp) (jd w3 (Qk kp mk (w1.heap.size::U) X) mp Vp) gs l->vI kp mk mu S mp (w3.setCell (aj w1.heap.size 0) v) N' Vp U X):=
   λw3 N' Vp v l h1 h2 h3 h4 h5=>h1.done h2 hd hG VA.2.2.1 ⟨VA.1,VA.2.1,VA.2.2.2⟩ h3 h4 h5
  have hmk:w1.heap.size≠mk:=VA.1;clear Vx VC VD VI Vu VG Vz HS;go_upto_region 5 with fail
  go_region
  all_goals
   go_wp2_with fail;refine VO.V ?_;rintro e w3 ⟨v,N',Vp,rfl,⟨l,Vv,VE⟩,VV,VF,VJ⟩;have VH:dX w3 w1.heap.size #[ai] 254:=VP.kept VJ (by grind);obtain⟨va,vn,vc,rfl⟩:=d5 Vv.1;have⟨k5,k6⟩:=VH.I;go_wp2;go_ret;refine⟨_,N',Vp,rfl,⟨_,rfl,VF _ _ Vw⟩,VQ.o w3 N' Vp _ l VV (VF _ _ Vw) VH Vv VE,λt p q=>VF _ _ (Vr t p q),?_⟩;exact(kq.J (rD.J VJ)).freshP kq.size 0 _
end
structure qB:Prop where
 c:∀(w:aw) (P:ax) (mp:an) (g:GF) (fb:Nat) (iq:aC),eZ w P mp g fb->U8 210 #[ah fb,.pointer iq] w (jM w λw' v=>Jf w' (λb=>w.heap.size<=b) mp g iq v)
 m:∀(w:aw) (P:ax) (mp:an) (g:GF) (fb:Nat) (iq:aC),eZ w P mp g fb->U8 211 #[ah fb,.pointer iq] w (jM w λw' v=>Gh w' (λb=>w.heap.size<=b) mp g iq v)
 w:∀(w:aw) (P:ax) (mp:an) (g:GF) (fb:Nat) (iq:aC),eZ w P mp g fb->U8 212 #[ah fb,.pointer iq] w (jM w λw' v=>Eu w' (λb=>w.heap.size<=b) mp g iq v)
 p:yH
 e:Cp
def wW.isFn {w:aw}{Q:ax}{mp pm:an}{g:GF}{v:Value}(h:wW w Q (mo w Q mp pm) g v):Jh v:=by
 unfold wW at h;split at h;.exact mo.fn h
 .obtain⟨_,_,_,_,rfl,_⟩:=h;exact⟨_,_,rfl⟩
def Mh:(prog.info? 268).map (λi=>(i.zero,i.size,i.bytes))=some (some (.agg #[aa 0,aa 0,.bool false,ai,.nilFunc,.nilFunc,.nilFunc,.nilFunc]),8,80):=Vh
def Cr {w:aw}{fb:Nat}{a b c d e:Value}{T:TypeId}(h:dX w fb #[a,b,c,d,e] T):w.cell? (aj fb 0)=some a/\w.cell? (aj fb 2)=some c/\w.cell? (aj fb 3)=some d/\w.cell? (aj fb 4)=some e:=⟨h.cell 0,h.cell 2,h.cell 3,h.cell 4⟩
section
variable (kp mk W0:Nat) (mu:Int) (S:eD) (mp:an) (P:ax)
def Jp (n:Nat)(g:GF)(h4:g.form≠4)(HO:TT kp mk W0 mu S mp P n):wX kp mk W0 mu S mp P n g:=by
 intro w N pm U X fb I hn hF;have⟨pv,rv,h1,_,Vq,Vu⟩:=hF.blk;obtain⟨ra,rn,rc,rfl⟩:=d5 Vq.1;rw[dO h4]at Vu;have VZ:eI mp g=jB mp g.f.ty:=by unfold eI;rw[dO h4]
 rw[VZ]at h1;have f4:(g.form==4)=false:=by grind
 by_cases h16:jB mp g.f.ty=16
 .have V0:((jB mp g.f.ty:Int)==16)=true:=by grind
  have⟨d,hd⟩:=I.md.ty _ h16;have⟨mb,gs,q1,q2,q3,q4⟩:=I.md.md _ d hd;have hdn:=nX hd;have hC:=HO w N pm U X mb d gs I hn (by grind) q2 q3 q4;rw[q1]at Vu;subst Vu;unfold gZ at h1;have⟨k1,k2⟩:=h1.I;go_enter func207,ntmps207;go_wp2_with fail;refine hC.V ?_;rintro e w2 ⟨v,N',Vp,rfl,⟨p,rfl,hp⟩,ok2,hx,kw⟩;go_wp2;go_ret;refine⟨_,N',Vp,rfl,(show jd _ _ mp Vp g _ from ?_),ok2,hx,kw⟩;unfold jd;rw[dO h4,dP h16];exact⟨p,rfl,by grind⟩
 .have V0:((jB mp g.f.ty:Int)==16)=false:=by grind
  obtain⟨pq,rfl⟩:∃q,pv= .pointer q:=(by subst Vu;unfold gZ;split<;>exact⟨_,rfl⟩);have⟨k1,k2⟩:=h1.I;go_enter func207,ntmps207;go_wp2;go_ret;refine⟨_,N,pm,rfl,(show jd _ _ mp pm g _ from ?_),I.ok,λ_ _ q=>q,ec.refl _ _⟩;unfold jd;rw[dO h4,dO h16];rfl
def Jq (n:Nat)(g:GF)(h4:g.form=4)(HS:Gi kp mk W0 mu S mp P n [lL oe g.f.key 1,lL p9 g.f.ty 2]):wX kp mk W0 mu S mp P n g:=by
 intro w N pm U X fb I hn hF;have⟨pv,rv,h1,_,Vq,Vu⟩:=hF.blk;obtain⟨ra,rn,rc,rfl⟩:=d5 Vq.1;rw[dP h4]at Vu;obtain⟨eb,rfl,hE⟩:=Vu;have hC:=HS w N pm U X eb eS I hn hE.msg Vd;have f4:(g.form==4)=true:=by grind
 unfold gZ at h1;have⟨k1,k2⟩:=h1.I;go_enter func207,ntmps207;go_wp2_with fail;refine hC.V ?_;rintro e w2 ⟨v,N',Vp,rfl,⟨l,hr,hs⟩,ok2,hx,kw⟩;obtain⟨va,vn,vc,rfl⟩:=d5 hr.1;have B3:∀o,ak w2 (w2.alloc o):=λo=>(Below.refl _ _).alloc (aE _) _
 have V7:=(I.on ok2 kw).nq (aE _);go_wp2;go_ret;refine⟨_,N',Vp,rfl,(show jd _ _ mp Vp g _ from ?_),ok2.O (λb hl=>(B3 _).block b hl),hx,kw.alloc _⟩;unfold jd;rw[dP h4];refine⟨_,rfl,_,l,dX.new _ _ _,V7,hr.mV (.O λb _ hl=>(B3 _).block b hl),hs.mV (.O λb _ hl=>(B3 _).block b hl) (λg' Vx u hu=> ?_) λg' Vx u hu=> ?_⟩
 .have hu:=mo.mV (.O λb _ hl=>(B3 (am #[.slice va vn vc] 254)).block b hl) (λ_ _ q=>q) hu;unfold mo at hu;simp only[aS,bX,or_false]at Vx;rcases Vx with rfl|rfl;.rw[dO (by simp[lL])]at hu;exact hu
  .rw[dO (by simp[lL])]at hu;exact hu
 .simp only[aS,bX,or_false]at Vx;rcases Vx with rfl|rfl;.exact(jd.lk (by simp[lL])).1 hu
  .exact(jd.lk (by simp[lL])).1 hu
structure Mi (w:aw)(pm:an)(U:aB)(X:ax)(gs:List GF)(wr:aw)(v:Value)(k:Nat)(l:List sC)(N':Nat)(Vp:an):Prop where
 row:wr.ownsRow w.heap.size 268 8 v l.length (l.flatMap jf)
 sts:iM wr (Qk kp mk U λb=>X b/\v.ownBlock≠some b) mp (mo wr (Qk kp mk U λb=>X b/\v.ownBlock≠some b) mp Vp) (jd wr (Qk kp mk U λb=>X b/\v.ownBlock≠some b) mp Vp) (gs.take k) l
 kin:Cq kp mk W0 mu S mp P wr N' Vp U (λb=>X b/\v.ownBlock≠some b)
 ext:∀t p,pm t=some p->Vp t=some p
 kep:ec [mk] w wr
 ul:∀u∈U,u<w.heap.size
 wl:W0<=w.heap.size
end
section
variable {kp mk W0:Nat} {mu:Int} {S:eD} {mp:an} {P:ax}
def Qk.V {U:aB}{X Y:ax}{b:Nat}(h:Qk kp mk U X b)(hx:X b->Y b):Qk kp mk U Y b:=⟨h.1,h.2.1,h.2.2.1,hx h.2.2.2⟩
def vI.less {w:aw}{N:Nat}{pm:an}{U:aB}{X Y:ax}(h:vI kp mk mu S mp w N pm U X)(hx:∀b,X b->b<w.heap.size->Y b):vI kp mk mu S mp w N pm U Y:=
 ⟨h.kb,h.mb,h.ne,h.ct,h.inj,λt p hp=>by
  rcases h.pl t p hp with h1|⟨d,gs,h1,h2,h3⟩;.grind
  .exact .inr ⟨d,gs,h1,h2,h3.mV (.V λb q l=>q.V λq=>hx b q l) (λ_ _ q=>q)⟩⟩
def Mi.snoc {w:aw}{pm:an}{U:aB}{X:ax}{gs:List GF}{wr w1 w7 w8:aw}{v:Value}{k:Nat}{l:List sC}{N' N1:Nat}{Vp Vv:an}{g:GF}{x:sC}{gg cap:Nat}{o:Obj}
  (h:Mi kp mk W0 mu S mp P w pm U X gs wr v k l N' Vp) (ok1:vI kp mk mu S mp w1 N1 Vv U λb=>X b/\v.ownBlock≠some b) (hx:∀t p,Vp t=some p->Vv t=some p) (k1:ec [mk] wr w1) (b7:ak w1 w7)
  (hst:nG w7 (Qk kp mk U λb=>X b/\v.ownBlock≠some b) mp (mo w7 (Qk kp mk U λb=>X b/\v.ownBlock≠some b) mp Vv) (jd w7 (Qk kp mk U λb=>X b/\v.ownBlock≠some b) mp Vv) g x) (hg:gs[k]?=some g)
  (Vq:w8.ownsRow w.heap.size 268 8 (U9 gg (l.length+1) cap) (l.length+1) (l.flatMap jf++jf x)) (hgrow:(w7.alloc o).grownBy w8 v.ownBlock) (hat:v.ownBlock=some gg\/gg=w7.heap.size+1) (hl8:gg<w8.heap.size):
  Mi kp mk W0 mu S mp P w pm U X gs w8 (U9 gg (l.length+1) cap) (k+1) (l++ [x]) N1 Vv:=by
 have VP:(Value.slice (some (aj gg 0)) (l.length+1) cap).ownBlock=some gg:=rfl;have hv:=λb hb=>(h.row.lt b hb)
 have I:=h.kin;have Vz:∀b,v.ownBlock≠some b->b<w7.heap.size->w8.heap[b]?=w7.heap[b]?:=λb hb hl=>(hgrow.block b Ve (λe=>hb e.sy)).J (Below.l _ _ b hl)
 have V8:∀b,v.ownBlock≠some b->b<w7.heap.size->gg≠b:=λb hb hl e=>by
  grind
 have Vr:Mv w7 (Qk kp mk U λb=>X b/\v.ownBlock≠some b) w8 (Qk kp mk U λb=>X b/\(Value.slice (some (aj gg 0)) (l.length+1) cap).ownBlock≠some b):=λb q hl=>
  ⟨q.V λq=>⟨q.1,λe=>V8 b q.2 hl (Option.some.inj (VP▸e))⟩,Vz b q.2.2.2.2 hl⟩
 have hgw:w.heap.size<=gg:=(Vq.lt gg rfl).1;have hold:∀b,b<w.heap.size->v.ownBlock≠some b:=λb hb e=>by grind
 have z1:=k1.size;have z7:=b7.size;have zw:=h.kep.size;have hwl:=h.wl;have V9:=I.kl;have Wb:=I.ml;have Vs:Mv wr (Qk kp mk U λb=>X b/\v.ownBlock≠some b) w7 (Qk kp mk U λb=>X b/\v.ownBlock≠some b):=λb q hl=>⟨q,(b7.block b Vc).J (k1.block b hl (by simp;exact q.1))⟩
 have Vw:=ok1.O (w':=w7) λb hl=>b7.block b hl
 have Wd:gs.take (k+1)=gs.take k++ [g]:=by rw[bT,hg];rfl
 have kf:ec [mk] w w8:=⟨hgrow.os.J (b7.os.J (k1.os.J h.kep.os)),hgrow.tape.J (b7.tape.J (k1.tape.J h.kep.tape)),hgrow.output.J (b7.output.J (k1.output.J h.kep.output)),Vc,
  λb hl hm=>(Vz b (hold b hl) Vc).J ((b7.block b Vc).J ((k1.block b Vc hm).J (h.kep.block b hl hm)))⟩
 refine⟨by grind,?_,⟨⟨?_,?_,Vw.ne,Vw.ct,Vw.inj,λt p hp=> ?_⟩,?_,Vc,λu hu=>⟨(I.uu u hu).1,by have:=h.ul u hu;omega⟩,λb hb=>⟨(I.xx b hb).1,λe=> ?_⟩,λb hb=>⟨(I.xn b (by grind)).1,λe=> ?_⟩,I.hp,I.kl,I.ml⟩,λt p q=>hx _ _ (h.ext t p q),kf,h.ul,h.wl⟩;.rw[Wd];exact iM.snoc (hst.mV Vr (λu hu=>hu.mV Vr (λ_ _ q=>q)) λu hu=>hu.mV Vr (λ_ _ q=>q)) (h.sts.mV (λb q hl=>⟨(Vr b (Vs b q hl).1 Vc).1,(Vr b (Vs b q hl).1 Vc).2.J (Vs b q hl).2⟩) (λ_ _ u hu=>(hu.mV Vs hx).mV Vr (λ_ _ q=>q)) λ_ _ u hu=>(hu.mV Vs hx).mV Vr (λ_ _ q=>q))
 .exact(Vz kp (hold kp Vc) Vw.kb.lt).J Vw.kb
 .exact Vw.mb.O (Vz mk (hold mk Vc) Vw.mb.lt)
 .rcases Vw.pl t p hp with⟨q1,q2,q3⟩|⟨d,Wo,q1,q2,q3⟩;.exact .inl ⟨q1,(Vz p (hold p (h.ul p q1)) q2.lt).J q2,q3⟩
  .exact .inr ⟨d,Wo,q1,q2,q3.mV Vr (λ_ _ q=>q)⟩
 .refine I.md.O λb hb hl=> ?_
  have hb0:=I.hp b hb;exact(Vz b (hold b Vc) Vc).J ((b7.block b Vc).J (k1.block b hl (by grind)))
 .have:=Option.some.inj (VP▸e);have:=(I.hp b hb).1;omega
 grind
end
section
variable (kp mk W0:Nat) (mu:Int) (S:eD) (mp:an) (P:ax)
def Ig (n:Nat)(gs:List GF)(MK:qB)(HW:∀g∈gs,wX kp mk W0 mu S mp P n g):Gi kp mk W0 mu S mp P n gs:=by
 intro w N pm U X mb nm I hn hM hgl;have⟨i0,Wp,Wq,Ws,Wt⟩:=info_parts Mh;have⟨fv,VF,h1,hPb,Vq,VV⟩:=id hM;obtain⟨fa,fc,rfl⟩:=iz Vq.1;have hfn:=VV.len
 have A0:Mi kp mk W0 mu S mp P w pm U X gs w (ai) 0 [] N pm:=
  ⟨br _ _ _ _,rfl,⟨I.ok.less λb q _=>⟨q,by simp[Value.ownBlock]⟩,I.md,I.w0,I.uu,λb q=>⟨I.xx b q,by simp[Value.ownBlock]⟩,λb q=>⟨I.xn b q,by simp[Value.ownBlock]⟩,I.hp,I.kl,I.ml⟩,λ_ _ q=>q,ec.refl _ _,λu hu=>(I.uu u hu).2,I.w0⟩
 have VQ:=I.hp;have V9:=I.kl;have Wb:=I.ml;have hw0:=I.w0;have We:Hid (∀b,w.heap.size<=b->X b):=I.xn;have⟨k1,k2⟩:=h1.I;clear I;go_enter func140,ntmps140;go_wp2_with fail;go_loopw [5,14] (λv i wr=>∃(k:Nat) (l:List sC) (N':Nat) (Vp:an),k<=gs.length/\i=aa k/\Mi kp mk W0 mu S mp P w pm U X gs wr v k l N' Vp) (λ_ i _=>gs.length-(intOf i).toNat)
 case atStart=>grind
 case round=>
  clear A0;obtain⟨k,l,N',Vp,hk,rfl,A⟩:=hrel;obtain⟨va,vc,rfl⟩:=iz A.row;by_cases hlt:k<gs.length
  .have⟨g,hg⟩:=gx hlt;have⟨fb,VJ,Wu⟩:=VV.get hg;have VR:∀b,P b->b<w.heap.size->wr.heap[b]?=w.heap[b]?:=λb hb hl=>A.kep.block b hl (by grind)
   have VG:eZ wr P mp g fb:=Wu.O VR;have VB:=Vq.O VR;have VS:=HW g (aL hg) wr N' Vp U _ fb A.kin (aM (Jj A.ext) hn) VG;obtain⟨g0,rfl,_,hgl0,Vy⟩:=eH VB.1 Vc;have hq:=Vy wr rfl k (ah fb) (by simp[fx,VJ,gZ]);have VH:decide ((k:Int)<(VF.length:Int))=true:=by grind
   have hkb:k<VF.length:=Vc;have HG:Hid (gs[k]?=some g):=hg;have HB:Hid (VF[k]?=some fb):=VJ;clear Vy hg VJ k1 k2;go_wp2_with fail;refine VS.V ?_;rintro e w1 ⟨iv,N1,Vv,rfl,VK,ok1,hx1,Nk⟩;obtain⟨iq,rfl⟩:=VK.form;have VI:eZ w1 P mp g fb:=VG.O λb hb hl=>Nk.block b hl (by simp;exact(VQ b hb).2.1)
   have⟨pv,rv,h2,VL,VM,Vu⟩:=VI.blk;obtain⟨pq,rfl⟩:=gK Vu;obtain⟨ra,rc,rfl⟩:=iz VM.1;have I1:=A.kin.on ok1 Nk;have VA:∀W,ak w1 W->eZ W P mp g fb:=λW hW=>VI.O (λb _ hl=>hW.block b hl)
   have Wf:eI mp g<=16:=by
    unfold eI;split;.omega
    .exact uo _ _
   have VT:=λW=>qi W (eI mp g) (.pointer pq) Wf
   have VU:∀W,ak w1 W->U8 209 #[ah fb] W λe w'=>e= .returned (.bool (io mp g))/\Below W.heap.size W w':=λW hW=>mQ W P mp g fb (VA W hW)
   have hC:=λW hW=>MK.c W P mp g fb iq (VA W hW)
   have Wh:=λW hW=>MK.m W P mp g fb iq (VA W hW)
   have Wk:=λW hW=>MK.w W P mp g fb iq (VA W hW)
   have Wl:∀W,ak w1 W->U8 213 #[ah fb,.pointer iq] W (jM W λw' v=>wW w' (Qk kp mk U λb=>X b/\(Value.slice va l.length vc).ownBlock≠some b) (mo w' (Qk kp mk U λb=>X b/\(Value.slice va l.length vc).ownBlock≠some b) mp Vv) g v):=λW hW=>
    zZ W _ P mp Vv g fb (.pointer iq) MK.p MK.e (λb hb=>I1.nq (aM hW.size hb)) (λb hb=>I1.pq hb) (VA W hW) (VK.mV (.O λb _ hl=>hW.block b hl) (λ_ _ q=>q))
   have VC:w1.ownsRow w.heap.size 268 8 (.slice va l.length vc) l.length (l.flatMap jf):=ew A.row λb hb=>Nk.block b (A.row.lt b hb).2 (by simp;have:=(A.row.lt b hb).1;omega)
   have hfW:fb<W0:=(VQ fb VL).1;have HO:Hid (some fb≠(Value.slice va l.length vc).ownBlock):=λe=>by have:=(A.row.lt fb e.sy).1;omega
   have hll:l.length<=2001:=by have:=A.sts.len;rw[bM]at this;omega
   have d0:ak w1 w1.drew:=(Below.refl _ _).drew;have zk:=Nk.size;have zw:=A.kep.size;have HR:Hid (eO w1 (Qk kp mk U λb=>X b/\(Value.slice va l.length vc).ownBlock≠some b) 3 1 (.slice ra g.riv.length rc) g.riv.length (gB g.riv)):=VM.V (λb hb _=>I1.pq hb);clear Vu VM VG VA VS VI;have Wm:dX w1.drew fb #[aa g.f.num,aa g.form,aa (eI mp g),.pointer pq,.slice ra g.riv.length rc] 220:=h2;obtain⟨wk,VW⟩:∃wk:Int,(eJ (eI mp g):Int)=wk:=⟨_,rfl⟩;rw[VW]at VT;obtain⟨pk,VX⟩:=Y9 (io mp g);rw[VX]at VU;go_upto_region 6 with fail
   go_region_held3 (λW=>W.cell? (aj fb 0)=some (aa g.f.num)/\W.cell? (aj fb 2)=some (aa (eI mp g))/\W.cell? (aj fb 3)=some (.pointer pq)/\W.cell? (aj fb 4)=some (.slice ra g.riv.length rc))
    (first|exact Cr K9|exact Cr (K7.alloc _)|exact Cr K7|exact Cr K6|exact Cr K5|exact Cr K4|exact Cr K3|exact Cr K2|exact Cr Wm)
    (first|(refine step_append_lies _ Vi _ _ _ Vi w.heap.size 268 i0 _ 8 80 underlying252 Wp Wq Ws Wt rfl Vc (.slice va l.length vc) l.length (l.flatMap jf) Vi (VD.alloc _) (aj w7.heap.size 0) 1 1 [_,_,_,_,_,_,_,_] Vi Vi (bz (t:=268) (fr:=(0,0)) (heap_alloc_new w7 _)) Vk Vc Vj Vc Ve (w7.heap.size+1) Vd ?_;intro gg cap w9 VE Vt VN VO;have K9:=(K7.alloc _).grown Vt HO.o)|(go_at_call 208;refine(VT _).V ?_;rintro e w2 ⟨rfl,b2⟩;have c2:=dU d0 b2;have K2:=h2.G c2 h2.lt)|(go_at_call 209;refine(VU w2 c2).V ?_;rintro e w3 ⟨rfl,b3⟩;have c3:=dU c2 b3;have K3:=h2.G c3 h2.lt)|(go_at_call 210;refine(hC w3 c3).V ?_;rintro e w4 ⟨v4,rfl,E4,b4⟩;have⟨f4,a4,e4,_⟩:=id E4;obtain rfl:=e4.eq;have c4:=dU c3 b4;have K4:=h2.G c4 h2.lt)|(go_at_call 211;refine(Wh w4 c4).V ?_;rintro e w5 ⟨v5,rfl,E5,b5⟩;have⟨f5,a5,e5,_⟩:=id E5;obtain rfl:=e5.eq;have c5:=dU c4 b5;have K5:=h2.G c5 h2.lt)|(go_at_call 212;refine(Wk w5 c5).V ?_;rintro e w6 ⟨v6,rfl,E6,b6⟩;have⟨f6,a6,e6,_⟩:=id E6;obtain rfl:=e6.eq;have c6:=dU c5 b6;have K6:=h2.G c6 h2.lt)|(go_at_call 213;refine(Wl w6 c6).V ?_;rintro e w7 ⟨rf,rfl,VY,b7⟩;obtain⟨f7,a7,rfl⟩:=VY.isFn;have c7:=dU c6 b7;have z7:=c7.size;have K7:=h2.G c7 h2.lt;have VD:=eX c7 VC))
   have ST:nG w7 (Qk kp mk U λb=>X b/\(Value.slice va l.length vc).ownBlock≠some b) mp (mo w7 (Qk kp mk U λb=>X b/\(Value.slice va l.length vc).ownBlock≠some b) mp Vv) (jd w7 (Qk kp mk U λb=>X b/\(Value.slice va l.length vc).ownBlock≠some b) mp Vv) g ⟨g.f.num,aa wk,.bool pk,.slice ra g.riv.length rc,.func (.func f4) #[] a4.toArray,.func (.func f5) #[] a5.toArray,.func (.func f6) #[] a6.toArray,.func (.func f7) #[] a7⟩:=
    ⟨rfl,by rw[<-VW],by rw[<-VX],HR.o.O (λb _ hl=>c7.block b hl),⟨iq,VK.mV (.O λb _ hl=>c7.block b hl) (λ_ _ q=>q),E4.mV λb q hl=>⟨I1.nq (aM c3.size q),(dU b5 (dU b6 b7)).block b hl⟩,E5.mV λb q hl=>⟨I1.nq (aM c4.size q),(dU b6 b7).block b hl⟩,E6.mV λb q hl=>⟨I1.nq (aM c5.size q),b7.block b hl⟩⟩,VY⟩
   have A2:=A.snoc ok1 hx1 Nk c7 ST HG.o VE Vt (VN.imp id id) VO;go_wp2;go_roundw
   case rel=>grind
   case measure=>simp[intOf];omega
  .have VH:decide ((k:Int)<(VF.length:Int))=false:=by grind
   obtain rfl:k=gs.length:=Vc
   have HE:Hid (∃l0,eO wr (Qk kp mk U X) 268 8 (.slice va l.length vc) l0.length (l0.flatMap jf)/\iM wr (Qk kp mk U X) mp (mo wr (Qk kp mk U X) mp Vp) (jd wr (Qk kp mk U X) mp Vp) gs l0):=by
    have hs:=A.sts;rw[bB]at hs;have Vr:Mv wr (Qk kp mk U λb=>X b/\(Value.slice va l.length vc).ownBlock≠some b) wr (Qk kp mk U X):= .V λb q _=>q.V λq=>q.1
    refine⟨l,⟨ph A.row (aP _),λb hb=> ?_⟩,hs.mV Vr (λ_ _ u hu=>hu.mV Vr (λ_ _ q=>q)) λ_ _ u hu=>hu.mV Vr (λ_ _ q=>q)⟩;have Wn:=(A.row.lt b hb).1;exact⟨Vc,Vc,λq=>by have:=A.ul b q;omega,We.o b Wn⟩
   have HK:Hid (vI kp mk mu S mp wr N' Vp U X):=A.kin.ok.less λb q _=>q.1
   go_wp2;go_ret;exact⟨_,N',Vp,rfl,HE.o,HK.o,A.ext,A.kep⟩
def O4 (MK:qB):∀n,TT kp mk W0 mu S mp P n:=by
 intro n
 induction n using Nat.strongRecOn with
 |_ n ih=>
 refine TU kp mk W0 mu S mp P n λm gs hm=> ?_
 have hO:=ih m hm;have h0:∀g:GF,g.form≠4->wX kp mk W0 mu S mp P m g:=λg h4=>Jp kp mk W0 mu S mp P m g h4 hO
 refine Ig kp mk W0 mu S mp P m gs MK λg _=> ?_
 by_cases h4:g.form=4
 .refine Jq kp mk W0 mu S mp P m g h4 (Ig kp mk W0 mu S mp P m _ MK λg' Vx=>h0 g' ?_);simp only[aS,bX,or_false]at Vx;rcases Vx with rfl|rfl;.simp[lL]
  .simp[lL]
 grind
end
end
end Go.Proofs.YtfebdimolnobaaaGreatDoor
