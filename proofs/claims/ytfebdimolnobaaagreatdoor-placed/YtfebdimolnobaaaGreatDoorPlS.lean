import Derived.Test.YtfebdimolnobaaaGreatDoorEpG
set_option maxRecDepth 100000
set_option maxHeartbeats 8000000
set_option linter.all false
namespace Go.Proofs.YtfebdimolnobaaaGreatDoor
open Go.RowKit
section
attribute [local go_sem↓] Go.wp_at_zero Go.wp_at_succ
theorem gz.form {w:an}{Q:ap}{mp pm:am->Option Nat}{g:GF}{iv:Value}(h:gz w Q mp pm g iv):∃q,iv= .pointer q:=by
 unfold gz at h
 split at h
 ·obtain⟨p,rfl,_⟩:=h;exact⟨_,rfl⟩
 ·split at h
  ·obtain⟨p,rfl,_⟩:=h;exact⟨_,rfl⟩
  ·exact⟨_,h⟩
def tZ:Prop:=∀(w:an) (Q P:ap) (mp:am->Option Nat) (g:GF) (fb:Nat),(∀b,w.heap.size<=b->Q b)->dP w P mp g fb->g.form≠4->gQ mp g.f.ty<=15->Calls Tryz.prog 379 #[ag fb] w (g8 w fun w' v=>IH w' Q mp g v)
def xS:Prop:=∀(w:an) (Q P:ap) (mp:am->Option Nat) (g:GF) (fb p:Nat),(∀b,w.heap.size<=b->Q b)->dP w P mp g fb->g.form=4->Calls Tryz.prog 377 #[ag fb,ag p] w (g8 w fun w' v=>Jb w' Q mp (fun x=>x=p) g v)
section
variable (w:an) (Q P:ap) (mp pm:am->Option Nat) (g:GF) (fb:Nat)
theorem qV (p:Nat)(hQ:∀b,w.heap.size<=b->Q b)(h:dP w P mp g fb)(hp:pm g.f.ty=some p):Calls Tryz.prog 378 #[ag fb,ag p] w (g8 w fun w' v=>JZ w' Q mp pm g v):=by
 have Oh:= @rh;obtain⟨pv,rv,h1,_,N2,N7⟩:=h.blk;obtain⟨pq,rfl⟩:=eT N7;obtain⟨ra,rn,rc,rfl⟩:=df N2.1;have hL:∀W,(∀b,b<w.heap.size->W.heap[b]?=w.heap[b]?)->Calls Tryz.prog 186 #[ag fb] W fun e w'=>e= .returned (aa (iA mp g))/\w'=W:=fun W hW=>nl W P mp g fb (h.keep (fun b _ hl=>hW b hl))
 have l1:∀o1,∀b,b<w.heap.size->(w.alloc o1).drew.heap[b]?=w.heap[b]?:=fun o1 b hb=>Below.heap_alloc w o1 b hb
 have l2:∀o1 o2,∀b,b<w.heap.size->((w.alloc o1).alloc o2).drew.heap[b]?=w.heap[b]?:=fun o1 o2 b hb=>(Below.a2 w o1 o2).block b hb
 have l3:∀o1 o2 o3,∀b,b<w.heap.size->(((w.alloc o1).alloc o2).alloc o3).drew.heap[b]?=w.heap[b]?:=fun o1 o2 o3 b hb=>(Below.a3 w o1 o2 o3).block b hb
 obtain⟨k0,k1,k2,k3,k4⟩:=h1.deep;clear N7 N2 h
 have N8:(g.form==2)=true/\g7 g.form=190\/(g.form==2)=false/\g7 g.form=191:=by
  unfold g7
  by_cases h2:g.form=2
  ·exact .inl ⟨by simp[h2],by rw[if_pos h2]⟩
  ·exact .inr ⟨by simp[h2],by rw[if_neg h2]⟩
 obtain⟨Of,Oa⟩:∃Of,iA mp g=Of:=⟨_,rfl⟩;rw[Oa]at hL
 rcases N8 with⟨f2,hf⟩|⟨f2,hf⟩
 all_goals
  go_enter Tryz.func378,Tryz.ntmps378
  go_upto_region 1 with fail
  go_region_held3 (fun W=>W.cell? (ai fb 0)=some (aa g.f.num))
   (first|exact k3 _ _ _ 0|exact k2 _ _ 0|exact k1 _ 0)
   (first|(go_at_call 186;refine(hL _ (l1 _)).mono ?_;rintro e w2 ⟨rfl,rfl⟩)|(go_at_call 186;refine(hL _ (l2 _ _)).mono ?_;rintro e w2 ⟨rfl,rfl⟩)|(go_at_call 186;refine(hL _ (l3 _ _ _)).mono ?_;rintro e w2 ⟨rfl,rfl⟩))
  all_goals
   go_wp2;go_ret;refine⟨_,rfl,⟨_,_,_,_,p,rfl,?_,?_,?_,?_,hp,hQ _ (by omega),hQ _ (by omega),hQ _ (by omega),hQ _ (by omega)⟩,(Below.a4 w _ _ _ _).drew⟩
   all_goals simp[DD,Gd,yi,hf,Oa]<;>omega
theorem jE.fn {w:an}{Q:ap}{mp pm:am->Option Nat}{g:GF}{v:Value}(h:jE w Q mp pm g v):DC v:=by
 unfold jE at h
 split at h
 ·obtain⟨_,_,_,_,_,rfl,_⟩:=h;exact⟨_,_,rfl⟩
 ·unfold yj at h
  split at h
  ·obtain⟨_,_,_,_,_,rfl,_⟩:=h;exact⟨_,_,rfl⟩
  ·split at h
   ·obtain⟨_,_,_,_,rfl,_⟩:=h;exact⟨_,_,rfl⟩
   ·obtain⟨_,_,_,_,rfl,_⟩:=h;exact⟨_,_,rfl⟩
theorem ue (iv:Value)(HP:tZ)(HE:xS)(hQ:∀b,w.heap.size<=b->Q b)(h:dP w P mp g fb)(hi:gz w Q mp pm g iv):Calls Tryz.prog 295 #[ag fb,iv] w (g8 w fun w' v=>jE w' Q mp pm g v):=by
 obtain⟨pv,rv,h1,_,N2,N7⟩:=h.blk;obtain⟨pq,rfl⟩:=eT N7;obtain⟨ra,rn,rc,rfl⟩:=df N2.1;have Ob:=jW w P mp g fb h;have Od:∀w1:an,aj w w1->∀b,w1.heap.size<=b->Q b:=fun w1 h1 b hb=>hQ b (by have:=h1.size;omega)
 have Oe:∀w1:an,aj w w1->dP w1 P mp g fb:=fun w1 hb=>h.keep (fun b _ hl=>hb.block b hl)
 clear N7 N2;unfold gz at hi
 by_cases h4:g.form=4
 ·rw[if_pos h4]at hi;obtain⟨p,rfl,N8⟩:=hi;have f4:(g.form==4)=true:=by simp[h4]
  have hC:=HE w Q P mp g fb p hQ h h4;obtain⟨k1,k2⟩:=h1.rules;go_enter Tryz.func295,Tryz.ntmps295
  go_wp2_with fail
  refine hC.mono ?_;rintro e w2 ⟨v,rfl,hv,b2⟩
  have hr:jE w2 Q mp pm g v:=by
   unfold jE;rw[if_pos h4]
   exact hv.move (.keep fun _ _ _=>rfl) fun x hx=>by
    subst hx;exact N8.move (.keep fun b _ l=>b2.block b l) (fun _ _ _ q=>q.move (.keep fun b _ l=>b2.block b l) (fun _ _ q=>q)) fun _ _ _ q=>q
  obtain⟨vf,N3,rfl⟩:=hr.fn;go_wp2;go_ret;exact⟨_,rfl,hr,b2⟩
 ·rw[if_neg h4]at hi;have f4:(g.form==4)=false:=by simp[h4]
  have Oi:dC mp g=gQ mp g.f.ty:=by unfold dC;rw[if_neg h4]
  rw[Oi]at h1;have Oc:∀w' v,yj w' Q mp pm g v->jE w' Q mp pm g v:=fun w' v q=>by unfold jE;rw[if_neg h4];exact q
  obtain⟨k1,k2⟩:=h1.rules
  by_cases h16:gQ mp g.f.ty=16
  ·rw[if_pos h16]at hi;obtain⟨p,rfl,N8⟩:=hi;have Oj:((gQ mp g.f.ty:Int)==16)=true:=by simp[h16]
   have hC:=qV w Q P mp pm g fb p hQ h N8;go_enter Tryz.func295,Tryz.ntmps295
   go_wp2_with fail
   refine hC.mono ?_;rintro e w2 ⟨v,rfl,hv,b2⟩;have hr:jE w2 Q mp pm g v:=Oc _ _ (by unfold yj;rw[if_pos h16];exact hv);obtain⟨vf,N3,rfl⟩:=hr.fn;go_wp2;go_ret;exact⟨_,rfl,hr,b2⟩
  ·rw[if_neg h16]at hi;subst hi;have Oj:((gQ mp g.f.ty:Int)==16)=false:=by simp;omega
   have hle:=qC mp g.f.ty
   cases hpk:fG mp g with
   |true=>
    rw[hpk]at Ob;go_enter Tryz.func295,Tryz.ntmps295
    go_wp2_with fail
    refine Ob.mono ?_;rintro e w1 ⟨rfl,b1⟩;go_wp2_with fail
    refine(HP w1 Q P mp g fb (Od w1 b1) (Oe w1 b1) h4 (by omega)).mono ?_;rintro e w2 ⟨v,rfl,hv,b2⟩;have hr:jE w2 Q mp pm g v:=Oc _ _ (by unfold yj;rw[if_neg h16,if_pos hpk];exact hv);obtain⟨vf,N3,rfl⟩:=hr.fn;go_wp2;go_ret;exact⟨_,rfl,hr,cY b1 b2⟩
   |false=>
    rw[hpk]at Ob;go_enter Tryz.func295,Tryz.ntmps295
    go_wp2_with fail
    refine Ob.mono ?_;rintro e w1 ⟨rfl,b1⟩;go_wp2_with fail
    refine(tY w1 Q P mp g fb (Od w1 b1) (Oe w1 b1) h4 (by omega)).mono ?_;rintro e w2 ⟨v,rfl,hv,b2⟩;have hr:jE w2 Q mp pm g v:=Oc _ _ (by unfold yj;rw[if_neg h16,if_neg (by rw[hpk];simp)];exact hv);obtain⟨vf,N3,rfl⟩:=hr.fn;go_wp2;go_ret;exact⟨_,rfl,hr,cY b1 b2⟩
theorem u6 (iv:Value)(HP:tZ)(HE:xS)(hQ:∀b,w.heap.size<=b->Q b)(hPQ:∀b,P b->Q b)(h:dP w P mp g fb)(hi:gz w Q mp pm g iv):Calls Tryz.prog 213 #[ag fb,iv] w (g8 w fun w' v=>sF w' Q (jE w' Q mp pm) g v):=by
 have Oh:= @rh;obtain⟨pv,rv,h1,_,N2,N7⟩:=h.blk;have hC:=ue w Q P mp pm g fb iv HP HE hQ h hi;obtain⟨iq,rfl⟩:=hi.form;obtain⟨pq,rfl⟩:=eT N7;obtain⟨ra,rc,rfl⟩:=gS N2.1;clear N7 hi h;go_enter Tryz.func213,Tryz.ntmps213
 go_wp2_with fail
 refine hC.mono ?_;rintro e w2 ⟨v,rfl,hv,b2⟩;obtain⟨vf,N3,Og⟩:=hv.fn;have h2:=h1.below b2 h1.lt;obtain⟨k5,k6,k7,k8,k9⟩:=h2.deep;have hw2:=b2.size
 by_cases h0:g.riv= []
 ·have e0:((g.riv.length:Int)==0)=true:=by simp[h0]
  subst Og;go_wp2;go_ret;have B3:∀o,aj w2 (w2.alloc o):=fun o=>(Below.refl _ _).alloc (ay _) _
  refine⟨_,rfl,(show sF _ Q (jE _ Q mp pm) g _ from ?_),cY b2 (B3 _)⟩;unfold sF;rw[if_pos h0];exact hv.move (.keep fun b _ l=>(B3 _).block b l) (fun _ _ q=>q)
 ·have e0:((g.riv.length:Int)==0)=false:=by simpa using h0
  subst Og;go_wp2;go_ret;refine⟨_,rfl,(show sF _ Q (jE _ Q mp pm) g _ from ?_),cY b2 (Below.a2 w2 _ _)⟩;unfold sF;rw[if_neg h0];refine⟨_,_,_,_,rfl,de.newAt (by simp) _ _,?_,(de.new w2 _ _).alloc _,hQ _ (by omega),hQ _ (by omega),?_⟩
  ·exact dJ.move (fun b q l=>⟨hPQ b q,(cY b2 (Below.a2 w2 _ _)).block b l⟩) N2
  ·exact hv.move (.keep fun b _ l=>(Below.a2 w2 _ _).block b l) (fun _ _ q=>q)
end
end
section
open Go.Maps
attribute [local go_sem↓] Go.wp_at_zero Go.wp_at_succ
theorem jF:∀{l:List MT} {s:am} {d:MT},ki l s=some d->d.name=s
 | [],_,_,h=>by cases h
 |m::l,s,d,h=>by
  rw[ki]at h
  split at h
  ·rename_i q
   cases h
   exact gX (fX.1 q)
  ·exact jF h
theorem dl.freshP {bs:au}{a b:an}(h:dl bs a b){c:Nat}(hc:a.heap.size<=c)(off:Nat)(u:Value):dl bs a (b.setCell (ai c off) u):=
 ⟨h.os,h.tape,h.output,by simpa using h.size,fun i hi hn=>by rw[dp (by omega)];exact h.block i hi hn⟩
def Qk (kp mk:Nat)(U:au)(X:ap)(b:Nat):Prop:=b≠mk/\b≠kp/\b∉U/\X b
def lz (S:dG)(pm:am->Option Nat):Nat:=(S.ms.filter fun d=>(pm d.name).isNone).length
theorem mE {α:Type}{p q:α->Bool}(h:∀x,p x=true->q x=true):∀l:List α,(l.filter p).length<=(l.filter q).length
 | []=>ay _
 |x::l=>by
  have ih:=mE h l;rw[bM,bM]
  cases hp:p x with
  |true=>rw[h x hp];simpa using ih
  |false=>
   cases q x with
   |true=>simp;omega
   |false=>simpa using ih
theorem qh {α:Type}{p q:α->Bool}(h:∀x,p x=true->q x=true){y:α}(hy1:p y=false)(hy2:q y=true):∀l:List α,y∈l->(l.filter p).length<(l.filter q).length
 |x::l,hm=>by
  rw[bM,bM]
  rcases aL.1 hm with rfl|hm
  ·rw[hy1,hy2];have:=mE h l;simp;omega
  ·have ih:=qh h hy1 hy2 l hm
   cases hp:p x with
   |true=>rw[h x hp];simpa using ih
   |false=>
    cases q x with
    |true=>simp;omega
    |false=>simpa using ih
theorem DE {S:dG}{pm N2:am->Option Nat}(h:∀t p,pm t=some p->N2 t=some p):lz S N2<=lz S pm:=by
 refine mE (fun d hd=> ?_) S.ms
 cases hq:pm d.name with
 |none=>rfl
 |some p=>rw[h _ _ hq]at hd;cases hd
theorem wj {S:dG}{pm N2:am->Option Nat}(h:∀t p,pm t=some p->N2 t=some p){d:MT}(hd:d∈S.ms)(h0:pm d.name=none){p:Nat}(h1:N2 d.name=some p):lz S N2<lz S pm:=by
 refine qh (fun d hd=> ?_) (y:=d) (by rw[h1];rfl) (by rw[h0];rfl) S.ms hd
 cases hq:pm d.name with
 |none=>rfl
 |some p=>rw[h _ _ hq]at hd;cases hd
structure rI (kp mk:Nat)(mu:Int)(S:dG)(mp:am->Option Nat)(w:an)(N:Nat)(pm:am->Option Nat)(U:au)(X:ap):Prop where
 kb:de w kp #[.int .i32 mu,.int .u32 0,.map (some mk)] 170
 mb:eI w mk N pm
 ne:mk≠kp
 ct:N+lz S pm<=4000
 inj:∀t t' p,pm t=some p->pm t'=some p->t=t'
 pl:∀t p,pm t=some p->(p∈U/\de w p #[ah] 254/\∃d,S.msg t=some d)\/∃d gs,S.msg t=some d/\ja S mp d gs/\fZ w (Qk kp mk U X) mp pm gs p
structure Ge (w:an)(P:ap)(S:dG)(mp:am->Option Nat):Prop where
 md:∀t d,S.msg t=some d->∃mb gs,uK mp t=some mb/\gD w P mp mb d.name gs/\ja S mp d gs/\d.name.size<=2000
 ty:∀t,gQ mp t=16->∃d,S.msg t=some d
theorem Ge.keep {w w':an}{P:ap}{S:dG}{mp:am->Option Nat}(h:Ge w P S mp)(hk:∀b,P b->b<w.heap.size->w'.heap[b]?=w.heap[b]?):Ge w' P S mp:=
 ⟨fun t d q=>by
  obtain⟨mb,gs,h1,h2,h3,h4⟩:=h.md t d q
  exact⟨mb,gs,h1,h2.keep hk,h3,h4⟩,h.ty⟩
structure wo (kp mk W0:Nat)(mu:Int)(S:dG)(mp:am->Option Nat)(P:ap)(w:an)(N:Nat)(pm:am->Option Nat)(U:au)(X:ap):Prop where
 ok:rI kp mk mu S mp w N pm U X
 md:Ge w P S mp
 w0:W0<=w.heap.size
 uu:∀u∈U,W0<=u/\u<w.heap.size
 xx:∀b,P b->X b
 xn:∀b,w.heap.size<=b->X b
 hp:∀b,P b->b<W0/\b≠mk/\b≠kp
 kl:kp<W0
 ml:mk<W0
def J9 (kp mk:Nat)(mu:Int)(S:dG)(mp:am->Option Nat)(w:an)(pm:am->Option Nat)(U:au)(X:ap)(A:an->(am->Option Nat)->Value->Prop)(e:Ending)(w':an):Prop:=
 ∃v N' N2,e= .returned v/\A w' N2 v/\rI kp mk mu S mp w' N' N2 U X/\(∀t p,pm t=some p->N2 t=some p)/\dl [mk] w w'
section
variable {kp mk W0:Nat} {mu:Int} {S:dG} {mp:am->Option Nat} {P:ap} {w w':an} {N N':Nat} {pm N2:am->Option Nat} {U:au} {X:ap}
theorem wo.pq (h:wo kp mk W0 mu S mp P w N pm U X){b:Nat}(hb:P b):Qk kp mk U X b:=by
 obtain⟨h1,h2,h3⟩:=h.hp b hb;exact⟨h2,h3,fun q=>by have:=(h.uu b q).1;omega,h.xx b hb⟩
theorem wo.nq (h:wo kp mk W0 mu S mp P w N pm U X){b:Nat}(hb:w.heap.size<=b):Qk kp mk U X b:=by
 have:=h.w0;have:=h.kl;have:=h.ml;exact⟨by omega,by omega,fun q=>by have:=(h.uu b q).2;omega,h.xn b hb⟩
theorem wo.on (h:wo kp mk W0 mu S mp P w N pm U X)(hk:rI kp mk mu S mp w' N' N2 U X)(hw:dl [mk] w w'):wo kp mk W0 mu S mp P w' N' N2 U X:=
 ⟨hk,h.md.keep fun b hb hl=>hw.block b hl (by simp;exact(h.hp b hb).2.1),aG h.w0 hw.size,fun u hu=>⟨(h.uu u hu).1,aC (h.uu u hu).2 hw.size⟩,h.xx,fun b hb=>h.xn b (aG hw.size hb),h.hp,h.kl,h.ml⟩
theorem rI.keep (h:rI kp mk mu S mp w N pm U X)(hk:∀b,b<w.heap.size->w'.heap[b]?=w.heap[b]?):rI kp mk mu S mp w' N pm U X:=
 ⟨(hk _ h.kb.lt).trans h.kb,h.mb.keep (hk _ h.mb.lt),h.ne,h.ct,h.inj,fun t p hp=>by
  rcases h.pl t p hp with⟨h1,h2,h3⟩|⟨d,gs,h1,h2,h3⟩
  ·exact .inl ⟨h1,(hk _ h2.lt).trans h2,h3⟩
  ·exact .inr ⟨d,gs,h1,h2,h3.keep (fun b _ hl=>hk b hl) (fun _ _ q=>q)⟩⟩
theorem rI.lt (h:rI kp mk mu S mp w N pm U X){t:am}{p:Nat}(hp:pm t=some p):p<w.heap.size:=by
 rcases h.pl t p hp with⟨_,h2,_⟩|⟨d,gs,_,_,v,l,h3,_⟩
 ·exact h2.lt
 ·exact h3.lt
theorem wo.keep (h:wo kp mk W0 mu S mp P w N pm U X)(hb:aj w w'):wo kp mk W0 mu S mp P w' N pm U X:=h.on (h.ok.keep fun b hl=>hb.block b hl) (.of_below hb)
theorem rI.begin {w2:an}{d:MT}(h:rI kp mk mu S mp w N pm U X)(hd:S.msg d.name=some d)(h0:pm d.name=none)(hg:((w.alloc (.cells #[ah] 254))).grownBy w2 (some mk))(hm:eI w2 mk (N+1) (gW pm d.name w.heap.size)):
  rI kp mk mu S mp w2 (N+1) (gW pm d.name w.heap.size) (w.heap.size::U) X:=by
 have N7:∀t p,pm t=some p->gW pm d.name w.heap.size t=some p:=fun t p hp=>by
  unfold gW
  split
  ·rename_i q
   rw[show t=d.name from gX (fX.1 q),h0]at hp
   cases hp
  ·exact hp
 have h1:gW pm d.name w.heap.size d.name=some w.heap.size:=by
  unfold gW;rw[if_pos (fX.2 rfl)]
 have N8:∀t p,gW pm d.name w.heap.size t=some p->(t=d.name/\p=w.heap.size)\/pm t=some p:=fun t p hp=>by
  unfold gW at hp
  split at hp
  ·rename_i q
   cases hp
   exact .inl ⟨gX (fX.1 q),rfl⟩
  ·exact .inr hp
 have N3:∀b,b≠mk->b<w.heap.size->w2.heap[b]?=w.heap[b]?:=fun b hb hl=>(hg.block b (by simp;omega) (fun e=>hb (Option.some.inj e))).trans (Below.heap_alloc _ _ b hl)
 have KP:de w2 w.heap.size #[ah] 254:=(de.new w _ _).grown hg (fun e=>by have:=h.mb.lt;have:=Option.some.inj e;omega);have Ox:=wj N7 (jn hd) h0 h1;refine⟨(N3 _ (fun e=>h.ne e.symm) h.kb.lt).trans h.kb,hm,h.ne,by have:=h.ct;omega,fun t t' p q1 q2=> ?_,fun t p hp=> ?_⟩
 ·rcases N8 t p q1 with⟨e1,e2⟩|e1
  ·rcases N8 t' p q2 with⟨e3,_⟩|e3
   ·rw[e1,e3]
   ·have:=h.lt e3;omega
  ·rcases N8 t' p q2 with⟨e3,e4⟩|e3
   ·have:=h.lt e1;omega
   ·exact h.inj t t' p e1 e3
 ·rcases N8 t p hp with⟨rfl,rfl⟩|OF
  ·exact .inl ⟨by simp,KP,d,hd⟩
  ·rcases h.pl t p OF with⟨q1,q2,q3⟩|⟨d',gs,q1,q2,q3⟩
   ·refine .inl ⟨by simp[q1],(N3 p (fun e=> ?_) q2.lt).trans q2,q3⟩;subst e;obtain⟨D,hD,_⟩:=h.mb;obtain⟨_,_,Ol,_⟩:=hD;unfold de at q2;rw[Ol]at q2
    cases q2
   ·refine .inr ⟨d',gs,q1,q2,q3.move (fun b hb hl=>⟨⟨hb.1,hb.2.1,?_,hb.2.2.2⟩,N3 b hb.1 hl⟩) N7⟩;intro e
    rcases aL.1 e with e|e
    ·omega
    ·exact hb.2.2.1 e
theorem rI.done {w3:an}{p:Nat}{v:Value}{l:List py}{d:MT}{gs:List GF}(h:rI kp mk mu S mp w3 N pm (p::U) X)(hp:pm d.name=some p)(hd:S.msg d.name=some d)(hG:ja S mp d gs)(hpU:p∉U)(hpk:p≠mk/\p≠kp/\X p)(hb:de w3 p #[ah] 254)
  (Oa:dJ w3 (Qk kp mk (p::U) X) 268 8 v l.length (l.flatMap gB)) (hs:fY w3 (Qk kp mk (p::U) X) mp (jE w3 (Qk kp mk (p::U) X) mp pm) (gz w3 (Qk kp mk (p::U) X) mp pm) gs l):rI kp mk mu S mp (w3.setCell (ai p 0) v) N pm U X:=by
 have N3:∀b,b≠p->(w3.setCell (ai p 0) v).heap[b]?=w3.heap[b]?:=fun b OG=>dp (fun e=>OG e.symm)
 have Og:Mv w3 (Qk kp mk (p::U) X) (w3.setCell (ai p 0) v) (Qk kp mk U X):=fun b q _=>⟨⟨q.1,q.2.1,fun e=>q.2.2.1 (by simp[e]),q.2.2.2⟩,N3 b (fun e=>q.2.2.1 (by simp[e]))⟩
 refine⟨(N3 _ (fun e=>hpk.2.1 e.symm)).trans h.kb,h.mb.keep (N3 _ (fun e=>hpk.1 e.symm)),h.ne,h.ct,h.inj,fun t q hq=> ?_⟩
 by_cases e:q=p
 ·subst e;obtain rfl:=h.inj _ _ _ hq hp;refine .inr ⟨d,gs,hd,hG,v,l,by simpa using hb.set 0 v,⟨hpk.1,hpk.2.1,hpU,hpk.2.2⟩,Oa.move Og,hs.move Og (fun g _ u hu=>hu.move Og (fun _ _ q=>q)) fun g _ u hu=>hu.move Og (fun _ _ q=>q)⟩
 ·rcases h.pl t q hq with⟨q1,q2,q3⟩|⟨d',OH,q1,q2,q3⟩
  ·rcases aL.1 q1 with e'|e'
   ·exact absurd e' e
   ·exact .inl ⟨e',(N3 q e).trans q2,q3⟩
  ·exact .inr ⟨d',OH,q1,q2,q3.move Og (fun _ _ q=>q)⟩
end
section
variable (kp mk W0:Nat) (mu:Int) (S:dG) (mp:am->Option Nat) (P:ap)
def Bt (n:Nat)(gs:List GF):Prop:=∀(w:an) (N:Nat) (pm:am->Option Nat) (U:au) (X:ap) (mb:Nat) (nm:am),wo kp mk W0 mu S mp P w N pm U X->lz S pm<=n->gD w P mp mb nm gs->gs.length<=2001->
 Calls Tryz.prog 140 #[ag kp,ag mb] w (J9 kp mk mu S mp w pm U X fun w' N2 v=>∃l,dJ w' (Qk kp mk U X) 268 8 v l.length (l.flatMap gB)/\fY w' (Qk kp mk U X) mp (jE w' (Qk kp mk U X) mp N2) (gz w' (Qk kp mk U X) mp N2) gs l)
def M2 (n:Nat):Prop:=∀(w:an) (N:Nat) (pm:am->Option Nat) (U:au) (X:ap) (mb:Nat) (d:MT) (gs:List GF),wo kp mk W0 mu S mp P w N pm U X->lz S pm<=n->S.msg d.name=some d->gD w P mp mb d.name gs->ja S mp d gs->d.name.size<=2000->
 Calls Tryz.prog 88 #[ag kp,ag mb] w (J9 kp mk mu S mp w pm U X fun _ N2 v=>∃p,v=ag p/\N2 d.name=some p)
def sG (n:Nat)(g:GF):Prop:=∀(w:an) (N:Nat) (pm:am->Option Nat) (U:au) (X:ap) (fb:Nat),wo kp mk W0 mu S mp P w N pm U X->lz S pm<=n->dP w P mp g fb->
 Calls Tryz.prog 207 #[ag kp,ag fb] w (J9 kp mk mu S mp w pm U X fun w' N2 v=>gz w' (Qk kp mk U X) mp N2 g v)
theorem DF (w:an):(zeroValue 116).run Tryz.prog w= .ok (.pointer none) w:=by kernel_rfl
theorem eI.lookP {w:an}{b n:Nat}{mp:am->Option Nat}(h:eI w b n mp)(s:am)(hs:s.size<=maxLen):
  (Instr.lookup 161 (.map (some b)) (ae s) false).run Tryz.prog w= .ok (ft (mp s)) w:=by
 obtain⟨D,h1,h2⟩:=h;obtain⟨v,ps,Oj,hR⟩:=h1.lookup CV Tryz.underlying161 (DF w) (jk none) (CX s hs);have e:=h2 s;unfold lI at e;rw[e]at hR;rw[Oj,mZ hR]
theorem M4 (n:Nat)(HS:∀m gs,m<n->Bt kp mk W0 mu S mp P m gs):M2 kp mk W0 mu S mp P n:=by
 intro w N pm U X mb d gs I hn hd hM hG hsz;obtain⟨fv,fbs,h1,hPb,Oa,OI⟩:=id hM;obtain⟨fa,fn,fc,rfl⟩:=df Oa.1;have hl:=fun q=>eI.lookP (w:=w.drewN q) (I.ok.mb.keep rfl) d.name (by unfold maxLen;omega)
 obtain⟨k1,k2⟩:=I.ok.kb.rules;obtain⟨k3,k4⟩:=h1.rules
 cases hpm:pm d.name with
 |some p=>
  rw[hpm]at hl;unfold ft at hl;have hl0:=hl 0;go_enter Tryz.func88,Tryz.ntmps88
  go_upto_region 1 with fail
  go_quiet (fail)
  go_wp2;go_ret;exact⟨_,N,pm,rfl,⟨p,rfl,hpm⟩,I.ok.keep (fun _ _=>rfl),fun _ _ q=>q,(dl.refl _ _).drewN _⟩
 |none=>
  rw[hpm]at hl;unfold ft at hl;go_enter Tryz.func88,Tryz.ntmps88
  go_upto_region 1 with fail
  go_quiet (fail)
  have bq:aj w (w.drewN nq):=gC (Below.refl _ _) nq;have I1:=I.keep bq;have Oy:=h1.below bq h1.lt;have Oz:=hM.keep (w':=w.drewN nq) (fun b _ hl=>bq.block b hl);have kq:dl [mk] w (w.drewN nq):= .of_below bq;clear k1 k2 k3 k4 hl h1 hM Oa OI I bq;generalize w.drewN nq=w1 at*;obtain⟨D,Om,Ov⟩:=I1.ok.mb;have Ok:(w1.alloc (ak #[ah] 254)).drew.ownsMap Tryz.prog 9 eU mk N D:=Om.alloc _;have hct:=I1.ok.ct;obtain⟨w2,Oj,Ob,Of⟩:=Ok.update CV Tryz.underlying161 (by unfold maxLen;omega) (key:=ae d.name) (val:=ag w1.heap.size) (CX d.name (by unfold maxLen;omega)) (jk (some w1.heap.size));have Oh:(w1.alloc (ak #[ah] 254)).grownBy w2 (some mk):=⟨Of.os,Of.tape,Of.output,Of.size,Of.block⟩;have Ot:=eI.put (b:=w1.heap.size) Ok Ov Ob;have ok2:=I1.ok.begin hd hpm Oh Ot;have Oe:dl [mk] w1 w2:=((dl.refl _ _).alloc _).trans (dl.of_grown Oh);have OA:w1.heap.size<w2.heap.size:=by have:=Oh.size;simp at this;omega
  have I2:wo kp mk W0 mu S mp P w2 (N+1) (gW pm d.name w1.heap.size) (w1.heap.size::U) X:=
   ⟨ok2,I1.md.keep fun b hb hl=>Oe.block b hl (by simp;exact(I1.hp b hb).2.1),aG I1.w0 Oe.size,fun u hu=>by
    rcases aL.1 hu with rfl|hu
    ·exact⟨I1.w0,OA⟩
    ·exact⟨(I1.uu u hu).1,aC (I1.uu u hu).2 Oe.size⟩,I1.xx,fun b hb=>I1.xn b (aG Oe.size hb),I1.hp,I1.kl,I1.ml⟩
  have N7:∀t p,pm t=some p->gW pm d.name w1.heap.size t=some p:=fun t p hp=>by
   unfold gW
   split
   ·rename_i q
    rw[show t=d.name from gX (fX.1 q),hpm]at hp
    cases hp
   ·exact hp
  have Od:gW pm d.name w1.heap.size d.name=some w1.heap.size:=by
   unfold gW;rw[if_pos (fX.2 rfl)]
  have Ox:=wj N7 (jn hd) hpm Od;obtain⟨n',rfl⟩:∃n',n=n'+1:=⟨n-1,by omega⟩;have OB:=HS n' gs (by omega) w2 (N+1) _ _ X mb d.name I2 (by omega) (Oz.keep fun b hb hl=>Oe.block b hl (by simp;exact(I1.hp b hb).2.1)) hG.len;have OC:de w2 w1.heap.size #[ah] 254:=(de.new w1 _ _).grown Oh (fun e=>by have:=Om.lt;have:=Option.some.inj e;omega);have Oi:=I1.nq (ay _);obtain⟨k1,k2⟩:=(I1.ok.kb.alloc (ak #[ah] 254)).rules;obtain⟨k3,k4⟩:=(Oy.alloc (ak #[ah] 254)).rules
  have OD:Hid (∀(w3:an) (N':Nat) (N2:am->Option Nat) (v:Value) (l:List py),rI kp mk mu S mp w3 N' N2 (w1.heap.size::U) X->N2 d.name=some w1.heap.size->de w3 w1.heap.size #[ah] 254->dJ w3 (Qk kp mk (w1.heap.size::U) X) 268 8 v l.length (l.flatMap gB)->fY w3 (Qk kp mk (w1.heap.size::U) X) mp (jE w3 (Qk kp mk (w1.heap.size::U) X) mp N2) (gz w3 (Qk kp mk (w1.heap.size::U) X) mp N2) gs l->rI kp mk mu S mp (w3.setCell (ai w1.heap.size 0) v) N' N2 U X):=
   fun w3 N' N2 v l h1 h2 h3 h4 h5=>h1.done h2 hd hG Oi.2.2.1 ⟨Oi.1,Oi.2.1,Oi.2.2.2⟩ h3 h4 h5
  have OE:w1.heap.size≠mk:=Oi.1;clear Of Ok Om Ov Ob Ot Oh HS;go_upto_region 5 with fail
  go_region
  all_goals
   go_wp2_with fail
   refine OB.mono ?_;rintro e w3 ⟨v,N',N2,rfl,⟨l,Oc,Oo⟩,OJ,Oq,Ow⟩;have Ou:de w3 w1.heap.size #[ah] 254:=OC.kept Ow (by simp;exact OE);obtain⟨va,vn,vc,rfl⟩:=df Oc.1;obtain⟨k5,k6⟩:=Ou.rules;go_wp2;go_ret;refine⟨_,N',N2,rfl,⟨_,rfl,Oq _ _ Od⟩,OD.out w3 N' N2 _ l OJ (Oq _ _ Od) Ou Oc Oo,fun t p q=>Oq _ _ (N7 t p q),?_⟩;exact(kq.trans (Oe.trans Ow)).freshP kq.size 0 _
end
end
section
variable {P:Program} {ops:Array Oper} {Q:Exit->Act->an->Prop}
theorem qW (l:List Bool)(i:Nat)(h:l[i]?=some false):(l.set i true).count false+1=l.count false:=by
 induction l generalizing i with
 |nil=>cases h
 |cons x xs ih=>
  cases i with
  |zero=>simp only[ci,Option.some.injEq]at h;subst h;simp
  |succ i=>
   simp only[ch]at h;have q:=ih i h;simp only[aB,List.count_cons];omega
theorem oq {L:Array Bool}{i:Nat}(h:L.getD i true=false):L.toList[i]?=some false:=by
 rw[bi];rw[Array.getD_eq_getD_getElem?]at h
 cases hq:L[i]? with
 |none=>rw[hq]at h;cases h
 |some x=>rw[hq]at h;exact congrArg some h
def CH (P:Program)(ops:Array Oper)(Q:Exit->Act->an->Prop)(J:Array Bool->Act->an->Prop)(i:Nat)(o:Oper):Prop:=
 ∀L a w,J L a w->L.getD i true=false->(o.after.all fun e=> !Region.binds .any e||L.getD e.on false)=true->
  ∀K:Act->an->Prop,Shut (∀a' w',J (L.setIfInBounds i true) a' w'->K a' w')->
   if Region.wanted o (yielded ops a.tmps)=true then Oper.wp P o a w K Q else K (a.put o.dst undef) w
theorem dK {af:Array Edge}{L:Array Bool}{k:Nat}(hd:(af.all fun e=> !Region.binds .any e||L.getD e.on false)=true)(hk:(af.any fun e=>Region.binds .any e&&e.on==k)=true):L.getD k false=true:=by
 obtain⟨i,hi,h⟩:=Array.any_eq_true.1 hk;rw[aT]at h;have q:=Array.all_eq_true.1 hd i hi;rw[h.1,cr,cz,beq_iff_eq.1 h.2]at q;exact q
def kJ (P:Program)(ops:Array Oper)(Q:Exit->Act->an->Prop)(J:Array Bool->Act->an->Prop)(k:Nat)(l:List Oper):Prop:=∀j o,l[j]?=some o->CH P ops Q J (k+j) o
theorem kJ.nil {J:Array Bool->Act->an->Prop}{k:Nat}:kJ P ops Q J k []:=fun j o h=>by cases h
theorem kJ.cons {J:Array Bool->Act->an->Prop}{k:Nat}{o:Oper}{l:List Oper}(h:CH P ops Q J k o)(hs:kJ P ops Q J (k+1) l):kJ P ops Q J k (o::l):=fun j x hx=>by
 cases j with
 |zero=>simp only[ci,Option.some.injEq]at hx;subst hx;exact h
 |succ j=>simp only[ch]at hx;have q:=hs j x hx;rwa [Nat.add_right_comm,Nat.add_assoc]at q
def Gf (ops:Array Oper):Bool:=(List.range ops.size).all fun i=>((ops[i]?).map fun o=>o.after.all fun e=> !Region.binds .any e||decide (e.on<i)).getD true
theorem DG (hb:Gf ops=true){L:Array Bool}(h:Region.ready .any ops L= [])(n:Nat):∀i,i<n->i<ops.size->L.getD i true=true:=by
 induction n with
 |zero=>intro i hi;omega
 |succ n ih=>
  intro i hi hl
  by_cases hn:i<n
  ·exact ih i hn hl
  have e:i=n:=by omega
  subst e
  cases hg:L.getD i true with
  |true=>rfl
  |false=>
   have hm:i∈Region.ready .any ops L:=by
    refine mem_ready.2 ⟨hg,_,bo hl,fun e he N7=> ?_⟩;have q:=List.all_eq_true.1 hb i (List.mem_range.2 hl);rw[bo hl]at q;have q1:=Array.all_eq_true_iff_forall_mem.1 q e he;rw[N7,cr,cz]at q1;have q2:=of_decide_eq_true q1;have q3:=ih e.on q2 (by omega)
    have q4:e.on<L.size:=by
     have q5:=oq hg;rw[bi]at q5;obtain⟨q6,_⟩:=Array.getElem?_eq_some_iff.1 q5;omega
    rw[Array.getD_eq_getD_getElem?,bo q4]at q3⊢;exact q3
   rw[h]at hm
   cases hm
theorem DH {L:Array Bool}(h:L.toList.count false=0)(i:Nat):L.getD i true=true:=by
 cases hg:L.getD i true with
 |true=>rfl
 |false=>
  have q:=qW _ _ (oq hg);omega
theorem DI {J:Array Bool->Act->an->Prop}(hb:Gf ops=true)(hs:kJ P ops Q J 0 ops.toList)(hd:∀L a w,J L a w->(∀i,i<ops.size->L.getD i true=true)->Q .normal a w):
  ∀(fuel:Nat) (L:Array Bool) (a:Act) (w:an),L.toList.count false<=fuel->J L a w->wpAny P .any ops Q fuel L a w:=by
 intro fuel
 induction fuel with
 |zero=>
  intro L a w hc hj;refine⟨List.eq_nil_iff_forall_not_mem.2 fun i hi=> ?_,hd _ _ _ hj fun i _=>DH (by omega) i⟩;have q:=qW _ _ (oq (mem_ready.1 hi).1);omega
 |succ n ih=>
  intro L a w hc hj;refine⟨fun h0=>hd _ _ _ hj fun i hi=>DG hb h0 (i+1) i (Nat.lt_succ_self i) hi,fun i hi=> ?_⟩;obtain⟨h0,o,ho,N2⟩:=mem_ready.1 hi;have q:=qW _ _ (oq h0);have N3:=hs i o (by rw[bi];exact ho);rw[Nat.zero_add]at N3;refine wpOp_step ho fun K' hK=>N3 L a w hj h0 ?_ K' fun a' w' N8=>hK a' w' (ih _ a' w' ?_ N8)
  ·rw[Array.all_eq_true_iff_forall_mem];intro e he
   cases hb:Region.binds .any e with
   |false=>rfl
   |true=>simpa using N2 e he hb
  ·rw[Array.toList_setIfInBounds];omega
theorem iC {id:Nat}{a:Act}{w:an}(J:Array Bool->Act->an->Prop)(hm:P.follows .mixedOrders=true)(h0:J (Array.replicate ops.size false) a w.drew)
  (hb:Gf ops=true) (hd:∀L a w,J L a w->(∀i,i<ops.size->L.getD i true=true)->Q .normal a w) (hs:kJ P ops Q J 0 ops.toList):(Code.region id ops true).wp P Q a w:=
 wp_region_any hm (DI hb hs hd _ _ _ _ (by simp) h0)
end
structure Bx (lo:Nat)(W:an)(on st vr:Bool)(t:Value)(b:Nat)(T:TypeId)(v:Value):Prop where
 made:on=true->t=ag b/\lo<=b/\gG W b T
 put:st=true->de W b #[v] T
 dep:st=true->on=true/\vr=true
section
variable {lo:Nat} {W W':an} {on st vr:Bool} {t:Value} {b:Nat} {T:TypeId} {v:Value}
theorem Bx.start:Bx lo W false false false t b T v:=⟨nofun,nofun,nofun⟩
theorem Bx.below (h:Bx lo W on st vr t b T v)(hb:Below W.heap.size W W'):Bx lo W' on st vr t b T v:=
 ⟨fun e=>by
  obtain⟨h1,h2,u,h3⟩:=h.made e
  exact⟨h1,h2,u,h3.below hb h3.lt⟩,fun e=>(h.put e).below hb (h.put e).lt,h.dep⟩
theorem Bx.alloc (h:Bx lo W on st vr t b T v)(o:Obj):Bx lo (W.alloc o) on st vr t b T v:=h.below ((Below.refl _ _).alloc (ay _) o)
theorem Bx.val (h:Bx lo W on st false t b T v)(v':Value):Bx lo W on st true t b T v':=
 ⟨h.made,fun e=>(by cases(h.dep e).2),fun e=>(by cases(h.dep e).2)⟩
theorem Bx.new (h:Bx lo W false st vr t b T v)(hl:lo<=W.heap.size)(u:Value):Bx lo (W.alloc (.cells #[u] T)) true st vr (ag W.heap.size) W.heap.size T v:=
 ⟨fun _=>⟨rfl,hl,u,de.new _ _ _⟩,fun e=>(by cases(h.dep e).1),fun e=>(by cases(h.dep e).1)⟩
theorem Bx.store (h:Bx lo W true st true t b T v):Bx lo (W.setCell (ai b 0) v) true true true t b T v:=by
 obtain⟨h1,h2,h3⟩:=h.made rfl;have q:=de.set1 h3 v;exact⟨fun _=>⟨h1,h2,v,q⟩,fun _=>q,fun _=>⟨rfl,rfl⟩⟩
theorem Bx.other (h:Bx lo W on st vr t b T v){c:Nat}(hne:on=true->c≠b)(x:Value):Bx lo (W.setCell (ai c 0) x) on st vr t b T v:=
 ⟨fun e=>by
  obtain⟨h1,h2,h3⟩:=h.made e
  exact⟨h1,h2,h3.other 0 x (hne e)⟩,fun e=>(h.put e).other 0 x (hne (h.dep e).1),h.dep⟩
theorem Bx.lt (h:Bx lo W on st vr t b T v)(e:on=true):b<W.heap.size:=by
 obtain⟨_,_,u,h3⟩:=h.made e;exact h3.lt
end
def lA (on1 on2:Bool)(b1 b2:Nat):Prop:=on1=true->on2=true->b1≠b2
theorem lA.symm {on1 on2:Bool}{b1 b2:Nat}(h:lA on1 on2 b1 b2):lA on2 on1 b2 b1:=fun e1 e2 e=>h e2 e1 e.symm
theorem lA.new1 {lo:Nat}{W:an}{on st vr:Bool}{t:Value}{b:Nat}{T:TypeId}{v:Value}(h:Bx lo W on st vr t b T v):lA true on W.heap.size b:=fun _ e q=>by
 have:=h.lt e;omega
theorem lA.new2 {lo:Nat}{W:an}{on st vr:Bool}{t:Value}{b:Nat}{T:TypeId}{v:Value}(h:Bx lo W on st vr t b T v):lA on true b W.heap.size:=(lA.new1 h).symm
def DJ (on vr:Bool)(b n1 n2:Nat):Prop:=on=true->vr=true->b<n1\/n2<=b
section
variable {lo:Nat} {W W':an} {on:Bool} {t:Value} {b:Nat} {T:TypeId} {n:Nat}
end
theorem fQ {W:an}{b:Nat}{T:TypeId}(h:gG W b T):∃u,(∀off,W.cell? (ai b off)=(#[u]:Array Value)[off]?)/\(∀off,W.frozen? (ai b off)=false):=by
 obtain⟨u,h⟩:=h;exact⟨u,h.rules⟩
end Go.Proofs.YtfebdimolnobaaaGreatDoor
