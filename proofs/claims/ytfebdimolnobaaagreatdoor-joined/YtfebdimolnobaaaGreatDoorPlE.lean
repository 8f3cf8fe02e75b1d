import Derived.Test.YtfebdimolnobaaaGreatDoorEnO
set_option maxRecDepth 100000
set_option maxHeartbeats 8000000
set_option linter.all false
namespace Go.Proofs.YtfebdimolnobaaaGreatDoor
open Go.RowKit Go.Proofs.Tryz
section
open Go.Maps
open Uq
def Qh (S:d8)(b:am)(w:an)(d:MT)(pb:Nat)
  (h:∀(w3:an) (Z:ap) (rb db:Nat),aj w w3->dW w3 rb (b.extract 0 b.size) 0 1->ek S 8 (some d) w3 Z db PM.none->(∀x,Z x->w.heap.size<=x/\x<w3.heap.size)->w.heap.size<=rb->¬Z rb->
   Ua 89 #[ag pb,ag rb,ag db] w3 (g6 S 7 d w3 Z rb db (b.extract 0 b.size) 1 (oS b.size (eE S b (b.size+1) d PM.none 0 b.size 1)))):
  Calls prog 49 #[ag pb,ae b] w (lI w (eE S b (b.size+1) d PM.none 0 b.size 1)):=by
 have hex:b.extract 0 b.size=b:=Uf;have B1:aj w (w.alloc (ak #[ah,T9] 49)):=(Below.refl _ _).alloc (ay _) _;have B2:=B1.alloc Uf (ak #[ah,ah] 183);have B3:=B2.alloc Ug (ak #[ae b,aa 0,aa 1] 244);have KR:=((dM.new w #[ah,T9] 49).alloc (ak #[ah,ah] 183)).alloc (ak #[ae b,aa 0,aa 1] 244);have KD:=(dM.newAt (w:=w.alloc (ak #[ah,T9] 49)) (n:=w.heap.size+1) Uf #[ah,ah] 183).alloc (ak #[ae b,aa 0,aa 1] 244);have KW:=dM.newAt (w:=(w.alloc (ak #[ah,T9] 49)).alloc (ak #[ah,ah] 183)) (n:=w.heap.size+1+1) Uf #[ae b,aa 0,aa 1] 244;have Uq:=Jd ((w.alloc (ak #[ah,T9] 49)).alloc (ak #[ah,ah] 183)) b;simp only[cj]at Uq;go_in
 go_wp2_with fail;refine Uq.mono ?_;rintro e w' ⟨rfl,rfl⟩;have hsz:w.heap.size+3=(((w.alloc (ak #[ah,T9] 49)).alloc (ak #[ah,ah] 183)).alloc (ak #[ae b,aa 0,aa 1] 244)).heap.size:=Uf;clear Uq B1 B2;go_wp2_with fail;generalize(((w.alloc (ak #[ah,T9] 49)).alloc (ak #[ah,ah] 183)).alloc (ak #[ae b,aa 0,aa 1] 244))=w3 at*;have Us:=h w3 (λx=>x=w.heap.size+1) (w.heap.size+1+1) (w.heap.size+1) B3 (by rw[hex];exact KW) (ek.fresh KD) (λx hx=>by subst hx;omega) Ue Ue;refine Us.mono ?_;intro e w4 hq
 rcases hq.part with⟨x,hP,rfl,Z',st⟩|⟨m',hP,rfl,Z',st,hdr⟩
 ·unfold dL;go_wp2;exact⟨rfl,rfl,B3.trans (st.belowW Ue (λx hx=>Ue) Ue)⟩
 ·have B4:aj w w4:=B3.trans (st.belowW Ue (λx hx=>Ue) Ue);have Ut:dM w4 w.heap.size #[ah,T9] 49:=(st.block w.heap.size Ue Ue Ue).trans KR;have z4:=st.size;have hg:=st.grow;clear Us hq st;go_wp2_with fail;refine(xJ (S:=S) 8 (some d) w4 Z' (w.heap.size+1) m' hdr).mono ?_;rintro e w5 ⟨v,Z2,rfl,hm,Uw,Ux⟩;obtain⟨va,vc,rfl⟩:=hm.form;have Uu:=Ut.below Ux Ut.lt;have⟨r1,r2⟩:=Uu.rules
  have Ur:∀x,Z2 x->w.heap.size<x:=λx hx=>by
   rcases(Uw x hx).2 with h|h
   ·rcases hg x h with h|h
    ·omega
    ·omega
   ·omega
  go_wp2
  have Uy:∀x,Z2 x->x<w5.heap.size->((w5.setCell (ai w.heap.size 0) (.slice va m'.fs.length vc)).setCell (ai w.heap.size 1) (ae m'.unk)).heap[x]?=w5.heap[x]?:=λx hx _=>by
   have Uv:w.heap.size≠x:=by have:=Ur x hx;omega
   rw[dK,dD Uv,dK,dD Uv]
  rw[hP];refine dG (ec results49 _ _ rfl ((Uu.set 0 _).set 1 _) underlying49 Uj) rfl ⟨_,Z2,rfl,hm.keep Uy,λx hx=>⟨ck (Ur x hx),by simp only[cy];exact(Uw x hx).1⟩,?_⟩;exact((dI B4 Ux).setCell (p:=(ai w.heap.size 0)) (ay _) _).setCell (p:=(ai w.heap.size 1)) (ay _) _
end
section
open Go.Maps
section
variable {w:an} {P:ap} {v:Value} {bs:List dQ} {y:List YM}
def yg (hM:fI w P v bs y)(h:jK bs):La w P (dU bs) (lR (y.map (·.1))):=by
 refine⟨λt d ht=> ?_,λt ht=> ?_⟩
 ·have⟨i,m,hi,h1,h2,_,_,h3,_⟩:=qq hM h ht;have UE:=aI hi;refine⟨m.1.2,m.2,h1,by rw[<-h2];exact hM.msg m UE,h3,?_⟩;have UK:m.1.1∈dY bs:=by rw[<-hM.names];exact aP.2 ⟨m,UE,rfl⟩
  have⟨b,UA,UO⟩:=aP.1 UK;rw[<-h2,<-UO];exact(h.ok.ok b (bw.1 UA).1).name
 ·have hz:(y.map (·.1)).map (·.1)=dY bs:=by rw[bB];exact hM.names
  have hs:(lR (y.map (·.1)) t).isSome=true:=by
   unfold i8 at ht
   split at ht
   ·exfalso;have e:mN.length=15:=Ui;unfold nw at ht
    cases hq:CF mN t.toList 0 with
    |none=>rw[hq]at ht;cases ht
    |some k=>
     rw[hq]at ht;have:=AW _ _ _ _ hq;simp at ht;omega
   ·split at ht
    ·assumption
    ·cases ht
  rw[rl,hz]at hs;have⟨_,b,_,_,h2,_⟩:=px h.ok hz hs;exact⟨_,h2⟩
def Ap (hM:fI w P v bs y)(h:jK bs){i:Nat}{m:YM}(hi:y[i]?=some m){nm:am}(hn:(m.1.1.toList==nm.toList)=true):
  ∃d gs,(dU bs).msg nm=some d/\iE w P (lR (y.map (·.1))) m.1.2 d.name gs/\kG (dU bs) (lR (y.map (·.1))) d gs/\lw (dU bs) d/\d.name.size<=2000:=by
 have hz:(y.map (·.1)).map (·.1)=dY bs:=by rw[bB];exact hM.names
 have UF:m.1.1.toList=nm.toList:=by simpa using hn
 have Uu:eM (dY bs) nm=true:=(iF _ _).2 ⟨m.1.1,by rw[<-hM.names];exact aP.2 ⟨m,aI hi,rfl⟩,UF⟩;have⟨_,b,_,_,h2,_,_⟩:=px h.ok hz Uu;have⟨j,m2,hj,_,q2,q3,_,q5,q6⟩:=qq hM h h2
 have UG:((y.map (·.1)).map (·.1)).Pairwise (λx y=>x.toList≠y.toList):=by
  rw[hz,iN];exact List.Pairwise.sublist (List.Sublist.map _ dq) h.ok.names
 have e1:m.1.1=m2.1.1:=jd (UF.trans q3.symm);have g1:=qe UG (s:=m.1.1) (b:=m.1.2) (aP.2 ⟨m,aI hi,rfl⟩);have g2:=qe UG (s:=m2.1.1) (b:=m2.1.2) (aP.2 ⟨m2,aI hj,rfl⟩);rw[e1,g2]at g1;have⟨_,_,_,_,_,k4⟩:=(yg hM h).md nm _ h2;exact⟨_,m2.2,h2,by rw[<-Option.some.inj g1,<-q2];exact hM.msg m2 (aI hj),q5,q6,k4⟩
end
def jm (w:an)(kp mk:Nat)(S:d8)(mp:am->Option Nat)(X:ap):Prop:=∃N pm,uW kp mk 0 S mp w N pm [] X
def jm.still {kp mk E B:Nat}{S:d8}{mp:am->Option Nat}{Y Z:ap}(hk:kp<E)(hm:mk<E):pQ E B λw=>jm w kp mk S mp λb=>(Y b/\b<E)\/(B<=b/\¬Z b):=by
 rintro a b ⟨N,pm,h⟩ _ hb;refine⟨N,pm,(hb kp (.inl hk) h.kb.lt).trans h.kb,h.mb.keep (hb mk (.inl hm) h.mb.lt),h.ne,h.ct,h.inj,λt p hp=> ?_⟩
 rcases h.pl t p hp with⟨q1,_⟩|⟨d,gs,q1,q2,q3⟩
 ·cases q1
 ·exact .inr ⟨d,gs,q1,q2,q3.keep (λx q hl=>hb x (q.2.2.2.imp And.right And.left) hl) (λ_ _ q=>q)⟩
def jm.less {w:an}{kp mk:Nat}{S:d8}{mp:am->Option Nat}{X Y:ap}(h:jm w kp mk S mp X)(hx:∀b,X b->b<w.heap.size->Y b):jm w kp mk S mp Y:=by
 obtain⟨N,pm,h⟩:=h;exact⟨N,pm,h.less hx⟩
def Is (MK:pP)(w:an)(sb kp mk:Nat)(v:Value)(bs:List dQ)(y:List YM)(P:ap)(nm b:am)(h1:dM w sb #[v,ag kp] 92)(hM:fI w P v bs y)(h:jK bs)(hu:UOK w)(hbs:b.size<=268435456)
  (Y:ap) (hp:jm w kp mk (dU bs) (lR (y.map (·.1))) Y) (hY:∀x,P x->Y x) (hP:∀x,P x->x≠mk/\x≠kp) (hsb:sb≠mk/\sb≠kp) (hu1:2≠mk/\2≠kp) (hu2:3≠mk/\3≠kp):
  Ua 21 #[ag sb,aa 2,ae nm,ae b] w (kO [mk,kp] (λZ w'=>jm w' kp mk (dU bs) (lR (y.map (·.1))) λx=>(Y x/\x<w.heap.size)\/(w.heap.size+9<=x/\¬Z x)) w (fj (dU bs) nm b)):=by
 have⟨N,pm,ok0⟩:=id hp;have Uv:=ok0.kb.lt;have Uw:=ok0.mb.lt;have UH:∀Z:ap,pQ w.heap.size (w.heap.size+9) λw'=>jm w' kp mk (dU bs) (lR (y.map (·.1))) λx=>(Y x/\x<w.heap.size)\/(w.heap.size+9<=x/\¬Z x):=λ_=>jm.still Uv Uw
 have Ux:∀x∈ [mk,kp],x<w.heap.size:=λx hx=>by
  simp only[aN,bH,or_false]at hx
  rcases hx with rfl|rfl
  ·exact Uw
  ·exact Uv
 have Ur:∀x,x≠mk->x≠kp->x∉ [mk,kp]:=λx h1 h2=>by simp[h1,h2]
 refine Ao _ w Ux UH rfl (hp.less λx hy hl=> .inl ⟨hy,hl⟩) sb v _ bs y P nm b 2 h1 hM (qu hM h) (.inr rfl) (λUP=> ?_) (λi m w0 q0 q1 q2 q3 hi hn hb hsz Ut c0 c1 c2 c3=> ?_)
 ·unfold fj;rw[sQ hM UP]
 ·have UI:fI w (λx=>P x/\x<w.heap.size) v bs y:=hM.mono λx q hl=>⟨q,hl⟩
  have⟨d,gs,g1,g2,g3,g4,g5⟩:=Ap UI h hi hn;have e:fj (dU bs) nm b=eE (dU bs) b (b.size+1) d PM.none 0 b.size 1:=by unfold fj;rw[g1]
  rw[e];have Us:∀q,w.heap.size<=q->q∉ [mk,kp]:=λq hq hx=>by have:=Ux q hx;omega
  have UJ:=m9 g1;refine Qb Ux UH _ w0 hb.size hsz q0 q1 q2 q3 m.1.2 sb kp v b c0 c1 c2 c3 (h1.below hb h1.lt) ⟨Us _ Ut.1,Us _ Ut.2.1,Us _ Ut.2.2.1,Us _ Ut.2.2.2,Ur sb hsb.1 hsb.2⟩ λw1 UA hsz1=> ?_
  have Uq:aj w w1:=dI hb UA;have UL:fI w1 P v bs y:=hM.keep λx _ hl=>Uq.block x hl
  have UM:∀x,(P x/\x<w.heap.size)->x<w.heap.size/\x≠mk/\x≠kp:=λx q=>⟨q.2,hP x q.1⟩
  have md:=(yg UI h).keep (w':=w1) λx q _=>Uq.block x q.2
  have I1:BE kp mk w.heap.size 0 (dU bs) (lR (y.map (·.1))) (λx=>P x/\x<w.heap.size) w1 N pm [] λx=>(Y x/\x<w.heap.size)\/w.heap.size+9<=x:=
   ⟨(ok0.less λx hy hl=> .inl ⟨hy,hl⟩).keep (λx hl=>Uq.block x hl),md,Uq.size,Uf,λx hx=> .inl ⟨hY x hx.1,hx.2⟩,λx hx=> .inr Ue,UM,Uv,Uw⟩
  refine(Ru kp mk w.heap.size (dU bs) (lR (y.map (·.1))) _ MK w1 N pm m.1.2 d gs _ I1 (by rw[UJ];exact g1) (g2.keep λx q _=>Uq.block x q.2) g3 g5).mono ?_;rintro en w2 ⟨p,N',UB,rfl,UQ,ok2,hx2,qF⟩;refine⟨p,rfl,qF,λZ hZ=>⟨N',UB,ok2.less λx q hl=>q.imp id λq=>⟨q,λz=>by have:=hZ x z;omega⟩⟩,?_⟩;have UN:fI w2 P v bs y:=UL.keep λx q hl=>qF.block x hl (Ur x (hP x q).1 (hP x q).2)
  have Uy:UOK w1:=hu.keep (Uq.block _ hu.lt1) (Uq.block _ hu.lt2);have Uz:UOK w2:=Uy.keep (qF.block _ Uy.lt1 (Ur _ hu1.1 hu1.2)) (qF.block _ Uy.lt2 (Ur _ hu2.1 hu2.2));have cx:=Bq UN h Uz
  have pc:mS w2 (λx=>x<w2.heap.size) (dU bs) (lR (y.map (·.1))) UB:=λt q hq=>by
   rcases ok2.pl t q hq with⟨z,_⟩|⟨d',UC,z1,z2,z3⟩
   ·cases z
   ·exact⟨d',UC,z1,z3.move (.mono λx _ hl=>hl) (λ_ _ q=>q),z2⟩
  have⟨d',UC,z1,z2,z3⟩:=pc _ _ UQ
  obtain rfl:d=d':=by
   rw[UJ,g1]at z1;exact Option.some.inj z1
  refine Qh (dU bs) b w2 d p λw3 Z rb db UD hr hd hZ UR US=> ?_
  exact Fi (dU bs) (lR (y.map (·.1))) UB w2.heap.size b (PL h) hbs (b.size+1) w3 Z d PM.none 0 b.size 1 7 p UC rb db (cx.on UD) (pc.keep λx q _=>UD.block x q) (z2.keep (λx q _=>UD.block x q) (λ_ _ q=>q)) z3 g4 hr hd hZ UR US (aL _) (ay _) Ue rfl (WM.none _ _ _)
def c5 (w:an)(t:am)(hmax:t.size<=140737488355328)(hg:GOK w)(hbo:BOK w):
  Calls prog 13 #[ae t] w (Ds w (im t)):=by
 have hmf:= @vD;have B0:=(Uc w).alloc (ay _) (ak #[ae t] 9);generalize hr:im t=r;have HR:Hid (im t=r):=hr;clear hr;go_in
 go_wp2_with fail;refine(Q0 _ w.heap.size t hmax ((dM.new w #[ae t] 9).cell 0) (hg.keep (B0.block _ hg.lt)) (hbo.keep (B0.block _ hbo.lt))).mono ?_;rw[HR.out]
 cases r with
 |error q=>
  obtain⟨k,p⟩:=q;rintro e w2 ⟨he,Uq⟩;obtain rfl:e= .returned (.tuple #[.pointer none,aa k,aa p]):=he;go_wp2;go_ret3
  exact⟨rfl,B0.trans (Uq.mono B0.size)⟩
 |ok bs=>
  rintro e w2 ⟨⟨sb,kp,mk,rfl,v,y,h1,⟨h3,h4,h5,h6⟩,hM,hK⟩,Uq⟩;go_wp2;go_ret3
  exact⟨⟨sb,kp,mk,rfl,v,y,h1,⟨aG B0.size h3,aG B0.size h4,aG B0.size h5,h6⟩,hM.mono (λx hx _=>⟨aG B0.size hx.1,hx.2⟩),hK⟩,B0.trans (Uq.mono B0.size)⟩
section
variable {bs:List dQ} {w w':an} {ks:au} {K:(ap)->an->Prop} {R:Fx PM} {e:Ending}
def lK (w:an)(sb kp mk:Nat)(bs:List dQ)(P:ap):Prop:=
 ∃v y,dM w sb #[v,ag kp] 92/\(P sb/\P kp/\P mk/\sb≠kp/\sb≠mk)/\fI w (λb=>P b/\b≠sb/\b≠kp/\b≠mk) v bs y/\jm w kp mk (dU bs) (lR (y.map (·.1))) P
theorem Qi (h:jK bs):(dU bs).ms.length<=2001:=by
 show((gh bs).map nP).length<=2001;rw[bE];exact aG (bV _ _) h.ok.few
theorem Dr.toP {sb kp mk:Nat}{lo:Nat}(h:Dr w sb kp mk bs lo)(hs:jK bs):lK w sb kp mk bs λb=>lo<=b:=by
 obtain⟨v,y,h1,⟨a1,a2,a3,a4,a5,a6⟩,h3,h4⟩:=h;refine⟨v,y,h1,⟨a1,a2,a3,a4,a5⟩,h3,0,λ_=>none,h4.1,h4.2,a6,?_,λ_ _ _ q=>(by cases q),λ_ _ q=>(by cases q)⟩;have:=Qi hs;have h5:nD (dU bs) (λ_=>none)<=(dU bs).ms.length:=bV _ _;omega
section
variable {w w':an} {sb kp mk:Nat} {bs:List dQ} {P P':ap}
theorem lK.keep (h:lK w sb kp mk bs P)(hk:∀b,P b->b<w.heap.size->w'.heap[b]?=w.heap[b]?):lK w' sb kp mk bs P:=by
 obtain⟨v,y,h1,h2,h3,N,pm,h4⟩:=h;refine⟨v,y,(hk _ h2.1 h1.lt).trans h1,h2,h3.keep (λb q hl=>hk b q.1 hl),N,pm,(hk _ h2.2.1 h4.kb.lt).trans h4.kb,h4.mb.keep (hk _ h2.2.2.1 h4.mb.lt),h4.ne,h4.ct,h4.inj,λt p hp=> ?_⟩
 rcases h4.pl t p hp with⟨q,_⟩|⟨d,gs,q1,q2,q3⟩
 ·cases q
 ·exact .inr ⟨d,gs,q1,q2,q3.keep (λb q hl=>hk b q.2.2.2 hl) (λ_ _ q=>q)⟩
theorem lK.less (h:lK w sb kp mk bs P)(hp:∀b,P b->b<w.heap.size->P' b):lK w sb kp mk bs P':=by
 obtain⟨v,y,h1,⟨a1,a2,a3,a4,a5⟩,h3,N,pm,h4⟩:=h;exact⟨v,y,h1,⟨hp _ a1 h1.lt,hp _ a2 h4.kb.lt,hp _ a3 h4.mb.lt,a4,a5⟩,h3.mono λb q hl=>⟨hp b q.1 hl,q.2⟩,N,pm,h4.less hp⟩
end
theorem kO.imp {K':(ap)->an->Prop}(h:kO ks K w R e w')(hk:∀Z,(∀b,Z b->w.heap.size<=b)->dX ks w w'->K Z w'->K' Z w'):kO ks K' w R e w':=by
 cases R with
 |error x=>exact⟨h.1,h.2.1,hk _ (λ_ q=>q.elim) h.2.1 h.2.2⟩
 |ok m=>
  obtain⟨v,Z',h1,h2,h3,h4,h5⟩:=h;exact⟨v,Z',h1,h2,h3,h4,hk _ (λb q=>(h3 b q).1) h4 h5⟩
theorem Gn.toK (h:Gn w R e w')(hk:∀Z,aj w w'->K Z w'):kO ks K w R e w':=by
 cases R with
 |error x=>exact⟨h.1,.of_below h.2,hk _ h.2⟩
 |ok m=>
  obtain⟨v,Z',h1,h2,h3,h4⟩:=h;exact⟨v,Z',h1,h2,h3,.of_below h4,hk _ h4⟩
theorem Aq (MK:pP)(w:an)(sb kp mk:Nat)(bs:List dQ)(P:ap)(nm b:am)(way:Int)(hs:lK w sb kp mk bs P)(h:jK bs)(hu:UOK w)(hbs:b.size<=268435456)(hw:way=1\/way=2)(hu1:¬P 2)(hu2:¬P 3):
  Ua 21 #[ag sb,aa way,ae nm,ae b] w (kO [mk,kp] (λZ w'=>lK w' sb kp mk bs λx=>(P x/\x<w.heap.size)\/(w.heap.size<=x/\¬Z x)) w (fj (dU bs) nm b)):=by
 have⟨v,y,h1,⟨a1,a2,a3,a4,a5⟩,h3,h4⟩:=id hs
 rcases hw with rfl|rfl
 ·exact(Ir w sb v _ bs y _ nm b h1 h3 h hu hbs).mono λe w' q=>q.toK λZ hb=>(hs.less (P':=λx=>(P x/\x<w.heap.size)\/(w.heap.size<=x/\¬Z x)) λx q hl=> .inl ⟨q,hl⟩).keep λx _ hl=>hb.block x hl
 ·have Uq:mk<w.heap.size/\kp<w.heap.size:=by
   obtain⟨_,_,h5⟩:=h4;exact⟨h5.mb.lt,h5.kb.lt⟩
  refine(Is MK w sb kp mk v bs y _ nm b h1 h3 h hu hbs _ h4 (λx q=>q.1) (λx q=>⟨q.2.2.2,q.2.2.1⟩) ⟨a5,a4⟩ ⟨λe=>hu1 (e▸a3),λe=>hu1 (e▸a2)⟩ ⟨λe=>hu2 (e▸a3),λe=>hu2 (e▸a2)⟩).mono λe w' q=>q.imp λZ hZ kw hp=> ?_
  have hn:∀x,x≠kp->x≠mk->x<w.heap.size->w'.heap[x]?=w.heap[x]?:=λx q1 q2 hl=>kw.block x hl (by simp[q1,q2])
  refine⟨v,y,(hn sb a4 a5 h1.lt).trans h1,⟨.inl ⟨a1,h1.lt⟩,.inl ⟨a2,Uq.2⟩,.inl ⟨a3,Uq.1⟩,a4,a5⟩,(h3.mono (Q:=λx=>(P x/\x≠sb/\x≠kp/\x≠mk)/\x<w.heap.size) λx q hl=>⟨q,hl⟩).keep (λx q hl=>hn x q.1.2.2.1 q.1.2.2.2 hl)|>.mono λx q _=>⟨.inl ⟨q.1.1,q.2⟩,q.1.2⟩,?_⟩;exact hp.less λx q _=>q.imp id λq=>⟨Ue,q.2⟩
end
end
section
open Go.Maps
open Uq
def DR {bs:List dQ}(h:jK bs):DH (dU bs):=λt d hd n f hf=>by
 obtain⟨b,hb,rfl⟩:=aP.1 (iV hd);have⟨UN,UO⟩:=bw.1 hb;have⟨_,hm⟩:=eW hf;have⟨p,hp,hq⟩:=List.mem_flatMap.1 hm;obtain⟨fr,hr,rfl⟩:=aP.1 hq;have:=(h.ok.chk b UN (by simpa using UO)).flds p hp fr hr;have h1:=this.lo;have h2:=this.hi;show 0<=((iJ fr.num.1:Nat):Int)/\((iJ fr.num.1:Nat):Int)<=536870911;omega
abbrev FW (g:Bool):Nat:=bif g then 58 else 54
abbrev FP (g:Bool):Nat:=bif g then 59 else 55
abbrev oV (g:Bool)(b:am):Value:=bif g then aa b.size else ae b
section
variable {ks:au} {K:an->Prop} {E B:Nat}
def SQ (g:Bool)(hK:pQ E B K)(ok:Bool)(v:Value)(w:an)(hk0:K w)(q0 q1 q2 q3 mb:Nat)(a:aw)(n c:Nat)(unk:am)(hc0:w.cell? (ai q0 0)=some (aa 1))(hc1:w.cell? (ai q1 0)=some (ag mb))(hc2:dM w q2 #[.slice a n c,ae unk] 49)
  (h:Ua (FW g) #[ag mb,.agg #[.slice a n c,ae unk]] w (j7 ok v w)):
  Calls prog (FK g) #[ag q0,ag q1,ag q2,ag q3] w (ya ks K ok v w):=by
 have⟨k1,k2⟩:=hc2.rules;have Us:∀w2,aj w w2->K w2:=λw2 b2=>hK w w2 hk0 b2.size λz _ hl=>b2.block z hl
 cases g<;>dsimp only[FK,FW,cond]at*
 go_in
 rotate_left;go_in
 all_goals
  go_wp2_with fail;refine h.mono ?_;intro e w2 hr
  rcases hr.part with⟨rfl,rfl,b2⟩|⟨rfl,y,z,rfl,b2⟩
  ·go_wp2;go_ret;exact⟨.of_below b2,Us w2 b2,rfl⟩
  ·unfold dL;go_wp2;exact⟨rfl,.of_below b2,Us w2 b2,y,_,rfl⟩
def SR (g:Bool)(hK:pQ E B K)(ok:Bool)(v:Value)(w:an)(q0 q1 q2 q3 mb sb kp:Nat)(sv:Value)(a:aw)(n c:Nat)(unk:am)(hc0:w.cell? (ai q0 0)=some (aa 2))(hc1:w.cell? (ai q1 0)=some (ag mb))(hc2:dM w q2 #[.slice a n c,ae unk] 49)(hc3:w.cell? (ai q3 0)=some (ag sb))(hs:dM w sb #[sv,ag kp] 92)
  (hq:q1∉ks/\q2∉ks/\q3∉ks/\sb∉ks)
  (h:Ua 48 #[ag kp,ag mb] w.drew λe w1=>∃p,e= .returned (ag p)/\dX ks w.drew w1/\K w1/\Ua (FP g) #[ag p,.agg #[.slice a n c,ae unk]] w1 (j7 ok v w1)):
  Calls prog (FK g) #[ag q0,ag q1,ag q2,ag q3] w (ya ks K ok v w):=by
 have l1:q1<w.heap.size:=aQ _ _ hc1;have l3:q3<w.heap.size:=aQ _ _ hc3
 have HS:Hid (∀W:an,dX ks w W->W.cell? (ai q1 0)=some (ag mb)/\W.cell? (ai q2 0)=some (.slice a n c)/\W.cell? (ai q2 1)=some (ae unk)/\W.cell? (ai q3 0)=some (ag sb)/\W.cell? (ai sb 1)=some (ag kp)):=λW hk=>
  ⟨(bu (a:=(ai q1 0)) (hk.block q1 l1 hq.1)).trans hc1,(hc2.kept hk hq.2.1).cell 0,(hc2.kept hk hq.2.1).cell 1,(bu (a:=(ai q3 0)) (hk.block q3 l3 hq.2.2.1)).trans hc3,(hs.kept hk hq.2.2.2).cell 1⟩
 have e0:=HS.out w.drew (dX.refl _ w).drew;clear hc1 hc3
 cases g<;>dsimp only[FK,FP,cond]at*
 go_in
 rotate_left;go_in
 all_goals
  go_upto_region 3 with fail
  go_region_held2 (λW=>W.cell? (ai q1 0)=some (ag mb)/\W.cell? (ai q2 0)=some (.slice a n c)/\W.cell? (ai q2 1)=some (ae unk)/\W.cell? (ai q3 0)=some (ag sb)/\W.cell? (ai sb 1)=some (ag kp))
   (first|exact HS.out _ Uv|exact HS.out _ qF|exact e0)
   (first
    |(
      go_at_call 48;refine h.mono ?_;rintro e w2 ⟨p,rfl,UC,Us,UP⟩
      have qF:=dX.ofDrew UC)
    |(
      first|go_at_call 55|go_at_call 59
      refine UP.mono ?_;intro e w3 UQ
      rcases UQ.part with⟨rfl,rfl,b3⟩|⟨rfl,y,z,rfl,b3⟩
      rotate_left
      ·have Uv:=qF.trans (dX.of_below b3);have Ux:=hK w2 w3 Us b3.size λz _ hl=>b3.block z hl
       unfold dL;go_wp2;exact⟨rfl,Uv,Ux,y,_,rfl⟩
      have Uv:=qF.trans (dX.of_below b3)
      have Ux:=hK w2 w3 Us b3.size λz _ hl=>b3.block z hl))
  all_goals
   go_wp2;go_ret;exact⟨Uv,Ux,rfl⟩
end
def jM (S:d8)(nm:am)(m:PM):am×Int:=
 match S.msg nm with
 |none=>(⟨#[]⟩,5)
 |some d=>(if dP S 8 d m=true then⟨(ed S 8 d m).toArray⟩else⟨#[]⟩,if dP S 8 d m=true then 0 else 12)
def SS (g:Bool)(w:an)(sb:Nat)(sv kv:Value)(bs:List dQ)(y:List YM)(P:ap)(nm:am)(Z:ap)(k:Nat)(mv:Value)(m:PM)(h1:dM w sb #[sv,kv] 92)(hM:fI w P sv bs y)(h:jK bs)(hu:UOK w)(hMi:iH k w Z mv m)(hO:oT k m)(hl:∀d,(dU bs).msg nm=some d->(ed (dU bs) 8 d m).length<=140737488355328):
  Ua (FE g) #[ag sb,aa 1,ae nm,.agg #[mv,ae m.unk]] w λe w'=>e= .returned (.tuple #[oV g (jM (dU bs) nm m).1,aa (jM (dU bs) nm m).2])/\aj w w':=by
 obtain⟨a,c,rfl⟩:=hMi.form;refine(Rw g (ks:= []) (K:=λ_=>True) (oV g (jM (dU bs) nm m).1,(jM (dU bs) nm m).2) w Uf (λ_ _ _ _ _=>trivial) trivial sb sv kv bs y P nm a m.fs.length c m.unk 1 h1 hM (qu hM h) (.inl rfl) (λUD=> ?_) (λi ym hi hn=> ?_)).mono λe w' q=>⟨q.1,q.2.1.to_below (ay _) Uf⟩
 ·unfold jM;rw[sQ hM UD]
  cases g<;>rfl
 ·have⟨d,gs,g1,g2,g3,g4⟩:=DQ hM h hi hn;have cx:=Bq hM h hu;refine⟨dP (dU bs) 8 d m,oV g ⟨(ed (dU bs) 8 d m).toArray⟩,by unfold jM;rw[g1];dsimp only;cases dP (dU bs) 8 d m<;>cases g<;>rfl,λw0 q0 q1 q2 q3 hb _ _ c0 c1 c2 _=> ?_⟩;refine SQ g (E:=0) (B:=0) (λ_ _ _ _ _=>trivial) _ _ w0 trivial q0 q1 q2 q3 ym.1.2 a _ c m.unk c0 c1 c2 ?_
  cases g
  ·exact Lf (DR h) w0 Z _ m d ym.1.2 gs d.name k (cx.on hb) (g2.keep λx q _=>hb.block x q) g3 (DR h _ _ g1) (hMi.below hb (ay _)) hO (hl d g1)
  ·exact xZ (DR h) w0 Z _ m d ym.1.2 gs d.name k (cx.on hb) (g2.keep λx q _=>hb.block x q) g3 (DR h _ _ g1) (hMi.below hb (ay _)) hO (hl d g1)
def SU (g:Bool)(MK:pP)(w:an)(sb kp mk:Nat)(sv:Value)(bs:List dQ)(y:List YM)(P:ap)(nm:am)(Z:ap)(k:Nat)(mv:Value)(m:PM)(h1:dM w sb #[sv,ag kp] 92)(hM:fI w P sv bs y)(h:jK bs)(hu:UOK w)(hMi:iH k w Z mv m)(hZ:¬Z mk/\¬Z kp)(hO:oT k m)(hl:∀d,(dU bs).msg nm=some d->(ed (dU bs) 8 d m).length<=140737488355328)
  (Y:ap) (hp:jm w kp mk (dU bs) (lR (y.map (·.1))) Y) (hY:∀x,P x->Y x) (hP:∀x,P x->x≠mk/\x≠kp) (hsb:sb≠mk/\sb≠kp) (hu1:2≠mk/\2≠kp) (hu2:3≠mk/\3≠kp):
  Ua (FE g) #[ag sb,aa 2,ae nm,.agg #[mv,ae m.unk]] w λe w'=>e= .returned (.tuple #[oV g (jM (dU bs) nm m).1,aa (jM (dU bs) nm m).2])/\dX [mk,kp] w w'/\jm w' kp mk (dU bs) (lR (y.map (·.1))) λx=>(Y x/\x<w.heap.size)\/(w.heap.size+6<=x/\¬False):=by
 obtain⟨a,c,rfl⟩:=hMi.form;have⟨N,pm,ok0⟩:=id hp;have Uy:=ok0.kb.lt;have Ur:=ok0.mb.lt;have UF:pQ w.heap.size (w.heap.size+6) λw'=>jm w' kp mk (dU bs) (lR (y.map (·.1))) λx=>(Y x/\x<w.heap.size)\/(w.heap.size+6<=x/\¬False):=jm.still (Z:=λ_=>False) Uy Ur
 have UG:∀x∈ [mk,kp],x<w.heap.size:=λx hx=>by
  simp only[aN,bH,or_false]at hx
  rcases hx with rfl|rfl
  ·exact Ur
  ·exact Uy
 have Ut:∀x,x≠mk->x≠kp->x∉ [mk,kp]:=λx h1 h2=>by simp[h1,h2]
 refine Rw g (oV g (jM (dU bs) nm m).1,(jM (dU bs) nm m).2) w UG UF (hp.less λx hy hl=> .inl ⟨hy,hl⟩) sb sv _ bs y P nm a m.fs.length c m.unk 2 h1 hM (qu hM h) (.inr rfl) (λUD=> ?_) (λi ym hi hn=> ?_)
 ·unfold jM;rw[sQ hM UD]
  cases g<;>rfl
 ·have UH:fI w (λx=>P x/\x<w.heap.size) sv bs y:=hM.mono λx q hl=>⟨q,hl⟩
  have⟨d,gs,g1,g2,g3,g4,g5⟩:=Ap UH h hi hn;have UI:=m9 g1;refine⟨dP (dU bs) 8 d m,oV g ⟨(ed (dU bs) 8 d m).toArray⟩,by unfold jM;rw[g1];dsimp only;cases dP (dU bs) 8 d m<;>cases g<;>rfl,λw0 q0 q1 q2 q3 hb hsz UE c0 c1 c2 c3=> ?_⟩;have Uz:∀q,w.heap.size<=q->q∉ [mk,kp]:=λq hq hx=>by have:=UG q hx;omega
  refine SR g UF _ _ w0 q0 q1 q2 q3 ym.1.2 sb kp sv a _ c m.unk c0 c1 c2 c3 (h1.below hb h1.lt) ⟨Uz _ UE.2.1,Uz _ UE.2.2.1,Uz _ UE.2.2.2,Ut sb hsb.1 hsb.2⟩ ?_;have Uq:aj w w0.drew:=hb.drew;have UK:fI w0.drew P sv bs y:=hM.keep λx _ hl=>Uq.block x hl
  have UL:∀x,(P x/\x<w.heap.size)->x<w.heap.size/\x≠mk/\x≠kp:=λx q=>⟨q.2,hP x q.1⟩
  have md:=(yg UH h).keep (w':=w0.drew) λx q _=>Uq.block x q.2
  have hsz':w0.drew.heap.size=w.heap.size+6:=hsz
  have I1:BE kp mk w.heap.size 0 (dU bs) (lR (y.map (·.1))) (λx=>P x/\x<w.heap.size) w0.drew N pm [] λx=>(Y x/\x<w.heap.size)\/(w.heap.size+6<=x/\¬False):=
   ⟨(ok0.less λx hy hl=> .inl ⟨hy,hl⟩).keep (λx hl=>Uq.block x hl),md,Uq.size,Uf,λx hx=> .inl ⟨hY x hx.1,hx.2⟩,λx hx=> .inr ⟨Ue,id⟩,UL,Uy,Ur⟩
  refine(Ru kp mk w.heap.size (dU bs) (lR (y.map (·.1))) _ MK w0.drew N pm ym.1.2 d gs _ I1 (by rw[UI];exact g1) (g2.keep λx q _=>Uq.block x q.2) g3 g5).mono ?_;rintro en w2 ⟨p,N',UJ,rfl,UR,ok2,hx2,qF⟩;refine⟨p,rfl,qF,⟨N',UJ,ok2⟩,?_⟩;have UM:fI w2 P sv bs y:=UK.keep λx q hl=>qF.block x hl (Ut x (hP x q).1 (hP x q).2)
  have UA:UOK w0.drew:=hu.keep (Uq.block _ hu.lt1) (Uq.block _ hu.lt2);have UB:UOK w2:=UA.keep (qF.block _ UA.lt1 (Ut _ hu1.1 hu1.2)) (qF.block _ UA.lt2 (Ut _ hu2.1 hu2.2));have cx:=Bq UM h UB
  have pc:mS w2 (λx=>x<w2.heap.size) (dU bs) (lR (y.map (·.1))) UJ:=λt q hq=>by
   rcases ok2.pl t q hq with⟨z,_⟩|⟨d',Uw,z1,z2,z3⟩
   ·cases z
   ·exact⟨d',Uw,z1,z3.move (.mono λx _ hl=>hl) (λ_ _ q=>q),z2⟩
  have⟨d',Uw,z1,z2,z3⟩:=pc _ _ UR
  obtain rfl:d=d':=by
   rw[UI,g1]at z1;exact Option.some.inj z1
  have Uu:iH k w2 Z (.slice a m.fs.length c) m:=(hMi.below Uq (ay _)).keep λx q hl=>qF.block x hl (Ut x (λe=>hZ.1 (e▸q)) (λe=>hZ.2 (e▸q)))
  cases g
  ·exact Ll (DR h) w2 Z _ m d p Uw k cx pc z2 z3 (DR h _ _ g1) Uu hO (hl d g1)
  ·exact yf (DR h) w2 Z _ m d p Uw k cx pc z2 z3 (DR h _ _ g1) Uu hO (hl d g1)
def NV (g:Bool)(MK:pP)(w:an)(sb kp mk:Nat)(bs:List dQ)(P:ap)(nm:am)(way:Int)(Z:ap)(k:Nat)(mv:Value)(m:PM)(hs:lK w sb kp mk bs P)(h:jK bs)(hu:UOK w)(hw:way=1\/way=2)(hu1:¬P 2)(hu2:¬P 3)(hMi:iH k w Z mv m)(hZ:∀b,Z b->¬P b)(hO:oT k m)(hl:∀d,(dU bs).msg nm=some d->(ed (dU bs) 8 d m).length<=140737488355328):
  Ua (FE g) #[ag sb,aa way,ae nm,.agg #[mv,ae m.unk]] w λe w'=>e= .returned (.tuple #[oV g (jM (dU bs) nm m).1,aa (jM (dU bs) nm m).2])/\dX [mk,kp] w w'/\lK w' sb kp mk bs λx=>(P x/\x<w.heap.size)\/w.heap.size<=x:=by
 have⟨v,y,h1,⟨a1,a2,a3,a4,a5⟩,h3,h4⟩:=id hs
 rcases hw with rfl|rfl
 ·exact(SS g w sb v _ bs y _ nm Z k mv m h1 h3 h hu hMi hO hl).mono λe w' q=>⟨q.1,.of_below q.2,(hs.less (P':=λx=>(P x/\x<w.heap.size)\/w.heap.size<=x) λx q hl=> .inl ⟨q,hl⟩).keep λx _ hl=>q.2.block x hl⟩
 ·have Ur:mk<w.heap.size/\kp<w.heap.size:=by
   obtain⟨_,_,h5⟩:=h4;exact⟨h5.mb.lt,h5.kb.lt⟩
  refine(SU g MK w sb kp mk v bs y _ nm Z k mv m h1 h3 h hu hMi ⟨λq=>hZ _ q a3,λq=>hZ _ q a2⟩ hO hl _ h4 (λx q=>q.1) (λx q=>⟨q.2.2.2,q.2.2.1⟩) ⟨a5,a4⟩ ⟨λe=>hu1 (e▸a3),λe=>hu1 (e▸a2)⟩ ⟨λe=>hu2 (e▸a3),λe=>hu2 (e▸a2)⟩).mono λe w' q=>⟨q.1,q.2.1,?_⟩
  have kw:=q.2.1;have hn:∀x,x≠kp->x≠mk->x<w.heap.size->w'.heap[x]?=w.heap[x]?:=λx q1 q2 hl=>kw.block x hl (by simp[q1,q2])
  refine⟨v,y,(hn sb a4 a5 h1.lt).trans h1,⟨.inl ⟨a1,h1.lt⟩,.inl ⟨a2,Ur.2⟩,.inl ⟨a3,Ur.1⟩,a4,a5⟩,(h3.mono (Q:=λx=>(P x/\x≠sb/\x≠kp/\x≠mk)/\x<w.heap.size) λx q hl=>⟨q,hl⟩).keep (λx q hl=>hn x q.1.2.2.1 q.1.2.2.2 hl)|>.mono λx q _=>⟨.inl ⟨q.1.1,q.2⟩,q.1.2⟩,?_⟩;exact q.2.2.less λx q _=>q.imp id λq=>Ue
end
def vZ:Nat->PM->Nat
 |0,_=>0
 |k+1,m=>m.unk.size+(m.fs.map λx=>30+(x.2.map λv=>30+v.2.1.size+vZ k v.2.2).sum).sum
def pS {α:Type}{g:α->List UInt8}{h:α->Nat}:∀{l:List α},(∀x∈l,(g x).length<=h x)->(l.flatMap g).length<=(l.map h).sum
 | [],_=>aL _
 |x::l,hx=>by
  have h1:=hx x aV;have h2:=pS (l:=l) λy hy=>hx y (aT _ hy)
  grind
def uo (v:Int):(vi v).length<=10:=(m8 9 v).1
section
variable {S:d8} {R:MT->PM->List UInt8} {f:eT}
def BJ {v:PV}{W:Nat}(h:∀t,(R t v.2.2).length<=W):(fS S R f v).length<=10+v.2.1.size+W:=by
 unfold fS;have hs:v.2.1.data.toList.length=v.2.1.size:=Uf
 split
 ·unfold eZ;rw[aH]
  split
  ·rename_i t _
   have:=h t;have:=uo ((R t v.2.2).length:Int);omega
  ·have:=uo (([]:List UInt8).length:Int)
   grind
 ·split
  ·unfold eZ;rw[aH,hs];have:=uo (v.2.1.size:Int);omega
  ·split
   ·rw[ia];omega
   ·split
    ·rw[ia];omega
    ·split
     ·have:=uo (Bu v.1);omega
     ·have:=uo v.1;omega
def NW {l:List PV}{W:PV->Nat}(h:∀v∈l,∀t,(R t v.2.2).length<=W v):(jU S R f l).length<=30+(l.map λv=>30+v.2.1.size+W v).sum:=by
 have ht:∀n k,(eY n k).length<=10:=λn k=>(m8 9 (n*8+k)).1
 unfold jU
 split
 ·have h1:(mG S R f l).length<=(l.map λv=>30+v.2.1.size+W v).sum:=pS λv hv=>by
   have:=BJ (S:=S) (f:=f) (h v hv);omega
  have h2:=uo ((mG S R f l).length:Int);have h3:=ht f.num (nZ S f);unfold eZ
  (simp;omega)
 ·have h1:(l.flatMap λv=>eY f.num (nZ S f)++fS S R f v).length<=(l.map λv=>30+v.2.1.size+W v).sum:=pS λv hv=>by
   have:=BJ (S:=S) (f:=f) (h v hv)
   grind
  omega
end
def rG {S:d8}:∀(n k:Nat) (d:MT) (m:PM),oT k m->(ed S n d m).length<=vZ k m
 |0,_,_,_,_=>aL _
 |_+1,0,_,_,h=>h.elim
 |n+1,k+1,d,m,h=>by
  rw[ed,vZ,aH,show m.unk.data.toList.length=m.unk.size by simp]
  have:=pS (g:=jE S (ed S n) d) (h:=λx:PF=>30+(x.2.map λv=>30+v.2.1.size+vZ k v.2.2).sum) (l:=m.fs) λx hx=>by
   unfold jE
   split
   ·simp
   ·exact NW λv hv t=>rG n k t v.2.2 ((h.2.2 x hx).2 v hv).2.2.2
  omega
abbrev tK:am:=⟨#[109,101,115,115,97,103,101,32,65,32,123,32,105,110,116,51,50,32,120,32,61,32,49,59,32,115,116,114,105,110,103,32,121,32,61,32,50,59,32,125]⟩
abbrev nK:am:=⟨#[65]⟩
abbrev iK:am:=⟨#[18,2,104,105,8,5]⟩
abbrev oK:am:=⟨#[8,5,18,2,104,105]⟩
def Sd:Nat->PM->Bool
 |0,_=>false
 |k+1,m=>decide (m.fs.length<=1099511627776)&&decide (m.unk.size<=1099511627776)&&m.fs.all λx=>decide (x.2.length<=1099511627776)&&x.2.all λv=>decide (0<=v.1)&&decide (v.1<18446744073709551616)&&decide (v.2.1.size<=1099511627776)&&Sd k v.2.2
def Lm:∀{k:Nat} {m:PM},Sd k m=true->oT k m
 |0,_,h=>by cases h
 |k+1,m,h=>by
  rw[Sd]at h;simp only[aJ,dF,bS]at h;exact⟨h.1.1,h.1.2,λx hx=>⟨(h.2 x hx).1,λv hv=>⟨((h.2 x hx).2 v hv).1.1.1,((h.2 x hx).2 v hv).1.1.2,((h.2 x hx).2 v hv).1.2,Lm ((h.2 x hx).2 v hv).2⟩⟩⟩
def Qj (bs:List dQ):Bool:=
 (match fj (dU bs) nK iK with
 | .ok m=>Sd 9 m&&decide (vZ 9 m<=1000)&&((jM (dU bs) nK m).1.data.toList==oK.data.toList)&&((jM (dU bs) nK m).2==0)
 | .error _=>false)
def Ql:(match im tK with| .ok bs=>Qj bs| .error _=>false)=true:=Ui
def Qm:∃bs m,im tK= .ok bs/\fj (dU bs) nK iK= .ok m/\oT 9 m/\vZ 9 m<=1000/\(jM (dU bs) nK m).1=oK/\(jM (dU bs) nK m).2=0:=by
 have h:=Ql
 cases h1:im tK with
 |error x=>rw[h1]at h;cases h
 |ok bs=>
  rw[h1]at h;change Qj bs=true at h;unfold Qj at h
  cases h2:fj (dU bs) nK iK with
  |error x=>rw[h2]at h;cases h
  |ok m=>
   rw[h2]at h;simp only[aJ,dF,beq_iff_eq]at h;obtain⟨⟨⟨h3,h4⟩,h5⟩,h6⟩:=h;exact⟨bs,m,rfl,h2,Lm h3,h4,cM (cT.1 h5),h6⟩
section
variable {P:EQ} {Q:Value->PM->Prop} {Z:ap}
theorem Ln (hPQ:∀mv m C,(∀b,C b->Z b)->P mv m C->Q mv m):∀{l:List PV} {ms:aq} {Y:ap},(∀b,Y b->Z b)->jx (λmv (v:PV) C=>P mv v.2.2 C) Y ms l->nR Q (rz ms l) l
 | [],[],_,_,_=>rfl
 |v::l,mv::ms,Y,hY,h=>by
  obtain⟨A,B,h1,h2,h3,h4,_⟩:=h;exact⟨mv,rz ms l,rfl,hPQ _ _ A (λb q=>hY b (h3 b q)) h1,Ln hPQ (λb q=>hY b (h4 b q)) h2⟩
theorem Lo {w:an}(hPQ:∀mv m C,(∀b,C b->Z b)->P mv m C->Q mv m):∀{l:List PF} {ms:aq} {Y:ap},(∀b,Y b->Z b)->jx (λvv (f:PF) A=>jL P w A vv f.2) Y ms l->lF Q w Z (rA ms l) l
 | [],[],_,_,_=>rfl
 |v::l,mv::ms,Y,hY,h=>by
  obtain⟨A,B,⟨ms',Y',q1,q2,q3,q4⟩,h2,h3,h4,_⟩:=h;refine⟨mv,rA ms l,rfl,⟨_,q1.mono λb q _=>hY b (h3 b q),Ln hPQ (λb q=>hY b (h3 b (q3 b q))) q4⟩,Lo hPQ (λb q=>hY b (h4 b q)) h2⟩
theorem pI.toIn:∀{k:Nat} {w:an} {v:Value} {m:PM} {Z:ap},pI k w v m Z->qm k w Z v m
 |0,_,_,_,_,h=>h
 |k+1,w,v,m,Z,h=>by
  obtain⟨vvs,Y,h1,h2,h3,h4⟩:=h;exact⟨_,h1,Lo (P:=pI k w) (λmv m C hC hm=>qm.mono (λb q _=>hC b q) (pI.toIn hm)) h3 h4⟩
end
section
open Uq
inductive Tn (w:an)(mp:am->Option Nat)(g:GF)(fb:Nat)(pq:aw)(al:Int)(W:an):Array Bool->Act->Prop where
 |mk {l0 l1 l2 l3 l4 l5 l6 l7 l8 l9 l10 UK UL UA Ux Uy Uz UC UD UE:Bool} {t3 t4 t5 t6 t7 t8 t9 UF UM UN UO UG UP UQ UR US UH:Value} (bP bQ bR:Nat) (m1 m2:Nat) (f0:l0=true->t6=ag fb) (f1:l1=true->t7=ag fb) (f2:l2=true->t8= .pointer (some (ai fb 2))) (f3:l3=true->t9= .agg #[aa (i8 mp g.f.ty),.pointer pq]) (f5:l5=true->UM=ag fb) (f6:l6=true->UN=ag fb) (f7:l7=true->UO=ag fb) (f8:l8=true->UG=aa g.f.num) (f9:l9=true->UP=ag fb) (f10:l10=true->UQ=ag fb) (Uu:UK=true->UR= .pointer (some (ai fb 2))) (Uv:UL=true->US= .agg #[aa (i8 mp g.f.ty),.pointer pq]) (Uq:UA=true->UH=aa al) (B:aj w W) (xP:Bx (w.heap.size) W Ux UC l4 t3 bP 478 UF) (xQ:Bx (w.heap.size) W Uy UD l8 t4 bQ 3 UG) (xR:Bx (w.heap.size) W Uz UE UA t5 bR 235 UH) (Ur:nE Ux Uy bP bQ) (Us:nE Ux Uz bP bR) (Ut:nE Uy Uz bQ bR) (oP:Il Ux l4 bP m1 m2) (oQ:Il Uy l4 bQ m1 m2) (oR:Il Uz l4 bR m1 m2) (V:l4=true->mF W (λb=>m1<=b/\b<m2) (i8 mp g.f.ty) UF/\w.heap.size<=m1/\m2<=W.heap.size):Tn w mp g fb pq al W #[l0,l1,l2,l3,l4,l5,l6,l7,l8,l9,l10,UK,UL,UA,Ux,Uy,Uz,UC,UD,UE] ⟨#[ag fb,undef,.nilFunc,t3,t4,t5,t6,t7,t8,t9,UF,UM,UN,UO,UG,UP,UQ,UR,US,UH,undef],[]⟩
section
variable (w:an) (Q P:ap) (mp pm:am->Option Nat) (g:GF) (fb:Nat)
def vu (hQ:∀b,w.heap.size<=b->Q b)(h:eJ w P mp g fb)(h4:g.form≠4)(hb:i8 mp g.f.ty<=15):Calls prog 379 #[ag fb] w (jl w λw' v=>NQ w' Q mp g v):=by
 have hmf:= @vD;have⟨pv,rv,h1,_,UB,UU⟩:=h.blk;have UV:eh mp g=i8 mp g.f.ty:=by unfold eh;rw[dD h4]
 rw[UV]at h1;obtain⟨pq,rfl⟩:=gq UU;obtain⟨ra,rn,rc,rfl⟩:=dN UB.1;have hV:=λW=>z9 W (i8 mp g.f.ty) (.pointer pq) hb
 have hW:=λW=>py W (i8 mp g.f.ty) (.pointer pq) Ue
 clear UU UB h;have UJ:=h1.lt;obtain⟨al,UW⟩:∃al:Int,(ee (i8 mp g.f.ty):Int)=al:=⟨_,rfl⟩;rw[UW]at hW;go_in
 go_upto_region 1 with fail
 go_cut [3,4,5]from 6 to 19 (λx y z wx=>∃vb nb ab vv,x=ag vb/\y=ag nb/\z=ag ab/\dM wx vb #[vv] 478/\dM wx nb #[aa g.f.num] 3/\dM wx ab #[aa al] 235/\mF wx Q (i8 mp g.f.ty) vv/\w.heap.size<=vb/\w.heap.size<=nb/\w.heap.size<=ab/\aj w wx)
 case first=>
  refine jP (λL a W=>Tn w mp g fb pq al W L a) Uk ⟨0,0,0,0,0,nofun,nofun,nofun,nofun,nofun,nofun,nofun,nofun,nofun,nofun,nofun,nofun,nofun,(Below.refl _ _).drew,Bx.start,Bx.start,Bx.start,nofun,nofun,nofun,nofun,nofun,nofun,nofun⟩ Uj ?_ ?_
  ·rintro L a W @⟨l0,l1,l2,l3,l4,l5,l6,l7,l8,l9,l10,UK,UL,UA,Ux,Uy,Uz,UC,UD,UE,t3,t4,t5,t6,t7,t8,t9,UF,UM,UN,UO,UG,UP,UQ,UR,US,UH,bP,bQ,bR,m1,m2,f0,f1,f2,f3,f5,f6,f7,f8,f9,f10,Uu,Uv,Uq,B,xP,xQ,xR,Ur,Us,Ut,oP,oQ,oR,V⟩ Uw;obtain rfl:l4=true:=Uw 4 Uh;obtain rfl:l8=true:=Uw 8 Uh;obtain rfl:UA=true:=Uw 13 Uh;obtain rfl:Ux=true:=Uw 14 Uh;obtain rfl:Uy=true:=Uw 15 Uh;obtain rfl:Uz=true:=Uw 16 Uh;obtain rfl:UC=true:=Uw 17 Uh;obtain rfl:UD=true:=Uw 18 Uh;obtain rfl:UE=true:=Uw 19 Uh;obtain⟨rfl,zP,_⟩:=xP.made rfl;obtain⟨rfl,zQ,_⟩:=xQ.made rfl;obtain⟨rfl,zR,_⟩:=xR.made rfl;obtain rfl:=f8 rfl;obtain rfl:=Uq rfl;have⟨v1,v2,v3⟩:=V rfl;have KP:=xP.put rfl;have KQ:=xQ.put rfl;have KR:=xR.put rfl;go_wp2;go_meet
   case rel=>exact⟨_,_,_,_,rfl,rfl,rfl,KP,KQ,KR,v1.move (λb q l=>⟨hQ b Ue,rfl⟩),zP,zQ,zR,B⟩
  refine .cons ?_ (.cons ?_ (.cons ?_ (.cons ?_ (.cons ?_ (.cons ?_ (.cons ?_ (.cons ?_ (.cons ?_ (.cons ?_ (.cons ?_ (.cons ?_ (.cons ?_ (.cons ?_ (.cons ?_ (.cons ?_ (.cons ?_ (.cons ?_ (.cons ?_ (.cons ?_ .nil)))))))))))))))))))
  all_goals
   rintro L a W ⟨bP,bQ,bR,m1,m2,f0,f1,f2,f3,f5,f6,f7,f8,f9,f10,Uu,Uv,Uq,B,xP,xQ,xR,Ur,Us,Ut,oP,oQ,oR,V⟩ h0 hd K hK;subst h0
  ·clear hd;go_simp;refine hK.out _ _ ?_;simp only[T8];exact⟨bP,bQ,bR,m1,m2,λ_=>rfl,f1,f2,f3,f5,f6,f7,f8,f9,f10,Uu,Uv,Uq,B,xP,xQ,xR,Ur,Us,Ut,oP,oQ,oR,V⟩
  ·obtain rfl:=eG (k:=0) hd Uj;obtain rfl:=f0 rfl;clear hd;go_simp;refine hK.out _ _ ?_;simp only[T8];exact⟨bP,bQ,bR,m1,m2,λ_=>rfl,λ_=>rfl,f2,f3,f5,f6,f7,f8,f9,f10,Uu,Uv,Uq,B,xP,xQ,xR,Ur,Us,Ut,oP,oQ,oR,V⟩
  ·obtain rfl:=eG (k:=1) hd Uj;obtain rfl:=f1 rfl;clear hd;go_simp;refine hK.out _ _ ?_;simp only[T8];exact⟨bP,bQ,bR,m1,m2,f0,λ_=>rfl,λ_=>rfl,f3,f5,f6,f7,f8,f9,f10,Uu,Uv,Uq,B,xP,xQ,xR,Ur,Us,Ut,oP,oQ,oR,V⟩
  ·obtain rfl:=eG (k:=2) hd Uj;obtain rfl:=f2 rfl;have KF:=h1.below B UJ;have⟨k1,k2⟩:=KF.rules;clear hd;go_simp;refine hK.out _ _ ?_;simp only[T8];exact⟨bP,bQ,bR,m1,m2,f0,f1,λ_=>rfl,λ_=>rfl,f5,f6,f7,f8,f9,f10,Uu,Uv,Uq,B,xP,xQ,xR,Ur,Us,Ut,oP,oQ,oR,V⟩
  ·obtain rfl:=eG (k:=3) hd Uj;obtain rfl:=f3 rfl;clear hd;go_simp;go_wp2_with (first|(go_at_call 420;refine(hV _).mono ?_;rintro e w2 ⟨vv,rfl,UI,b2⟩))
   refine hK.out _ _ ?_;simp only[T8];exact⟨bP,bQ,bR,W.heap.size,w2.heap.size,f0,f1,f2,λ_=>rfl,f5,f6,f7,f8,f9,f10,Uu,Uv,Uq,(dI B b2),((xP.below b2).val _),(xQ.below b2),(xR.below b2),Ur,Us,Ut,(λe _=> .inl (xP.lt e)),(λe _=> .inl (xQ.lt e)),(λe _=> .inl (xR.lt e)),(λ_=>⟨UI.move (λb q l=>⟨⟨q,l⟩,rfl⟩),B.size,ay _⟩)⟩
  ·clear hd;go_simp;refine hK.out _ _ ?_;simp only[T8];exact⟨bP,bQ,bR,m1,m2,f0,f1,f2,f3,λ_=>rfl,f6,f7,f8,f9,f10,Uu,Uv,Uq,B,xP,xQ,xR,Ur,Us,Ut,oP,oQ,oR,V⟩
  ·obtain rfl:=eG (k:=5) hd Uj;obtain rfl:=f5 rfl;clear hd;go_simp;refine hK.out _ _ ?_;simp only[T8];exact⟨bP,bQ,bR,m1,m2,f0,f1,f2,f3,λ_=>rfl,λ_=>rfl,f7,f8,f9,f10,Uu,Uv,Uq,B,xP,xQ,xR,Ur,Us,Ut,oP,oQ,oR,V⟩
  ·obtain rfl:=eG (k:=6) hd Uj;obtain rfl:=f6 rfl;clear hd;go_simp;refine hK.out _ _ ?_;simp only[T8];exact⟨bP,bQ,bR,m1,m2,f0,f1,f2,f3,f5,λ_=>rfl,λ_=>rfl,f8,f9,f10,Uu,Uv,Uq,B,xP,xQ,xR,Ur,Us,Ut,oP,oQ,oR,V⟩
  ·obtain rfl:=eG (k:=7) hd Uj;obtain rfl:=f7 rfl;have KF:=h1.below B UJ;have⟨k1,k2⟩:=KF.rules;clear hd;go_simp;refine hK.out _ _ ?_;simp only[T8];exact⟨bP,bQ,bR,m1,m2,f0,f1,f2,f3,f5,f6,λ_=>rfl,λ_=>rfl,f9,f10,Uu,Uv,Uq,B,xP,(xQ.val _),xR,Ur,Us,Ut,oP,oQ,oR,V⟩
  ·clear hd;go_simp;refine hK.out _ _ ?_;simp only[T8];exact⟨bP,bQ,bR,m1,m2,f0,f1,f2,f3,f5,f6,f7,f8,λ_=>rfl,f10,Uu,Uv,Uq,B,xP,xQ,xR,Ur,Us,Ut,oP,oQ,oR,V⟩
  ·obtain rfl:=eG (k:=9) hd Uj;obtain rfl:=f9 rfl;clear hd;go_simp;refine hK.out _ _ ?_;simp only[T8];exact⟨bP,bQ,bR,m1,m2,f0,f1,f2,f3,f5,f6,f7,f8,λ_=>rfl,λ_=>rfl,Uu,Uv,Uq,B,xP,xQ,xR,Ur,Us,Ut,oP,oQ,oR,V⟩
  ·obtain rfl:=eG (k:=10) hd Uj;obtain rfl:=f10 rfl;clear hd;go_simp;refine hK.out _ _ ?_;simp only[T8];exact⟨bP,bQ,bR,m1,m2,f0,f1,f2,f3,f5,f6,f7,f8,f9,λ_=>rfl,λ_=>rfl,Uv,Uq,B,xP,xQ,xR,Ur,Us,Ut,oP,oQ,oR,V⟩
  ·obtain rfl:=eG (k:=11) hd Uj;obtain rfl:=Uu rfl;have KF:=h1.below B UJ;have⟨k1,k2⟩:=KF.rules;clear hd;go_simp;refine hK.out _ _ ?_;simp only[T8];exact⟨bP,bQ,bR,m1,m2,f0,f1,f2,f3,f5,f6,f7,f8,f9,f10,λ_=>rfl,λ_=>rfl,Uq,B,xP,xQ,xR,Ur,Us,Ut,oP,oQ,oR,V⟩
  ·obtain rfl:=eG (k:=12) hd Uj;obtain rfl:=Uv rfl;clear hd;go_simp;go_wp2_with (first|(go_at_call 208;refine(hW _).mono ?_;rintro e w3 ⟨rfl,b3⟩))
   refine hK.out _ _ ?_;simp only[T8];exact⟨bP,bQ,bR,m1,m2,f0,f1,f2,f3,f5,f6,f7,f8,f9,f10,Uu,λ_=>rfl,λ_=>rfl,(dI B b3),(xP.below b3),(xQ.below b3),((xR.below b3).val _),Ur,Us,Ut,oP,oQ,oR,(λe=>⟨(V e).1.move (λb q l=>⟨q,b3.block b l⟩),(V e).2.1,aG (V e).2.2 b3.size⟩)⟩
  ·clear hd;go_simp;refine hK.out _ _ ?_;simp only[T8];exact⟨W.heap.size,bQ,bR,m1,m2,f0,f1,f2,f3,f5,f6,f7,f8,f9,f10,Uu,Uv,Uq,(B.alloc B.size _),(xP.new B.size _),(xQ.alloc _),(xR.alloc _),(nE.new1 xQ),(nE.new1 xR),Ut,(λ_ e=> .inr (V e).2.2),oQ,oR,(λe=>⟨(V e).1.move (λb q l=>⟨q,(Ud W _).block b l⟩),(V e).2.1,aG (V e).2.2 (Ud W _).size⟩)⟩
  ·clear hd;go_simp;refine hK.out _ _ ?_;simp only[T8];exact⟨bP,W.heap.size,bR,m1,m2,f0,f1,f2,f3,f5,f6,f7,f8,f9,f10,Uu,Uv,Uq,(B.alloc B.size _),(xP.alloc _),(xQ.new B.size _),(xR.alloc _),(nE.new2 xP),Us,(nE.new1 xR),oP,(λ_ e=> .inr (V e).2.2),oR,(λe=>⟨(V e).1.move (λb q l=>⟨q,(Ud W _).block b l⟩),(V e).2.1,aG (V e).2.2 (Ud W _).size⟩)⟩
  ·clear hd;go_simp;refine hK.out _ _ ?_;simp only[T8];exact⟨bP,bQ,W.heap.size,m1,m2,f0,f1,f2,f3,f5,f6,f7,f8,f9,f10,Uu,Uv,Uq,(B.alloc B.size _),(xP.alloc _),(xQ.alloc _),(xR.new B.size _),Ur,(nE.new2 xP),(nE.new2 xQ),oP,oQ,(λ_ e=> .inr (V e).2.2),(λe=>⟨(V e).1.move (λb q l=>⟨q,(Ud W _).block b l⟩),(V e).2.1,aG (V e).2.2 (Ud W _).size⟩)⟩
  ·obtain rfl:=eG (k:=14) hd Uj;obtain rfl:=eG (k:=4) hd Uj;obtain⟨rfl,zP,yP⟩:=xP.made rfl;have⟨uP,cP,kP⟩:=g7 yP;obtain⟨vf,UT,rfl⟩:=(V rfl).1.form;clear hd;go_simp;refine hK.out _ _ ?_;simp only[T8];exact⟨bP,bQ,bR,m1,m2,f0,f1,f2,f3,f5,f6,f7,f8,f9,f10,Uu,Uv,Uq,(B.setCell (p:=(ai bP 0)) zP _),xP.store,(xQ.other (λe=>Ur rfl e) _),(xR.other (λe=>Us rfl e) _),Ur,Us,Ut,oP,oQ,oR,(λe=>⟨(V e).1.move (λb q l=>⟨q,dZ (by have:=oP rfl e;omega)⟩),(V e).2.1,by simpa using(V e).2.2⟩)⟩
  ·obtain rfl:=eG (k:=15) hd Uj;obtain rfl:=eG (k:=8) hd Uj;obtain⟨rfl,zQ,yQ⟩:=xQ.made rfl;have⟨uQ,cQ,kQ⟩:=g7 yQ;obtain rfl:=f8 rfl;clear hd;go_simp;refine hK.out _ _ ?_;simp only[T8];exact⟨bP,bQ,bR,m1,m2,f0,f1,f2,f3,f5,f6,f7,λ_=>rfl,f9,f10,Uu,Uv,Uq,(B.setCell (p:=(ai bQ 0)) zQ _),(xP.other (λe=>Ur.symm rfl e) _),xQ.store,(xR.other (λe=>Ut rfl e) _),Ur,Us,Ut,oP,oQ,oR,(λe=>⟨(V e).1.move (λb q l=>⟨q,dZ (by have:=oQ rfl e;omega)⟩),(V e).2.1,by simpa using(V e).2.2⟩)⟩
  ·obtain rfl:=eG (k:=16) hd Uj;obtain rfl:=eG (k:=13) hd Uj;obtain⟨rfl,zR,yR⟩:=xR.made rfl;have⟨uR,cR,kR⟩:=g7 yR;obtain rfl:=Uq rfl;clear hd;go_simp;refine hK.out _ _ ?_;simp only[T8];exact⟨bP,bQ,bR,m1,m2,f0,f1,f2,f3,f5,f6,f7,f8,f9,f10,Uu,Uv,λ_=>rfl,(B.setCell (p:=(ai bR 0)) zR _),(xP.other (λe=>Us.symm rfl e) _),(xQ.other (λe=>Ut.symm rfl e) _),xR.store,Ur,Us,Ut,oP,oQ,oR,(λe=>⟨(V e).1.move (λb q l=>⟨q,dZ (by have:=oR rfl e;omega)⟩),(V e).2.1,by simpa using(V e).2.2⟩)⟩
 case rest=>
  obtain⟨vb,nb,ab,vv,rfl,rfl,rfl,h5,h6,h7,UI,q1,q2,q3,b3⟩:=hcut;obtain⟨vf,UT,rfl⟩:=UI.form;go_wp2;go_ret;exact⟨_,rfl,⟨_,_,_,_,rfl,by grind,h6,h5,UI,hQ _ q3,hQ _ q2,hQ _ q1⟩,b3⟩
end
section
variable {S:d8} {R:MT->PM->Bool} {f:eT} {l:List PV}
def GD (n:Nat):((n==1)||decide (1<n))=decide (0<n):=by
 rw[co];simp;omega
def It (hm:f.isMap=false)(hr:f.isRep=false)(hz:¬(gG f.how eS=true/\fB S f≠16)):fy S R f l=((l.length==1)&&l.all (er S R f)):=by
 unfold fy oG kz;rw[hm,hr,dD hz];simp
def Iu (hm:f.isMap=false)(hr:f.isRep=false)(hz:gG f.how eS=true/\fB S f≠16):fy S R f l=((l.length==1)&&l.all λx=> !(decide (x.1=0)&&om x.2.1)&&er S R f x):=by
 unfold fy oG kz;rw[hm,hr,dE hz]
 by_cases h1:l.length=1
 ·obtain⟨x,rfl⟩:=List.length_eq_one_iff.1 h1;simp[Bool.and_comm]
 ·have e:(l.length==1)=false:=by simpa using h1
  simp[e]
def Iv (hm:f.isMap=false)(hr:f.isRep=true)(hz:gG f.how eS=false):fy S R f l=(decide (0<l.length)&&l.all (er S R f)):=by
 unfold fy oG kz;rw[hm,hr,hz,<-GD];simp
def Iw (hm:f.isMap=true):fy S R f l=((decide (0<l.length)&&l.all (er S R f))&&jc (jI (S.base f.key)) none l):=by
 unfold fy oG kz;rw[hm,<-GD];simp
def ND.as {q q':List PV->Bool}{n g:Nat}{cap:aq}{W:an}(h:ND q n g cap W)(he:∀l,q' l=q l):ND q' n g cap W:=by
 obtain rfl:q'=q:=funext he;exact h
end
def uX (k:Nat):Nat:=if k=0\/k=4\/k=9\/k=15 then 347 else if k=2\/k=7\/k=11 then 348 else if k=6 then 351 else 411
def Lp (k:Nat)(x:Int):Int:=if k=0\/k=4\/k=9\/k=15 then mh x else if k=2\/k=7\/k=11 then x%4294967296 else if k=6 then(if 0<x then 1 else 0)else x
def yh (a b:Int):(a==b)=(b==a):=by rw[co];simp;exact eq_comm
def Qn (k:Nat)(x:Int):(Lp k x==x)=Cr k x:=by
 unfold Lp Cr
 split
 ·exact yh _ _
 ·split
  ·exact yh _ _
  ·split
   ·exact yh _ _
   ·simp
def Fk (k:Nat):∀args w,(callFunc (uX k) args).run prog w= .ok (.enter (uX k) args) w:=by
 unfold uX
 split
 ·exact enters_of func347 Uj rfl
 ·split
  ·exact enters_of func348 Uj rfl
  ·split
   ·exact enters_of func351 Uj rfl
   ·exact enters_of func411 Uj rfl
def Ix (k:Nat)(W:an)(x:Int)(h0:0<=x):Calls prog (uX k) #[.int .u64 x] W λe w'=>e= .returned (.int .u64 (Lp k x))/\W=w':=by
 unfold uX Lp
 split
 ·exact(oA W x).mono λ_ _ h=>⟨h.1,h.2.symm⟩
 ·split
  ·exact(sf W x).mono λ_ _ h=>⟨h.1,h.2.symm⟩
  ·split
   ·exact(vJ W x h0).mono λ_ _ h=>⟨h.1,h.2.symm⟩
   ·go_in
    go_wp2;go_ret;exact⟨rfl,rfl⟩
def Kp.back {Q:ap}{w w' W:an}(h:Kp Q w' W)(b:aj w w'):Kp Q w W:=λi q hi=>(h i q (aD hi b.size)).trans (b.block i hi)
def Kp.less {Q Q':ap}{w W:an}(h:Kp Q w W)(hq:∀b,Q' b->Q b):Kp Q' w W:=λi q hi=>h i (hq i q) hi
section
variable (w:an)
def RE (k:Nat)(hk:k<=16):Calls prog 363 #[aa k] w λe w'=>e= .returned (.func (.func (uX k)) #[] #[])/\w=w':=by
 rcases Ah hk with rfl|rfl|rfl|rfl|rfl|rfl|rfl|rfl|rfl|rfl|rfl|rfl|rfl|rfl|rfl|rfl|rfl
 all_goals
  go_in
  go_wp2;go_ret;exact⟨rfl,rfl⟩
def vw (k:Nat)(pq iq:aw)(hk:k<=16):Calls prog 284 #[.agg #[aa k,.pointer pq],.pointer iq] w (jl w λw' v=>Rr w' (λb=>w.heap.size<=b) k iq v):=by
 have Ur:= @vD;have hC:=λW=>RE W k hk
 have⟨B0,K1,K2⟩:=gH w #[aa k,.pointer pq] #[.pointer iq] 216 116;have⟨k1,k2⟩:=K1.rules
 by_cases h16:k=16
 ·subst h16;go_in
  go_wp2;go_ret;refine⟨_,rfl,⟨360,[ag (w.heap.size+1)],⟨rfl,enters_of func360 Uj rfl⟩,λS fl n W hK hb hu Uq=> ?_⟩,B0⟩;have⟨t,h1,h2⟩:=Uq hb;exact St _ iq t (hK.bx Ue K2) h2 hb h1
 ·by_cases h13:k=13
  ·subst h13;go_in
   go_wp2;go_ret;exact⟨_,rfl,⟨361,[],⟨rfl,enters_of func361 Uj rfl⟩,λS fl n W hK hb hu Uq=>Su hu hb⟩,B0⟩
  ·by_cases h14:k=14
   ·subst h14;go_in
    go_wp2;go_ret;exact⟨_,rfl,⟨362,[],⟨rfl,enters_of func362 Uj rfl⟩,λS fl n W hK hb hu Uq=>Sv hb⟩,B0⟩
   ·have e16:((k:Int)==16)=false:=Ug;have e13:((k:Int)==13)=false:=Ug;have e14:((k:Int)==14)=false:=Ug;go_in
    go_wp2_with fail;refine(hC _).mono ?_;rintro e w2 ⟨rfl,rfl⟩;go_wp2;go_ret;have B1:=(Below.refl _ _).alloc (ay _) (w:=(w.alloc (ak #[aa k,.pointer pq] 216)).alloc (ak #[.pointer iq] 116)) (ak #[.func (.func (uX k)) #[] #[]] 423);refine⟨_,rfl,⟨364,_,⟨rfl,enters_of func364 Uj rfl⟩,λS fl n W hK hb hu Uq=> ?_⟩,dI B0 B1⟩;refine Sw _ (uX k) (Lp k) (hK.bx (b:=w.heap.size+1+1) Ue (dM.newAt Uf _ _)) (Fk k) (λW x h0 _=>Ix k W x h0) (λx=>by rw[hb];exact Qn k x) (by rw[hb];exact h16) (by rw[hb];exact h13) (by rw[hb];exact h14)
def Lq (f:FuncId)(cap:Array Value):Calls prog 287 #[.func (.func f) #[] cap] w λe w'=>e= .returned (.func (.func 367) #[] #[ag w.heap.size])/\w.alloc (ak #[.func (.func f) #[] cap] 398)=w':=by
 have Ur:= @vD;go_in
 go_wp2;go_ret;exact⟨rfl,rfl⟩
def Lr (f:FuncId)(cap:Array Value):Calls prog 286 #[.func (.func f) #[] cap] w λe w'=>e= .returned (.func (.func 366) #[] #[ag w.heap.size])/\w.alloc (ak #[.func (.func f) #[] cap] 398)=w':=by
 have Ur:= @vD;go_in
 go_wp2;go_ret;exact⟨rfl,rfl⟩
def Iy (f:FuncId)(cap:Array Value)(sg:Bool):Calls prog 285 #[.func (.func f) #[] cap,.bool sg] w λe w'=>
  ∃eb sb vb,e= .returned (.func (.func 365) #[] #[ag eb,ag sb])/\w.heap.size<=eb/\w.heap.size<=sb/\w.heap.size<=vb/\dM w' eb #[.func (.func 366) #[] #[ag vb]] 260/\dM w' sb #[.bool sg] 4/\dM w' vb #[.func (.func f) #[] cap] 398/\aj w w':=by
 have Ur:= @vD;have hE:=λW=>Lr W f cap
 go_in
 go_wp2_with fail;refine(hE _).mono ?_;rintro e w2 ⟨rfl,rfl⟩;have⟨B2,K1,K2⟩:=gH w #[.bool sg] #[.func (.func f) #[] cap] 4 398;have s1:(w.alloc (ak #[.bool sg] 4)).heap.size=w.heap.size+1:=Uf;rw[s1];go_wp2;go_ret;exact⟨w.heap.size+1+1,w.heap.size,w.heap.size+1,rfl,Ue,Ue,Ue,dM.newAt Uf _ _,K1.alloc _,K2.alloc _,dI B2 ((Below.refl _ _).alloc (ay _) _)⟩
end
def NX {S:d8}{f:eT}(h:f.isMap=true):fB S f=16/\eV S f=some (et f):=⟨by unfold fB;rw[h];rfl,by unfold eV;rw[h];rfl⟩
def yi (w:an)(P:ap)(mp:am->Option Nat)(g:GF)(fb:Nat)(iq:aw)(h:eJ w P mp g fb):Calls prog 210 #[ag fb,.pointer iq] w (jl w λw' v=>Ic w' (λb=>w.heap.size<=b) mp g iq v):=by
 have hmf:= @vD;have⟨pv,rv,h1,_,Uu,Uz⟩:=h.blk;obtain⟨pq,rfl⟩:=gq Uz;obtain⟨ra,rn,rc,rfl⟩:=dN Uu.1;have hV:=vw w (eh mp g) pq iq (lr mp g);have UA:∀W,aj w W->eJ W P mp g fb:=λW hW=>h.keep (λb _ hl=>hW.block b hl)
 clear Uz Uu h;have⟨k1,k2⟩:=h1.rules;go_in
 go_wp2_with fail;refine hV.mono ?_;rintro e w2 ⟨v2,rfl,⟨vf,Uq,⟨rfl,Uw⟩,HV⟩,b2⟩;have K2:=h1.below b2 h1.lt;have s2:=b2.size;have b3:∀o,aj w (w2.alloc o):=λo=>dI b2 ((Below.refl _ _).alloc (ay _) _)
 have⟨k3,k4⟩:=(K2.alloc (ak #[.func (.func vf) #[] Uq.toArray] 398)).rules;have KV:=dM.new w2 #[.func (.func vf) #[] Uq.toArray] 398;have hL:=λW=>Lq W vf Uq.toArray
 have hE:=λW=>Lr W vf Uq.toArray
 have hN:=λW sg=>Iy W vf Uq.toArray sg
 have Uv:Hid (∀(W3 W:an) (S:d8) (d:MT) (fl:eT) (n:Nat),aj w2 W3->Kp (λb=>w.heap.size<=b) W3 W->FG S mp d fl g->(∀W',Below W.heap.size W W'->UOK W')->(fB S fl=16->∃t,eV S fl=some t/\H9 S iq n t W)->MB (er S (dP S n) fl) n vf Uq W):=λW3 W S d fl n hb hK fg hu Us=>HV S fl n W (hK.back hb) fg.gb.symm hu Us
 clear k1 k2 HV
 by_cases h4:g.form=4
 ·have f4:(g.form==4)=true:=by simp[h4]
  have UB:=Gc _ P mp g fb (UA (w2.alloc (ak #[.func (.func vf) #[] Uq.toArray] 398)).drew (b3 _).drew) h4;have UC:=λW pv=>oB W (i8 mp g.f.key) pv (tG mp _)
  have e0:=KV.cell 0;have b3':=b3 (ak #[.func (.func vf) #[] Uq.toArray] 398);have UD:aj w2 (w2.alloc (ak #[.func (.func vf) #[] Uq.toArray] 398)):=(Below.refl _ _).alloc (ay _) _;go_upto_region 3 with fail
  generalize w2.alloc (ak #[.func (.func vf) #[] Uq.toArray] 398)=w3 at*
  go_region_held2 (λW=>W.cell? (ai w2.heap.size 0)=some (.func (.func vf) #[] Uq.toArray))
   (first|exact V6.cell 0|exact V5.cell 0|exact V4.cell 0|exact e0)
   (first|(go_at_call 188;refine UB.mono ?_;rintro e w4 ⟨UG,rfl,b4⟩;have V4:=dM.below (w:=w3.drew) KV b4 KV.lt)|(go_at_call 189;refine(UC w4 UG).mono ?_;rintro e w5 ⟨rfl,b5⟩;have V5:=V4.below b5 V4.lt)|(go_at_call 285;refine(hN w5 _).mono ?_;rintro e w6 ⟨eb,sb,vb,rfl,q1,q2,q3,E1,E2,E3,b6⟩;have V6:=V5.below b6 V5.lt))
  all_goals
   go_wp2;go_ret;have B5:aj w2 w5:=dI UD (dI (dI (Below.refl _ _).drew b4) b5);have B6:=dI B5 b6;have s5:=B5.size;refine⟨_,rfl,⟨365,[ag eb,ag sb],⟨rfl,enters_of func365 Uj rfl⟩,λS d fl n W hK fg hu Us=> ?_⟩,dI b2 B6⟩;have hm:fl.isMap=true:=by rw[fg.map,h4];rfl
   have⟨Ux,Uy⟩:=NX (S:=S) hm;refine(Ia eb 366 sb [ag vb] (jI (i8 mp g.f.key)) (hK.bx Ue E1) (hK.bx Ue E2) (enters_of func366 Uj rfl) (KJ vb vf Uq (hK.bx Ue E3) Uw (Uv.out w6 W S d fl n B6 hK fg hu Us)) ?_).as λl=> ?_
   ·intro l k hO hl e he;rw[aJ]at hl;exact Gx (uh (bS.1 hl.2 e he) Ux Uy) (hO.2 e he).2.2.2
   ·rw[Iw hm,fg.eq,(fg.key h4).1]
 ·have f4:(g.form==4)=false:=by simp[h4]
  by_cases h2:g.form=2
  ·have f2:(g.form==2)=true:=by simp[h2]
   go_wp2_with fail;refine(hE _).mono ?_;rintro e w4 ⟨rfl,rfl⟩;go_wp2;go_ret;have B4:aj w2 ((w2.alloc (ak #[.func (.func vf) #[] Uq.toArray] 398)).alloc (ak #[.func (.func vf) #[] Uq.toArray] 398)):=Below.a2 w2 _ _;refine⟨_,rfl,⟨366,[ag (w2.heap.size+1)],⟨rfl,enters_of func366 Uj rfl⟩,λS d fl n W hK fg hu Us=> ?_⟩,dI b2 B4⟩;refine(KJ (w2.heap.size+1) vf Uq (hK.bx Ue (dM.newAt Uf _ _)) Uw (Uv.out _ W S d fl n B4 hK fg hu Us)).as λl=> ?_
   exact Iv (by rw[fg.map];simp[h4]) (by rw[fg.rep];simp[h2]) (by rw[fg.sin];simp[h2])
  ·have f2:(g.form==2)=false:=by simp[h2]
   have Ur:∀(S:d8) (d:MT) (fl:eT),FG S mp d fl g->fl.isMap=false/\fl.isRep=false/\gG fl.how eS=decide (g.form=0):=λS d fl fg=>⟨by rw[fg.map];simp[h4],by rw[fg.rep];simp[h2],fg.sin⟩
   by_cases h0:g.form=0/\eh mp g≠16
   ·have f0:(g.form==0)=true:=by simp[h0.1]
    have UE:((eh mp g:Int)==16)=false:=by have:=h0.2;simp;omega
    have UF:=λW cap=>Lq W 288 cap
    go_wp2_with fail;refine(UF _ _).mono ?_;rintro e w4 ⟨rfl,rfl⟩;go_wp2;go_ret;have B4:aj w2 ((w2.alloc (ak #[.func (.func vf) #[] Uq.toArray] 398)).alloc (ak #[.func (.func 288) #[] #[ag w2.heap.size]] 398)):=Below.a2 w2 _ _;refine⟨_,rfl,⟨367,[ag (w2.heap.size+1)],⟨rfl,enters_of func367 Uj rfl⟩,λS d fl n W hK fg hu Us=> ?_⟩,dI b2 B4⟩;refine(KH (w2.heap.size+1) 288 [ag w2.heap.size] (hK.bx Ue (dM.newAt Uf _ _)) (enters_of func288 Uj rfl) (Ib w2.heap.size vf Uq (hK.bx s2 (KV.alloc _)) Uw (Uv.out _ W S d fl n B4 hK fg hu Us))).as λl=> ?_
    have⟨m1,m2,m3⟩:=Ur S d fl fg;exact Iu m1 m2 ⟨by rw[m3];simp[h0.1],by rw[<-fg.gb];exact h0.2⟩
   ·have hz:∀(S:d8) (d:MT) (fl:eT),FG S mp d fl g->¬(gG fl.how eS=true/\fB S fl≠16):=λS d fl fg q=>h0 ⟨by have:=q.1;rw[fg.sin]at this;simpa using this,by rw[fg.gb];exact q.2⟩
    have HF:Hid (∀(S:d8) (d:MT) (fl:eT) (n:Nat) (W:an),Kp (λb=>w.heap.size<=b) ((w2.alloc (ak #[.func (.func vf) #[] Uq.toArray] 398)).alloc (ak #[.func (.func vf) #[] Uq.toArray] 398)) W->FG S mp d fl g->(∀W',Below W.heap.size W W'->UOK W')->(fB S fl=16->∃t,eV S fl=some t/\H9 S iq n t W)->ND (fy S (dP S n) fl) n 367 [ag (w2.heap.size+1)] W):=λS d fl n W hK fg hu Us=>by
     have⟨m1,m2,m3⟩:=Ur S d fl fg;exact(KH (w2.heap.size+1) vf Uq (hK.bx Ue (dM.newAt Uf _ _)) Uw (Uv.out _ W S d fl n (Below.a2 w2 _ _) hK fg hu Us)).as λl=>It m1 m2 (hz S d fl fg)
    have Ut:∀args w,(callFunc 367 args).run prog w= .ok (.enter 367 args) w:=enters_of func367 Uj rfl
    by_cases h00:g.form=0
    ·have f0:(g.form==0)=true:=by simp[h00]
     have UE:((eh mp g:Int)==16)=true:=by
      have:eh mp g=16:=Decidable.not_not.1 λq=>h0 ⟨h00,q⟩
      simp[this]
     clear Ur hz h0;go_wp2_with fail;refine(hL _).mono ?_;rintro e w4 ⟨rfl,rfl⟩;go_wp2;go_ret;exact⟨_,rfl,⟨367,[ag (w2.heap.size+1)],⟨rfl,Ut⟩,HF.out⟩,dI b2 (Below.a2 w2 _ _)⟩
    ·have f0:(g.form==0)=false:=by simp[h00]
     clear Ur hz h0;go_wp2_with fail;refine(hL _).mono ?_;rintro e w4 ⟨rfl,rfl⟩;go_wp2;go_ret;exact⟨_,rfl,⟨367,[ag (w2.heap.size+1)],⟨rfl,Ut⟩,HF.out⟩,dI b2 (Below.a2 w2 _ _)⟩
section
variable (w:an)
def uq (k:Nat)(pq iq:aw)(hk:k<=16):Calls prog 368 #[.agg #[aa k,.pointer pq],.pointer iq] w (jl w λw' v=>Rt w' (λb=>w.heap.size<=b) k iq v):=by
 have Us:= @vD;have hC:=λW=>py W k (.pointer pq) hk
 have⟨B0,K1,K2⟩:=gH w #[aa k,.pointer pq] #[.pointer iq] 216 116;have⟨k1,k2⟩:=K1.rules
 rcases Ah hk with rfl|rfl|rfl|rfl|rfl|rfl|rfl|rfl|rfl|rfl|rfl|rfl|rfl|rfl|rfl|rfl|rfl
 all_goals
  go_in
  go_wp2_with (go_at_call 208;refine(hC _).mono ?_;rintro e w2 ⟨rfl,b2⟩)
  go_ret
  first
   |exact⟨_,rfl,⟨417,[],⟨rfl,enters_of func417 Uj rfl⟩,λS fl n N W hK hq hN hb Uq=>SC Ue⟩,dI B0 b2⟩
   |exact⟨_,rfl,⟨416,[],⟨rfl,enters_of func416 Uj rfl⟩,λS fl n N W hK hq hN hb Uq=>SB Ue⟩,dI B0 b2⟩
   |exact⟨_,rfl,⟨415,[],⟨rfl,enters_of func415 Uj rfl⟩,λS fl n N W hK hq hN hb Uq=>SA Ue⟩,dI B0 b2⟩
   |exact⟨_,rfl,⟨414,[],⟨rfl,enters_of func414 Uj rfl⟩,λS fl n N W hK hq hN hb Uq=>Sz Ue⟩,B0⟩
   |exact⟨_,rfl,⟨413,[],⟨rfl,enters_of func413 Uj rfl⟩,λS fl n N W hK hq hN hb Uq=>Sy Ue⟩,B0⟩
   |(
     refine⟨_,rfl,⟨412,[ag (w.heap.size+1)],⟨rfl,enters_of func412 Uj rfl⟩,λS fl n N W hK hq hN hb Uq=> ?_⟩,B0⟩;have⟨t,h1,h2⟩:=Uq hb
     exact Sx _ iq t hN (hK.bx Ue K2) (hq _ Ue K2.lt) h2 hb h1)
def pT (k:Nat)(pq iq:aw)(hk:k<=16):Calls prog 293 #[.agg #[aa k,.pointer pq],.pointer iq] w (jl w λw' v=>uV w' (λb=>w.heap.size<=b) k iq v):=by
 have Us:= @vD;have hC:=λW=>py W k (.pointer pq) hk
 have⟨B0,K1,K2⟩:=gH w #[aa k,.pointer pq] #[.pointer iq] 216 116;have⟨k1,k2⟩:=K1.rules
 rcases Ah hk with rfl|rfl|rfl|rfl|rfl|rfl|rfl|rfl|rfl|rfl|rfl|rfl|rfl|rfl|rfl|rfl|rfl
 all_goals
  go_in
  go_wp2_with (go_at_call 208;refine(hC _).mono ?_;rintro e w2 ⟨rfl,b2⟩)
  go_ret
  first
   |exact⟨_,rfl,⟨376,[],⟨rfl,enters_of func376 Uj rfl⟩,λS fl n N W hK hq hN hb Uq=>SI hN Ue⟩,dI B0 b2⟩
   |exact⟨_,rfl,⟨375,[],⟨rfl,enters_of func375 Uj rfl⟩,λS fl n N W hK hq hN hb Uq=>SH hN Ue⟩,dI B0 b2⟩
   |exact⟨_,rfl,⟨374,[],⟨rfl,enters_of func374 Uj rfl⟩,λS fl n N W hK hq hN hb Uq=>SG hN Ue⟩,dI B0 b2⟩
   |exact⟨_,rfl,⟨373,[],⟨rfl,enters_of func373 Uj rfl⟩,λS fl n N W hK hq hN hb Uq=>SF hN Ue⟩,B0⟩
   |exact⟨_,rfl,⟨372,[],⟨rfl,enters_of func372 Uj rfl⟩,λS fl n N W hK hq hN hb Uq=>SE hN Ue⟩,B0⟩
   |(
     refine⟨_,rfl,⟨371,[ag (w.heap.size+1)],⟨rfl,enters_of func371 Uj rfl⟩,λS fl n N W hK hq hN hb Uq=> ?_⟩,B0⟩;have⟨t,h1,h2,h3⟩:=Uq hb
     exact SD _ iq t hN (hK.bx Ue K2) (hq _ Ue K2.lt) h2 h3 hb h1)
def ng (k:Nat)(pq iq:aw)(hk:k<=16):Calls prog 289 #[.agg #[aa k,.pointer pq],.pointer iq] w (jl w λw' v=>uU w' (λb=>w.heap.size<=b) k iq v):=by
 have Us:= @vD;have⟨B1,K1⟩:=dS w #[aa k,.pointer pq] 216;have hC:=uq (w.alloc (ak #[aa k,.pointer pq] 216)) k pq iq hk;have⟨k1,k2⟩:=K1.rules;go_in
 go_wp2_with fail;refine hC.mono ?_;rintro e w2 ⟨v2,rfl,⟨vf,Ur,⟨rfl,Ut⟩,HV⟩,b2⟩;have s1:=B1.size;have s2:=b2.size;generalize w.alloc (ak #[aa k,.pointer pq] 216)=w1 at*;have⟨B3,K3⟩:=dS w2 #[.func (.func vf) #[] Ur.toArray] 447;go_wp2;go_ret;refine⟨_,rfl,⟨369,[ag w2.heap.size],⟨rfl,enters_of func369 Uj rfl⟩,λS fl n N W hK hq hN hb Uq=> ?_⟩,dI B1 (dI b2 B3)⟩;exact Rs w2.heap.size vf Ur hN (hK.bx Ue K3) (hq _ Ue K3.lt) Ut (HV S fl n N W ((hK.back B3).less λb q=>Ue) (λb q l=>hq b Ue (aD l B3.size)) hN hb Uq)
end
structure Bz (lo:Nat)(W:an)(on st:Bool)(t:Value)(b:Nat)(T:TypeId)(x y:Value):Prop where
 made:on=true->t=ag b/\lo<=b/\∃u v,dM W b #[u,v] T
 put:st=true->dM W b #[x,y] T
 dep:st=true->on=true
section
variable {lo:Nat} {W W':an} {on st:Bool} {t:Value} {b:Nat} {T:TypeId} {x y:Value}
def Bz.start:Bz lo W false false t b T x y:=⟨nofun,nofun,nofun⟩
def Bz.below (h:Bz lo W on st t b T x y)(hb:Below W.heap.size W W'):Bz lo W' on st t b T x y:=
 ⟨λe=>by
  have⟨h1,h2,u,v,h3⟩:=h.made e
  exact⟨h1,h2,u,v,h3.below hb h3.lt⟩,λe=>(h.put e).below hb (h.put e).lt,h.dep⟩
def Bz.alloc (h:Bz lo W on st t b T x y)(o:Obj):Bz lo (W.alloc o) on st t b T x y:=h.below ((Below.refl _ _).alloc (ay _) o)
def Bz.new (h:Bz lo W false st t b T x y)(hl:lo<=W.heap.size)(u v:Value):Bz lo (W.alloc (.cells #[u,v] T)) true st (ag W.heap.size) W.heap.size T x y:=
 ⟨λ_=>⟨rfl,hl,u,v,dM.new _ _ _⟩,λe=>(by cases h.dep e),λe=>Uk⟩
def Bz.store (h:Bz lo W true st t b T x y):Bz lo ((W.setCell (ai b 0) x).setCell (ai b 1) y) true true t b T x y:=by
 have⟨h1,h2,u,v,h3⟩:=h.made rfl;have q:dM ((W.setCell (ai b 0) x).setCell (ai b 1) y) b #[x,y] T:=(h3.set 0 x).set 1 y;exact⟨λ_=>⟨h1,h2,x,y,q⟩,λ_=>q,λ_=>rfl⟩
def Bz.oth (h:Bz lo W on st t b T x y){c:Nat}(hne:on=true->c≠b)(off:Nat)(z:Value):Bz lo (W.setCell (ai c off) z) on st t b T x y:=
 ⟨λe=>by
  have⟨h1,h2,u,v,h3⟩:=h.made e
  exact⟨h1,h2,u,v,h3.other off z (hne e)⟩,λe=>(h.put e).other off z (hne (h.dep e)),h.dep⟩
def Bz.lt (h:Bz lo W on st t b T x y)(e:on=true):b<W.heap.size:=by
 have⟨_,_,u,v,h3⟩:=h.made e;exact h3.lt
def Bx.oth {vr:Bool}(h:Bx lo W on st vr t b T x){c:Nat}(hne:on=true->c≠b)(off:Nat)(z:Value):Bx lo (W.setCell (ai c off) z) on st vr t b T x:=
 ⟨λe=>by
  have⟨h1,h2,h3⟩:=h.made e
  exact⟨h1,h2,h3.other off z (hne e)⟩,λe=>(h.put e).other off z (hne (h.dep e).1),h.dep⟩
def nE.lt1 {W:an}{on:Bool}{b:Nat}(h:on=true->b<W.heap.size):nE true on W.heap.size b:=λ_ e q=>by
 grind
end
def SV (n k t:Int):Prop:=0<=n/\n<=536870911->t=((eY n k).length:Int)
section
variable (w:an)
def NY (x:Int):0<=IntKind.u64.wrap x/\IntKind.u64.wrap x<=18446744073709551615:=by
 simp[IntKind.wrap,IntKind.bits,IntKind.signed];omega
def Ls (op:BinOp)(x y:Int):0<=bits op .u64 x y/\bits op .u64 x y<=18446744073709551615:=by
 unfold bits;exact NY _
def BK (x:Int):Calls prog 328 #[.int .u64 x] w λe w'=>∃t,e= .returned (aa t)/\aj w w':=by
 have⟨q1,q2⟩:=Ls .or x 1;have hl:=DC _ w q1 q2;clear q1 q2;go_in
 go_wp2_with fail;refine hl.mono ?_;rintro e w2 ⟨rfl,rfl⟩;go_wp2;go_ret;exact⟨_,rfl,Below.refl _ _⟩
def Qo (n k:Int):Calls prog 316 #[.agg #[aa n,aa k]] w λe w'=>∃x,e= .returned (.int .u64 x)/\aj w w':=by
 have⟨k1,k2⟩:=(dM.new w #[aa n,aa k] 237).rules;go_in
 go_wp2;go_ret;exact⟨_,rfl,(Below.refl _ _).alloc (ay _) _⟩
def Qp (n k:Int)(k0:0<=k)(k1:k<8):Calls prog 242 #[.agg #[aa n,aa k]] w λe w'=>∃t,e= .returned (aa t)/\SV n k t/\aj w w':=by
 by_cases h:0<=n/\n<=536870911
 ·exact(OW w n k h.1 h.2 k0 k1).mono λe w' q=>⟨_,q.1,λ_=>rfl,q.2⟩
 ·have⟨B1,K1⟩:=dS w #[aa n,aa k] 237;have⟨k1,k2⟩:=K1.rules;go_in
  go_wp2_with fail;refine(Qo _ n k).mono ?_;rintro e w2 ⟨x,rfl,b2⟩;go_wp2_with fail;refine(BK _ x).mono ?_;rintro e w3 ⟨m,rfl,b3⟩;go_wp2;go_ret;exact⟨_,rfl,λq=>absurd q h,dI B1 (dI b2 b3)⟩
end
inductive To (w:an)(mp:am->Option Nat)(g:GF)(fb:Nat)(pq iq:aw)(W:an):Array Bool->Act->Prop where
 |mk {l0 l1 l2 l3 l4 l5 l6 l7 l8 l9 l10 Ux Uy:Bool} {t5 t6 t7 t8 t9 UB UC UD UE UF Uz:Value} (bP bQ:Nat) (tl:Int) (m1 m2:Nat) (f0:l0=true->t7=ag fb) (f1:l1=true->t8= .agg #[aa g.f.num,aa (Ad mp g)]) (f2:l2=true->t9=aa tl) (f3:l3=true->UB=ag fb) (f4:l4=true->UC=ag fb) (f5:l5=true->UD= .pointer (some (ai fb 2))) (f6:l6=true->UE= .agg #[aa (eh mp g),.pointer pq]) (f7:l7=true->UF= .pointer iq) (B:aj w W) (xP:Bx (w.heap.size) W l9 Ux l2 t5 bP 3 t9) (xQ:Bx (w.heap.size) W l10 Uy l8 t6 bQ 262 Uz) (Uq:nE l9 l10 bP bQ) (Ur:Il l9 l8 bP m1 m2) (Us:Il l10 l8 bQ m1 m2) (V:l8=true->uU W (λb=>m1<=b/\b<m2) (eh mp g) iq Uz/\w.heap.size<=m1/\m2<=W.heap.size) (sz:l2=true->SV g.f.num (Ad mp g) tl):To w mp g fb pq iq W #[l0,l1,l2,l3,l4,l5,l6,l7,l8,l9,l10,Ux,Uy] ⟨#[ag fb,.pointer iq,undef,undef,.nilFunc,t5,t6,t7,t8,t9,UB,UC,UD,UE,UF,Uz,undef,undef,undef,undef],[]⟩
section
variable (w:an) (P:ap) (mp:am->Option Nat) (g:GF) (fb:Nat) (iq:aw)
def vx (h:eJ w P mp g fb):Calls prog 211 #[ag fb,.pointer iq] w (jl w λw' v=>Fg w' (λb=>w.heap.size<=b) mp g iq v):=by
 have hmf:= @vD;have⟨pv,rv,h1,_,Uv,UH⟩:=h.blk;obtain⟨pq,rfl⟩:=gq UH;obtain⟨ra,rn,rc,rfl⟩:=dN Uv.1;have UJ:=lr mp g;have UK:=h1.lt;have hT:∀W,aj w W->Ua 231 #[ag fb] W λe w'=>e= .returned (.agg #[aa g.f.num,aa (Ad mp g)])/\Below W.heap.size W w':=λW hW=>xM W P mp g fb (h.keep (λb _ hl=>hW.block b hl))
 have⟨UN,UO⟩:=sM mp g;have hS:=λW=>Qp W g.f.num (Ad mp g) UN UO
 have UL:∀W,aj w W->Ua 209 #[ag fb] W λe w'=>e= .returned (.bool (gR mp g))/\Below W.heap.size W w':=λW hW=>lT W P mp g fb (h.keep (λb _ hl=>hW.block b hl))
 have UM:=λW=>ng W (eh mp g) pq iq UJ
 clear UH Uv h;go_in
 go_upto_region 1 with fail
 go_cut [5,6]from 7 to 15 (λx y wx=>∃tb ab tl vv,x=ag tb/\y=ag ab/\dM wx tb #[aa tl] 3/\dM wx ab #[vv] 262/\SV g.f.num (Ad mp g) tl/\uU wx (λb=>w.heap.size<=b) (eh mp g) iq vv/\w.heap.size<=tb/\w.heap.size<=ab/\aj w wx)
 case first=>
  refine jP (λL a W=>To w mp g fb pq iq W L a) Uk ⟨0,0,0,0,0,nofun,nofun,nofun,nofun,nofun,nofun,nofun,nofun,(Below.refl _ _).drew,Bx.start,Bx.start,nofun,nofun,nofun,nofun,nofun⟩ Uj ?_ ?_
  ·rintro L a W @⟨l0,l1,l2,l3,l4,l5,l6,l7,l8,l9,l10,Ux,Uy,t5,t6,t7,t8,t9,UB,UC,UD,UE,UF,Uz,bP,bQ,tl,m1,m2,f0,f1,f2,f3,f4,f5,f6,f7,B,xP,xQ,Uq,Ur,Us,V,sz⟩ Ut;obtain rfl:l2=true:=Ut 2 Uh;obtain rfl:l8=true:=Ut 8 Uh;obtain rfl:l9=true:=Ut 9 Uh;obtain rfl:l10=true:=Ut 10 Uh;obtain rfl:Ux=true:=Ut 11 Uh;obtain rfl:Uy=true:=Ut 12 Uh;obtain⟨rfl,zP,_⟩:=xP.made rfl;obtain⟨rfl,zQ,_⟩:=xQ.made rfl;obtain rfl:=f2 rfl;have⟨v1,v2,v3⟩:=V rfl;have KP:=xP.put rfl;have KQ:=xQ.put rfl;have hsz:=sz rfl;go_wp2;go_meet
   case rel=>exact⟨_,_,_,_,rfl,rfl,KP,KQ,hsz,v1.move (λb q l=>⟨aG v2 q.1,rfl⟩),zP,zQ,B⟩
  refine .cons ?_ (.cons ?_ (.cons ?_ (.cons ?_ (.cons ?_ (.cons ?_ (.cons ?_ (.cons ?_ (.cons ?_ (.cons ?_ (.cons ?_ (.cons ?_ (.cons ?_ (.nil)))))))))))))
  all_goals
   rintro L a W ⟨bP,bQ,tl,m1,m2,f0,f1,f2,f3,f4,f5,f6,f7,B,xP,xQ,Uq,Ur,Us,V,sz⟩ h0 hd K hK;subst h0
  ·clear hd;go_simp;refine hK.out _ _ ?_;simp only[T8];exact⟨bP,bQ,tl,m1,m2,λ_=>rfl,f1,f2,f3,f4,f5,f6,f7,B,xP,xQ,Uq,Ur,Us,V,sz⟩
  ·obtain rfl:=eG (k:=0) hd Uj;obtain rfl:=f0 rfl;clear hd;go_simp;go_wp2_with (first|(go_at_call 231;refine(hT _ B).mono ?_;rintro e w2 ⟨rfl,b2⟩))
   refine hK.out _ _ ?_;simp only[T8];exact⟨bP,bQ,tl,m1,m2,λ_=>rfl,λ_=>rfl,f2,f3,f4,f5,f6,f7,(dI B b2),(xP.below b2),(xQ.below b2),Uq,Ur,Us,(λe=>⟨(V e).1.move (λb q l=>⟨q,b2.block b l⟩),(V e).2.1,aG (V e).2.2 b2.size⟩),sz⟩
  ·obtain rfl:=eG (k:=1) hd Uj;obtain rfl:=f1 rfl;clear hd;go_simp;go_wp2_with (first|(go_at_call 242;refine(hS _).mono ?_;rintro e w3 ⟨t3,rfl,hsz,b3⟩))
   refine hK.out _ _ ?_;simp only[T8];exact⟨bP,bQ,t3,m1,m2,f0,λ_=>rfl,λ_=>rfl,f3,f4,f5,f6,f7,(dI B b3),((xP.below b3).val _),(xQ.below b3),Uq,Ur,Us,(λe=>⟨(V e).1.move (λb q l=>⟨q,b3.block b l⟩),(V e).2.1,aG (V e).2.2 b3.size⟩),(λ_=>hsz)⟩
  ·clear hd;go_simp;refine hK.out _ _ ?_;simp only[T8];exact⟨bP,bQ,tl,m1,m2,f0,f1,f2,λ_=>rfl,f4,f5,f6,f7,B,xP,xQ,Uq,Ur,Us,V,sz⟩
  ·obtain rfl:=eG (k:=3) hd Uj;obtain rfl:=f3 rfl;clear hd;go_simp;refine hK.out _ _ ?_;simp only[T8];exact⟨bP,bQ,tl,m1,m2,f0,f1,f2,λ_=>rfl,λ_=>rfl,f5,f6,f7,B,xP,xQ,Uq,Ur,Us,V,sz⟩
  ·obtain rfl:=eG (k:=4) hd Uj;obtain rfl:=f4 rfl;clear hd;go_simp;refine hK.out _ _ ?_;simp only[T8];exact⟨bP,bQ,tl,m1,m2,f0,f1,f2,f3,λ_=>rfl,λ_=>rfl,f6,f7,B,xP,xQ,Uq,Ur,Us,V,sz⟩
  ·obtain rfl:=eG (k:=5) hd Uj;obtain rfl:=f5 rfl;have KF:=h1.below B UK;have⟨k1,k2⟩:=KF.rules;clear hd;go_simp;refine hK.out _ _ ?_;simp only[T8];exact⟨bP,bQ,tl,m1,m2,f0,f1,f2,f3,f4,λ_=>rfl,λ_=>rfl,f7,B,xP,xQ,Uq,Ur,Us,V,sz⟩
  ·clear hd;go_simp;refine hK.out _ _ ?_;simp only[T8];exact⟨bP,bQ,tl,m1,m2,f0,f1,f2,f3,f4,f5,f6,λ_=>rfl,B,xP,xQ,Uq,Ur,Us,V,sz⟩
  ·obtain rfl:=eG (k:=6) hd Uj;obtain rfl:=eG (k:=7) hd Uj;obtain rfl:=f6 rfl;obtain rfl:=f7 rfl;clear hd;go_simp;go_wp2_with (first|(go_at_call 289;refine(UM _).mono ?_;rintro e w4 ⟨vv,rfl,UP,b4⟩))
   refine hK.out _ _ ?_;simp only[T8];exact⟨bP,bQ,tl,W.heap.size,w4.heap.size,f0,f1,f2,f3,f4,f5,λ_=>rfl,λ_=>rfl,(dI B b4),(xP.below b4),((xQ.below b4).val _),Uq,(λe _=> .inl (xP.lt e)),(λe _=> .inl (xQ.lt e)),(λ_=>⟨UP.move (λb q l=>⟨⟨q,l⟩,rfl⟩),B.size,ay _⟩),sz⟩
  ·clear hd;go_simp;refine hK.out _ _ ?_;simp only[T8];exact⟨W.heap.size,bQ,tl,m1,m2,f0,f1,f2,f3,f4,f5,f6,f7,(B.alloc B.size _),(xP.new B.size _),(xQ.alloc _),(nE.lt1 xQ.lt),(λ_ e=> .inr (V e).2.2),Us,(λe=>⟨(V e).1.move (λb q l=>⟨q,(Ud W _).block b l⟩),(V e).2.1,aG (V e).2.2 (Ud W _).size⟩),sz⟩
  ·clear hd;go_simp;refine hK.out _ _ ?_;simp only[T8];exact⟨bP,W.heap.size,tl,m1,m2,f0,f1,f2,f3,f4,f5,f6,f7,(B.alloc B.size _),(xP.alloc _),(xQ.new B.size _),(nE.lt1 xP.lt).symm,Ur,(λ_ e=> .inr (V e).2.2),(λe=>⟨(V e).1.move (λb q l=>⟨q,(Ud W _).block b l⟩),(V e).2.1,aG (V e).2.2 (Ud W _).size⟩),sz⟩
  ·obtain rfl:=eG (k:=9) hd Uj;obtain rfl:=eG (k:=2) hd Uj;obtain⟨rfl,zP,yP⟩:=xP.made rfl;have⟨wP,cP,kP⟩:=g7 yP;obtain rfl:=f2 rfl;clear hd;go_simp;refine hK.out _ _ ?_;simp only[T8];exact⟨bP,bQ,tl,m1,m2,f0,f1,λ_=>rfl,f3,f4,f5,f6,f7,(B.setCell (p:=(ai bP 0)) zP _),xP.store,(xQ.oth (λe=>Uq rfl e) 0 _),Uq,Ur,Us,(λe=>⟨(V e).1.move (λb q l=>⟨q,dZ (by have:=Ur rfl e;omega)⟩),(V e).2.1,by simpa using(V e).2.2⟩),sz⟩
  ·obtain rfl:=eG (k:=10) hd Uj;obtain rfl:=eG (k:=8) hd Uj;obtain⟨rfl,zQ,yQ⟩:=xQ.made rfl;have⟨wQ,cQ,kQ⟩:=g7 yQ;obtain⟨vf,vcap,⟨rfl,UG⟩,hvc⟩:=(V rfl).1;clear hd;go_simp;refine hK.out _ _ ?_;simp only[T8];exact⟨bP,bQ,tl,m1,m2,f0,f1,f2,f3,f4,f5,f6,f7,(B.setCell (p:=(ai bQ 0)) zQ _),(xP.oth (λe=>Uq.symm rfl e) 0 _),xQ.store,Uq,Ur,Us,(λe=>⟨(V e).1.move (λb q l=>⟨q,dZ (by have:=Us rfl e;omega)⟩),(V e).2.1,by simpa using(V e).2.2⟩),sz⟩
 case rest=>
  obtain⟨tb,ab,tl,vv,rfl,rfl,KP,KQ,hsz,⟨af,Uw,⟨rfl,UG⟩,hv⟩,zP,zQ,b3⟩:=hcut;have hq:=UL wc b3;obtain⟨pk,UA⟩:∃pk,gR mp g=pk:=⟨_,rfl⟩;rw[UA]at hq
  have HF:Hid (∀w5,aj wc w5->∀f,(∀args w,(callFunc f args).run prog w= .ok (.enter f args) w)->f=(if pk then 290 else 291)->Fg w5 (λb=>w.heap.size<=b) mp g iq (.func (.func f) #[] #[ag tb,ag ab])):=λw5 b5 f hf UI=>by
   refine⟨f,[ag tb,ag ab],⟨rfl,hf⟩,λS d fl n N W hK hq hN fg hnm UQ=> ?_⟩;have Uu:=hsz (by rw[fg.eq];omega);rw[fg.eq,fg.tk]at Uu;subst Uu;have K1:=hK.bx zP (KP.below b5 KP.lt);have K2:=hK.bx zQ (KQ.below b5 KQ.lt);have L:=hv S fl n N W (hK.back b5) (λb q l=>hq b q (aD l b5.size)) hN fg.gb.symm UQ;have i1:=hq tb zP (aD KP.lt b5.size);have i2:=hq ab zQ (aD KQ.lt b5.size);rw[fg.pk]at UA
   cases pk with
   |true=>
    obtain rfl:=UI;have:=KL tb ab af Uw (eY fl.num (nZ S fl)) K1 K2 i1 i2 UG L
    exact λW' Z vv l k B q1 q2 q3 q4=>by
     have e:jU S (ed S n) fl l=eY fl.num (nZ S fl)++eZ (mG S (ed S n) fl l):=by unfold jU;rw[dE UA]
     rw[e]at q4⊢;exact this W' Z vv l k B q1 q2 q3 q4
   |false=>
    obtain rfl:=UI;have:=NJ tb ab af Uw (eY fl.num (nZ S fl)) K1 K2 i1 i2 UG L
    exact λW' Z vv l k B q1 q2 q3 q4=>by
     have e:jU S (ed S n) fl l=l.flatMap λv=>eY fl.num (nZ S fl)++fS S (ed S n) fl v:=by unfold jU;rw[dD (by grind)]
     rw[e]at q4⊢;exact this W' Z vv l k B q1 q2 q3 q4
  clear UA hsz hv
  cases pk with
  |true=>
   go_wp2_with fail;refine hq.mono ?_;rintro e w5 ⟨rfl,b5⟩;go_wp2;go_ret;exact⟨_,rfl,HF.out w5 b5 290 (enters_of func290 Uk rfl) rfl,dI b3 b5⟩
  |false=>
   go_wp2_with fail;refine hq.mono ?_;rintro e w5 ⟨rfl,b5⟩;go_wp2;go_ret;exact⟨_,rfl,HF.out w5 b5 291 (enters_of func291 Uk rfl) rfl,dI b3 b5⟩
end
inductive Tp (w:an)(mp:am->Option Nat)(g:GF)(fb:Nat)(pq iq:aw)(W:an):Array Bool->Act->Prop where
 |mk {l0 l1 l2 l3 l4 l5 l6 l7 l8 l9 l10 UA:Bool} {t5 t6 UI UG UJ UK UL UM UH UV:Value} (bP bQ:Nat) (m1 m2:Nat) (f0:l0=true->UI=ag fb) (f1:l1=true->UG= .agg #[aa g.f.num,aa (Ad mp g)]) (f2:l2=true->UJ=ag fb) (f3:l3=true->UK=ag fb) (f4:l4=true->UL= .pointer (some (ai fb 2))) (f5:l5=true->UM= .agg #[aa (eh mp g),.pointer pq]) (f6:l6=true->UH= .pointer iq) (B:aj w W) (xP:Bz (w.heap.size) W l8 l10 t5 bP 237 (aa g.f.num) (aa (Ad mp g))) (xQ:Bx (w.heap.size) W l9 UA l7 t6 bQ 404 UV) (Uq:nE l8 l9 bP bQ) (Ur:Il l8 l7 bP m1 m2) (Us:Il l9 l7 bQ m1 m2) (V:l7=true->uV W (λb=>m1<=b/\b<m2) (eh mp g) iq UV/\w.heap.size<=m1/\m2<=W.heap.size):Tp w mp g fb pq iq W #[l0,l1,l2,l3,l4,l5,l6,l7,l8,l9,l10,UA] ⟨#[ag fb,.pointer iq,undef,undef,.nilFunc,t5,t6,ag fb,.bool false,undef,undef,UI,UG,UJ,UK,UL,UM,UH,UV,undef],[]⟩
inductive Tq (w:an)(mp:am->Option Nat)(g:GF)(fb:Nat)(pq:aw)(W:an):Array Bool->Act->Prop where
 |mk {l0 l1 l2 l3 l4 l5 l6 l7 l8 l9 l10 UA UD UE UF US UT UU:Bool} {t3 t4 t5 t6 t7 t8 t9 UZ UI UG UJ UK UL UM UH:Value} (bP bQ bR:Nat) (m1 m2:Nat) (n1 n2:Nat) (f0:l0=true->t6=ag fb) (f1:l1=true->t7= .agg #[aa g.f.num,aa (Ad mp g)]) (f2:l2=true->t8=ag fb) (f3:l3=true->t9=ag fb) (f4:l4=true->UZ= .pointer (some (ai fb 2))) (f5:l5=true->UI= .agg #[aa (eh mp g),.pointer pq]) (f7:l7=true->UJ=ag fb) (f8:l8=true->UK=ag fb) (f9:l9=true->UL= .pointer (some (ai fb 2))) (f10:l10=true->UM= .agg #[aa (eh mp g),.pointer pq]) (B:aj w W) (xP:Bz (w.heap.size) W UD US t3 bP 237 (aa g.f.num) (aa (Ad mp g))) (xQ:Bx (w.heap.size) W UE UT l6 t4 bQ 262 UG) (xR:Bx (w.heap.size) W UF UU UA t5 bR 404 UH) (Uq:nE UD UE bP bQ) (Uu:nE UD UF bP bR) (Uv:nE UE UF bQ bR) (Uw:Il UD l6 bP m1 m2) (Ux:Il UE l6 bQ m1 m2) (Uy:Il UF l6 bR m1 m2) (A:l6=true->uU W (λb=>m1<=b/\b<m2) (eh mp g) none UG/\w.heap.size<=m1/\m2<=W.heap.size) (Ur:Il UD UA bP n1 n2) (Us:Il UE UA bQ n1 n2) (Uz:Il UF UA bR n1 n2) (V:UA=true->uV W (λb=>n1<=b/\b<n2) (eh mp g) none UH/\w.heap.size<=n1/\n2<=W.heap.size):Tq w mp g fb pq W #[l0,l1,l2,l3,l4,l5,l6,l7,l8,l9,l10,UA,UD,UE,UF,US,UT,UU] ⟨#[ag fb,undef,.nilFunc,t3,t4,t5,t6,t7,t8,t9,UZ,UI,UG,UJ,UK,UL,UM,UH,undef],[]⟩
section
variable (w:an) (P:ap) (mp:am->Option Nat) (g:GF) (fb:Nat) (iq:aw)
def Fl (h:eJ w P mp g fb)(hp:gR mp g=false):Calls prog 212 #[ag fb,.pointer iq] w (jl w λw' v=>DJ w' (λb=>w.heap.size<=b) mp g iq v):=by
 have hq:=lT w P mp g fb h;rw[hp]at hq;have U4:= @vD;have UQ:=lr mp g;go_in
 go_wp2_with fail;refine hq.mono ?_;rintro e wb ⟨rfl,b0⟩;have h:=h.keep (w':=wb) (λb _ hl=>b0.block b hl);have⟨pv,rv,h1,_,UB,UO⟩:=h.blk;obtain⟨pq,rfl⟩:=gq UO;obtain⟨ra,rn,rc,rfl⟩:=dN UB.1;have UR:=h1.lt;have hT:∀W,Below wb.heap.size wb W->Ua 231 #[ag fb] W λe w'=>e= .returned (.agg #[aa g.f.num,aa (Ad mp g)])/\Below W.heap.size W w':=λW hW=>xM W P mp g fb (h.keep (λb _ hl=>hW.block b hl))
 have UW:=λW=>pT W (eh mp g) pq iq UQ
 have yb:=b0.size;clear UO UB h hq;go_upto_region 3 with fail
 go_cut [5,6]from 11 to 18 (λx y wx=>∃tb vb vv,x=ag tb/\y=ag vb/\dM wx tb #[aa g.f.num,aa (Ad mp g)] 237/\dM wx vb #[vv] 404/\uV wx (λb=>wb.heap.size<=b) (eh mp g) iq vv/\wb.heap.size<=tb/\wb.heap.size<=vb/\Below wb.heap.size wb wx)
 case first=>
  refine jP (λL a W=>Tp wb mp g fb pq iq W L a) Uk ⟨0,0,0,0,nofun,nofun,nofun,nofun,nofun,nofun,nofun,(Below.refl _ _).drew,Bz.start,Bx.start,nofun,nofun,nofun,nofun⟩ Uj ?_ ?_
  ·rintro L a W @⟨l0,l1,l2,l3,l4,l5,l6,l7,l8,l9,l10,UA,t5,t6,UI,UG,UJ,UK,UL,UM,UH,UV,bP,bQ,m1,m2,f0,f1,f2,f3,f4,f5,f6,B,xP,xQ,Uq,Ur,Us,V⟩ Ut;obtain rfl:l1=true:=Ut 1 Uh;obtain rfl:l7=true:=Ut 7 Uh;obtain rfl:l8=true:=Ut 8 Uh;obtain rfl:l9=true:=Ut 9 Uh;obtain rfl:l10=true:=Ut 10 Uh;obtain rfl:UA=true:=Ut 11 Uh;obtain⟨rfl,zP,_⟩:=xP.made rfl;obtain⟨rfl,zQ,_⟩:=xQ.made rfl;have⟨v1,v2,v3⟩:=V rfl;have KP:=xP.put rfl;have KQ:=xQ.put rfl;go_wp2;go_meet
   case rel=>exact⟨_,_,_,rfl,rfl,KP,KQ,v1.move (λb q l=>⟨aG v2 q.1,rfl⟩),zP,zQ,B⟩
  refine .cons ?_ (.cons ?_ (.cons ?_ (.cons ?_ (.cons ?_ (.cons ?_ (.cons ?_ (.cons ?_ (.cons ?_ (.cons ?_ (.cons ?_ (.cons ?_ (.nil))))))))))))
  all_goals
   rintro L a W ⟨bP,bQ,m1,m2,f0,f1,f2,f3,f4,f5,f6,B,xP,xQ,Uq,Ur,Us,V⟩ h0 hd K hK;subst h0
  ·clear hd;go_simp;refine hK.out _ _ ?_;simp only[T8];exact⟨bP,bQ,m1,m2,λ_=>rfl,f1,f2,f3,f4,f5,f6,B,xP,xQ,Uq,Ur,Us,V⟩
  ·obtain rfl:=eG (k:=0) hd Uj;obtain rfl:=f0 rfl;clear hd;go_simp;go_wp2_with (first|(go_at_call 231;refine(hT _ B).mono ?_;rintro e w2 ⟨rfl,b2⟩))
   refine hK.out _ _ ?_;simp only[T8];exact⟨bP,bQ,m1,m2,λ_=>rfl,λ_=>rfl,f2,f3,f4,f5,f6,(dI B b2),(xP.below b2),(xQ.below b2),Uq,Ur,Us,(λe=>⟨(V e).1.move (λb q l=>⟨q,b2.block b l⟩),(V e).2.1,aG (V e).2.2 b2.size⟩)⟩
  ·clear hd;go_simp;refine hK.out _ _ ?_;simp only[T8];exact⟨bP,bQ,m1,m2,f0,f1,λ_=>rfl,f3,f4,f5,f6,B,xP,xQ,Uq,Ur,Us,V⟩
  ·obtain rfl:=eG (k:=2) hd Uj;obtain rfl:=f2 rfl;clear hd;go_simp;refine hK.out _ _ ?_;simp only[T8];exact⟨bP,bQ,m1,m2,f0,f1,λ_=>rfl,λ_=>rfl,f4,f5,f6,B,xP,xQ,Uq,Ur,Us,V⟩
  ·obtain rfl:=eG (k:=3) hd Uj;obtain rfl:=f3 rfl;clear hd;go_simp;refine hK.out _ _ ?_;simp only[T8];exact⟨bP,bQ,m1,m2,f0,f1,f2,λ_=>rfl,λ_=>rfl,f5,f6,B,xP,xQ,Uq,Ur,Us,V⟩
  ·obtain rfl:=eG (k:=4) hd Uj;obtain rfl:=f4 rfl;have KF:=h1.below B UR;have⟨k1,k2⟩:=KF.rules;clear hd;go_simp;refine hK.out _ _ ?_;simp only[T8];exact⟨bP,bQ,m1,m2,f0,f1,f2,f3,λ_=>rfl,λ_=>rfl,f6,B,xP,xQ,Uq,Ur,Us,V⟩
  ·clear hd;go_simp;refine hK.out _ _ ?_;simp only[T8];exact⟨bP,bQ,m1,m2,f0,f1,f2,f3,f4,f5,λ_=>rfl,B,xP,xQ,Uq,Ur,Us,V⟩
  ·obtain rfl:=eG (k:=5) hd Uj;obtain rfl:=eG (k:=6) hd Uj;obtain rfl:=f5 rfl;obtain rfl:=f6 rfl;clear hd;go_simp;go_wp2_with (first|(go_at_call 293;refine(UW _).mono ?_;rintro e w4 ⟨vv,rfl,UX,b4⟩))
   refine hK.out _ _ ?_;simp only[T8];exact⟨bP,bQ,W.heap.size,w4.heap.size,f0,f1,f2,f3,f4,λ_=>rfl,λ_=>rfl,(dI B b4),(xP.below b4),((xQ.below b4).val _),Uq,(λe _=> .inl (xP.lt e)),(λe _=> .inl (xQ.lt e)),(λ_=>⟨UX.move (λb q l=>⟨⟨q,l⟩,rfl⟩),B.size,ay _⟩)⟩
  ·clear hd;go_simp;refine hK.out _ _ ?_;simp only[T8];exact⟨W.heap.size,bQ,m1,m2,f0,f1,f2,f3,f4,f5,f6,(B.alloc B.size _),(xP.new B.size _ _),(xQ.alloc _),(nE.lt1 xQ.lt),(λ_ e=> .inr (V e).2.2),Us,(λe=>⟨(V e).1.move (λb q l=>⟨q,(Ud W _).block b l⟩),(V e).2.1,aG (V e).2.2 (Ud W _).size⟩)⟩
  ·clear hd;go_simp;refine hK.out _ _ ?_;simp only[T8];exact⟨bP,W.heap.size,m1,m2,f0,f1,f2,f3,f4,f5,f6,(B.alloc B.size _),(xP.alloc _),(xQ.new B.size _),(nE.lt1 xP.lt).symm,Ur,(λ_ e=> .inr (V e).2.2),(λe=>⟨(V e).1.move (λb q l=>⟨q,(Ud W _).block b l⟩),(V e).2.1,aG (V e).2.2 (Ud W _).size⟩)⟩
  ·obtain rfl:=eG (k:=8) hd Uj;obtain rfl:=eG (k:=1) hd Uj;obtain⟨rfl,zP,U6,U7,yP⟩:=xP.made rfl;have⟨cP,kP⟩:=yP.rules;obtain rfl:=f1 rfl;clear hd;go_simp;refine hK.out _ _ ?_;simp only[T8];exact⟨bP,bQ,m1,m2,f0,λ_=>rfl,f2,f3,f4,f5,f6,((B.setCell (p:=(ai bP 0)) zP _).setCell (p:=(ai bP 1)) zP _),xP.store,((xQ.oth (λe=>Uq rfl e) 0 _).oth (λe=>Uq rfl e) 1 _),Uq,Ur,Us,(λe=>⟨(V e).1.move (λb q l=>⟨q,(dZ (by have:=Ur rfl e;omega)).trans (dZ (by have:=Ur rfl e;omega))⟩),(V e).2.1,by simpa using(V e).2.2⟩)⟩
  ·obtain rfl:=eG (k:=9) hd Uj;obtain rfl:=eG (k:=7) hd Uj;obtain⟨rfl,zQ,yQ⟩:=xQ.made rfl;have⟨wQ,cQ,kQ⟩:=g7 yQ;obtain⟨vf,UC,⟨rfl,UN⟩,U2⟩:=(V rfl).1;clear hd;go_simp;refine hK.out _ _ ?_;simp only[T8];exact⟨bP,bQ,m1,m2,f0,f1,f2,f3,f4,f5,f6,(B.setCell (p:=(ai bQ 0)) zQ _),(xP.oth (λe=>Uq.symm rfl e) 0 _),xQ.store,Uq,Ur,Us,(λe=>⟨(V e).1.move (λb q l=>⟨q,dZ (by have:=Us rfl e;omega)⟩),(V e).2.1,by simpa using(V e).2.2⟩)⟩
 case rest=>
  obtain⟨tb,vb,vv,rfl,rfl,KP,KQ,⟨vf,UC,⟨rfl,UN⟩,hv⟩,zP,zQ,b3⟩:=hcut;go_wp2;go_ret;refine⟨_,rfl,⟨294,[ag tb,ag vb],⟨rfl,enters_of func294 Uk rfl⟩,λS d fl n N W hK hq hN fg UY U3=> ?_⟩,dI b0 b3⟩;have K1:=hK.bx Ue KP;have K2:=hK.bx Ue KQ;have L:=hv S fl n N W (hK.less λb q=>Ue) (λb q l=>hq b Ue l) hN fg.gb.symm U3;rw[fg.eq,fg.tk]at K1;rw[fg.pk]at hp;have hk:=sM mp g;rw[fg.tk]at hk;have:=NP tb vb vf UC fl.num (nZ S fl) hN K1 K2 (hq tb Ue KP.lt) (hq vb Ue KQ.lt) UY hk UN L
  exact λW' Z vv l k b l0 B q1 q2 q3 q4 q5 q6=>by
   have e:jU S (ed S n) fl l=l.flatMap λv=>eY fl.num (nZ S fl)++fS S (ed S n) fl v:=by unfold jU;rw[dD (by grind)]
   rw[e]at q6⊢;exact this W' Z vv l k b l0 B q1 q2 q3 q4 q5 q6
end
section
variable (w:an) (P:ap) (mp:am->Option Nat) (g:GF) (fb:Nat) (iq:aw)
def vy (h:eJ w P mp g fb)(hp:gR mp g=true):Calls prog 292 #[ag fb] w (jl w λw' v=>DJ w' (λb=>w.heap.size<=b) mp g iq v):=by
 have U4:= @vD;have⟨pv,rv,h1,_,UB,UO⟩:=h.blk;obtain⟨pq,rfl⟩:=gq UO;obtain⟨ra,rn,rc,rfl⟩:=dN UB.1;have UQ:=lr mp g;have UR:=h1.lt;have hT:∀W,aj w W->Ua 231 #[ag fb] W λe w'=>e= .returned (.agg #[aa g.f.num,aa (Ad mp g)])/\Below W.heap.size W w':=λW hW=>xM W P mp g fb (h.keep (λb _ hl=>hW.block b hl))
 have U5:=λW=>ng W (eh mp g) pq none UQ
 have UW:=λW=>pT W (eh mp g) pq none UQ
 clear UO UB h;go_in
 go_upto_region 1 with fail
 go_cut [3,4,5]from 6 to 17 (λx y z wx=>∃tb ab vb av vv,x=ag tb/\y=ag ab/\z=ag vb/\dM wx tb #[aa g.f.num,aa (Ad mp g)] 237/\dM wx ab #[av] 262/\dM wx vb #[vv] 404/\uU wx (λb=>w.heap.size<=b) (eh mp g) none av/\uV wx (λb=>w.heap.size<=b) (eh mp g) none vv/\w.heap.size<=tb/\w.heap.size<=ab/\w.heap.size<=vb/\aj w wx)
 case first=>
  refine jP (λL a W=>Tq w mp g fb pq W L a) Uk ⟨0,0,0,0,0,0,0,nofun,nofun,nofun,nofun,nofun,nofun,nofun,nofun,nofun,nofun,(Below.refl _ _).drew,Bz.start,Bx.start,Bx.start,nofun,nofun,nofun,nofun,nofun,nofun,nofun,nofun,nofun,nofun,nofun⟩ Uj ?_ ?_
  ·rintro L a W @⟨l0,l1,l2,l3,l4,l5,l6,l7,l8,l9,l10,UA,UD,UE,UF,US,UT,UU,t3,t4,t5,t6,t7,t8,t9,UZ,UI,UG,UJ,UK,UL,UM,UH,bP,bQ,bR,m1,m2,n1,n2,f0,f1,f2,f3,f4,f5,f7,f8,f9,f10,B,xP,xQ,xR,Uq,Uu,Uv,Uw,Ux,Uy,A,Ur,Us,Uz,V⟩ Ut;obtain rfl:l1=true:=Ut 1 Uh;obtain rfl:l6=true:=Ut 6 Uh;obtain rfl:UA=true:=Ut 11 Uh;obtain rfl:UD=true:=Ut 12 Uh;obtain rfl:UE=true:=Ut 13 Uh;obtain rfl:UF=true:=Ut 14 Uh;obtain rfl:US=true:=Ut 15 Uh;obtain rfl:UT=true:=Ut 16 Uh;obtain rfl:UU=true:=Ut 17 Uh;obtain⟨rfl,zP,_⟩:=xP.made rfl;obtain⟨rfl,zQ,_⟩:=xQ.made rfl;obtain⟨rfl,zR,_⟩:=xR.made rfl;have⟨a1,a2,a3⟩:=A rfl;have⟨v1,v2,v3⟩:=V rfl;have KP:=xP.put rfl;have KQ:=xQ.put rfl;have KR:=xR.put rfl;go_wp2;go_meet
   case rel=>exact⟨_,_,_,_,_,rfl,rfl,rfl,KP,KQ,KR,a1.move (λb q l=>⟨aG a2 q.1,rfl⟩),v1.move (λb q l=>⟨aG v2 q.1,rfl⟩),zP,zQ,zR,B⟩
  refine .cons ?_ (.cons ?_ (.cons ?_ (.cons ?_ (.cons ?_ (.cons ?_ (.cons ?_ (.cons ?_ (.cons ?_ (.cons ?_ (.cons ?_ (.cons ?_ (.cons ?_ (.cons ?_ (.cons ?_ (.cons ?_ (.cons ?_ (.cons ?_ (.nil))))))))))))))))))
  all_goals
   rintro L a W ⟨bP,bQ,bR,m1,m2,n1,n2,f0,f1,f2,f3,f4,f5,f7,f8,f9,f10,B,xP,xQ,xR,Uq,Uu,Uv,Uw,Ux,Uy,A,Ur,Us,Uz,V⟩ h0 hd K hK;subst h0
  ·clear hd;go_simp;refine hK.out _ _ ?_;simp only[T8];exact⟨bP,bQ,bR,m1,m2,n1,n2,λ_=>rfl,f1,f2,f3,f4,f5,f7,f8,f9,f10,B,xP,xQ,xR,Uq,Uu,Uv,Uw,Ux,Uy,A,Ur,Us,Uz,V⟩
  ·obtain rfl:=eG (k:=0) hd Uj;obtain rfl:=f0 rfl;clear hd;go_simp;go_wp2_with (first|(go_at_call 231;refine(hT _ B).mono ?_;rintro e w2 ⟨rfl,b2⟩))
   refine hK.out _ _ ?_;simp only[T8];exact⟨bP,bQ,bR,m1,m2,n1,n2,λ_=>rfl,λ_=>rfl,f2,f3,f4,f5,f7,f8,f9,f10,(dI B b2),(xP.below b2),(xQ.below b2),(xR.below b2),Uq,Uu,Uv,Uw,Ux,Uy,(λe=>⟨(A e).1.move (λb q l=>⟨q,b2.block b l⟩),(A e).2.1,aG (A e).2.2 b2.size⟩),Ur,Us,Uz,(λe=>⟨(V e).1.move (λb q l=>⟨q,b2.block b l⟩),(V e).2.1,aG (V e).2.2 b2.size⟩)⟩
  ·clear hd;go_simp;refine hK.out _ _ ?_;simp only[T8];exact⟨bP,bQ,bR,m1,m2,n1,n2,f0,f1,λ_=>rfl,f3,f4,f5,f7,f8,f9,f10,B,xP,xQ,xR,Uq,Uu,Uv,Uw,Ux,Uy,A,Ur,Us,Uz,V⟩
  ·obtain rfl:=eG (k:=2) hd Uj;obtain rfl:=f2 rfl;clear hd;go_simp;refine hK.out _ _ ?_;simp only[T8];exact⟨bP,bQ,bR,m1,m2,n1,n2,f0,f1,λ_=>rfl,λ_=>rfl,f4,f5,f7,f8,f9,f10,B,xP,xQ,xR,Uq,Uu,Uv,Uw,Ux,Uy,A,Ur,Us,Uz,V⟩
  ·obtain rfl:=eG (k:=3) hd Uj;obtain rfl:=f3 rfl;clear hd;go_simp;refine hK.out _ _ ?_;simp only[T8];exact⟨bP,bQ,bR,m1,m2,n1,n2,f0,f1,f2,λ_=>rfl,λ_=>rfl,f5,f7,f8,f9,f10,B,xP,xQ,xR,Uq,Uu,Uv,Uw,Ux,Uy,A,Ur,Us,Uz,V⟩
  ·obtain rfl:=eG (k:=4) hd Uj;obtain rfl:=f4 rfl;have KF:=h1.below B UR;have⟨k1,k2⟩:=KF.rules;clear hd;go_simp;refine hK.out _ _ ?_;simp only[T8];exact⟨bP,bQ,bR,m1,m2,n1,n2,f0,f1,f2,f3,λ_=>rfl,λ_=>rfl,f7,f8,f9,f10,B,xP,xQ,xR,Uq,Uu,Uv,Uw,Ux,Uy,A,Ur,Us,Uz,V⟩
  ·obtain rfl:=eG (k:=5) hd Uj;obtain rfl:=f5 rfl;clear hd;go_simp;go_wp2_with (first|(go_at_call 289;refine(U5 _).mono ?_;rintro e w3 ⟨av,rfl,U8,b3⟩))
   refine hK.out _ _ ?_;simp only[T8];exact⟨bP,bQ,bR,W.heap.size,w3.heap.size,n1,n2,f0,f1,f2,f3,f4,λ_=>rfl,f7,f8,f9,f10,(dI B b3),(xP.below b3),((xQ.below b3).val _),(xR.below b3),Uq,Uu,Uv,(λe _=> .inl (xP.lt e)),(λe _=> .inl (xQ.lt e)),(λe _=> .inl (xR.lt e)),(λ_=>⟨U8.move (λb q l=>⟨⟨q,l⟩,rfl⟩),B.size,ay _⟩),Ur,Us,Uz,(λe=>⟨(V e).1.move (λb q l=>⟨q,b3.block b l⟩),(V e).2.1,aG (V e).2.2 b3.size⟩)⟩
  ·clear hd;go_simp;refine hK.out _ _ ?_;simp only[T8];exact⟨bP,bQ,bR,m1,m2,n1,n2,f0,f1,f2,f3,f4,f5,λ_=>rfl,f8,f9,f10,B,xP,xQ,xR,Uq,Uu,Uv,Uw,Ux,Uy,A,Ur,Us,Uz,V⟩
  ·obtain rfl:=eG (k:=7) hd Uj;obtain rfl:=f7 rfl;clear hd;go_simp;refine hK.out _ _ ?_;simp only[T8];exact⟨bP,bQ,bR,m1,m2,n1,n2,f0,f1,f2,f3,f4,f5,λ_=>rfl,λ_=>rfl,f9,f10,B,xP,xQ,xR,Uq,Uu,Uv,Uw,Ux,Uy,A,Ur,Us,Uz,V⟩
  ·obtain rfl:=eG (k:=8) hd Uj;obtain rfl:=f8 rfl;clear hd;go_simp;refine hK.out _ _ ?_;simp only[T8];exact⟨bP,bQ,bR,m1,m2,n1,n2,f0,f1,f2,f3,f4,f5,f7,λ_=>rfl,λ_=>rfl,f10,B,xP,xQ,xR,Uq,Uu,Uv,Uw,Ux,Uy,A,Ur,Us,Uz,V⟩
  ·obtain rfl:=eG (k:=9) hd Uj;obtain rfl:=f9 rfl;have KF:=h1.below B UR;have⟨k1,k2⟩:=KF.rules;clear hd;go_simp;refine hK.out _ _ ?_;simp only[T8];exact⟨bP,bQ,bR,m1,m2,n1,n2,f0,f1,f2,f3,f4,f5,f7,f8,λ_=>rfl,λ_=>rfl,B,xP,xQ,xR,Uq,Uu,Uv,Uw,Ux,Uy,A,Ur,Us,Uz,V⟩
  ·obtain rfl:=eG (k:=10) hd Uj;obtain rfl:=f10 rfl;clear hd;go_simp;go_wp2_with (first|(go_at_call 293;refine(UW _).mono ?_;rintro e w4 ⟨vv,rfl,UX,b4⟩))
   refine hK.out _ _ ?_;simp only[T8];exact⟨bP,bQ,bR,m1,m2,W.heap.size,w4.heap.size,f0,f1,f2,f3,f4,f5,f7,f8,f9,λ_=>rfl,(dI B b4),(xP.below b4),(xQ.below b4),((xR.below b4).val _),Uq,Uu,Uv,Uw,Ux,Uy,(λe=>⟨(A e).1.move (λb q l=>⟨q,b4.block b l⟩),(A e).2.1,aG (A e).2.2 b4.size⟩),(λe _=> .inl (xP.lt e)),(λe _=> .inl (xQ.lt e)),(λe _=> .inl (xR.lt e)),(λ_=>⟨UX.move (λb q l=>⟨⟨q,l⟩,rfl⟩),B.size,ay _⟩)⟩
  ·clear hd;go_simp;refine hK.out _ _ ?_;simp only[T8];exact⟨W.heap.size,bQ,bR,m1,m2,n1,n2,f0,f1,f2,f3,f4,f5,f7,f8,f9,f10,(B.alloc B.size _),(xP.new B.size _ _),(xQ.alloc _),(xR.alloc _),(nE.lt1 xQ.lt),(nE.lt1 xR.lt),Uv,(λ_ e=> .inr (A e).2.2),Ux,Uy,(λe=>⟨(A e).1.move (λb q l=>⟨q,(Ud W _).block b l⟩),(A e).2.1,aG (A e).2.2 (Ud W _).size⟩),(λ_ e=> .inr (V e).2.2),Us,Uz,(λe=>⟨(V e).1.move (λb q l=>⟨q,(Ud W _).block b l⟩),(V e).2.1,aG (V e).2.2 (Ud W _).size⟩)⟩
  ·clear hd;go_simp;refine hK.out _ _ ?_;simp only[T8];exact⟨bP,W.heap.size,bR,m1,m2,n1,n2,f0,f1,f2,f3,f4,f5,f7,f8,f9,f10,(B.alloc B.size _),(xP.alloc _),(xQ.new B.size _),(xR.alloc _),(nE.lt1 xP.lt).symm,Uu,(nE.lt1 xR.lt),Uw,(λ_ e=> .inr (A e).2.2),Uy,(λe=>⟨(A e).1.move (λb q l=>⟨q,(Ud W _).block b l⟩),(A e).2.1,aG (A e).2.2 (Ud W _).size⟩),Ur,(λ_ e=> .inr (V e).2.2),Uz,(λe=>⟨(V e).1.move (λb q l=>⟨q,(Ud W _).block b l⟩),(V e).2.1,aG (V e).2.2 (Ud W _).size⟩)⟩
  ·clear hd;go_simp;refine hK.out _ _ ?_;simp only[T8];exact⟨bP,bQ,W.heap.size,m1,m2,n1,n2,f0,f1,f2,f3,f4,f5,f7,f8,f9,f10,(B.alloc B.size _),(xP.alloc _),(xQ.alloc _),(xR.new B.size _),Uq,(nE.lt1 xP.lt).symm,(nE.lt1 xQ.lt).symm,Uw,Ux,(λ_ e=> .inr (A e).2.2),(λe=>⟨(A e).1.move (λb q l=>⟨q,(Ud W _).block b l⟩),(A e).2.1,aG (A e).2.2 (Ud W _).size⟩),Ur,Us,(λ_ e=> .inr (V e).2.2),(λe=>⟨(V e).1.move (λb q l=>⟨q,(Ud W _).block b l⟩),(V e).2.1,aG (V e).2.2 (Ud W _).size⟩)⟩
  ·obtain rfl:=eG (k:=12) hd Uj;obtain rfl:=eG (k:=1) hd Uj;obtain⟨rfl,zP,U6,U7,yP⟩:=xP.made rfl;have⟨cP,kP⟩:=yP.rules;obtain rfl:=f1 rfl;clear hd;go_simp;refine hK.out _ _ ?_;simp only[T8];exact⟨bP,bQ,bR,m1,m2,n1,n2,f0,λ_=>rfl,f2,f3,f4,f5,f7,f8,f9,f10,((B.setCell (p:=(ai bP 0)) zP _).setCell (p:=(ai bP 1)) zP _),xP.store,((xQ.oth (λe=>Uq rfl e) 0 _).oth (λe=>Uq rfl e) 1 _),((xR.oth (λe=>Uu rfl e) 0 _).oth (λe=>Uu rfl e) 1 _),Uq,Uu,Uv,Uw,Ux,Uy,(λe=>⟨(A e).1.move (λb q l=>⟨q,(dZ (by have:=Uw rfl e;omega)).trans (dZ (by have:=Uw rfl e;omega))⟩),(A e).2.1,by simpa using(A e).2.2⟩),Ur,Us,Uz,(λe=>⟨(V e).1.move (λb q l=>⟨q,(dZ (by have:=Ur rfl e;omega)).trans (dZ (by have:=Ur rfl e;omega))⟩),(V e).2.1,by simpa using(V e).2.2⟩)⟩
  ·obtain rfl:=eG (k:=13) hd Uj;obtain rfl:=eG (k:=6) hd Uj;obtain⟨rfl,zQ,yQ⟩:=xQ.made rfl;have⟨wQ,cQ,kQ⟩:=g7 yQ;obtain⟨af,UP,⟨rfl,UN⟩,U2⟩:=(A rfl).1;clear hd;go_simp;refine hK.out _ _ ?_;simp only[T8];exact⟨bP,bQ,bR,m1,m2,n1,n2,f0,f1,f2,f3,f4,f5,f7,f8,f9,f10,(B.setCell (p:=(ai bQ 0)) zQ _),(xP.oth (λe=>Uq.symm rfl e) 0 _),xQ.store,(xR.oth (λe=>Uv rfl e) 0 _),Uq,Uu,Uv,Uw,Ux,Uy,(λe=>⟨(A e).1.move (λb q l=>⟨q,dZ (by have:=Ux rfl e;omega)⟩),(A e).2.1,by simpa using(A e).2.2⟩),Ur,Us,Uz,(λe=>⟨(V e).1.move (λb q l=>⟨q,dZ (by have:=Us rfl e;omega)⟩),(V e).2.1,by simpa using(V e).2.2⟩)⟩
  ·obtain rfl:=eG (k:=14) hd Uj;obtain rfl:=eG (k:=11) hd Uj;obtain⟨rfl,zR,yR⟩:=xR.made rfl;have⟨wR,cR,kR⟩:=g7 yR;obtain⟨vf,UC,⟨rfl,UN⟩,U2⟩:=(V rfl).1;clear hd;go_simp;refine hK.out _ _ ?_;simp only[T8];exact⟨bP,bQ,bR,m1,m2,n1,n2,f0,f1,f2,f3,f4,f5,f7,f8,f9,f10,(B.setCell (p:=(ai bR 0)) zR _),(xP.oth (λe=>Uu.symm rfl e) 0 _),(xQ.oth (λe=>Uv.symm rfl e) 0 _),xR.store,Uq,Uu,Uv,Uw,Ux,Uy,(λe=>⟨(A e).1.move (λb q l=>⟨q,dZ (by have:=Uy rfl e;omega)⟩),(A e).2.1,by simpa using(A e).2.2⟩),Ur,Us,Uz,(λe=>⟨(V e).1.move (λb q l=>⟨q,dZ (by have:=Uz rfl e;omega)⟩),(V e).2.1,by simpa using(V e).2.2⟩)⟩
 case rest=>
  obtain⟨tb,ab,vb,av,vv,rfl,rfl,rfl,KP,KQ,KR,⟨af,UP,⟨rfl,U9⟩,ha⟩,⟨vf,UC,⟨rfl,UN⟩,hv⟩,zP,zQ,zR,b3⟩:=hcut;go_wp2;go_ret;refine⟨_,rfl,⟨370,[ag tb,ag ab,ag vb],⟨rfl,enters_of func370 Uk rfl⟩,λS d fl n N W hK hq hN fg UY U3=> ?_⟩,b3⟩;have K1:=hK.bx zP KP;have K2:=hK.bx zQ KQ;have K3:=hK.bx zR KR
  have U0:fB S fl≠16:=by
   rw[fg.pk]at hp;unfold ig at hp;rw[aJ]at hp;intro q;rw[q]at hp;simp[eO]at hp
  have L:=hv S fl n N W hK hq hN fg.gb.symm λq=>absurd q U0
  have A:=ha S fl n N W hK hq hN fg.gb.symm λq=>absurd q U0
  rw[fg.eq,fg.tk]at K1;rw[fg.pk]at hp;have hk:=sM mp g;rw[fg.tk]at hk;have:=KU tb ab af vb vf UP UC fl.num (nZ S fl) hN K1 K2 K3 (hq tb zP KP.lt) (hq ab zQ KQ.lt) (hq vb zR KR.lt) UY hk UN U9 L A
  exact λW' Z vv l k b l0 B q1 q2 q3 q4 q5 q6=>by
   have e:jU S (ed S n) fl l=eY fl.num (nZ S fl)++eZ (l.flatMap (fS S (ed S n) fl)):=by unfold jU;rw[dE hp];rfl
   rw[e]at q6⊢;exact this W' Z vv l k b l0 B q1 q2 q3 q4 q5 q6
def yY (h:eJ w P mp g fb):Calls prog 212 #[ag fb,.pointer iq] w (jl w λw' v=>DJ w' (λb=>w.heap.size<=b) mp g iq v):=by
 cases hp:gR mp g with
 |false=>exact Fl w P mp g fb iq h hp
 |true=>
  have U1:=lT w P mp g fb h;rw[hp]at U1;go_in
  go_wp2_with fail;refine U1.mono ?_;rintro e w1 ⟨rfl,b1⟩;have s1:=b1.size;have hW:=vy w1 P mp g fb iq (h.keep λb _ hl=>b1.block b hl) hp;go_wp2_with fail;refine hW.mono ?_;rintro e w2 ⟨v,rfl,E2,b2⟩;have⟨f2,c2,e2,_⟩:=id E2;obtain rfl:=e2.eq;go_wp2;go_ret;exact⟨_,rfl,E2.move λb q l=>⟨aG s1 q,rfl⟩,dI b1 b2⟩
end
end
def ur:pP:=⟨yi,vx,yY,vu,xX⟩
section
open Go.Maps
open Uq
def lK.lt {w:an}{sb kp mk:Nat}{bs:List dQ}{P:ap}(h:lK w sb kp mk bs P):P mk/\P kp/\mk<w.heap.size/\kp<w.heap.size:=by
 obtain⟨v,y,h1,⟨a1,a2,a3,a4,a5⟩,h3,N,pm,h4⟩:=h;exact⟨a3,a2,h4.mb.lt,h4.kb.lt⟩
def NZ (w:an)(hg:GOK w)(hbo:BOK w)(hu:UOK w):Calls prog 26 #[] w λe w'=>e= .returned (.bool true)/\aj w w':=by
 obtain⟨bs,m,Ux,Uy,hO,UH,e1,e2⟩:=Qm;have Ur:=Da Ux
 have hl:∀d,(dU bs).msg nK=some d->(ed (dU bs) 8 d m).length<=140737488355328:=λd _=>by
  have:=rG (S:=dU bs) 8 9 d m hO;omega
 have HP:=c5 w tK Uh hg hbo;rw[Ux]at HP;have Us:Hid (∀W,aj w W->UOK W):=λW hW=>hu.keep (hW.block _ hu.lt1) (hW.block _ hu.lt2)
 have HD:Hid (∀(W:an) (sb kp mk:Nat) (Uq:Int),aj w W->lK W sb kp mk bs (λb=>w.heap.size<=b)->Uq=1\/Uq=2->Ua 21 #[ag sb,aa Uq,ae nK,ae iK] W (kO [mk,kp] (λZ w'=>lK w' sb kp mk bs λx=>(w.heap.size<=x/\x<W.heap.size)\/(W.heap.size<=x/\¬Z x)) W (.ok m))):=λW sb kp mk Uq hW hs hw=>by
  have:=Aq ur W sb kp mk bs _ nK iK Uq hs Ur (Us.out W hW) Uh hw (by have:=hu.lt1;omega) (by have:=hu.lt2;omega)
  rwa [Uy]at this
 have HE:Hid (∀(W:an) (sb kp mk:Nat) (Uq:Int) (P Z:ap) (mv:Value),aj w W->lK W sb kp mk bs P->Uq=1\/Uq=2->(∀b,P b->w.heap.size<=b)->iH 9 W Z mv m->(∀b,Z b->¬P b)->Ua 24 #[ag sb,aa Uq,ae nK,.agg #[mv,ae m.unk]] W λe w'=>e= .returned (.tuple #[ae oK,aa 0])/\dX [mk,kp] W w'/\lK w' sb kp mk bs λx=>(P x/\x<W.heap.size)\/W.heap.size<=x):=λW sb kp mk Uq P Z mv hW hs hw hP hM hZ=>by
  have:=NV false ur W sb kp mk bs P nK Uq Z 9 mv m hs Ur (Us.out W hW) hw (λq=>by have:=hP _ q;have:=hu.lt1;omega) (λq=>by have:=hP _ q;have:=hu.lt2;omega) hM hZ hO hl;rw[e1,e2]at this;exact this
 have HS:Hid (∀(W:an) (sb kp mk:Nat) (Uq:Int) (P Z:ap) (mv:Value),aj w W->lK W sb kp mk bs P->Uq=1\/Uq=2->(∀b,P b->w.heap.size<=b)->iH 9 W Z mv m->(∀b,Z b->¬P b)->Ua 25 #[ag sb,aa Uq,ae nK,.agg #[mv,ae m.unk]] W λe w'=>e= .returned (.tuple #[aa 6,aa 0])/\dX [mk,kp] W w'/\lK w' sb kp mk bs λx=>(P x/\x<W.heap.size)\/W.heap.size<=x):=λW sb kp mk Uq P Z mv hW hs hw hP hM hZ=>by
  have:=NV true ur W sb kp mk bs P nK Uq Z 9 mv m hs Ur (Us.out W hW) hw (λq=>by have:=hP _ q;have:=hu.lt1;omega) (λq=>by have:=hP _ q;have:=hu.lt2;omega) hM hZ hO hl;rw[e1,e2]at this;exact this
 clear hl e1 e2 Uy UH hO;have hoo:(oK.toList==oK.toList)=true:=Uf;go_in
 go_wp2_with fail;refine HP.mono ?_;rintro e w1 ⟨⟨sb,kp,mk,rfl,UI⟩,b1⟩;have Uz:=UI.toP Ur;go_wp2;go_loopw [4,5,6,7,8,9,10,11] (λiv _ _ _ _ _ _ _ wr=>∃Uq:Nat,iv=aa Uq/\1<=Uq/\Uq<=3/\lK wr sb kp mk bs (λb=>w.heap.size<=b)/\aj w wr) (λiv _ _ _ _ _ _ _ _=>3-(intOf iv).toNat)
 case atStart=>exact⟨1,rfl,Ue,Ue,Uz,b1⟩
 case round=>
  obtain⟨Uq,rfl,hw1,hw3,hs,B⟩:=hrel
  by_cases hlt:Uq<3
  ·have hlt':(Uq:Int)<3:=Ue;have hw:(Uq:Int)=1\/(Uq:Int)=2:=Ue;have⟨pm1,pk1,lm,lk⟩:=hs.lt
   have Ut:∀x∈ [mk,kp],w.heap.size<=x:=λx hx=>by
    simp only[aN,bH,or_false]at hx
    rcases hx with rfl|rfl<;>assumption
   have UA:=HD.out wr sb kp mk Uq B hs hw;go_wp2_with fail;refine UA.mono ?_;rintro e w2 ⟨v,Z',rfl,hm,hZ,qF,UJ⟩;obtain⟨va,vc,rfl⟩:=hm.form;have B2:aj w w2:=B.trans (qF.to_below B.size Ut);have⟨B3,K3⟩:=dS w2 #[.slice va m.fs.length vc,ae m.unk] 49;have Uu:=dI B2 B3;have s2:=qF.size;have s3:=B3.size;have UB:=UJ.keep (w':=w2.alloc (ak #[.slice va m.fs.length vc,ae m.unk] 49)) λb _ hl=>B3.block b hl
   have Uw:=hm.toIn.rn.below B3 (ay _);have UC:=HE.out _ sb kp mk Uq _ Z' _ Uu UB hw (λb q=>by have:=B.size;rcases q with q|q<;>omega) Uw (λb q p=>p.elim (λp=>by have:=(hZ b q).1;omega) λp=>p.2 q);have⟨k1,k2⟩:=K3.rules;go_wp2_with fail;refine UC.mono ?_;rintro e w4 ⟨rfl,Uv,UK⟩
   have UD:∀b,Z' b->b∉ [mk,kp]:=λb q hx=>by
    have:=(hZ b q).1;simp only[aN,bH,or_false]at hx;omega
   have K4:=K3.kept Uv Ug;have B4:aj w w4:=Uu.trans (Uv.to_below Uu.size Ut);have UE:=Uw.keep (w':=w4) λb q hl=>Uv.block b hl (UD b q)
   have UF:=HS.out _ sb kp mk Uq _ Z' _ B4 UK hw (λb q=>by have:=B.size;rcases q with⟨q|q,_⟩|q<;>omega) UE (λb q p=>by
    have h1:=hZ b q
    rcases p with⟨p|p,_⟩|p
    ·omega
    ·exact p.2 q
    ·omega)
   clear k1 k2;have⟨k1,k2⟩:=K4.rules;go_wp2_with fail;refine UF.mono ?_;rintro e w5 ⟨rfl,UL,UM⟩;have B5:aj w w5:=B4.trans (UL.to_below B4.size Ut);have UG:=UM.less (P':=λb=>w.heap.size<=b) λb q _=>by have:=B.size;have:=B4.size;rcases q with⟨⟨q|q,_⟩|q,_⟩|q<;>omega
   go_wp2;go_roundw
   case rel=>exact⟨Uq+1,by go_num,Ue,Ue,UG,B5⟩
   case measure=>simp[intOf];omega
  ·obtain rfl:Uq=3:=Ue;go_wp2;go_ret;exact⟨rfl,B⟩
end
end Go.Proofs.YtfebdimolnobaaaGreatDoor
