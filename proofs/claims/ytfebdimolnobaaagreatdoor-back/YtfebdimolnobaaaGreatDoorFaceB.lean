import Derived.Test.YtfebdimolnobaaaGreatDoorPxF
import Derived.Test.YtfebdimolnobaaaGreatDoorPlS
import Derived.Test.YtfebdimolnobaaaGreatDoorKsA
set_option maxRecDepth 100000
set_option maxHeartbeats 8000000
set_option linter.all false
namespace Go.Proofs.YtfebdimolnobaaaGreatDoor
open Go.RowKit Go.Proofs.Tryz
section
open Go.Maps
def c5 (w:aw)(t:au)(hmax:t.size<=2^47)(hg:GOK w)(hbo:BOK w):
  Calls prog 13 #[ag t] w (Ed w (iS t)):=by
 have hmf:= @wo;have B0:=(Va w).alloc (aE _) (am #[ag t] 9);generalize hr:iS t=r;have HR:Hid (iS t=r):=hr;clear hr;go_in
 go_wp2_with fail;refine(Sc _ w.heap.size t hmax ((dX.new w #[ag t] 9).cell 0) (hg.O (B0.block _ hg.lt)) (hbo.O (B0.block _ hbo.lt))).V ?_;rw[HR.o]
 cases r with
 |error q=>
  obtain⟨k,p⟩:=q;rintro e w2 ⟨he,Vp⟩;obtain rfl:e= .returned (.tuple #[.pointer none,aa k,aa p]):=he;go_wp2;go_ret3
  exact⟨rfl,B0.J (Vp.V B0.size)⟩
 |ok bs=>
  rintro e w2 ⟨⟨sb,kp,mk,rfl,v,y,h1,⟨h3,h4,h5,h6⟩,hM,hK⟩,Vp⟩;go_wp2;go_ret3
  exact⟨⟨sb,kp,mk,rfl,v,y,h1,⟨aM B0.size h3,aM B0.size h4,aM B0.size h5,h6⟩,hM.V (λx hx _=>⟨aM B0.size hx.1,hx.2⟩),hK⟩,B0.J (Vp.V B0.size)⟩
end
section
open Vo
inductive Ul (w:aw)(mp:an)(g:GF)(fb:Nat)(pq:aC)(al:Int)(W:aw):Array Bool->Act->Prop where
 |mk {l0 l1 l2 l3 l4 l5 l6 l7 l8 l9 l10 VK VL VA Vx Vy Vz VC VD VE:Bool} {t3 t4 t5 t6 t7 t8 t9 VF VM VN VO VG VP VQ VR VS VH:Value} (bP bQ bR:Nat) (m1 m2:Nat) (f0:l0=true->t6=ah fb) (f1:l1=true->t7=ah fb) (f2:l2=true->t8= .pointer (some (aj fb 2))) (f3:l3=true->t9= .agg #[aa (jB mp g.f.ty),.pointer pq]) (f5:l5=true->VM=ah fb) (f6:l6=true->VN=ah fb) (f7:l7=true->VO=ah fb) (f8:l8=true->VG=aa g.f.num) (f9:l9=true->VP=ah fb) (Vt:l10=true->VQ=ah fb) (Vu:VK=true->VR= .pointer (some (aj fb 2))) (Vv:VL=true->VS= .agg #[aa (jB mp g.f.ty),.pointer pq]) (Vp:VA=true->VH=aa al) (B:ak w W) (xP:Bx (w.heap.size) W Vx VC l4 t3 bP 478 VF) (xQ:Bx (w.heap.size) W Vy VD l8 t4 bQ 3 VG) (xR:Bx (w.heap.size) W Vz VE VA t5 bR 235 VH) (Vq:ox Vx Vy bP bQ) (Vr:ox Vx Vz bP bR) (Vs:ox Vy Vz bQ bR) (oP:Jo Vx l4 bP m1 m2) (oQ:Jo Vy l4 bQ m1 m2) (oR:Jo Vz l4 bR m1 m2) (V:l4=true->nE W (λb=>m1<=b/\b<m2) (jB mp g.f.ty) VF/\w.heap.size<=m1/\m2<=W.heap.size):Ul w mp g fb pq al W #[l0,l1,l2,l3,l4,l5,l6,l7,l8,l9,l10,VK,VL,VA,Vx,Vy,Vz,VC,VD,VE] ⟨#[ah fb,undef,.nilFunc,t3,t4,t5,t6,t7,t8,t9,VF,VM,VN,VO,VG,VP,VQ,VR,VS,VH,undef],[]⟩
section
variable (w:aw) (Q P:ax) (mp pm:an) (g:GF) (fb:Nat)
def vW (hQ:∀b,w.heap.size<=b->Q b)(h:eZ w P mp g fb)(h4:g.form≠4)(hb:jB mp g.f.ty<=15):Calls prog 379 #[ah fb] w (jM w λw' v=>O3 w' Q mp g v):=by
 have hmf:= @wo;have⟨pv,rv,h1,_,VB,VU⟩:=h.blk;have VV:eI mp g=jB mp g.f.ty:=by unfold eI;rw[dO h4]
 rw[VV]at h1;obtain⟨pq,rfl⟩:=gK VU;obtain⟨ra,rn,rc,rfl⟩:=d5 VB.1;have hV:=λW=>AK W (jB mp g.f.ty) (.pointer pq) hb
 have hW:=λW=>qi W (jB mp g.f.ty) (.pointer pq) Vc
 clear VU VB h;have VJ:=h1.lt;obtain⟨al,VW⟩:∃al:Int,(eJ (jB mp g.f.ty):Int)=al:=⟨_,rfl⟩;rw[VW]at hW;go_in
 go_upto_region 1 with fail
 go_cut [3,4,5]from 6 to 19 (λx y z wx=>∃vb nb ab vv,x=ah vb/\y=ah nb/\z=ah ab/\dX wx vb #[vv] 478/\dX wx nb #[aa g.f.num] 3/\dX wx ab #[aa al] 235/\nE wx Q (jB mp g.f.ty) vv/\w.heap.size<=vb/\w.heap.size<=nb/\w.heap.size<=ab/\ak w wx)
 case first=>
  refine kD (λL a W=>Ul w mp g fb pq al W L a) Vi ⟨0,0,0,0,0,nofun,nofun,nofun,nofun,nofun,nofun,nofun,nofun,nofun,nofun,nofun,nofun,nofun,(Below.refl _ _).drew,Bx.start,Bx.start,Bx.start,nofun,nofun,nofun,nofun,nofun,nofun,nofun⟩ Vh ?_ ?_
  .rintro L a W @⟨l0,l1,l2,l3,l4,l5,l6,l7,l8,l9,l10,VK,VL,VA,Vx,Vy,Vz,VC,VD,VE,t3,t4,t5,t6,t7,t8,t9,VF,VM,VN,VO,VG,VP,VQ,VR,VS,VH,bP,bQ,bR,m1,m2,f0,f1,f2,f3,f5,f6,f7,f8,f9,Vt,Vu,Vv,Vp,B,xP,xQ,xR,Vq,Vr,Vs,oP,oQ,oR,V⟩ Vw;obtain rfl:l4=true:=Vw 4 Vf;obtain rfl:l8=true:=Vw 8 Vf;obtain rfl:VA=true:=Vw 13 Vf;obtain rfl:Vx=true:=Vw 14 Vf;obtain rfl:Vy=true:=Vw 15 Vf;obtain rfl:Vz=true:=Vw 16 Vf;obtain rfl:VC=true:=Vw 17 Vf;obtain rfl:VD=true:=Vw 18 Vf;obtain rfl:VE=true:=Vw 19 Vf;obtain⟨rfl,zP,_⟩:=xP.made rfl;obtain⟨rfl,zQ,_⟩:=xQ.made rfl;obtain⟨rfl,zR,_⟩:=xR.made rfl;obtain rfl:=f8 rfl;obtain rfl:=Vp rfl;have⟨v1,v2,v3⟩:=V rfl;have KP:=xP.put rfl;have KQ:=xQ.put rfl;have KR:=xR.put rfl;go_wp2;go_meet
   case rel=>exact⟨_,_,_,_,rfl,rfl,rfl,KP,KQ,KR,v1.mV (λb q l=>⟨hQ b Vc,rfl⟩),zP,zQ,zR,B⟩
  refine .cons ?_ (.cons ?_ (.cons ?_ (.cons ?_ (.cons ?_ (.cons ?_ (.cons ?_ (.cons ?_ (.cons ?_ (.cons ?_ (.cons ?_ (.cons ?_ (.cons ?_ (.cons ?_ (.cons ?_ (.cons ?_ (.cons ?_ (.cons ?_ (.cons ?_ (.cons ?_ .nil)))))))))))))))))))
  all_goals
   rintro L a W ⟨bP,bQ,bR,m1,m2,f0,f1,f2,f3,f5,f6,f7,f8,f9,Vt,Vu,Vv,Vp,B,xP,xQ,xR,Vq,Vr,Vs,oP,oQ,oR,V⟩ h0 hd K hK;subst h0
  .clear hd;go_simp;refine hK.out _ _ ?_;simp only[U6];exact⟨bP,bQ,bR,m1,m2,λ_=>rfl,f1,f2,f3,f5,f6,f7,f8,f9,Vt,Vu,Vv,Vp,B,xP,xQ,xR,Vq,Vr,Vs,oP,oQ,oR,V⟩
  .obtain rfl:=eV (k:=0) hd Vh;obtain rfl:=f0 rfl;clear hd;go_simp;refine hK.out _ _ ?_;simp only[U6];exact⟨bP,bQ,bR,m1,m2,λ_=>rfl,λ_=>rfl,f2,f3,f5,f6,f7,f8,f9,Vt,Vu,Vv,Vp,B,xP,xQ,xR,Vq,Vr,Vs,oP,oQ,oR,V⟩
  .obtain rfl:=eV (k:=1) hd Vh;obtain rfl:=f1 rfl;clear hd;go_simp;refine hK.out _ _ ?_;simp only[U6];exact⟨bP,bQ,bR,m1,m2,f0,λ_=>rfl,λ_=>rfl,f3,f5,f6,f7,f8,f9,Vt,Vu,Vv,Vp,B,xP,xQ,xR,Vq,Vr,Vs,oP,oQ,oR,V⟩
  .obtain rfl:=eV (k:=2) hd Vh;obtain rfl:=f2 rfl;have KF:=h1.G B VJ;have⟨k1,k2⟩:=KF.I;clear hd;go_simp;refine hK.out _ _ ?_;simp only[U6];exact⟨bP,bQ,bR,m1,m2,f0,f1,λ_=>rfl,λ_=>rfl,f5,f6,f7,f8,f9,Vt,Vu,Vv,Vp,B,xP,xQ,xR,Vq,Vr,Vs,oP,oQ,oR,V⟩
  .obtain rfl:=eV (k:=3) hd Vh;obtain rfl:=f3 rfl;clear hd;go_simp;go_wp2_with (first|(go_at_call 420;refine(hV _).V ?_;rintro e w2 ⟨vv,rfl,VI,b2⟩))
   refine hK.out _ _ ?_;simp only[U6];exact⟨bP,bQ,bR,W.heap.size,w2.heap.size,f0,f1,f2,λ_=>rfl,f5,f6,f7,f8,f9,Vt,Vu,Vv,Vp,(dU B b2),((xP.G b2).val _),(xQ.G b2),(xR.G b2),Vq,Vr,Vs,(λe _=> .inl (xP.lt e)),(λe _=> .inl (xQ.lt e)),(λe _=> .inl (xR.lt e)),(λ_=>⟨VI.mV (λb q l=>⟨⟨q,l⟩,rfl⟩),B.size,aE _⟩)⟩
  .clear hd;go_simp;refine hK.out _ _ ?_;simp only[U6];exact⟨bP,bQ,bR,m1,m2,f0,f1,f2,f3,λ_=>rfl,f6,f7,f8,f9,Vt,Vu,Vv,Vp,B,xP,xQ,xR,Vq,Vr,Vs,oP,oQ,oR,V⟩
  .obtain rfl:=eV (k:=5) hd Vh;obtain rfl:=f5 rfl;clear hd;go_simp;refine hK.out _ _ ?_;simp only[U6];exact⟨bP,bQ,bR,m1,m2,f0,f1,f2,f3,λ_=>rfl,λ_=>rfl,f7,f8,f9,Vt,Vu,Vv,Vp,B,xP,xQ,xR,Vq,Vr,Vs,oP,oQ,oR,V⟩
  .obtain rfl:=eV (k:=6) hd Vh;obtain rfl:=f6 rfl;clear hd;go_simp;refine hK.out _ _ ?_;simp only[U6];exact⟨bP,bQ,bR,m1,m2,f0,f1,f2,f3,f5,λ_=>rfl,λ_=>rfl,f8,f9,Vt,Vu,Vv,Vp,B,xP,xQ,xR,Vq,Vr,Vs,oP,oQ,oR,V⟩
  .obtain rfl:=eV (k:=7) hd Vh;obtain rfl:=f7 rfl;have KF:=h1.G B VJ;have⟨k1,k2⟩:=KF.I;clear hd;go_simp;refine hK.out _ _ ?_;simp only[U6];exact⟨bP,bQ,bR,m1,m2,f0,f1,f2,f3,f5,f6,λ_=>rfl,λ_=>rfl,f9,Vt,Vu,Vv,Vp,B,xP,(xQ.val _),xR,Vq,Vr,Vs,oP,oQ,oR,V⟩
  .clear hd;go_simp;refine hK.out _ _ ?_;simp only[U6];exact⟨bP,bQ,bR,m1,m2,f0,f1,f2,f3,f5,f6,f7,f8,λ_=>rfl,Vt,Vu,Vv,Vp,B,xP,xQ,xR,Vq,Vr,Vs,oP,oQ,oR,V⟩
  .obtain rfl:=eV (k:=9) hd Vh;obtain rfl:=f9 rfl;clear hd;go_simp;refine hK.out _ _ ?_;simp only[U6];exact⟨bP,bQ,bR,m1,m2,f0,f1,f2,f3,f5,f6,f7,f8,λ_=>rfl,λ_=>rfl,Vu,Vv,Vp,B,xP,xQ,xR,Vq,Vr,Vs,oP,oQ,oR,V⟩
  .obtain rfl:=eV (k:=10) hd Vh;obtain rfl:=Vt rfl;clear hd;go_simp;refine hK.out _ _ ?_;simp only[U6];exact⟨bP,bQ,bR,m1,m2,f0,f1,f2,f3,f5,f6,f7,f8,f9,λ_=>rfl,λ_=>rfl,Vv,Vp,B,xP,xQ,xR,Vq,Vr,Vs,oP,oQ,oR,V⟩
  .obtain rfl:=eV (k:=11) hd Vh;obtain rfl:=Vu rfl;have KF:=h1.G B VJ;have⟨k1,k2⟩:=KF.I;clear hd;go_simp;refine hK.out _ _ ?_;simp only[U6];exact⟨bP,bQ,bR,m1,m2,f0,f1,f2,f3,f5,f6,f7,f8,f9,Vt,λ_=>rfl,λ_=>rfl,Vp,B,xP,xQ,xR,Vq,Vr,Vs,oP,oQ,oR,V⟩
  .obtain rfl:=eV (k:=12) hd Vh;obtain rfl:=Vv rfl;clear hd;go_simp;go_wp2_with (first|(go_at_call 208;refine(hW _).V ?_;rintro e w3 ⟨rfl,b3⟩))
   refine hK.out _ _ ?_;simp only[U6];exact⟨bP,bQ,bR,m1,m2,f0,f1,f2,f3,f5,f6,f7,f8,f9,Vt,Vu,λ_=>rfl,λ_=>rfl,(dU B b3),(xP.G b3),(xQ.G b3),((xR.G b3).val _),Vq,Vr,Vs,oP,oQ,oR,(λe=>⟨(V e).1.mV (λb q l=>⟨q,b3.block b l⟩),(V e).2.1,aM (V e).2.2 b3.size⟩)⟩
  .clear hd;go_simp;refine hK.out _ _ ?_;simp only[U6];exact⟨W.heap.size,bQ,bR,m1,m2,f0,f1,f2,f3,f5,f6,f7,f8,f9,Vt,Vu,Vv,Vp,(B.alloc B.size _),(xP.new B.size _),(xQ.alloc _),(xR.alloc _),(ox.new1 xQ),(ox.new1 xR),Vs,(λ_ e=> .inr (V e).2.2),oQ,oR,(λe=>⟨(V e).1.mV (λb q l=>⟨q,(Vb W _).block b l⟩),(V e).2.1,aM (V e).2.2 (Vb W _).size⟩)⟩
  .clear hd;go_simp;refine hK.out _ _ ?_;simp only[U6];exact⟨bP,W.heap.size,bR,m1,m2,f0,f1,f2,f3,f5,f6,f7,f8,f9,Vt,Vu,Vv,Vp,(B.alloc B.size _),(xP.alloc _),(xQ.new B.size _),(xR.alloc _),(ox.new2 xP),Vr,(ox.new1 xR),oP,(λ_ e=> .inr (V e).2.2),oR,(λe=>⟨(V e).1.mV (λb q l=>⟨q,(Vb W _).block b l⟩),(V e).2.1,aM (V e).2.2 (Vb W _).size⟩)⟩
  .clear hd;go_simp;refine hK.out _ _ ?_;simp only[U6];exact⟨bP,bQ,W.heap.size,m1,m2,f0,f1,f2,f3,f5,f6,f7,f8,f9,Vt,Vu,Vv,Vp,(B.alloc B.size _),(xP.alloc _),(xQ.alloc _),(xR.new B.size _),Vq,(ox.new2 xP),(ox.new2 xQ),oP,oQ,(λ_ e=> .inr (V e).2.2),(λe=>⟨(V e).1.mV (λb q l=>⟨q,(Vb W _).block b l⟩),(V e).2.1,aM (V e).2.2 (Vb W _).size⟩)⟩
  .obtain rfl:=eV (k:=14) hd Vh;obtain rfl:=eV (k:=4) hd Vh;obtain⟨rfl,zP,yP⟩:=xP.made rfl;have⟨uP,cP,kP⟩:=iE yP;obtain⟨vf,VT,rfl⟩:=(V rfl).1.form;clear hd;go_simp;refine hK.out _ _ ?_;simp only[U6];exact⟨bP,bQ,bR,m1,m2,f0,f1,f2,f3,f5,f6,f7,f8,f9,Vt,Vu,Vv,Vp,(B.setCell (p:=(aj bP 0)) zP _),xP.store,(xQ.other (λe=>Vq rfl e) _),(xR.other (λe=>Vr rfl e) _),Vq,Vr,Vs,oP,oQ,oR,(λe=>⟨(V e).1.mV (λb q l=>⟨q,er (by have:=oP rfl e;omega)⟩),(V e).2.1,by simpa using(V e).2.2⟩)⟩
  .obtain rfl:=eV (k:=15) hd Vh;obtain rfl:=eV (k:=8) hd Vh;obtain⟨rfl,zQ,yQ⟩:=xQ.made rfl;have⟨uQ,cQ,kQ⟩:=iE yQ;obtain rfl:=f8 rfl;clear hd;go_simp;refine hK.out _ _ ?_;simp only[U6];exact⟨bP,bQ,bR,m1,m2,f0,f1,f2,f3,f5,f6,f7,λ_=>rfl,f9,Vt,Vu,Vv,Vp,(B.setCell (p:=(aj bQ 0)) zQ _),(xP.other (λe=>Vq.sy rfl e) _),xQ.store,(xR.other (λe=>Vs rfl e) _),Vq,Vr,Vs,oP,oQ,oR,(λe=>⟨(V e).1.mV (λb q l=>⟨q,er (by have:=oQ rfl e;omega)⟩),(V e).2.1,by simpa using(V e).2.2⟩)⟩
  .obtain rfl:=eV (k:=16) hd Vh;obtain rfl:=eV (k:=13) hd Vh;obtain⟨rfl,zR,yR⟩:=xR.made rfl;have⟨uR,cR,kR⟩:=iE yR;obtain rfl:=Vp rfl;clear hd;go_simp;refine hK.out _ _ ?_;simp only[U6];exact⟨bP,bQ,bR,m1,m2,f0,f1,f2,f3,f5,f6,f7,f8,f9,Vt,Vu,Vv,λ_=>rfl,(B.setCell (p:=(aj bR 0)) zR _),(xP.other (λe=>Vr.sy rfl e) _),(xQ.other (λe=>Vs.sy rfl e) _),xR.store,Vq,Vr,Vs,oP,oQ,oR,(λe=>⟨(V e).1.mV (λb q l=>⟨q,er (by have:=oR rfl e;omega)⟩),(V e).2.1,by simpa using(V e).2.2⟩)⟩
 case rest=>
  obtain⟨vb,nb,ab,vv,rfl,rfl,rfl,h5,h6,h7,VI,q1,q2,q3,b3⟩:=hcut;obtain⟨vf,VT,rfl⟩:=VI.form;go_wp2;go_ret;exact⟨_,rfl,⟨_,_,_,_,rfl,by grind,h6,h5,VI,hQ _ q3,hQ _ q2,hQ _ q1⟩,b3⟩
end
def Pb {S:eD}{f:fo}(h:f.isMap=true):fB S f=16/\fy S f=some (eP f):=⟨by unfold fB;rw[h];rfl,by unfold fy;rw[h];rfl⟩
def yV (w:aw)(P:ax)(mp:an)(g:GF)(fb:Nat)(iq:aC)(h:eZ w P mp g fb):Calls prog 210 #[ah fb,.pointer iq] w (jM w λw' v=>Jf w' (λb=>w.heap.size<=b) mp g iq v):=by
 have hmf:= @wo;have⟨pv,rv,h1,_,Vt,Vy⟩:=h.blk;obtain⟨pq,rfl⟩:=gK Vy;obtain⟨ra,rn,rc,rfl⟩:=d5 Vt.1;have hV:=vX w (eI mp g) pq iq (me mp g);have Vz:∀W,ak w W->eZ W P mp g fb:=λW hW=>h.O (λb _ hl=>hW.block b hl)
 clear Vy Vt h;have⟨k1,k2⟩:=h1.I;go_in
 go_wp2_with fail;refine hV.V ?_;rintro e w2 ⟨v2,rfl,⟨vf,Vp,⟨rfl,Vv⟩,HV⟩,b2⟩;have K2:=h1.G b2 h1.lt;have s2:=b2.size;have b3:∀o,ak w (w2.alloc o):=λo=>dU b2 ((Below.refl _ _).alloc (aE _) _)
 have⟨k3,k4⟩:=(K2.alloc (am #[.func (.func vf) #[] Vp.toArray] 398)).I;have KV:=dX.new w2 #[.func (.func vf) #[] Vp.toArray] 398;have hL:=λW=>Mw W vf Vp.toArray
 have hE:=λW=>Mx W vf Vp.toArray
 have hN:=λW sg=>JB W vf Vp.toArray sg
 have Vu:Hid (∀(W3 W:aw) (S:eD) (d:MT) (fl:fo) (n:Nat),ak w2 W3->Kp (λb=>w.heap.size<=b) W3 W->FG S mp d fl g->(∀W',Below W.heap.size W W'->UOK W')->(fB S fl=16->∃t,fy S fl=some t/\Jc S iq n t W)->NH (eC S (dZ S n) fl) n vf Vp W):=λW3 W S d fl n hb hK fg hu Vr=>HV S fl n W (hK.back hb) fg.gb.sy hu Vr
 clear k1 k2 HV;by_cases h4:g.form=4
 .have f4:(g.form==4)=true:=by simp[h4]
  have VA:=Hm _ P mp g fb (Vz (w2.alloc (am #[.func (.func vf) #[] Vp.toArray] 398)).drew (b3 _).drew) h4;have VB:=λW pv=>pr W (jB mp g.f.key) pv (uo mp _)
  have e0:=KV.cell 0;have b3':=b3 (am #[.func (.func vf) #[] Vp.toArray] 398);have VC:ak w2 (w2.alloc (am #[.func (.func vf) #[] Vp.toArray] 398)):=(Below.refl _ _).alloc (aE _) _;go_upto_region 3 with fail
  generalize w2.alloc (am #[.func (.func vf) #[] Vp.toArray] 398)=w3 at*
  go_region_held2 (λW=>W.cell? (aj w2.heap.size 0)=some (.func (.func vf) #[] Vp.toArray))
   (first|exact V6.cell 0|exact V5.cell 0|exact V4.cell 0|exact e0)
   (first|(go_at_call 188;refine VA.V ?_;rintro e w4 ⟨VF,rfl,b4⟩;have V4:=dX.G (w:=w3.drew) KV b4 KV.lt)|(go_at_call 189;refine(VB w4 VF).V ?_;rintro e w5 ⟨rfl,b5⟩;have V5:=V4.G b5 V4.lt)|(go_at_call 285;refine(hN w5 _).V ?_;rintro e w6 ⟨eb,sb,vb,rfl,q1,q2,q3,E1,E2,E3,b6⟩;have V6:=V5.G b6 V5.lt))
  all_goals
   go_wp2;go_ret;have B5:ak w2 w5:=dU VC (dU (dU (Below.refl _ _).drew b4) b5);have B6:=dU B5 b6;have s5:=B5.size;refine⟨_,rfl,⟨365,[ah eb,ah sb],⟨rfl,enters_of func365 Vh rfl⟩,λS d fl n W hK fg hu Vr=> ?_⟩,dU b2 B6⟩;have hm:fl.isMap=true:=by rw[fg.map,h4];rfl
   have⟨Vw,Vx⟩:=Pb (S:=S) hm;refine(Jd eb 366 sb [ah vb] (iJ (jB mp g.f.key)) (hK.bx Vc E1) (hK.bx Vc E2) (enters_of func366 Vh rfl) (Ma vb vf Vp (hK.bx Vc E3) Vv (Vu.o w6 W S d fl n B6 hK fg hu Vr)) ?_).as λl=> ?_
   .intro l k hO hl e he;rw[aQ]at hl;exact Ic (uN (cg.1 hl.2 e he) Vw Vx) (hO.2 e he).2.2.2
   .rw[Jz hm,fg.eq,(fg.key h4).1]
 .have f4:(g.form==4)=false:=by simp[h4]
  by_cases h2:g.form=2
  .have f2:(g.form==2)=true:=by simp[h2]
   go_wp2_with fail;refine(hE _).V ?_;rintro e w4 ⟨rfl,rfl⟩;go_wp2;go_ret;have B4:ak w2 ((w2.alloc (am #[.func (.func vf) #[] Vp.toArray] 398)).alloc (am #[.func (.func vf) #[] Vp.toArray] 398)):=Below.a2 w2 _ _;refine⟨_,rfl,⟨366,[ah (w2.heap.size+1)],⟨rfl,enters_of func366 Vh rfl⟩,λS d fl n W hK fg hu Vr=> ?_⟩,dU b2 B4⟩;refine(Ma (w2.heap.size+1) vf Vp (hK.bx Vc (dX.newAt Vd _ _)) Vv (Vu.o _ W S d fl n B4 hK fg hu Vr)).as λl=> ?_
   exact Jy (by rw[fg.map];simp[h4]) (by rw[fg.rep];simp[h2]) (by rw[fg.sin];simp[h2])
  .have f2:(g.form==2)=false:=by simp[h2]
   have Vq:∀(S:eD) (d:MT) (fl:fo),FG S mp d fl g->fl.isMap=false/\fl.isRep=false/\gN fl.how eS=decide (g.form=0):=λS d fl fg=>⟨by rw[fg.map];simp[h4],by rw[fg.rep];simp[h2],fg.sin⟩
   by_cases h0:g.form=0/\eI mp g≠16
   .have f0:(g.form==0)=true:=by simp[h0.1]
    have VD:((eI mp g:Int)==16)=false:=by have:=h0.2;simp;omega
    have VE:=λW cap=>Mw W 288 cap
    go_wp2_with fail;refine(VE _ _).V ?_;rintro e w4 ⟨rfl,rfl⟩;go_wp2;go_ret;have B4:ak w2 ((w2.alloc (am #[.func (.func vf) #[] Vp.toArray] 398)).alloc (am #[.func (.func 288) #[] #[ah w2.heap.size]] 398)):=Below.a2 w2 _ _;refine⟨_,rfl,⟨367,[ah (w2.heap.size+1)],⟨rfl,enters_of func367 Vh rfl⟩,λS d fl n W hK fg hu Vr=> ?_⟩,dU b2 B4⟩;refine(L7 (w2.heap.size+1) 288 [ah w2.heap.size] (hK.bx Vc (dX.newAt Vd _ _)) (enters_of func288 Vh rfl) (Je w2.heap.size vf Vp (hK.bx s2 (KV.alloc _)) Vv (Vu.o _ W S d fl n B4 hK fg hu Vr))).as λl=> ?_
    have⟨m1,m2,m3⟩:=Vq S d fl fg;exact Jx m1 m2 ⟨by rw[m3];simp[h0.1],by rw[<-fg.gb];exact h0.2⟩
   .have hz:∀(S:eD) (d:MT) (fl:fo),FG S mp d fl g->¬(gN fl.how eS=true/\fB S fl≠16):=λS d fl fg q=>h0 ⟨by have:=q.1;rw[fg.sin]at this;simpa using this,by rw[fg.gb];exact q.2⟩
    have HF:Hid (∀(S:eD) (d:MT) (fl:fo) (n:Nat) (W:aw),Kp (λb=>w.heap.size<=b) ((w2.alloc (am #[.func (.func vf) #[] Vp.toArray] 398)).alloc (am #[.func (.func vf) #[] Vp.toArray] 398)) W->FG S mp d fl g->(∀W',Below W.heap.size W W'->UOK W')->(fB S fl=16->∃t,fy S fl=some t/\Jc S iq n t W)->OQ (fE S (dZ S n) fl) n 367 [ah (w2.heap.size+1)] W):=λS d fl n W hK fg hu Vr=>by
     have⟨m1,m2,m3⟩:=Vq S d fl fg;exact(L7 (w2.heap.size+1) vf Vp (hK.bx Vc (dX.newAt Vd _ _)) Vv (Vu.o _ W S d fl n (Below.a2 w2 _ _) hK fg hu Vr)).as λl=>Jw m1 m2 (hz S d fl fg)
    have Vs:∀args w,(callFunc 367 args).run prog w= .ok (.enter 367 args) w:=enters_of func367 Vh rfl;by_cases h00:g.form=0
    .have f0:(g.form==0)=true:=by simp[h00]
     have VD:((eI mp g:Int)==16)=true:=by
      have:eI mp g=16:=Decidable.not_not.1 λq=>h0 ⟨h00,q⟩
      simp[this]
     clear Vq hz h0;go_wp2_with fail;refine(hL _).V ?_;rintro e w4 ⟨rfl,rfl⟩;go_wp2;go_ret;exact⟨_,rfl,⟨367,[ah (w2.heap.size+1)],⟨rfl,Vs⟩,HF.o⟩,dU b2 (Below.a2 w2 _ _)⟩
    .have f0:(g.form==0)=false:=by simp[h00]
     clear Vq hz h0;go_wp2_with fail;refine(hL _).V ?_;rintro e w4 ⟨rfl,rfl⟩;go_wp2;go_ret;exact⟨_,rfl,⟨367,[ah (w2.heap.size+1)],⟨rfl,Vs⟩,HF.o⟩,dU b2 (Below.a2 w2 _ _)⟩
inductive Un (w:aw)(mp:an)(g:GF)(fb:Nat)(pq iq:aC)(W:aw):Array Bool->Act->Prop where
 |mk {l0 l1 l2 l3 l4 l5 l6 l7 l8 l9 l10 VA:Bool} {t5 t6 VI VG VJ VK VL VM VH VV:Value} (bP bQ:Nat) (m1 m2:Nat) (f0:l0=true->VI=ah fb) (f1:l1=true->VG= .agg #[aa g.f.num,aa (AO mp g)]) (f2:l2=true->VJ=ah fb) (f3:l3=true->VK=ah fb) (f4:l4=true->VL= .pointer (some (aj fb 2))) (f5:l5=true->VM= .agg #[aa (eI mp g),.pointer pq]) (f6:l6=true->VH= .pointer iq) (B:ak w W) (xP:Bz (w.heap.size) W l8 l10 t5 bP 237 (aa g.f.num) (aa (AO mp g))) (xQ:Bx (w.heap.size) W l9 VA l7 t6 bQ 404 VV) (Vp:ox l8 l9 bP bQ) (Vq:Jo l8 l7 bP m1 m2) (Vr:Jo l9 l7 bQ m1 m2) (V:l7=true->vH W (λb=>m1<=b/\b<m2) (eI mp g) iq VV/\w.heap.size<=m1/\m2<=W.heap.size):Un w mp g fb pq iq W #[l0,l1,l2,l3,l4,l5,l6,l7,l8,l9,l10,VA] ⟨#[ah fb,.pointer iq,undef,undef,.nilFunc,t5,t6,ah fb,.bool false,undef,undef,VI,VG,VJ,VK,VL,VM,VH,VV,undef],[]⟩
inductive Uo (w:aw)(mp:an)(g:GF)(fb:Nat)(pq:aC)(W:aw):Array Bool->Act->Prop where
 |mk {l0 l1 l2 l3 l4 l5 l6 l7 l8 l9 l10 VA VD VE VF VS VT VU:Bool} {t3 t4 t5 t6 t7 t8 t9 VZ VI VG VJ VK VL VM VH:Value} (bP bQ bR:Nat) (m1 m2:Nat) (n1 n2:Nat) (f0:l0=true->t6=ah fb) (f1:l1=true->t7= .agg #[aa g.f.num,aa (AO mp g)]) (f2:l2=true->t8=ah fb) (f3:l3=true->t9=ah fb) (f4:l4=true->VZ= .pointer (some (aj fb 2))) (f5:l5=true->VI= .agg #[aa (eI mp g),.pointer pq]) (f7:l7=true->VJ=ah fb) (f8:l8=true->VK=ah fb) (f9:l9=true->VL= .pointer (some (aj fb 2))) (Vw:l10=true->VM= .agg #[aa (eI mp g),.pointer pq]) (B:ak w W) (xP:Bz (w.heap.size) W VD VS t3 bP 237 (aa g.f.num) (aa (AO mp g))) (xQ:Bx (w.heap.size) W VE VT l6 t4 bQ 262 VG) (xR:Bx (w.heap.size) W VF VU VA t5 bR 404 VH) (Vp:ox VD VE bP bQ) (Vt:ox VD VF bP bR) (Vu:ox VE VF bQ bR) (Vv:Jo VD l6 bP m1 m2) (Vx:Jo VE l6 bQ m1 m2) (Vy:Jo VF l6 bR m1 m2) (A:l6=true->vG W (λb=>m1<=b/\b<m2) (eI mp g) none VG/\w.heap.size<=m1/\m2<=W.heap.size) (Vq:Jo VD VA bP n1 n2) (Vr:Jo VE VA bQ n1 n2) (Vz:Jo VF VA bR n1 n2) (V:VA=true->vH W (λb=>n1<=b/\b<n2) (eI mp g) none VH/\w.heap.size<=n1/\n2<=W.heap.size):Uo w mp g fb pq W #[l0,l1,l2,l3,l4,l5,l6,l7,l8,l9,l10,VA,VD,VE,VF,VS,VT,VU] ⟨#[ah fb,undef,.nilFunc,t3,t4,t5,t6,t7,t8,t9,VZ,VI,VG,VJ,VK,VL,VM,VH,undef],[]⟩
section
variable (w:aw) (P:ax) (mp:an) (g:GF) (fb:Nat) (iq:aC)
def Gm (h:eZ w P mp g fb)(hp:io mp g=false):Calls prog 212 #[ah fb,.pointer iq] w (jM w λw' v=>Eu w' (λb=>w.heap.size<=b) mp g iq v):=by
 have hq:=mQ w P mp g fb h;rw[hp]at hq;have Wb:= @wo;have VQ:=me mp g;go_in
 go_wp2_with fail;refine hq.V ?_;rintro e wb ⟨rfl,b0⟩;have h:=h.O (w':=wb) (λb _ hl=>b0.block b hl);have⟨pv,rv,h1,_,VB,VO⟩:=h.blk;obtain⟨pq,rfl⟩:=gK VO;obtain⟨ra,rn,rc,rfl⟩:=d5 VB.1;have VR:=h1.lt;have hT:∀W,Below wb.heap.size wb W->U8 231 #[ah fb] W λe w'=>e= .returned (.agg #[aa g.f.num,aa (AO mp g)])/\Below W.heap.size W w':=λW hW=>yB W P mp g fb (h.O (λb _ hl=>hW.block b hl))
 have VW:=λW=>qG W (eI mp g) pq iq VQ
 have yb:=b0.size;clear VO VB h hq;go_upto_region 3 with fail
 go_cut [5,6]from 11 to 18 (λx y wx=>∃tb vb vv,x=ah tb/\y=ah vb/\dX wx tb #[aa g.f.num,aa (AO mp g)] 237/\dX wx vb #[vv] 404/\vH wx (λb=>wb.heap.size<=b) (eI mp g) iq vv/\wb.heap.size<=tb/\wb.heap.size<=vb/\Below wb.heap.size wb wx)
 case first=>
  refine kD (λL a W=>Un wb mp g fb pq iq W L a) Vi ⟨0,0,0,0,nofun,nofun,nofun,nofun,nofun,nofun,nofun,(Below.refl _ _).drew,Bz.start,Bx.start,nofun,nofun,nofun,nofun⟩ Vh ?_ ?_
  .rintro L a W @⟨l0,l1,l2,l3,l4,l5,l6,l7,l8,l9,l10,VA,t5,t6,VI,VG,VJ,VK,VL,VM,VH,VV,bP,bQ,m1,m2,f0,f1,f2,f3,f4,f5,f6,B,xP,xQ,Vp,Vq,Vr,V⟩ Vs;obtain rfl:l1=true:=Vs 1 Vf;obtain rfl:l7=true:=Vs 7 Vf;obtain rfl:l8=true:=Vs 8 Vf;obtain rfl:l9=true:=Vs 9 Vf;obtain rfl:l10=true:=Vs 10 Vf;obtain rfl:VA=true:=Vs 11 Vf;obtain⟨rfl,zP,_⟩:=xP.made rfl;obtain⟨rfl,zQ,_⟩:=xQ.made rfl;have⟨v1,v2,v3⟩:=V rfl;have KP:=xP.put rfl;have KQ:=xQ.put rfl;go_wp2;go_meet
   case rel=>exact⟨_,_,_,rfl,rfl,KP,KQ,v1.mV (λb q l=>⟨aM v2 q.1,rfl⟩),zP,zQ,B⟩
  refine .cons ?_ (.cons ?_ (.cons ?_ (.cons ?_ (.cons ?_ (.cons ?_ (.cons ?_ (.cons ?_ (.cons ?_ (.cons ?_ (.cons ?_ (.cons ?_ (.nil))))))))))))
  all_goals
   rintro L a W ⟨bP,bQ,m1,m2,f0,f1,f2,f3,f4,f5,f6,B,xP,xQ,Vp,Vq,Vr,V⟩ h0 hd K hK;subst h0
  .clear hd;go_simp;refine hK.out _ _ ?_;simp only[U6];exact⟨bP,bQ,m1,m2,λ_=>rfl,f1,f2,f3,f4,f5,f6,B,xP,xQ,Vp,Vq,Vr,V⟩
  .obtain rfl:=eV (k:=0) hd Vh;obtain rfl:=f0 rfl;clear hd;go_simp;go_wp2_with (first|(go_at_call 231;refine(hT _ B).V ?_;rintro e w2 ⟨rfl,b2⟩))
   refine hK.out _ _ ?_;simp only[U6];exact⟨bP,bQ,m1,m2,λ_=>rfl,λ_=>rfl,f2,f3,f4,f5,f6,(dU B b2),(xP.G b2),(xQ.G b2),Vp,Vq,Vr,(λe=>⟨(V e).1.mV (λb q l=>⟨q,b2.block b l⟩),(V e).2.1,aM (V e).2.2 b2.size⟩)⟩
  .clear hd;go_simp;refine hK.out _ _ ?_;simp only[U6];exact⟨bP,bQ,m1,m2,f0,f1,λ_=>rfl,f3,f4,f5,f6,B,xP,xQ,Vp,Vq,Vr,V⟩
  .obtain rfl:=eV (k:=2) hd Vh;obtain rfl:=f2 rfl;clear hd;go_simp;refine hK.out _ _ ?_;simp only[U6];exact⟨bP,bQ,m1,m2,f0,f1,λ_=>rfl,λ_=>rfl,f4,f5,f6,B,xP,xQ,Vp,Vq,Vr,V⟩
  .obtain rfl:=eV (k:=3) hd Vh;obtain rfl:=f3 rfl;clear hd;go_simp;refine hK.out _ _ ?_;simp only[U6];exact⟨bP,bQ,m1,m2,f0,f1,f2,λ_=>rfl,λ_=>rfl,f5,f6,B,xP,xQ,Vp,Vq,Vr,V⟩
  .obtain rfl:=eV (k:=4) hd Vh;obtain rfl:=f4 rfl;have KF:=h1.G B VR;have⟨k1,k2⟩:=KF.I;clear hd;go_simp;refine hK.out _ _ ?_;simp only[U6];exact⟨bP,bQ,m1,m2,f0,f1,f2,f3,λ_=>rfl,λ_=>rfl,f6,B,xP,xQ,Vp,Vq,Vr,V⟩
  .clear hd;go_simp;refine hK.out _ _ ?_;simp only[U6];exact⟨bP,bQ,m1,m2,f0,f1,f2,f3,f4,f5,λ_=>rfl,B,xP,xQ,Vp,Vq,Vr,V⟩
  .obtain rfl:=eV (k:=5) hd Vh;obtain rfl:=eV (k:=6) hd Vh;obtain rfl:=f5 rfl;obtain rfl:=f6 rfl;clear hd;go_simp;go_wp2_with (first|(go_at_call 293;refine(VW _).V ?_;rintro e w4 ⟨vv,rfl,VX,b4⟩))
   refine hK.out _ _ ?_;simp only[U6];exact⟨bP,bQ,W.heap.size,w4.heap.size,f0,f1,f2,f3,f4,λ_=>rfl,λ_=>rfl,(dU B b4),(xP.G b4),((xQ.G b4).val _),Vp,(λe _=> .inl (xP.lt e)),(λe _=> .inl (xQ.lt e)),(λ_=>⟨VX.mV (λb q l=>⟨⟨q,l⟩,rfl⟩),B.size,aE _⟩)⟩
  .clear hd;go_simp;refine hK.out _ _ ?_;simp only[U6];exact⟨W.heap.size,bQ,m1,m2,f0,f1,f2,f3,f4,f5,f6,(B.alloc B.size _),(xP.new B.size _ _),(xQ.alloc _),(ox.lt1 xQ.lt),(λ_ e=> .inr (V e).2.2),Vr,(λe=>⟨(V e).1.mV (λb q l=>⟨q,(Vb W _).block b l⟩),(V e).2.1,aM (V e).2.2 (Vb W _).size⟩)⟩
  .clear hd;go_simp;refine hK.out _ _ ?_;simp only[U6];exact⟨bP,W.heap.size,m1,m2,f0,f1,f2,f3,f4,f5,f6,(B.alloc B.size _),(xP.alloc _),(xQ.new B.size _),(ox.lt1 xP.lt).sy,Vq,(λ_ e=> .inr (V e).2.2),(λe=>⟨(V e).1.mV (λb q l=>⟨q,(Vb W _).block b l⟩),(V e).2.1,aM (V e).2.2 (Vb W _).size⟩)⟩
  .obtain rfl:=eV (k:=8) hd Vh;obtain rfl:=eV (k:=1) hd Vh;obtain⟨rfl,zP,We,Wf,yP⟩:=xP.made rfl;have⟨cP,kP⟩:=yP.I;obtain rfl:=f1 rfl;clear hd;go_simp;refine hK.out _ _ ?_;simp only[U6];exact⟨bP,bQ,m1,m2,f0,λ_=>rfl,f2,f3,f4,f5,f6,((B.setCell (p:=(aj bP 0)) zP _).setCell (p:=(aj bP 1)) zP _),xP.store,((xQ.oth (λe=>Vp rfl e) 0 _).oth (λe=>Vp rfl e) 1 _),Vp,Vq,Vr,(λe=>⟨(V e).1.mV (λb q l=>⟨q,(er (by have:=Vq rfl e;omega)).J (er (by have:=Vq rfl e;omega))⟩),(V e).2.1,by simpa using(V e).2.2⟩)⟩
  .obtain rfl:=eV (k:=9) hd Vh;obtain rfl:=eV (k:=7) hd Vh;obtain⟨rfl,zQ,yQ⟩:=xQ.made rfl;have⟨wQ,cQ,kQ⟩:=iE yQ;obtain⟨vf,VC,⟨rfl,VN⟩,V8⟩:=(V rfl).1;clear hd;go_simp;refine hK.out _ _ ?_;simp only[U6];exact⟨bP,bQ,m1,m2,f0,f1,f2,f3,f4,f5,f6,(B.setCell (p:=(aj bQ 0)) zQ _),(xP.oth (λe=>Vp.sy rfl e) 0 _),xQ.store,Vp,Vq,Vr,(λe=>⟨(V e).1.mV (λb q l=>⟨q,er (by have:=Vr rfl e;omega)⟩),(V e).2.1,by simpa using(V e).2.2⟩)⟩
 case rest=>
  obtain⟨tb,vb,vv,rfl,rfl,KP,KQ,⟨vf,VC,⟨rfl,VN⟩,hv⟩,zP,zQ,b3⟩:=hcut;go_wp2;go_ret;refine⟨_,rfl,⟨294,[ah tb,ah vb],⟨rfl,enters_of func294 Vi rfl⟩,λS d fl n N W hK hq hN fg VY V9=> ?_⟩,dU b0 b3⟩;have K1:=hK.bx Vc KP;have K2:=hK.bx Vc KQ;have L:=hv S fl n N W (hK.less λb q=>Vc) (λb q l=>hq b Vc l) hN fg.gb.sy V9;rw[fg.eq,fg.tk]at K1;rw[fg.pk]at hp;have hk:=tD mp g;rw[fg.tk]at hk;have:=O2 tb vb vf VC fl.num (oU S fl) hN K1 K2 (hq tb Vc KP.lt) (hq vb Vc KQ.lt) VY hk VN L
  exact λW' Z vv l k b l0 B q1 q2 q3 q4 q5 q6=>by
   have e:kL S (eG S n) fl l=l.flatMap λv=>fD fl.num (oU S fl)++gm S (eG S n) fl v:=by unfold kL;rw[dO (by grind)]
   rw[e]at q6⊢;exact this W' Z vv l k b l0 B q1 q2 q3 q4 q5 q6
end
section
variable (w:aw) (P:ax) (mp:an) (g:GF) (fb:Nat) (iq:aC)
def vZ (h:eZ w P mp g fb)(hp:io mp g=true):Calls prog 292 #[ah fb] w (jM w λw' v=>Eu w' (λb=>w.heap.size<=b) mp g iq v):=by
 have Wb:= @wo;have⟨pv,rv,h1,_,VB,VO⟩:=h.blk;obtain⟨pq,rfl⟩:=gK VO;obtain⟨ra,rn,rc,rfl⟩:=d5 VB.1;have VQ:=me mp g;have VR:=h1.lt;have hT:∀W,ak w W->U8 231 #[ah fb] W λe w'=>e= .returned (.agg #[aa g.f.num,aa (AO mp g)])/\Below W.heap.size W w':=λW hW=>yB W P mp g fb (h.O (λb _ hl=>hW.block b hl))
 have Wd:=λW=>nY W (eI mp g) pq none VQ
 have VW:=λW=>qG W (eI mp g) pq none VQ
 clear VO VB h;go_in
 go_upto_region 1 with fail
 go_cut [3,4,5]from 6 to 17 (λx y z wx=>∃tb ab vb av vv,x=ah tb/\y=ah ab/\z=ah vb/\dX wx tb #[aa g.f.num,aa (AO mp g)] 237/\dX wx ab #[av] 262/\dX wx vb #[vv] 404/\vG wx (λb=>w.heap.size<=b) (eI mp g) none av/\vH wx (λb=>w.heap.size<=b) (eI mp g) none vv/\w.heap.size<=tb/\w.heap.size<=ab/\w.heap.size<=vb/\ak w wx)
 case first=>
  refine kD (λL a W=>Uo w mp g fb pq W L a) Vi ⟨0,0,0,0,0,0,0,nofun,nofun,nofun,nofun,nofun,nofun,nofun,nofun,nofun,nofun,(Below.refl _ _).drew,Bz.start,Bx.start,Bx.start,nofun,nofun,nofun,nofun,nofun,nofun,nofun,nofun,nofun,nofun,nofun⟩ Vh ?_ ?_
  .rintro L a W @⟨l0,l1,l2,l3,l4,l5,l6,l7,l8,l9,l10,VA,VD,VE,VF,VS,VT,VU,t3,t4,t5,t6,t7,t8,t9,VZ,VI,VG,VJ,VK,VL,VM,VH,bP,bQ,bR,m1,m2,n1,n2,f0,f1,f2,f3,f4,f5,f7,f8,f9,Vw,B,xP,xQ,xR,Vp,Vt,Vu,Vv,Vx,Vy,A,Vq,Vr,Vz,V⟩ Vs;obtain rfl:l1=true:=Vs 1 Vf;obtain rfl:l6=true:=Vs 6 Vf;obtain rfl:VA=true:=Vs 11 Vf;obtain rfl:VD=true:=Vs 12 Vf;obtain rfl:VE=true:=Vs 13 Vf;obtain rfl:VF=true:=Vs 14 Vf;obtain rfl:VS=true:=Vs 15 Vf;obtain rfl:VT=true:=Vs 16 Vf;obtain rfl:VU=true:=Vs 17 Vf;obtain⟨rfl,zP,_⟩:=xP.made rfl;obtain⟨rfl,zQ,_⟩:=xQ.made rfl;obtain⟨rfl,zR,_⟩:=xR.made rfl;have⟨a1,a2,a3⟩:=A rfl;have⟨v1,v2,v3⟩:=V rfl;have KP:=xP.put rfl;have KQ:=xQ.put rfl;have KR:=xR.put rfl;go_wp2;go_meet
   case rel=>exact⟨_,_,_,_,_,rfl,rfl,rfl,KP,KQ,KR,a1.mV (λb q l=>⟨aM a2 q.1,rfl⟩),v1.mV (λb q l=>⟨aM v2 q.1,rfl⟩),zP,zQ,zR,B⟩
  refine .cons ?_ (.cons ?_ (.cons ?_ (.cons ?_ (.cons ?_ (.cons ?_ (.cons ?_ (.cons ?_ (.cons ?_ (.cons ?_ (.cons ?_ (.cons ?_ (.cons ?_ (.cons ?_ (.cons ?_ (.cons ?_ (.cons ?_ (.cons ?_ (.nil))))))))))))))))))
  all_goals
   rintro L a W ⟨bP,bQ,bR,m1,m2,n1,n2,f0,f1,f2,f3,f4,f5,f7,f8,f9,Vw,B,xP,xQ,xR,Vp,Vt,Vu,Vv,Vx,Vy,A,Vq,Vr,Vz,V⟩ h0 hd K hK;subst h0
  .clear hd;go_simp;refine hK.out _ _ ?_;simp only[U6];exact⟨bP,bQ,bR,m1,m2,n1,n2,λ_=>rfl,f1,f2,f3,f4,f5,f7,f8,f9,Vw,B,xP,xQ,xR,Vp,Vt,Vu,Vv,Vx,Vy,A,Vq,Vr,Vz,V⟩
  .obtain rfl:=eV (k:=0) hd Vh;obtain rfl:=f0 rfl;clear hd;go_simp;go_wp2_with (first|(go_at_call 231;refine(hT _ B).V ?_;rintro e w2 ⟨rfl,b2⟩))
   refine hK.out _ _ ?_;simp only[U6];exact⟨bP,bQ,bR,m1,m2,n1,n2,λ_=>rfl,λ_=>rfl,f2,f3,f4,f5,f7,f8,f9,Vw,(dU B b2),(xP.G b2),(xQ.G b2),(xR.G b2),Vp,Vt,Vu,Vv,Vx,Vy,(λe=>⟨(A e).1.mV (λb q l=>⟨q,b2.block b l⟩),(A e).2.1,aM (A e).2.2 b2.size⟩),Vq,Vr,Vz,(λe=>⟨(V e).1.mV (λb q l=>⟨q,b2.block b l⟩),(V e).2.1,aM (V e).2.2 b2.size⟩)⟩
  .clear hd;go_simp;refine hK.out _ _ ?_;simp only[U6];exact⟨bP,bQ,bR,m1,m2,n1,n2,f0,f1,λ_=>rfl,f3,f4,f5,f7,f8,f9,Vw,B,xP,xQ,xR,Vp,Vt,Vu,Vv,Vx,Vy,A,Vq,Vr,Vz,V⟩
  .obtain rfl:=eV (k:=2) hd Vh;obtain rfl:=f2 rfl;clear hd;go_simp;refine hK.out _ _ ?_;simp only[U6];exact⟨bP,bQ,bR,m1,m2,n1,n2,f0,f1,λ_=>rfl,λ_=>rfl,f4,f5,f7,f8,f9,Vw,B,xP,xQ,xR,Vp,Vt,Vu,Vv,Vx,Vy,A,Vq,Vr,Vz,V⟩
  .obtain rfl:=eV (k:=3) hd Vh;obtain rfl:=f3 rfl;clear hd;go_simp;refine hK.out _ _ ?_;simp only[U6];exact⟨bP,bQ,bR,m1,m2,n1,n2,f0,f1,f2,λ_=>rfl,λ_=>rfl,f5,f7,f8,f9,Vw,B,xP,xQ,xR,Vp,Vt,Vu,Vv,Vx,Vy,A,Vq,Vr,Vz,V⟩
  .obtain rfl:=eV (k:=4) hd Vh;obtain rfl:=f4 rfl;have KF:=h1.G B VR;have⟨k1,k2⟩:=KF.I;clear hd;go_simp;refine hK.out _ _ ?_;simp only[U6];exact⟨bP,bQ,bR,m1,m2,n1,n2,f0,f1,f2,f3,λ_=>rfl,λ_=>rfl,f7,f8,f9,Vw,B,xP,xQ,xR,Vp,Vt,Vu,Vv,Vx,Vy,A,Vq,Vr,Vz,V⟩
  .obtain rfl:=eV (k:=5) hd Vh;obtain rfl:=f5 rfl;clear hd;go_simp;go_wp2_with (first|(go_at_call 289;refine(Wd _).V ?_;rintro e w3 ⟨av,rfl,Wh,b3⟩))
   refine hK.out _ _ ?_;simp only[U6];exact⟨bP,bQ,bR,W.heap.size,w3.heap.size,n1,n2,f0,f1,f2,f3,f4,λ_=>rfl,f7,f8,f9,Vw,(dU B b3),(xP.G b3),((xQ.G b3).val _),(xR.G b3),Vp,Vt,Vu,(λe _=> .inl (xP.lt e)),(λe _=> .inl (xQ.lt e)),(λe _=> .inl (xR.lt e)),(λ_=>⟨Wh.mV (λb q l=>⟨⟨q,l⟩,rfl⟩),B.size,aE _⟩),Vq,Vr,Vz,(λe=>⟨(V e).1.mV (λb q l=>⟨q,b3.block b l⟩),(V e).2.1,aM (V e).2.2 b3.size⟩)⟩
  .clear hd;go_simp;refine hK.out _ _ ?_;simp only[U6];exact⟨bP,bQ,bR,m1,m2,n1,n2,f0,f1,f2,f3,f4,f5,λ_=>rfl,f8,f9,Vw,B,xP,xQ,xR,Vp,Vt,Vu,Vv,Vx,Vy,A,Vq,Vr,Vz,V⟩
  .obtain rfl:=eV (k:=7) hd Vh;obtain rfl:=f7 rfl;clear hd;go_simp;refine hK.out _ _ ?_;simp only[U6];exact⟨bP,bQ,bR,m1,m2,n1,n2,f0,f1,f2,f3,f4,f5,λ_=>rfl,λ_=>rfl,f9,Vw,B,xP,xQ,xR,Vp,Vt,Vu,Vv,Vx,Vy,A,Vq,Vr,Vz,V⟩
  .obtain rfl:=eV (k:=8) hd Vh;obtain rfl:=f8 rfl;clear hd;go_simp;refine hK.out _ _ ?_;simp only[U6];exact⟨bP,bQ,bR,m1,m2,n1,n2,f0,f1,f2,f3,f4,f5,f7,λ_=>rfl,λ_=>rfl,Vw,B,xP,xQ,xR,Vp,Vt,Vu,Vv,Vx,Vy,A,Vq,Vr,Vz,V⟩
  .obtain rfl:=eV (k:=9) hd Vh;obtain rfl:=f9 rfl;have KF:=h1.G B VR;have⟨k1,k2⟩:=KF.I;clear hd;go_simp;refine hK.out _ _ ?_;simp only[U6];exact⟨bP,bQ,bR,m1,m2,n1,n2,f0,f1,f2,f3,f4,f5,f7,f8,λ_=>rfl,λ_=>rfl,B,xP,xQ,xR,Vp,Vt,Vu,Vv,Vx,Vy,A,Vq,Vr,Vz,V⟩
  .obtain rfl:=eV (k:=10) hd Vh;obtain rfl:=Vw rfl;clear hd;go_simp;go_wp2_with (first|(go_at_call 293;refine(VW _).V ?_;rintro e w4 ⟨vv,rfl,VX,b4⟩))
   refine hK.out _ _ ?_;simp only[U6];exact⟨bP,bQ,bR,m1,m2,W.heap.size,w4.heap.size,f0,f1,f2,f3,f4,f5,f7,f8,f9,λ_=>rfl,(dU B b4),(xP.G b4),(xQ.G b4),((xR.G b4).val _),Vp,Vt,Vu,Vv,Vx,Vy,(λe=>⟨(A e).1.mV (λb q l=>⟨q,b4.block b l⟩),(A e).2.1,aM (A e).2.2 b4.size⟩),(λe _=> .inl (xP.lt e)),(λe _=> .inl (xQ.lt e)),(λe _=> .inl (xR.lt e)),(λ_=>⟨VX.mV (λb q l=>⟨⟨q,l⟩,rfl⟩),B.size,aE _⟩)⟩
  .clear hd;go_simp;refine hK.out _ _ ?_;simp only[U6];exact⟨W.heap.size,bQ,bR,m1,m2,n1,n2,f0,f1,f2,f3,f4,f5,f7,f8,f9,Vw,(B.alloc B.size _),(xP.new B.size _ _),(xQ.alloc _),(xR.alloc _),(ox.lt1 xQ.lt),(ox.lt1 xR.lt),Vu,(λ_ e=> .inr (A e).2.2),Vx,Vy,(λe=>⟨(A e).1.mV (λb q l=>⟨q,(Vb W _).block b l⟩),(A e).2.1,aM (A e).2.2 (Vb W _).size⟩),(λ_ e=> .inr (V e).2.2),Vr,Vz,(λe=>⟨(V e).1.mV (λb q l=>⟨q,(Vb W _).block b l⟩),(V e).2.1,aM (V e).2.2 (Vb W _).size⟩)⟩
  .clear hd;go_simp;refine hK.out _ _ ?_;simp only[U6];exact⟨bP,W.heap.size,bR,m1,m2,n1,n2,f0,f1,f2,f3,f4,f5,f7,f8,f9,Vw,(B.alloc B.size _),(xP.alloc _),(xQ.new B.size _),(xR.alloc _),(ox.lt1 xP.lt).sy,Vt,(ox.lt1 xR.lt),Vv,(λ_ e=> .inr (A e).2.2),Vy,(λe=>⟨(A e).1.mV (λb q l=>⟨q,(Vb W _).block b l⟩),(A e).2.1,aM (A e).2.2 (Vb W _).size⟩),Vq,(λ_ e=> .inr (V e).2.2),Vz,(λe=>⟨(V e).1.mV (λb q l=>⟨q,(Vb W _).block b l⟩),(V e).2.1,aM (V e).2.2 (Vb W _).size⟩)⟩
  .clear hd;go_simp;refine hK.out _ _ ?_;simp only[U6];exact⟨bP,bQ,W.heap.size,m1,m2,n1,n2,f0,f1,f2,f3,f4,f5,f7,f8,f9,Vw,(B.alloc B.size _),(xP.alloc _),(xQ.alloc _),(xR.new B.size _),Vp,(ox.lt1 xP.lt).sy,(ox.lt1 xQ.lt).sy,Vv,Vx,(λ_ e=> .inr (A e).2.2),(λe=>⟨(A e).1.mV (λb q l=>⟨q,(Vb W _).block b l⟩),(A e).2.1,aM (A e).2.2 (Vb W _).size⟩),Vq,Vr,(λ_ e=> .inr (V e).2.2),(λe=>⟨(V e).1.mV (λb q l=>⟨q,(Vb W _).block b l⟩),(V e).2.1,aM (V e).2.2 (Vb W _).size⟩)⟩
  .obtain rfl:=eV (k:=12) hd Vh;obtain rfl:=eV (k:=1) hd Vh;obtain⟨rfl,zP,We,Wf,yP⟩:=xP.made rfl;have⟨cP,kP⟩:=yP.I;obtain rfl:=f1 rfl;clear hd;go_simp;refine hK.out _ _ ?_;simp only[U6];exact⟨bP,bQ,bR,m1,m2,n1,n2,f0,λ_=>rfl,f2,f3,f4,f5,f7,f8,f9,Vw,((B.setCell (p:=(aj bP 0)) zP _).setCell (p:=(aj bP 1)) zP _),xP.store,((xQ.oth (λe=>Vp rfl e) 0 _).oth (λe=>Vp rfl e) 1 _),((xR.oth (λe=>Vt rfl e) 0 _).oth (λe=>Vt rfl e) 1 _),Vp,Vt,Vu,Vv,Vx,Vy,(λe=>⟨(A e).1.mV (λb q l=>⟨q,(er (by have:=Vv rfl e;omega)).J (er (by have:=Vv rfl e;omega))⟩),(A e).2.1,by simpa using(A e).2.2⟩),Vq,Vr,Vz,(λe=>⟨(V e).1.mV (λb q l=>⟨q,(er (by have:=Vq rfl e;omega)).J (er (by have:=Vq rfl e;omega))⟩),(V e).2.1,by simpa using(V e).2.2⟩)⟩
  .obtain rfl:=eV (k:=13) hd Vh;obtain rfl:=eV (k:=6) hd Vh;obtain⟨rfl,zQ,yQ⟩:=xQ.made rfl;have⟨wQ,cQ,kQ⟩:=iE yQ;obtain⟨af,VP,⟨rfl,VN⟩,V8⟩:=(A rfl).1;clear hd;go_simp;refine hK.out _ _ ?_;simp only[U6];exact⟨bP,bQ,bR,m1,m2,n1,n2,f0,f1,f2,f3,f4,f5,f7,f8,f9,Vw,(B.setCell (p:=(aj bQ 0)) zQ _),(xP.oth (λe=>Vp.sy rfl e) 0 _),xQ.store,(xR.oth (λe=>Vu rfl e) 0 _),Vp,Vt,Vu,Vv,Vx,Vy,(λe=>⟨(A e).1.mV (λb q l=>⟨q,er (by have:=Vx rfl e;omega)⟩),(A e).2.1,by simpa using(A e).2.2⟩),Vq,Vr,Vz,(λe=>⟨(V e).1.mV (λb q l=>⟨q,er (by have:=Vr rfl e;omega)⟩),(V e).2.1,by simpa using(V e).2.2⟩)⟩
  .obtain rfl:=eV (k:=14) hd Vh;obtain rfl:=eV (k:=11) hd Vh;obtain⟨rfl,zR,yR⟩:=xR.made rfl;have⟨wR,cR,kR⟩:=iE yR;obtain⟨vf,VC,⟨rfl,VN⟩,V8⟩:=(V rfl).1;clear hd;go_simp;refine hK.out _ _ ?_;simp only[U6];exact⟨bP,bQ,bR,m1,m2,n1,n2,f0,f1,f2,f3,f4,f5,f7,f8,f9,Vw,(B.setCell (p:=(aj bR 0)) zR _),(xP.oth (λe=>Vt.sy rfl e) 0 _),(xQ.oth (λe=>Vu.sy rfl e) 0 _),xR.store,Vp,Vt,Vu,Vv,Vx,Vy,(λe=>⟨(A e).1.mV (λb q l=>⟨q,er (by have:=Vy rfl e;omega)⟩),(A e).2.1,by simpa using(A e).2.2⟩),Vq,Vr,Vz,(λe=>⟨(V e).1.mV (λb q l=>⟨q,er (by have:=Vz rfl e;omega)⟩),(V e).2.1,by simpa using(V e).2.2⟩)⟩
 case rest=>
  obtain⟨tb,ab,vb,av,vv,rfl,rfl,rfl,KP,KQ,KR,⟨af,VP,⟨rfl,Wk⟩,ha⟩,⟨vf,VC,⟨rfl,VN⟩,hv⟩,zP,zQ,zR,b3⟩:=hcut;go_wp2;go_ret;refine⟨_,rfl,⟨370,[ah tb,ah ab,ah vb],⟨rfl,enters_of func370 Vi rfl⟩,λS d fl n N W hK hq hN fg VY V9=> ?_⟩,b3⟩;have K1:=hK.bx zP KP;have K2:=hK.bx zQ KQ;have K3:=hK.bx zR KR;have V0:fB S fl≠16:=(by rw[fg.pk]at hp;unfold iL at hp;rw[aQ]at hp;intro q;rw[q]at hp;simp[fj]at hp);have L:=hv S fl n N W hK hq hN fg.gb.sy λq=>absurd q V0
  have A:=ha S fl n N W hK hq hN fg.gb.sy λq=>absurd q V0
  rw[fg.eq,fg.tk]at K1;rw[fg.pk]at hp;have hk:=tD mp g;rw[fg.tk]at hk;have:=Mc tb ab af vb vf VP VC fl.num (oU S fl) hN K1 K2 K3 (hq tb zP KP.lt) (hq ab zQ KQ.lt) (hq vb zR KR.lt) VY hk VN Wk L A
  exact λW' Z vv l k b l0 B q1 q2 q3 q4 q5 q6=>by
   have e:kL S (eG S n) fl l=fD fl.num (oU S fl)++fF (l.flatMap (gm S (eG S n) fl)):=by unfold kL;rw[dP hp];rfl
   rw[e]at q6⊢;exact this W' Z vv l k b l0 B q1 q2 q3 q4 q5 q6
def Ab (h:eZ w P mp g fb):Calls prog 212 #[ah fb,.pointer iq] w (jM w λw' v=>Eu w' (λb=>w.heap.size<=b) mp g iq v):=by
 cases hp:io mp g with
 |false=>exact Gm w P mp g fb iq h hp
 |true=>
  have V7:=mQ w P mp g fb h;rw[hp]at V7;go_in
  go_wp2_with fail;refine V7.V ?_;rintro e w1 ⟨rfl,b1⟩;have s1:=b1.size;have hW:=vZ w1 P mp g fb iq (h.O λb _ hl=>b1.block b hl) hp;go_wp2_with fail;refine hW.V ?_;rintro e w2 ⟨v,rfl,E2,b2⟩;have⟨f2,c2,e2,_⟩:=id E2;obtain rfl:=e2.eq;go_wp2;go_ret;exact⟨_,rfl,E2.mV λb q l=>⟨aM s1 q,rfl⟩,dU b1 b2⟩
end
end
def uX:qB:=⟨yV,vY,Ab,vW,yJ⟩

section
variable {S:eD} (hS:SW S) (hN:∀d∈S.ms,(d.fs.map (·.num)).Nodup) {b:au}
include hS hN
end
def wK:Nat->PM->Nat
 |0,_=>0
 |k+1,m=>1+m.unk.size+(m.fs.map λf=>1+(f.2.map λv=>v.2.1.size+wK k v.2.2).sum).sum
def wV (k:Nat)(l:List PV):Nat:=(l.map λv=>v.2.1.size+wK k v.2.2).sum
def wF (k:Nat)(fs:List PF):Nat:=(fs.map λf=>1+wV k f.2).sum
def jP (k:Nat)(m:PM):wK (k+1) m=1+m.unk.size+wF k m.fs:=rfl
def rz (k:Nat)(f:PF)(fs:List PF):wF k (f::fs)=1+wV k f.2+wF k fs:=rfl
def pH (k:Nat)(v:PV)(l:List PV):wV k (v::l)=v.2.1.size+wK k v.2.2+wV k l:=rfl
def Za:eS.size=0:=rfl
def pI (k:Nat):wK k PM.none<=1:=by cases k<;>simp[wK,PM.none,PM.fs,PM.unk,Za]
def M2:∀(k:Nat) (m:PM),wY k m+30<=30*wK (k+1) m
 |0,m=>by rw[jP];show 0+30<=_;omega
 |k+1,m=>by
  have hv:∀l:List PV,(l.map λv=>30+v.2.1.size+wY k v.2.2).sum<=30*wV (k+1) l:=λl=>by
   induction l with
   |nil=>exact aP _
   |cons v l ih=>
    have:=M2 k v.2.2;rw[bK,cH,pH];omega
  have hf:∀l:List PF,(l.map λx=>30+(x.2.map λv=>30+v.2.1.size+wY k v.2.2).sum).sum<=30*wF (k+1) l:=λl=>by
   induction l with
   |nil=>exact aP _
   |cons x l ih=>
    have:=hv x.2;rw[bK,cH,rz];omega
  have:=hf m.fs;rw[wY,jP];omega
def M4 {k:Nat}{x:PF}:∀{l:List PF},x∈l->1+wV k x.2<=wF k l
 |y::l,h=>by
  rw[rz];rcases aS.1 h with rfl|h;.omega
  .have:=M4 (k:=k) h;omega
def M5 {k:Nat}{v:PV}:∀{l:List PV},v∈l->v.2.1.size+wK k v.2.2<=wV k l
 |y::l,h=>by
  rw[pH];rcases aS.1 h with rfl|h;.omega
  .have:=M5 (k:=k) h;omega
def M6 (k:Nat):∀l:List PF,l.length<=wF k l
 | []=>aP _
 |x::l=>by have:=M6 k l;rw[rz,bw];omega
def M7 (k:Nat):∀l:List PV,l.length<=wV (k+1) l
 | []=>aP _
 |v::l=>by have:=M7 k l;rw[pH,bw,jP];omega
def M8:∀(k:Nat) (m:PM),pQ k m->wK (k+1) m<=1099511627776->pP k m
 |0,_,h,_=>h
 |k+1,m,h,hw=>by
  rw[jP]at hw;have h1:=M6 (k+1) m.fs;refine⟨Vc,Vc,λx hx=> ?_⟩;have h2:=M4 (k:=k+1) hx;have h3:=M7 k x.2;refine⟨Vc,λv hv=> ?_⟩;have h4:=M5 (k:=k+1) hv;have⟨a1,a2,a3⟩:=h x hx v hv;exact⟨a1,a2,Vc,M8 k v.2.2 a3 Vc⟩
end Go.Proofs.YtfebdimolnobaaaGreatDoor
