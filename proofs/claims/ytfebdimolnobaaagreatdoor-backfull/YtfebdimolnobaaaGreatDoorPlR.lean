import Derived.Test.YtfebdimolnobaaaGreatDoorPlI
set_option maxRecDepth 100000
set_option maxHeartbeats 8000000
set_option linter.all false
namespace Go.Proofs.YtfebdimolnobaaaGreatDoor
open Go.RowKit Go.Proofs.Tryz
section
open VH
inductive UE (w:aw)(mp:an)(g:GF)(fb:Nat)(pq:aC)(al:Int)(W:aw):Array Bool->Act->Prop where
 |mk {l0 l1 l2 l3 l4 l5 l6 l7 l8 l9 l10 V9 Wb VT VQ VR VS VV VW VX:Bool} {t3 t4 t5 t6 t7 t8 t9 VY Wd We Wf VZ Wh Wk Wl Wm V0:Value} (bP bQ bR:Nat) (m1 m2:Nat) (f0:l0=true->t6=ah fb) (f1:l1=true->t7=ah fb) (f2:l2=true->t8= .pointer (some (aj fb 2))) (f3:l3=true->t9= .agg #[aa (jC mp g.f.ty),.pointer pq]) (f5:l5=true->Wd=ah fb) (f6:l6=true->We=ah fb) (f7:l7=true->Wf=ah fb) (f8:l8=true->VZ=aa g.f.num) (f9:l9=true->Wh=ah fb) (VM:l10=true->Wk=ah fb) (VN:V9=true->Wl= .pointer (some (aj fb 2))) (VO:Wb=true->Wm= .agg #[aa (jC mp g.f.ty),.pointer pq]) (VI:VT=true->V0=aa al) (B:ak w W) (xP:Bx (w.heap.size) W VQ VV l4 t3 bP 478 VY) (xQ:Bx (w.heap.size) W VR VW l8 t4 bQ 3 VZ) (xR:Bx (w.heap.size) W VS VX VT t5 bR 235 V0) (VJ:oz VQ VR bP bQ) (VK:oz VQ VS bP bR) (VL:oz VR VS bQ bR) (oP:Jt VQ l4 bP m1 m2) (oQ:Jt VR l4 bQ m1 m2) (oR:Jt VS l4 bR m1 m2) (V:l4=true->nG W (λb=>m1<=b/\b<m2) (jC mp g.f.ty) VY/\w.heap.size<=m1/\m2<=W.heap.size):UE w mp g fb pq al W #[l0,l1,l2,l3,l4,l5,l6,l7,l8,l9,l10,V9,Wb,VT,VQ,VR,VS,VV,VW,VX] ⟨#[ah fb,undef,.nilFunc,t3,t4,t5,t6,t7,t8,t9,VY,Wd,We,Wf,VZ,Wh,Wk,Wl,Wm,V0,undef],[]⟩
section
variable (w:aw) (Q P:ax) (mp pm:an) (g:GF) (fb:Nat)
def we (hQ:∀b,w.heap.size<=b->Q b)(h:fi w P mp g fb)(h4:g.form≠4)(hb:jC mp g.f.ty<=15):Calls prog 379 #[ah fb] w (jO w λw' v=>Pe w' Q mp g v):=by
 have a:= @wA;have⟨d,e,p,_,a,c⟩:=h.blk;have d:eK mp g=jC mp g.f.ty:=by unfold eK;rw[dQ h4]
 rw[d]at p;obtain⟨d,rfl⟩:=gL c;obtain⟨e,i,f,rfl⟩:=d7 a.1;have hV:=λW=>AM W (jC mp g.f.ty) (.pointer d) hb
 have hW:=λW=>qp W (jC mp g.f.ty) (.pointer d) Vv
 clear c a h;have Z:=p.lt;obtain⟨c,a⟩:∃c:Int,(eM (jC mp g.f.ty):Int)=c:=⟨_,rfl⟩;rw[a]at hW;go_in
 go_upto_region 1 with fail
 go_cut [3,4,5]from 6 to 19 (λx y z a=>∃vb nb ab vv,x=ah vb/\y=ah nb/\z=ah ab/\dZ a vb #[vv] 478/\dZ a nb #[aa g.f.num] 3/\dZ a ab #[aa c] 235/\nG a Q (jC mp g.f.ty) vv/\w.heap.size<=vb/\w.heap.size<=nb/\w.heap.size<=ab/\ak w a)
 case first=>
  refine kE (λL a W=>UE w mp g fb d c W L a) VB ⟨0,0,0,0,0,nofun,nofun,nofun,nofun,nofun,nofun,nofun,nofun,nofun,nofun,nofun,nofun,nofun,(Below.refl _ _).drew,Bx.start,Bx.start,Bx.start,nofun,nofun,nofun,nofun,nofun,nofun,nofun⟩ VA ?_ ?_
  .rintro L a W @⟨l0,l1,l2,l3,K,l5,l6,l7,O,l9,z,V9,Wb,l,c,e,k,q,x,y,t3,t4,t5,t6,t7,t8,t9,VY,Wd,We,Wf,VZ,Wh,Wk,Wl,Wm,V0,r,s,t,R,S,E,F,G,H,I,J,M,u,N,A,C,D,j,B,d,f,i,m,n,o,T,U,X,V⟩ Y;obtain rfl:K=true:=Y 4 Vy;obtain rfl:O=true:=Y 8 Vy;obtain rfl:l=true:=Y 13 Vy;obtain rfl:c=true:=Y 14 Vy;obtain rfl:e=true:=Y 15 Vy;obtain rfl:k=true:=Y 16 Vy;obtain rfl:q=true:=Y 17 Vy;obtain rfl:x=true:=Y 18 Vy;obtain rfl:y=true:=Y 19 Vy;obtain⟨rfl,z,_⟩:=d.made rfl;obtain⟨rfl,Y,_⟩:=f.made rfl;obtain⟨rfl,zR,_⟩:=i.made rfl;obtain rfl:=u rfl;obtain rfl:=j rfl;have⟨x,c,e⟩:=V rfl;have c:=d.put rfl;have e:=f.put rfl;have k:=i.put rfl;go_wp2;go_meet
   case rel=>exact⟨_,_,_,_,rfl,rfl,rfl,c,e,k,x.mV (λb q l=>⟨hQ b Vv,rfl⟩),z,Y,zR,B⟩
  refine .cons ?_ (.cons ?_ (.cons ?_ (.cons ?_ (.cons ?_ (.cons ?_ (.cons ?_ (.cons ?_ (.cons ?_ (.cons ?_ (.cons ?_ (.cons ?_ (.cons ?_ (.cons ?_ (.cons ?_ (.cons ?_ (.cons ?_ (.cons ?_ (.cons ?_ (.cons ?_ .nil)))))))))))))))))))
  all_goals
   rintro L a W ⟨r,s,t,R,S,E,F,G,H,I,J,M,u,N,A,C,D,j,B,d,f,i,m,n,o,T,U,X,V⟩ e c K O;subst e
  .clear c;go_simp;refine O.out _ _ ?_;simp only[Vo];exact⟨r,s,t,R,S,λ_=>rfl,F,G,H,I,J,M,u,N,A,C,D,j,B,d,f,i,m,n,o,T,U,X,V⟩
  .obtain rfl:=eX (k:=0) c VA;obtain rfl:=E rfl;clear c;go_simp;refine O.out _ _ ?_;simp only[Vo];exact⟨r,s,t,R,S,λ_=>rfl,λ_=>rfl,G,H,I,J,M,u,N,A,C,D,j,B,d,f,i,m,n,o,T,U,X,V⟩
  .obtain rfl:=eX (k:=1) c VA;obtain rfl:=F rfl;clear c;go_simp;refine O.out _ _ ?_;simp only[Vo];exact⟨r,s,t,R,S,E,λ_=>rfl,λ_=>rfl,H,I,J,M,u,N,A,C,D,j,B,d,f,i,m,n,o,T,U,X,V⟩
  .obtain rfl:=eX (k:=2) c VA;obtain rfl:=G rfl;have a:=p.G B Z;have⟨K,L⟩:=a.I;clear c;go_simp;refine O.out _ _ ?_;simp only[Vo];exact⟨r,s,t,R,S,E,F,λ_=>rfl,λ_=>rfl,I,J,M,u,N,A,C,D,j,B,d,f,i,m,n,o,T,U,X,V⟩
  .obtain rfl:=eX (k:=3) c VA;obtain rfl:=H rfl;clear c;go_simp;go_wp2_with (first|(go_at_call 420;refine(hV _).V ?_;rintro e w2 ⟨vv,rfl,x,y⟩))
   refine O.out _ _ ?_;simp only[Vo];exact⟨r,s,t,W.heap.size,w2.heap.size,E,F,G,λ_=>rfl,I,J,M,u,N,A,C,D,j,(dW B y),((d.G y).val _),(f.G y),(i.G y),m,n,o,(λe _=> .inl (d.lt e)),(λe _=> .inl (f.lt e)),(λe _=> .inl (i.lt e)),(λ_=>⟨x.mV (λb q l=>⟨⟨q,l⟩,rfl⟩),B.size,aE _⟩)⟩
  .clear c;go_simp;refine O.out _ _ ?_;simp only[Vo];exact⟨r,s,t,R,S,E,F,G,H,λ_=>rfl,J,M,u,N,A,C,D,j,B,d,f,i,m,n,o,T,U,X,V⟩
  .obtain rfl:=eX (k:=5) c VA;obtain rfl:=I rfl;clear c;go_simp;refine O.out _ _ ?_;simp only[Vo];exact⟨r,s,t,R,S,E,F,G,H,λ_=>rfl,λ_=>rfl,M,u,N,A,C,D,j,B,d,f,i,m,n,o,T,U,X,V⟩
  .obtain rfl:=eX (k:=6) c VA;obtain rfl:=J rfl;clear c;go_simp;refine O.out _ _ ?_;simp only[Vo];exact⟨r,s,t,R,S,E,F,G,H,I,λ_=>rfl,λ_=>rfl,u,N,A,C,D,j,B,d,f,i,m,n,o,T,U,X,V⟩
  .obtain rfl:=eX (k:=7) c VA;obtain rfl:=M rfl;have a:=p.G B Z;have⟨K,L⟩:=a.I;clear c;go_simp;refine O.out _ _ ?_;simp only[Vo];exact⟨r,s,t,R,S,E,F,G,H,I,J,λ_=>rfl,λ_=>rfl,N,A,C,D,j,B,d,(f.val _),i,m,n,o,T,U,X,V⟩
  .clear c;go_simp;refine O.out _ _ ?_;simp only[Vo];exact⟨r,s,t,R,S,E,F,G,H,I,J,M,u,λ_=>rfl,A,C,D,j,B,d,f,i,m,n,o,T,U,X,V⟩
  .obtain rfl:=eX (k:=9) c VA;obtain rfl:=N rfl;clear c;go_simp;refine O.out _ _ ?_;simp only[Vo];exact⟨r,s,t,R,S,E,F,G,H,I,J,M,u,λ_=>rfl,λ_=>rfl,C,D,j,B,d,f,i,m,n,o,T,U,X,V⟩
  .obtain rfl:=eX (k:=10) c VA;obtain rfl:=A rfl;clear c;go_simp;refine O.out _ _ ?_;simp only[Vo];exact⟨r,s,t,R,S,E,F,G,H,I,J,M,u,N,λ_=>rfl,λ_=>rfl,D,j,B,d,f,i,m,n,o,T,U,X,V⟩
  .obtain rfl:=eX (k:=11) c VA;obtain rfl:=C rfl;have a:=p.G B Z;have⟨K,L⟩:=a.I;clear c;go_simp;refine O.out _ _ ?_;simp only[Vo];exact⟨r,s,t,R,S,E,F,G,H,I,J,M,u,N,A,λ_=>rfl,λ_=>rfl,j,B,d,f,i,m,n,o,T,U,X,V⟩
  .obtain rfl:=eX (k:=12) c VA;obtain rfl:=D rfl;clear c;go_simp;go_wp2_with (first|(go_at_call 208;refine(hW _).V ?_;rintro e w3 ⟨rfl,Z⟩))
   refine O.out _ _ ?_;simp only[Vo];exact⟨r,s,t,R,S,E,F,G,H,I,J,M,u,N,A,C,λ_=>rfl,λ_=>rfl,(dW B Z),(d.G Z),(f.G Z),((i.G Z).val _),m,n,o,T,U,X,(λe=>⟨(V e).1.mV (λb q l=>⟨q,Z.block b l⟩),(V e).2.1,aM (V e).2.2 Z.size⟩)⟩
  .clear c;go_simp;refine O.out _ _ ?_;simp only[Vo];exact⟨W.heap.size,s,t,R,S,E,F,G,H,I,J,M,u,N,A,C,D,j,(B.alloc B.size _),(d.new B.size _),(f.alloc _),(i.alloc _),(oz.new1 f),(oz.new1 i),o,(λ_ e=> .inr (V e).2.2),U,X,(λe=>⟨(V e).1.mV (λb q l=>⟨q,(Vt W _).block b l⟩),(V e).2.1,aM (V e).2.2 (Vt W _).size⟩)⟩
  .clear c;go_simp;refine O.out _ _ ?_;simp only[Vo];exact⟨r,W.heap.size,t,R,S,E,F,G,H,I,J,M,u,N,A,C,D,j,(B.alloc B.size _),(d.alloc _),(f.new B.size _),(i.alloc _),(oz.new2 d),n,(oz.new1 i),T,(λ_ e=> .inr (V e).2.2),X,(λe=>⟨(V e).1.mV (λb q l=>⟨q,(Vt W _).block b l⟩),(V e).2.1,aM (V e).2.2 (Vt W _).size⟩)⟩
  .clear c;go_simp;refine O.out _ _ ?_;simp only[Vo];exact⟨r,s,W.heap.size,R,S,E,F,G,H,I,J,M,u,N,A,C,D,j,(B.alloc B.size _),(d.alloc _),(f.alloc _),(i.new B.size _),m,(oz.new2 d),(oz.new2 f),T,U,(λ_ e=> .inr (V e).2.2),(λe=>⟨(V e).1.mV (λb q l=>⟨q,(Vt W _).block b l⟩),(V e).2.1,aM (V e).2.2 (Vt W _).size⟩)⟩
  .obtain rfl:=eX (k:=14) c VA;obtain rfl:=eX (k:=4) c VA;obtain⟨rfl,z,a⟩:=d.made rfl;have⟨K,p,y⟩:=iF a;obtain⟨y,a,rfl⟩:=(V rfl).1.form;clear c;go_simp;refine O.out _ _ ?_;simp only[Vo];exact⟨r,s,t,R,S,E,F,G,H,I,J,M,u,N,A,C,D,j,(B.setCell (p:=(aj r 0)) z _),d.store,(f.other (λe=>m rfl e) _),(i.other (λe=>n rfl e) _),m,n,o,T,U,X,(λe=>⟨(V e).1.mV (λb q l=>⟨q,et (by have:=T rfl e;omega)⟩),(V e).2.1,by simpa using(V e).2.2⟩)⟩
  .obtain rfl:=eX (k:=15) c VA;obtain rfl:=eX (k:=8) c VA;obtain⟨rfl,Y,z⟩:=f.made rfl;have⟨W,K,L⟩:=iF z;obtain rfl:=u rfl;clear c;go_simp;refine O.out _ _ ?_;simp only[Vo];exact⟨r,s,t,R,S,E,F,G,H,I,J,M,λ_=>rfl,N,A,C,D,j,(B.setCell (p:=(aj s 0)) Y _),(d.other (λe=>m.sy rfl e) _),f.store,(i.other (λe=>o rfl e) _),m,n,o,T,U,X,(λe=>⟨(V e).1.mV (λb q l=>⟨q,et (by have:=U rfl e;omega)⟩),(V e).2.1,by simpa using(V e).2.2⟩)⟩
  .obtain rfl:=eX (k:=16) c VA;obtain rfl:=eX (k:=13) c VA;obtain⟨rfl,zR,k⟩:=i.made rfl;have⟨L,z,K⟩:=iF k;obtain rfl:=j rfl;clear c;go_simp;refine O.out _ _ ?_;simp only[Vo];exact⟨r,s,t,R,S,E,F,G,H,I,J,M,u,N,A,C,D,λ_=>rfl,(B.setCell (p:=(aj t 0)) zR _),(d.other (λe=>n.sy rfl e) _),(f.other (λe=>o.sy rfl e) _),i.store,m,n,o,T,U,X,(λe=>⟨(V e).1.mV (λb q l=>⟨q,et (by have:=X rfl e;omega)⟩),(V e).2.1,by simpa using(V e).2.2⟩)⟩
 case rest=>
  obtain⟨vb,nb,ab,vv,rfl,rfl,rfl,c,d,j,x,e,f,i,Z⟩:=hcut;obtain⟨y,a,rfl⟩:=x.form;go_wp2;go_ret;exact⟨_,rfl,⟨_,_,_,_,rfl,by grind,d,c,x,hQ _ i,hQ _ f,hQ _ e⟩,Z⟩
end
end
end Go.Proofs.YtfebdimolnobaaaGreatDoor
