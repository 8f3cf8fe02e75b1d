import Derived.Test.YtfebdimolnobaaaGreatDoorEpH
import Derived.Test.YtfebdimolnobaaaGreatDoorPlR
import Derived.Test.YtfebdimolnobaaaGreatDoorKpB
set_option maxRecDepth 100000
set_option maxHeartbeats 8000000
set_option linter.all false
namespace Go.Proofs.YtfebdimolnobaaaGreatDoor
open Go.RowKit Go.Proofs.Tryz
section
open Go.Maps
def c5 (w:aw)(t:au)(c:t.size<=2^47)(f:GOK w)(b:BOK w):
  Calls prog 13 #[ag t] w (Eh w (iU t)):=by
 have z:= @wA;have a:=(Vs w).alloc (aE _) (am #[ag t] 9);generalize hr:iU t=r;have h:Hid (iU t=r):=hr;clear hr;go_in
 go_wp2_with fail;refine(St _ w.heap.size t c ((dZ.new w #[ag t] 9).cell 0) (f.O (a.block _ f.lt)) (b.O (a.block _ b.lt))).V ?_;rw[h.o]
 cases r with
 |error q=>
  obtain⟨k,p⟩:=q;rintro e w2 ⟨u,d⟩;obtain rfl:e= .returned (.tuple #[.pointer none,aa k,aa p]):=u;go_wp2;go_ret3
  exact⟨rfl,a.J (d.V a.size)⟩
 |ok bs=>
  rintro e w2 ⟨⟨B,A,mk,rfl,v,y,i,⟨j,l,m,n⟩,s,o⟩,d⟩;go_wp2;go_ret3
  exact⟨⟨B,A,mk,rfl,v,y,i,⟨aM a.size j,aM a.size l,aM a.size m,n⟩,s.V (λx g _=>⟨aM a.size g.1,g.2⟩),o⟩,a.J (d.V a.size)⟩
end
section
open VH
def Pm {S:eF}{f:fw}(h:f.isMap=true):fB S f=16/\fC S f=some (eR f):=⟨by unfold fB;rw[h];rfl,by unfold fC;rw[h];rfl⟩
def yX (w:aw)(P:ax)(mp:an)(g:GF)(fb:Nat)(iq:aC)(h:fi w P mp g fb):Calls prog 210 #[ah fb,.pointer iq] w (jO w λw' v=>Jk w' (λb=>w.heap.size<=b) mp g iq v):=by
 have a:= @wA;have⟨k,a,G,_,Q,R⟩:=h.blk;obtain⟨c,rfl⟩:=gL R;obtain⟨a,e,d,rfl⟩:=d7 Q.1;have a:=wg w (eK mp g) c iq (mg mp g);have l:∀W,ak w W->fi W P mp g fb:=λW c=>h.O (λb _ B=>c.block b B)
 clear R Q h;have⟨s,u⟩:=G.I;go_in
 go_wp2_with fail;refine a.V ?_;rintro e w2 ⟨a,rfl,⟨i,f,⟨rfl,A⟩,N⟩,r⟩;have a:=G.G r G.lt;have s2:=r.size;have T:∀o,ak w (w2.alloc o):=λo=>dW r ((Below.refl _ _).alloc (aE _) _)
 have⟨c,d⟩:=(a.alloc (am #[.func (.func i) #[] f.toArray] 398)).I;have x:=dZ.new w2 #[.func (.func i) #[] f.toArray] 398;have o:=λW=>MC W i f.toArray
 have O:=λW=>MD W i f.toArray
 have K:=λW sg=>JG W i f.toArray sg
 have z:Hid (∀(E W:aw) (S:eF) (d:MT) (a:fw) (n:Nat),ak w2 E->Kp (λb=>w.heap.size<=b) E W->FG S mp d a g->(∀W',Below W.heap.size W W'->UOK W')->(fB S a=16->∃t,fC S a=some t/\Jh S iq n t W)->NR (eE S (d6 S n) a) n i f W):=λE W S d a n q j c p m=>N S a n W (j.back q) c.gb.sy p m
 clear s u N;by_cases h4:g.form=4
 .have M:(g.form==4)=true:=by simp[h4]
  have G:=Hp _ P mp g fb (l (w2.alloc (am #[.func (.func i) #[] f.toArray] 398)).drew (T _).drew) h4;have H:=λW k=>py W (jC mp g.f.key) k (uy mp _)
  have l:=x.cell 0;have k:=T (am #[.func (.func i) #[] f.toArray] 398);have I:ak w2 (w2.alloc (am #[.func (.func i) #[] f.toArray] 398)):=(Below.refl _ _).alloc (aE _) _;go_upto_region 3 with fail
  generalize w2.alloc (am #[.func (.func i) #[] f.toArray] 398)=w3 at*
  go_region_held2 (λW=>W.cell? (aj w2.heap.size 0)=some (.func (.func i) #[] f.toArray))
   (first|exact s.cell 0|exact D.cell 0|exact C.cell 0|exact l)
   (first|(go_at_call 188;refine G.V ?_;rintro e u ⟨J,rfl,U⟩;have C:=dZ.G (w:=w3.drew) x U x.lt)|(go_at_call 189;refine(H u J).V ?_;rintro e l ⟨rfl,V⟩;have D:=C.G V C.lt)|(go_at_call 285;refine(K l _).V ?_;rintro e w6 ⟨Y,k,q,rfl,L,N,Q,y,E,F,X⟩;have s:=D.G X D.lt))
  all_goals
   go_wp2;go_ret;have K:ak w2 l:=dW I (dW (dW (Below.refl _ _).drew U) V);have L:=dW K X;have l:=K.size;refine⟨_,rfl,⟨365,[ah Y,ah k],⟨rfl,enters_of func365 VA rfl⟩,λS d a n W j c p m=> ?_⟩,dW r L⟩;have s:a.isMap=true:=by rw[c.map,h4];rfl
   have⟨C,D⟩:=Pm (S:=S) s;refine(Ji Y 366 k [ah q] (iM (jC mp g.f.key)) (j.bx Vv y) (j.bx Vv E) (enters_of func366 VA rfl) (Mg q i f (j.bx Vv F) A (z.o w6 W S d a n L j c p m)) ?_).as λl=> ?_
   .intro l k y B e q;rw[aQ]at B;exact If (uW (ca.1 B.2 e q) C D) (y.2 e q).2.2.2
   .rw[JE s,c.eq,(c.key h4).1]
 .have M:(g.form==4)=false:=by simp[h4]
  by_cases h2:g.form=2
  .have k:(g.form==2)=true:=by simp[h2]
   go_wp2_with fail;refine(O _).V ?_;rintro e u ⟨rfl,rfl⟩;go_wp2;go_ret;have s:ak w2 ((w2.alloc (am #[.func (.func i) #[] f.toArray] 398)).alloc (am #[.func (.func i) #[] f.toArray] 398)):=Below.a2 w2 _ _;refine⟨_,rfl,⟨366,[ah (w2.heap.size+1)],⟨rfl,enters_of func366 VA rfl⟩,λS d a n W j c p m=> ?_⟩,dW r s⟩;refine(Mg (w2.heap.size+1) i f (j.bx Vv (dZ.newAt Vw _ _)) A (z.o _ W S d a n s j c p m)).as λl=> ?_
   exact JD (by rw[c.map];simp[h4]) (by rw[c.rep];simp[h2]) (by rw[c.sin];simp[h2])
  .have k:(g.form==2)=false:=by simp[h2]
   have y:∀(S:eF) (d:MT) (a:fw),FG S mp d a g->a.isMap=false/\a.isRep=false/\gQ a.how eS=decide (g.form=0):=λS d a c=>⟨by rw[c.map];simp[h4],by rw[c.rep];simp[h2],c.sin⟩
   by_cases h0:g.form=0/\eK mp g≠16
   .have Z:(g.form==0)=true:=by simp[h0.1]
    have B:((eK mp g:Int)==16)=false:=by have:=h0.2;simp;omega
    have k:=λW F=>MC W 288 F
    go_wp2_with fail;refine(k _ _).V ?_;rintro e u ⟨rfl,rfl⟩;go_wp2;go_ret;have s:ak w2 ((w2.alloc (am #[.func (.func i) #[] f.toArray] 398)).alloc (am #[.func (.func 288) #[] #[ah w2.heap.size]] 398)):=Below.a2 w2 _ _;refine⟨_,rfl,⟨367,[ah (w2.heap.size+1)],⟨rfl,enters_of func367 VA rfl⟩,λS d a n W j c p m=> ?_⟩,dW r s⟩;refine(Mf (w2.heap.size+1) 288 [ah w2.heap.size] (j.bx Vv (dZ.newAt Vw _ _)) (enters_of func288 VA rfl) (Jj w2.heap.size i f (j.bx s2 (x.alloc _)) A (z.o _ W S d a n s j c p m))).as λl=> ?_
    have⟨I,J,k⟩:=y S d a c;exact JC I J ⟨by rw[k];simp[h0.1],by rw[<-c.gb];exact h0.2⟩
   .have H:∀(S:eF) (d:MT) (a:fw),FG S mp d a g->¬(gQ a.how eS=true/\fB S a≠16):=λS d a c q=>h0 ⟨by have:=q.1;rw[c.sin]at this;simpa using this,by rw[c.gb];exact q.2⟩
    have M:Hid (∀(S:eF) (d:MT) (a:fw) (n:Nat) (W:aw),Kp (λb=>w.heap.size<=b) ((w2.alloc (am #[.func (.func i) #[] f.toArray] 398)).alloc (am #[.func (.func i) #[] f.toArray] 398)) W->FG S mp d a g->(∀W',Below W.heap.size W W'->UOK W')->(fB S a=16->∃t,fC S a=some t/\Jh S iq n t W)->O1 (fG S (d6 S n) a) n 367 [ah (w2.heap.size+1)] W):=λS d a n W j c p m=>by
     have⟨I,J,k⟩:=y S d a c;exact(Mf (w2.heap.size+1) i f (j.bx Vv (dZ.newAt Vw _ _)) A (z.o _ W S d a n (Below.a2 w2 _ _) j c p m)).as λl=>JB I J (H S d a c)
    have O:∀args w,(callFunc 367 args).run prog w= .ok (.enter 367 args) w:=enters_of func367 VA rfl;by_cases h00:g.form=0
    .have Z:(g.form==0)=true:=by simp[h00]
     have B:((eK mp g:Int)==16)=true:=by
      have:eK mp g=16:=Decidable.not_not.1 λq=>h0 ⟨h00,q⟩
      simp[this]
     clear y H h0;go_wp2_with fail;refine(o _).V ?_;rintro e u ⟨rfl,rfl⟩;go_wp2;go_ret;exact⟨_,rfl,⟨367,[ah (w2.heap.size+1)],⟨rfl,O⟩,M.o⟩,dW r (Below.a2 w2 _ _)⟩
    .have Z:(g.form==0)=false:=by simp[h00]
     clear y H h0;go_wp2_with fail;refine(o _).V ?_;rintro e u ⟨rfl,rfl⟩;go_wp2;go_ret;exact⟨_,rfl,⟨367,[ah (w2.heap.size+1)],⟨rfl,O⟩,M.o⟩,dW r (Below.a2 w2 _ _)⟩
inductive UG (w:aw)(mp:an)(g:GF)(fb:Nat)(pq iq:aC)(W:aw):Array Bool->Act->Prop where
 |mk {l0 l1 l2 l3 l4 l5 l6 l7 l8 l9 l10 VT:Bool} {t5 t6 V7 VZ V8 V9 Wb Wd V0 Wp:Value} (bP bQ:Nat) (m1 m2:Nat) (f0:l0=true->V7=ah fb) (f1:l1=true->VZ= .agg #[aa g.f.num,aa (AQ mp g)]) (f2:l2=true->V8=ah fb) (f3:l3=true->V9=ah fb) (f4:l4=true->Wb= .pointer (some (aj fb 2))) (f5:l5=true->Wd= .agg #[aa (eK mp g),.pointer pq]) (f6:l6=true->V0= .pointer iq) (B:ak w W) (xP:Bz (w.heap.size) W l8 l10 t5 bP 237 (aa g.f.num) (aa (AQ mp g))) (xQ:Bx (w.heap.size) W l9 VT l7 t6 bQ 404 Wp) (VI:oz l8 l9 bP bQ) (VJ:Jt l8 l7 bP m1 m2) (VK:Jt l9 l7 bQ m1 m2) (V:l7=true->vN W (λb=>m1<=b/\b<m2) (eK mp g) iq Wp/\w.heap.size<=m1/\m2<=W.heap.size):UG w mp g fb pq iq W #[l0,l1,l2,l3,l4,l5,l6,l7,l8,l9,l10,VT] ⟨#[ah fb,.pointer iq,undef,undef,.nilFunc,t5,t6,ah fb,.bool false,undef,undef,V7,VZ,V8,V9,Wb,Wd,V0,Wp,undef],[]⟩
inductive UH (w:aw)(mp:an)(g:GF)(fb:Nat)(pq:aC)(W:aw):Array Bool->Act->Prop where
 |mk {l0 l1 l2 l3 l4 l5 l6 l7 l8 l9 l10 VT VW VX VY Wm Wn Wo:Bool} {t3 t4 t5 t6 t7 t8 t9 Wv V7 VZ V8 V9 Wb Wd V0:Value} (bP bQ bR:Nat) (m1 m2:Nat) (n1 n2:Nat) (f0:l0=true->t6=ah fb) (f1:l1=true->t7= .agg #[aa g.f.num,aa (AQ mp g)]) (f2:l2=true->t8=ah fb) (f3:l3=true->t9=ah fb) (f4:l4=true->Wv= .pointer (some (aj fb 2))) (f5:l5=true->V7= .agg #[aa (eK mp g),.pointer pq]) (f7:l7=true->V8=ah fb) (f8:l8=true->V9=ah fb) (f9:l9=true->Wb= .pointer (some (aj fb 2))) (VP:l10=true->Wd= .agg #[aa (eK mp g),.pointer pq]) (B:ak w W) (xP:Bz (w.heap.size) W VW Wm t3 bP 237 (aa g.f.num) (aa (AQ mp g))) (xQ:Bx (w.heap.size) W VX Wn l6 t4 bQ 262 VZ) (xR:Bx (w.heap.size) W VY Wo VT t5 bR 404 V0) (VI:oz VW VX bP bQ) (VM:oz VW VY bP bR) (VN:oz VX VY bQ bR) (VO:Jt VW l6 bP m1 m2) (VQ:Jt VX l6 bQ m1 m2) (VR:Jt VY l6 bR m1 m2) (A:l6=true->vM W (λb=>m1<=b/\b<m2) (eK mp g) none VZ/\w.heap.size<=m1/\m2<=W.heap.size) (VJ:Jt VW VT bP n1 n2) (VK:Jt VX VT bQ n1 n2) (VS:Jt VY VT bR n1 n2) (V:VT=true->vN W (λb=>n1<=b/\b<n2) (eK mp g) none V0/\w.heap.size<=n1/\n2<=W.heap.size):UH w mp g fb pq W #[l0,l1,l2,l3,l4,l5,l6,l7,l8,l9,l10,VT,VW,VX,VY,Wm,Wn,Wo] ⟨#[ah fb,undef,.nilFunc,t3,t4,t5,t6,t7,t8,t9,Wv,V7,VZ,V8,V9,Wb,Wd,V0,undef],[]⟩
section
variable (w:aw) (P:ax) (mp:an) (g:GF) (fb:Nat) (iq:aC)
def Gq (h:fi w P mp g fb)(hp:iw mp g=false):Calls prog 212 #[ah fb,.pointer iq] w (jO w λw' v=>Ey w' (λb=>w.heap.size<=b) mp g iq v):=by
 have M:=mT w P mp g fb h;rw[hp]at M;have a:= @wA;have i:=mg mp g;go_in
 go_wp2_with fail;refine M.V ?_;rintro e I ⟨rfl,Z⟩;have h:=h.O (w':=I) (λb _ a=>Z.block b a);have⟨f,j,n,_,c,d⟩:=h.blk;obtain⟨f,rfl⟩:=gL d;obtain⟨j,l,k,rfl⟩:=d7 c.1;have p:=n.lt;have N:∀W,Below I.heap.size I W->Vq 231 #[ah fb] W λe w'=>e= .returned (.agg #[aa g.f.num,aa (AQ mp g)])/\Below W.heap.size W w':=λW j=>yD W P mp g fb (h.O (λb _ a=>j.block b a))
 have J:=λW=>qI W (eK mp g) f iq i
 have a:=Z.size;clear d c h M;go_upto_region 3 with fail
 go_cut [5,6]from 11 to 18 (λx y a=>∃O Q T,x=ah O/\y=ah Q/\dZ a O #[aa g.f.num,aa (AQ mp g)] 237/\dZ a Q #[T] 404/\vN a (λb=>I.heap.size<=b) (eK mp g) iq T/\I.heap.size<=O/\I.heap.size<=Q/\Below I.heap.size I a)
 case first=>
  refine kE (λL a W=>UG I mp g fb f iq W L a) VB ⟨0,0,0,0,nofun,nofun,nofun,nofun,nofun,nofun,nofun,(Below.refl _ _).drew,Bz.start,Bx.start,nofun,nofun,nofun,nofun⟩ VA ?_ ?_
  .rintro L a W @⟨l0,j,l2,l3,l4,l5,l6,k,l,q,c,d,t5,t6,y,S,I,K,U,X,x,Y,o,s,G,H,u,z,A,C,D,E,F,B,f,i,m,r,t,V⟩ R;obtain rfl:j=true:=R 1 Vy;obtain rfl:k=true:=R 7 Vy;obtain rfl:l=true:=R 8 Vy;obtain rfl:q=true:=R 9 Vy;obtain rfl:c=true:=R 10 Vy;obtain rfl:d=true:=R 11 Vy;obtain⟨rfl,Y,_⟩:=f.made rfl;obtain⟨rfl,d,_⟩:=i.made rfl;have⟨c,j,k⟩:=V rfl;have x:=f.put rfl;have y:=i.put rfl;go_wp2;go_meet
   case rel=>exact⟨_,_,_,rfl,rfl,x,y,c.mV (λb q l=>⟨aM j q.1,rfl⟩),Y,d,B⟩
  refine .cons ?_ (.cons ?_ (.cons ?_ (.cons ?_ (.cons ?_ (.cons ?_ (.cons ?_ (.cons ?_ (.cons ?_ (.cons ?_ (.cons ?_ (.cons ?_ (.nil))))))))))))
  all_goals
   rintro L a W ⟨o,s,G,H,u,z,A,C,D,E,F,B,f,i,m,r,t,V⟩ k c K j;subst k
  .clear c;go_simp;refine j.out _ _ ?_;simp only[Vo];exact⟨o,s,G,H,λ_=>rfl,z,A,C,D,E,F,B,f,i,m,r,t,V⟩
  .obtain rfl:=eX (k:=0) c VA;obtain rfl:=u rfl;clear c;go_simp;go_wp2_with (first|(go_at_call 231;refine(N _ B).V ?_;rintro e w2 ⟨rfl,U⟩))
   refine j.out _ _ ?_;simp only[Vo];exact⟨o,s,G,H,λ_=>rfl,λ_=>rfl,A,C,D,E,F,(dW B U),(f.G U),(i.G U),m,r,t,(λe=>⟨(V e).1.mV (λb q l=>⟨q,U.block b l⟩),(V e).2.1,aM (V e).2.2 U.size⟩)⟩
  .clear c;go_simp;refine j.out _ _ ?_;simp only[Vo];exact⟨o,s,G,H,u,z,λ_=>rfl,C,D,E,F,B,f,i,m,r,t,V⟩
  .obtain rfl:=eX (k:=2) c VA;obtain rfl:=A rfl;clear c;go_simp;refine j.out _ _ ?_;simp only[Vo];exact⟨o,s,G,H,u,z,λ_=>rfl,λ_=>rfl,D,E,F,B,f,i,m,r,t,V⟩
  .obtain rfl:=eX (k:=3) c VA;obtain rfl:=C rfl;clear c;go_simp;refine j.out _ _ ?_;simp only[Vo];exact⟨o,s,G,H,u,z,A,λ_=>rfl,λ_=>rfl,E,F,B,f,i,m,r,t,V⟩
  .obtain rfl:=eX (k:=4) c VA;obtain rfl:=D rfl;have a:=n.G B p;have⟨n,p⟩:=a.I;clear c;go_simp;refine j.out _ _ ?_;simp only[Vo];exact⟨o,s,G,H,u,z,A,C,λ_=>rfl,λ_=>rfl,F,B,f,i,m,r,t,V⟩
  .clear c;go_simp;refine j.out _ _ ?_;simp only[Vo];exact⟨o,s,G,H,u,z,A,C,D,E,λ_=>rfl,B,f,i,m,r,t,V⟩
  .obtain rfl:=eX (k:=5) c VA;obtain rfl:=eX (k:=6) c VA;obtain rfl:=E rfl;obtain rfl:=F rfl;clear c;go_simp;go_wp2_with (first|(go_at_call 293;refine(J _).V ?_;rintro e p ⟨T,rfl,n,a⟩))
   refine j.out _ _ ?_;simp only[Vo];exact⟨o,s,W.heap.size,p.heap.size,u,z,A,C,D,λ_=>rfl,λ_=>rfl,(dW B a),(f.G a),((i.G a).val _),m,(λe _=> .inl (f.lt e)),(λe _=> .inl (i.lt e)),(λ_=>⟨n.mV (λb q l=>⟨⟨q,l⟩,rfl⟩),B.size,aE _⟩)⟩
  .clear c;go_simp;refine j.out _ _ ?_;simp only[Vo];exact⟨W.heap.size,s,G,H,u,z,A,C,D,E,F,(B.alloc B.size _),(f.new B.size _ _),(i.alloc _),(oz.lt1 i.lt),(λ_ e=> .inr (V e).2.2),t,(λe=>⟨(V e).1.mV (λb q l=>⟨q,(Vt W _).block b l⟩),(V e).2.1,aM (V e).2.2 (Vt W _).size⟩)⟩
  .clear c;go_simp;refine j.out _ _ ?_;simp only[Vo];exact⟨o,W.heap.size,G,H,u,z,A,C,D,E,F,(B.alloc B.size _),(f.alloc _),(i.new B.size _),(oz.lt1 f.lt).sy,r,(λ_ e=> .inr (V e).2.2),(λe=>⟨(V e).1.mV (λb q l=>⟨q,(Vt W _).block b l⟩),(V e).2.1,aM (V e).2.2 (Vt W _).size⟩)⟩
  .obtain rfl:=eX (k:=8) c VA;obtain rfl:=eX (k:=1) c VA;obtain⟨rfl,Y,n,p,a⟩:=f.made rfl;have⟨n,p⟩:=a.I;obtain rfl:=z rfl;clear c;go_simp;refine j.out _ _ ?_;simp only[Vo];exact⟨o,s,G,H,u,λ_=>rfl,A,C,D,E,F,((B.setCell (p:=(aj o 0)) Y _).setCell (p:=(aj o 1)) Y _),f.store,((i.oth (λe=>m rfl e) 0 _).oth (λe=>m rfl e) 1 _),m,r,t,(λe=>⟨(V e).1.mV (λb q l=>⟨q,(et (by have:=r rfl e;omega)).J (et (by have:=r rfl e;omega))⟩),(V e).2.1,by simpa using(V e).2.2⟩)⟩
  .obtain rfl:=eX (k:=9) c VA;obtain rfl:=eX (k:=7) c VA;obtain⟨rfl,d,a⟩:=i.made rfl;have⟨J,n,I⟩:=iF a;obtain⟨R,I,⟨rfl,K⟩,a⟩:=(V rfl).1;clear c;go_simp;refine j.out _ _ ?_;simp only[Vo];exact⟨o,s,G,H,u,z,A,C,D,E,F,(B.setCell (p:=(aj s 0)) d _),(f.oth (λe=>m.sy rfl e) 0 _),i.store,m,r,t,(λe=>⟨(V e).1.mV (λb q l=>⟨q,et (by have:=t rfl e;omega)⟩),(V e).2.1,by simpa using(V e).2.2⟩)⟩
 case rest=>
  obtain⟨O,Q,T,rfl,rfl,x,y,⟨R,I,⟨rfl,K⟩,o⟩,Y,d,a⟩:=hcut;go_wp2;go_ret;refine⟨_,rfl,⟨294,[ah O,ah Q],⟨rfl,enters_of func294 VB rfl⟩,λS d J n N W j M c X i m=> ?_⟩,dW Z a⟩;have a:=j.bx Vv x;have f:=j.bx Vv y;have L:=o S J n N W (j.less λb q=>Vv) (λb q l=>M b Vv l) c X.gb.sy m;rw[X.eq,X.tk]at a;rw[X.pk]at hp;have d:=tG mp g;rw[X.tk]at d;have:=Pd O Q R I J.num (oZ S J) c a f (M O Vv x.lt) (M Q Vv y.lt) i d K L
  exact λc Z T l k b l0 B d f i j m a=>by
   have e:kN S (eI S n) J l=l.flatMap λv=>fH J.num (oZ S J)++gp S (eI S n) J v:=by unfold kN;rw[dQ (by grind)]
   rw[e]at a⊢;exact this c Z T l k b l0 B d f i j m a
end
section
variable (w:aw) (P:ax) (mp:an) (g:GF) (fb:Nat) (iq:aC)
def wi (h:fi w P mp g fb)(hp:iw mp g=true):Calls prog 292 #[ah fb] w (jO w λw' v=>Ey w' (λb=>w.heap.size<=b) mp g iq v):=by
 have a:= @wA;have⟨c,e,p,_,a,d⟩:=h.blk;obtain⟨c,rfl⟩:=gL d;obtain⟨e,i,f,rfl⟩:=d7 a.1;have f:=mg mp g;have S:=p.lt;have hT:∀W,ak w W->Vq 231 #[ah fb] W λe w'=>e= .returned (.agg #[aa g.f.num,aa (AQ mp g)])/\Below W.heap.size W w':=λW i=>yD W P mp g fb (h.O (λb _ j=>i.block b j))
 have WB:=λW=>od W (eK mp g) c none f
 have Wq:=λW=>qI W (eK mp g) c none f
 clear d a h;go_in
 go_upto_region 1 with fail
 go_cut [3,4,5]from 6 to 17 (λx y z a=>∃tb Z vb N vv,x=ah tb/\y=ah Z/\z=ah vb/\dZ a tb #[aa g.f.num,aa (AQ mp g)] 237/\dZ a Z #[N] 262/\dZ a vb #[vv] 404/\vM a (λb=>w.heap.size<=b) (eK mp g) none N/\vN a (λb=>w.heap.size<=b) (eK mp g) none vv/\w.heap.size<=tb/\w.heap.size<=Z/\w.heap.size<=vb/\ak w a)
 case first=>
  refine kE (λL a W=>UH w mp g fb c W L a) VB ⟨0,0,0,0,0,0,0,nofun,nofun,nofun,nofun,nofun,nofun,nofun,nofun,nofun,nofun,(Below.refl _ _).drew,Bz.start,Bx.start,Bx.start,nofun,nofun,nofun,nofun,nofun,nofun,nofun,nofun,nofun,nofun,nofun⟩ VA ?_ ?_
  .rintro L a W @⟨l0,l1,l2,l3,l4,l5,l6,l7,l8,l9,l10,k,l,m,q,K,Wn,Wo,t3,t4,t5,t6,t7,t8,t9,Wv,V7,VZ,V8,V9,Wb,Wd,V0,s,D,E,n,x,y,z,M,O,Q,R,T,U,X,Y,d,G,B,f,i,j,o,r,u,C,H,I,A,t,F,J,V⟩ c;obtain rfl:l1=true:=c 1 Vy;obtain rfl:l6=true:=c 6 Vy;obtain rfl:k=true:=c 11 Vy;obtain rfl:l=true:=c 12 Vy;obtain rfl:m=true:=c 13 Vy;obtain rfl:q=true:=c 14 Vy;obtain rfl:K=true:=c 15 Vy;obtain rfl:Wn=true:=c 16 Vy;obtain rfl:Wo=true:=c 17 Vy;obtain⟨rfl,zP,_⟩:=f.made rfl;obtain⟨rfl,zQ,_⟩:=i.made rfl;obtain⟨rfl,zR,_⟩:=j.made rfl;have⟨c,k,l⟩:=A rfl;have⟨m,K,l⟩:=V rfl;have KP:=f.put rfl;have KQ:=i.put rfl;have KR:=j.put rfl;go_wp2;go_meet
   case rel=>exact⟨_,_,_,_,_,rfl,rfl,rfl,KP,KQ,KR,c.mV (λb q l=>⟨aM k q.1,rfl⟩),m.mV (λb q l=>⟨aM K q.1,rfl⟩),zP,zQ,zR,B⟩
  refine .cons ?_ (.cons ?_ (.cons ?_ (.cons ?_ (.cons ?_ (.cons ?_ (.cons ?_ (.cons ?_ (.cons ?_ (.cons ?_ (.cons ?_ (.cons ?_ (.cons ?_ (.cons ?_ (.cons ?_ (.cons ?_ (.cons ?_ (.cons ?_ (.nil))))))))))))))))))
  all_goals
   rintro L a W ⟨s,D,E,n,x,y,z,M,O,Q,R,T,U,X,Y,d,G,B,f,i,j,o,r,u,C,H,I,A,t,F,J,V⟩ k c K m;subst k
  .clear c;go_simp;refine m.out _ _ ?_;simp only[Vo];exact⟨s,D,E,n,x,y,z,λ_=>rfl,O,Q,R,T,U,X,Y,d,G,B,f,i,j,o,r,u,C,H,I,A,t,F,J,V⟩
  .obtain rfl:=eX (k:=0) c VA;obtain rfl:=M rfl;clear c;go_simp;go_wp2_with (first|(go_at_call 231;refine(hT _ B).V ?_;rintro e w2 ⟨rfl,a⟩))
   refine m.out _ _ ?_;simp only[Vo];exact⟨s,D,E,n,x,y,z,λ_=>rfl,λ_=>rfl,Q,R,T,U,X,Y,d,G,(dW B a),(f.G a),(i.G a),(j.G a),o,r,u,C,H,I,(λe=>⟨(A e).1.mV (λb q l=>⟨q,a.block b l⟩),(A e).2.1,aM (A e).2.2 a.size⟩),t,F,J,(λe=>⟨(V e).1.mV (λb q l=>⟨q,a.block b l⟩),(V e).2.1,aM (V e).2.2 a.size⟩)⟩
  .clear c;go_simp;refine m.out _ _ ?_;simp only[Vo];exact⟨s,D,E,n,x,y,z,M,O,λ_=>rfl,R,T,U,X,Y,d,G,B,f,i,j,o,r,u,C,H,I,A,t,F,J,V⟩
  .obtain rfl:=eX (k:=2) c VA;obtain rfl:=Q rfl;clear c;go_simp;refine m.out _ _ ?_;simp only[Vo];exact⟨s,D,E,n,x,y,z,M,O,λ_=>rfl,λ_=>rfl,T,U,X,Y,d,G,B,f,i,j,o,r,u,C,H,I,A,t,F,J,V⟩
  .obtain rfl:=eX (k:=3) c VA;obtain rfl:=R rfl;clear c;go_simp;refine m.out _ _ ?_;simp only[Vo];exact⟨s,D,E,n,x,y,z,M,O,Q,λ_=>rfl,λ_=>rfl,U,X,Y,d,G,B,f,i,j,o,r,u,C,H,I,A,t,F,J,V⟩
  .obtain rfl:=eX (k:=4) c VA;obtain rfl:=T rfl;have a:=p.G B S;have⟨k1,k2⟩:=a.I;clear c;go_simp;refine m.out _ _ ?_;simp only[Vo];exact⟨s,D,E,n,x,y,z,M,O,Q,R,λ_=>rfl,λ_=>rfl,X,Y,d,G,B,f,i,j,o,r,u,C,H,I,A,t,F,J,V⟩
  .obtain rfl:=eX (k:=5) c VA;obtain rfl:=U rfl;clear c;go_simp;go_wp2_with (first|(go_at_call 289;refine(WB _).V ?_;rintro e w3 ⟨N,rfl,WE,K⟩))
   refine m.out _ _ ?_;simp only[Vo];exact⟨s,D,E,W.heap.size,w3.heap.size,y,z,M,O,Q,R,T,λ_=>rfl,X,Y,d,G,(dW B K),(f.G K),((i.G K).val _),(j.G K),o,r,u,(λe _=> .inl (f.lt e)),(λe _=> .inl (i.lt e)),(λe _=> .inl (j.lt e)),(λ_=>⟨WE.mV (λb q l=>⟨⟨q,l⟩,rfl⟩),B.size,aE _⟩),t,F,J,(λe=>⟨(V e).1.mV (λb q l=>⟨q,K.block b l⟩),(V e).2.1,aM (V e).2.2 K.size⟩)⟩
  .clear c;go_simp;refine m.out _ _ ?_;simp only[Vo];exact⟨s,D,E,n,x,y,z,M,O,Q,R,T,U,λ_=>rfl,Y,d,G,B,f,i,j,o,r,u,C,H,I,A,t,F,J,V⟩
  .obtain rfl:=eX (k:=7) c VA;obtain rfl:=X rfl;clear c;go_simp;refine m.out _ _ ?_;simp only[Vo];exact⟨s,D,E,n,x,y,z,M,O,Q,R,T,U,λ_=>rfl,λ_=>rfl,d,G,B,f,i,j,o,r,u,C,H,I,A,t,F,J,V⟩
  .obtain rfl:=eX (k:=8) c VA;obtain rfl:=Y rfl;clear c;go_simp;refine m.out _ _ ?_;simp only[Vo];exact⟨s,D,E,n,x,y,z,M,O,Q,R,T,U,X,λ_=>rfl,λ_=>rfl,G,B,f,i,j,o,r,u,C,H,I,A,t,F,J,V⟩
  .obtain rfl:=eX (k:=9) c VA;obtain rfl:=d rfl;have a:=p.G B S;have⟨k1,k2⟩:=a.I;clear c;go_simp;refine m.out _ _ ?_;simp only[Vo];exact⟨s,D,E,n,x,y,z,M,O,Q,R,T,U,X,Y,λ_=>rfl,λ_=>rfl,B,f,i,j,o,r,u,C,H,I,A,t,F,J,V⟩
  .obtain rfl:=eX (k:=10) c VA;obtain rfl:=G rfl;clear c;go_simp;go_wp2_with (first|(go_at_call 293;refine(Wq _).V ?_;rintro e S ⟨vv,rfl,p,a⟩))
   refine m.out _ _ ?_;simp only[Vo];exact⟨s,D,E,n,x,W.heap.size,S.heap.size,M,O,Q,R,T,U,X,Y,d,λ_=>rfl,(dW B a),(f.G a),(i.G a),((j.G a).val _),o,r,u,C,H,I,(λe=>⟨(A e).1.mV (λb q l=>⟨q,a.block b l⟩),(A e).2.1,aM (A e).2.2 a.size⟩),(λe _=> .inl (f.lt e)),(λe _=> .inl (i.lt e)),(λe _=> .inl (j.lt e)),(λ_=>⟨p.mV (λb q l=>⟨⟨q,l⟩,rfl⟩),B.size,aE _⟩)⟩
  .clear c;go_simp;refine m.out _ _ ?_;simp only[Vo];exact⟨W.heap.size,D,E,n,x,y,z,M,O,Q,R,T,U,X,Y,d,G,(B.alloc B.size _),(f.new B.size _ _),(i.alloc _),(j.alloc _),(oz.lt1 i.lt),(oz.lt1 j.lt),u,(λ_ e=> .inr (A e).2.2),H,I,(λe=>⟨(A e).1.mV (λb q l=>⟨q,(Vt W _).block b l⟩),(A e).2.1,aM (A e).2.2 (Vt W _).size⟩),(λ_ e=> .inr (V e).2.2),F,J,(λe=>⟨(V e).1.mV (λb q l=>⟨q,(Vt W _).block b l⟩),(V e).2.1,aM (V e).2.2 (Vt W _).size⟩)⟩
  .clear c;go_simp;refine m.out _ _ ?_;simp only[Vo];exact⟨s,W.heap.size,E,n,x,y,z,M,O,Q,R,T,U,X,Y,d,G,(B.alloc B.size _),(f.alloc _),(i.new B.size _),(j.alloc _),(oz.lt1 f.lt).sy,r,(oz.lt1 j.lt),C,(λ_ e=> .inr (A e).2.2),I,(λe=>⟨(A e).1.mV (λb q l=>⟨q,(Vt W _).block b l⟩),(A e).2.1,aM (A e).2.2 (Vt W _).size⟩),t,(λ_ e=> .inr (V e).2.2),J,(λe=>⟨(V e).1.mV (λb q l=>⟨q,(Vt W _).block b l⟩),(V e).2.1,aM (V e).2.2 (Vt W _).size⟩)⟩
  .clear c;go_simp;refine m.out _ _ ?_;simp only[Vo];exact⟨s,D,W.heap.size,n,x,y,z,M,O,Q,R,T,U,X,Y,d,G,(B.alloc B.size _),(f.alloc _),(i.alloc _),(j.new B.size _),o,(oz.lt1 f.lt).sy,(oz.lt1 i.lt).sy,C,H,(λ_ e=> .inr (A e).2.2),(λe=>⟨(A e).1.mV (λb q l=>⟨q,(Vt W _).block b l⟩),(A e).2.1,aM (A e).2.2 (Vt W _).size⟩),t,F,(λ_ e=> .inr (V e).2.2),(λe=>⟨(V e).1.mV (λb q l=>⟨q,(Vt W _).block b l⟩),(V e).2.1,aM (V e).2.2 (Vt W _).size⟩)⟩
  .obtain rfl:=eX (k:=12) c VA;obtain rfl:=eX (k:=1) c VA;obtain⟨rfl,zP,p,S,a⟩:=f.made rfl;have⟨p,S⟩:=a.I;obtain rfl:=O rfl;clear c;go_simp;refine m.out _ _ ?_;simp only[Vo];exact⟨s,D,E,n,x,y,z,M,λ_=>rfl,Q,R,T,U,X,Y,d,G,((B.setCell (p:=(aj s 0)) zP _).setCell (p:=(aj s 1)) zP _),f.store,((i.oth (λe=>o rfl e) 0 _).oth (λe=>o rfl e) 1 _),((j.oth (λe=>r rfl e) 0 _).oth (λe=>r rfl e) 1 _),o,r,u,C,H,I,(λe=>⟨(A e).1.mV (λb q l=>⟨q,(et (by have:=C rfl e;omega)).J (et (by have:=C rfl e;omega))⟩),(A e).2.1,by simpa using(A e).2.2⟩),t,F,J,(λe=>⟨(V e).1.mV (λb q l=>⟨q,(et (by have:=t rfl e;omega)).J (et (by have:=t rfl e;omega))⟩),(V e).2.1,by simpa using(V e).2.2⟩)⟩
  .obtain rfl:=eX (k:=13) c VA;obtain rfl:=eX (k:=6) c VA;obtain⟨rfl,zQ,a⟩:=i.made rfl;have⟨wQ,S,kQ⟩:=iF a;obtain⟨af,Wh,⟨rfl,We⟩,a⟩:=(A rfl).1;clear c;go_simp;refine m.out _ _ ?_;simp only[Vo];exact⟨s,D,E,n,x,y,z,M,O,Q,R,T,U,X,Y,d,G,(B.setCell (p:=(aj D 0)) zQ _),(f.oth (λe=>o.sy rfl e) 0 _),i.store,(j.oth (λe=>u rfl e) 0 _),o,r,u,C,H,I,(λe=>⟨(A e).1.mV (λb q l=>⟨q,et (by have:=H rfl e;omega)⟩),(A e).2.1,by simpa using(A e).2.2⟩),t,F,J,(λe=>⟨(V e).1.mV (λb q l=>⟨q,et (by have:=F rfl e;omega)⟩),(V e).2.1,by simpa using(V e).2.2⟩)⟩
  .obtain rfl:=eX (k:=14) c VA;obtain rfl:=eX (k:=11) c VA;obtain⟨rfl,zR,S⟩:=j.made rfl;have⟨wR,cR,kR⟩:=iF S;obtain⟨vf,VV,⟨rfl,We⟩,a⟩:=(V rfl).1;clear c;go_simp;refine m.out _ _ ?_;simp only[Vo];exact⟨s,D,E,n,x,y,z,M,O,Q,R,T,U,X,Y,d,G,(B.setCell (p:=(aj E 0)) zR _),(f.oth (λe=>r.sy rfl e) 0 _),(i.oth (λe=>u.sy rfl e) 0 _),j.store,o,r,u,C,H,I,(λe=>⟨(A e).1.mV (λb q l=>⟨q,et (by have:=I rfl e;omega)⟩),(A e).2.1,by simpa using(A e).2.2⟩),t,F,J,(λe=>⟨(V e).1.mV (λb q l=>⟨q,et (by have:=J rfl e;omega)⟩),(V e).2.1,by simpa using(V e).2.2⟩)⟩
 case rest=>
  obtain⟨tb,Z,vb,N,vv,rfl,rfl,rfl,KP,KQ,KR,⟨af,Wh,⟨rfl,r⟩,t⟩,⟨vf,VV,⟨rfl,We⟩,u⟩,zP,zQ,zR,K⟩:=hcut;go_wp2;go_ret;refine⟨_,rfl,⟨370,[ah tb,ah Z,ah vb],⟨rfl,enters_of func370 VB rfl⟩,λS d a n N W m f i c s j=> ?_⟩,K⟩;have d:=m.bx zP KP;have o:=m.bx zQ KQ;have p:=m.bx zR KR;have j:fB S a≠16:=(by rw[c.pk]at hp;unfold iN at hp;rw[aQ]at hp;intro q;rw[q]at hp;simp[fo]at hp);have L:=u S a n N W m f i c.gb.sy λq=>absurd q j
  have A:=t S a n N W m f i c.gb.sy λq=>absurd q j
  rw[c.eq,c.tk]at d;rw[c.pk]at hp;have j:=tG mp g;rw[c.tk]at j;have:=Mi tb Z af vb vf Wh VV a.num (oZ S a) i d o p (f tb zP KP.lt) (f Z zQ KQ.lt) (f vb zR KR.lt) s j We r L A
  exact λd Z vv l k b l0 B f i j m o c=>by
   have e:kN S (eI S n) a l=fH a.num (oZ S a)++fI (l.flatMap (gp S (eI S n) a)):=by unfold kN;rw[dR hp];rfl
   rw[e]at c⊢;exact this d Z vv l k b l0 B f i j m o c
def Ad (h:fi w P mp g fb):Calls prog 212 #[ah fb,.pointer iq] w (jO w λw' v=>Ey w' (λb=>w.heap.size<=b) mp g iq v):=by
 cases hp:iw mp g with
 |false=>exact Gq w P mp g fb iq h hp
 |true=>
  have d:=mT w P mp g fb h;rw[hp]at d;go_in
  go_wp2_with fail;refine d.V ?_;rintro e w1 ⟨rfl,a⟩;have s1:=a.size;have j:=wi w1 P mp g fb iq (h.O λb _ k=>a.block b k) hp;go_wp2_with fail;refine j.V ?_;rintro e w2 ⟨v,rfl,c,f⟩;have⟨n,m,i,_⟩:=id c;obtain rfl:=i.eq;go_wp2;go_ret;exact⟨_,rfl,c.mV λb q l=>⟨aM s1 q,rfl⟩,dW a f⟩
end
end
def vj:qD:=⟨yX,wh,Ad,we,yL⟩
section
variable {S:eF} (hS:Th S) (hN:∀d∈S.ms,(d.fs.map (·.num)).Nodup) {b:au}
include hS hN
end
def wK:Nat->PM->Nat
 |0,_=>0
 |k+1,m=>1+m.unk.size+(m.fs.map λf=>1+(f.2.map λv=>v.2.1.size+wK k v.2.2).sum).sum
def wV (k:Nat)(l:List PV):Nat:=(l.map λv=>v.2.1.size+wK k v.2.2).sum
def wF (k:Nat)(fs:List PF):Nat:=(fs.map λf=>1+wV k f.2).sum
def jR (k:Nat)(m:PM):wK (k+1) m=1+m.unk.size+wF k m.fs:=rfl
def rC (k:Nat)(f:PF)(fs:List PF):wF k (f::fs)=1+wV k f.2+wF k fs:=rfl
def pL (k:Nat)(v:PV)(l:List PV):wV k (v::l)=v.2.1.size+wK k v.2.2+wV k l:=rfl
def Qr:eS.size=0:=rfl
def pM (k:Nat):wK k PM.none<=1:=by cases k<;>simp[wK,PM.none,PM.fs,PM.unk,Qr]
def Qs:∀(k:Nat) (m:PM),pX k m+30<=30*wK (k+1) m
 |0,m=>by rw[jR];show 0+30<=_;omega
 |k+1,m=>by
  have b:∀l:List PV,(l.map λv=>30+v.2.1.size+pX k v.2.2).sum<=30*wV (k+1) l:=λl=>by
   induction l with
   |nil=>exact aP _
   |cons v l ih=>
    have:=Qs k v.2.2;rw[bC,ck,pL];omega
  have a:∀l:List PF,(l.map λx=>30+(x.2.map λv=>30+v.2.1.size+pX k v.2.2).sum).sum<=30*wF (k+1) l:=λl=>by
   induction l with
   |nil=>exact aP _
   |cons x l ih=>
    have:=b x.2;rw[bC,ck,rC];omega
  have:=a m.fs;rw[pX,jR];omega
def M9 {k:Nat}{x:PF}:∀{l:List PF},x∈l->1+wV k x.2<=wF k l
 |y::l,h=>by
  rw[rC];rcases aR.1 h with rfl|h;.omega
  .have:=M9 (k:=k) h;omega
def Na {k:Nat}{v:PV}:∀{l:List PV},v∈l->v.2.1.size+wK k v.2.2<=wV k l
 |y::l,h=>by
  rw[pL];rcases aR.1 h with rfl|h;.omega
  .have:=Na (k:=k) h;omega
def Nb (k:Nat):∀l:List PF,l.length<=wF k l
 | []=>aP _
 |x::l=>by have:=Nb k l;rw[rC,bw];omega
def Nc (k:Nat):∀l:List PV,l.length<=wV (k+1) l
 | []=>aP _
 |v::l=>by have:=Nc k l;rw[pL,bw,jR];omega
def Nd:∀(k:Nat) (m:PM),pT k m->wK (k+1) m<=4398046511104->pi k m
 |0,_,h,_=>h
 |k+1,m,h,hw=>by
  rw[jR]at hw;have f:=Nb (k+1) m.fs;refine⟨Vv,Vv,λx b=> ?_⟩;have g:=M9 (k:=k+1) b;have i:=Nc k x.2;refine⟨Vv,λv a=> ?_⟩;have j:=Na (k:=k+1) a;have⟨c,d,e⟩:=h x b v a;exact⟨c,d,Vv,Nd k v.2.2 e Vv⟩
end Go.Proofs.YtfebdimolnobaaaGreatDoor
