import Derived.Test.YtfebdimolnobaaaGreatDoorArA
set_option maxRecDepth 100000
set_option maxHeartbeats 8000000
set_option linter.all false
namespace Go.Proofs.YtfebdimolnobaaaGreatDoor
open Go.RowKit Go.Proofs.Tryz
section
open Tq
inductive Si (w:aw)(mp:am)(g:GF)(fb:Nat)(pq:aC)(al:Int)(W:aw):Array Bool->Act->Prop where
 |mk {l0 l1 l2 l3 l4 l5 l6 l7 l8 l9 l10 TM TN TC Tz TA TB TE TF TG:Bool} {t3 t4 t5 t6 t7 t8 t9 TH TO TP TQ TI TR TS TT TU TJ:Value} (bP bQ bR:Nat) (m1 m2:Nat) (f0:l0=true->t6=ag fb) (f1:l1=true->t7=ag fb) (f2:l2=true->t8= .pointer (some (ai fb 2))) (f3:l3=true->t9= .agg #[aa (jd mp g.f.ty),.pointer pq]) (f5:l5=true->TO=ag fb) (f6:l6=true->TP=ag fb) (f7:l7=true->TQ=ag fb) (f8:l8=true->TI=aa g.f.num) (f9:l9=true->TR=ag fb) (Tv:l10=true->TS=ag fb) (Tw:TM=true->TT= .pointer (some (ai fb 2))) (Tx:TN=true->TU= .agg #[aa (jd mp g.f.ty),.pointer pq]) (Tr:TC=true->TJ=aa al) (B:aj w W) (xP:Bx (w.heap.size) W Tz TE l4 t3 bP 478 TH) (xQ:Bx (w.heap.size) W TA TF l8 t4 bQ 3 TI) (xR:Bx (w.heap.size) W TB TG TC t5 bR 235 TJ) (Ts:ve Tz TA bP bQ) (Tt:ve Tz TB bP bR) (Tu:ve TA TB bQ bR) (oP:RQ Tz l4 bP m1 m2) (oQ:RQ TA l4 bQ m1 m2) (oR:RQ TB l4 bR m1 m2) (V:l4=true->mM W (λb=>m1<=b/\b<m2) (jd mp g.f.ty) TH/\w.heap.size<=m1/\m2<=W.heap.size):Si w mp g fb pq al W #[l0,l1,l2,l3,l4,l5,l6,l7,l8,l9,l10,TM,TN,TC,Tz,TA,TB,TE,TF,TG] ⟨#[ag fb,undef,.nilFunc,t3,t4,t5,t6,t7,t8,t9,TH,TO,TP,TQ,TI,TR,TS,TT,TU,TJ,undef],[]⟩
section
variable (w:aw) (Q P:ax) (mp pm:am) (g:GF) (fb:Nat)
def vG (hQ:∀b,w.heap.size<=b->Q b)(h:eR w P mp g fb)(h4:g.form≠4)(hb:jd mp g.f.ty<=15):Calls prog 379 #[ag fb] w (pw w λw' v=>Nt w' Q mp g v):=by
 have a:= @yG;have⟨d,e,X,_,a,c⟩:=h.blk;have d:eG mp g=jd mp g.f.ty:=by unfold eG;rw[dG h4]
 rw[d]at X;obtain⟨d,rfl⟩:=g8 c;obtain⟨e,i,f,rfl⟩:=dO a.1;have T:=λW=>Ad W (jd mp g.f.ty) (.pointer d) hb
 have hW:=λW=>rQ W (jd mp g.f.ty) (.pointer d) Te
 clear c a h;have p:=X.lt;obtain⟨c,TX⟩:∃c:Int,(ed (jd mp g.f.ty):Int)=c:=⟨_,rfl⟩;rw[TX]at hW;go_in
 go_upto_region 1 with fail
 go_cut [3,4,5]from 6 to 19 (λx y z Y=>∃vb nb ab vv,x=ag vb/\y=ag nb/\z=ag ab/\dP Y vb #[vv] 478/\dP Y nb #[aa g.f.num] 3/\dP Y ab #[aa c] 235/\mM Y Q (jd mp g.f.ty) vv/\w.heap.size<=vb/\w.heap.size<=nb/\w.heap.size<=ab/\aj w Y)
 case first=>
  refine li (λL a W=>Si w mp g fb d c W L a) Tj ⟨0,0,0,0,0,nofun,nofun,nofun,nofun,nofun,nofun,nofun,nofun,nofun,nofun,nofun,nofun,nofun,(Below.refl _ _).drew,Bx.start,Bx.start,Bx.start,nofun,nofun,nofun,nofun,nofun,nofun,nofun⟩ Tj ?_ ?_
  .rintro L a W @⟨l0,l1,l2,l3,I,l5,l6,l7,K,l9,z,TM,TN,k,y,c,e,l,q,x,t3,t4,t5,t6,t7,t8,t9,U,TO,TP,TQ,Y,TR,TS,TT,TU,Z,r,s,t,J,M,E,f1,f2,f3,f5,F,G,u,H,A,C,D,j,B,d,f,i,m,n,o,N,O,R,V⟩ S;obtain rfl:I=true:=S 4 Th;obtain rfl:K=true:=S 8 Th;obtain rfl:k=true:=S 13 Th;obtain rfl:y=true:=S 14 Th;obtain rfl:c=true:=S 15 Th;obtain rfl:e=true:=S 16 Th;obtain rfl:l=true:=S 17 Th;obtain rfl:q=true:=S 18 Th;obtain rfl:x=true:=S 19 Th;obtain⟨rfl,x,_⟩:=d.made rfl;obtain⟨rfl,y,_⟩:=f.made rfl;obtain⟨rfl,z,_⟩:=i.made rfl;obtain rfl:=u rfl;obtain rfl:=j rfl;have⟨I,c,e⟩:=V rfl;have c:=d.put rfl;have e:=f.put rfl;have k:=i.put rfl;go_wp2;go_meet
   case rel=>exact⟨_,_,_,_,rfl,rfl,rfl,c,e,k,I.mV (λb q l=>⟨hQ b Te,rfl⟩),x,y,z,B⟩
  refine .cons ?_ (.cons ?_ (.cons ?_ (.cons ?_ (.cons ?_ (.cons ?_ (.cons ?_ (.cons ?_ (.cons ?_ (.cons ?_ (.cons ?_ (.cons ?_ (.cons ?_ (.cons ?_ (.cons ?_ (.cons ?_ (.cons ?_ (.cons ?_ (.cons ?_ (.cons ?_ .nil)))))))))))))))))))
  all_goals
   rintro L a W ⟨r,s,t,J,M,E,f1,f2,f3,f5,F,G,u,H,A,C,D,j,B,d,f,i,m,n,o,N,O,R,V⟩ e c K I;subst e
  .clear c;go_simp;refine I.out _ _ ?_;simp only[S7];exact⟨r,s,t,J,M,λ_=>rfl,f1,f2,f3,f5,F,G,u,H,A,C,D,j,B,d,f,i,m,n,o,N,O,R,V⟩
  .obtain rfl:=eH (k:=0) c Tj;obtain rfl:=E rfl;clear c;go_simp;refine I.out _ _ ?_;simp only[S7];exact⟨r,s,t,J,M,λ_=>rfl,λ_=>rfl,f2,f3,f5,F,G,u,H,A,C,D,j,B,d,f,i,m,n,o,N,O,R,V⟩
  .obtain rfl:=eH (k:=1) c Tj;obtain rfl:=f1 rfl;clear c;go_simp;refine I.out _ _ ?_;simp only[S7];exact⟨r,s,t,J,M,E,λ_=>rfl,λ_=>rfl,f3,f5,F,G,u,H,A,C,D,j,B,d,f,i,m,n,o,N,O,R,V⟩
  .obtain rfl:=eH (k:=2) c Tj;obtain rfl:=f2 rfl;have U:=X.G B p;have⟨K,L⟩:=U.I;clear c;go_simp;refine I.out _ _ ?_;simp only[S7];exact⟨r,s,t,J,M,E,f1,λ_=>rfl,λ_=>rfl,f5,F,G,u,H,A,C,D,j,B,d,f,i,m,n,o,N,O,R,V⟩
  .obtain rfl:=eH (k:=3) c Tj;obtain rfl:=f3 rfl;clear c;go_simp;go_wp2_with (first|(go_at_call 420;refine(T _).V ?_;rintro e w2 ⟨vv,rfl,Z,a⟩))
   refine I.out _ _ ?_;simp only[S7];exact⟨r,s,t,W.heap.size,w2.heap.size,E,f1,f2,λ_=>rfl,f5,F,G,u,H,A,C,D,j,(dL B a),((d.G a).val _),(f.G a),(i.G a),m,n,o,(λe _=> .inl (d.lt e)),(λe _=> .inl (f.lt e)),(λe _=> .inl (i.lt e)),(λ_=>⟨Z.mV (λb q l=>⟨⟨q,l⟩,rfl⟩),B.size,aD _⟩)⟩
  .clear c;go_simp;refine I.out _ _ ?_;simp only[S7];exact⟨r,s,t,J,M,E,f1,f2,f3,λ_=>rfl,F,G,u,H,A,C,D,j,B,d,f,i,m,n,o,N,O,R,V⟩
  .obtain rfl:=eH (k:=5) c Tj;obtain rfl:=f5 rfl;clear c;go_simp;refine I.out _ _ ?_;simp only[S7];exact⟨r,s,t,J,M,E,f1,f2,f3,λ_=>rfl,λ_=>rfl,G,u,H,A,C,D,j,B,d,f,i,m,n,o,N,O,R,V⟩
  .obtain rfl:=eH (k:=6) c Tj;obtain rfl:=F rfl;clear c;go_simp;refine I.out _ _ ?_;simp only[S7];exact⟨r,s,t,J,M,E,f1,f2,f3,f5,λ_=>rfl,λ_=>rfl,u,H,A,C,D,j,B,d,f,i,m,n,o,N,O,R,V⟩
  .obtain rfl:=eH (k:=7) c Tj;obtain rfl:=G rfl;have U:=X.G B p;have⟨K,L⟩:=U.I;clear c;go_simp;refine I.out _ _ ?_;simp only[S7];exact⟨r,s,t,J,M,E,f1,f2,f3,f5,F,λ_=>rfl,λ_=>rfl,H,A,C,D,j,B,d,(f.val _),i,m,n,o,N,O,R,V⟩
  .clear c;go_simp;refine I.out _ _ ?_;simp only[S7];exact⟨r,s,t,J,M,E,f1,f2,f3,f5,F,G,u,λ_=>rfl,A,C,D,j,B,d,f,i,m,n,o,N,O,R,V⟩
  .obtain rfl:=eH (k:=9) c Tj;obtain rfl:=H rfl;clear c;go_simp;refine I.out _ _ ?_;simp only[S7];exact⟨r,s,t,J,M,E,f1,f2,f3,f5,F,G,u,λ_=>rfl,λ_=>rfl,C,D,j,B,d,f,i,m,n,o,N,O,R,V⟩
  .obtain rfl:=eH (k:=10) c Tj;obtain rfl:=A rfl;clear c;go_simp;refine I.out _ _ ?_;simp only[S7];exact⟨r,s,t,J,M,E,f1,f2,f3,f5,F,G,u,H,λ_=>rfl,λ_=>rfl,D,j,B,d,f,i,m,n,o,N,O,R,V⟩
  .obtain rfl:=eH (k:=11) c Tj;obtain rfl:=C rfl;have U:=X.G B p;have⟨K,L⟩:=U.I;clear c;go_simp;refine I.out _ _ ?_;simp only[S7];exact⟨r,s,t,J,M,E,f1,f2,f3,f5,F,G,u,H,A,λ_=>rfl,λ_=>rfl,j,B,d,f,i,m,n,o,N,O,R,V⟩
  .obtain rfl:=eH (k:=12) c Tj;obtain rfl:=D rfl;clear c;go_simp;go_wp2_with (first|(go_at_call 208;refine(hW _).V ?_;rintro e w3 ⟨rfl,T⟩))
   refine I.out _ _ ?_;simp only[S7];exact⟨r,s,t,J,M,E,f1,f2,f3,f5,F,G,u,H,A,C,λ_=>rfl,λ_=>rfl,(dL B T),(d.G T),(f.G T),((i.G T).val _),m,n,o,N,O,R,(λe=>⟨(V e).1.mV (λb q l=>⟨q,T.block b l⟩),(V e).2.1,aL (V e).2.2 T.size⟩)⟩
  .clear c;go_simp;refine I.out _ _ ?_;simp only[S7];exact⟨W.heap.size,s,t,J,M,E,f1,f2,f3,f5,F,G,u,H,A,C,D,j,(B.alloc B.size _),(d.new B.size _),(f.alloc _),(i.alloc _),(ve.new1 f),(ve.new1 i),o,(λ_ e=> .inr (V e).2.2),O,R,(λe=>⟨(V e).1.mV (λb q l=>⟨q,(Tc W _).block b l⟩),(V e).2.1,aL (V e).2.2 (Tc W _).size⟩)⟩
  .clear c;go_simp;refine I.out _ _ ?_;simp only[S7];exact⟨r,W.heap.size,t,J,M,E,f1,f2,f3,f5,F,G,u,H,A,C,D,j,(B.alloc B.size _),(d.alloc _),(f.new B.size _),(i.alloc _),(ve.new2 d),n,(ve.new1 i),N,(λ_ e=> .inr (V e).2.2),R,(λe=>⟨(V e).1.mV (λb q l=>⟨q,(Tc W _).block b l⟩),(V e).2.1,aL (V e).2.2 (Tc W _).size⟩)⟩
  .clear c;go_simp;refine I.out _ _ ?_;simp only[S7];exact⟨r,s,W.heap.size,J,M,E,f1,f2,f3,f5,F,G,u,H,A,C,D,j,(B.alloc B.size _),(d.alloc _),(f.alloc _),(i.new B.size _),m,(ve.new2 d),(ve.new2 f),N,O,(λ_ e=> .inr (V e).2.2),(λe=>⟨(V e).1.mV (λb q l=>⟨q,(Tc W _).block b l⟩),(V e).2.1,aL (V e).2.2 (Tc W _).size⟩)⟩
  .obtain rfl:=eH (k:=14) c Tj;obtain rfl:=eH (k:=4) c Tj;obtain⟨rfl,x,a⟩:=d.made rfl;have⟨L,p,K⟩:=kY a;obtain⟨K,a,rfl⟩:=(V rfl).1.form;clear c;go_simp;refine I.out _ _ ?_;simp only[S7];exact⟨r,s,t,J,M,E,f1,f2,f3,f5,F,G,u,H,A,C,D,j,(B.setCell (p:=(ai r 0)) x _),d.store,(f.other (λe=>m rfl e) _),(i.other (λe=>n rfl e) _),m,n,o,N,O,R,(λe=>⟨(V e).1.mV (λb q l=>⟨q,eO (by have:=N rfl e;omega)⟩),(V e).2.1,by simpa using(V e).2.2⟩)⟩
  .obtain rfl:=eH (k:=15) c Tj;obtain rfl:=eH (k:=8) c Tj;obtain⟨rfl,y,x⟩:=f.made rfl;have⟨U,L,S⟩:=kY x;obtain rfl:=u rfl;clear c;go_simp;refine I.out _ _ ?_;simp only[S7];exact⟨r,s,t,J,M,E,f1,f2,f3,f5,F,G,λ_=>rfl,H,A,C,D,j,(B.setCell (p:=(ai s 0)) y _),(d.other (λe=>m.sy rfl e) _),f.store,(i.other (λe=>o rfl e) _),m,n,o,N,O,R,(λe=>⟨(V e).1.mV (λb q l=>⟨q,eO (by have:=O rfl e;omega)⟩),(V e).2.1,by simpa using(V e).2.2⟩)⟩
  .obtain rfl:=eH (k:=16) c Tj;obtain rfl:=eH (k:=13) c Tj;obtain⟨rfl,z,k⟩:=i.made rfl;have⟨L,x,y⟩:=kY k;obtain rfl:=j rfl;clear c;go_simp;refine I.out _ _ ?_;simp only[S7];exact⟨r,s,t,J,M,E,f1,f2,f3,f5,F,G,u,H,A,C,D,λ_=>rfl,(B.setCell (p:=(ai t 0)) z _),(d.other (λe=>n.sy rfl e) _),(f.other (λe=>o.sy rfl e) _),i.store,m,n,o,N,O,R,(λe=>⟨(V e).1.mV (λb q l=>⟨q,eO (by have:=R rfl e;omega)⟩),(V e).2.1,by simpa using(V e).2.2⟩)⟩
 case rest=>
  obtain⟨vb,nb,ab,vv,rfl,rfl,rfl,c,d,e,Z,f,i,j,T⟩:=hcut;obtain⟨K,a,rfl⟩:=Z.form;go_wp2;go_ret;exact⟨_,rfl,⟨_,_,_,_,rfl,by rw[TX];exact e,d,c,Z,hQ _ j,hQ _ i,hQ _ f⟩,T⟩
end
inductive Sk (w:aw)(mp:am)(g:GF)(fb:Nat)(pq:aC)(W:aw):Array Bool->Act->Prop where
 |mk {l0 l1 l2 l3 l4 l5 l6 l7 l8 l9 l10 Tz Tw Tx Ty TK TL TM:Bool} {t3 t4 t5 t6 t7 t8 t9 TA TB TC TD TE TF TG TH:Value} (bP bQ bR:Nat) (nt kt:Int) (fm fw:Nat) (cm cw:aq) (f0:l0=true->t6=ag fb) (f1:l1=true->t7= .agg #[aa nt,aa kt]) (f2:l2=true->t8=ag fb) (f3:l3=true->t9=ag fb) (f4:l4=true->TA= .pointer (some (ai fb 2))) (f5:l5=true->TB= .agg #[aa (eG mp g),.pointer pq]) (f6:l6=true->TC= .func (.func fm) #[] cm) (f7:l7=true->TD=ag fb) (f8:l8=true->TE=ag fb) (f9:l9=true->TF= .pointer (some (ai fb 2))) (Tr:l10=true->TG= .agg #[aa (eG mp g),.pointer pq]) (Ts:Tz=true->TH= .func (.func fw) #[] cw) (B:aj w W) (yP:By w.heap.size W Tw t3 bP 237 2) (yQ:By w.heap.size W Tx t4 bQ 262 1) (yR:By w.heap.size W Ty t5 bR 404 1):Sk w mp g fb pq W #[l0,l1,l2,l3,l4,l5,l6,l7,l8,l9,l10,Tz,Tw,Tx,Ty,TK,TL,TM] ⟨#[ag fb,undef,.nilFunc,t3,t4,t5,t6,t7,t8,t9,TA,TB,TC,TD,TE,TF,TG,TH,undef],[]⟩
section
variable (w:aw) (P:ax) (mp:am) (g:GF) (fb:Nat)
def vI (h:eR w P mp g fb):Calls prog 292 #[ag fb] w (mO w):=by
 have a:= @yG;have⟨a,b,X,_,d,c⟩:=h.blk;obtain⟨Z,rfl⟩:=g8 c;obtain⟨a,e,b,rfl⟩:=dO d.1
 have a:eG mp g<=16:=by
  unfold eG;split;.exact aD _
  .exact nP _ _
 have O:=X.lt;have N:∀W,aj w W->S9 231 #[ag fb] W λe w'=>∃n k,e= .returned (.agg #[aa n,aa k])/\Below W.heap.size W w':=λW f=>L9 W P mp g fb (h.O (λb _ i=>f.block b i))
 have b:=λW Y=>kD W (eG mp g) Z Y a
 have n:=λW Y=>qL W 293 (.inr rfl) (eG mp g) Z Y a
 clear c d h;go_in
 go_upto_region 1 with fail
 go_cut [3,4,5]from 6 to 17 (λx y z a=>∃p q r,x= .pointer p/\y= .pointer q/\z= .pointer r/\aj w a)
 case first=>
  refine li (λL a W=>Sk w mp g fb Z W L a) Tj ⟨0,0,0,0,0,0,0,#[],#[],nofun,nofun,nofun,nofun,nofun,nofun,nofun,nofun,nofun,nofun,nofun,nofun,(Below.refl _ _).drew,nofun,nofun,nofun⟩ Tj ?_ ?_
  .rintro L a W @⟨l0,l1,l2,l3,l4,l5,l6,l7,l8,l9,z,Tz,c,x,y,Z,TL,TM,t3,t4,t5,t6,t7,t8,t9,I,K,Q,R,S,T,U,Y,d,f,i,M,J,G,H,t,u,v,f1,f2,f3,A,f5,C,D,E,F,o,s,B,j,l,m⟩ V;obtain rfl:c=true:=V 12 Th;obtain rfl:x=true:=V 13 Th;obtain rfl:y=true:=V 14 Th;obtain⟨rfl,_⟩:=j rfl;obtain⟨rfl,_⟩:=l rfl;obtain⟨rfl,_⟩:=m rfl;go_wp2;go_meet
   case rel=>exact⟨_,_,_,rfl,rfl,rfl,B⟩
  refine .cons ?_ (.cons ?_ (.cons ?_ (.cons ?_ (.cons ?_ (.cons ?_ (.cons ?_ (.cons ?_ (.cons ?_ (.cons ?_ (.cons ?_ (.cons ?_ (.cons ?_ (.cons ?_ (.cons ?_ (.cons ?_ (.cons ?_ (.cons ?_ .nil)))))))))))))))))
  all_goals
   rintro L a W ⟨d,f,i,M,J,G,H,t,u,v,f1,f2,f3,A,f5,C,D,E,F,o,s,B,j,l,m⟩ x c K I;subst x
  .clear c;go_simp;refine I.out _ _ ?_;simp only[S7];exact⟨d,f,i,M,J,G,H,t,u,λ_=>rfl,f1,f2,f3,A,f5,C,D,E,F,o,s,B,j,l,m⟩
  .obtain rfl:=eH (k:=0) c Tj;obtain rfl:=v rfl;clear c;go_simp;go_wp2_with (first|(go_at_call 231;refine(N _ B).V ?_;rintro e w2 ⟨x,a,rfl,Q⟩))
   refine I.out _ _ ?_;simp only[S7];exact⟨d,f,i,x,a,G,H,t,u,λ_=>rfl,λ_=>rfl,f2,f3,A,f5,C,D,E,F,o,s,(dL B Q),(j.G Q),(l.G Q),(m.G Q)⟩
  .clear c;go_simp;refine I.out _ _ ?_;simp only[S7];exact⟨d,f,i,M,J,G,H,t,u,v,f1,λ_=>rfl,f3,A,f5,C,D,E,F,o,s,B,j,l,m⟩
  .obtain rfl:=eH (k:=2) c Tj;obtain rfl:=f2 rfl;clear c;go_simp;refine I.out _ _ ?_;simp only[S7];exact⟨d,f,i,M,J,G,H,t,u,v,f1,λ_=>rfl,λ_=>rfl,A,f5,C,D,E,F,o,s,B,j,l,m⟩
  .obtain rfl:=eH (k:=3) c Tj;obtain rfl:=f3 rfl;clear c;go_simp;refine I.out _ _ ?_;simp only[S7];exact⟨d,f,i,M,J,G,H,t,u,v,f1,f2,λ_=>rfl,λ_=>rfl,f5,C,D,E,F,o,s,B,j,l,m⟩
  .obtain rfl:=eH (k:=4) c Tj;obtain rfl:=A rfl;have U:=X.G B O;have⟨S,T⟩:=U.I;clear c;go_simp;refine I.out _ _ ?_;simp only[S7];exact⟨d,f,i,M,J,G,H,t,u,v,f1,f2,f3,λ_=>rfl,λ_=>rfl,C,D,E,F,o,s,B,j,l,m⟩
  .obtain rfl:=eH (k:=5) c Tj;obtain rfl:=f5 rfl;clear c;go_simp;go_wp2_with (first|(go_at_call 289;refine(b _ _).V ?_;rintro e w3 ⟨x,a,rfl,N⟩))
   refine I.out _ _ ?_;simp only[S7];exact⟨d,f,i,M,J,x,H,a,u,v,f1,f2,f3,A,λ_=>rfl,λ_=>rfl,D,E,F,o,s,(dL B N),(j.G N),(l.G N),(m.G N)⟩
  .clear c;go_simp;refine I.out _ _ ?_;simp only[S7];exact⟨d,f,i,M,J,G,H,t,u,v,f1,f2,f3,A,f5,C,λ_=>rfl,E,F,o,s,B,j,l,m⟩
  .obtain rfl:=eH (k:=7) c Tj;obtain rfl:=D rfl;clear c;go_simp;refine I.out _ _ ?_;simp only[S7];exact⟨d,f,i,M,J,G,H,t,u,v,f1,f2,f3,A,f5,C,λ_=>rfl,λ_=>rfl,F,o,s,B,j,l,m⟩
  .obtain rfl:=eH (k:=8) c Tj;obtain rfl:=E rfl;clear c;go_simp;refine I.out _ _ ?_;simp only[S7];exact⟨d,f,i,M,J,G,H,t,u,v,f1,f2,f3,A,f5,C,D,λ_=>rfl,λ_=>rfl,o,s,B,j,l,m⟩
  .obtain rfl:=eH (k:=9) c Tj;obtain rfl:=F rfl;have U:=X.G B O;have⟨S,T⟩:=U.I;clear c;go_simp;refine I.out _ _ ?_;simp only[S7];exact⟨d,f,i,M,J,G,H,t,u,v,f1,f2,f3,A,f5,C,D,E,λ_=>rfl,λ_=>rfl,s,B,j,l,m⟩
  .obtain rfl:=eH (k:=10) c Tj;obtain rfl:=o rfl;clear c;go_simp;go_wp2_with (first|(go_at_call 293;refine(n _ _).V ?_;rintro e x ⟨b,a,rfl,R⟩))
   refine I.out _ _ ?_;simp only[S7];exact⟨d,f,i,M,J,G,b,t,a,v,f1,f2,f3,A,f5,C,D,E,F,λ_=>rfl,λ_=>rfl,(dL B R),(j.G R),(l.G R),(m.G R)⟩
  .clear c;go_simp;refine I.out _ _ ?_;simp only[S7];exact⟨W.heap.size,f,i,M,J,G,H,t,u,v,f1,f2,f3,A,f5,C,D,E,F,o,s,(B.alloc B.size _),(By.new B.size Tk),(l.alloc _),(m.alloc _)⟩
  .clear c;go_simp;refine I.out _ _ ?_;simp only[S7];exact⟨d,W.heap.size,i,M,J,G,H,t,u,v,f1,f2,f3,A,f5,C,D,E,F,o,s,(B.alloc B.size _),(j.alloc _),(By.new B.size Tk),(m.alloc _)⟩
  .clear c;go_simp;refine I.out _ _ ?_;simp only[S7];exact⟨d,f,W.heap.size,M,J,G,H,t,u,v,f1,f2,f3,A,f5,C,D,E,F,o,s,(B.alloc B.size _),(j.alloc _),(l.alloc _),(By.new B.size Tk)⟩
  .obtain rfl:=eH (k:=12) c Tj;obtain rfl:=eH (k:=1) c Tj;obtain rfl:=f1 rfl;have e:=j;obtain⟨rfl,a,cs,O,b⟩:=j rfl;obtain⟨u1,u2,rfl⟩:=Re O;have⟨S,T⟩:=b.I;clear c;go_simp;refine I.out _ _ ?_;simp only[S7];exact⟨d,f,i,M,J,G,H,t,u,v,λ_=>rfl,f2,f3,A,f5,C,D,E,F,o,s,((B.setCell (p:=(ai d 0)) a _).setCell (p:=(ai d 1)) a _),((e.set d 0 _).set d 1 _),((l.set d 0 _).set d 1 _),((m.set d 0 _).set d 1 _)⟩
  .obtain rfl:=eH (k:=13) c Tj;obtain rfl:=eH (k:=6) c Tj;obtain rfl:=C rfl;have b:=l;obtain⟨rfl,e,cs,O,a⟩:=l rfl;obtain⟨u1,rfl⟩:=OO O;have⟨S,T⟩:=a.I;clear c;go_simp;refine I.out _ _ ?_;simp only[S7];exact⟨d,f,i,M,J,G,H,t,u,v,f1,f2,f3,A,f5,λ_=>rfl,D,E,F,o,s,(B.setCell (p:=(ai f 0)) e _),(j.set f 0 _),(b.set f 0 _),(m.set f 0 _)⟩
  .obtain rfl:=eH (k:=14) c Tj;obtain rfl:=eH (k:=11) c Tj;obtain rfl:=s rfl;have b:=m;obtain⟨rfl,e,cs,O,a⟩:=m rfl;obtain⟨u1,rfl⟩:=OO O;have⟨S,T⟩:=a.I;clear c;go_simp;refine I.out _ _ ?_;simp only[S7];exact⟨d,f,i,M,J,G,H,t,u,v,f1,f2,f3,A,f5,C,D,E,F,o,λ_=>rfl,(B.setCell (p:=(ai i 0)) e _),(j.set i 0 _),(l.set i 0 _),(b.set i 0 _)⟩
 case rest=>
  obtain⟨p,q,r,rfl,rfl,rfl,N⟩:=hcut;go_wp2;go_ret;exact⟨_,_,rfl,N⟩
end
end
end Go.Proofs.YtfebdimolnobaaaGreatDoor
