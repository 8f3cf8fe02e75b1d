import Derived.Test.YtfebdimolnobaaaGreatDoorEpC
import Derived.Test.YtfebdimolnobaaaGreatDoorEsB
set_option maxRecDepth 100000
set_option maxHeartbeats 8000000
set_option linter.all false
namespace Go.Proofs.YtfebdimolnobaaaGreatDoor
open Go.RowKit
section
attribute [local go_sem↓] Go.wp_at_zero Go.wp_at_succ
inductive NB (w:an)(mp:am->Option Nat)(g:GF)(fb:Nat)(pq iq:aw)(W:an):Array Bool->Act->Prop where
 |mk {l0 l1 l2 l3 l4 l5 l6 l7 l8 l9 l10 Oh:Bool} {t5 t6 Ot Oo Ou Ov Ow Ox Oq OG:Value} (bP bQ:Nat) (m1 m2:Nat) (f0:l0=true->Ot=ag fb) (f1:l1=true->Oo= .agg #[aa g.f.num,aa (vX mp g)]) (f2:l2=true->Ou=ag fb) (f3:l3=true->Ov=ag fb) (f4:l4=true->Ow= .pointer (some (ai fb 2))) (f5:l5=true->Ox= .agg #[aa (dC mp g),.pointer pq]) (f6:l6=true->Oq= .pointer iq) (B:aj w W) (xP:Bz (w.heap.size) W l8 l10 t5 bP 237 (aa g.f.num) (aa (vX mp g))) (xQ:Bx (w.heap.size) W l9 Oh l7 t6 bQ 404 OG) (N2:lA l8 l9 bP bQ) (N3:DJ l8 l7 bP m1 m2) (N7:DJ l9 l7 bQ m1 m2) (V:l7=true->rH W (fun b=>m1<=b/\b<m2) (dC mp g) iq OG/\w.heap.size<=m1/\m2<=W.heap.size):NB w mp g fb pq iq W #[l0,l1,l2,l3,l4,l5,l6,l7,l8,l9,l10,Oh] ⟨#[ag fb,.pointer iq,undef,undef,.nilFunc,t5,t6,ag fb,.bool false,undef,undef,Ot,Oo,Ou,Ov,Ow,Ox,Oq,OG,undef],[]⟩
inductive NC (w:an)(mp:am->Option Nat)(g:GF)(fb:Nat)(pq:aw)(W:an):Array Bool->Act->Prop where
 |mk {l0 l1 l2 l3 l4 l5 l6 l7 l8 l9 l10 Oh Ok Ol Om OD OE OF:Bool} {t3 t4 t5 t6 t7 t8 t9 OL Ot Oo Ou Ov Ow Ox Oq:Value} (bP bQ bR:Nat) (m1 m2:Nat) (n1 n2:Nat) (f0:l0=true->t6=ag fb) (f1:l1=true->t7= .agg #[aa g.f.num,aa (vX mp g)]) (f2:l2=true->t8=ag fb) (f3:l3=true->t9=ag fb) (f4:l4=true->OL= .pointer (some (ai fb 2))) (f5:l5=true->Ot= .agg #[aa (dC mp g),.pointer pq]) (f7:l7=true->Ou=ag fb) (f8:l8=true->Ov=ag fb) (f9:l9=true->Ow= .pointer (some (ai fb 2))) (Od:l10=true->Ox= .agg #[aa (dC mp g),.pointer pq]) (B:aj w W) (xP:Bz (w.heap.size) W Ok OD t3 bP 237 (aa g.f.num) (aa (vX mp g))) (xQ:Bx (w.heap.size) W Ol OE l6 t4 bQ 262 Oo) (xR:Bx (w.heap.size) W Om OF Oh t5 bR 404 Oq) (N2:lA Ok Ol bP bQ) (Oa:lA Ok Om bP bR) (Ob:lA Ol Om bQ bR) (Oc:DJ Ok l6 bP m1 m2) (Oe:DJ Ol l6 bQ m1 m2) (Of:DJ Om l6 bR m1 m2) (A:l6=true->rG W (fun b=>m1<=b/\b<m2) (dC mp g) none Oo/\w.heap.size<=m1/\m2<=W.heap.size) (N3:DJ Ok Oh bP n1 n2) (N7:DJ Ol Oh bQ n1 n2) (Og:DJ Om Oh bR n1 n2) (V:Oh=true->rH W (fun b=>n1<=b/\b<n2) (dC mp g) none Oq/\w.heap.size<=n1/\n2<=W.heap.size):NC w mp g fb pq W #[l0,l1,l2,l3,l4,l5,l6,l7,l8,l9,l10,Oh,Ok,Ol,Om,OD,OE,OF] ⟨#[ag fb,undef,.nilFunc,t3,t4,t5,t6,t7,t8,t9,OL,Ot,Oo,Ou,Ov,Ow,Ox,Oq,undef],[]⟩
section
variable (w:an) (P:ap) (mp:am->Option Nat) (g:GF) (fb:Nat) (iq:aw)
theorem BC (h:dP w P mp g fb)(hp:fG mp g=false):Calls Tryz.prog 212 #[ag fb,.pointer iq] w (g8 w fun w' v=>Ab w' (fun b=>w.heap.size<=b) mp g iq v):=by
 have hq:=jW w P mp g fb h;rw[hp]at hq;have OQ:= @rh;have OB:=jA mp g;go_enter Tryz.func212,Tryz.ntmps212
 go_wp2_with fail
 refine hq.mono ?_;rintro e wb ⟨rfl,b0⟩;have h:=h.keep (w':=wb) (fun b _ hl=>b0.block b hl);obtain⟨pv,rv,h1,_,Oi,Oz⟩:=h.blk;obtain⟨pq,rfl⟩:=eT Oz;obtain⟨ra,rn,rc,rfl⟩:=df Oi.1;have OC:=h1.lt;have hT:∀W,Below wb.heap.size wb W->Calls Tryz.prog 231 #[ag fb] W fun e w'=>e= .returned (.agg #[aa g.f.num,aa (vX mp g)])/\Below W.heap.size W w':=fun W hW=>tS W P mp g fb (h.keep (fun b _ hl=>hW.block b hl))
 have OH:=fun W=>nL W (dC mp g) pq iq OB
 have yb:=b0.size;clear Oz Oi h hq;go_upto_region 3 with fail
 go_cut [5,6]from 11 to 18 (fun x y wx=>∃tb vb vv,x=ag tb/\y=ag vb/\de wx tb #[aa g.f.num,aa (vX mp g)] 237/\de wx vb #[vv] 404/\rH wx (fun b=>wb.heap.size<=b) (dC mp g) iq vv/\wb.heap.size<=tb/\wb.heap.size<=vb/\Below wb.heap.size wb wx)
 case first=>
  refine iC (fun L a W=>NB wb mp g fb pq iq W L a) (by kernel_rfl) ⟨0,0,0,0,nofun,nofun,nofun,nofun,nofun,nofun,nofun,(Below.refl _ _).drew,Bz.start,Bx.start,nofun,nofun,nofun,nofun⟩ (by kernel_rfl) ?_ ?_
  ·rintro L a W @⟨l0,l1,l2,l3,l4,l5,l6,l7,l8,l9,l10,Oh,t5,t6,Ot,Oo,Ou,Ov,Ow,Ox,Oq,OG,bP,bQ,m1,m2,f0,f1,f2,f3,f4,f5,f6,B,xP,xQ,N2,N3,N7,V⟩ N8;obtain rfl:l1=true:=N8 1 (by decide);obtain rfl:l7=true:=N8 7 (by decide);obtain rfl:l8=true:=N8 8 (by decide);obtain rfl:l9=true:=N8 9 (by decide);obtain rfl:l10=true:=N8 10 (by decide);obtain rfl:Oh=true:=N8 11 (by decide);obtain⟨rfl,zP,_⟩:=xP.made rfl;obtain⟨rfl,zQ,_⟩:=xQ.made rfl;obtain⟨v1,v2,v3⟩:=V rfl;have KP:=xP.put rfl;have KQ:=xQ.put rfl;go_wp2;go_meet
   case rel=>exact⟨_,_,_,rfl,rfl,KP,KQ,v1.move (fun b q l=>⟨aG v2 q.1,rfl⟩),zP,zQ,B⟩
  refine .cons ?_ (.cons ?_ (.cons ?_ (.cons ?_ (.cons ?_ (.cons ?_ (.cons ?_ (.cons ?_ (.cons ?_ (.cons ?_ (.cons ?_ (.cons ?_ (.nil))))))))))))
  all_goals
   rintro L a W ⟨bP,bQ,m1,m2,f0,f1,f2,f3,f4,f5,f6,B,xP,xQ,N2,N3,N7,V⟩ h0 hd K hK;subst h0
  ·clear hd;go_simp;refine hK.out _ _ ?_;simp only[NZ];exact⟨bP,bQ,m1,m2,fun _=>rfl,f1,f2,f3,f4,f5,f6,B,xP,xQ,N2,N3,N7,V⟩
  ·obtain rfl:=dK (k:=0) hd (by kernel_rfl);obtain rfl:=f0 rfl;clear hd;go_simp;go_wp2_with (first|(go_at_call 231;refine(hT _ B).mono ?_;rintro e w2 ⟨rfl,b2⟩))
   refine hK.out _ _ ?_;simp only[NZ];exact⟨bP,bQ,m1,m2,fun _=>rfl,fun _=>rfl,f2,f3,f4,f5,f6,(cY B b2),(xP.below b2),(xQ.below b2),N2,N3,N7,(fun e=>⟨(V e).1.move (fun b q l=>⟨q,b2.block b l⟩),(V e).2.1,aG (V e).2.2 b2.size⟩)⟩
  ·clear hd;go_simp;refine hK.out _ _ ?_;simp only[NZ];exact⟨bP,bQ,m1,m2,f0,f1,fun _=>rfl,f3,f4,f5,f6,B,xP,xQ,N2,N3,N7,V⟩
  ·obtain rfl:=dK (k:=2) hd (by kernel_rfl);obtain rfl:=f2 rfl;clear hd;go_simp;refine hK.out _ _ ?_;simp only[NZ];exact⟨bP,bQ,m1,m2,f0,f1,fun _=>rfl,fun _=>rfl,f4,f5,f6,B,xP,xQ,N2,N3,N7,V⟩
  ·obtain rfl:=dK (k:=3) hd (by kernel_rfl);obtain rfl:=f3 rfl;clear hd;go_simp;refine hK.out _ _ ?_;simp only[NZ];exact⟨bP,bQ,m1,m2,f0,f1,f2,fun _=>rfl,fun _=>rfl,f5,f6,B,xP,xQ,N2,N3,N7,V⟩
  ·obtain rfl:=dK (k:=4) hd (by kernel_rfl);obtain rfl:=f4 rfl;have KF:=h1.below B OC;obtain⟨k1,k2⟩:=KF.rules;clear hd;go_simp;refine hK.out _ _ ?_;simp only[NZ];exact⟨bP,bQ,m1,m2,f0,f1,f2,f3,fun _=>rfl,fun _=>rfl,f6,B,xP,xQ,N2,N3,N7,V⟩
  ·clear hd;go_simp;refine hK.out _ _ ?_;simp only[NZ];exact⟨bP,bQ,m1,m2,f0,f1,f2,f3,f4,f5,fun _=>rfl,B,xP,xQ,N2,N3,N7,V⟩
  ·obtain rfl:=dK (k:=5) hd (by kernel_rfl);obtain rfl:=dK (k:=6) hd (by kernel_rfl);obtain rfl:=f5 rfl;obtain rfl:=f6 rfl;clear hd;go_simp;go_wp2_with (first|(go_at_call 293;refine(OH _).mono ?_;rintro e w4 ⟨vv,rfl,OI,b4⟩))
   refine hK.out _ _ ?_;simp only[NZ];exact⟨bP,bQ,W.heap.size,w4.heap.size,f0,f1,f2,f3,f4,fun _=>rfl,fun _=>rfl,(cY B b4),(xP.below b4),((xQ.below b4).val _),N2,(fun e _=> .inl (xP.lt e)),(fun e _=> .inl (xQ.lt e)),(fun _=>⟨OI.move (fun b q l=>⟨⟨q,l⟩,rfl⟩),B.size,ay _⟩)⟩
  ·clear hd;go_simp;refine hK.out _ _ ?_;simp only[NZ];exact⟨W.heap.size,bQ,m1,m2,f0,f1,f2,f3,f4,f5,f6,(B.alloc B.size _),(xP.new B.size _ _),(xQ.alloc _),(lA.lt1 xQ.lt),(fun _ e=> .inr (V e).2.2),N7,(fun e=>⟨(V e).1.move (fun b q l=>⟨q,((Below.refl W.heap.size W).alloc (ay _) _).block b l⟩),(V e).2.1,aG (V e).2.2 ((Below.refl W.heap.size W).alloc (ay _) _).size⟩)⟩
  ·clear hd;go_simp;refine hK.out _ _ ?_;simp only[NZ];exact⟨bP,W.heap.size,m1,m2,f0,f1,f2,f3,f4,f5,f6,(B.alloc B.size _),(xP.alloc _),(xQ.new B.size _),(lA.lt1 xP.lt).symm,N3,(fun _ e=> .inr (V e).2.2),(fun e=>⟨(V e).1.move (fun b q l=>⟨q,((Below.refl W.heap.size W).alloc (ay _) _).block b l⟩),(V e).2.1,aG (V e).2.2 ((Below.refl W.heap.size W).alloc (ay _) _).size⟩)⟩
  ·obtain rfl:=dK (k:=8) hd (by kernel_rfl);obtain rfl:=dK (k:=1) hd (by kernel_rfl);obtain⟨rfl,zP,OS,OT,yP⟩:=xP.made rfl;obtain⟨cP,kP⟩:=yP.rules;obtain rfl:=f1 rfl;clear hd;go_simp;refine hK.out _ _ ?_;simp only[NZ];exact⟨bP,bQ,m1,m2,f0,fun _=>rfl,f2,f3,f4,f5,f6,((B.setCell (p:=(ai bP 0)) zP _).setCell (p:=(ai bP 1)) zP _),xP.store,((xQ.oth (fun e=>N2 rfl e) 0 _).oth (fun e=>N2 rfl e) 1 _),N2,N3,N7,(fun e=>⟨(V e).1.move (fun b q l=>⟨q,(dp (by have:=N3 rfl e;omega)).trans (dp (by have:=N3 rfl e;omega))⟩),(V e).2.1,by simpa using(V e).2.2⟩)⟩
  ·obtain rfl:=dK (k:=9) hd (by kernel_rfl);obtain rfl:=dK (k:=7) hd (by kernel_rfl);obtain⟨rfl,zQ,yQ⟩:=xQ.made rfl;obtain⟨wQ,cQ,kQ⟩:=fQ yQ;obtain⟨vf,Oj,⟨rfl,Oy⟩,OO⟩:=(V rfl).1;clear hd;go_simp;refine hK.out _ _ ?_;simp only[NZ];exact⟨bP,bQ,m1,m2,f0,f1,f2,f3,f4,f5,f6,(B.setCell (p:=(ai bQ 0)) zQ _),(xP.oth (fun e=>N2.symm rfl e) 0 _),xQ.store,N2,N3,N7,(fun e=>⟨(V e).1.move (fun b q l=>⟨q,dp (by have:=N7 rfl e;omega)⟩),(V e).2.1,by simpa using(V e).2.2⟩)⟩
 case rest=>
  obtain⟨tb,vb,vv,rfl,rfl,KP,KQ,⟨vf,Oj,⟨rfl,Oy⟩,hv⟩,zP,zQ,b3⟩:=hcut;go_wp2;go_ret;refine⟨_,rfl,⟨294,[ag tb,ag vb],⟨rfl,enters_of Tryz.func294 (by kernel_rfl) rfl⟩,fun S d fl n N W hK hq hN fg OJ OP=> ?_⟩,cY b0 b3⟩;have K1:=hK.bx (by omega) KP;have K2:=hK.bx (by omega) KQ;have L:=hv S fl n N W (hK.less fun b q=>by omega) (fun b q l=>hq b (by omega) l) hN fg.gb.symm OP;rw[fg.eq,fg.tk]at K1;rw[fg.pk]at hp;have hk:=qf mp g;rw[fg.tk]at hk;have:=IG tb vb vf Oj fl.num (mM S fl) hN K1 K2 (hq tb (by omega) KP.lt) (hq vb (by omega) KQ.lt) OJ hk Oy L
  exact fun W' Z vv l k b l0 B q1 q2 q3 q4 q5 q6=>by
   have e:iW S (dD S n) fl l=l.flatMap fun v=>gP fl.num (mM S fl)++eV S (dD S n) fl v:=by unfold iW;rw[if_neg (by rw[hp];simp)]
   rw[e]at q6⊢;exact this W' Z vv l k b l0 B q1 q2 q3 q4 q5 q6
end
section
variable (w:an) (P:ap) (mp:am->Option Nat) (g:GF) (fb:Nat) (iq:aw)
theorem r9 (h:dP w P mp g fb)(hp:fG mp g=true):Calls Tryz.prog 292 #[ag fb] w (g8 w fun w' v=>Ab w' (fun b=>w.heap.size<=b) mp g iq v):=by
 have OQ:= @rh;obtain⟨pv,rv,h1,_,Oi,Oz⟩:=h.blk;obtain⟨pq,rfl⟩:=eT Oz;obtain⟨ra,rn,rc,rfl⟩:=df Oi.1;have OB:=jA mp g;have OC:=h1.lt;have hT:∀W,aj w W->Calls Tryz.prog 231 #[ag fb] W fun e w'=>e= .returned (.agg #[aa g.f.num,aa (vX mp g)])/\Below W.heap.size W w':=fun W hW=>tS W P mp g fb (h.keep (fun b _ hl=>hW.block b hl))
 have OR:=fun W=>ld W (dC mp g) pq none OB
 have OH:=fun W=>nL W (dC mp g) pq none OB
 clear Oz Oi h;go_enter Tryz.func292,Tryz.ntmps292
 go_upto_region 1 with fail
 go_cut [3,4,5]from 6 to 17 (fun x y z wx=>∃tb ab vb av vv,x=ag tb/\y=ag ab/\z=ag vb/\de wx tb #[aa g.f.num,aa (vX mp g)] 237/\de wx ab #[av] 262/\de wx vb #[vv] 404/\rG wx (fun b=>w.heap.size<=b) (dC mp g) none av/\rH wx (fun b=>w.heap.size<=b) (dC mp g) none vv/\w.heap.size<=tb/\w.heap.size<=ab/\w.heap.size<=vb/\aj w wx)
 case first=>
  refine iC (fun L a W=>NC w mp g fb pq W L a) (by kernel_rfl) ⟨0,0,0,0,0,0,0,nofun,nofun,nofun,nofun,nofun,nofun,nofun,nofun,nofun,nofun,(Below.refl _ _).drew,Bz.start,Bx.start,Bx.start,nofun,nofun,nofun,nofun,nofun,nofun,nofun,nofun,nofun,nofun,nofun⟩ (by kernel_rfl) ?_ ?_
  ·rintro L a W @⟨l0,l1,l2,l3,l4,l5,l6,l7,l8,l9,l10,Oh,Ok,Ol,Om,OD,OE,OF,t3,t4,t5,t6,t7,t8,t9,OL,Ot,Oo,Ou,Ov,Ow,Ox,Oq,bP,bQ,bR,m1,m2,n1,n2,f0,f1,f2,f3,f4,f5,f7,f8,f9,Od,B,xP,xQ,xR,N2,Oa,Ob,Oc,Oe,Of,A,N3,N7,Og,V⟩ N8;obtain rfl:l1=true:=N8 1 (by decide);obtain rfl:l6=true:=N8 6 (by decide);obtain rfl:Oh=true:=N8 11 (by decide);obtain rfl:Ok=true:=N8 12 (by decide);obtain rfl:Ol=true:=N8 13 (by decide);obtain rfl:Om=true:=N8 14 (by decide);obtain rfl:OD=true:=N8 15 (by decide);obtain rfl:OE=true:=N8 16 (by decide);obtain rfl:OF=true:=N8 17 (by decide);obtain⟨rfl,zP,_⟩:=xP.made rfl;obtain⟨rfl,zQ,_⟩:=xQ.made rfl;obtain⟨rfl,zR,_⟩:=xR.made rfl;obtain⟨a1,a2,a3⟩:=A rfl;obtain⟨v1,v2,v3⟩:=V rfl;have KP:=xP.put rfl;have KQ:=xQ.put rfl;have KR:=xR.put rfl;go_wp2;go_meet
   case rel=>exact⟨_,_,_,_,_,rfl,rfl,rfl,KP,KQ,KR,a1.move (fun b q l=>⟨aG a2 q.1,rfl⟩),v1.move (fun b q l=>⟨aG v2 q.1,rfl⟩),zP,zQ,zR,B⟩
  refine .cons ?_ (.cons ?_ (.cons ?_ (.cons ?_ (.cons ?_ (.cons ?_ (.cons ?_ (.cons ?_ (.cons ?_ (.cons ?_ (.cons ?_ (.cons ?_ (.cons ?_ (.cons ?_ (.cons ?_ (.cons ?_ (.cons ?_ (.cons ?_ (.nil))))))))))))))))))
  all_goals
   rintro L a W ⟨bP,bQ,bR,m1,m2,n1,n2,f0,f1,f2,f3,f4,f5,f7,f8,f9,Od,B,xP,xQ,xR,N2,Oa,Ob,Oc,Oe,Of,A,N3,N7,Og,V⟩ h0 hd K hK;subst h0
  ·clear hd;go_simp;refine hK.out _ _ ?_;simp only[NZ];exact⟨bP,bQ,bR,m1,m2,n1,n2,fun _=>rfl,f1,f2,f3,f4,f5,f7,f8,f9,Od,B,xP,xQ,xR,N2,Oa,Ob,Oc,Oe,Of,A,N3,N7,Og,V⟩
  ·obtain rfl:=dK (k:=0) hd (by kernel_rfl);obtain rfl:=f0 rfl;clear hd;go_simp;go_wp2_with (first|(go_at_call 231;refine(hT _ B).mono ?_;rintro e w2 ⟨rfl,b2⟩))
   refine hK.out _ _ ?_;simp only[NZ];exact⟨bP,bQ,bR,m1,m2,n1,n2,fun _=>rfl,fun _=>rfl,f2,f3,f4,f5,f7,f8,f9,Od,(cY B b2),(xP.below b2),(xQ.below b2),(xR.below b2),N2,Oa,Ob,Oc,Oe,Of,(fun e=>⟨(A e).1.move (fun b q l=>⟨q,b2.block b l⟩),(A e).2.1,aG (A e).2.2 b2.size⟩),N3,N7,Og,(fun e=>⟨(V e).1.move (fun b q l=>⟨q,b2.block b l⟩),(V e).2.1,aG (V e).2.2 b2.size⟩)⟩
  ·clear hd;go_simp;refine hK.out _ _ ?_;simp only[NZ];exact⟨bP,bQ,bR,m1,m2,n1,n2,f0,f1,fun _=>rfl,f3,f4,f5,f7,f8,f9,Od,B,xP,xQ,xR,N2,Oa,Ob,Oc,Oe,Of,A,N3,N7,Og,V⟩
  ·obtain rfl:=dK (k:=2) hd (by kernel_rfl);obtain rfl:=f2 rfl;clear hd;go_simp;refine hK.out _ _ ?_;simp only[NZ];exact⟨bP,bQ,bR,m1,m2,n1,n2,f0,f1,fun _=>rfl,fun _=>rfl,f4,f5,f7,f8,f9,Od,B,xP,xQ,xR,N2,Oa,Ob,Oc,Oe,Of,A,N3,N7,Og,V⟩
  ·obtain rfl:=dK (k:=3) hd (by kernel_rfl);obtain rfl:=f3 rfl;clear hd;go_simp;refine hK.out _ _ ?_;simp only[NZ];exact⟨bP,bQ,bR,m1,m2,n1,n2,f0,f1,f2,fun _=>rfl,fun _=>rfl,f5,f7,f8,f9,Od,B,xP,xQ,xR,N2,Oa,Ob,Oc,Oe,Of,A,N3,N7,Og,V⟩
  ·obtain rfl:=dK (k:=4) hd (by kernel_rfl);obtain rfl:=f4 rfl;have KF:=h1.below B OC;obtain⟨k1,k2⟩:=KF.rules;clear hd;go_simp;refine hK.out _ _ ?_;simp only[NZ];exact⟨bP,bQ,bR,m1,m2,n1,n2,f0,f1,f2,f3,fun _=>rfl,fun _=>rfl,f7,f8,f9,Od,B,xP,xQ,xR,N2,Oa,Ob,Oc,Oe,Of,A,N3,N7,Og,V⟩
  ·obtain rfl:=dK (k:=5) hd (by kernel_rfl);obtain rfl:=f5 rfl;clear hd;go_simp;go_wp2_with (first|(go_at_call 289;refine(OR _).mono ?_;rintro e w3 ⟨av,rfl,OU,b3⟩))
   refine hK.out _ _ ?_;simp only[NZ];exact⟨bP,bQ,bR,W.heap.size,w3.heap.size,n1,n2,f0,f1,f2,f3,f4,fun _=>rfl,f7,f8,f9,Od,(cY B b3),(xP.below b3),((xQ.below b3).val _),(xR.below b3),N2,Oa,Ob,(fun e _=> .inl (xP.lt e)),(fun e _=> .inl (xQ.lt e)),(fun e _=> .inl (xR.lt e)),(fun _=>⟨OU.move (fun b q l=>⟨⟨q,l⟩,rfl⟩),B.size,ay _⟩),N3,N7,Og,(fun e=>⟨(V e).1.move (fun b q l=>⟨q,b3.block b l⟩),(V e).2.1,aG (V e).2.2 b3.size⟩)⟩
  ·clear hd;go_simp;refine hK.out _ _ ?_;simp only[NZ];exact⟨bP,bQ,bR,m1,m2,n1,n2,f0,f1,f2,f3,f4,f5,fun _=>rfl,f8,f9,Od,B,xP,xQ,xR,N2,Oa,Ob,Oc,Oe,Of,A,N3,N7,Og,V⟩
  ·obtain rfl:=dK (k:=7) hd (by kernel_rfl);obtain rfl:=f7 rfl;clear hd;go_simp;refine hK.out _ _ ?_;simp only[NZ];exact⟨bP,bQ,bR,m1,m2,n1,n2,f0,f1,f2,f3,f4,f5,fun _=>rfl,fun _=>rfl,f9,Od,B,xP,xQ,xR,N2,Oa,Ob,Oc,Oe,Of,A,N3,N7,Og,V⟩
  ·obtain rfl:=dK (k:=8) hd (by kernel_rfl);obtain rfl:=f8 rfl;clear hd;go_simp;refine hK.out _ _ ?_;simp only[NZ];exact⟨bP,bQ,bR,m1,m2,n1,n2,f0,f1,f2,f3,f4,f5,f7,fun _=>rfl,fun _=>rfl,Od,B,xP,xQ,xR,N2,Oa,Ob,Oc,Oe,Of,A,N3,N7,Og,V⟩
  ·obtain rfl:=dK (k:=9) hd (by kernel_rfl);obtain rfl:=f9 rfl;have KF:=h1.below B OC;obtain⟨k1,k2⟩:=KF.rules;clear hd;go_simp;refine hK.out _ _ ?_;simp only[NZ];exact⟨bP,bQ,bR,m1,m2,n1,n2,f0,f1,f2,f3,f4,f5,f7,f8,fun _=>rfl,fun _=>rfl,B,xP,xQ,xR,N2,Oa,Ob,Oc,Oe,Of,A,N3,N7,Og,V⟩
  ·obtain rfl:=dK (k:=10) hd (by kernel_rfl);obtain rfl:=Od rfl;clear hd;go_simp;go_wp2_with (first|(go_at_call 293;refine(OH _).mono ?_;rintro e w4 ⟨vv,rfl,OI,b4⟩))
   refine hK.out _ _ ?_;simp only[NZ];exact⟨bP,bQ,bR,m1,m2,W.heap.size,w4.heap.size,f0,f1,f2,f3,f4,f5,f7,f8,f9,fun _=>rfl,(cY B b4),(xP.below b4),(xQ.below b4),((xR.below b4).val _),N2,Oa,Ob,Oc,Oe,Of,(fun e=>⟨(A e).1.move (fun b q l=>⟨q,b4.block b l⟩),(A e).2.1,aG (A e).2.2 b4.size⟩),(fun e _=> .inl (xP.lt e)),(fun e _=> .inl (xQ.lt e)),(fun e _=> .inl (xR.lt e)),(fun _=>⟨OI.move (fun b q l=>⟨⟨q,l⟩,rfl⟩),B.size,ay _⟩)⟩
  ·clear hd;go_simp;refine hK.out _ _ ?_;simp only[NZ];exact⟨W.heap.size,bQ,bR,m1,m2,n1,n2,f0,f1,f2,f3,f4,f5,f7,f8,f9,Od,(B.alloc B.size _),(xP.new B.size _ _),(xQ.alloc _),(xR.alloc _),(lA.lt1 xQ.lt),(lA.lt1 xR.lt),Ob,(fun _ e=> .inr (A e).2.2),Oe,Of,(fun e=>⟨(A e).1.move (fun b q l=>⟨q,((Below.refl W.heap.size W).alloc (ay _) _).block b l⟩),(A e).2.1,aG (A e).2.2 ((Below.refl W.heap.size W).alloc (ay _) _).size⟩),(fun _ e=> .inr (V e).2.2),N7,Og,(fun e=>⟨(V e).1.move (fun b q l=>⟨q,((Below.refl W.heap.size W).alloc (ay _) _).block b l⟩),(V e).2.1,aG (V e).2.2 ((Below.refl W.heap.size W).alloc (ay _) _).size⟩)⟩
  ·clear hd;go_simp;refine hK.out _ _ ?_;simp only[NZ];exact⟨bP,W.heap.size,bR,m1,m2,n1,n2,f0,f1,f2,f3,f4,f5,f7,f8,f9,Od,(B.alloc B.size _),(xP.alloc _),(xQ.new B.size _),(xR.alloc _),(lA.lt1 xP.lt).symm,Oa,(lA.lt1 xR.lt),Oc,(fun _ e=> .inr (A e).2.2),Of,(fun e=>⟨(A e).1.move (fun b q l=>⟨q,((Below.refl W.heap.size W).alloc (ay _) _).block b l⟩),(A e).2.1,aG (A e).2.2 ((Below.refl W.heap.size W).alloc (ay _) _).size⟩),N3,(fun _ e=> .inr (V e).2.2),Og,(fun e=>⟨(V e).1.move (fun b q l=>⟨q,((Below.refl W.heap.size W).alloc (ay _) _).block b l⟩),(V e).2.1,aG (V e).2.2 ((Below.refl W.heap.size W).alloc (ay _) _).size⟩)⟩
  ·clear hd;go_simp;refine hK.out _ _ ?_;simp only[NZ];exact⟨bP,bQ,W.heap.size,m1,m2,n1,n2,f0,f1,f2,f3,f4,f5,f7,f8,f9,Od,(B.alloc B.size _),(xP.alloc _),(xQ.alloc _),(xR.new B.size _),N2,(lA.lt1 xP.lt).symm,(lA.lt1 xQ.lt).symm,Oc,Oe,(fun _ e=> .inr (A e).2.2),(fun e=>⟨(A e).1.move (fun b q l=>⟨q,((Below.refl W.heap.size W).alloc (ay _) _).block b l⟩),(A e).2.1,aG (A e).2.2 ((Below.refl W.heap.size W).alloc (ay _) _).size⟩),N3,N7,(fun _ e=> .inr (V e).2.2),(fun e=>⟨(V e).1.move (fun b q l=>⟨q,((Below.refl W.heap.size W).alloc (ay _) _).block b l⟩),(V e).2.1,aG (V e).2.2 ((Below.refl W.heap.size W).alloc (ay _) _).size⟩)⟩
  ·obtain rfl:=dK (k:=12) hd (by kernel_rfl);obtain rfl:=dK (k:=1) hd (by kernel_rfl);obtain⟨rfl,zP,OS,OT,yP⟩:=xP.made rfl;obtain⟨cP,kP⟩:=yP.rules;obtain rfl:=f1 rfl;clear hd;go_simp;refine hK.out _ _ ?_;simp only[NZ];exact⟨bP,bQ,bR,m1,m2,n1,n2,f0,fun _=>rfl,f2,f3,f4,f5,f7,f8,f9,Od,((B.setCell (p:=(ai bP 0)) zP _).setCell (p:=(ai bP 1)) zP _),xP.store,((xQ.oth (fun e=>N2 rfl e) 0 _).oth (fun e=>N2 rfl e) 1 _),((xR.oth (fun e=>Oa rfl e) 0 _).oth (fun e=>Oa rfl e) 1 _),N2,Oa,Ob,Oc,Oe,Of,(fun e=>⟨(A e).1.move (fun b q l=>⟨q,(dp (by have:=Oc rfl e;omega)).trans (dp (by have:=Oc rfl e;omega))⟩),(A e).2.1,by simpa using(A e).2.2⟩),N3,N7,Og,(fun e=>⟨(V e).1.move (fun b q l=>⟨q,(dp (by have:=N3 rfl e;omega)).trans (dp (by have:=N3 rfl e;omega))⟩),(V e).2.1,by simpa using(V e).2.2⟩)⟩
  ·obtain rfl:=dK (k:=13) hd (by kernel_rfl);obtain rfl:=dK (k:=6) hd (by kernel_rfl);obtain⟨rfl,zQ,yQ⟩:=xQ.made rfl;obtain⟨wQ,cQ,kQ⟩:=fQ yQ;obtain⟨af,OA,⟨rfl,Oy⟩,OO⟩:=(A rfl).1;clear hd;go_simp;refine hK.out _ _ ?_;simp only[NZ];exact⟨bP,bQ,bR,m1,m2,n1,n2,f0,f1,f2,f3,f4,f5,f7,f8,f9,Od,(B.setCell (p:=(ai bQ 0)) zQ _),(xP.oth (fun e=>N2.symm rfl e) 0 _),xQ.store,(xR.oth (fun e=>Ob rfl e) 0 _),N2,Oa,Ob,Oc,Oe,Of,(fun e=>⟨(A e).1.move (fun b q l=>⟨q,dp (by have:=Oe rfl e;omega)⟩),(A e).2.1,by simpa using(A e).2.2⟩),N3,N7,Og,(fun e=>⟨(V e).1.move (fun b q l=>⟨q,dp (by have:=N7 rfl e;omega)⟩),(V e).2.1,by simpa using(V e).2.2⟩)⟩
  ·obtain rfl:=dK (k:=14) hd (by kernel_rfl);obtain rfl:=dK (k:=11) hd (by kernel_rfl);obtain⟨rfl,zR,yR⟩:=xR.made rfl;obtain⟨wR,cR,kR⟩:=fQ yR;obtain⟨vf,Oj,⟨rfl,Oy⟩,OO⟩:=(V rfl).1;clear hd;go_simp;refine hK.out _ _ ?_;simp only[NZ];exact⟨bP,bQ,bR,m1,m2,n1,n2,f0,f1,f2,f3,f4,f5,f7,f8,f9,Od,(B.setCell (p:=(ai bR 0)) zR _),(xP.oth (fun e=>Oa.symm rfl e) 0 _),(xQ.oth (fun e=>Ob.symm rfl e) 0 _),xR.store,N2,Oa,Ob,Oc,Oe,Of,(fun e=>⟨(A e).1.move (fun b q l=>⟨q,dp (by have:=Of rfl e;omega)⟩),(A e).2.1,by simpa using(A e).2.2⟩),N3,N7,Og,(fun e=>⟨(V e).1.move (fun b q l=>⟨q,dp (by have:=Og rfl e;omega)⟩),(V e).2.1,by simpa using(V e).2.2⟩)⟩
 case rest=>
  obtain⟨tb,ab,vb,av,vv,rfl,rfl,rfl,KP,KQ,KR,⟨af,OA,⟨rfl,OV⟩,ha⟩,⟨vf,Oj,⟨rfl,Oy⟩,hv⟩,zP,zQ,zR,b3⟩:=hcut;go_wp2;go_ret;refine⟨_,rfl,⟨370,[ag tb,ag ab,ag vb],⟨rfl,enters_of Tryz.func370 (by kernel_rfl) rfl⟩,fun S d fl n N W hK hq hN fg OJ OP=> ?_⟩,b3⟩;have K1:=hK.bx zP KP;have K2:=hK.bx zQ KQ;have K3:=hK.bx zR KR
  have OM:fB S fl≠16:=by
   rw[fg.pk]at hp;unfold iJ at hp;rw[aT]at hp;intro q;rw[q]at hp;simp[gF]at hp
  have L:=hv S fl n N W hK hq hN fg.gb.symm fun q=>absurd q OM
  have A:=ha S fl n N W hK hq hN fg.gb.symm fun q=>absurd q OM
  rw[fg.eq,fg.tk]at K1;rw[fg.pk]at hp;have hk:=qf mp g;rw[fg.tk]at hk;have:=Gb tb ab af vb vf OA Oj fl.num (mM S fl) hN K1 K2 K3 (hq tb zP KP.lt) (hq ab zQ KQ.lt) (hq vb zR KR.lt) OJ hk Oy OV L A
  exact fun W' Z vv l k b l0 B q1 q2 q3 q4 q5 q6=>by
   have e:iW S (dD S n) fl l=gP fl.num (mM S fl)++fm (l.flatMap (eV S (dD S n) fl)):=by unfold iW;rw[if_pos hp];rfl
   rw[e]at q6⊢;exact this W' Z vv l k b l0 B q1 q2 q3 q4 q5 q6
theorem u9 (h:dP w P mp g fb):Calls Tryz.prog 212 #[ag fb,.pointer iq] w (g8 w fun w' v=>Ab w' (fun b=>w.heap.size<=b) mp g iq v):=by
 cases hp:fG mp g with
 |false=>exact BC w P mp g fb iq h hp
 |true=>
  have ON:=jW w P mp g fb h;rw[hp]at ON;go_enter Tryz.func212,Tryz.ntmps212
  go_wp2_with fail
  refine ON.mono ?_;rintro e w1 ⟨rfl,b1⟩;have s1:=b1.size;have hW:=r9 w1 P mp g fb iq (h.keep fun b _ hl=>b1.block b hl) hp;go_wp2_with fail
  refine hW.mono ?_;rintro e w2 ⟨v,rfl,E2,b2⟩;obtain⟨f2,c2,e2,_⟩:=id E2;obtain rfl:=e2.eq;go_wp2;go_ret;exact⟨_,rfl,E2.move fun b q l=>⟨aG s1 q,rfl⟩,cY b1 b2⟩
end
end
theorem q8:lB:=⟨ut,rY,u9,rW,ug⟩
section
open Go.Maps
attribute [local go_sem↓] Go.wp_at_zero Go.wp_at_succ
theorem jq.lt {w:an}{sb kp mk:Nat}{bs:List dh}{P:ap}(h:jq w sb kp mk bs P):P mk/\P kp/\mk<w.heap.size/\kp<w.heap.size:=by
 obtain⟨v,y,h1,⟨a1,a2,a3,a4,a5⟩,h3,N,pm,h4⟩:=h;exact⟨a3,a2,h4.mb.lt,h4.kb.lt⟩
theorem CN (w:an)(hg:GOK w)(hbo:BOK w)(hu:UOK w):Calls Tryz.prog 26 #[] w fun e w'=>e= .returned (.bool true)/\aj w w':=by
 obtain⟨bs,m,Od,Oe,hO,Oq,e1,e2,e3,e4⟩:=Kx;have N3:=tB Od
 have hl:∀d,(dt bs).msg nK=some d->(dD (dt bs) 8 d m).length<=140737488355328:=fun d _=>by
  have:=xX (S:=dt bs) 8 9 d m hO;omega
 have HP:=c5 w tK (by decide) hg hbo;rw[Od]at HP;have N7:Hid (∀W,aj w W->UOK W):=fun W hW=>hu.keep (hW.block _ hu.lt1) (hW.block _ hu.lt2)
 have HD:Hid (∀(W:an) (sb kp mk:Nat) (N2:Int),aj w W->jq W sb kp mk bs (fun b=>w.heap.size<=b)->N2=1\/N2=2->Calls Tryz.prog 21 #[ag sb,aa N2,ae nK,ae iK] W (jp [mk,kp] (fun Z w'=>jq w' sb kp mk bs fun x=>(w.heap.size<=x/\x<W.heap.size)\/(W.heap.size<=x/\¬Z x)) W (.ok m))):=fun W sb kp mk N2 hW hs hw=>by
  have:=wz q8 W sb kp mk bs _ nK iK N2 hs N3 (N7.out W hW) (by decide) hw (by have:=hu.lt1;omega) (by have:=hu.lt2;omega)
  rwa [Oe]at this
 have HE:Hid (∀(W:an) (sb kp mk:Nat) (N2:Int) (P Z:ap) (mv:Value),aj w W->jq W sb kp mk bs P->N2=1\/N2=2->(∀b,P b->w.heap.size<=b)->fR 9 W Z mv m->(∀b,Z b->¬P b)->Calls Tryz.prog 24 #[ag sb,aa N2,ae nK,.agg #[mv,ae m.unk]] W fun e w'=>e= .returned (.tuple #[ae oK,aa 0])/\dl [mk,kp] W w'/\jq w' sb kp mk bs fun x=>(P x/\x<W.heap.size)\/W.heap.size<=x):=fun W sb kp mk N2 P Z mv hW hs hw hP hM hZ=>by
  have:=wC q8 W sb kp mk bs P nK N2 Z 9 mv m hs N3 (N7.out W hW) hw (fun q=>by have:=hP _ q;have:=hu.lt1;omega) (fun q=>by have:=hP _ q;have:=hu.lt2;omega) hM hZ hO hl
  rwa [e1,e2]at this
 have HS:Hid (∀(W:an) (sb kp mk:Nat) (N2:Int) (P Z:ap) (mv:Value),aj w W->jq W sb kp mk bs P->N2=1\/N2=2->(∀b,P b->w.heap.size<=b)->fR 9 W Z mv m->(∀b,Z b->¬P b)->Calls Tryz.prog 25 #[ag sb,aa N2,ae nK,.agg #[mv,ae m.unk]] W fun e w'=>e= .returned (.tuple #[aa 6,aa 0])/\dl [mk,kp] W w'/\jq w' sb kp mk bs fun x=>(P x/\x<W.heap.size)\/W.heap.size<=x):=fun W sb kp mk N2 P Z mv hW hs hw hP hM hZ=>by
  have:=Gq q8 W sb kp mk bs P nK N2 Z 9 mv m hs N3 (N7.out W hW) hw (fun q=>by have:=hP _ q;have:=hu.lt1;omega) (fun q=>by have:=hP _ q;have:=hu.lt2;omega) hM hZ hO hl
  rwa [e3,e4]at this
 clear hl e1 e2 e3 e4 Oe Oq hO;have hoo:(oK.toList==oK.toList)=true:=by simp
 go_enter Tryz.func26,Tryz.ntmps26
 go_wp2_with fail
 refine HP.mono ?_;rintro e w1 ⟨⟨sb,kp,mk,rfl,Ot⟩,b1⟩;have Og:=Ot.toP N3;go_wp2;go_loopw [4,5,6,7,8,9,10,11] (fun iv _ _ _ _ _ _ _ wr=>∃N2:Nat,iv=aa N2/\1<=N2/\N2<=3/\jq wr sb kp mk bs (fun b=>w.heap.size<=b)/\aj w wr) (fun iv _ _ _ _ _ _ _ _=>3-(intOf iv).toNat)
 case atStart=>exact⟨1,rfl,by omega,by omega,Og,b1⟩
 case round=>
  obtain⟨N2,rfl,hw1,hw3,hs,B⟩:=hrel
  by_cases hlt:N2<3
  ·have hlt':(N2:Int)<3:=by omega
   have hw:(N2:Int)=1\/(N2:Int)=2:=by omega
   obtain⟨pm1,pk1,lm,lk⟩:=hs.lt
   have N8:∀x∈ [mk,kp],w.heap.size<=x:=fun x hx=>by
    simp only[aL,bG,or_false]at hx
    rcases hx with rfl|rfl<;>assumption
   have Oh:=HD.out wr sb kp mk N2 B hs hw;go_wp2_with fail
   refine Oh.mono ?_;rintro e w2 ⟨v,Z',rfl,hm,hZ,Of,Ou⟩;obtain⟨va,vc,rfl⟩:=hm.form;have B2:aj w w2:=B.trans (Of.to_below B.size N8);obtain⟨B3,K3⟩:=di w2 #[.slice va m.fs.length vc,ae m.unk] 49;have Oa:=cY B2 B3;have s2:=Of.size;have s3:=B3.size;have Oi:=Ou.keep (w':=w2.alloc (ak #[.slice va m.fs.length vc,ae m.unk] 49)) fun b _ hl=>B3.block b hl
   have Oc:=hm.toIn.rn.below B3 (ay _);have Oj:=HE.out _ sb kp mk N2 _ Z' _ Oa Oi hw (fun b q=>by have:=B.size;rcases q with q|q<;>omega) Oc (fun b q p=>p.elim (fun p=>by have:=(hZ b q).1;omega) fun p=>p.2 q);obtain⟨k1,k2⟩:=K3.rules;go_wp2_with fail
   refine Oj.mono ?_;rintro e w4 ⟨rfl,Ob,Ov⟩
   have Ok:∀b,Z' b->b∉ [mk,kp]:=fun b q hx=>by
    have:=(hZ b q).1;simp only[aL,bG,or_false]at hx;omega
   have K4:=K3.kept Ob (by simp;omega);have B4:aj w w4:=Oa.trans (Ob.to_below Oa.size N8);have Ol:=Oc.keep (w':=w4) fun b q hl=>Ob.block b hl (Ok b q)
   have Om:=HS.out _ sb kp mk N2 _ Z' _ B4 Ov hw (fun b q=>by have:=B.size;rcases q with⟨q|q,_⟩|q<;>omega) Ol (fun b q p=>by
    have h1:=hZ b q
    rcases p with⟨p|p,_⟩|p
    ·omega
    ·exact p.2 q
    ·omega)
   clear k1 k2;obtain⟨k1,k2⟩:=K4.rules;go_wp2_with fail
   refine Om.mono ?_;rintro e w5 ⟨rfl,Ow,Ox⟩;have B5:aj w w5:=B4.trans (Ow.to_below B4.size N8);have Oo:=Ox.less (P':=fun b=>w.heap.size<=b) fun b q _=>by have:=B.size;have:=B4.size;rcases q with⟨⟨q|q,_⟩|q,_⟩|q<;>omega
   go_wp2;go_roundw
   case rel=>exact⟨N2+1,by go_num,by omega,by omega,Oo,B5⟩
   case measure=>simp[intOf];omega
  ·obtain rfl:N2=3:=by omega
   go_wp2;go_ret;exact⟨rfl,B⟩
end
end Go.Proofs.YtfebdimolnobaaaGreatDoor
