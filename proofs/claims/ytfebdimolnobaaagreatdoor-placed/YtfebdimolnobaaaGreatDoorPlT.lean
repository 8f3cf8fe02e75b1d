import Derived.Test.YtfebdimolnobaaaGreatDoorPlS
import Derived.Conc.MuLone
set_option maxRecDepth 100000
set_option maxHeartbeats 8000000
set_option linter.all false
namespace Go.Proofs.YtfebdimolnobaaaGreatDoor
open Go.RowKit
section
attribute [local go_sem↓] Go.wp_at_zero Go.wp_at_succ
inductive Nx (wa:an)(mp:am->Option Nat)(g:GF)(fb p wn:Nat)(Oa:Int)(sg:Bool)(W:an):Array Bool->Act->Prop where
 |mk {l0 l1 l2 l3 l4 l5 l6 l7 l8 l9 l10 Ob Of Og Oh:Bool} {t5 t6 t7 t8 t9 Om Oi Oo Oj Oq Ot Ok:Value} (bP bQ bR:Nat) (pv:Value) (f0:l0=true->t8=ag fb) (f1:l1=true->t9=ag fb) (f2:l2=true->Om=ag fb) (f3:l3=true->Oi=aa g.f.num) (f4:l4=true->Oo=ag fb) (f5:l5=true->Oj=aa Oa) (f6:l6=true->Oq=ag fb) (f7:l7=true->Ot= .agg #[aa (gQ mp g.f.key),pv]) (f8:l8=true->Ok= .bool sg) (B:Below wa.heap.size wa W) (xP:Bx (wa.heap.size) W l9 Of l3 t5 bP 3 Oi) (xQ:Bx (wa.heap.size) W l10 Og l5 t6 bQ 3 Oj) (xR:Bx (wa.heap.size) W Ob Oh l8 t7 bR 4 Ok) (N3:lA l9 l10 bP bQ) (N7:lA l9 Ob bP bR) (N8:lA l10 Ob bQ bR):Nx wa mp g fb p wn Oa sg W #[l0,l1,l2,l3,l4,l5,l6,l7,l8,l9,l10,Ob,Of,Og,Oh] ⟨#[ag fb,ag p,undef,ag wn,.nilFunc,t5,t6,t7,t8,t9,Om,Oi,Oo,Oj,Oq,Ot,Ok,undef],[]⟩
section
variable (w:an) (Q P:ap) (mp:am->Option Nat) (g:GF) (fb p:Nat)
theorem ug (hQ:∀b,w.heap.size<=b->Q b)(h:dP w P mp g fb)(h4:g.form=4):Calls Tryz.prog 377 #[ag fb,ag p] w (g8 w fun w' v=>Jb w' Q mp (fun x=>x=p) g v):=by
 have hmf:= @rh;obtain⟨pv,rv,h0,_,Oc,Ow⟩:=h.blk;obtain⟨pq,rfl⟩:=eT Ow;obtain⟨ra,rn,rc,rfl⟩:=df Oc.1;obtain⟨B1,KI⟩:=di w #[ag p] 116;have Oe:dP (w.alloc (ak #[ag p] 116)) P mp g fb:=h.keep (fun b _ hl=>B1.block b hl);have h1:=h0.alloc (ak #[ag p] 116);have Ou:=h1.lt;obtain⟨Oa,Od⟩:∃Oa,iA mp g=Oa:=⟨_,rfl⟩;obtain⟨sg,Ox⟩:∃sg,iT (gQ mp g.f.key)=sg:=⟨_,rfl⟩;have Ov:=fun W pv=>mx W (gQ mp g.f.key) pv (qC mp _)
 rw[Ox]at Ov;clear Ow Oc h;go_enter Tryz.func377,Tryz.ntmps377
 go_upto_region 1 with fail
 obtain⟨wa,Ol⟩:∃wa,w.alloc (ak #[ag p] 116)=wa:=⟨_,rfl⟩;rw[Ol]at B1 KI Oe h1 Ou;simp only[Ol];have Oy:w.heap.size<wa.heap.size:=KI.lt;clear Ol h0
 have hL:∀W,Below wa.heap.size wa W->Calls Tryz.prog 186 #[ag fb] W fun e w'=>e= .returned (aa Oa)/\w'=W:=fun W hW=>by
  rw[<-Od];exact nl W P mp g fb (Oe.keep (fun b _ hl=>hW.block b hl))
 have Oz:∀W,Below wa.heap.size wa W->Calls Tryz.prog 188 #[ag fb] W fun e w'=>∃pv,e= .returned (.agg #[aa (gQ mp g.f.key),pv])/\Below W.heap.size W w':=fun W hW=>Ck W P mp g fb (Oe.keep (fun b _ hl=>hW.block b hl)) h4
 clear Oe;go_cut [5,6,7]from 8 to 16 (fun x y z wx=>∃nb lb sb,x=ag nb/\y=ag lb/\z=ag sb/\de wx nb #[aa g.f.num] 3/\de wx lb #[aa Oa] 3/\de wx sb #[.bool sg] 4/\wa.heap.size<=nb/\wa.heap.size<=lb/\wa.heap.size<=sb/\Below wa.heap.size wa wx)
 case first=>
  refine iC (fun L a W=>Nx wa mp g fb p w.heap.size Oa sg W L a) (by kernel_rfl) ⟨0,0,0,undef,nofun,nofun,nofun,nofun,nofun,nofun,nofun,nofun,nofun,(Below.refl _ _).drew,Bx.start,Bx.start,Bx.start,nofun,nofun,nofun⟩ (by kernel_rfl) ?_ ?_
  ·rintro L a W @⟨l0,l1,l2,l3,l4,l5,l6,l7,l8,l9,l10,Ob,Of,Og,Oh,t5,t6,t7,t8,t9,Om,Oi,Oo,Oj,Oq,Ot,Ok,bP,bQ,bR,pv,f0,f1,f2,f3,f4,f5,f6,f7,f8,B,xP,xQ,xR,N3,N7,N8⟩ N2;obtain rfl:l3=true:=N2 3 (by decide);obtain rfl:l5=true:=N2 5 (by decide);obtain rfl:l8=true:=N2 8 (by decide);obtain rfl:l9=true:=N2 9 (by decide);obtain rfl:l10=true:=N2 10 (by decide);obtain rfl:Ob=true:=N2 11 (by decide);obtain rfl:Of=true:=N2 12 (by decide);obtain rfl:Og=true:=N2 13 (by decide);obtain rfl:Oh=true:=N2 14 (by decide);obtain⟨rfl,zP,_⟩:=xP.made rfl;obtain⟨rfl,zQ,_⟩:=xQ.made rfl;obtain⟨rfl,zR,_⟩:=xR.made rfl;obtain rfl:=f3 rfl;obtain rfl:=f5 rfl;obtain rfl:=f8 rfl;have KP:=xP.put rfl;have KQ:=xQ.put rfl;have KR:=xR.put rfl;go_wp2;go_meet
   case rel=>exact⟨_,_,_,rfl,rfl,rfl,KP,KQ,KR,zP,zQ,zR,B⟩
  refine .cons ?_ (.cons ?_ (.cons ?_ (.cons ?_ (.cons ?_ (.cons ?_ (.cons ?_ (.cons ?_ (.cons ?_ (.cons ?_ (.cons ?_ (.cons ?_ (.cons ?_ (.cons ?_ (.cons ?_ .nil))))))))))))))
  all_goals
   rintro L a W ⟨bP,bQ,bR,pv,f0,f1,f2,f3,f4,f5,f6,f7,f8,B,xP,xQ,xR,N3,N7,N8⟩ h0 hd K hK;subst h0
  ·clear hd;go_simp;refine hK.out _ _ ?_;simp only[NZ];exact⟨bP,bQ,bR,pv,fun _=>rfl,f1,f2,f3,f4,f5,f6,f7,f8,B,xP,xQ,xR,N3,N7,N8⟩
  ·obtain rfl:=dK (k:=0) hd (by kernel_rfl);obtain rfl:=f0 rfl;clear hd;go_simp;refine hK.out _ _ ?_;simp only[NZ];exact⟨bP,bQ,bR,pv,fun _=>rfl,fun _=>rfl,f2,f3,f4,f5,f6,f7,f8,B,xP,xQ,xR,N3,N7,N8⟩
  ·obtain rfl:=dK (k:=1) hd (by kernel_rfl);obtain rfl:=f1 rfl;clear hd;go_simp;refine hK.out _ _ ?_;simp only[NZ];exact⟨bP,bQ,bR,pv,f0,fun _=>rfl,fun _=>rfl,f3,f4,f5,f6,f7,f8,B,xP,xQ,xR,N3,N7,N8⟩
  ·obtain rfl:=dK (k:=2) hd (by kernel_rfl);obtain rfl:=f2 rfl;have KF:=h1.below B Ou;obtain⟨k1,k2⟩:=KF.rules;clear hd;go_simp;refine hK.out _ _ ?_;simp only[NZ];exact⟨bP,bQ,bR,pv,f0,f1,fun _=>rfl,fun _=>rfl,f4,f5,f6,f7,f8,B,(xP.val _),xQ,xR,N3,N7,N8⟩
  ·clear hd;go_simp;refine hK.out _ _ ?_;simp only[NZ];exact⟨bP,bQ,bR,pv,f0,f1,f2,f3,fun _=>rfl,f5,f6,f7,f8,B,xP,xQ,xR,N3,N7,N8⟩
  ·obtain rfl:=dK (k:=4) hd (by kernel_rfl);obtain rfl:=f4 rfl;clear hd;go_simp;go_wp2_with (first|(go_at_call 186;refine(hL _ B).mono ?_;rintro e _ ⟨rfl,rfl⟩))
   refine hK.out _ _ ?_;simp only[NZ];exact⟨bP,bQ,bR,pv,f0,f1,f2,f3,fun _=>rfl,fun _=>rfl,f6,f7,f8,(cY B (Below.refl _ _)),(xP.below (Below.refl _ _)),((xQ.below (Below.refl _ _)).val _),(xR.below (Below.refl _ _)),N3,N7,N8⟩
  ·clear hd;go_simp;refine hK.out _ _ ?_;simp only[NZ];exact⟨bP,bQ,bR,pv,f0,f1,f2,f3,f4,f5,fun _=>rfl,f7,f8,B,xP,xQ,xR,N3,N7,N8⟩
  ·obtain rfl:=dK (k:=6) hd (by kernel_rfl);obtain rfl:=f6 rfl;clear hd;go_simp;go_wp2_with (first|(go_at_call 188;refine(Oz _ B).mono ?_;rintro e w2 ⟨OA,rfl,b2⟩))
   refine hK.out _ _ ?_;simp only[NZ];exact⟨bP,bQ,bR,OA,f0,f1,f2,f3,f4,f5,fun _=>rfl,fun _=>rfl,f8,(cY B b2),(xP.below b2),(xQ.below b2),(xR.below b2),N3,N7,N8⟩
  ·obtain rfl:=dK (k:=7) hd (by kernel_rfl);obtain rfl:=f7 rfl;clear hd;go_simp;go_wp2_with (first|(go_at_call 189;refine(Ov _ pv).mono ?_;rintro e w3 ⟨rfl,b3⟩))
   refine hK.out _ _ ?_;simp only[NZ];exact⟨bP,bQ,bR,pv,f0,f1,f2,f3,f4,f5,f6,fun _=>rfl,fun _=>rfl,(cY B b3),(xP.below b3),(xQ.below b3),((xR.below b3).val _),N3,N7,N8⟩
  ·clear hd;go_simp;refine hK.out _ _ ?_;simp only[NZ];exact⟨W.heap.size,bQ,bR,pv,f0,f1,f2,f3,f4,f5,f6,f7,f8,(B.alloc B.size _),(xP.new B.size _),(xQ.alloc _),(xR.alloc _),(lA.new1 xQ),(lA.new1 xR),N8⟩
  ·clear hd;go_simp;refine hK.out _ _ ?_;simp only[NZ];exact⟨bP,W.heap.size,bR,pv,f0,f1,f2,f3,f4,f5,f6,f7,f8,(B.alloc B.size _),(xP.alloc _),(xQ.new B.size _),(xR.alloc _),(lA.new2 xP),N7,(lA.new1 xR)⟩
  ·clear hd;go_simp;refine hK.out _ _ ?_;simp only[NZ];exact⟨bP,bQ,W.heap.size,pv,f0,f1,f2,f3,f4,f5,f6,f7,f8,(B.alloc B.size _),(xP.alloc _),(xQ.alloc _),(xR.new B.size _),N3,(lA.new2 xP),(lA.new2 xQ)⟩
  ·obtain rfl:=dK (k:=9) hd (by kernel_rfl);obtain rfl:=dK (k:=3) hd (by kernel_rfl);obtain⟨rfl,zP,yP⟩:=xP.made rfl;obtain⟨uP,cP,kP⟩:=fQ yP;obtain rfl:=f3 rfl;clear hd;go_simp;refine hK.out _ _ ?_;simp only[NZ];exact⟨bP,bQ,bR,pv,f0,f1,f2,fun _=>rfl,f4,f5,f6,f7,f8,(B.setCell (p:=(ai bP 0)) zP _),xP.store,(xQ.other (fun e=>N3 rfl e) _),(xR.other (fun e=>N7 rfl e) _),N3,N7,N8⟩
  ·obtain rfl:=dK (k:=10) hd (by kernel_rfl);obtain rfl:=dK (k:=5) hd (by kernel_rfl);obtain⟨rfl,zQ,yQ⟩:=xQ.made rfl;obtain⟨uQ,cQ,kQ⟩:=fQ yQ;obtain rfl:=f5 rfl;clear hd;go_simp;refine hK.out _ _ ?_;simp only[NZ];exact⟨bP,bQ,bR,pv,f0,f1,f2,f3,f4,fun _=>rfl,f6,f7,f8,(B.setCell (p:=(ai bQ 0)) zQ _),(xP.other (fun e=>N3.symm rfl e) _),xQ.store,(xR.other (fun e=>N8 rfl e) _),N3,N7,N8⟩
  ·obtain rfl:=dK (k:=11) hd (by kernel_rfl);obtain rfl:=dK (k:=8) hd (by kernel_rfl);obtain⟨rfl,zR,yR⟩:=xR.made rfl;obtain⟨uR,cR,kR⟩:=fQ yR;obtain rfl:=f8 rfl;clear hd;go_simp;refine hK.out _ _ ?_;simp only[NZ];exact⟨bP,bQ,bR,pv,f0,f1,f2,f3,f4,f5,f6,f7,fun _=>rfl,(B.setCell (p:=(ai bR 0)) zR _),(xP.other (fun e=>N7.symm rfl e) _),(xQ.other (fun e=>N8.symm rfl e) _),xR.store,N3,N7,N8⟩
 case rest=>
  obtain⟨nb,lb,sb,rfl,rfl,rfl,h5,h6,h7,q1,q2,q3,b3⟩:=hcut;go_wp2;go_ret;exact⟨_,rfl,⟨_,_,_,_,p,rfl,KI.below b3 Oy,by rw[Od];exact h6,h5,by rw[Ox];exact h7,rfl,hQ _ (ay _),hQ _ (by omega),hQ _ (by omega),hQ _ (by omega)⟩,cY B1 b3⟩
end
end
section
open Go.Maps
attribute [local go_sem↓] Go.wp_at_zero Go.wp_at_succ
structure lB:Prop where
 c:∀(w:an) (P:ap) (mp:am->Option Nat) (g:GF) (fb:Nat) (iq:aw),dP w P mp g fb->Calls Tryz.prog 210 #[ag fb,.pointer iq] w (g8 w fun w' v=>Dz w' (fun b=>w.heap.size<=b) mp g iq v)
 m:∀(w:an) (P:ap) (mp:am->Option Nat) (g:GF) (fb:Nat) (iq:aw),dP w P mp g fb->Calls Tryz.prog 211 #[ag fb,.pointer iq] w (g8 w fun w' v=>Br w' (fun b=>w.heap.size<=b) mp g iq v)
 w:∀(w:an) (P:ap) (mp:am->Option Nat) (g:GF) (fb:Nat) (iq:aw),dP w P mp g fb->Calls Tryz.prog 212 #[ag fb,.pointer iq] w (g8 w fun w' v=>Ab w' (fun b=>w.heap.size<=b) mp g iq v)
 p:tZ
 e:xS
theorem sF.isFn {w:an}{Q:ap}{mp pm:am->Option Nat}{g:GF}{v:Value}(h:sF w Q (jE w Q mp pm) g v):DC v:=by
 unfold sF at h
 split at h
 ·exact jE.fn h
 ·obtain⟨_,_,_,_,rfl,_⟩:=h;exact⟨_,_,rfl⟩
theorem Gg:(Tryz.prog.info? 268).map (fun i=>(i.zero,i.size,i.bytes))=some (some (.agg #[aa 0,aa 0,.bool false,ah,.nilFunc,.nilFunc,.nilFunc,.nilFunc]),8,80):=by kernel_rfl
theorem xT {w:an}{fb:Nat}{a b c d e:Value}{T:TypeId}(h:de w fb #[a,b,c,d,e] T):w.cell? (ai fb 0)=some a/\w.cell? (ai fb 2)=some c/\w.cell? (ai fb 3)=some d/\w.cell? (ai fb 4)=some e:=⟨h.cell 0,h.cell 2,h.cell 3,h.cell 4⟩
section
variable (kp mk W0:Nat) (mu:Int) (S:dG) (mp:am->Option Nat) (P:ap)
theorem DK (n:Nat)(g:GF)(h4:g.form≠4)(HO:M2 kp mk W0 mu S mp P n):sG kp mk W0 mu S mp P n g:=by
 intro w N pm U X fb I hn hF;obtain⟨pv,rv,h1,_,N3,Oc⟩:=hF.blk;obtain⟨ra,rn,rc,rfl⟩:=df N3.1;rw[if_neg h4]at Oc;have ON:dC mp g=gQ mp g.f.ty:=by unfold dC;rw[if_neg h4]
 rw[ON]at h1;have f4:(g.form==4)=false:=by simp[h4]
 by_cases h16:gQ mp g.f.ty=16
 ·have OO:((gQ mp g.f.ty:Int)==16)=true:=by simp[h16]
  obtain⟨d,hd⟩:=I.md.ty _ h16;obtain⟨mb,gs,q1,q2,q3,q4⟩:=I.md.md _ d hd;have OD:=jF hd;have hC:=HO w N pm U X mb d gs I hn (by rw[OD];exact hd) q2 q3 q4;rw[q1]at Oc;subst Oc;unfold ft at h1;obtain⟨k1,k2⟩:=h1.rules;go_enter Tryz.func207,Tryz.ntmps207
  go_wp2_with fail
  refine hC.mono ?_;rintro e w2 ⟨v,N',N2,rfl,⟨p,rfl,hp⟩,ok2,hx,kw⟩;go_wp2;go_ret;refine⟨_,N',N2,rfl,(show gz _ _ mp N2 g _ from ?_),ok2,hx,kw⟩;unfold gz;rw[if_neg h4,if_pos h16];exact⟨p,rfl,by rw[<-OD];exact hp⟩
 ·have OO:((gQ mp g.f.ty:Int)==16)=false:=by simp;omega
  obtain⟨pq,rfl⟩:∃q,pv= .pointer q:=by
   subst Oc;unfold ft
   split<;>exact⟨_,rfl⟩
  obtain⟨k1,k2⟩:=h1.rules;go_enter Tryz.func207,Tryz.ntmps207
  go_wp2;go_ret;refine⟨_,N,pm,rfl,(show gz _ _ mp pm g _ from ?_),I.ok,fun _ _ q=>q,dl.refl _ _⟩;unfold gz;rw[if_neg h4,if_neg h16];rfl
theorem DL (n:Nat)(g:GF)(h4:g.form=4)(HS:Bt kp mk W0 mu S mp P n [jj lH g.f.key 1,jj oz g.f.ty 2]):sG kp mk W0 mu S mp P n g:=by
 intro w N pm U X fb I hn hF;obtain⟨pv,rv,h1,_,N3,Oc⟩:=hF.blk;obtain⟨ra,rn,rc,rfl⟩:=df N3.1;rw[if_pos h4]at Oc;obtain⟨eb,rfl,hE⟩:=Oc;have hC:=HS w N pm U X eb eS I hn hE.msg (by simp);have f4:(g.form==4)=true:=by simp[h4]
 unfold ft at h1;obtain⟨k1,k2⟩:=h1.rules;go_enter Tryz.func207,Tryz.ntmps207
 go_wp2_with fail
 refine hC.mono ?_;rintro e w2 ⟨v,N',N2,rfl,⟨l,hr,hs⟩,ok2,hx,kw⟩;obtain⟨va,vn,vc,rfl⟩:=df hr.1;have B3:∀o,aj w2 (w2.alloc o):=fun o=>(Below.refl _ _).alloc (ay _) _
 have OP:=(I.on ok2 kw).nq (ay _);go_wp2;go_ret;refine⟨_,N',N2,rfl,(show gz _ _ mp N2 g _ from ?_),ok2.keep (fun b hl=>(B3 _).block b hl),hx,kw.alloc _⟩;unfold gz;rw[if_pos h4];refine⟨_,rfl,_,l,de.new _ _ _,OP,hr.move (.keep fun b _ hl=>(B3 _).block b hl),hs.move (.keep fun b _ hl=>(B3 _).block b hl) (fun g' Oe u hu=> ?_) fun g' Oe u hu=> ?_⟩
 ·have hu:=jE.move (.keep fun b _ hl=>(B3 (ak #[.slice va vn vc] 254)).block b hl) (fun _ _ q=>q) hu;unfold jE at hu;simp only[aL,bG,or_false]at Oe
  rcases Oe with rfl|rfl
  ·rw[if_neg (by simp[jj])]at hu;exact hu
  ·rw[if_neg (by simp[jj])]at hu;exact hu
 ·simp only[aL,bG,or_false]at Oe
  rcases Oe with rfl|rfl
  ·exact(gz.lk (by simp[jj])).1 hu
  ·exact(gz.lk (by simp[jj])).1 hu
structure Gh (w:an)(pm:am->Option Nat)(U:au)(X:ap)(gs:List GF)(wr:an)(v:Value)(k:Nat)(l:List py)(N':Nat)(N2:am->Option Nat):Prop where
 row:wr.ownsRow w.heap.size 268 8 v l.length (l.flatMap gB)
 sts:fY wr (Qk kp mk U fun b=>X b/\v.ownBlock≠some b) mp (jE wr (Qk kp mk U fun b=>X b/\v.ownBlock≠some b) mp N2) (gz wr (Qk kp mk U fun b=>X b/\v.ownBlock≠some b) mp N2) (gs.take k) l
 kin:wo kp mk W0 mu S mp P wr N' N2 U (fun b=>X b/\v.ownBlock≠some b)
 ext:∀t p,pm t=some p->N2 t=some p
 kep:dl [mk] w wr
 ul:∀u∈U,u<w.heap.size
 wl:W0<=w.heap.size
end
section
variable {kp mk W0:Nat} {mu:Int} {S:dG} {mp:am->Option Nat} {P:ap}
theorem Qk.mono {U:au}{X Y:ap}{b:Nat}(h:Qk kp mk U X b)(hx:X b->Y b):Qk kp mk U Y b:=⟨h.1,h.2.1,h.2.2.1,hx h.2.2.2⟩
theorem rI.less {w:an}{N:Nat}{pm:am->Option Nat}{U:au}{X Y:ap}(h:rI kp mk mu S mp w N pm U X)(hx:∀b,X b->b<w.heap.size->Y b):rI kp mk mu S mp w N pm U Y:=
 ⟨h.kb,h.mb,h.ne,h.ct,h.inj,fun t p hp=>by
  rcases h.pl t p hp with h1|⟨d,gs,h1,h2,h3⟩
  ·exact .inl h1
  ·exact .inr ⟨d,gs,h1,h2,h3.move (.mono fun b q l=>q.mono fun q=>hx b q l) (fun _ _ q=>q)⟩⟩
theorem Gh.snoc {w:an}{pm:am->Option Nat}{U:au}{X:ap}{gs:List GF}{wr w1 w7 w8:an}{v:Value}{k:Nat}{l:List py}{N' N1:Nat}{N2 Oa:am->Option Nat}{g:GF}{x:py}{gg cap:Nat}{o:Obj}
  (h:Gh kp mk W0 mu S mp P w pm U X gs wr v k l N' N2) (ok1:rI kp mk mu S mp w1 N1 Oa U fun b=>X b/\v.ownBlock≠some b) (hx:∀t p,N2 t=some p->Oa t=some p) (k1:dl [mk] wr w1) (b7:aj w1 w7)
  (hst:kH w7 (Qk kp mk U fun b=>X b/\v.ownBlock≠some b) mp (jE w7 (Qk kp mk U fun b=>X b/\v.ownBlock≠some b) mp Oa) (gz w7 (Qk kp mk U fun b=>X b/\v.ownBlock≠some b) mp Oa) g x) (hg:gs[k]?=some g)
  (N3:w8.ownsRow w.heap.size 268 8 (.slice (some (ai gg 0)) (l.length+1) cap) (l.length+1) (l.flatMap gB++gB x)) (hgrow:(w7.alloc o).grownBy w8 v.ownBlock) (hat:v.ownBlock=some gg\/gg=w7.heap.size+1) (hl8:gg<w8.heap.size):
  Gh kp mk W0 mu S mp P w pm U X gs w8 (.slice (some (ai gg 0)) (l.length+1) cap) (k+1) (l++ [x]) N1 Oa:=by
 have Oq:(Value.slice (some (ai gg 0)) (l.length+1) cap).ownBlock=some gg:=rfl;have hv:=fun b hb=>(h.row.lt b hb)
 have I:=h.kin;have Og:∀b,v.ownBlock≠some b->b<w7.heap.size->w8.heap[b]?=w7.heap[b]?:=fun b hb hl=>(hgrow.block b (by simp;omega) (fun e=>hb e.symm)).trans (Below.heap_alloc _ _ b hl)
 have OQ:∀b,v.ownBlock≠some b->b<w7.heap.size->gg≠b:=fun b hb hl e=>by
  subst e
  rcases hat with q|q
  ·exact hb q
  ·omega
 have N7:Mv w7 (Qk kp mk U fun b=>X b/\v.ownBlock≠some b) w8 (Qk kp mk U fun b=>X b/\(Value.slice (some (ai gg 0)) (l.length+1) cap).ownBlock≠some b):=fun b q hl=>
  ⟨q.mono fun q=>⟨q.1,fun e=>OQ b q.2 hl (Option.some.inj (Oq▸e))⟩,Og b q.2.2.2.2 hl⟩
 have hgw:w.heap.size<=gg:=(N3.lt gg rfl).1;have hold:∀b,b<w.heap.size->v.ownBlock≠some b:=fun b hb e=>by have:=(hv b e).1;omega
 have z1:=k1.size;have z7:=b7.size;have zw:=h.kep.size;have hwl:=h.wl;have OR:=I.kl;have OS:=I.ml;have N8:Mv wr (Qk kp mk U fun b=>X b/\v.ownBlock≠some b) w7 (Qk kp mk U fun b=>X b/\v.ownBlock≠some b):=fun b q hl=>⟨q,(b7.block b (by omega)).trans (k1.block b hl (by simp;exact q.1))⟩
 have Od:=ok1.keep (w':=w7) fun b hl=>b7.block b hl
 have OT:gs.take (k+1)=gs.take k++ [g]:=by rw[bu,hg];rfl
 have kf:dl [mk] w w8:=⟨hgrow.os.trans (b7.os.trans (k1.os.trans h.kep.os)),hgrow.tape.trans (b7.tape.trans (k1.tape.trans h.kep.tape)),hgrow.output.trans (b7.output.trans (k1.output.trans h.kep.output)),by have:=hgrow.size;simp at this;omega,
  fun b hl hm=>(Og b (hold b hl) (by omega)).trans ((b7.block b (by omega)).trans ((k1.block b (by omega) hm).trans (h.kep.block b hl hm)))⟩
 refine⟨by simpa [bZ]using N3,?_,⟨⟨?_,?_,Od.ne,Od.ct,Od.inj,fun t p hp=> ?_⟩,?_,by have:=kf.size;omega,fun u hu=>⟨(I.uu u hu).1,by have:=h.ul u hu;have:=kf.size;omega⟩,fun b hb=>⟨(I.xx b hb).1,fun e=> ?_⟩,fun b hb=>⟨(I.xn b (by have:=hgrow.size;simp at this;omega)).1,fun e=> ?_⟩,I.hp,I.kl,I.ml⟩,fun t p q=>hx _ _ (h.ext t p q),kf,h.ul,h.wl⟩
 ·rw[OT];exact fY.snoc (hst.move N7 (fun u hu=>hu.move N7 (fun _ _ q=>q)) fun u hu=>hu.move N7 (fun _ _ q=>q)) (h.sts.move (fun b q hl=>⟨(N7 b (N8 b q hl).1 (by omega)).1,(N7 b (N8 b q hl).1 (by omega)).2.trans (N8 b q hl).2⟩) (fun _ _ u hu=>(hu.move N8 hx).move N7 (fun _ _ q=>q)) fun _ _ u hu=>(hu.move N8 hx).move N7 (fun _ _ q=>q))
 ·exact(Og kp (hold kp (by omega)) Od.kb.lt).trans Od.kb
 ·exact Od.mb.keep (Og mk (hold mk (by omega)) Od.mb.lt)
 ·rcases Od.pl t p hp with⟨q1,q2,q3⟩|⟨d,O3,q1,q2,q3⟩
  ·exact .inl ⟨q1,(Og p (hold p (h.ul p q1)) q2.lt).trans q2,q3⟩
  ·exact .inr ⟨d,O3,q1,q2,q3.move N7 (fun _ _ q=>q)⟩
 ·refine I.md.keep fun b hb hl=> ?_
  have OU:=I.hp b hb;exact(Og b (hold b (by omega)) (by omega)).trans ((b7.block b (by omega)).trans (k1.block b hl (by simp;exact OU.2.1)))
 ·have:=Option.some.inj (Oq▸e);have:=(I.hp b hb).1;omega
 ·have:=Option.some.inj (Oq▸e);omega
end
section
variable (kp mk W0:Nat) (mu:Int) (S:dG) (mp:am->Option Nat) (P:ap)
theorem CI (n:Nat)(gs:List GF)(MK:lB)(HW:∀g∈gs,sG kp mk W0 mu S mp P n g):Bt kp mk W0 mu S mp P n gs:=by
 intro w N pm U X mb nm I hn hM hgl;obtain⟨i0,O4,O5,O6,O7⟩:=info_parts Gg;obtain⟨fv,Oo,h1,hPb,N3,OI⟩:=id hM;obtain⟨fa,fc,rfl⟩:=gS N3.1;have hfn:=OI.len
 have A0:Gh kp mk W0 mu S mp P w pm U X gs w (ah) 0 [] N pm:=
  ⟨aX _ _ _ _,rfl,⟨I.ok.less fun b q _=>⟨q,by simp[Value.ownBlock]⟩,I.md,I.w0,I.uu,fun b q=>⟨I.xx b q,by simp[Value.ownBlock]⟩,fun b q=>⟨I.xn b q,by simp[Value.ownBlock]⟩,I.hp,I.kl,I.ml⟩,fun _ _ q=>q,dl.refl _ _,fun u hu=>(I.uu u hu).2,I.w0⟩
 have Ot:=I.hp;have OR:=I.kl;have OS:=I.ml;have hw0:=I.w0;have OV:Hid (∀b,w.heap.size<=b->X b):=I.xn;obtain⟨k1,k2⟩:=h1.rules;clear I;go_enter Tryz.func140,Tryz.ntmps140
 go_wp2_with fail
 go_loopw [5,14] (fun v i wr=>∃(k:Nat) (l:List py) (N':Nat) (N2:am->Option Nat),k<=gs.length/\i=aa k/\Gh kp mk W0 mu S mp P w pm U X gs wr v k l N' N2) (fun _ i _=>gs.length-(intOf i).toNat)
 case atStart=>exact⟨0,[],N,pm,aM _,rfl,A0⟩
 case round=>
  clear A0;obtain⟨k,l,N',N2,hk,rfl,A⟩:=hrel;obtain⟨va,vc,rfl⟩:=gS A.row
  by_cases hlt:k<gs.length
  ·obtain⟨g,hg⟩:=gx hlt;obtain⟨fb,Ox,O8⟩:=OI.get hg;have OE:∀b,P b->b<w.heap.size->wr.heap[b]?=w.heap[b]?:=fun b hb hl=>A.kep.block b hl (by simp;exact(Ot b hb).2.1)
   have Ou:dP wr P mp g fb:=O8.keep OE;have Oi:=N3.keep OE;have OF:=HW g (aI hg) wr N' N2 U _ fb A.kin (aG (DE A.ext) hn) Ou;obtain⟨g0,rfl,_,hgl0,Of⟩:=dE Oi.1 (by omega);have hq:=Of wr rfl k (ag fb) (by simp[dV,Ox,ft]);have Ov:decide ((k:Int)<(Oo.length:Int))=true:=by simp;omega
   have hkb:k<Oo.length:=by omega
   have HG:Hid (gs[k]?=some g):=hg;have HB:Hid (Oo[k]?=some fb):=Ox;clear Of hg Ox k1 k2;go_wp2_with fail
   refine OF.mono ?_;rintro e w1 ⟨iv,N1,Oa,rfl,Oy,ok1,hx1,Ol⟩;obtain⟨iq,rfl⟩:=Oy.form;have Ow:dP w1 P mp g fb:=Ou.keep fun b hb hl=>Ol.block b hl (by simp;exact(Ot b hb).2.1)
   obtain⟨pv,rv,h2,Oz,OA,Oc⟩:=Ow.blk;obtain⟨pq,rfl⟩:=eT Oc;obtain⟨ra,rc,rfl⟩:=gS OA.1;have I1:=A.kin.on ok1 Ol;have Oh:∀W,aj w1 W->dP W P mp g fb:=fun W hW=>Ow.keep (fun b _ hl=>hW.block b hl)
   have OW:dC mp g<=16:=by
    unfold dC
    split
    ·exact ay _
    ·exact qC _ _
   have OG:=fun W=>nj W (dC mp g) (.pointer pq) OW
   have OH:∀W,aj w1 W->Calls Tryz.prog 209 #[ag fb] W fun e w'=>e= .returned (.bool (fG mp g))/\Below W.heap.size W w':=fun W hW=>jW W P mp g fb (Oh W hW)
   have hC:=fun W hW=>MK.c W P mp g fb iq (Oh W hW)
   have OX:=fun W hW=>MK.m W P mp g fb iq (Oh W hW)
   have OY:=fun W hW=>MK.w W P mp g fb iq (Oh W hW)
   have OZ:∀W,aj w1 W->Calls Tryz.prog 213 #[ag fb,.pointer iq] W (g8 W fun w' v=>sF w' (Qk kp mk U fun b=>X b/\(Value.slice va l.length vc).ownBlock≠some b) (jE w' (Qk kp mk U fun b=>X b/\(Value.slice va l.length vc).ownBlock≠some b) mp Oa) g v):=fun W hW=>
    u6 W _ P mp Oa g fb (.pointer iq) MK.p MK.e (fun b hb=>I1.nq (aG hW.size hb)) (fun b hb=>I1.pq hb) (Oh W hW) (Oy.move (.keep fun b _ hl=>hW.block b hl) (fun _ _ q=>q))
   have Oj:w1.ownsRow w.heap.size 268 8 (.slice va l.length vc) l.length (l.flatMap gB):=dz A.row fun b hb=>Ol.block b (A.row.lt b hb).2 (by simp;have:=(A.row.lt b hb).1;omega)
   have hfW:fb<W0:=(Ot fb Oz).1;have HO:Hid (some fb≠(Value.slice va l.length vc).ownBlock):=fun e=>by have:=(A.row.lt fb e.symm).1;omega
   have hll:l.length<=2001:=by have:=A.sts.len;rw[be]at this;omega
   have d0:aj w1 w1.drew:=(Below.refl _ _).drew;have zk:=Ol.size;have zw:=A.kep.size;have HR:Hid (dJ w1 (Qk kp mk U fun b=>X b/\(Value.slice va l.length vc).ownBlock≠some b) 3 1 (.slice ra g.riv.length rc) g.riv.length (eL g.riv)):=OA.mono (fun b hb _=>I1.pq hb);clear Oc OA Ou Oh OF Ow;have O1:de w1.drew fb #[aa g.f.num,aa g.form,aa (dC mp g),.pointer pq,.slice ra g.riv.length rc] 220:=h2;obtain⟨wk,OJ⟩:∃wk:Int,(dL (dC mp g):Int)=wk:=⟨_,rfl⟩;rw[OJ]at OG;obtain⟨pk,OL⟩:∃pk,fG mp g=pk:=⟨_,rfl⟩;rw[OL]at OH;go_upto_region 6 with fail
   go_region_held3 (fun W=>W.cell? (ai fb 0)=some (aa g.f.num)/\W.cell? (ai fb 2)=some (aa (dC mp g))/\W.cell? (ai fb 3)=some (.pointer pq)/\W.cell? (ai fb 4)=some (.slice ra g.riv.length rc))
    (first|exact xT K9|exact xT (K7.alloc _)|exact xT K7|exact xT K6|exact xT K5|exact xT K4|exact xT K3|exact xT K2|exact xT O1)
    (first|(refine step_append_lies _ (by rfl) _ _ _ (by rfl) w.heap.size 268 i0 _ 8 80 Tryz.underlying252 O4 O5 O6 O7 rfl (by omega) (.slice va l.length vc) l.length (l.flatMap gB) (by rfl) (Ok.alloc _) (ai w7.heap.size 0) 1 1 [_,_,_,_,_,_,_,_] (by rfl) (by rfl) (bl (t:=268) (fr:=(0,0)) (heap_alloc_new w7 _)) (by simp[Value.oneCell']) (by omega) (by unfold maxLen;omega) (by omega) (by simp;omega) (w7.heap.size+1) (by simp) ?_;intro gg cap w9 Om Ob OB OC;have K9:=(K7.alloc _).grown Ob HO.out)|(go_at_call 208;refine(OG _).mono ?_;rintro e w2 ⟨rfl,b2⟩;have c2:=cY d0 b2;have K2:=h2.below c2 h2.lt)|(go_at_call 209;refine(OH w2 c2).mono ?_;rintro e w3 ⟨rfl,b3⟩;have c3:=cY c2 b3;have K3:=h2.below c3 h2.lt)|(go_at_call 210;refine(hC w3 c3).mono ?_;rintro e w4 ⟨v4,rfl,E4,b4⟩;obtain⟨f4,a4,e4,_⟩:=id E4;obtain rfl:=e4.eq;have c4:=cY c3 b4;have K4:=h2.below c4 h2.lt)|(go_at_call 211;refine(OX w4 c4).mono ?_;rintro e w5 ⟨v5,rfl,E5,b5⟩;obtain⟨f5,a5,e5,_⟩:=id E5;obtain rfl:=e5.eq;have c5:=cY c4 b5;have K5:=h2.below c5 h2.lt)|(go_at_call 212;refine(OY w5 c5).mono ?_;rintro e w6 ⟨v6,rfl,E6,b6⟩;obtain⟨f6,a6,e6,_⟩:=id E6;obtain rfl:=e6.eq;have c6:=cY c5 b6;have K6:=h2.below c6 h2.lt)|(go_at_call 213;refine(OZ w6 c6).mono ?_;rintro e w7 ⟨rf,rfl,OM,b7⟩;obtain⟨f7,a7,rfl⟩:=OM.isFn;have c7:=cY c6 b7;have z7:=c7.size;have K7:=h2.below c7 h2.lt;have Ok:=dO c7 Oj))
   have ST:kH w7 (Qk kp mk U fun b=>X b/\(Value.slice va l.length vc).ownBlock≠some b) mp (jE w7 (Qk kp mk U fun b=>X b/\(Value.slice va l.length vc).ownBlock≠some b) mp Oa) (gz w7 (Qk kp mk U fun b=>X b/\(Value.slice va l.length vc).ownBlock≠some b) mp Oa) g ⟨g.f.num,aa wk,.bool pk,.slice ra g.riv.length rc,.func (.func f4) #[] a4.toArray,.func (.func f5) #[] a5.toArray,.func (.func f6) #[] a6.toArray,.func (.func f7) #[] a7⟩:=
    ⟨rfl,by rw[<-OJ],by rw[<-OL],HR.out.keep (fun b _ hl=>c7.block b hl),⟨iq,Oy.move (.keep fun b _ hl=>c7.block b hl) (fun _ _ q=>q),E4.move fun b q hl=>⟨I1.nq (aG c3.size q),(cY b5 (cY b6 b7)).block b hl⟩,E5.move fun b q hl=>⟨I1.nq (aG c4.size q),(cY b6 b7).block b hl⟩,E6.move fun b q hl=>⟨I1.nq (aG c5.size q),b7.block b hl⟩⟩,OM⟩
   have A2:=A.snoc ok1 hx1 Ol c7 ST HG.out Om Ob (OB.imp id id) OC;go_wp2;go_roundw
   case rel=>exact⟨k+1,_,N1,Oa,by omega,by go_num,A2⟩
   case measure=>simp[intOf];omega
  ·have Ov:decide ((k:Int)<(Oo.length:Int))=false:=by simp;omega
   obtain rfl:k=gs.length:=by omega
   have HE:Hid (∃l0,dJ wr (Qk kp mk U X) 268 8 (.slice va l.length vc) l0.length (l0.flatMap gB)/\fY wr (Qk kp mk U X) mp (jE wr (Qk kp mk U X) mp N2) (gz wr (Qk kp mk U X) mp N2) gs l0):=by
    have hs:=A.sts;rw[aY]at hs;have N7:Mv wr (Qk kp mk U fun b=>X b/\(Value.slice va l.length vc).ownBlock≠some b) wr (Qk kp mk U X):= .mono fun b q _=>q.mono fun q=>q.1
    refine⟨l,⟨mq A.row (aM _),fun b hb=> ?_⟩,hs.move N7 (fun _ _ u hu=>hu.move N7 (fun _ _ q=>q)) fun _ _ u hu=>hu.move N7 (fun _ _ q=>q)⟩;have O2:=(A.row.lt b hb).1;exact⟨by omega,by omega,fun q=>by have:=A.ul b q;omega,OV.out b O2⟩
   have HK:Hid (rI kp mk mu S mp wr N' N2 U X):=A.kin.ok.less fun b q _=>q.1
   go_wp2;go_ret;exact⟨_,N',N2,rfl,HE.out,HK.out,A.ext,A.kep⟩
theorem II (MK:lB):∀n,M2 kp mk W0 mu S mp P n:=by
 intro n
 induction n using Nat.strongRecOn with
 |_ n ih=>
 refine M4 kp mk W0 mu S mp P n fun m gs hm=> ?_
 have hO:=ih m hm;have h0:∀g:GF,g.form≠4->sG kp mk W0 mu S mp P m g:=fun g h4=>DK kp mk W0 mu S mp P m g h4 hO
 refine CI kp mk W0 mu S mp P m gs MK fun g _=> ?_
 by_cases h4:g.form=4
 ·refine DL kp mk W0 mu S mp P m g h4 (CI kp mk W0 mu S mp P m _ MK fun g' Oe=>h0 g' ?_);simp only[aL,bG,or_false]at Oe
  rcases Oe with rfl|rfl
  ·simp[jj]
  ·simp[jj]
 ·exact h0 g h4
end
end
end Go.Proofs.YtfebdimolnobaaaGreatDoor
namespace Go.Proofs
abbrev Tryz.muLink:Go.Conc.Locks.MuLink:={lock:=86,unlock:=87,ilock:=138,iunlock:=139,lockSlow:=203,unlockSlow:=206,disable:=199,enable:=201,acquire:=202,relMerge:=204,cas32:=200,add32:=205,tMutex:=168,tIMutex:=166,tPMutex:=251,tPIMutex:=318,tPI32:=320,tUP:=322,tNoCopy:=163,tU32:=164}
theorem Tryz.muLib:Go.Conc.Locks.MuLib Tryz.prog Tryz.muLink:=
 ⟨Tryz.func86,Tryz.func87,Tryz.func138,Tryz.func139,Tryz.func199,Tryz.func201,Tryz.func202,Tryz.func204,Tryz.func200,Tryz.func205,Tryz.underlying166,Tryz.runUnderlying166,Tryz.sizeOf166,Tryz.isAgg166,Tryz.zeroValue166,Tryz.underlying168,Tryz.runUnderlying168,Tryz.sizeOf168,Tryz.isAgg168,Tryz.zeroValue168,Tryz.underlying251,Tryz.runUnderlying251,Tryz.sizeOf251,Tryz.isAgg251,Tryz.zeroValue251,Tryz.underlying318,Tryz.runUnderlying318,Tryz.sizeOf318,Tryz.isAgg318,Tryz.zeroValue318,Tryz.underlying320,Tryz.runUnderlying320,Tryz.sizeOf320,Tryz.isAgg320,Tryz.zeroValue320,Tryz.underlying322,Tryz.runUnderlying322,Tryz.sizeOf322,Tryz.isAgg322,Tryz.zeroValue322,Tryz.underlying163,Tryz.runUnderlying163,Tryz.sizeOf163,Tryz.isAgg163,Tryz.zeroValue163,Tryz.underlying21,Tryz.runUnderlying21,Tryz.sizeOf21,Tryz.isAgg21,Tryz.zeroValue21,(by kernel_rfl)⟩
end Go.Proofs
namespace Go.Proofs.YtfebdimolnobaaaGreatDoor
open Go.RowKit Go.Maps
attribute [local go_sem↓] Go.wp_at_zero Go.wp_at_succ
section
variable {kp mk:Nat} {mu mu':Int} {S:dG} {mp:am->Option Nat} {w:an} {N:Nat} {pm:am->Option Nat} {U:au} {X:ap}
theorem rI.mutex (h:rI kp mk mu S mp w N pm U X)(hU:kp∉U):rI kp mk mu' S mp (w.setCell (ai kp 0) (.int .i32 mu')) N pm U X:=by
 have hk:∀b,b≠kp->(w.setCell (ai kp 0) (.int .i32 mu')).heap[b]?=w.heap[b]?:=fun b hb=>dp (fun e=>hb e.symm)
 refine⟨by simpa using h.kb.set 0 (.int .i32 mu'),h.mb.keep (hk _ h.ne),h.ne,h.ct,h.inj,fun t p hp=> ?_⟩
 rcases h.pl t p hp with⟨q1,q2,q3⟩|⟨d,gs,q1,q2,q3⟩
 ·exact .inl ⟨q1,(hk p (fun e=>hU (e▸q1))).trans q2,q3⟩
 ·exact .inr ⟨d,gs,q1,q2,q3.keep (fun b q _=>hk b q.2.1) (fun _ _ q=>q)⟩
end
section
variable (kp mk W0:Nat) (S:dG) (mp:am->Option Nat) (P:ap)
theorem Ka (MK:lB)(w:an)(N:Nat)(pm:am->Option Nat)(mb:Nat)(d:MT)(gs:List GF)(X:ap)(I:wo kp mk W0 0 S mp P w N pm [] X)(hd:S.msg d.name=some d)(hM:gD w P mp mb d.name gs)(hG:ja S mp d gs)(hsz:d.name.size<=2000):
  Calls Tryz.prog 48 #[ag kp,ag mb] w fun e w'=>∃p N' N2,e= .returned (ag p)/\N2 d.name=some p/\rI kp mk 0 S mp w' N' N2 [] X/\(∀t p,pm t=some p->N2 t=some p)/\dl [mk,kp] w w':=by
 have N3:=I.ok.kb;have ok1:=I.ok.mutex (mu':=1) (by simp)
 have I1:wo kp mk W0 1 S mp P (w.setCell (ai kp 0) (.int .i32 1)) N pm [] X:=
  ⟨ok1,I.md.keep fun b hb _=>dp (fun e=>(I.hp b hb).2.2 e.symm),by simpa using I.w0,by simp,I.xx,fun b hb=>I.xn b (by simpa using hb),I.hp,I.kl,I.ml⟩
 have hC:=II kp mk W0 1 S mp P MK (lz S pm) (w.setCell (ai kp 0) (.int .i32 1)) N pm [] X mb d gs I1 (ay _) hd (hM.keep fun b hb _=>dp (fun e=>(I.hp b hb).2.2 e.symm)) hG hsz;have hL:=Go.MuLone.lock_free Tryz.muLib (ai kp 0) w (N3.cell 0) (N3.rules.2 0);obtain⟨k1,k2⟩:=N3.rules;have N7:=ok1.kb;go_enter_defers Tryz.func48,Tryz.ntmps48
 go_wp2_with fail
 refine hL.mono ?_;rintro e w1 ⟨rfl,rfl⟩;obtain⟨k3,k4⟩:=N7.rules;clear k1 k2 hL;have hkl:=N7.lt;go_wp2_with fail
 have N8:dl [mk,kp] w (w.setCell (ai kp 0) (.int .i32 1)):=(dl.refl _ _).set1 (by simp) 0 _;generalize w.setCell (ai kp 0) (.int .i32 1)=w1 at*;refine hC.mono ?_;rintro e w2 ⟨v,N',N2,rfl,⟨p,rfl,hp⟩,ok2,hx,Ob⟩;have Oa:=ok2.kb;clear k3 k4;obtain⟨k5,k6⟩:=Oa.rules;go_wp2;refine leaves_cons (f:=87) (args:= #[ag kp]) (by simp) (by simp[go_sem]) ?_;refine(Go.MuLone.unlock_deferred Tryz.muLib (ai kp 0) .returning w2 (k5 0) (k6 0)).mono ?_;rintro e u' w'' ⟨rfl,rfl,rfl⟩;simp[Leaves,settle];refine⟨ag p,by simp[results,Tryz.results48],p,rfl,⟨N',N2,hp,ok2.mutex (by simp),hx,?_⟩⟩;exact(N8.trans (Ob.mono (by simp))).set1 (by simp) 0 _
end
end Go.Proofs.YtfebdimolnobaaaGreatDoor
namespace Go.Proofs.YtfebdimolnobaaaGreatDoor
open Go.RowKit
end Go.Proofs.YtfebdimolnobaaaGreatDoor
