import Derived.Test.YtfebdimolnobaaaGreatDoorPlJ
import Derived.Test.YtfebdimolnobaaaGreatDoorPxE
set_option maxRecDepth 100000
set_option maxHeartbeats 8000000
set_option linter.all false
namespace Go.Proofs.YtfebdimolnobaaaGreatDoor
open Go.RowKit Go.Proofs.Tryz
section
variable {lo b:Nat} {W:aw} {t v:Value} {T:TypeId}
structure Bx (lo:Nat)(W:aw)(on st vr:Bool)(t:Value)(b:Nat)(T:TypeId)(v:Value):Prop where
 made:on=true->t=ah b/\lo<=b/\jl W b T
 put:st=true->dX W b #[v] T
 dep:st=true->on=true/\vr=true
section
variable {lo:Nat} {W W':aw} {on st vr:Bool} {t:Value} {b:Nat} {T:TypeId} {v:Value}
theorem Bx.start:Bx lo W false false false t b T v:=⟨nofun,nofun,nofun⟩
theorem Bx.G (h:Bx lo W on st vr t b T v)(hb:Below W.heap.size W W'):Bx lo W' on st vr t b T v:=
 ⟨λe=>by
  have⟨h1,h2,u,h3⟩:=h.made e
  exact⟨h1,h2,u,h3.G hb h3.lt⟩,λe=>(h.put e).G hb (h.put e).lt,h.dep⟩
theorem Bx.alloc (h:Bx lo W on st vr t b T v)(o:Obj):Bx lo (W.alloc o) on st vr t b T v:=h.G ((Below.refl _ _).alloc (aE _) o)
theorem Bx.val (h:Bx lo W on st false t b T v)(v':Value):Bx lo W on st true t b T v':=
 ⟨h.made,λe=>(by cases(h.dep e).2),λe=>(by cases(h.dep e).2)⟩
theorem Bx.new (h:Bx lo W false st vr t b T v)(hl:lo<=W.heap.size)(u:Value):Bx lo (W.alloc (.cells #[u] T)) true st vr (ah W.heap.size) W.heap.size T v:=
 ⟨λ_=>⟨rfl,hl,u,dX.new _ _ _⟩,λe=>(by cases(h.dep e).1),λe=>(by cases(h.dep e).1)⟩
theorem Bx.store (h:Bx lo W true st true t b T v):Bx lo (W.setCell (aj b 0) v) true true true t b T v:=by
 have⟨h1,h2,h3⟩:=h.made rfl;have q:=dX.set1 h3 v;exact⟨λ_=>⟨h1,h2,v,q⟩,λ_=>q,λ_=>⟨rfl,rfl⟩⟩
theorem Bx.other (h:Bx lo W on st vr t b T v){c:Nat}(hne:on=true->c≠b)(x:Value):Bx lo (W.setCell (aj c 0) x) on st vr t b T v:=
 ⟨λe=>by
  have⟨h1,h2,h3⟩:=h.made e
  exact⟨h1,h2,h3.other 0 x (hne e)⟩,λe=>(h.put e).other 0 x (hne (h.dep e).1),h.dep⟩
theorem Bx.lt (h:Bx lo W on st vr t b T v)(e:on=true):b<W.heap.size:=by
 have⟨_,_,u,h3⟩:=h.made e;exact h3.lt
end
def ox (on1 on2:Bool)(b1 b2:Nat):Prop:=on1=true->on2=true->b1≠b2
theorem ox.sy {on1 on2:Bool}{b1 b2:Nat}(h:ox on1 on2 b1 b2):ox on2 on1 b2 b1:=λe1 e2 e=>h e2 e1 e.sy
theorem ox.new1 {on st vr:Bool}(h:Bx lo W on st vr t b T v):ox true on W.heap.size b:=λ_ e q=>by
 have:=h.lt e;omega
theorem ox.new2 {on st vr:Bool}(h:Bx lo W on st vr t b T v):ox on true b W.heap.size:=(ox.new1 h).sy
def Jo (on vr:Bool)(b n1 n2:Nat):Prop:=on=true->vr=true->b<n1\/n2<=b
section
variable {lo:Nat} {W W':aw} {on:Bool} {t:Value} {b:Nat} {T:TypeId} {n:Nat}
end
theorem iE (h:jl W b T):∃u,(∀off,W.cell? (aj b off)=(#[u]:aq)[off]?)/\(∀off,W.frozen? (aj b off)=false):=by
 obtain⟨u,h⟩:=h;exact⟨u,h.I⟩
end
section
open Vo
inductive Uk (wa:aw)(mp:an)(g:GF)(fb p wn:Nat)(Vt:Int)(sg:Bool)(W:aw):Array Bool->Act->Prop where
 |mk {l0 l1 l2 l3 l4 l5 l6 l7 l8 l9 l10 Vu Vx Vy Vz:Bool} {t5 t6 t7 t8 t9 VF VA VG VB VH VI VC:Value} (bP bQ bR:Nat) (pv:Value) (f0:l0=true->t8=ah fb) (f1:l1=true->t9=ah fb) (f2:l2=true->VF=ah fb) (f3:l3=true->VA=aa g.f.num) (f4:l4=true->VG=ah fb) (f5:l5=true->VB=aa Vt) (f6:l6=true->VH=ah fb) (f7:l7=true->VI= .agg #[aa (jB mp g.f.key),pv]) (f8:l8=true->VC= .bool sg) (B:Below wa.heap.size wa W) (xP:Bx (wa.heap.size) W l9 Vx l3 t5 bP 3 VA) (xQ:Bx (wa.heap.size) W l10 Vy l5 t6 bQ 3 VB) (xR:Bx (wa.heap.size) W Vu Vz l8 t7 bR 4 VC) (Vq:ox l9 l10 bP bQ) (Vr:ox l9 Vu bP bR) (Vs:ox l10 Vu bQ bR):Uk wa mp g fb p wn Vt sg W #[l0,l1,l2,l3,l4,l5,l6,l7,l8,l9,l10,Vu,Vx,Vy,Vz] ⟨#[ah fb,ah p,undef,ah wn,.nilFunc,t5,t6,t7,t8,t9,VF,VA,VG,VB,VH,VI,VC,undef],[]⟩
section
variable (w:aw) (Q P:ax) (mp:an) (g:GF) (fb p:Nat)
def yJ (hQ:∀b,w.heap.size<=b->Q b)(h:eZ w P mp g fb)(h4:g.form=4):Calls prog 377 #[ah fb,ah p] w (jM w λw' v=>P8 w' Q mp (λx=>x=p) g v):=by
 have hmf:= @wo;have⟨pv,rv,h0,_,Vv,VL⟩:=h.blk;obtain⟨pq,rfl⟩:=gK VL;obtain⟨ra,rn,rc,rfl⟩:=d5 Vv.1;have⟨B1,KI⟩:=d8 w #[ah p] 116;have Vw:eZ (w.alloc (am #[ah p] 116)) P mp g fb:=h.O (λb _ hl=>B1.block b hl);have h1:=h0.alloc (am #[ah p] 116);have VJ:=h1.lt;obtain⟨Vt,VD⟩:=Y9 (lw mp g);obtain⟨sg,VO⟩:=Y9 (iJ (jB mp g.f.key));have VK:=λW pv=>pr W (jB mp g.f.key) pv (uo mp _)
 rw[VO]at VK;clear VL Vv h;go_in
 go_upto_region 1 with fail
 obtain⟨wa,VE⟩:=Y9 (w.alloc (am #[ah p] 116));rw[VE]at B1 KI Vw h1 VJ;simp only[VE];have VM:w.heap.size<wa.heap.size:=KI.lt;clear VE h0
 have hL:∀W,Below wa.heap.size wa W->U8 186 #[ah fb] W λe w'=>e= .returned (aa Vt)/\w'=W:=λW hW=>by
  rw[<-VD];exact sX W P mp g fb (Vw.O (λb _ hl=>hW.block b hl))
 have VN:∀W,Below wa.heap.size wa W->U8 188 #[ah fb] W λe w'=>∃pv,e= .returned (.agg #[aa (jB mp g.f.key),pv])/\Below W.heap.size W w':=λW hW=>Hm W P mp g fb (Vw.O (λb _ hl=>hW.block b hl)) h4
 clear Vw;go_cut [5,6,7]from 8 to 16 (λx y z wx=>∃nb lb sb,x=ah nb/\y=ah lb/\z=ah sb/\dX wx nb #[aa g.f.num] 3/\dX wx lb #[aa Vt] 3/\dX wx sb #[.bool sg] 4/\wa.heap.size<=nb/\wa.heap.size<=lb/\wa.heap.size<=sb/\Below wa.heap.size wa wx)
 case first=>
  refine kD (λL a W=>Uk wa mp g fb p w.heap.size Vt sg W L a) Vi ⟨0,0,0,undef,nofun,nofun,nofun,nofun,nofun,nofun,nofun,nofun,nofun,(Below.refl _ _).drew,Bx.start,Bx.start,Bx.start,nofun,nofun,nofun⟩ Vh ?_ ?_;.rintro L a W @⟨l0,l1,l2,l3,l4,l5,l6,l7,l8,l9,l10,Vu,Vx,Vy,Vz,t5,t6,t7,t8,t9,VF,VA,VG,VB,VH,VI,VC,bP,bQ,bR,pv,f0,f1,f2,f3,f4,f5,f6,f7,f8,B,xP,xQ,xR,Vq,Vr,Vs⟩ Vp;obtain rfl:l3=true:=Vp 3 Vf;obtain rfl:l5=true:=Vp 5 Vf;obtain rfl:l8=true:=Vp 8 Vf;obtain rfl:l9=true:=Vp 9 Vf;obtain rfl:l10=true:=Vp 10 Vf;obtain rfl:Vu=true:=Vp 11 Vf;obtain rfl:Vx=true:=Vp 12 Vf;obtain rfl:Vy=true:=Vp 13 Vf;obtain rfl:Vz=true:=Vp 14 Vf;obtain⟨rfl,zP,_⟩:=xP.made rfl;obtain⟨rfl,zQ,_⟩:=xQ.made rfl;obtain⟨rfl,zR,_⟩:=xR.made rfl;obtain rfl:=f3 rfl;obtain rfl:=f5 rfl;obtain rfl:=f8 rfl;have KP:=xP.put rfl;have KQ:=xQ.put rfl;have KR:=xR.put rfl;go_wp2;go_meet;grind
  refine .cons ?_ (.cons ?_ (.cons ?_ (.cons ?_ (.cons ?_ (.cons ?_ (.cons ?_ (.cons ?_ (.cons ?_ (.cons ?_ (.cons ?_ (.cons ?_ (.cons ?_ (.cons ?_ (.cons ?_ .nil))))))))))))))
  all_goals
   rintro L a W ⟨bP,bQ,bR,pv,f0,f1,f2,f3,f4,f5,f6,f7,f8,B,xP,xQ,xR,Vq,Vr,Vs⟩ h0 hd K hK;subst h0
  .clear hd;go_simp;refine hK.out _ _ ?_;simp only[U6];exact⟨bP,bQ,bR,pv,λ_=>rfl,f1,f2,f3,f4,f5,f6,f7,f8,B,xP,xQ,xR,Vq,Vr,Vs⟩
  .obtain rfl:=eV (k:=0) hd Vh;obtain rfl:=f0 rfl;clear hd;go_simp;refine hK.out _ _ ?_;simp only[U6];exact⟨bP,bQ,bR,pv,λ_=>rfl,λ_=>rfl,f2,f3,f4,f5,f6,f7,f8,B,xP,xQ,xR,Vq,Vr,Vs⟩
  .obtain rfl:=eV (k:=1) hd Vh;obtain rfl:=f1 rfl;clear hd;go_simp;refine hK.out _ _ ?_;simp only[U6];exact⟨bP,bQ,bR,pv,f0,λ_=>rfl,λ_=>rfl,f3,f4,f5,f6,f7,f8,B,xP,xQ,xR,Vq,Vr,Vs⟩
  .obtain rfl:=eV (k:=2) hd Vh;obtain rfl:=f2 rfl;have KF:=h1.G B VJ;have⟨k1,k2⟩:=KF.I;clear hd;go_simp;refine hK.out _ _ ?_;simp only[U6];exact⟨bP,bQ,bR,pv,f0,f1,λ_=>rfl,λ_=>rfl,f4,f5,f6,f7,f8,B,(xP.val _),xQ,xR,Vq,Vr,Vs⟩
  .clear hd;go_simp;refine hK.out _ _ ?_;simp only[U6];exact⟨bP,bQ,bR,pv,f0,f1,f2,f3,λ_=>rfl,f5,f6,f7,f8,B,xP,xQ,xR,Vq,Vr,Vs⟩
  .obtain rfl:=eV (k:=4) hd Vh;obtain rfl:=f4 rfl;clear hd;go_simp;go_wp2_with (first|(go_at_call 186;refine(hL _ B).V ?_;rintro e _ ⟨rfl,rfl⟩))
   refine hK.out _ _ ?_;simp only[U6];exact⟨bP,bQ,bR,pv,f0,f1,f2,f3,λ_=>rfl,λ_=>rfl,f6,f7,f8,(dU B (Below.refl _ _)),(xP.G (Below.refl _ _)),((xQ.G (Below.refl _ _)).val _),(xR.G (Below.refl _ _)),Vq,Vr,Vs⟩
  .clear hd;go_simp;refine hK.out _ _ ?_;simp only[U6];exact⟨bP,bQ,bR,pv,f0,f1,f2,f3,f4,f5,λ_=>rfl,f7,f8,B,xP,xQ,xR,Vq,Vr,Vs⟩
  .obtain rfl:=eV (k:=6) hd Vh;obtain rfl:=f6 rfl;clear hd;go_simp;go_wp2_with (first|(go_at_call 188;refine(VN _ B).V ?_;rintro e w2 ⟨VP,rfl,b2⟩))
   refine hK.out _ _ ?_;simp only[U6];exact⟨bP,bQ,bR,VP,f0,f1,f2,f3,f4,f5,λ_=>rfl,λ_=>rfl,f8,(dU B b2),(xP.G b2),(xQ.G b2),(xR.G b2),Vq,Vr,Vs⟩
  .obtain rfl:=eV (k:=7) hd Vh;obtain rfl:=f7 rfl;clear hd;go_simp;go_wp2_with (first|(go_at_call 189;refine(VK _ pv).V ?_;rintro e w3 ⟨rfl,b3⟩))
   refine hK.out _ _ ?_;simp only[U6];exact⟨bP,bQ,bR,pv,f0,f1,f2,f3,f4,f5,f6,λ_=>rfl,λ_=>rfl,(dU B b3),(xP.G b3),(xQ.G b3),((xR.G b3).val _),Vq,Vr,Vs⟩
  .clear hd;go_simp;refine hK.out _ _ ?_;simp only[U6];exact⟨W.heap.size,bQ,bR,pv,f0,f1,f2,f3,f4,f5,f6,f7,f8,(B.alloc B.size _),(xP.new B.size _),(xQ.alloc _),(xR.alloc _),(ox.new1 xQ),(ox.new1 xR),Vs⟩
  .clear hd;go_simp;refine hK.out _ _ ?_;simp only[U6];exact⟨bP,W.heap.size,bR,pv,f0,f1,f2,f3,f4,f5,f6,f7,f8,(B.alloc B.size _),(xP.alloc _),(xQ.new B.size _),(xR.alloc _),(ox.new2 xP),Vr,(ox.new1 xR)⟩
  .clear hd;go_simp;refine hK.out _ _ ?_;simp only[U6];exact⟨bP,bQ,W.heap.size,pv,f0,f1,f2,f3,f4,f5,f6,f7,f8,(B.alloc B.size _),(xP.alloc _),(xQ.alloc _),(xR.new B.size _),Vq,(ox.new2 xP),(ox.new2 xQ)⟩
  .obtain rfl:=eV (k:=9) hd Vh;obtain rfl:=eV (k:=3) hd Vh;obtain⟨rfl,zP,yP⟩:=xP.made rfl;have⟨uP,cP,kP⟩:=iE yP;obtain rfl:=f3 rfl;clear hd;go_simp;refine hK.out _ _ ?_;simp only[U6];exact⟨bP,bQ,bR,pv,f0,f1,f2,λ_=>rfl,f4,f5,f6,f7,f8,(B.setCell (p:=(aj bP 0)) zP _),xP.store,(xQ.other (λe=>Vq rfl e) _),(xR.other (λe=>Vr rfl e) _),Vq,Vr,Vs⟩
  .obtain rfl:=eV (k:=10) hd Vh;obtain rfl:=eV (k:=5) hd Vh;obtain⟨rfl,zQ,yQ⟩:=xQ.made rfl;have⟨uQ,cQ,kQ⟩:=iE yQ;obtain rfl:=f5 rfl;clear hd;go_simp;refine hK.out _ _ ?_;simp only[U6];exact⟨bP,bQ,bR,pv,f0,f1,f2,f3,f4,λ_=>rfl,f6,f7,f8,(B.setCell (p:=(aj bQ 0)) zQ _),(xP.other (λe=>Vq.sy rfl e) _),xQ.store,(xR.other (λe=>Vs rfl e) _),Vq,Vr,Vs⟩
  .obtain rfl:=eV (k:=11) hd Vh;obtain rfl:=eV (k:=8) hd Vh;obtain⟨rfl,zR,yR⟩:=xR.made rfl;have⟨uR,cR,kR⟩:=iE yR;obtain rfl:=f8 rfl;clear hd;go_simp;refine hK.out _ _ ?_;simp only[U6];exact⟨bP,bQ,bR,pv,f0,f1,f2,f3,f4,f5,f6,f7,λ_=>rfl,(B.setCell (p:=(aj bR 0)) zR _),(xP.other (λe=>Vr.sy rfl e) _),(xQ.other (λe=>Vs.sy rfl e) _),xR.store,Vq,Vr,Vs⟩
 case rest=>
  obtain⟨nb,lb,sb,rfl,rfl,rfl,h5,h6,h7,q1,q2,q3,b3⟩:=hcut;go_wp2;go_ret;exact⟨_,rfl,⟨_,_,_,_,p,rfl,KI.G b3 VM,by grind,h5,by grind,rfl,hQ _ (aE _),hQ _ Vc,hQ _ Vc,hQ _ Vc⟩,dU B1 b3⟩
end
end
section
open Go.Maps
open Vo
def Rb (S:eD)(b:au)(w:aw)(d:MT)(pb:Nat)
  (h:∀(w3:aw) (Z:ax) (rb db:Nat),ak w w3->ee w3 rb (b.extract 0 b.size) 0 1->eM S 8 (some d) w3 Z db PM.none->(∀x,Z x->w.heap.size<=x/\x<w3.heap.size)->w.heap.size<=rb->¬Z rb->
   U8 89 #[ah pb,ah rb,ah db] w3 (iD S 7 d w3 Z rb db (b.extract 0 b.size) 1 (pN b.size (eW S b (b.size+1) d PM.none 0 b.size 1)))):
  Calls prog 49 #[ah pb,ag b] w (mD w (eW S b (b.size+1) d PM.none 0 b.size 1)):=by
 have hex:b.extract 0 b.size=b:=Vd;have B1:ak w (w.U5 #[ai,U7] 49):=(Below.refl _ _).alloc (aE _) _;have B2:=B1.alloc Vd (am #[ai,ai] 183);have B3:=B2.alloc Ve (am #[ag b,aa 0,aa 1] 244);have KR:=((dX.new w #[ai,U7] 49).alloc (am #[ai,ai] 183)).alloc (am #[ag b,aa 0,aa 1] 244);have KD:=(dX.newAt (w:=w.alloc (am #[ai,U7] 49)) (n:=w.heap.size+1) Vd #[ai,ai] 183).alloc (am #[ag b,aa 0,aa 1] 244);have KW:=dX.newAt (w:=(w.alloc (am #[ai,U7] 49)).alloc (am #[ai,ai] 183)) (n:=w.heap.size+1+1) Vd #[ag b,aa 0,aa 1] 244;have Vp:=Kn ((w.U5 #[ai,U7] 49).U5 #[ai,ai] 183) b;simp only[ci]at Vp;go_in
 go_wp2_with fail;refine Vp.V ?_;rintro e w' ⟨rfl,rfl⟩;have hsz:w.heap.size+3=(((w.alloc (am #[ai,U7] 49)).alloc (am #[ai,ai] 183)).alloc (am #[ag b,aa 0,aa 1] 244)).heap.size:=Vd;clear Vp B1 B2;go_wp2_with fail;generalize(((w.alloc (am #[ai,U7] 49)).alloc (am #[ai,ai] 183)).alloc (am #[ag b,aa 0,aa 1] 244))=w3 at*;have Vr:=h w3 (λx=>x=w.heap.size+1) (w.heap.size+1+1) (w.heap.size+1) B3 (by rw[hex];exact KW) (eM.fresh KD) (λx hx=>by subst hx;omega) Vc Vc;refine Vr.V ?_;intro e w4 hq;rcases hq.part with⟨x,hP,rfl,Z',st⟩|⟨m',hP,rfl,Z',st,hdr⟩;.unfold dY;go_wp2;exact⟨rfl,rfl,B3.J (st.belowW Vc (λx hx=>Vc) Vc)⟩
 .have B4:ak w w4:=B3.J (st.belowW Vc (λx hx=>Vc) Vc);have Vs:dX w4 w.heap.size #[ai,U7] 49:=(st.block w.heap.size Vc Vc Vc).J KR;have z4:=st.size;have hg:=st.grow;clear Vr hq st;go_wp2_with fail;refine(yx (S:=S) 8 (some d) w4 Z' (w.heap.size+1) m' hdr).V ?_;rintro e w5 ⟨v,Z2,rfl,hm,Vv,Vw⟩;obtain⟨va,vc,rfl⟩:=hm.form;have Vt:=Vs.G Vw Vs.lt;have⟨r1,r2⟩:=Vt.I
  have Vq:∀x,Z2 x->w.heap.size<x:=λx hx=>by
   rcases(Vv x hx).2 with h|h
   .rcases hg x h with h|h;.omega
    .omega
   .omega
  go_wp2
  have Vx:∀x,Z2 x->x<w5.heap.size->((w5.setCell (aj w.heap.size 0) (.slice va m'.fs.length vc)).setCell (aj w.heap.size 1) (ag m'.unk)).heap[x]?=w5.heap[x]?:=λx hx _=>by
   have Vu:w.heap.size≠x:=by have:=Vq x hx;omega
   rw[dW,dO Vu,dW,dO Vu]
  rw[hP];refine dR (el results49 _ _ rfl ((Vt.set 0 _).set 1 _) underlying49 Vh) rfl ⟨_,Z2,rfl,hm.O Vx,λx hx=>⟨cq (Vq x hx),by simp only[cD];exact(Vv x hx).1⟩,?_⟩;exact((dU B4 Vw).setCell (p:=(aj w.heap.size 0)) (aE _) _).setCell (p:=(aj w.heap.size 1)) (aE _) _
end
section
open Vo
section
variable {S:eD} {R:MT->PM->Bool} {f:fo} {l:List PV}
def Ii (n:Nat):((n==1)||decide (1<n))=decide (0<n):=by
 rw[cy];simp;omega
def Jw (hm:f.isMap=false)(hr:f.isRep=false)(hz:¬(gN f.how eS=true/\fB S f≠16)):fE S R f l=((l.length==1)&&l.all (eC S R f)):=by
 unfold fE nP ku;rw[hm,hr,dO hz];simp
def Jx (hm:f.isMap=false)(hr:f.isRep=false)(hz:gN f.how eS=true/\fB S f≠16):fE S R f l=((l.length==1)&&l.all λx=> !(decide (x.1=0)&&ou x.2.1)&&eC S R f x):=by
 unfold fE nP ku;rw[hm,hr,dP hz];by_cases h1:l.length=1;.obtain⟨x,rfl⟩:=List.length_eq_one_iff.1 h1;simp[Bool.and_comm]
 .have e:(l.length==1)=false:=by simpa using h1
  simp[e]
def Jy (hm:f.isMap=false)(hr:f.isRep=true)(hz:gN f.how eS=false):fE S R f l=(decide (0<l.length)&&l.all (eC S R f)):=by
 unfold fE nP ku;rw[hm,hr,hz,<-Ii];simp
def Jz (hm:f.isMap=true):fE S R f l=((decide (0<l.length)&&l.all (eC S R f))&&jG (iJ (S.base f.key)) none l):=by
 unfold fE nP ku;rw[hm,<-Ii];simp
def OQ.as {q q':List PV->Bool}{n g:Nat}{cap:ay}{W:aw}(h:OQ q n g cap W)(he:∀l,q' l=q l):OQ q' n g cap W:=by
 obtain rfl:q'=q:=funext he;exact h
end
def vJ (k:Nat):Nat:=if k=0\/k=4\/k=9\/k=15 then 347 else if k=2\/k=7\/k=11 then 348 else if k=6 then 351 else 411
def Mu (k:Nat)(x:Int):Int:=if k=0\/k=4\/k=9\/k=15 then mN x else if k=2\/k=7\/k=11 then x%4294967296 else if k=6 then(if 0<x then 1 else 0)else x
def yU (a b:Int):(a==b)=(b==a):=by rw[cy];simp;exact eq_comm
def Rh (k:Nat)(x:Int):(Mu k x==x)=zF k x:=by
 unfold Mu zF;split;.exact yU _ _
 .split;.exact yU _ _
  .split;.exact yU _ _
   .simp
def Gl (k:Nat):∀args w,(callFunc (vJ k) args).run prog w= .ok (.enter (vJ k) args) w:=by
 unfold vJ;split;.exact enters_of func347 Vh rfl
 .split;.exact enters_of func348 Vh rfl
  .split;.exact enters_of func351 Vh rfl
   .exact enters_of func411 Vh rfl
def JA (k:Nat)(W:aw)(x:Int)(h0:0<=x):Calls prog (vJ k) #[.int .u64 x] W λe w'=>e= .returned (.int .u64 (Mu k x))/\W=w':=by
 unfold vJ Mu;split;.exact(pp W x).V λ_ _ h=>⟨h.1,h.2.sy⟩
 .split;.exact(sV W x).V λ_ _ h=>⟨h.1,h.2.sy⟩
  .split;.exact(wD W x h0).V λ_ _ h=>⟨h.1,h.2.sy⟩
   .go_in
    go_wp2;go_ret;exact⟨rfl,rfl⟩
def Kp.back {Q:ax}{w w' W:aw}(h:Kp Q w' W)(b:ak w w'):Kp Q w W:=λi q hi=>(h i q (aI hi b.size)).J (b.block i hi)
def Kp.less {Q Q':ax}{w W:aw}(h:Kp Q w W)(hq:∀b,Q' b->Q b):Kp Q' w W:=λi q hi=>h i (hq i q) hi
section
variable (w:aw)
def SP (k:Nat)(hk:k<=16):Calls prog 363 #[aa k] w λe w'=>e= .returned (.func (.func (vJ k)) #[] #[])/\w=w':=by
 rcases AQ hk with rfl|rfl|rfl|rfl|rfl|rfl|rfl|rfl|rfl|rfl|rfl|rfl|rfl|rfl|rfl|rfl|rfl
 all_goals
  go_in
  go_wp2;go_ret;exact⟨rfl,rfl⟩
def vX (k:Nat)(pq iq:aC)(hk:k<=16):Calls prog 284 #[.agg #[aa k,.pointer pq],.pointer iq] w (jM w λw' v=>SD w' (λb=>w.heap.size<=b) k iq v):=by
 have Vq:= @wo;have hC:=λW=>SP W k hk
 have⟨B0,K1,K2⟩:=gY w #[aa k,.pointer pq] #[.pointer iq] 216 116;have⟨k1,k2⟩:=K1.I;by_cases h16:k=16
 .subst h16;go_in
  go_wp2;go_ret;refine⟨_,rfl,⟨360,[ah (w.heap.size+1)],⟨rfl,enters_of func360 Vh rfl⟩,λS fl n W hK hb hu Vp=> ?_⟩,B0⟩;have⟨t,h1,h2⟩:=Vp hb;exact TC _ iq t (hK.bx Vc K2) h2 hb h1
 .by_cases h13:k=13
  .subst h13;go_in
   go_wp2;go_ret;exact⟨_,rfl,⟨361,[],⟨rfl,enters_of func361 Vh rfl⟩,λS fl n W hK hb hu Vp=>TD hu hb⟩,B0⟩
  .by_cases h14:k=14
   .subst h14;go_in
    go_wp2;go_ret;exact⟨_,rfl,⟨362,[],⟨rfl,enters_of func362 Vh rfl⟩,λS fl n W hK hb hu Vp=>TE hb⟩,B0⟩
   .have e16:((k:Int)==16)=false:=Ve;have e13:((k:Int)==13)=false:=Ve;have e14:((k:Int)==14)=false:=Ve;go_in
    go_wp2_with fail;refine(hC _).V ?_;rintro e w2 ⟨rfl,rfl⟩;go_wp2;go_ret;have B1:=(Below.refl _ _).alloc (aE _) (w:=(w.U5 #[aa k,.pointer pq] 216).U5 #[.pointer iq] 116) (am #[.func (.func (vJ k)) #[] #[]] 423);refine⟨_,rfl,⟨364,_,⟨rfl,enters_of func364 Vh rfl⟩,λS fl n W hK hb hu Vp=> ?_⟩,dU B0 B1⟩;refine TF _ (vJ k) (Mu k) (hK.bx (b:=w.heap.size+1+1) Vc (dX.newAt Vd _ _)) (Gl k) (λW x h0 _=>JA k W x h0) (λx=>by rw[hb];exact Rh k x) (by rw[hb];exact h16) (by rw[hb];exact h13) (by rw[hb];exact h14)
def Mw (f:FuncId)(cap:aq):Calls prog 287 #[.func (.func f) #[] cap] w λe w'=>e= .returned (.func (.func 367) #[] #[ah w.heap.size])/\w.U5 #[.func (.func f) #[] cap] 398=w':=by
 have Vq:= @wo;go_in
 go_wp2;go_ret;exact⟨rfl,rfl⟩
def Mx (f:FuncId)(cap:aq):Calls prog 286 #[.func (.func f) #[] cap] w λe w'=>e= .returned (.func (.func 366) #[] #[ah w.heap.size])/\w.U5 #[.func (.func f) #[] cap] 398=w':=by
 have Vq:= @wo;go_in
 go_wp2;go_ret;exact⟨rfl,rfl⟩
def JB (f:FuncId)(cap:aq)(sg:Bool):Calls prog 285 #[.func (.func f) #[] cap,.bool sg] w λe w'=>
  ∃eb sb vb,e= .returned (.func (.func 365) #[] #[ah eb,ah sb])/\w.heap.size<=eb/\w.heap.size<=sb/\w.heap.size<=vb/\dX w' eb #[.func (.func 366) #[] #[ah vb]] 260/\dX w' sb #[.bool sg] 4/\dX w' vb #[.func (.func f) #[] cap] 398/\ak w w':=by
 have Vq:= @wo;have hE:=λW=>Mx W f cap
 go_in
 go_wp2_with fail;refine(hE _).V ?_;rintro e w2 ⟨rfl,rfl⟩;have⟨B2,K1,K2⟩:=gY w #[.bool sg] #[.func (.func f) #[] cap] 4 398;have s1:(w.alloc (am #[.bool sg] 4)).heap.size=w.heap.size+1:=Vd;rw[s1];go_wp2;go_ret;exact⟨w.heap.size+1+1,w.heap.size,w.heap.size+1,rfl,Vc,Vc,Vc,dX.newAt Vd _ _,K1.alloc _,K2.alloc _,dU B2 ((Below.refl _ _).alloc (aE _) _)⟩
end
end
end Go.Proofs.YtfebdimolnobaaaGreatDoor
