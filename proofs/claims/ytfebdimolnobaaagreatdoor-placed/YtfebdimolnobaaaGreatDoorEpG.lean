import Derived.Test.YtfebdimolnobaaaGreatDoorEpE
import Derived.Test.YtfebdimolnobaaaGreatDoorFaceA
set_option maxRecDepth 100000
set_option maxHeartbeats 8000000
set_option linter.all false
namespace Go.Proofs.YtfebdimolnobaaaGreatDoor
open Go.RowKit
section
attribute [local go_sem↓] Go.wp_at_zero Go.wp_at_succ
def IF (c:PV->List UInt8)(p:PV->Bool)(N f:Nat)(cap:aq)(W:an):Prop:=
 ∀(W':an) (Z:ap) (x:PV) (mv:Value) (k b:Nat) (l0:List UInt8),Below N W W'->fR k W' Z mv x.2.2->(∀i,Z i->i<N)->kT k x.2.2->0<=x.1->x.1<18446744073709551616->p x=true->d6 W' N b (dx b) l0->l0.length+(c x).length<=140737488355328->
  Calls Tryz.prog f (ew x mv::dx b::cap).toArray W' (gu N b l0 (c x) W')
def Mo (c:List PV->List UInt8)(p:PV->Bool)(N f:Nat)(cap:aq)(W:an):Prop:=
 ∀(W':an) (Z:ap) (vv:Value) (l:List PV) (k b:Nat) (l0:List UInt8),Below N W W'->mB (fR k W' Z) W' Z vv l->(∀i,Z i->i<N)->I9 k l->(∀x∈l,p x=true)->d6 W' N b (dx b) l0->l0.length+(c l).length<=140737488355328->
  Calls Tryz.prog f (vv::dx b::cap).toArray W' (gu N b l0 (c l) W')
def JX (S:dG)(iq:aw)(n:Nat)(t:MT)(N:Nat)(W:an):Prop:=
 ∀(W':an) (Z:ap) (v:Value) (m:PM) (k b:Nat) (l0:List UInt8),Below N W W'->fR k W' Z v m->(∀i,Z i->i<N)->kT k m->dm S n t m=true->d6 W' N b (dx b) l0->l0.length+(dD S n t m).length<=140737488355328->
  Calls Tryz.prog 99 #[.pointer iq,.agg #[v,ae m.unk],dx b] W' (gu N b l0 (dD S n t m) W')
section
variable {S:dG} {fl:ek} {n N:Nat} {W:an}
theorem MS (ib:Nat)(iq:aw)(t:MT)(hN:N<=W.heap.size)(hb:de W ib #[.pointer iq] 116)(hi:ib<N)(H:Bq S iq n t N W)(H2:JX S iq n t N W)(h16:fB S fl=16)(hsub:ed S fl=some t):
  IF (eV S (dD S n) fl) (dZ S (dm S n) fl) N 371 [ag ib] W:=by
 intro W' Z x mv k b l0 B hm hZ hO h0 h1 hp hW hl;show Calls Tryz.prog 371 #[ew x mv,dx b,ag ib] W' _;rw[CG h16 hsub]at hl⊢;have hR:=tV hp h16 hsub;unfold fm at hl;rw[aH]at hl;obtain⟨ma,mc,rfl⟩:=hm.form;obtain⟨B1,K1⟩:=di W' #[.int .u64 x.1,ae x.2.1,.slice ma x.2.2.fs.length mc,ae x.2.2.unk] 55;have N3:=aG hN B.size;have B2:=tX B B1 hN;have Od:=hb.below B2 hi;have HC:=H _ Z _ x.2.2 k B2 (hm.below B1 (ay _)) hO hR (by omega)
 have HW:Hid (∀(W2:an) (l2:List UInt8),Below N W' W2->d6 W2 N b (dx b) l2->l2.length+(dD S n t x.2.2).length<=140737488355328->Calls Tryz.prog 99 #[.pointer iq,.agg #[.slice ma x.2.2.fs.length mc,ae x.2.2.unk],dx b] W2 (gu N b l2 (dD S n t x.2.2) W2)):=fun W2 l2 h3 hw N8=>
  H2 W2 Z _ x.2.2 k b l2 (B.trans h3) (hm.under h3 hZ) hZ hO hR hw N8
 have Om:=hW.on B1;unfold ew;generalize dD S n t x.2.2=y at*;obtain⟨k1,k2⟩:=K1.rules;obtain⟨k3,k4⟩:=Od.rules;clear hR;go_enter Tryz.func371,Tryz.ntmps371
 go_wp2_with fail
 generalize W'.alloc (ak #[.int .u64 x.1,ae x.2.1,.slice ma x.2.2.fs.length mc,ae x.2.2.unk] 55)=w1 at*;refine HC.mono ?_;rintro e w2 ⟨rfl,b2⟩;have B3:=cY B1 b2;have Ok:=B3.size;go_wp2_with fail
 refine(nI y.length (Om.on b2) (by omega) (by omega) (by omega)).mono ?_;rintro e w3 ⟨rfl,q1,q2⟩;have Oo:=q2.fr _ _ _ (by decide) (by decide) (K1.below b2 K1.lt);have Oq:=q2.fr _ _ _ (by decide) (by decide) (Od.below b2 Od.lt);have Q:=(Wr.of B3 N3).trans q2;clear k1 k2 k3 k4;obtain⟨k1,k2⟩:=Oo.rules;obtain⟨k3,k4⟩:=Oq.rules;go_wp2_with fail
 refine(HW.out w3 _ Q.bel q1 (by rw[aH];omega)).mono ?_;rintro e w4 ⟨rfl,r1,r2⟩;go_wp2;go_end0;exact⟨rfl,by rw[aW]at r1;exact r1,Q.trans r2⟩
theorem MU (hN:N<=W.heap.size)(hk:fB S fl=13\/fB S fl=14):IF (eV S (dD S n) fl) (dZ S (dm S n) fl) N 372 [] W:=by
 intro W' Z x mv k b l0 B hm hZ hO h0 h1 hp hW hl;show Calls Tryz.prog 372 #[ew x mv,dx b] W' _;have hb:eV S (dD S n) fl x=fm x.2.1.data.toList:=by unfold eV;rw[if_neg (by omega),if_pos hk]
 rw[hb]at hl⊢;obtain⟨ma,mc,rfl⟩:=hm.form;obtain⟨B1,K1⟩:=di W' #[.int .u64 x.1,ae x.2.1,.slice ma x.2.2.fs.length mc,ae x.2.2.unk] 55;have N3:=aG hN B.size;have HE:=Cy _ (hW.on B1) hl (aG N3 B1.size);unfold ew;obtain⟨k1,k2⟩:=K1.rules;go_enter Tryz.func372,Tryz.ntmps372
 go_wp2_with fail
 refine HE.mono ?_;rintro e w2 ⟨rfl,q1,q2⟩;go_wp2;go_end0;exact⟨rfl,q1,(Wr.of B1 N3).trans q2⟩
theorem MV (hN:N<=W.heap.size)(hk:fB S fl=4\/fB S fl=5):IF (eV S (dD S n) fl) (dZ S (dm S n) fl) N 373 [] W:=by
 intro W' Z x mv k b l0 B hm hZ hO h0 h1 hp hW hl;show Calls Tryz.prog 373 #[ew x mv,dx b] W' _;have hb:eV S (dD S n) fl x=vi (FY x.1):=by unfold eV;rw[if_neg (by omega),if_neg (by omega),if_neg (by omega),if_neg (by omega),if_pos hk]
 rw[hb]at hl⊢;obtain⟨Oy,Oz⟩:=sE h0 h1;obtain⟨ma,mc,rfl⟩:=hm.form;obtain⟨B1,K1⟩:=di W' #[.int .u64 x.1,ae x.2.1,.slice ma x.2.2.fs.length mc,ae x.2.2.unk] 55;have N3:=aG hN B.size;have HZ:=fun W=>qe W x.1 h0 h1
 have HE:=lV _ (hW.on B1) Oy Oz hl (aG N3 B1.size);unfold ew;obtain⟨k1,k2⟩:=K1.rules;go_enter Tryz.func373,Tryz.ntmps373
 go_wp2_with fail
 refine(HZ _).mono ?_;rintro e w2 ⟨rfl,rfl⟩;go_wp2_with fail
 refine HE.mono ?_;rintro e w2 ⟨rfl,q1,q2⟩;go_wp2;go_end0;exact⟨rfl,q1,(Wr.of B1 N3).trans q2⟩
theorem MW (hN:N<=W.heap.size)(hk:fB S fl=7\/fB S fl=9\/fB S fl=11):IF (eV S (dD S n) fl) (dZ S (dm S n) fl) N 374 [] W:=by
 intro W' Z x mv k b l0 B hm hZ hO h0 h1 hp hW hl;show Calls Tryz.prog 374 #[ew x mv,dx b] W' _;have hb:eV S (dD S n) fl x=zO 4 x.1:=by unfold eV;rw[if_neg (by omega),if_neg (by omega),if_pos hk]
 rw[hb]at hl⊢;obtain⟨ma,mc,rfl⟩:=hm.form;obtain⟨B1,K1⟩:=di W' #[.int .u64 x.1,ae x.2.1,.slice ma x.2.2.fs.length mc,ae x.2.2.unk] 55;have N3:=aG hN B.size;have HE:=FW _ (hW.on B1) h0 h1 hl (aG N3 B1.size);unfold ew;obtain⟨k1,k2⟩:=K1.rules;go_enter Tryz.func374,Tryz.ntmps374
 go_wp2_with fail
 refine HE.mono ?_;rintro e w2 ⟨rfl,q1,q2⟩;go_wp2;go_end0;exact⟨rfl,q1,(Wr.of B1 N3).trans q2⟩
theorem MX (hN:N<=W.heap.size)(hk:fB S fl=8\/fB S fl=10\/fB S fl=12):IF (eV S (dD S n) fl) (dZ S (dm S n) fl) N 375 [] W:=by
 intro W' Z x mv k b l0 B hm hZ hO h0 h1 hp hW hl;show Calls Tryz.prog 375 #[ew x mv,dx b] W' _;have hb:eV S (dD S n) fl x=zO 8 x.1:=by unfold eV;rw[if_neg (by omega),if_neg (by omega),if_neg (by omega),if_pos hk]
 rw[hb]at hl⊢;obtain⟨ma,mc,rfl⟩:=hm.form;obtain⟨B1,K1⟩:=di W' #[.int .u64 x.1,ae x.2.1,.slice ma x.2.2.fs.length mc,ae x.2.2.unk] 55;have N3:=aG hN B.size;have HE:=Cx _ (hW.on B1) h0 h1 hl (aG N3 B1.size);unfold ew;obtain⟨k1,k2⟩:=K1.rules;go_enter Tryz.func375,Tryz.ntmps375
 go_wp2_with fail
 refine HE.mono ?_;rintro e w2 ⟨rfl,q1,q2⟩;go_wp2;go_end0;exact⟨rfl,q1,(Wr.of B1 N3).trans q2⟩
theorem MY (hN:N<=W.heap.size)(hk:fB S fl<4\/fB S fl=6\/fB S fl=15):IF (eV S (dD S n) fl) (dZ S (dm S n) fl) N 376 [] W:=by
 intro W' Z x mv k b l0 B hm hZ hO h0 h1 hp hW hl;show Calls Tryz.prog 376 #[ew x mv,dx b] W' _;have hb:eV S (dD S n) fl x=vi x.1:=by unfold eV;rw[if_neg (by omega),if_neg (by omega),if_neg (by omega),if_neg (by omega),if_neg (by omega)]
 rw[hb]at hl⊢;obtain⟨ma,mc,rfl⟩:=hm.form;obtain⟨B1,K1⟩:=di W' #[.int .u64 x.1,ae x.2.1,.slice ma x.2.2.fs.length mc,ae x.2.2.unk] 55;have N3:=aG hN B.size;have HE:=lV _ (hW.on B1) h0 h1 hl (aG N3 B1.size);unfold ew;obtain⟨k1,k2⟩:=K1.rules;go_enter Tryz.func376,Tryz.ntmps376
 go_wp2_with fail
 refine HE.mono ?_;rintro e w2 ⟨rfl,q1,q2⟩;go_wp2;go_end0;exact⟨rfl,q1,(Wr.of B1 N3).trans q2⟩
end
section
variable {bv:PV->List UInt8} {p:PV->Bool} {N:Nat} {W:an}
theorem IG (tb vb vf:Nat)(vcap:aq)(nu kd:Int)(hN:N<=W.heap.size)(ht:de W tb #[aa nu,aa kd] 237)(hv0:de W vb #[.func (.func vf) #[] vcap.toArray] 404)(hi:tb<N)(hj:vb<N)(hn:0<=nu/\nu<=536870911)(hkd:0<=kd/\kd<8)(hen:∀args w,(callFunc vf args).run Tryz.prog w= .ok (.enter vf args) w)(H:IF bv p N vf vcap W):
  Mo (fun l=>l.flatMap fun v=>gP nu kd++bv v) p N 294 [ag tb,ag vb] W:=by
 intro W' Z vv l k b l0 B hv hZ hO hp hW hl;show Calls Tryz.prog 294 #[vv,dx b,ag tb,ag vb] W' (gu N b l0 (l.flatMap fun v=>gP nu kd++bv v) W');obtain⟨a,c,rfl⟩:=hv.form;obtain⟨OA,Oh,Oi⟩:=hv;have N3:=aG hN B.size;have Oe:=ht.below B hi;have Of:=hv0.below B hj;have Ot:=hO.1;obtain⟨bd,Oj⟩:∃bd:PV->List UInt8,bd=fun x=>gP nu kd++bv x:=⟨_,rfl⟩
 have HB:Hid (∀x,bd x=gP nu kd++bv x):=fun x=>by rw[Oj]
 change l0.length+(l.flatMap fun v=>gP nu kd++bv v).length<=_ at hl;rw[<-Oj]at hl⊢
 have HA:Hid (∀j,l0.length+((l.take j).flatMap bd).length<=140737488355328):=fun j=>by
  have:=gk (g:=bd) (l:=l) j;show _<=_;omega
 have HE:Hid (∀(W2:an) (l2:List UInt8),d6 W2 N b (dx b) l2->l2.length+(gP nu kd).length<=140737488355328->N<=W2.heap.size->Calls Tryz.prog 230 #[dx b,.agg #[aa nu,aa kd]] W2 (gu N b l2 (gP nu kd) W2)):=fun W2 l2 hw N8 h2=>F0 nu kd hn.1 hn.2 hkd.1 hkd.2 hw N8 h2
 have HX:Hid (∀(W2:an) (x:PV) (mv:Value) (l2:List UInt8),Below N W' W2->x∈l->fR k W' Z mv x.2.2->d6 W2 N b (dx b) l2->l2.length+(bv x).length<=140737488355328->Calls Tryz.prog vf (ew x mv::dx b::vcap).toArray W2 (gu N b l2 (bv x) W2)):=fun W2 x mv l2 h2 hx hm hw N8=>
  H W2 Z x mv k b l2 (B.trans h2) (hm.under h2 hZ) hZ (hO.2 x hx).2.2.2 (hO.2 x hx).1 (hO.2 x hx).2.1 (hp x hx) hw N8
 generalize gP nu kd=tg at*;clear Oj hl hp H hO hn hkd;go_enter Tryz.func294,Tryz.ntmps294
 go_wp2;go_loopw [7,10] (fun _ jv wr=>∃j:Nat,jv=aa j/\j<=l.length/\d6 wr N b (dx b) (l0++(l.take j).flatMap bd)/\Wr N W' wr) (fun _ jv _=>l.length-(intOf jv).toNat)
 case atStart=>exact⟨0,rfl,aM _,by simpa using hW,Wr.refl _ _⟩
 case round=>
  obtain⟨j,rfl,hj,Oa,Wj⟩:=hrel;have hsz:=Wj.bel.size
  by_cases hlt:j<l.length
  ·obtain⟨x,hx⟩:=gx hlt;obtain⟨mv,p1,p2,p3,p4,p5⟩:=Oi.get hx;obtain⟨ma,mc,rfl⟩:=p1.form;obtain⟨gv,rfl,Ob,OB,N2⟩:=Oh.at (by omega);have N7:=Wj.bel.block _ (hZ _ Ob);have t0:=N2 wr N7 _ _ p2;have t1:=jI (N2 wr N7 _ _ p3);have t2:=jI (N2 wr N7 _ _ p4);have t3:=jI (N2 wr N7 _ _ p5);have Ou:(j:Int)<(l.length:Int):=by omega
   obtain⟨B1,K1⟩:=di wr #[.int .u64 x.1,ae x.2.1,.slice ma x.2.2.fs.length mc,ae x.2.2.unk] 55;have W2:=Wj.trans (Wr.of B1 (by omega));have Ov:=Oa.on B1;have hA:=HA.out (j+1);rw[eu hx,HB.out]at hA
   have HL:Hid (l0++(l.take (j+1)).flatMap bd=l0++(l.take j).flatMap bd++tg++bv x):=by
    show l0++(l.take (j+1)).flatMap bd=_;rw[eu hx,HB.out];simp only[aW]
   have Ol:(l0++(l.take j).flatMap bd).length+tg.length+(bv x).length<=140737488355328:=by
    simp only[aH]at hA⊢;omega
   have Og:=aI hx;have Ok:=W2.bel.size;have Ow:=HE.out _ _ Ov (by omega) (by omega);have T2:=W2.fr _ _ _ (by decide) (by decide) Oe;generalize l0++(l.take j).flatMap bd=lj at*;obtain⟨k1,k2⟩:=T2.rules;clear N2 p2 p3 p4 p5 hx hA N7;go_wp2_with fail
   generalize wr.alloc (ak #[.int .u64 x.1,ae x.2.1,.slice ma x.2.2.fs.length mc,ae x.2.2.unk] 55)=w2 at*;refine Ow.mono ?_;rintro e w3 ⟨rfl,q1,q2⟩;have W3:=W2.trans q2;have K3:=q2.fr _ _ _ (by decide) (by decide) K1;have V3:=W3.fr _ _ _ (by decide) (by decide) Of;have Oc:=HX.out w3 x _ _ W3.bel Og p1 q1 (by rw[aH];omega);unfold ew at Oc;clear k1 k2;obtain⟨k1,k2⟩:=K3.rules;obtain⟨k3,k4⟩:=V3.rules;go_wp2_with fail
   refine Oc.mono ?_;rintro e w4 ⟨rfl,r1,r2⟩;go_wp2;go_roundw
   case rel=>exact⟨j+1,by go_num,by omega,by rw[HL.out];exact r1,W3.trans r2⟩
   case measure=>simp[intOf];omega
  ·obtain rfl:j=l.length:=by omega
   rw[aY]at Oa;go_wp2;go_end0;exact⟨rfl,Oa,Wj⟩
theorem Gb (tb ab af vb vf:Nat)(acap vcap:aq)(nu kd:Int)(hN:N<=W.heap.size)(ht:de W tb #[aa nu,aa kd] 237)(ha0:de W ab #[.func (.func af) #[] acap.toArray] 262)(hv0:de W vb #[.func (.func vf) #[] vcap.toArray] 404)(hi:tb<N)(hi2:ab<N)(hj:vb<N)(hn:0<=nu/\nu<=536870911)(hkd:0<=kd/\kd<8)
  (hen:∀args w,(callFunc vf args).run Tryz.prog w= .ok (.enter vf args) w) (hea:∀args w,(callFunc af args).run Tryz.prog w= .ok (.enter af args) w) (H:IF bv p N vf vcap W) (HA0:IA (fun l=>l.flatMap bv) p N af acap W):
  Mo (fun l=>gP nu kd++fm (l.flatMap bv)) p N 370 [ag tb,ag ab,ag vb] W:=by
 intro W' Z vv l k b l0 B hv hZ hO hp hW hl;show Calls Tryz.prog 370 #[vv,dx b,ag tb,ag ab,ag vb] W' (gu N b l0 (gP nu kd++fm (l.flatMap bv)) W');change l0.length+(gP nu kd++fm (l.flatMap bv)).length<=_ at hl;obtain⟨a,c,rfl⟩:=hv.form;have N3:=aG hN B.size;have Oe:=ht.below B hi;have Ox:=ha0.below B hi2;have Of:=hv0.below B hj;have Ot:=hO.1;unfold fm at hl⊢;simp only[aH]at hl;have HA:Hid (∀j,((l.take j).flatMap bv).length<=(l.flatMap bv).length):=fun j=>gk (g:=bv) (l:=l) j
 have HE:=F0 nu kd hn.1 hn.2 hkd.1 hkd.2 hW (by omega) N3
 have HM:Hid (∀W2,Below N W' W2->Calls Tryz.prog af (.slice a l.length c::acap).toArray W2 (fE (l.flatMap bv) W2)):=fun W2 h2=>
  HA0 W2 Z _ l k (B.trans h2) (hv.under h2 hZ) hO hp (show(l.flatMap bv).length<=_ by omega)
 have HX:Hid (∀(W2:an) (x:PV) (mv:Value) (l2:List UInt8),Below N W' W2->x∈l->fR k W' Z mv x.2.2->d6 W2 N b (dx b) l2->l2.length+(bv x).length<=140737488355328->Calls Tryz.prog vf (ew x mv::dx b::vcap).toArray W2 (gu N b l2 (bv x) W2)):=fun W2 x mv l2 h2 hx hm hw N8=>
  H W2 Z x mv k b l2 (B.trans h2) (hm.under h2 hZ) hZ (hO.2 x hx).2.2.2 (hO.2 x hx).1 (hO.2 x hx).2.1 (hp x hx) hw N8
 obtain⟨OA,Oh,Oi⟩:=hv;obtain⟨y,HY⟩:∃y,Hid (l.flatMap bv=y):=⟨_,rfl⟩;rw[HY.out]at hl HA HM⊢;generalize gP nu kd=tg at*;clear hp H HA0 hO hn hkd;obtain⟨k1,k2⟩:=Oe.rules;go_enter Tryz.func370,Tryz.ntmps370
 go_wp2_with fail
 refine HE.mono ?_;rintro e w1 ⟨rfl,q1,W1⟩;have A1:=W1.fr _ _ _ (by decide) (by decide) Ox;clear k1 k2;obtain⟨k1,k2⟩:=A1.rules;go_wp2_with fail
 refine(HM.out w1 W1.bel).mono ?_;rintro e w2 ⟨rfl,b2⟩;have hs1:=W1.bel.size;have Ok:=b2.size;go_wp2_with fail
 refine(nI y.length (q1.on b2) (by omega) (by rw[aH];omega) (by omega)).mono ?_;rintro e w3 ⟨rfl,r1,r2⟩;have W3:=(W1.trans (Wr.of b2 (by omega))).trans r2
 have hlen:(l0++tg++vi (y.length)).length+y.length<=140737488355328:=by
  simp only[aH];omega
 have HF:Hid (l0++(tg++(vi (y.length)++y))=l0++tg++vi (y.length)++y):=by
  show l0++(tg++(vi (y.length)++y))=_;simp only[aW]
 generalize l0++tg++vi (y.length)=lh at*;clear k1 k2 A1 q1 r2 W1 HE b2;go_wp2;go_loopw [8,19] (fun _ jv wr=>∃j:Nat,jv=aa j/\j<=l.length/\d6 wr N b (dx b) (lh++(l.take j).flatMap bv)/\Wr N W' wr) (fun _ jv _=>l.length-(intOf jv).toNat)
 case atStart=>exact⟨0,rfl,aM _,by simpa using r1,W3⟩
 case round=>
  obtain⟨j,rfl,hj,Oa,Wj⟩:=hrel;have hsz:=Wj.bel.size
  by_cases hlt:j<l.length
  ·obtain⟨x,hx⟩:=gx hlt;obtain⟨mv,p1,p2,p3,p4,p5⟩:=Oi.get hx;obtain⟨ma,mc,rfl⟩:=p1.form;obtain⟨gv,rfl,Ob,OB,N2⟩:=Oh.at (by omega);have N7:=Wj.bel.block _ (hZ _ Ob);have t0:=N2 wr N7 _ _ p2;have t1:=jI (N2 wr N7 _ _ p3);have t2:=jI (N2 wr N7 _ _ p4);have t3:=jI (N2 wr N7 _ _ p5);have Ou:(j:Int)<(l.length:Int):=by omega
   obtain⟨B1,K1⟩:=di wr #[.int .u64 x.1,ae x.2.1,.slice ma x.2.2.fs.length mc,ae x.2.2.unk] 55;have W2:=Wj.trans (Wr.of B1 (by omega));have hA:=HA.out (j+1);rw[eu hx,aH]at hA
   have HL:Hid (lh++(l.take (j+1)).flatMap bv=lh++(l.take j).flatMap bv++bv x):=by
    show lh++(l.take (j+1)).flatMap bv=_;rw[eu hx,aW]
   have Ol:(lh++(l.take j).flatMap bv).length+(bv x).length<=140737488355328:=by
    rw[aH];omega
   have Oc:=HX.out _ x _ _ W2.bel (aI hx) p1 (Oa.on B1) Ol;unfold ew at Oc;have V2:=W2.fr _ _ _ (by decide) (by decide) Of;generalize lh++(l.take j).flatMap bv=lj at*;obtain⟨k1,k2⟩:=K1.rules;obtain⟨k3,k4⟩:=V2.rules;clear N2 p2 p3 p4 p5 hx hA N7;go_wp2_with fail
   refine Oc.mono ?_;rintro e w4 ⟨rfl,s1,s2⟩;go_wp2;go_roundw
   case rel=>exact⟨j+1,by go_num,by omega,by rw[HL.out];exact s1,W2.trans s2⟩
   case measure=>simp[intOf];omega
  ·obtain rfl:j=l.length:=by omega
   rw[aY,HY.out]at Oa;go_wp2;go_end0;exact⟨rfl,by rw[HF.out];exact Oa,Wj⟩
end
def rH (w:an)(Q:ap)(b:Nat)(iq:aw)(v:Value):Prop:=
 ∃f cap,F7 v f cap/\∀(S:dG) (fl:ek) (n N:Nat) (W:an),Kp Q w W->(∀b,Q b->b<w.heap.size->b<N)->N<=W.heap.size->fB S fl=b->(fB S fl=16->∃t,ed S fl=some t/\Bq S iq n t N W/\JX S iq n t N W)->IF (eV S (dD S n) fl) (dZ S (dm S n) fl) N f cap W
def Ab (w:an)(Q:ap)(mp:am->Option Nat)(g:GF)(iq:aw)(v:Value):Prop:=
 ∃f cap,F7 v f cap/\∀(S:dG) (d:MT) (fl:ek) (n N:Nat) (W:an),Kp Q w W->(∀b,Q b->b<w.heap.size->b<N)->N<=W.heap.size->FG S mp d fl g->(0<=fl.num/\fl.num<=536870911)->(fB S fl=16->∃t,ed S fl=some t/\Bq S iq n t N W/\JX S iq n t N W)->Mo (iW S (dD S n) fl) (dZ S (dm S n) fl) N f cap W
section
variable {w w':an} {Q Q':ap} {mp:am->Option Nat} {g:GF} {iq:aw} {v:Value} (hk:Mv w Q w' Q')
include hk
theorem rH.move {b:Nat}(h:rH w Q b iq v):rH w' Q' b iq v:=by
 obtain⟨f,cap,h1,h2⟩:=h;exact⟨f,cap,h1,fun S fl n N W q hN=>h2 S fl n N W (q.mv hk) fun b x l=>hN b (hk b x l).1 (hk.lt x l)⟩
theorem Ab.move (h:Ab w Q mp g iq v):Ab w' Q' mp g iq v:=by
 obtain⟨f,cap,h1,h2⟩:=h;exact⟨f,cap,h1,fun S d fl n N W q hN=>h2 S d fl n N W (q.mv hk) fun b x l=>hN b (hk b x l).1 (hk.lt x l)⟩
end
end
def jD (form:Int):Nat:=if form=0 then 193 else if form=2 then 268 else 195
def g7 (form:Int):Nat:=if form=2 then 190 else 191
def DC (v:Value):Prop:=∃f cap,v= .func (.func f) #[] cap
def JY (w:World)(Q:Nat->Prop)(mp:ByteArray->Option Nat)(g:GF)(v:Value):Prop:=
 ∃pb nb vb vv,v= .func (.func 422) #[] #[.pointer (some ⟨pb,0,none⟩),.pointer (some ⟨nb,0,none⟩),.pointer (some ⟨vb,0,none⟩)]/\de w pb #[yi (jD g.form)] 480/\de w nb #[.int .i64 g.f.num] 3/\de w vb #[vv] 478/\kG w Q (gQ mp g.f.ty) vv/\Q pb/\Q nb/\Q vb
def IH (w:World)(Q:Nat->Prop)(mp:ByteArray->Option Nat)(g:GF)(v:Value):Prop:=
 ∃ab nb vb vv,v= .func (.func 421) #[] #[.pointer (some ⟨ab,0,none⟩),.pointer (some ⟨nb,0,none⟩),.pointer (some ⟨vb,0,none⟩)]/\de w ab #[.int .i64 (dL (gQ mp g.f.ty))] 235/\de w nb #[.int .i64 g.f.num] 3/\de w vb #[vv] 478/\kG w Q (gQ mp g.f.ty) vv/\Q ab/\Q nb/\Q vb
def JZ (w:World)(Q:Nat->Prop)(mp pm:ByteArray->Option Nat)(g:GF)(v:Value):Prop:=
 ∃ib lb pb nb p,v= .func (.func 419) #[] #[.pointer (some ⟨ib,0,none⟩),.pointer (some ⟨lb,0,none⟩),.pointer (some ⟨pb,0,none⟩),.pointer (some ⟨nb,0,none⟩)]/\de w ib #[.pointer (some ⟨p,0,none⟩)] 116/\de w lb #[.int .i64 (iA mp g)] 3/\de w pb #[yi (g7 g.form)] 477/\de w nb #[.int .i64 g.f.num] 3/\pm g.f.ty=some p/\Q ib/\Q lb/\Q pb/\Q nb
def Jb (w:World)(Q:Nat->Prop)(mp:ByteArray->Option Nat)(A:Nat->Prop)(g:GF)(v:Value):Prop:=
 ∃ib lb nb sb p,v= .func (.func 418) #[] #[.pointer (some ⟨ib,0,none⟩),.pointer (some ⟨lb,0,none⟩),.pointer (some ⟨nb,0,none⟩),.pointer (some ⟨sb,0,none⟩)]/\de w ib #[.pointer (some ⟨p,0,none⟩)] 116/\de w lb #[.int .i64 (iA mp g)] 3/\de w nb #[.int .i64 g.f.num] 3/\de w sb #[.bool (iT (gQ mp g.f.key))] 4/\A p/\Q ib/\Q lb/\Q nb/\Q sb
def yj (w:World)(Q:Nat->Prop)(mp pm:ByteArray->Option Nat)(g:GF)(v:Value):Prop:=
 if gQ mp g.f.ty=16 then JZ w Q mp pm g v else if fG mp g=true then IH w Q mp g v else JY w Q mp g v
def sF (w:World)(Q:Nat->Prop)(R:GF->Value->Prop)(g:GF)(v:Value):Prop:=
 if g.riv= []then R g v else∃vb rb rv u,v= .func (.func 296) #[] #[.pointer (some ⟨vb,0,none⟩),.pointer (some ⟨rb,0,none⟩)]/\de w vb #[rv] 35/\dJ w Q 3 1 rv g.riv.length (eL g.riv)/\de w rb #[u] 266/\Q vb/\Q rb/\R g u
def G3 (mp pm:ByteArray->Option Nat)(g:GF)(iv:Value):Prop:=if gQ mp g.f.ty=16 then∃p,iv= .pointer (some ⟨p,0,none⟩)/\pm g.f.ty=some p else iv= .pointer none
structure kH (w:World)(Q:Nat->Prop)(mp:ByteArray->Option Nat)(R L:GF->Value->Prop)(g:GF)(x:py):Prop where
 n:x.n=g.f.num
 kind:x.c1= .int .i64 (dL (dC mp g))
 packs:x.c2= .bool (fG mp g)
 riv:dJ w Q 3 1 x.c3 g.riv.length (eL g.riv)
 enc:∃iq,L g (.pointer iq)/\Dz w Q mp g iq x.c4/\Br w Q mp g iq x.c5/\Ab w Q mp g iq x.c6
 read:sF w Q R g x.c7
def fY (w:World)(Q:Nat->Prop)(mp:ByteArray->Option Nat)(R L:GF->Value->Prop):List GF->List py->Prop
 | [],l=>l= []
 |g::gs,l=>∃x r,l=x::r/\kH w Q mp R L g x/\fY w Q mp R L gs r
def oX (w:World)(Q:Nat->Prop)(mp:ByteArray->Option Nat)(R L:GF->Value->Prop)(gs:List GF)(pb:Nat):Prop:=
 ∃v l,de w pb #[v] 254/\Q pb/\dJ w Q 268 8 v l.length (l.flatMap gB)/\fY w Q mp R L gs l
def jE (w:World)(Q:Nat->Prop)(mp pm:ByteArray->Option Nat)(g:GF)(v:Value):Prop:=
 if g.form=4 then Jb w Q mp (oX w Q mp (yj w Q mp pm) (G3 mp pm) [jj lH g.f.key 1,jj oz g.f.ty 2]) g v else yj w Q mp pm g v
def gz (w:World)(Q:Nat->Prop)(mp pm:ByteArray->Option Nat)(g:GF)(iv:Value):Prop:=
 if g.form=4 then∃p,iv= .pointer (some ⟨p,0,none⟩)/\oX w Q mp (yj w Q mp pm) (G3 mp pm) [jj lH g.f.key 1,jj oz g.f.ty 2] p
 else if gQ mp g.f.ty=16 then∃p,iv= .pointer (some ⟨p,0,none⟩)/\pm g.f.ty=some p
 else iv= .pointer none
def fZ (w:World)(Q:Nat->Prop)(mp pm:ByteArray->Option Nat)(gs:List GF)(pb:Nat):Prop:=oX w Q mp (jE w Q mp pm) (gz w Q mp pm) gs pb
section
variable {w w':World} {Q Q':Nat->Prop} {mp pm pm':ByteArray->Option Nat} {R R' L L':GF->Value->Prop} {g:GF} {v:Value}
theorem dJ.move (hk:Mv w Q w' Q'){T:TypeId}{k n:Nat}{v:Value}{xs:List Value}(h:dJ w Q T k v n xs):dJ w' Q' T k v n xs:=
 ⟨dz h.1 fun b hb=>(hk b (h.2 b hb) (h.1.lt b hb).2).2,fun b hb=>(hk b (h.2 b hb) (h.1.lt b hb).2).1⟩
theorem Mv.bx (hk:Mv w Q w' Q'){b:Nat}{cs:Array Value}{T:TypeId}(h:de w b cs T)(q:Q b):de w' b cs T:=(hk b q h.lt).2.trans h
theorem kF.move (hk:Mv w Q w' Q'){k:Nat}(h:kF w Q k v):kF w' Q' k v:=by
 rcases h with h|⟨t,nb,bb,h1,h2,h3,h4,h5,h6⟩
 ·exact .inl h
 ·exact .inr ⟨t,nb,bb,h1,h2,hk.bx h3 h5,hk.bx h4 h6,(hk _ h5 h3.lt).1,(hk _ h6 h4.lt).1⟩
theorem kG.move (hk:Mv w Q w' Q'){k:Nat}(h:kG w Q k v):kG w' Q' k v:=by
 rcases h with h|h|⟨h0,nb,nv,h1,h2,h3,h4⟩
 ·exact .inl h
 ·exact .inr (.inl h)
 ·exact .inr (.inr ⟨h0,nb,nv,h1,hk.bx h2 h3,(hk _ h3 h2.lt).1,h4.move hk⟩)
theorem JY.move (hk:Mv w Q w' Q')(h:JY w Q mp g v):JY w' Q' mp g v:=by
 obtain⟨pb,nb,vb,vv,h1,h2,h3,h4,h5,q1,q2,q3⟩:=h;exact⟨pb,nb,vb,vv,h1,hk.bx h2 q1,hk.bx h3 q2,hk.bx h4 q3,h5.move hk,(hk _ q1 h2.lt).1,(hk _ q2 h3.lt).1,(hk _ q3 h4.lt).1⟩
theorem IH.move (hk:Mv w Q w' Q')(h:IH w Q mp g v):IH w' Q' mp g v:=by
 obtain⟨pb,nb,vb,vv,h1,h2,h3,h4,h5,q1,q2,q3⟩:=h;exact⟨pb,nb,vb,vv,h1,hk.bx h2 q1,hk.bx h3 q2,hk.bx h4 q3,h5.move hk,(hk _ q1 h2.lt).1,(hk _ q2 h3.lt).1,(hk _ q3 h4.lt).1⟩
theorem JZ.move (hk:Mv w Q w' Q')(hp:∀t p,pm t=some p->pm' t=some p)(h:JZ w Q mp pm g v):JZ w' Q' mp pm' g v:=by
 obtain⟨ib,lb,pb,nb,p,h1,h2,h3,h4,h5,h6,q1,q2,q3,q4⟩:=h;exact⟨ib,lb,pb,nb,p,h1,hk.bx h2 q1,hk.bx h3 q2,hk.bx h4 q3,hk.bx h5 q4,hp _ _ h6,(hk _ q1 h2.lt).1,(hk _ q2 h3.lt).1,(hk _ q3 h4.lt).1,(hk _ q4 h5.lt).1⟩
theorem Jb.move {A A':Nat->Prop}(hk:Mv w Q w' Q')(ha:∀p,A p->A' p)(h:Jb w Q mp A g v):Jb w' Q' mp A' g v:=by
 obtain⟨ib,lb,pb,nb,p,h1,h2,h3,h4,h5,h6,q1,q2,q3,q4⟩:=h;exact⟨ib,lb,pb,nb,p,h1,hk.bx h2 q1,hk.bx h3 q2,hk.bx h4 q3,hk.bx h5 q4,ha _ h6,(hk _ q1 h2.lt).1,(hk _ q2 h3.lt).1,(hk _ q3 h4.lt).1,(hk _ q4 h5.lt).1⟩
theorem yj.move (hk:Mv w Q w' Q')(hp:∀t p,pm t=some p->pm' t=some p)(h:yj w Q mp pm g v):yj w' Q' mp pm' g v:=by
 unfold yj at*
 split at h
 ·rename_i h0;rw[if_pos h0];exact JZ.move hk hp h
 ·rename_i h0
  rw[if_neg h0]
  split at h
  ·rename_i h1;rw[if_pos h1];exact IH.move hk h
  ·rename_i h1;rw[if_neg h1];exact JY.move hk h
theorem sF.move (hk:Mv w Q w' Q')(hR:∀v,R g v->R' g v)(h:sF w Q R g v):sF w' Q' R' g v:=by
 unfold sF at*
 split at h
 ·rename_i h0;rw[if_pos h0];exact hR v h
 ·rename_i h0
  rw[if_neg h0];obtain⟨vb,rb,rv,u,h1,h2,h3,h4,q1,q2,h5⟩:=h;exact⟨vb,rb,rv,u,h1,hk.bx h2 q1,h3.move hk,hk.bx h4 q2,(hk _ q1 h2.lt).1,(hk _ q2 h4.lt).1,hR u h5⟩
theorem G3.move (hp:∀t p,pm t=some p->pm' t=some p)(h:G3 mp pm g v):G3 mp pm' g v:=by
 unfold G3 at*
 split at h
 ·rename_i h1
  rw[if_pos h1];obtain⟨p,h2,h3⟩:=h;exact⟨p,h2,hp _ _ h3⟩
 ·rename_i h1
  rw[if_neg h1];exact h
theorem kH.move (hk:Mv w Q w' Q')(hR:∀v,R g v->R' g v)(hL:∀v,L g v->L' g v){x:py}(h:kH w Q mp R L g x):kH w' Q' mp R' L' g x:=
 ⟨h.n,h.kind,h.packs,h.riv.move hk,h.enc.imp fun _ q=>⟨hL _ q.1,q.2.1.move hk,q.2.2.1.move hk,q.2.2.2.move hk⟩,h.read.move hk hR⟩
theorem fY.move (hk:Mv w Q w' Q'):∀{gs:List GF} {l:List py},(∀g∈gs,∀v,R g v->R' g v)->(∀g∈gs,∀v,L g v->L' g v)->fY w Q mp R L gs l->fY w' Q' mp R' L' gs l
 | [],_,_,_,h=>h
 |g::_,_,hR,hL,⟨x,r,h1,h2,h3⟩=>⟨x,r,h1,h2.move hk (hR g (by simp)) (hL g (by simp)),fY.move hk (fun g hg=>hR g (by simp[hg])) (fun g hg=>hL g (by simp[hg])) h3⟩
theorem oX.move (hk:Mv w Q w' Q'){gs:List GF}{pb:Nat}(hR:∀g∈gs,∀v,R g v->R' g v)(hL:∀g∈gs,∀v,L g v->L' g v)(h:oX w Q mp R L gs pb):oX w' Q' mp R' L' gs pb:=by
 obtain⟨v,l,h1,h2,h3,h4⟩:=h;exact⟨v,l,hk.bx h1 h2,(hk _ h2 h1.lt).1,h3.move hk,h4.move hk hR hL⟩
theorem jE.move (hk:Mv w Q w' Q')(hp:∀t p,pm t=some p->pm' t=some p)(h:jE w Q mp pm g v):jE w' Q' mp pm' g v:=by
 unfold jE at*
 split at h
 ·rename_i h0;rw[if_pos h0];exact Jb.move hk (fun p hq=>hq.move hk (fun g _ v h=>h.move hk hp) fun g _ v h=>h.move hp) h
 ·rename_i h0;rw[if_neg h0];exact yj.move hk hp h
theorem gz.move (hk:Mv w Q w' Q')(hp:∀t p,pm t=some p->pm' t=some p)(h:gz w Q mp pm g v):gz w' Q' mp pm' g v:=by
 unfold gz at*
 split at h
 ·rename_i h0
  rw[if_pos h0];obtain⟨p,h1,h2⟩:=h;exact⟨p,h1,h2.move hk (fun _ _ _ q=>q.move hk hp) fun _ _ _ q=>q.move hp⟩
 ·rename_i h0
  rw[if_neg h0];exact G3.move hp h
theorem gz.lk (h4:g.form≠4):gz w Q mp pm g v<->G3 mp pm g v:=by
 unfold gz;rw[if_neg h4];exact Iff.rfl
theorem fZ.move (hk:Mv w Q w' Q')(hp:∀t p,pm t=some p->pm' t=some p){gs:List GF}{pb:Nat}(h:fZ w Q mp pm gs pb):fZ w' Q' mp pm' gs pb:=oX.move hk (fun _ _ _ h=>jE.move hk hp h) (fun _ _ _ h=>gz.move hk hp h) h
theorem fZ.keep (hk:∀b,Q b->b<w.heap.size->w'.heap[b]?=w.heap[b]?)(hp:∀t p,pm t=some p->pm' t=some p){gs:List GF}{pb:Nat}(h:fZ w Q mp pm gs pb):fZ w' Q mp pm' gs pb:=h.move (.keep hk) hp
theorem jE.keep (hk:∀b,Q b->b<w.heap.size->w'.heap[b]?=w.heap[b]?)(hp:∀t p,pm t=some p->pm' t=some p)(h:jE w Q mp pm g v):jE w' Q mp pm' g v:=h.move (.keep hk) hp
theorem sF.keep (hk:∀b,Q b->b<w.heap.size->w'.heap[b]?=w.heap[b]?)(hR:∀v,R g v->R' g v)(h:sF w Q R g v):sF w' Q R' g v:=h.move (.keep hk) hR
theorem fY.len:∀{gs:List GF} {l:List py},fY w Q mp R L gs l->l.length=gs.length
 | [],_,h=>by rw[show _= []from h];rfl
 |_::_,_,⟨b,r,h1,_,h3⟩=>by rw[h1];simp[h3.len]
theorem fY.snoc {g:GF}{x:py}(h2:kH w Q mp R L g x):∀{gs:List GF} {l:List py},fY w Q mp R L gs l->fY w Q mp R L (gs++ [g]) (l++ [x])
 | [],_,h=>by rw[show _= []from h];exact⟨x,[],rfl,h2,rfl⟩
 |_::_,_,⟨c,r,h1,h3,h4⟩=>by rw[h1];exact⟨c,r++ [x],rfl,h3,fY.snoc h2 h4⟩
theorem fY.get:∀{gs:List GF} {l:List py},fY w Q mp R L gs l->∀{i:Nat} {x:py},l[i]?=some x->∃g,gs[i]?=some g/\kH w Q mp R L g x
 | [],_,h,i,x,hx=>by rw[show _= []from h]at hx;simp at hx
 |g::_,_,⟨b,r,h1,h3,h4⟩,0,x,h=>by
  subst h1;simp at h;subst h;exact⟨g,rfl,h3⟩
 |_::_,_,⟨b,r,h1,h3,h4⟩,i+1,x,h=>by
  subst h1;obtain⟨c,q1,q2⟩:=h4.get (i:=i) (x:=x) (by simpa using h);exact⟨c,by simpa using q1,q2⟩
theorem fY.nums:∀{gs:List GF} {l:List py},fY w Q mp R L gs l->l.map (·.n)=gs.map (·.f.num)
 | [],_,h=>by rw[show _= []from h];rfl
 |_::_,_,⟨b,r,h1,h2,h3⟩=>by rw[h1];simp[h3.nums,h2.n]
end
def kI (w:World)(Q:Nat->Prop)(S:dG)(mp pm:ByteArray->Option Nat):Prop:=∀t p,pm t=some p->∃d gs,S.msg t=some d/\fZ w Q mp pm gs p/\ja S mp d gs
theorem kI.keep {w w':World}{Q:Nat->Prop}{S:dG}{mp pm:ByteArray->Option Nat}(h:kI w Q S mp pm)(hk:∀b,Q b->b<w.heap.size->w'.heap[b]?=w.heap[b]?):kI w' Q S mp pm:=fun t p hp=>by
 obtain⟨d,gs,h1,h2,h3⟩:=h t p hp;exact⟨d,gs,h1,h2.keep hk (fun _ _ q=>q),h3⟩
def Gc (S:dG)(mp pm:ByteArray->Option Nat)(B:Nat)(b:ByteArray)(F:Nat):Prop:=
 ∀(w:World) (Z:Nat->Prop) (sub:MT) (m:PM) (a e deep k pb:Nat) (gs:List GF) (rb db:Nat),p8 w B S mp->kI w (fun b=>b<B) S mp pm->fZ w (fun b=>b<B) mp pm gs pb->ja S mp sub gs->jB S sub->dn w rb (b.extract 0 e) a deep->dB S (k+1) (some sub) w Z db m->
  (∀x,Z x->B<=x/\x<w.heap.size)->B<=rb->¬Z rb->a<=e->e<=b.size->e-a<F->k+deep=8->WM S a sub m->
  Calls Tryz.prog 89 #[.pointer (some ⟨pb,0,none⟩),.pointer (some ⟨rb,0,none⟩),.pointer (some ⟨db,0,none⟩)] w (fK S k sub w Z rb db (b.extract 0 e) deep (lQ e (dQ S b F sub m a e deep)))
section
attribute [local go_sem↓] Go.wp_at_zero Go.wp_at_succ
theorem DD (w:an)(o:Obj)(b:Nat)(cs:Array Value)(T:TypeId):de (w.alloc o) b cs T<->if b=w.heap.size then o= .cells cs T (0,0)else de w b cs T:=by
 unfold de
 by_cases h:b=w.heap.size
 ·subst h;rw[if_pos rfl,heap_alloc_new];simp
 ·rw[if_neg h]
  by_cases hl:b<w.heap.size
  ·rw[Below.heap_alloc w o b hl]
  ·rw[bX (by simp;omega),bX (by omega)]
theorem Gd (w:an)(b:Nat)(cs:Array Value)(T:TypeId):de w.drew b cs T<->de w b cs T:=Iff.rfl
theorem de.deep {w:an}{b:Nat}{cs:Array Value}{T:TypeId}(h:de w b cs T):
  (∀off,w.cell? (ai b off)=cs[off]?)/\(∀o1 off,(w.alloc o1).cell? (ai b off)=cs[off]?)/\(∀o1 o2 off,((w.alloc o1).alloc o2).cell? (ai b off)=cs[off]?)/\(∀o1 o2 o3 off,(((w.alloc o1).alloc o2).alloc o3).cell? (ai b off)=cs[off]?)/\(∀o1 o2 o3 o4 off,((((w.alloc o1).alloc o2).alloc o3).alloc o4).cell? (ai b off)=cs[off]?):=
 ⟨h.cell,fun _=>(h.alloc _).cell,fun _ _=>((h.alloc _).alloc _).cell,fun _ _ _=>(((h.alloc _).alloc _).alloc _).cell,fun _ _ _ _=>((((h.alloc _).alloc _).alloc _).alloc _).cell⟩
theorem kG.form {w:an}{Q:ap}{k:Nat}{v:Value}(h:kG w Q k v):DC v:=by
 rcases h with⟨_,rfl⟩|⟨_,rfl⟩|⟨_,_,_,rfl,_⟩
 ·exact⟨_,_,rfl⟩
 ·exact⟨_,_,rfl⟩
 ·exact⟨_,_,rfl⟩
theorem Below.a2 (w:an)(o1 o2:Obj):aj w ((w.alloc o1).alloc o2):=((Below.refl _ _).alloc (ay _) _).alloc (by simp) _
theorem Below.a3 (w:an)(o1 o2 o3:Obj):aj w (((w.alloc o1).alloc o2).alloc o3):=(Below.a2 w o1 o2).alloc (by simp;omega) _
theorem Below.a4 (w:an)(o1 o2 o3 o4:Obj):aj w ((((w.alloc o1).alloc o2).alloc o3).alloc o4):=(Below.a3 w o1 o2 o3).alloc (by simp;omega) _
theorem dp {w:an}{c off b:Nat}{v:Value}(h:c≠b):(w.setCell (ai c off) v).heap[b]?=w.heap[b]?:=by rw[dd,if_neg h]
def gG (w:an)(b:Nat)(T:TypeId):Prop:=∃u,de w b #[u] T
theorem de.set1 {w:an}{b:Nat}{T:TypeId}(h:gG w b T)(v:Value):de (w.setCell (ai b 0) v) b #[v] T:=by
 obtain⟨u,h⟩:=h;simpa using h.set 0 v
theorem gG.newAt {w:an}{n:Nat}(h:n=w.heap.size)(v:Value)(T:TypeId):gG (w.alloc (.cells #[v] T)) n T:=⟨_,de.newAt h _ _⟩
theorem gG.alloc {w:an}{b:Nat}{T:TypeId}(h:gG w b T)(o:Obj):gG (w.alloc o) b T:=h.imp fun _ q=>q.alloc o
theorem gG.drew {w:an}{b:Nat}{T:TypeId}(h:gG w b T):gG w.drew b T:=h
theorem gG.other {w:an}{b:Nat}{T:TypeId}(h:gG w b T){c:Nat}(off:Nat)(v:Value)(hne:c≠b):gG (w.setCell (ai c off) v) b T:=h.imp fun _ q=>q.other off v hne
theorem gG.below {w w1:an}{n b:Nat}{T:TypeId}(h:gG w b T)(hb:Below n w w1)(hn:b<n):gG w1 b T:=h.imp fun _ q=>q.below hb hn
theorem Ac {n:Nat}{w w':an}(h:Below n w w'):(∀b off,b<n->w'.cell? (ai b off)=w.cell? (ai b off))/\(∀b off,b<n->w'.frozen? (ai b off)=w.frozen? (ai b off)):=⟨fun b off hb=>h.cell (p:=(ai b off)) hb,fun b off hb=>h.frozen (p:=(ai b off)) hb⟩
theorem J8 {p q:Prop}(h:p)(k:p->q):q:=k h
theorem MZ {w:an}{fb:Nat}{a b c d e:Value}{T:TypeId}(h:de w fb #[a,b,c,d,e] T):w.cell? (ai fb 0)=some a/\w.cell? (ai fb 2)=some c/\w.cell? (ai fb 3)=some d:=⟨h.cell 0,h.cell 2,h.cell 3⟩
def g8 (w:an)(A:an->Value->Prop)(e:Ending)(w':an):Prop:=∃v,e= .returned v/\A w' v/\aj w w'
section
variable (w:an) (Q P:ap) (mp pm:am->Option Nat) (g:GF) (fb:Nat)
theorem tY (hQ:∀b,w.heap.size<=b->Q b)(h:dP w P mp g fb)(h4:g.form≠4)(hb:gQ mp g.f.ty<=15):Calls Tryz.prog 380 #[ag fb] w (g8 w fun w' v=>JY w' Q mp g v):=by
 have hmf:= @rh;obtain⟨pv,rv,h1,_,N2,Oa⟩:=h.blk;have Ob:dC mp g=gQ mp g.f.ty:=by unfold dC;rw[if_neg h4]
 rw[Ob]at h1;obtain⟨pq,rfl⟩:=eT Oa;obtain⟨ra,rn,rc,rfl⟩:=df N2.1;have hV:=fun W=>vT W (gQ mp g.f.ty) (.pointer pq) hb
 clear Oa N2 h
 have N7:(g.form==0)=true/\jD g.form=193\/(g.form==0)=false/\(g.form==2)=true/\jD g.form=268\/(g.form==0)=false/\(g.form==2)=false/\jD g.form=195:=by
  unfold jD
  by_cases h0:g.form=0
  ·exact .inl ⟨by simp[h0],by rw[if_pos h0]⟩
  ·by_cases h2:g.form=2
   ·exact .inr (.inl ⟨by simp[h0],by simp[h2],by rw[if_neg h0,if_pos h2]⟩)
   ·exact .inr (.inr ⟨by simp[h0],by simp[h2],by rw[if_neg h0,if_neg h2]⟩)
 obtain⟨k0,k1,k2,k3,k4⟩:=h1.deep;have Oc:=h1.lt;go_enter Tryz.func380,Tryz.ntmps380
 go_upto_region 1 with fail
 go_cut [3,4]from 6 to 14 (fun x y wx=>∃vb nb vv,x=ag vb/\y=ag nb/\de wx vb #[vv] 478/\de wx nb #[aa g.f.num] 3/\de wx fb #[aa g.f.num,aa g.form,aa (gQ mp g.f.ty),.pointer pq,.slice ra rn rc] 220/\kG wx Q (gQ mp g.f.ty) vv/\w.heap.size<=vb/\w.heap.size<=nb/\aj w wx)
 case first=>
  go_region_held2 (fun W=>W.cell? (ai fb 0)=some (aa g.f.num)/\W.cell? (ai fb 2)=some (aa (gQ mp g.f.ty))/\W.cell? (ai fb 3)=some (.pointer pq))
   ((go_light;refine MZ (b:=aa g.form) (e:= .slice ra rn rc) (T:=220) ?_;repeat (first|exact K2|exact h1|refine de.alloc ?_ _|refine de.drew ?_|refine de.other ?_ _ _ (by omega))))
   (first|(go_at_call 420;refine(hV _).mono ?_;rintro e w2 ⟨vv,rfl,N3,b2⟩;obtain⟨vf,N8,rfl⟩:=N3.form;refine J8 (p:=de w2 fb #[aa g.f.num,aa g.form,aa (gQ mp g.f.ty),.pointer pq,.slice ra rn rc] 220) ?_ ?_;(first|exact de.below h1.drew b2 Oc|exact de.below (h1.alloc _).drew b2 (h1.alloc _).lt|exact de.below ((h1.alloc _).alloc _).drew b2 ((h1.alloc _).alloc _).lt);intro K2;have z2:=K2.lt;obtain⟨k5,k6,k7,k8,k9⟩:=K2.deep;obtain⟨y7,y8⟩:=Ac b2;(try simp only[bV,World.size_drew]at y7 y8);(first|(refine J8 (p:=w.heap.size+1<w2.heap.size/\w.heap.size<w2.heap.size) ?_ ?_;(have q:=b2.size;simp at q;omega);rintro⟨z3,z4⟩;obtain⟨a1,a2,a3,a4⟩:=eK (w:=w2) (b:=w.heap.size) z4;obtain⟨a5,a6,a7,a8⟩:=eK (w:=w2) (b:=w.heap.size+1) z3;have c1:=fun off=>y7 w.heap.size off (by omega);have c2:=fun off=>y8 w.heap.size off (by omega);have c3:=fun off=>y7 (w.heap.size+1) off (by omega);have c4:=fun off=>y8 (w.heap.size+1) off (by omega))|(refine J8 (p:=w.heap.size<w2.heap.size) ?_ ?_;(have q:=b2.size;simp at q;omega);intro z3;obtain⟨a1,a2,a3,a4⟩:=eK (w:=w2) (b:=w.heap.size) z3;have c1:=fun off=>y7 w.heap.size off (by omega);have c2:=fun off=>y8 w.heap.size off (by omega))|skip);clear y7 y8))
  all_goals
   go_wp2;go_meet
   case rel=>
    go_light;have hw:w.heap.size<=w2.heap.size:=by have q:=b2.size;simp at q;omega
    refine⟨_,_,_,rfl,rfl,?_,?_,?_,N3.move (fun b q l=>⟨hQ b (by simp at q;omega),?_⟩),by omega,by omega,?_⟩
    ·repeat (first|exact de.newAt (by first|omega|(simp<;>omega)) _ _|exact gG.newAt (by first|omega|(simp<;>omega)) _ _|refine de.set1 ?_ _|refine de.other ?_ _ _ (by omega)|refine de.alloc ?_ _|refine gG.other ?_ _ _ (by omega)|refine gG.below ?_ b2 (by first|omega|(simp<;>omega))|refine gG.drew ?_|refine gG.alloc ?_ _)
    ·repeat (first|exact de.newAt (by first|omega|(simp<;>omega)) _ _|exact gG.newAt (by first|omega|(simp<;>omega)) _ _|refine de.set1 ?_ _|refine de.other ?_ _ _ (by omega)|refine de.alloc ?_ _|refine gG.other ?_ _ _ (by omega)|refine gG.below ?_ b2 (by first|omega|(simp<;>omega))|refine gG.drew ?_|refine gG.alloc ?_ _)
    ·repeat (first|exact K2|refine de.alloc ?_ _|refine de.other ?_ _ _ (by omega))
    ·simp at q
     repeat (first|rfl|(rw[Below.heap_alloc _ _ b (by first|omega|(simp<;>omega))])|(rw[dp (by omega)]))
    ·repeat (first|exact Below.refl _ _|refine cY ?_ b2|refine Below.drew ?_|refine Below.alloc ?_ (by first|omega|(simp<;>omega)) _|refine Below.setCell ?_ (by first|omega|(simp<;>omega)) _)
 case rest=>
  obtain⟨vb,nb,vv,rfl,rfl,h5,h6,h7,N3,q1,q2,b3⟩:=hcut;obtain⟨vf,N8,rfl⟩:=N3.form;obtain⟨k5,k6,k7,k8,k9⟩:=h7.deep;clear k0 k1 k2 k3 k4;have Od:=b3.size
  rcases N7 with⟨f0,hp⟩|⟨f0,f2,hp⟩|⟨f0,f2,hp⟩
  all_goals
   go_wp2;go_ret;have BW:∀o,aj wc (wc.alloc o):=fun o=>(Below.refl _ _).alloc (ay _) _
   refine⟨_,rfl,⟨_,_,_,_,rfl,?_,h6.alloc _,h5.alloc _,N3.move (fun b q l=>⟨q,(BW _).block b l⟩),hQ _ Od,hQ _ q2,hQ _ q1⟩,cY b3 (BW _)⟩;rw[hp];exact de.new _ _ _
end
end
end Go.Proofs.YtfebdimolnobaaaGreatDoor
