import Derived.Test.YtfebdimolnobaaaGreatDoorEnG
set_option maxRecDepth 100000
set_option maxHeartbeats 8000000
set_option linter.all false
namespace Go.Proofs.YtfebdimolnobaaaGreatDoor
open Go.RowKit
section
attribute [local go_sem↓] Go.wp_at_zero Go.wp_at_succ
structure F7 (v:Value)(f:Nat)(cap:aq):Prop where
 eq:v= .func (.func f) #[] cap.toArray
 en:∀args w,(callFunc f args).run Tryz.prog w= .ok (.enter f args) w
def Kp (Q:ap)(w W:an):Prop:=∀b,Q b->b<w.heap.size->W.heap[b]?=w.heap[b]?
theorem Kp.bx {Q:ap}{w W:an}(h:Kp Q w W){b:Nat}{cs:Array Value}{T:TypeId}(q:Q b)(hb:de w b cs T):de W b cs T:=(h b q hb.lt).trans hb
def GZ (p:PV->Bool)(n:Nat)(f:Nat)(cap:aq)(W:an):Prop:=
 ∀(W':an) (Z:ap) (x:PV) (mv:Value) (k deep:Nat),Below W.heap.size W W'->fR k W' Z mv x.2.2->kT k x.2.2->0<=x.1->x.1<18446744073709551616->x.2.1.size<=1099511627776->n+1+deep=9->
  Calls Tryz.prog f (ew x mv::aa deep::cap).toArray W' (dA (p x) W')
def Iv (q:List PV->Bool)(n:Nat)(f:Nat)(cap:aq)(W:an):Prop:=
 ∀(W':an) (Z:ap) (vv:Value) (l:List PV) (k deep:Nat),Below W.heap.size W W'->mB (fR k W' Z) W' Z vv l->I9 k l->n+1+deep=9->
  Calls Tryz.prog f (vv::aa deep::cap).toArray W' (dA (q l) W')
def Dw (S:dG)(iq:aw)(n:Nat)(t:MT)(W:an):Prop:=
 ∀(W':an) (Z:ap) (v:Value) (m:PM) (k deep:Nat),Below W.heap.size W W'->fR k W' Z v m->kT k m->n+deep=9->
  Calls Tryz.prog 103 #[.pointer iq,.agg #[v,ae m.unk],aa deep] W' (dA (dm S n t m) W')
theorem wh (w:an):Calls Tryz.prog 157 #[.bool true] w fun e w'=>e= .returned (.tuple #[])/\w=w':=(fN w).mono fun _ _ h=>⟨h.1,h.2.symm⟩
theorem wi (w:an):Calls Tryz.prog 157 #[.bool false] w fun e w'=>e=da 12 0/\w=w':=(fD w).mono fun _ _ h=>⟨h.1,h.2.symm⟩
section
variable {p:PV->Bool} {n:Nat} {W:an}
theorem F8 (vb vf:Nat)(vcap:aq)(hb:de W vb #[.func (.func vf) #[] vcap.toArray] 398)(hen:∀args w,(callFunc vf args).run Tryz.prog w= .ok (.enter vf args) w)(H:GZ p n vf vcap W):
  Iv (fun l=>(l.length==1)&&l.all p) n 367 [ag vb] W:=by
 intro W' Z vv l k deep B hv hO hd;show Calls Tryz.prog 367 #[vv,aa deep,ag vb] W' (dA ((l.length==1)&&l.all p) W');obtain⟨R,HR⟩:∃R,Hid (((l.length==1)&&l.all p)=R):=⟨_,rfl⟩;rw[HR.out];obtain⟨a,c,rfl⟩:=hv.form;have N3:=hb.below B hb.lt
 by_cases h1:l.length=1
 ·have e1:((l.length:Int)==1)=true:=by simp;omega
  obtain⟨x,rfl⟩:=List.length_eq_one_iff.1 h1;obtain⟨Ob,Oc,Od⟩:=hv;obtain⟨mv,p1,p2,p3,p4,p5⟩:=Od.get (i:=0) (v:=x) rfl;obtain⟨ma,mc,rfl⟩:=p1.form;obtain⟨gv,rfl,Oe,N7,N2⟩:=Oc.at (by simp);have t0:=N2 W'.drew rfl _ _ p2;have t1:=jI (N2 W'.drew rfl _ _ p3);have t2:=jI (N2 W'.drew rfl _ _ p4);have t3:=jI (N2 W'.drew rfl _ _ p5);simp only[Nat.zero_mul,JQ]at t0 t1 t2 t3;have N8:=hO.2 x bg;have HX:=H W'.drew Z x _ k deep B.drew (p1.below (Below.refl _ _).drew (ay _)) N8.2.2.2 N8.1 N8.2.1 N8.2.2.1 hd;unfold ew at HX
  have HP:Hid (R=p x):=by
   show R=p x;rw[<-HR.out];simp
  generalize p x=r at*;have b0:Below W'.heap.size W' W'.drew:=(Below.refl _ _).drew;have hW:W'.drew.cell? (ai vb 0)=some (.func (.func vf) #[] vcap.toArray)/\W'.drew.cell? gv=some (.int .u64 x.1)/\W'.drew.cell? (ai gv.block (gv.off+1))=some (ae x.2.1)/\W'.drew.cell? (ai gv.block (gv.off+2))=some (.slice ma x.2.2.fs.length mc)/\W'.drew.cell? (ai gv.block (gv.off+3))=some (ae x.2.2.unk):=⟨N3.drew.cell 0,t0,t1,t2,t3⟩;clear h1;go_enter Tryz.func367,Tryz.ntmps367
  go_upto_region 1 with(go_at_call 157;refine(wh _).mono ?_;rintro e w2 ⟨rfl,rfl⟩)
  go_region_held2 (fun W=>W.cell? (ai vb 0)=some (.func (.func vf) #[] vcap.toArray)/\W.cell? gv=some (.int .u64 x.1)/\W.cell? (ai gv.block (gv.off+1))=some (ae x.2.1)/\W.cell? (ai gv.block (gv.off+2))=some (.slice ma x.2.2.fs.length mc)/\W.cell? (ai gv.block (gv.off+3))=some (ae x.2.2.unk))
   (first|exact hW|exact Oh)
   (first
    |(
      refine HX.mono ?_;intro e w3 hr
      rcases hr.part with⟨rfl,rfl,b3⟩|⟨rfl,y,z,rfl,b3⟩
      rotate_left
      ·have b4:=cY b0 b3;unfold da;go_wp2;rw[HP.out];exact⟨rfl,dA.no b4⟩
      have Oh:w3.cell? (ai vb 0)=some (.func (.func vf) #[] vcap.toArray)/\w3.cell? gv=some (.int .u64 x.1)/\w3.cell? (ai gv.block (gv.off+1))=some (ae x.2.1)/\w3.cell? (ai gv.block (gv.off+2))=some (.slice ma x.2.2.fs.length mc)/\w3.cell? (ai gv.block (gv.off+3))=some (ae x.2.2.unk):=⟨(N3.drew.below b3 N3.drew.lt).cell 0,(b3.cell (p:=gv) N7).trans t0,(b3.cell (p:=(ai gv.block (gv.off+1))) N7).trans t1,(b3.cell (p:=(ai gv.block (gv.off+2))) N7).trans t2,(b3.cell (p:=(ai gv.block (gv.off+3))) N7).trans t3⟩))
  go_wp2;go_end0;rw[HP.out];exact dA.ok (cY b0 b3)
 ·have e1:((l.length:Int)==1)=false:=by simp;omega
  have HP:Hid (R=false):=by
   show R=false;rw[<-HR.out];simp[h1]
  go_enter Tryz.func367,Tryz.ntmps367
  go_wp2_with (go_at_call 157;refine(wi _).mono ?_;rintro e w2 ⟨rfl,rfl⟩;unfold da)
  rw[HP.out];exact⟨rfl,dA.no (Below.refl _ _)⟩
theorem F9 (vb vf:Nat)(vcap:aq)(hb:de W vb #[.func (.func vf) #[] vcap.toArray] 398)(hen:∀args w,(callFunc vf args).run Tryz.prog w= .ok (.enter vf args) w)(H:GZ p n vf vcap W):
  Iv (fun l=>decide (0<l.length)&&l.all p) n 366 [ag vb] W:=by
 intro W' Z vv l k deep B hv hO hd;show Calls Tryz.prog 366 #[vv,aa deep,ag vb] W' (dA (decide (0<l.length)&&l.all p) W');obtain⟨R,HR⟩:∃R,Hid ((decide (0<l.length)&&l.all p)=R):=⟨_,rfl⟩;rw[HR.out];obtain⟨a,c,rfl⟩:=hv.form;have N3:=hb.below B hb.lt;have hll:=hO.1
 by_cases h1:0<l.length
 ·have e1:decide (0<(l.length:Int))=true:=by simp;omega
  obtain⟨Ob,Oc,Od⟩:=hv
  have HP:Hid (R=l.all p):=by
   show R=l.all p;rw[<-HR.out,decide_eq_true h1,cu]
  have HC:Hid (∀(W2:an) (x:PV) (mv:Value),Below W'.heap.size W' W2->x∈l->fR k W' Z mv x.2.2->Calls Tryz.prog vf (ew x mv::aa deep::vcap).toArray W2 (dA (p x) W2)):=fun W2 x mv h2 hx hm=>
   H W2 Z x mv k deep (cY B h2) (hm.below h2 (ay _)) (hO.2 x hx).2.2.2 (hO.2 x hx).1 (hO.2 x hx).2.1 (hO.2 x hx).2.2.1 hd
  go_enter Tryz.func366,Tryz.ntmps366
  go_wp2_with (go_at_call 157;refine(wh _).mono ?_;rintro e w2 ⟨rfl,rfl⟩)
  go_loopw [6,13] (fun _ jv wr=>∃j:Nat,jv=aa j/\j<=l.length/\Hid ((l.take j).all p=true)/\Below W'.heap.size W' wr) (fun _ jv _=>l.length-(intOf jv).toNat)
  case atStart=>exact⟨0,rfl,aM _,rfl,Below.refl _ _⟩
  case round=>
   obtain⟨j,rfl,hj,HA,Bj⟩:=hrel
   by_cases hlt:j<l.length
   ·obtain⟨x,hx⟩:=gx hlt;obtain⟨mv,p1,p2,p3,p4,p5⟩:=Od.get hx;obtain⟨ma,mc,rfl⟩:=p1.form;obtain⟨gv,rfl,Oe,N7,N2⟩:=Oc.at (by omega);have t0:=N2 wr (Bj.block _ N7) _ _ p2;have t1:=jI (N2 wr (Bj.block _ N7) _ _ p3);have t2:=jI (N2 wr (Bj.block _ N7) _ _ p4);have t3:=jI (N2 wr (Bj.block _ N7) _ _ p5);have hlj:(j:Int)<(l.length:Int):=by omega
    obtain⟨B1,K1⟩:=di wr #[.int .u64 x.1,ae x.2.1,.slice ma x.2.2.fs.length mc,ae x.2.2.unk] 55;have B2:=cY Bj B1;have HX:=HC.out _ x _ B2 (aI hx) p1;unfold ew at HX;have Oa:=N3.below B2 N3.lt
    have HT:Hid ((l.take (j+1)).all p=p x):=by
     show(l.take (j+1)).all p=_;rw[zZ hx,HA.out,cu]
    generalize p x=r at*;obtain⟨k1,k2⟩:=K1.rules;obtain⟨k3,k4⟩:=Oa.rules;clear N2 p2 p3 p4 p5 hx;go_wp2_with fail
    refine HX.mono ?_;intro e w3 hr
    rcases hr.part with⟨rfl,rfl,b3⟩|⟨rfl,y,z,rfl,b3⟩
    ·go_wp2;go_roundw
     case rel=>exact⟨j+1,by go_num,by omega,HT.out,cY B2 b3⟩
     case measure=>simp[intOf];omega
    ·unfold da;go_wp2;rw[HP.out,CD HT.out];exact⟨rfl,dA.no (cY B2 b3)⟩
   ·obtain rfl:j=l.length:=by omega
    have Oi:Hid (l.all p=true):=by
     show l.all p=true;have:=HA.out
     rwa [aY]at this
    go_wp2;go_end0;rw[HP.out,Oi.out];exact dA.ok Bj
 ·have e1:decide (0<(l.length:Int))=false:=decide_eq_false (by omega)
  have HP:Hid (R=false):=by
   show R=false;rw[<-HR.out,decide_eq_false h1,cl]
  go_enter Tryz.func366,Tryz.ntmps366
  go_wp2_with (go_at_call 157;refine(wi _).mono ?_;rintro e w2 ⟨rfl,rfl⟩;unfold da)
  rw[HP.out];exact⟨rfl,dA.no (Below.refl _ _)⟩
theorem Dx {q:List PV->Bool}(eb ef sb:Nat)(ecap:aq)(sg:Bool)(hb:de W eb #[.func (.func ef) #[] ecap.toArray] 260)(hsb:de W sb #[.bool sg] 4)(hen:∀args w,(callFunc ef args).run Tryz.prog w= .ok (.enter ef args) w)(H:Iv q n ef ecap W)
  (hq:∀l k,I9 k l->q l=true->∀e∈l,zY e):
  Iv (fun l=>q l&&iB sg none l) n 365 [ag eb,ag sb] W:=by
 intro W' Z vv l k deep B hv hO hd;show Calls Tryz.prog 365 #[vv,aa deep,ag eb,ag sb] W' (dA (q l&&iB sg none l) W');obtain⟨a,c,rfl⟩:=hv.form;have N3:=hb.below B hb.lt;have Og:=hsb.below B hsb.lt
 have Oj:∀W2,Below W'.heap.size W' W2->mB (fR (k-1+1) W2 Z) W2 Z (.slice a l.length c) l:=fun W2 h2=>by
  have:=mB.below h2 (ay _) hv
  cases k with
  |zero=>
   obtain⟨Ob,q1,q2⟩:=this;refine⟨Ob,q1,?_⟩
   cases l with
   |nil=>exact q2
   |cons x r=>exact(hO.2 x bg).2.2.2.elim
  |succ k=>exact this
 have HE:Hid (q l=true->∀W2,Below W'.heap.size W' W2->Calls Tryz.prog 240 #[.slice a l.length c,.bool sg] W2 (dA (iB sg none l) W2)):=fun hl W2 h2=>
  wg W2 _ l sg (Oj W2 h2) (hq l k hO hl) hO.1
 have HX:=H W' Z _ l k deep B hv hO hd;generalize q l=ql at*;generalize iB sg none l=r at*;obtain⟨k1,k2⟩:=N3.rules;go_enter Tryz.func365,Tryz.ntmps365
 go_wp2_with fail
 refine HX.mono ?_;intro e w2 hr
 rcases hr.part with⟨rfl,rfl,b2⟩|⟨rfl,y,z,rfl,b2⟩
 ·have Ok:=Og.below b2 Og.lt;clear k1 k2;obtain⟨k1,k2⟩:=Ok.rules;go_wp2_with fail
  refine(HE.out trivial w2 b2).mono ?_;intro e w3 Of
  rcases Of.part with⟨rfl,rfl,b3⟩|⟨rfl,y,z,rfl,b3⟩
  ·go_wp2;go_end0;exact dA.ok (cY b2 b3)
  ·unfold da;go_wp2;exact⟨rfl,dA.no (cY b2 b3)⟩
 ·unfold da;go_wp2;exact⟨rfl,dA.no b2⟩
theorem Dy (vb vf:Nat)(vcap:aq)(hb:de W vb #[.func (.func vf) #[] vcap.toArray] 398)(hen:∀args w,(callFunc vf args).run Tryz.prog w= .ok (.enter vf args) w)(H:GZ p n vf vcap W):
  GZ (fun x=> !(decide (x.1=0)&&qS x.2.1)&&p x) n 288 [ag vb] W:=by
 intro W' Z x mv k deep B hm hO h0 h1 h2 hd;show Calls Tryz.prog 288 #[ew x mv,aa deep,ag vb] W' (dA (!(decide (x.1=0)&&qS x.2.1)&&p x) W');obtain⟨ma,mc,rfl⟩:=hm.form;have N3:=hb.below B hb.lt;obtain⟨B1,K1⟩:=di W' #[.int .u64 x.1,ae x.2.1,.slice ma x.2.2.fs.length mc,ae x.2.2.unk] 55;have HN:=vY (W'.alloc (ak #[.int .u64 x.1,ae x.2.1,.slice ma x.2.2.fs.length mc,ae x.2.2.unk] 55)) x (.slice ma x.2.2.fs.length mc);have HX:Hid (∀W2,Below W'.heap.size W' W2->Calls Tryz.prog vf (ew x (.slice ma x.2.2.fs.length mc)::aa deep::vcap).toArray W2 (dA (p x) W2)):=fun W2 h3=>H W2 Z x _ k deep (cY B h3) (hm.below h3 (ay _)) hO h0 h1 h2 hd
 unfold ew at*;generalize p x=r at*;generalize(!(decide (x.1=0)&&qS x.2.1))=s at*;obtain⟨k1,k2⟩:=K1.rules;go_enter Tryz.func288,Tryz.ntmps288
 go_wp2_with fail
 refine HN.mono ?_;intro e w2 hr;generalize W'.alloc (ak #[.int .u64 x.1,ae x.2.1,.slice ma x.2.2.fs.length mc,ae x.2.2.unk] 55)=w1 at*
 rcases hr.part with⟨rfl,rfl,b2⟩|⟨rfl,y,z,rfl,b2⟩
 ·have B2:=cY B1 b2;have Oa:=N3.below B2 N3.lt;have K2:=K1.below b2 K1.lt;clear k1 k2;obtain⟨k1,k2⟩:=K2.rules;obtain⟨k3,k4⟩:=Oa.rules;go_wp2_with fail
  refine(HX.out w2 B2).mono ?_;intro e w3 Of
  rcases Of.part with⟨rfl,rfl,b3⟩|⟨rfl,y,z,rfl,b3⟩
  ·go_wp2;go_end0;exact dA.ok (cY B2 b3)
  ·unfold da;go_wp2;exact⟨rfl,dA.no (cY B2 b3)⟩
 ·unfold da;go_wp2;exact⟨rfl,dA.no (cY B1 b2)⟩
end
theorem JU (r:Bool)(w:an):Calls Tryz.prog 157 #[.bool r] w (dA r w):=by
 cases r
 ·exact(wi w).mono fun _ _ h=>by obtain⟨rfl,rfl⟩:=h;exact dA.no (Below.refl _ _)
 ·exact(wh w).mono fun _ _ h=>by obtain⟨rfl,rfl⟩:=h;exact dA.ok (Below.refl _ _)
section
variable {S:dG} {fl:ek} {n:Nat} {W:an}
theorem MG (ib:Nat)(iq:aw)(t:MT)(hb:de W ib #[.pointer iq] 116)(H:Dw S iq n t W)(h16:fB S fl=16)(hsub:ed S fl=some t):
  GZ (dZ S (dm S n) fl) n 360 [ag ib] W:=by
 intro W' Z x mv k deep B hm hO h0 h1 h2 hd;show Calls Tryz.prog 360 #[ew x mv,aa deep,ag ib] W' (dA (dZ S (dm S n) fl x) W');have hp:dZ S (dm S n) fl x=((decide (x.1=0)&&qS x.2.1)&&dm S n t x.2.2):=by unfold dZ;rw[if_pos h16,hsub]
 rw[hp];obtain⟨ma,mc,rfl⟩:=hm.form;have N2:=hb.below B hb.lt;obtain⟨B1,K1⟩:=di W' #[.int .u64 x.1,ae x.2.1,.slice ma x.2.2.fs.length mc,ae x.2.2.unk] 55;have HN:=I8 (W'.alloc (ak #[.int .u64 x.1,ae x.2.1,.slice ma x.2.2.fs.length mc,ae x.2.2.unk] 55)) x (.slice ma x.2.2.fs.length mc)
 have HX:Hid (∀W2,Below W'.heap.size W' W2->Calls Tryz.prog 103 #[.pointer iq,.agg #[.slice ma x.2.2.fs.length mc,ae x.2.2.unk],aa ((deep:Int)+1)] W2 (dA (dm S n t x.2.2) W2)):=fun W2 h3=>by
  have:=H W2 Z _ x.2.2 k (deep+1) (cY B h3) (hm.below h3 (ay _)) hO (by omega)
  rwa [show(((deep+1:Nat):Int))=(deep:Int)+1 by omega]at this
 have hd9:(deep:Int)<=9:=by omega
 unfold ew at*;clear hp;generalize dm S n t x.2.2=r at*;generalize(decide (x.1=0)&&qS x.2.1)=s at*;obtain⟨k1,k2⟩:=K1.rules;go_enter Tryz.func360,Tryz.ntmps360
 go_wp2_with fail
 refine HN.mono ?_;intro e w2 hr;generalize W'.alloc (ak #[.int .u64 x.1,ae x.2.1,.slice ma x.2.2.fs.length mc,ae x.2.2.unk] 55)=w1 at*
 rcases hr.part with⟨rfl,rfl,b2⟩|⟨rfl,y,z,rfl,b2⟩
 ·have B2:=cY B1 b2;have N3:=N2.below B2 N2.lt;have K2:=K1.below b2 K1.lt;clear k1 k2;obtain⟨k1,k2⟩:=K2.rules;obtain⟨k3,k4⟩:=N3.rules;go_wp2_with fail
  refine(HX.out w2 B2).mono ?_;intro e w3 N7
  rcases N7.part with⟨rfl,rfl,b3⟩|⟨rfl,y,z,rfl,b3⟩
  ·go_wp2;go_end0;exact dA.ok (cY B2 b3)
  ·unfold da;go_wp2;exact⟨rfl,dA.no (cY B2 b3)⟩
 ·unfold da;go_wp2;exact⟨rfl,dA.no (cY B1 b2)⟩
theorem MH (hu:∀W',Below W.heap.size W W'->UOK W')(h13:fB S fl=13):GZ (dZ S (dm S n) fl) n 361 [] W:=by
 intro W' Z x mv k deep B hm hO h0 h1 h2 hd;show Calls Tryz.prog 361 #[ew x mv,aa deep] W' (dA (dZ S (dm S n) fl x) W');have hp:dZ S (dm S n) fl x=((decide (x.1=0)&&Aw x.2.2)&&Lib.validD x.2.1.data.toList):=by unfold dZ;rw[h13];rfl
 rw[hp];obtain⟨ma,mc,rfl⟩:=hm.form;obtain⟨B1,K1⟩:=di W' #[.int .u64 x.1,ae x.2.1,.slice ma x.2.2.fs.length mc,ae x.2.2.unk] 55;have HN:=Bk (W'.alloc (ak #[.int .u64 x.1,ae x.2.1,.slice ma x.2.2.fs.length mc,ae x.2.2.unk] 55)) x ma mc;have HV:Hid (∀W2,Below W'.heap.size W' W2->Calls Tryz.prog 325 #[ae x.2.1] W2 fun e w'=>e= .returned (.bool (Lib.validD x.2.1.data.toList))/\Below W2.heap.size W2 w'):=fun W2 h3=>xd W2 x.2.1 (by omega) (hu W2 (cY B h3))
 unfold ew at*;clear hp;generalize Lib.validD x.2.1.data.toList=r at*;generalize(decide (x.1=0)&&Aw x.2.2)=s at*;obtain⟨k1,k2⟩:=K1.rules;go_enter Tryz.func361,Tryz.ntmps361
 go_wp2_with fail
 refine HN.mono ?_;intro e w2 hr;generalize W'.alloc (ak #[.int .u64 x.1,ae x.2.1,.slice ma x.2.2.fs.length mc,ae x.2.2.unk] 55)=w1 at*
 rcases hr.part with⟨rfl,rfl,b2⟩|⟨rfl,y,z,rfl,b2⟩
 ·have B2:=cY B1 b2;have K2:=K1.below b2 K1.lt;clear k1 k2;obtain⟨k1,k2⟩:=K2.rules;go_wp2_with fail
  refine(HV.out w2 B2).mono ?_;rintro e w3 ⟨rfl,b3⟩
  cases r
  ·go_wp2_with (go_at_call 157;refine(wi _).mono ?_;rintro e w2 ⟨rfl,rfl⟩;unfold da)
   exact⟨rfl,dA.no (cY B2 b3)⟩
  ·go_wp2_with (go_at_call 157;refine(wh _).mono ?_;rintro e w2 ⟨rfl,rfl⟩)
   go_end0;exact dA.ok (cY B2 b3)
 ·unfold da;go_wp2;exact⟨rfl,dA.no (cY B1 b2)⟩
theorem MJ (h14:fB S fl=14):GZ (dZ S (dm S n) fl) n 362 [] W:=by
 intro W' Z x mv k deep B hm hO h0 h1 h2 hd;show Calls Tryz.prog 362 #[ew x mv,aa deep] W' (dA (dZ S (dm S n) fl x) W');have hp:dZ S (dm S n) fl x=(decide (x.1=0)&&Aw x.2.2):=by unfold dZ;rw[h14];rfl
 rw[hp];obtain⟨ma,mc,rfl⟩:=hm.form;obtain⟨B1,K1⟩:=di W' #[.int .u64 x.1,ae x.2.1,.slice ma x.2.2.fs.length mc,ae x.2.2.unk] 55;have HN:=Bk (W'.alloc (ak #[.int .u64 x.1,ae x.2.1,.slice ma x.2.2.fs.length mc,ae x.2.2.unk] 55)) x ma mc;unfold ew at*;clear hp;generalize(decide (x.1=0)&&Aw x.2.2)=s at*;obtain⟨k1,k2⟩:=K1.rules;go_enter Tryz.func362,Tryz.ntmps362
 go_wp2_with fail
 refine HN.mono ?_;intro e w2 hr
 rcases hr.part with⟨rfl,rfl,b2⟩|⟨rfl,y,z,rfl,b2⟩
 ·go_wp2;go_end0;exact dA.ok (cY B1 b2)
 ·unfold da;go_wp2;exact⟨rfl,dA.no (cY B1 b2)⟩
theorem ML (cb cf:Nat)(cut:Int->Int)(hb:de W cb #[.func (.func cf) #[] #[]] 423)(hen:∀args w,(callFunc cf args).run Tryz.prog w= .ok (.enter cf args) w)(hc:∀(W:an) (x:Int),0<=x->x<18446744073709551616->Calls Tryz.prog cf #[.int .u64 x] W fun e w'=>e= .returned (.int .u64 (cut x))/\W=w')
  (he:∀x,(cut x==x)=Ir (fB S fl) x) (h16:fB S fl≠16) (h13:fB S fl≠13) (h14:fB S fl≠14):GZ (dZ S (dm S n) fl) n 364 [ag cb] W:=by
 intro W' Z x mv k deep B hm hO h0 h1 h2 hd;show Calls Tryz.prog 364 #[ew x mv,aa deep,ag cb] W' (dA (dZ S (dm S n) fl x) W');have hp:dZ S (dm S n) fl x=((qS x.2.1&&Aw x.2.2)&&Ir (fB S fl) x.1):=by unfold dZ;rw[if_neg h16,if_neg h13,if_neg h14]
 rw[hp];obtain⟨ma,mc,rfl⟩:=hm.form;have N2:=hb.below B hb.lt;obtain⟨B1,K1⟩:=di W' #[.int .u64 x.1,ae x.2.1,.slice ma x.2.2.fs.length mc,ae x.2.2.unk] 55;have HN:=zV (W'.alloc (ak #[.int .u64 x.1,ae x.2.1,.slice ma x.2.2.fs.length mc,ae x.2.2.unk] 55)) x ma mc;have HC:=fun W=>hc W x.1 h0 h1
 have hx:=he x.1;unfold ew at*;clear hp hc he;generalize Ir (fB S fl) x.1=r at*;generalize cut x.1=cx at*;generalize(qS x.2.1&&Aw x.2.2)=s at*;obtain⟨k1,k2⟩:=K1.rules;go_enter Tryz.func364,Tryz.ntmps364
 go_wp2_with fail
 refine HN.mono ?_;intro e w2 hr;generalize W'.alloc (ak #[.int .u64 x.1,ae x.2.1,.slice ma x.2.2.fs.length mc,ae x.2.2.unk] 55)=w1 at*
 rcases hr.part with⟨rfl,rfl,b2⟩|⟨rfl,y,z,rfl,b2⟩
 ·have B2:=cY B1 b2;have N3:=N2.below B2 N2.lt;have K2:=K1.below b2 K1.lt;have b0:aj w2 w2.drew:=(Below.refl _ _).drew;have B3:=cY B2 b0;clear k1 k2;have hW:w2.drew.cell? (ai cb 0)=some (.func (.func cf) #[] #[])/\w2.drew.cell? (ai W'.heap.size 0)=some (.int .u64 x.1):=⟨N3.drew.cell 0,K2.drew.cell 0⟩;have N8:=HC w2.drew;go_upto_region 2 with fail
  go_region_held2 (fun W=>W.cell? (ai cb 0)=some (.func (.func cf) #[] #[])/\W.cell? (ai W'.heap.size 0)=some (.int .u64 x.1))
   (first|exact Oa|exact hW)
   (first
    |(
      go_at_call 157
      refine(JU r _).mono ?_;intro e w3 N7
      rcases N7.part with⟨rfl,rfl,b3⟩|⟨rfl,y,z,rfl,b3⟩
      rotate_left
      ·have B4:=cY B3 b3;unfold da;go_wp2;exact⟨rfl,dA.no B4⟩
      have Oa:w3.cell? (ai cb 0)=some (.func (.func cf) #[] #[])/\w3.cell? (ai W'.heap.size 0)=some (.int .u64 x.1):=⟨(N3.drew.below b3 N3.drew.lt).cell 0,(K2.drew.below b3 K2.drew.lt).cell 0⟩)
    |(
      refine N8.mono ?_
      rintro e w3 ⟨rfl,rfl⟩))
  all_goals
   go_wp2;go_end0;exact dA.ok (cY B3 b3)
 ·unfold da;go_wp2;exact⟨rfl,dA.no (cY B1 b2)⟩
end
def LU (w:an)(Q:ap)(b:Nat)(iq:aw)(v:Value):Prop:=
 ∃f cap,F7 v f cap/\∀(S:dG) (fl:ek) (n:Nat) (W:an),Kp Q w W->fB S fl=b->(∀W',Below W.heap.size W W'->UOK W')->(fB S fl=16->∃t,ed S fl=some t/\Dw S iq n t W)->GZ (dZ S (dm S n) fl) n f cap W
def Dz (w:an)(Q:ap)(mp:am->Option Nat)(g:GF)(iq:aw)(v:Value):Prop:=
 ∃f cap,F7 v f cap/\∀(S:dG) (d:MT) (fl:ek) (n:Nat) (W:an),Kp Q w W->FG S mp d fl g->(∀W',Below W.heap.size W W'->UOK W')->(fB S fl=16->∃t,ed S fl=some t/\Dw S iq n t W)->Iv (fL S (dm S n) fl) n f cap W
def Mv (w:an)(Q:ap)(w':an)(Q':ap):Prop:=∀b,Q b->b<w.heap.size->Q' b/\w'.heap[b]?=w.heap[b]?
theorem Mv.keep {w w':an}{Q:ap}(hk:∀b,Q b->b<w.heap.size->w'.heap[b]?=w.heap[b]?):Mv w Q w' Q:=fun b q l=>⟨q,hk b q l⟩
theorem Mv.mono {w:an}{Q Q':ap}(hk:∀b,Q b->b<w.heap.size->Q' b):Mv w Q w Q':=fun b q l=>⟨hk b q l,rfl⟩
theorem Mv.lt {w w':an}{Q Q':ap}(h:Mv w Q w' Q'){b:Nat}(q:Q b)(l:b<w.heap.size):b<w'.heap.size:=by
 have:=(h b q l).2;rw[bo l]at this;exact(Array.getElem?_eq_some_iff.1 this).1
theorem Kp.mv {w w' W:an}{Q Q':ap}(hk:Kp Q' w' W)(h:Mv w Q w' Q'):Kp Q w W:=fun b q l=>(hk b (h b q l).1 (h.lt q l)).trans (h b q l).2
theorem Dz.move {w w':an}{Q Q':ap}{mp:am->Option Nat}{g:GF}{iq:aw}{v:Value}(hk:Mv w Q w' Q')(h:Dz w Q mp g iq v):Dz w' Q' mp g iq v:=by
 obtain⟨f,cap,h1,h2⟩:=h;exact⟨f,cap,h1,fun S d fl n W q=>h2 S d fl n W (q.mv hk)⟩
theorem sE {v:Int}(h0:0<=v)(h1:v<18446744073709551616):0<=FY v/\FY v<18446744073709551616:=by
 unfold FY
 split<;>omega
def Iw (S:dG)(mp:am->Option Nat)(B n:Nat):Prop:=
 ∀(w:an) (Z:ap) (v:Value) (m:PM) (d:MT) (mb:Nat) (gs:List GF) (nm:am) (k:Nat),p8 w B S mp->gD w (fun b=>b<B) mp mb nm gs->ja S mp d gs->GY d->fR k w Z v m->kT k m->dm S n d m=true->(dD S n d m).length<=140737488355328->
  Calls Tryz.prog 102 #[ag mb,.agg #[v,ae m.unk]] w (fE (dD S n d m) w)
theorem Ix {S:dG}{mp:am->Option Nat}{B n:Nat}(H:Iw S mp B n)(hN:z8 S)(w:an)(Z:ap)(mv:Value)(x:PV)(d:MT)(f:ek)(g:GF)(fb:Nat)(pv:Value)(k:Nat)(cx:p8 w B S mp)(hf:dP w (fun b=>b<B) mp g fb)(fg:FG S mp d f g)(hM:fR k w Z mv x.2.2)(hO:kT k x.2.2)(h0:0<=x.1)(h1:x.1<18446744073709551616)
  (hpv:∃rv,de w fb #[aa g.f.num,aa g.form,aa (dC mp g),pv,rv] 220) (hs:dZ S (dm S n) f x=true) (hl:(eV S (dD S n) f x).length<=140737488355328):
  Calls Tryz.prog 317 #[.agg #[aa (dC mp g),pv],ew x mv] w (fE (eV S (dD S n) f x) w):=by
 obtain⟨ma,mc,rfl⟩:=hM.form;have Oe:=F5 fg;unfold ew;rw[fg.gb]
 by_cases h16:fB S f=16
 ·obtain⟨t,mb,gs,nm,rv,N3,Oa,Of,Og⟩:=Bp cx hf fg h16;obtain⟨rv2,Ob⟩:=hpv
  obtain rfl:pv=ag mb:=by
   have:=(de.cell Oa 3).symm.trans (de.cell Ob 3);simpa using this.symm
  have hb:eV S (dD S n) f x=fm (dD S n t x.2.2):=by unfold eV;rw[if_pos h16,N3]
  have hR:=tV hs h16 N3;rw[hb]at hl;have N7:=aG (oo _) hl;rw[hb,h16];obtain⟨B0,KT,KV⟩:=eD w #[aa 16,ag mb] #[.int .u64 x.1,ae x.2.1,.slice ma x.2.2.fs.length mc,ae x.2.2.unk] 216 55;have HC:=H _ Z _ x.2.2 t mb gs nm k (cx.on (dj B0 cx.le)) (Of.keep fun b q _=>B0.block b (by have:=cx.le;omega)) Og (qT hN N3) (hM.below B0 (ay _)) hO hR N7;have HL:=fun W=>qR W (dD S n t x.2.2) N7
  unfold fE;generalize dD S n t x.2.2=y at*;obtain⟨k1,k2⟩:=KT.rules;obtain⟨k3,k4⟩:=KV.rules;clear Oa Ob H;go_enter Tryz.func317,Tryz.ntmps317
  go_wp2_with fail
  refine HC.mono ?_;rintro e w2 ⟨rfl,b2⟩;go_wp2_with fail
  refine(HL w2).mono ?_;rintro e w3 ⟨rfl,rfl⟩;go_wp2;go_ret;exact⟨rfl,cY B0 b2⟩
 ·obtain⟨Oc,Od⟩:=sE h0 h1;have HL:=fun W=>qR W x.2.1.data.toList
  rw[show x.2.1.data.toList.length=x.2.1.size by simp]at HL;have HV:=fun W=>lW W x.1 h0 h1
  have HZ:=fun W=>qe W x.1 h0 h1
  have HY:=fun W=>lW W (FY x.1) Oc Od
  obtain⟨B0,KT,KV⟩:=eD w #[aa (fB S f),pv] #[.int .u64 x.1,ae x.2.1,.slice ma x.2.2.fs.length mc,ae x.2.2.unk] 216 55;clear hs H hpv Oc Od;unfold fE
  rcases vZ Oe with q|q|q|q|q|q|q|q|q|q|q|q|q|q|q|q|q
  case inr.inr.inr.inr.inr.inr.inr.inr.inr.inr.inr.inr.inr.inr.inr.inr=>exact absurd q h16
  all_goals
   rw[q]at B0 KT KV;obtain⟨k1,k2⟩:=KT.rules;obtain⟨k3,k4⟩:=KV.rules;clear h16;unfold eV at hl⊢;simp only[q,Nat.reduceEqDiff,if_false,if_true,or_self,or_true,or_false]at hl⊢
   try rw[jY]
   try (have N7:x.2.1.size<=140737488355328:=(show x.2.1.size=x.2.1.data.toList.length by simp)▸aG (oo _) hl)
   clear hl;go_enter Tryz.func317,Tryz.ntmps317
   go_wp2_with (first|(go_at_call 243;refine(HL _ N7).mono ?_;rintro e w2 ⟨rfl,rfl⟩)|(go_at_call 321;refine(HZ _).mono ?_;rintro e w2 ⟨rfl,rfl⟩)|(go_at_call 328;(first|refine(HV _).mono ?_|refine(HY _).mono ?_);rintro e w2 ⟨rfl,rfl⟩))
   go_ret;exact⟨rfl,B0⟩
theorem Aa {S:dG}{mp:am->Option Nat}{B n:Nat}(H:Iw S mp B n)(hN:z8 S)(w:an)(Z:ap)(v:Value)(l:List PV)(d:MT)(f:ek)(g:GF)(fb:Nat)(pv:Value)(k:Nat)(cx:p8 w B S mp)(hf:dP w (fun b=>b<B) mp g fb)(fg:FG S mp d f g)(hv:mB (fR k w Z) w Z v l)(hO:I9 k l)
  (hpv:∃rv,de w fb #[aa g.f.num,aa g.form,aa (dC mp g),pv,rv] 220) (hs:∀x∈l,dZ S (dm S n) f x=true) (hl:(ly S (dD S n) f l).length<=140737488355328):
  Calls Tryz.prog 233 #[.agg #[aa (dC mp g),pv],v] w (fE (ly S (dD S n) f l) w):=by
 obtain⟨a,c,rfl⟩:=hv.form;obtain⟨vcs,Oh,Oi⟩:=hv;have hll:=hO.1;obtain⟨B0,K0⟩:=di w #[aa (dC mp g),pv] 216
 have HC:Hid (∀(W:an) (x:PV) (mv:Value),aj w W->x∈l->fR k w Z mv x.2.2->Calls Tryz.prog 317 #[.agg #[aa (dC mp g),pv],ew x mv] W (fE (eV S (dD S n) f x) W)):=fun W x mv hW hx hm=>
  Ix H hN W Z mv x d f g fb pv k (cx.on (dj hW cx.le)) (hf.keep fun b _ q=>hW.block b q) fg (hm.below hW (ay _)) (hO.2 x hx).2.2.2 (hO.2 x hx).1 (hO.2 x hx).2.1 (hpv.imp fun _ q=>q.below hW q.lt) (hs x hx) (aG (sD hx) hl)
 have HT:Hid (∀i,((l.take i).flatMap (eV S (dD S n) f)).length<=140737488355328):=fun i=>aG (gk i) hl
 unfold ly at*;generalize eV S (dD S n) f=bv at*;generalize dC mp g=gb at*;clear hl hs hpv hO hf fg cx;go_enter Tryz.func233,Tryz.ntmps233
 go_wp2;generalize w.alloc (ak #[aa gb,pv] 216)=w1 at*;go_loopw [5,7,10] (fun sv _ jv wr=>∃j:Nat,jv=aa j/\j<=l.length/\sv=aa ((l.take j).flatMap bv).length/\aj w1 wr) (fun _ _ jv _=>l.length-(intOf jv).toNat)
 case atStart=>exact⟨0,rfl,aM _,rfl,Below.refl _ _⟩
 case round=>
  obtain⟨j,rfl,hj,rfl,Bw⟩:=hrel;have BW:=cY B0 Bw
  by_cases hlt:j<l.length
  ·obtain⟨x,hx⟩:=gx hlt;obtain⟨mv,p1,p2,p3,p4,p5⟩:=Oi.get hx;obtain⟨ma,mc,rfl⟩:=p1.form;obtain⟨gv,rfl,hzgv,N8,N2⟩:=Oh.at (by omega);have t0:=N2 wr (BW.block _ N8) _ _ p2;have t1:=jI (N2 wr (BW.block _ N8) _ _ p3);have t2:=jI (N2 wr (BW.block _ N8) _ _ p4);have t3:=jI (N2 wr (BW.block _ N8) _ _ p5);have hlj:(j:Int)<(l.length:Int):=by omega
   obtain⟨B1,K1⟩:=di wr #[.int .u64 x.1,ae x.2.1,.slice ma x.2.2.fs.length mc,ae x.2.2.unk] 55;have HX:=HC.out _ x _ (cY BW B1) (aI hx) p1;unfold ew at HX;have KT:=K0.below (cY Bw B1) K0.lt;have hT:=HT.out (j+1);rw[eu hx,aH]at hT
   have HS:Hid (((l.take (j+1)).flatMap bv).length=((l.take j).flatMap bv).length+(bv x).length):=by
    show((l.take (j+1)).flatMap bv).length=_;rw[eu hx,aH]
   generalize((l.take j).flatMap bv).length=sz at*;obtain⟨k1,k2⟩:=KT.rules;obtain⟨k3,k4⟩:=K1.rules;clear N2 p2 p3 p4 p5 hx;go_wp2_with fail
   refine HX.mono ?_;rintro e w3 ⟨rfl,b3⟩;generalize(bv x).length=yz at*;have hsum:(sz:Int)+(yz:Int)<=140737488355328:=by omega
   go_wp2;go_roundw
   case rel=>exact⟨j+1,by go_num,by omega,by rw[HS.out];go_num,cY (cY Bw B1) b3⟩
   case measure=>simp[intOf];omega
  ·obtain rfl:j=l.length:=by omega
   rw[aY];go_wp2;go_ret;exact⟨rfl,BW⟩
theorem CF (S:dG)(R:MT->PM->List UInt8)(f:ek)(l:List PV):(ly S R f l).length<=(iW S R f l).length:=by
 unfold iW
 split
 ·have:=oo (ly S R f l);rw[aH];omega
 ·rw[qg];exact Nat.le_add_left _ _
theorem tW {c:Int}(h0:0<=c)(h1:c<=140737488355328):IntKind.i64.wrap c=c:=by
 simp[IntKind.wrap,IntKind.bits,IntKind.signed];omega
theorem Iy (n k:Int):(gP n k).length<=10:=(om 9 (n*8+k)).1
theorem Iz {S:dG}{mp:am->Option Nat}{B n:Nat}(H:Iw S mp B n)(hN:z8 S)(w:an)(Z:ap)(v:Value)(l:List PV)(d:MT)(f:ek)(g:GF)(fb:Nat)(k:Nat)(cx:p8 w B S mp)(hf:dP w (fun b=>b<B) mp g fb)(fg:FG S mp d f g)(hnm:0<=f.num/\f.num<=536870911)(hv:mB (fR k w Z) w Z v l)(hO:I9 k l)
  (hs:∀x∈l,dZ S (dm S n) f x=true) (hl:(iW S (dD S n) f l).length<=140737488355328):
  Calls Tryz.prog 162 #[ag fb,v] w (fE (iW S (dD S n) f l) w):=by
 obtain⟨a,c,rfl⟩:=hv.form;obtain⟨pv,rv,h1,_,Oa,Of⟩:=hf.blk;obtain⟨pq,rfl⟩:=eT Of;have Oc:=aG (CF S (dD S n) f l) hl;have HT:=tS w _ mp g fb hf;rw[fg.eq,fg.tk]at HT;have N8:0<=mM S f/\mM S f<8:=by rw[<-fg.tk];exact qf mp g
 have HZ:Hid (∀W,Calls Tryz.prog 242 #[.agg #[aa f.num,aa (mM S f)]] W fun e w'=>e= .returned (aa (gP f.num (mM S f)).length)/\Below W.heap.size W w'):=fun W=>I7 W f.num (mM S f) hnm.1 hnm.2 N8.1 N8.2
 have HP:Hid (∀W,aj w W->Calls Tryz.prog 209 #[ag fb] W fun e w'=>e= .returned (.bool (iJ S f))/\Below W.heap.size W w'):=fun W hW=>by
  have:=jW W _ mp g fb (hf.keep fun b _ q=>hW.block b q)
  rwa [fg.pk]at this
 have HV:Hid (∀W,aj w W->Calls Tryz.prog 233 #[.agg #[aa (dC mp g),.pointer pq],.slice a l.length c] W (fE (ly S (dD S n) f l) W)):=fun W hW=>
  Aa H hN W Z _ l d f g fb (.pointer pq) k (cx.on (dj hW cx.le)) (hf.keep fun b _ q=>hW.block b q) fg (mB.below hW (ay _) hv) hO ⟨rv,h1.below hW h1.lt⟩ hs Oc
 have HL:Hid (∀W,Calls Tryz.prog 243 #[aa (ly S (dD S n) f l).length] W fun e w'=>e= .returned (aa (fm (ly S (dD S n) f l)).length)/\w'=W):=fun W=>qR W _ Oc
 have htl:=Iy f.num (mM S f)
 have hlen:(iW S (dD S n) f l).length=if iJ S f then(gP f.num (mM S f)).length+(fm (ly S (dD S n) f l)).length else(gP f.num (mM S f)).length*l.length+(ly S (dD S n) f l).length:=by
  unfold iW
  split
  ·rw[aH]
  ·rw[qg];rfl
 unfold fE;rw[hlen]at hl⊢;clear hlen;clear Of Oa hf N8 hs hO hv H cx hnm fg;generalize ly S (dD S n) f l=y at*;generalize mM S f=tk at*
 cases hpk:iJ S f with
 |true=>
  rw[hpk]at HP hl;rw[if_pos rfl]at hl⊢;generalize(fm y).length=yl at*;generalize(gP f.num tk).length=tl at*;go_enter Tryz.func162,Tryz.ntmps162
  go_wp2_with fail
  refine HT.mono ?_;rintro e w2 ⟨rfl,b2⟩;go_wp2_with fail
  refine(HZ.out w2).mono ?_;rintro e w3 ⟨rfl,b3⟩;have B3:=cY b2 b3;go_wp2_with fail
  refine(HP.out w3 B3).mono ?_;rintro e w4 ⟨rfl,b4⟩;have B4:=cY B3 b4;have h4:=h1.below B4 h1.lt;obtain⟨k1,k2⟩:=h4.rules;go_wp2_with fail
  refine(HV.out w4 B4).mono ?_;rintro e w5 ⟨rfl,b5⟩;go_wp2_with fail
  refine(HL.out w5).mono ?_;rintro e w6 ⟨rfl,rfl⟩;have N7:(tl:Int)+(yl:Int)<=140737488355328:=by omega
  go_wp2;go_ret;exact⟨by rw[Int.natCast_add];rfl,cY B4 b5⟩
 |false=>
  rw[hpk]at HP hl;rw[if_neg (by simp)]at hl⊢;generalize(gP f.num tk).length=tl at*;have hmul:(tl:Int)*(l.length:Int)=((tl*l.length:Nat):Int):=by rw[Int.natCast_mul]
  generalize tl*l.length=pl at*;go_enter Tryz.func162,Tryz.ntmps162
  go_wp2_with fail
  refine HT.mono ?_;rintro e w2 ⟨rfl,b2⟩;go_wp2_with fail
  refine(HZ.out w2).mono ?_;rintro e w3 ⟨rfl,b3⟩;have B3:=cY b2 b3;go_wp2_with fail
  refine(HP.out w3 B3).mono ?_;rintro e w4 ⟨rfl,b4⟩;have B4:=cY B3 b4;have h4:=h1.below B4 h1.lt;obtain⟨k1,k2⟩:=h4.rules;go_wp2_with fail
  refine(HV.out w4 B4).mono ?_;rintro e w5 ⟨rfl,b5⟩;have N7:(pl:Int)+(y.length:Int)<=140737488355328:=by omega
  go_wp2;go_ret;exact⟨by rw[Int.natCast_add];rfl,cY B4 b5⟩
theorem qU {S:dG}{mp:am->Option Nat}{B:Nat}(hN:z8 S):∀n,Iw S mp B n:=by
 intro n
 induction n with
 |zero=>
  intro w Z v m d mb gs nm k cx hm hG Og hM hO hs
  cases hs
 |succ n ih=>
  intro w Z v m d mb gs nm k cx hm hG Og hM hO hs hl
  cases k with
  |zero=>exact hM.elim
  |succ k=>
  obtain⟨cs,hr,Oj⟩:=hM;obtain⟨a,c,rfl⟩:=hr.form;obtain⟨ho1,ho2,Ok⟩:=hO;rw[dm,aT]at hs;have hX:=fun x hx=>tU (x:=x) hs.1 hx
  obtain⟨B0,K1⟩:=di w #[.slice a m.fs.length c,ae m.unk] 49;rw[dD]at hl;unfold fE;rw[dD];rw[aH]at hl⊢;rw[show m.unk.data.toList.length=m.unk.size by simp]at hl⊢
  have HC:Hid (∀(W:an) (x:PF) (f:ek) (g:GF) (fb:Nat) (v:Value),aj w W->x∈m.fs->dv d.fs x.1=some f->FG S mp d f g->dP W (fun b=>b<B) mp g fb->mB (fR k w Z) w Z v x.2->Calls Tryz.prog 162 #[ag fb,v] W (fE (iL S (dD S n) d x) W)):=fun W x f g fb v hW hx N3 fg Ob hv=>by
   obtain⟨f',q1,q2⟩:=hX x hx;obtain rfl:f=f':=by rw[N3]at q1;exact Option.some.inj q1
   have hb:iL S (dD S n) d x=iW S (dD S n) f x.2:=by unfold iL;rw[N3]
   have Od:(iL S (dD S n) d x).length<=140737488355328:=aG (sD hx) (by omega);rw[hb]at Od⊢;exact Iz ih hN W Z v x.2 d f g fb k (cx.on (dj hW cx.le)) Ob fg (Og _ _ N3) (mB.below hW (ay _) hv) (Ok x hx) (fun v hv=>xO q2 hv) Od
  have HT:Hid (∀i,((m.fs.take i).flatMap (iL S (dD S n) d)).length+m.unk.size<=140737488355328):=fun i=>by
   have:=gk (g:=iL S (dD S n) d) (l:=m.fs) i;show _<=_;omega
  generalize iL S (dD S n) d=bx at*;clear hl hs;obtain⟨k1,k2⟩:=K1.rules;go_enter Tryz.func102,Tryz.ntmps102
  go_wp2;generalize w.alloc (ak #[.slice a m.fs.length c,ae m.unk] 49)=w1 at*;go_loopw [5,7,14] (fun sv _ iv wr=>∃i:Nat,iv=aa i/\i<=m.fs.length/\sv=aa (((m.fs.take i).flatMap bx).length+m.unk.size:Nat)/\aj w1 wr) (fun _ _ iv _=>m.fs.length-(intOf iv).toNat)
  case atStart=>exact⟨0,rfl,aM _,by simp,Below.refl _ _⟩
  case round=>
   obtain⟨i,rfl,hi,rfl,Bw⟩:=hrel;clear k1 k2;have BW:=cY B0 Bw
   by_cases hlt:i<m.fs.length
   ·obtain⟨x,hx⟩:=gx hlt;obtain⟨vv,p1,p2,p3⟩:=Oj.get hx;obtain⟨va,vc,rfl⟩:=p1.form;obtain⟨g0,rfl,hzg0,Oh,N2⟩:=hr.at (by omega);have t0:=N2 wr (BW.block _ Oh) _ _ p2;have t1:=jI (N2 wr (BW.block _ Oh) _ _ p3);obtain⟨B1,K5⟩:=di wr #[aa x.1,.slice va x.2.length vc] 58;have B2:=cY BW B1;have Oi:=cY Bw B1;obtain⟨f,N3,_⟩:=hX x (aI hx);obtain⟨g,hg,fg⟩:=hG.yes _ _ N3;have HF:=od _ (fun b=>b<B) mp mb nm gs x.1 (hm.keep fun b _ q=>B2.drew.block b q) hG.srt hG.len;rw[hg]at HF;have HZ:=fun fb q=>HC.out _ x f g fb _ B2.drew (aI hx) N3 fg q p1
    have hT:=HT.out (i+1);rw[eu hx,aH]at hT
    have HS:Hid (((m.fs.take (i+1)).flatMap bx).length+m.unk.size=((m.fs.take i).flatMap bx).length+m.unk.size+(bx x).length):=by
     show((m.fs.take (i+1)).flatMap bx).length+m.unk.size=_;rw[eu hx,aH];omega
    have hT2:((m.fs.take i).flatMap bx).length+m.unk.size+(bx x).length<=140737488355328:=by omega
    generalize((m.fs.take i).flatMap bx).length+m.unk.size=sz at*;have hij:(i:Int)<(m.fs.length:Int):=by omega
    have N7:IntKind.i64.wrap ((sz:Int)+((bx x).length:Int))=(sz:Int)+((bx x).length:Int):=tW (by omega) (by omega);clear N2 p2 p3 B1 hx hg N3 hT;go_upto_region 5 with fail
    generalize wr.alloc (ak #[aa x.1,.slice va x.2.length vc] 58)=w2 at*;generalize wr.heap.size=vb at*;have hW:w2.drew.cell? (ai vb 0)=some (aa x.1)/\w2.drew.cell? (ai vb 1)=some (.slice va x.2.length vc):=⟨K5.drew.cell 0,K5.drew.cell 1⟩
    go_region_held2 (fun W=>W.cell? (ai vb 0)=some (aa x.1)/\W.cell? (ai vb 1)=some (.slice va x.2.length vc))
     (first|exact hW|exact⟨Oe.cell 0,Oe.cell 1⟩)
     (first
      |(
        go_at_call 153
        refine HF.mono ?_
        rintro e w3 ⟨⟨fb,rfl,Ob⟩,rfl⟩)
      |(
        go_at_call 162
        refine(HZ _ Ob).mono ?_;rintro e w3 ⟨rfl,b3⟩
        have Oe:=K5.below (w:=w2.drew) b3 K5.lt))
    go_wp2;go_roundw
    case rel=>exact⟨i+1,by go_num,by omega,by rw[HS.out,Int.natCast_add],cY Oi.drew b3⟩
    case measure=>simp[intOf];omega
   ·obtain rfl:i=m.fs.length:=by omega
    rw[aY];go_wp2;go_ret;exact⟨rfl,BW⟩
end
end Go.Proofs.YtfebdimolnobaaaGreatDoor
