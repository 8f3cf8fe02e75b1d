import Derived.Test.YtfebdimolnobaaaGreatDoorItD
set_option maxRecDepth 100000
set_option maxHeartbeats 8000000
set_option linter.all false
namespace Go.Proofs.YtfebdimolnobaaaGreatDoor
open Go.RowKit Go.Proofs.Tryz
section
open Vo
structure L6 (v:Value)(f:Nat)(cap:ay):Prop where
 eq:v= .func (.func f) #[] cap.toArray
 en:∀args w,(callFunc f args).run prog w= .ok (.enter f args) w
def Kp (Q:ax)(w W:aw):Prop:=∀b,Q b->b<w.heap.size->W.heap[b]?=w.heap[b]?
def Kp.bx {Q:ax}{w W:aw}(h:Kp Q w W){b:Nat}{cs:aq}{T:TypeId}(q:Q b)(hb:dX w b cs T):dX W b cs T:=(h b q hb.lt).J hb
def NH (p:PV->Bool)(n:Nat)(f:Nat)(cap:ay)(W:aw):Prop:=
 ∀(W':aw) (Z:ax) (x:PV) (mv:Value) (k deep:Nat),Below W.heap.size W W'->gP k W' Z mv x.2.2->pP k x.2.2->0<=x.1->x.1<2^64->x.2.1.size<=1099511627776->n+1+deep=9->
  U8 f (gh x mv::aa deep::cap).toArray W' (eF (p x) W')
def OQ (q:List PV->Bool)(n:Nat)(f:Nat)(cap:ay)(W:aw):Prop:=
 ∀(W':aw) (Z:ax) (vv:Value) (l:List PV) (k deep:Nat),Below W.heap.size W W'->pO (gP k W' Z) W' Z vv l->P6 k l->n+1+deep=9->
  U8 f (vv::aa deep::cap).toArray W' (eF (q l) W')
def Jc (S:eD)(iq:aC)(n:Nat)(t:MT)(W:aw):Prop:=
 ∀(W':aw) (Z:ax) (v:Value) (m:PM) (k deep:Nat),Below W.heap.size W W'->gP k W' Z v m->pP k m->n+deep=9->
  U8 103 #[.pointer iq,.agg #[v,ag m.unk],aa deep] W' (eF (dZ S n t m) W')
def AU (w:aw):U8 157 #[.bool true] w λe w'=>e= .returned (.tuple #[])/\w=w':=(iw w).V λ_ _ h=>⟨h.1,h.2.sy⟩
def AV (w:aw):U8 157 #[.bool false] w λe w'=>e=dY 12 0/\w=w':=(ii w).V λ_ _ h=>⟨h.1,h.2.sy⟩
section
variable {p:PV->Bool} {n:Nat} {W:aw}
def L7 (vb vf:Nat)(vcap:ay)(hb:dX W vb #[.func (.func vf) #[] vcap.toArray] 398)(hen:∀args w,(callFunc vf args).run prog w= .ok (.enter vf args) w)(H:NH p n vf vcap W):
  OQ (λl=>(l.length==1)&&l.all p) n 367 [ah vb] W:=by
 intro W' Z vv l k deep B hv hO hd;show U8 367 #[vv,aa deep,ah vb] W' (eF ((l.length==1)&&l.all p) W');obtain⟨R,HR⟩:∃R,Hid (((l.length==1)&&l.all p)=R):=⟨_,rfl⟩;rw[HR.o];obtain⟨a,c,rfl⟩:=hv.form;have Vq:=hb.G B hb.lt;by_cases h1:l.length=1
 .have e1:((l.length:Int)==1)=true:=Ve;obtain⟨x,rfl⟩:=List.length_eq_one_iff.1 h1;obtain⟨Vu,Vv,Vw⟩:=hv;have⟨mv,p1,p2,p3,p4,p5⟩:=Vw.get (i:=0) (v:=x) rfl;obtain⟨ma,mc,rfl⟩:=p1.form;obtain⟨gv,rfl,Vx,Vr,Vp⟩:=Vv.at Vd;have t0:=Vp W'.drew rfl _ _ p2;have t1:=lI (Vp W'.drew rfl _ _ p3);have t2:=lI (Vp W'.drew rfl _ _ p4);have t3:=lI (Vp W'.drew rfl _ _ p5);simp only[Nat.zero_mul,Ja]at t0 t1 t2 t3;have Vs:=hO.2 x aZ;have HX:=H W'.drew Z x _ k deep B.drew (p1.G (Below.refl _ _).drew (aE _)) Vs.2.2.2 Vs.1 Vs.2.1 Vs.2.2.1 hd;unfold gh at HX;have HP:Hid (R=p x):=(by show R=p x;rw[<-HR.o];simp);generalize p x=r at*;have b0:Below W'.heap.size W' W'.drew:=(Below.refl _ _).drew;have hW:W'.drew.cell? (aj vb 0)=some (.func (.func vf) #[] vcap.toArray)/\W'.drew.cell? gv=some (.int .u64 x.1)/\W'.drew.cell? (aj gv.block (gv.off+1))=some (ag x.2.1)/\W'.drew.cell? (aj gv.block (gv.off+2))=some (.slice ma x.2.2.fs.length mc)/\W'.drew.cell? (aj gv.block (gv.off+3))=some (ag x.2.2.unk):=⟨Vq.drew.cell 0,t0,t1,t2,t3⟩;clear h1;go_enter func367,ntmps367;go_upto_region 1 with(go_at_call 157;refine(AU _).V ?_;rintro e w2 ⟨rfl,rfl⟩)
  go_region_held2 (λW=>W.cell? (aj vb 0)=some (.func (.func vf) #[] vcap.toArray)/\W.cell? gv=some (.int .u64 x.1)/\W.cell? (aj gv.block (gv.off+1))=some (ag x.2.1)/\W.cell? (aj gv.block (gv.off+2))=some (.slice ma x.2.2.fs.length mc)/\W.cell? (aj gv.block (gv.off+3))=some (ag x.2.2.unk))
   (first|exact hW|exact VA)
   (first
    |(
      refine HX.V ?_;intro e w3 hr;rcases hr.part with⟨rfl,rfl,b3⟩|⟨rfl,y,z,rfl,b3⟩;rotate_left;.have b4:=dU b0 b3;unfold dY;go_wp2;rw[HP.o];exact⟨rfl,eF.no b4⟩
      have VA:w3.cell? (aj vb 0)=some (.func (.func vf) #[] vcap.toArray)/\w3.cell? gv=some (.int .u64 x.1)/\w3.cell? (aj gv.block (gv.off+1))=some (ag x.2.1)/\w3.cell? (aj gv.block (gv.off+2))=some (.slice ma x.2.2.fs.length mc)/\w3.cell? (aj gv.block (gv.off+3))=some (ag x.2.2.unk):=⟨(Vq.drew.G b3 Vq.drew.lt).cell 0,(b3.cell (p:=gv) Vr).J t0,(b3.cell (p:=(aj gv.block (gv.off+1))) Vr).J t1,(b3.cell (p:=(aj gv.block (gv.off+2))) Vr).J t2,(b3.cell (p:=(aj gv.block (gv.off+3))) Vr).J t3⟩))
  go_wp2;go_end0;rw[HP.o];exact eF.ok (dU b0 b3)
 .have e1:((l.length:Int)==1)=false:=Ve;have HP:Hid (R=false):=(by show R=false;rw[<-HR.o];simp[h1]);go_enter func367,ntmps367;go_wp2_with (go_at_call 157;refine(AV _).V ?_;rintro e w2 ⟨rfl,rfl⟩;unfold dY)
  rw[HP.o];exact⟨rfl,eF.no (Below.refl _ _)⟩
def Ma (vb vf:Nat)(vcap:ay)(hb:dX W vb #[.func (.func vf) #[] vcap.toArray] 398)(hen:∀args w,(callFunc vf args).run prog w= .ok (.enter vf args) w)(H:NH p n vf vcap W):
  OQ (λl=>decide (0<l.length)&&l.all p) n 366 [ah vb] W:=by
 intro W' Z vv l k deep B hv hO hd;show U8 366 #[vv,aa deep,ah vb] W' (eF (decide (0<l.length)&&l.all p) W');obtain⟨R,HR⟩:∃R,Hid ((decide (0<l.length)&&l.all p)=R):=⟨_,rfl⟩;rw[HR.o];obtain⟨a,c,rfl⟩:=hv.form;have Vq:=hb.G B hb.lt;have hll:=hO.1;by_cases h1:0<l.length
 .have e1:decide (0<(l.length:Int))=true:=Ve;obtain⟨Vu,Vv,Vw⟩:=hv;have HP:Hid (R=l.all p):=(by show R=l.all p;rw[<-HR.o,decide_eq_true h1,dd])
  have HC:Hid (∀(W2:aw) (x:PV) (mv:Value),Below W'.heap.size W' W2->x∈l->gP k W' Z mv x.2.2->U8 vf (gh x mv::aa deep::vcap).toArray W2 (eF (p x) W2)):=λW2 x mv h2 hx hm=>
   H W2 Z x mv k deep (dU B h2) (hm.G h2 (aE _)) (hO.2 x hx).2.2.2 (hO.2 x hx).1 (hO.2 x hx).2.1 (hO.2 x hx).2.2.1 hd
  go_enter func366,ntmps366;go_wp2_with (go_at_call 157;refine(AU _).V ?_;rintro e w2 ⟨rfl,rfl⟩)
  go_loopw [6,13] (λ_ jv wr=>∃j:Nat,jv=aa j/\j<=l.length/\Hid ((l.take j).all p=true)/\Below W'.heap.size W' wr) (λ_ jv _=>l.length-(intOf jv).toNat)
  case atStart=>exact⟨0,rfl,aP _,rfl,Below.refl _ _⟩
  case round=>
   obtain⟨j,rfl,hj,HA,Bj⟩:=hrel;by_cases hlt:j<l.length
   .have⟨x,hx⟩:=gx hlt;have⟨mv,p1,p2,p3,p4,p5⟩:=Vw.get hx;obtain⟨ma,mc,rfl⟩:=p1.form;obtain⟨gv,rfl,Vx,Vr,Vp⟩:=Vv.at Vc;have t0:=Vp wr (Bj.block _ Vr) _ _ p2;have t1:=lI (Vp wr (Bj.block _ Vr) _ _ p3);have t2:=lI (Vp wr (Bj.block _ Vr) _ _ p4);have t3:=lI (Vp wr (Bj.block _ Vr) _ _ p5);have hlj:(j:Int)<(l.length:Int):=Vc;have⟨B1,K1⟩:=d8 wr (U4 x ma mc) 55;have B2:=dU Bj B1;have HX:=HC.o _ x _ B2 (aL hx) p1;unfold gh at HX;have Vt:=Vq.G B2 Vq.lt;have HT:Hid ((l.take (j+1)).all p=p x):=(by show(l.take (j+1)).all p=_;rw[Er hx,HA.o,dd]);generalize p x=r at*;have⟨k1,k2⟩:=K1.I;have⟨k3,k4⟩:=Vt.I;clear Vp p2 p3 p4 p5 hx;go_wp2_with fail;refine HX.V ?_;intro e w3 hr;rcases hr.part with⟨rfl,rfl,b3⟩|⟨rfl,y,z,rfl,b3⟩
    .go_wp2;go_roundw
     case rel=>exact⟨j+1,by go_num,Vc,HT.o,dU B2 b3⟩
     case measure=>simp[intOf];omega
    .unfold dY;go_wp2;rw[HP.o,Ib HT.o];exact⟨rfl,eF.no (dU B2 b3)⟩
   .obtain rfl:j=l.length:=Vc
    have VB:Hid (l.all p=true):=by
     show l.all p=true;have:=HA.o
     rwa [bB]at this
    go_wp2;go_end0;rw[HP.o,VB.o];exact eF.ok Bj
 .have e1:decide (0<(l.length:Int))=false:=decide_eq_false Vc;have HP:Hid (R=false):=(by show R=false;rw[<-HR.o,decide_eq_false h1,cT]);go_enter func366,ntmps366;go_wp2_with (go_at_call 157;refine(AV _).V ?_;rintro e w2 ⟨rfl,rfl⟩;unfold dY)
  rw[HP.o];exact⟨rfl,eF.no (Below.refl _ _)⟩
def Jd {q:List PV->Bool}(eb ef sb:Nat)(ecap:ay)(sg:Bool)(hb:dX W eb #[.func (.func ef) #[] ecap.toArray] 260)(hsb:dX W sb #[.bool sg] 4)(hen:∀args w,(callFunc ef args).run prog w= .ok (.enter ef args) w)(H:OQ q n ef ecap W)
  (hq:∀l k,P6 k l->q l=true->∀e∈l,Ep e):
  OQ (λl=>q l&&jG sg none l) n 365 [ah eb,ah sb] W:=by
 intro W' Z vv l k deep B hv hO hd;show U8 365 #[vv,aa deep,ah eb,ah sb] W' (eF (q l&&jG sg none l) W');obtain⟨a,c,rfl⟩:=hv.form;have Vq:=hb.G B hb.lt;have Vz:=hsb.G B hsb.lt
 have VC:∀W2,Below W'.heap.size W' W2->pO (gP (k-1+1) W2 Z) W2 Z (.slice a l.length c) l:=λW2 h2=>by
  have:=pO.G h2 (aE _) hv
  cases k with
  |zero=>
   obtain⟨Vu,q1,q2⟩:=this;refine⟨Vu,q1,?_⟩
   cases l with
   |nil=>exact q2
   |cons x r=>exact(hO.2 x aZ).2.2.2.elim
  |succ k=>exact this
 have HE:Hid (q l=true->∀W2,Below W'.heap.size W' W2->U8 240 #[.slice a l.length c,.bool sg] W2 (eF (jG sg none l) W2)):=λhl W2 h2=>
  AT W2 _ l sg (VC W2 h2) (hq l k hO hl) hO.1
 have HX:=H W' Z _ l k deep B hv hO hd;generalize q l=ql at*;generalize jG sg none l=r at*;have⟨k1,k2⟩:=Vq.I;go_enter func365,ntmps365;go_wp2_with fail;refine HX.V ?_;intro e w2 hr;rcases hr.part with⟨rfl,rfl,b2⟩|⟨rfl,y,z,rfl,b2⟩
 .have VD:=Vz.G b2 Vz.lt;clear k1 k2;have⟨k1,k2⟩:=VD.I;go_wp2_with fail;refine(HE.o trivial w2 b2).V ?_;intro e w3 Vy;rcases Vy.part with⟨rfl,rfl,b3⟩|⟨rfl,y,z,rfl,b3⟩;.go_wp2;go_end0;exact eF.ok (dU b2 b3)
  .unfold dY;go_wp2;exact⟨rfl,eF.no (dU b2 b3)⟩
 .unfold dY;go_wp2;exact⟨rfl,eF.no b2⟩
def Je (vb vf:Nat)(vcap:ay)(hb:dX W vb #[.func (.func vf) #[] vcap.toArray] 398)(hen:∀args w,(callFunc vf args).run prog w= .ok (.enter vf args) w)(H:NH p n vf vcap W):
  NH (λx=> !(decide (x.1=0)&&ou x.2.1)&&p x) n 288 [ah vb] W:=by
 intro W' Z x mv k deep B hm hO h0 h1 h2 hd;show U8 288 #[gh x mv,aa deep,ah vb] W' (eF (!(decide (x.1=0)&&ou x.2.1)&&p x) W');obtain⟨ma,mc,rfl⟩:=hm.form;have Vq:=hb.G B hb.lt;have⟨B1,K1⟩:=d8 W' (U4 x ma mc) 55;have HN:=AP (W'.alloc (Obj.cells (U4 x ma mc) 55)) x (.slice ma x.2.2.fs.length mc);have HX:Hid (∀W2,Below W'.heap.size W' W2->U8 vf (gh x (.slice ma x.2.2.fs.length mc)::aa deep::vcap).toArray W2 (eF (p x) W2)):=λW2 h3=>H W2 Z x _ k deep (dU B h3) (hm.G h3 (aE _)) hO h0 h1 h2 hd
 unfold gh at*;generalize p x=r at*;generalize(!(decide (x.1=0)&&ou x.2.1))=s at*;have⟨k1,k2⟩:=K1.I;go_enter func288,ntmps288;go_wp2_with fail;refine HN.V ?_;intro e w2 hr;generalize W'.alloc (Obj.cells (U4 x ma mc) 55)=w1 at*;rcases hr.part with⟨rfl,rfl,b2⟩|⟨rfl,y,z,rfl,b2⟩
 .have B2:=dU B1 b2;have Vt:=Vq.G B2 Vq.lt;have K2:=K1.G b2 K1.lt;clear k1 k2;have⟨k1,k2⟩:=K2.I;have⟨k3,k4⟩:=Vt.I;go_wp2_with fail;refine(HX.o w2 B2).V ?_;intro e w3 Vy;rcases Vy.part with⟨rfl,rfl,b3⟩|⟨rfl,y,z,rfl,b3⟩;.go_wp2;go_end0;exact eF.ok (dU B2 b3)
  .unfold dY;go_wp2;exact⟨rfl,eF.no (dU B2 b3)⟩
 .unfold dY;go_wp2;exact⟨rfl,eF.no (dU B1 b2)⟩
end
section
variable {w w':aw} {Q Q':ax}
theorem QY (r:Bool)(w:aw):U8 157 #[.bool r] w (eF r w):=by
 cases r;.exact(AV w).V λ_ _ h=>by obtain⟨rfl,rfl⟩:=h;exact eF.no (Below.refl _ _)
 .exact(AU w).V λ_ _ h=>by obtain⟨rfl,rfl⟩:=h;exact eF.ok (Below.refl _ _)
section
variable {S:eD} {fl:fo} {n:Nat} {W:aw}
theorem TC (ib:Nat)(iq:aC)(t:MT)(hb:dX W ib #[.pointer iq] 116)(H:Jc S iq n t W)(h16:fB S fl=16)(hsub:fy S fl=some t):
  NH (eC S (dZ S n) fl) n 360 [ah ib] W:=by
 intro W' Z x mv k deep B hm hO h0 h1 h2 hd;show U8 360 #[gh x mv,aa deep,ah ib] W' (eF (eC S (dZ S n) fl x) W');have hp:eC S (dZ S n) fl x=((decide (x.1=0)&&ou x.2.1)&&dZ S n t x.2.2):=by unfold eC;rw[dP h16,hsub]
 rw[hp];obtain⟨ma,mc,rfl⟩:=hm.form;have Vp:=hb.G B hb.lt;have⟨B1,K1⟩:=d8 W' (U4 x ma mc) 55;have HN:=P5 (W'.alloc (Obj.cells (U4 x ma mc) 55)) x (.slice ma x.2.2.fs.length mc)
 have HX:Hid (∀W2,Below W'.heap.size W' W2->U8 103 #[.pointer iq,.agg #[.slice ma x.2.2.fs.length mc,ag x.2.2.unk],aa ((deep:Int)+1)] W2 (eF (dZ S n t x.2.2) W2)):=λW2 h3=>by
  have:=H W2 Z _ x.2.2 k (deep+1) (dU B h3) (hm.G h3 (aE _)) hO Vc
  rwa [show(((deep+1:Nat):Int))=(deep:Int)+1 by omega]at this
 have hd9:(deep:Int)<=9:=Vc;unfold gh at*;clear hp;generalize dZ S n t x.2.2=r at*;generalize(decide (x.1=0)&&ou x.2.1)=s at*;have⟨k1,k2⟩:=K1.I;go_enter func360,ntmps360;go_wp2_with fail;refine HN.V ?_;intro e w2 hr;generalize W'.alloc (Obj.cells (U4 x ma mc) 55)=w1 at*;rcases hr.part with⟨rfl,rfl,b2⟩|⟨rfl,y,z,rfl,b2⟩
 .have B2:=dU B1 b2;have Vq:=Vp.G B2 Vp.lt;have K2:=K1.G b2 K1.lt;clear k1 k2;have⟨k1,k2⟩:=K2.I;have⟨k3,k4⟩:=Vq.I;go_wp2_with fail;refine(HX.o w2 B2).V ?_;intro e w3 Vr;rcases Vr.part with⟨rfl,rfl,b3⟩|⟨rfl,y,z,rfl,b3⟩;.go_wp2;go_end0;exact eF.ok (dU B2 b3)
  .unfold dY;go_wp2;exact⟨rfl,eF.no (dU B2 b3)⟩
 .unfold dY;go_wp2;exact⟨rfl,eF.no (dU B1 b2)⟩
theorem TD (hu:∀W',Below W.heap.size W W'->UOK W')(h13:fB S fl=13):NH (eC S (dZ S n) fl) n 361 [] W:=by
 intro W' Z x mv k deep B hm hO h0 h1 h2 hd;show U8 361 #[gh x mv,aa deep] W' (eF (eC S (dZ S n) fl x) W');have hp:eC S (dZ S n) fl x=((decide (x.1=0)&&zD x.2.2)&&Lib.validD x.2.1.data.toList):=by unfold eC;rw[h13];rfl
 rw[hp];obtain⟨ma,mc,rfl⟩:=hm.form;have⟨B1,K1⟩:=d8 W' (U4 x ma mc) 55;have HN:=Gb (W'.alloc (Obj.cells (U4 x ma mc) 55)) x ma mc;have HV:Hid (∀W2,Below W'.heap.size W' W2->U8 325 #[ag x.2.1] W2 λe w'=>e= .returned (.bool (Lib.validD x.2.1.data.toList))/\Below W2.heap.size W2 w'):=λW2 h3=>BJ W2 x.2.1 Vc (hu W2 (dU B h3))
 unfold gh at*;clear hp;generalize Lib.validD x.2.1.data.toList=r at*;generalize(decide (x.1=0)&&zD x.2.2)=s at*;have⟨k1,k2⟩:=K1.I;go_enter func361,ntmps361;go_wp2_with fail;refine HN.V ?_;intro e w2 hr;generalize W'.alloc (Obj.cells (U4 x ma mc) 55)=w1 at*;rcases hr.part with⟨rfl,rfl,b2⟩|⟨rfl,y,z,rfl,b2⟩
 .have B2:=dU B1 b2;have K2:=K1.G b2 K1.lt;clear k1 k2;have⟨k1,k2⟩:=K2.I;go_wp2_with fail;refine(HV.o w2 B2).V ?_;rintro e w3 ⟨rfl,b3⟩;cases r
  .go_wp2_with (go_at_call 157;refine(AV _).V ?_;rintro e w2 ⟨rfl,rfl⟩;unfold dY)
   exact⟨rfl,eF.no (dU B2 b3)⟩
  .go_wp2_with (go_at_call 157;refine(AU _).V ?_;rintro e w2 ⟨rfl,rfl⟩)
   go_end0;exact eF.ok (dU B2 b3)
 .unfold dY;go_wp2;exact⟨rfl,eF.no (dU B1 b2)⟩
theorem TE (h14:fB S fl=14):NH (eC S (dZ S n) fl) n 362 [] W:=by
 intro W' Z x mv k deep B hm hO h0 h1 h2 hd;show U8 362 #[gh x mv,aa deep] W' (eF (eC S (dZ S n) fl x) W');have hp:eC S (dZ S n) fl x=(decide (x.1=0)&&zD x.2.2):=by unfold eC;rw[h14];rfl
 rw[hp];obtain⟨ma,mc,rfl⟩:=hm.form;have⟨B1,K1⟩:=d8 W' (U4 x ma mc) 55;have HN:=Gb (W'.alloc (Obj.cells (U4 x ma mc) 55)) x ma mc;unfold gh at*;clear hp;generalize(decide (x.1=0)&&zD x.2.2)=s at*;have⟨k1,k2⟩:=K1.I;go_enter func362,ntmps362;go_wp2_with fail;refine HN.V ?_;intro e w2 hr;rcases hr.part with⟨rfl,rfl,b2⟩|⟨rfl,y,z,rfl,b2⟩;.go_wp2;go_end0;exact eF.ok (dU B1 b2)
 .unfold dY;go_wp2;exact⟨rfl,eF.no (dU B1 b2)⟩
theorem TF (cb cf:Nat)(cut:Int->Int)(hb:dX W cb #[.func (.func cf) #[] #[]] 423)(hen:∀args w,(callFunc cf args).run prog w= .ok (.enter cf args) w)(hc:∀(W:aw) (x:Int),0<=x->x<2^64->U8 cf #[.int .u64 x] W λe w'=>e= .returned (.int .u64 (cut x))/\W=w')
  (he:∀x,(cut x==x)=zF (fB S fl) x) (h16:fB S fl≠16) (h13:fB S fl≠13) (h14:fB S fl≠14):NH (eC S (dZ S n) fl) n 364 [ah cb] W:=by
 intro W' Z x mv k deep B hm hO h0 h1 h2 hd;show U8 364 #[gh x mv,aa deep,ah cb] W' (eF (eC S (dZ S n) fl x) W');have hp:eC S (dZ S n) fl x=((ou x.2.1&&zD x.2.2)&&zF (fB S fl) x.1):=by unfold eC;rw[dO h16,dO h13,dO h14]
 rw[hp];obtain⟨ma,mc,rfl⟩:=hm.form;have Vp:=hb.G B hb.lt;have⟨B1,K1⟩:=d8 W' (U4 x ma mc) 55;have HN:=En (W'.alloc (Obj.cells (U4 x ma mc) 55)) x ma mc;have HC:=λW=>hc W x.1 h0 h1
 have hx:=he x.1;unfold gh at*;clear hp hc he;generalize zF (fB S fl) x.1=r at*;generalize cut x.1=cx at*;generalize(ou x.2.1&&zD x.2.2)=s at*;have⟨k1,k2⟩:=K1.I;go_enter func364,ntmps364;go_wp2_with fail;refine HN.V ?_;intro e w2 hr;generalize W'.alloc (Obj.cells (U4 x ma mc) 55)=w1 at*;rcases hr.part with⟨rfl,rfl,b2⟩|⟨rfl,y,z,rfl,b2⟩
 .have B2:=dU B1 b2;have Vq:=Vp.G B2 Vp.lt;have K2:=K1.G b2 K1.lt;have b0:ak w2 w2.drew:=(Below.refl _ _).drew;have B3:=dU B2 b0;clear k1 k2;have hW:w2.drew.cell? (aj cb 0)=some (.func (.func cf) #[] #[])/\w2.drew.cell? (aj W'.heap.size 0)=some (.int .u64 x.1):=⟨Vq.drew.cell 0,K2.drew.cell 0⟩;have Vs:=HC w2.drew;go_upto_region 2 with fail
  go_region_held2 (λW=>W.cell? (aj cb 0)=some (.func (.func cf) #[] #[])/\W.cell? (aj W'.heap.size 0)=some (.int .u64 x.1))
   (first|exact Vt|exact hW)
   (first
    |(
      go_at_call 157;refine(QY r _).V ?_;intro e w3 Vr;rcases Vr.part with⟨rfl,rfl,b3⟩|⟨rfl,y,z,rfl,b3⟩;rotate_left;.have B4:=dU B3 b3;unfold dY;go_wp2;exact⟨rfl,eF.no B4⟩
      have Vt:w3.cell? (aj cb 0)=some (.func (.func cf) #[] #[])/\w3.cell? (aj W'.heap.size 0)=some (.int .u64 x.1):=⟨(Vq.drew.G b3 Vq.drew.lt).cell 0,(K2.drew.G b3 K2.drew.lt).cell 0⟩)
    |(
      refine Vs.V ?_
      rintro e w3 ⟨rfl,rfl⟩))
  all_goals
   go_wp2;go_end0;exact eF.ok (dU B3 b3)
 .unfold dY;go_wp2;exact⟨rfl,eF.no (dU B1 b2)⟩
end
def SD (w:aw)(Q:ax)(b:Nat)(iq:aC)(v:Value):Prop:=
 ∃f cap,L6 v f cap/\∀(S:eD) (fl:fo) (n:Nat) (W:aw),Kp Q w W->fB S fl=b->(∀W',Below W.heap.size W W'->UOK W')->(fB S fl=16->∃t,fy S fl=some t/\Jc S iq n t W)->NH (eC S (dZ S n) fl) n f cap W
def Jf (w:aw)(Q:ax)(mp:an)(g:GF)(iq:aC)(v:Value):Prop:=
 ∃f cap,L6 v f cap/\∀(S:eD) (d:MT) (fl:fo) (n:Nat) (W:aw),Kp Q w W->FG S mp d fl g->(∀W',Below W.heap.size W W'->UOK W')->(fB S fl=16->∃t,fy S fl=some t/\Jc S iq n t W)->OQ (fE S (dZ S n) fl) n f cap W
def Mv (w:aw)(Q:ax)(w':aw)(Q':ax):Prop:=∀b,Q b->b<w.heap.size->Q' b/\w'.heap[b]?=w.heap[b]?
theorem Mv.O (hk:∀b,Q b->b<w.heap.size->w'.heap[b]?=w.heap[b]?):Mv w Q w' Q:=λb q l=>⟨q,hk b q l⟩
theorem Mv.V (hk:∀b,Q b->b<w.heap.size->Q' b):Mv w Q w Q':=λb q l=>⟨hk b q l,rfl⟩
theorem Mv.lt (h:Mv w Q w' Q'){b:Nat}(q:Q b)(l:b<w.heap.size):b<w'.heap.size:=by
 have:=(h b q l).2;rw[bU l]at this;exact(bI.1 this).1
theorem Kp.mv {W:aw}(hk:Kp Q' w' W)(h:Mv w Q w' Q'):Kp Q w W:=λb q l=>(hk b (h b q l).1 (h.lt q l)).J (h b q l).2
theorem Jf.mV {mp:an}{g:GF}{iq:aC}{v:Value}(hk:Mv w Q w' Q')(h:Jf w Q mp g iq v):Jf w' Q' mp g iq v:=by
 obtain⟨f,cap,h1,h2⟩:=h;exact⟨f,cap,h1,λS d fl n W q=>h2 S d fl n W (q.mv hk)⟩
end
end
end Go.Proofs.YtfebdimolnobaaaGreatDoor
