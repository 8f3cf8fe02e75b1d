import Derived.Test.YtfebdimolnobaaaGreatDoorItD
set_option maxRecDepth 100000
set_option maxHeartbeats 8000000
set_option linter.all false
namespace Go.Proofs.YtfebdimolnobaaaGreatDoor
open Go.RowKit Go.Proofs.Tryz
section
open Vo
structure L6 (v:Value)(f:Nat)(cap:ay):Prop where
 eq:v= .func (.func f) #[] cap.toArray
 en:∀args w,(callFunc f args).run prog w= .ok (.enter f args) w
def Kp (Q:ax)(w W:aw):Prop:=∀b,Q b->b<w.heap.size->W.heap[b]?=w.heap[b]?
def Kp.bx {Q:ax}{w W:aw}(h:Kp Q w W){b:Nat}{cs:aq}{T:TypeId}(q:Q b)(hb:dX w b cs T):dX W b cs T:=(h b q hb.lt).J hb
def NH (p:PV->Bool)(n:Nat)(f:Nat)(cap:ay)(W:aw):Prop:=
 ∀(W':aw) (Z:ax) (x:PV) (mv:Value) (k deep:Nat),Below W.heap.size W W'->gP k W' Z mv x.2.2->pP k x.2.2->0<=x.1->x.1<2^64->x.2.1.size<=1099511627776->n+1+deep=9->
  U8 f (gh x mv::aa deep::cap).toArray W' (eF (p x) W')
def OQ (q:List PV->Bool)(n:Nat)(f:Nat)(cap:ay)(W:aw):Prop:=
 ∀(W':aw) (Z:ax) (vv:Value) (l:List PV) (k deep:Nat),Below W.heap.size W W'->pO (gP k W' Z) W' Z vv l->P6 k l->n+1+deep=9->
  U8 f (vv::aa deep::cap).toArray W' (eF (q l) W')
def Jc (S:eD)(iq:aC)(n:Nat)(t:MT)(W:aw):Prop:=
 ∀(W':aw) (Z:ax) (v:Value) (m:PM) (k deep:Nat),Below W.heap.size W W'->gP k W' Z v m->pP k m->n+deep=9->
  U8 103 #[.pointer iq,.agg #[v,ag m.unk],aa deep] W' (eF (dZ S n t m) W')
def AU (w:aw):U8 157 #[.bool true] w λe w'=>e= .returned (.tuple #[])/\w=w':=(iw w).V λ_ _ h=>⟨h.1,h.2.sy⟩
def AV (w:aw):U8 157 #[.bool false] w λe w'=>e=dY 12 0/\w=w':=(ii w).V λ_ _ h=>⟨h.1,h.2.sy⟩
section
variable {p:PV->Bool} {n:Nat} {W:aw}
def L7 (vb vf:Nat)(vcap:ay)(hb:dX W vb #[.func (.func vf) #[] vcap.toArray] 398)(hen:∀args w,(callFunc vf args).run prog w= .ok (.enter vf args) w)(H:NH p n vf vcap W):
  OQ (λl=>(l.length==1)&&l.all p) n 367 [ah vb] W:=by
 intro W' Z vv l k deep B hv hO hd;show U8 367 #[vv,aa deep,ah vb] W' (eF ((l.length==1)&&l.all p) W');obtain⟨R,HR⟩:∃R,Hid (((l.length==1)&&l.all p)=R):=⟨_,rfl⟩;rw[HR.o];obtain⟨a,c,rfl⟩:=hv.form;have Vq:=hb.G B hb.lt;by_cases h1:l.length=1
 .have e1:((l.length:Int)==1)=true:=Ve;obtain⟨x,rfl⟩:=List.length_eq_one_iff.1 h1;obtain⟨Vu,Vv,Vw⟩:=hv;have⟨mv,p1,p2,p3,p4,p5⟩:=Vw.get (i:=0) (v:=x) rfl;obtain⟨ma,mc,rfl⟩:=p1.form;obtain⟨gv,rfl,Vx,Vr,Vp⟩:=Vv.at Vd;have t0:=Vp W'.drew rfl _ _ p2;have t1:=lI (Vp W'.drew rfl _ _ p3);have t2:=lI (Vp W'.drew rfl _ _ p4);have t3:=lI (Vp W'.drew rfl _ _ p5);simp only[Nat.zero_mul,Ja]at t0 t1 t2 t3;have Vs:=hO.2 x aZ;have HX:=H W'.drew Z x _ k deep B.drew (p1.G (Below.refl _ _).drew (aE _)) Vs.2.2.2 Vs.1 Vs.2.1 Vs.2.2.1 hd;unfold gh at HX;have HP:Hid (R=p x):=(by show R=p x;rw[<-HR.o];simp);generalize p x=r at*;have b0:Below W'.heap.size W' W'.drew:=(Below.refl _ _).drew;have hW:W'.drew.cell? (aj vb 0)=some (.func (.func vf) #[] vcap.toArray)/\W'.drew.cell? gv=some (.int .u64 x.1)/\W'.drew.cell? (aj gv.block (gv.off+1))=some (ag x.2.1)/\W'.drew.cell? (aj gv.block (gv.off+2))=some (.slice ma x.2.2.fs.length mc)/\W'.drew.cell? (aj gv.block (gv.off+3))=some (ag x.2.2.unk):=⟨Vq.drew.cell 0,t0,t1,t2,t3⟩;clear h1;go_enter func367,ntmps367;go_upto_region 1 with(go_at_call 157;refine(AU _).V ?_;rintro e w2 ⟨rfl,rfl⟩)
  go_region_held2 (λW=>W.cell? (aj vb 0)=some (.func (.func vf) #[] vcap.toArray)/\W.cell? gv=some (.int .u64 x.1)/\W.cell? (aj gv.block (gv.off+1))=some (ag x.2.1)/\W.cell? (aj gv.block (gv.off+2))=some (.slice ma x.2.2.fs.length mc)/\W.cell? (aj gv.block (gv.off+3))=some (ag x.2.2.unk))
   (first|exact hW|exact VA)
   (first
    |(
      refine HX.V ?_;intro e w3 hr;rcases hr.part with⟨rfl,rfl,b3⟩|⟨rfl,y,z,rfl,b3⟩;rotate_left;.have b4:=dU b0 b3;unfold dY;go_wp2;rw[HP.o];exact⟨rfl,eF.no b4⟩
      have VA:w3.cell? (aj vb 0)=some (.func (.func vf) #[] vcap.toArray)/\w3.cell? gv=some (.int .u64 x.1)/\w3.cell? (aj gv.block (gv.off+1))=some (ag x.2.1)/\w3.cell? (aj gv.block (gv.off+2))=some (.slice ma x.2.2.fs.length mc)/\w3.cell? (aj gv.block (gv.off+3))=some (ag x.2.2.unk):=⟨(Vq.drew.G b3 Vq.drew.lt).cell 0,(b3.cell (p:=gv) Vr).J t0,(b3.cell (p:=(aj gv.block (gv.off+1))) Vr).J t1,(b3.cell (p:=(aj gv.block (gv.off+2))) Vr).J t2,(b3.cell (p:=(aj gv.block (gv.off+3))) Vr).J t3⟩))
  go_wp2;go_end0;rw[HP.o];exact eF.ok (dU b0 b3)
 .have e1:((l.length:Int)==1)=false:=Ve;have HP:Hid (R=false):=(by show R=false;rw[<-HR.o];simp[h1]);go_enter func367,ntmps367;go_wp2_with (go_at_call 157;refine(AV _).V ?_;rintro e w2 ⟨rfl,rfl⟩;unfold dY)
  rw[HP.o];exact⟨rfl,eF.no (Below.refl _ _)⟩
def Ma (vb vf:Nat)(vcap:ay)(hb:dX W vb #[.func (.func vf) #[] vcap.toArray] 398)(hen:∀args w,(callFunc vf args).run prog w= .ok (.enter vf args) w)(H:NH p n vf vcap W):
  OQ (λl=>decide (0<l.length)&&l.all p) n 366 [ah vb] W:=by
 intro W' Z vv l k deep B hv hO hd;show U8 366 #[vv,aa deep,ah vb] W' (eF (decide (0<l.length)&&l.all p) W');obtain⟨R,HR⟩:∃R,Hid ((decide (0<l.length)&&l.all p)=R):=⟨_,rfl⟩;rw[HR.o];obtain⟨a,c,rfl⟩:=hv.form;have Vq:=hb.G B hb.lt;have hll:=hO.1;by_cases h1:0<l.length
 .have e1:decide (0<(l.length:Int))=true:=Ve;obtain⟨Vu,Vv,Vw⟩:=hv;have HP:Hid (R=l.all p):=(by show R=l.all p;rw[<-HR.o,decide_eq_true h1,dd])
  have HC:Hid (∀(W2:aw) (x:PV) (mv:Value),Below W'.heap.size W' W2->x∈l->gP k W' Z mv x.2.2->U8 vf (gh x mv::aa deep::vcap).toArray W2 (eF (p x) W2)):=λW2 x mv h2 hx hm=>
   H W2 Z x mv k deep (dU B h2) (hm.G h2 (aE _)) (hO.2 x hx).2.2.2 (hO.2 x hx).1 (hO.2 x hx).2.1 (hO.2 x hx).2.2.1 hd
  go_enter func366,ntmps366;go_wp2_with (go_at_call 157;refine(AU _).V ?_;rintro e w2 ⟨rfl,rfl⟩)
  go_loopw [6,13] (λ_ jv wr=>∃j:Nat,jv=aa j/\j<=l.length/\Hid ((l.take j).all p=true)/\Below W'.heap.size W' wr) (λ_ jv _=>l.length-(intOf jv).toNat)
  case atStart=>exact⟨0,rfl,aP _,rfl,Below.refl _ _⟩
  case round=>
   obtain⟨j,rfl,hj,HA,Bj⟩:=hrel;by_cases hlt:j<l.length
   .have⟨x,hx⟩:=gx hlt;have⟨mv,p1,p2,p3,p4,p5⟩:=Vw.get hx;obtain⟨ma,mc,rfl⟩:=p1.form;obtain⟨gv,rfl,Vx,Vr,Vp⟩:=Vv.at Vc;have t0:=Vp wr (Bj.block _ Vr) _ _ p2;have t1:=lI (Vp wr (Bj.block _ Vr) _ _ p3);have t2:=lI (Vp wr (Bj.block _ Vr) _ _ p4);have t3:=lI (Vp wr (Bj.block _ Vr) _ _ p5);have hlj:(j:Int)<(l.length:Int):=Vc;have⟨B1,K1⟩:=d8 wr (U4 x ma mc) 55;have B2:=dU Bj B1;have HX:=HC.o _ x _ B2 (aL hx) p1;unfold gh at HX;have Vt:=Vq.G B2 Vq.lt;have HT:Hid ((l.take (j+1)).all p=p x):=(by show(l.take (j+1)).all p=_;rw[Er hx,HA.o,dd]);generalize p x=r at*;have⟨k1,k2⟩:=K1.I;have⟨k3,k4⟩:=Vt.I;clear Vp p2 p3 p4 p5 hx;go_wp2_with fail;refine HX.V ?_;intro e w3 hr;rcases hr.part with⟨rfl,rfl,b3⟩|⟨rfl,y,z,rfl,b3⟩
    .go_wp2;go_roundw
     case rel=>exact⟨j+1,by go_num,Vc,HT.o,dU B2 b3⟩
     case measure=>simp[intOf];omega
    .unfold dY;go_wp2;rw[HP.o,Ib HT.o];exact⟨rfl,eF.no (dU B2 b3)⟩
   .obtain rfl:j=l.length:=Vc
    have VB:Hid (l.all p=true):=by
     show l.all p=true;have:=HA.o
     rwa [bB]at this
    go_wp2;go_end0;rw[HP.o,VB.o];exact eF.ok Bj
 .have e1:decide (0<(l.length:Int))=false:=decide_eq_false Vc;have HP:Hid (R=false):=(by show R=false;rw[<-HR.o,decide_eq_false h1,cT]);go_enter func366,ntmps366;go_wp2_with (go_at_call 157;refine(AV _).V ?_;rintro e w2 ⟨rfl,rfl⟩;unfold dY)
  rw[HP.o];exact⟨rfl,eF.no (Below.refl _ _)⟩
def Jd {q:List PV->Bool}(eb ef sb:Nat)(ecap:ay)(sg:Bool)(hb:dX W eb #[.func (.func ef) #[] ecap.toArray] 260)(hsb:dX W sb #[.bool sg] 4)(hen:∀args w,(callFunc ef args).run prog w= .ok (.enter ef args) w)(H:OQ q n ef ecap W)
  (hq:∀l k,P6 k l->q l=true->∀e∈l,Ep e):
  OQ (λl=>q l&&jG sg none l) n 365 [ah eb,ah sb] W:=by
 intro W' Z vv l k deep B hv hO hd;show U8 365 #[vv,aa deep,ah eb,ah sb] W' (eF (q l&&jG sg none l) W');obtain⟨a,c,rfl⟩:=hv.form;have Vq:=hb.G B hb.lt;have Vz:=hsb.G B hsb.lt
 have VC:∀W2,Below W'.heap.size W' W2->pO (gP (k-1+1) W2 Z) W2 Z (.slice a l.length c) l:=λW2 h2=>by
  have:=pO.G h2 (aE _) hv
  cases k with
  |zero=>
   obtain⟨Vu,q1,q2⟩:=this;refine⟨Vu,q1,?_⟩
   cases l with
   |nil=>exact q2
   |cons x r=>exact(hO.2 x aZ).2.2.2.elim
  |succ k=>exact this
 have HE:Hid (q l=true->∀W2,Below W'.heap.size W' W2->U8 240 #[.slice a l.length c,.bool sg] W2 (eF (jG sg none l) W2)):=λhl W2 h2=>
  AT W2 _ l sg (VC W2 h2) (hq l k hO hl) hO.1
 have HX:=H W' Z _ l k deep B hv hO hd;generalize q l=ql at*;generalize jG sg none l=r at*;have⟨k1,k2⟩:=Vq.I;go_enter func365,ntmps365;go_wp2_with fail;refine HX.V ?_;intro e w2 hr;rcases hr.part with⟨rfl,rfl,b2⟩|⟨rfl,y,z,rfl,b2⟩
 .have VD:=Vz.G b2 Vz.lt;clear k1 k2;have⟨k1,k2⟩:=VD.I;go_wp2_with fail;refine(HE.o trivial w2 b2).V ?_;intro e w3 Vy;rcases Vy.part with⟨rfl,rfl,b3⟩|⟨rfl,y,z,rfl,b3⟩;.go_wp2;go_end0;exact eF.ok (dU b2 b3)
  .unfold dY;go_wp2;exact⟨rfl,eF.no (dU b2 b3)⟩
 .unfold dY;go_wp2;exact⟨rfl,eF.no b2⟩
def Je (vb vf:Nat)(vcap:ay)(hb:dX W vb #[.func (.func vf) #[] vcap.toArray] 398)(hen:∀args w,(callFunc vf args).run prog w= .ok (.enter vf args) w)(H:NH p n vf vcap W):
  NH (λx=> !(decide (x.1=0)&&ou x.2.1)&&p x) n 288 [ah vb] W:=by
 intro W' Z x mv k deep B hm hO h0 h1 h2 hd;show U8 288 #[gh x mv,aa deep,ah vb] W' (eF (!(decide (x.1=0)&&ou x.2.1)&&p x) W');obtain⟨ma,mc,rfl⟩:=hm.form;have Vq:=hb.G B hb.lt;have⟨B1,K1⟩:=d8 W' (U4 x ma mc) 55;have HN:=AP (W'.alloc (Obj.cells (U4 x ma mc) 55)) x (.slice ma x.2.2.fs.length mc);have HX:Hid (∀W2,Below W'.heap.size W' W2->U8 vf (gh x (.slice ma x.2.2.fs.length mc)::aa deep::vcap).toArray W2 (eF (p x) W2)):=λW2 h3=>H W2 Z x _ k deep (dU B h3) (hm.G h3 (aE _)) hO h0 h1 h2 hd
 unfold gh at*;generalize p x=r at*;generalize(!(decide (x.1=0)&&ou x.2.1))=s at*;have⟨k1,k2⟩:=K1.I;go_enter func288,ntmps288;go_wp2_with fail;refine HN.V ?_;intro e w2 hr;generalize W'.alloc (Obj.cells (U4 x ma mc) 55)=w1 at*;rcases hr.part with⟨rfl,rfl,b2⟩|⟨rfl,y,z,rfl,b2⟩
 .have B2:=dU B1 b2;have Vt:=Vq.G B2 Vq.lt;have K2:=K1.G b2 K1.lt;clear k1 k2;have⟨k1,k2⟩:=K2.I;have⟨k3,k4⟩:=Vt.I;go_wp2_with fail;refine(HX.o w2 B2).V ?_;intro e w3 Vy;rcases Vy.part with⟨rfl,rfl,b3⟩|⟨rfl,y,z,rfl,b3⟩;.go_wp2;go_end0;exact eF.ok (dU B2 b3)
  .unfold dY;go_wp2;exact⟨rfl,eF.no (dU B2 b3)⟩
 .unfold dY;go_wp2;exact⟨rfl,eF.no (dU B1 b2)⟩
end
section
variable {w w':aw} {Q Q':ax}
theorem QY (r:Bool)(w:aw):U8 157 #[.bool r] w (eF r w):=by
 cases r;.exact(AV w).V λ_ _ h=>by obtain⟨rfl,rfl⟩:=h;exact eF.no (Below.refl _ _)
 .exact(AU w).V λ_ _ h=>by obtain⟨rfl,rfl⟩:=h;exact eF.ok (Below.refl _ _)
section
variable {S:eD} {fl:fo} {n:Nat} {W:aw}
theorem TC (ib:Nat)(iq:aC)(t:MT)(hb:dX W ib #[.pointer iq] 116)(H:Jc S iq n t W)(h16:fB S fl=16)(hsub:fy S fl=some t):
  NH (eC S (dZ S n) fl) n 360 [ah ib] W:=by
 intro W' Z x mv k deep B hm hO h0 h1 h2 hd;show U8 360 #[gh x mv,aa deep,ah ib] W' (eF (eC S (dZ S n) fl x) W');have hp:eC S (dZ S n) fl x=((decide (x.1=0)&&ou x.2.1)&&dZ S n t x.2.2):=by unfold eC;rw[dP h16,hsub]
 rw[hp];obtain⟨ma,mc,rfl⟩:=hm.form;have Vp:=hb.G B hb.lt;have⟨B1,K1⟩:=d8 W' (U4 x ma mc) 55;have HN:=P5 (W'.alloc (Obj.cells (U4 x ma mc) 55)) x (.slice ma x.2.2.fs.length mc)
 have HX:Hid (∀W2,Below W'.heap.size W' W2->U8 103 #[.pointer iq,.agg #[.slice ma x.2.2.fs.length mc,ag x.2.2.unk],aa ((deep:Int)+1)] W2 (eF (dZ S n t x.2.2) W2)):=λW2 h3=>by
  have:=H W2 Z _ x.2.2 k (deep+1) (dU B h3) (hm.G h3 (aE _)) hO Vc
  rwa [show(((deep+1:Nat):Int))=(deep:Int)+1 by omega]at this
 have hd9:(deep:Int)<=9:=Vc;unfold gh at*;clear hp;generalize dZ S n t x.2.2=r at*;generalize(decide (x.1=0)&&ou x.2.1)=s at*;have⟨k1,k2⟩:=K1.I;go_enter func360,ntmps360;go_wp2_with fail;refine HN.V ?_;intro e w2 hr;generalize W'.alloc (Obj.cells (U4 x ma mc) 55)=w1 at*;rcases hr.part with⟨rfl,rfl,b2⟩|⟨rfl,y,z,rfl,b2⟩
 .have B2:=dU B1 b2;have Vq:=Vp.G B2 Vp.lt;have K2:=K1.G b2 K1.lt;clear k1 k2;have⟨k1,k2⟩:=K2.I;have⟨k3,k4⟩:=Vq.I;go_wp2_with fail;refine(HX.o w2 B2).V ?_;intro e w3 Vr;rcases Vr.part with⟨rfl,rfl,b3⟩|⟨rfl,y,z,rfl,b3⟩;.go_wp2;go_end0;exact eF.ok (dU B2 b3)
  .unfold dY;go_wp2;exact⟨rfl,eF.no (dU B2 b3)⟩
 .unfold dY;go_wp2;exact⟨rfl,eF.no (dU B1 b2)⟩
theorem TD (hu:∀W',Below W.heap.size W W'->UOK W')(h13:fB S fl=13):NH (eC S (dZ S n) fl) n 361 [] W:=by
 intro W' Z x mv k deep B hm hO h0 h1 h2 hd;show U8 361 #[gh x mv,aa deep] W' (eF (eC S (dZ S n) fl x) W');have hp:eC S (dZ S n) fl x=((decide (x.1=0)&&zD x.2.2)&&Lib.validD x.2.1.data.toList):=by unfold eC;rw[h13];rfl
 rw[hp];obtain⟨ma,mc,rfl⟩:=hm.form;have⟨B1,K1⟩:=d8 W' (U4 x ma mc) 55;have HN:=Gb (W'.alloc (Obj.cells (U4 x ma mc) 55)) x ma mc;have HV:Hid (∀W2,Below W'.heap.size W' W2->U8 325 #[ag x.2.1] W2 λe w'=>e= .returned (.bool (Lib.validD x.2.1.data.toList))/\Below W2.heap.size W2 w'):=λW2 h3=>BJ W2 x.2.1 Vc (hu W2 (dU B h3))
 unfold gh at*;clear hp;generalize Lib.validD x.2.1.data.toList=r at*;generalize(decide (x.1=0)&&zD x.2.2)=s at*;have⟨k1,k2⟩:=K1.I;go_enter func361,ntmps361;go_wp2_with fail;refine HN.V ?_;intro e w2 hr;generalize W'.alloc (Obj.cells (U4 x ma mc) 55)=w1 at*;rcases hr.part with⟨rfl,rfl,b2⟩|⟨rfl,y,z,rfl,b2⟩
 .have B2:=dU B1 b2;have K2:=K1.G b2 K1.lt;clear k1 k2;have⟨k1,k2⟩:=K2.I;go_wp2_with fail;refine(HV.o w2 B2).V ?_;rintro e w3 ⟨rfl,b3⟩;cases r
  .go_wp2_with (go_at_call 157;refine(AV _).V ?_;rintro e w2 ⟨rfl,rfl⟩;unfold dY)
   exact⟨rfl,eF.no (dU B2 b3)⟩
  .go_wp2_with (go_at_call 157;refine(AU _).V ?_;rintro e w2 ⟨rfl,rfl⟩)
   go_end0;exact eF.ok (dU B2 b3)
 .unfold dY;go_wp2;exact⟨rfl,eF.no (dU B1 b2)⟩
theorem TE (h14:fB S fl=14):NH (eC S (dZ S n) fl) n 362 [] W:=by
 intro W' Z x mv k deep B hm hO h0 h1 h2 hd;show U8 362 #[gh x mv,aa deep] W' (eF (eC S (dZ S n) fl x) W');have hp:eC S (dZ S n) fl x=(decide (x.1=0)&&zD x.2.2):=by unfold eC;rw[h14];rfl
 rw[hp];obtain⟨ma,mc,rfl⟩:=hm.form;have⟨B1,K1⟩:=d8 W' (U4 x ma mc) 55;have HN:=Gb (W'.alloc (Obj.cells (U4 x ma mc) 55)) x ma mc;unfold gh at*;clear hp;generalize(decide (x.1=0)&&zD x.2.2)=s at*;have⟨k1,k2⟩:=K1.I;go_enter func362,ntmps362;go_wp2_with fail;refine HN.V ?_;intro e w2 hr;rcases hr.part with⟨rfl,rfl,b2⟩|⟨rfl,y,z,rfl,b2⟩;.go_wp2;go_end0;exact eF.ok (dU B1 b2)
 .unfold dY;go_wp2;exact⟨rfl,eF.no (dU B1 b2)⟩
theorem TF (cb cf:Nat)(cut:Int->Int)(hb:dX W cb #[.func (.func cf) #[] #[]] 423)(hen:∀args w,(callFunc cf args).run prog w= .ok (.enter cf args) w)(hc:∀(W:aw) (x:Int),0<=x->x<2^64->U8 cf #[.int .u64 x] W λe w'=>e= .returned (.int .u64 (cut x))/\W=w')
  (he:∀x,(cut x==x)=zF (fB S fl) x) (h16:fB S fl≠16) (h13:fB S fl≠13) (h14:fB S fl≠14):NH (eC S (dZ S n) fl) n 364 [ah cb] W:=by
 intro W' Z x mv k deep B hm hO h0 h1 h2 hd;show U8 364 #[gh x mv,aa deep,ah cb] W' (eF (eC S (dZ S n) fl x) W');have hp:eC S (dZ S n) fl x=((ou x.2.1&&zD x.2.2)&&zF (fB S fl) x.1):=by unfold eC;rw[dO h16,dO h13,dO h14]
 rw[hp];obtain⟨ma,mc,rfl⟩:=hm.form;have Vp:=hb.G B hb.lt;have⟨B1,K1⟩:=d8 W' (U4 x ma mc) 55;have HN:=En (W'.alloc (Obj.cells (U4 x ma mc) 55)) x ma mc;have HC:=λW=>hc W x.1 h0 h1
 have hx:=he x.1;unfold gh at*;clear hp hc he;generalize zF (fB S fl) x.1=r at*;generalize cut x.1=cx at*;generalize(ou x.2.1&&zD x.2.2)=s at*;have⟨k1,k2⟩:=K1.I;go_enter func364,ntmps364;go_wp2_with fail;refine HN.V ?_;intro e w2 hr;generalize W'.alloc (Obj.cells (U4 x ma mc) 55)=w1 at*;rcases hr.part with⟨rfl,rfl,b2⟩|⟨rfl,y,z,rfl,b2⟩
 .have B2:=dU B1 b2;have Vq:=Vp.G B2 Vp.lt;have K2:=K1.G b2 K1.lt;have b0:ak w2 w2.drew:=(Below.refl _ _).drew;have B3:=dU B2 b0;clear k1 k2;have hW:w2.drew.cell? (aj cb 0)=some (.func (.func cf) #[] #[])/\w2.drew.cell? (aj W'.heap.size 0)=some (.int .u64 x.1):=⟨Vq.drew.cell 0,K2.drew.cell 0⟩;have Vs:=HC w2.drew;go_upto_region 2 with fail
  go_region_held2 (λW=>W.cell? (aj cb 0)=some (.func (.func cf) #[] #[])/\W.cell? (aj W'.heap.size 0)=some (.int .u64 x.1))
   (first|exact Vt|exact hW)
   (first
    |(
      go_at_call 157;refine(QY r _).V ?_;intro e w3 Vr;rcases Vr.part with⟨rfl,rfl,b3⟩|⟨rfl,y,z,rfl,b3⟩;rotate_left;.have B4:=dU B3 b3;unfold dY;go_wp2;exact⟨rfl,eF.no B4⟩
      have Vt:w3.cell? (aj cb 0)=some (.func (.func cf) #[] #[])/\w3.cell? (aj W'.heap.size 0)=some (.int .u64 x.1):=⟨(Vq.drew.G b3 Vq.drew.lt).cell 0,(K2.drew.G b3 K2.drew.lt).cell 0⟩)
    |(
      refine Vs.V ?_
      rintro e w3 ⟨rfl,rfl⟩))
  all_goals
   go_wp2;go_end0;exact eF.ok (dU B3 b3)
 .unfold dY;go_wp2;exact⟨rfl,eF.no (dU B1 b2)⟩
end
def SD (w:aw)(Q:ax)(b:Nat)(iq:aC)(v:Value):Prop:=
 ∃f cap,L6 v f cap/\∀(S:eD) (fl:fo) (n:Nat) (W:aw),Kp Q w W->fB S fl=b->(∀W',Below W.heap.size W W'->UOK W')->(fB S fl=16->∃t,fy S fl=some t/\Jc S iq n t W)->NH (eC S (dZ S n) fl) n f cap W
def Jf (w:aw)(Q:ax)(mp:an)(g:GF)(iq:aC)(v:Value):Prop:=
 ∃f cap,L6 v f cap/\∀(S:eD) (d:MT) (fl:fo) (n:Nat) (W:aw),Kp Q w W->FG S mp d fl g->(∀W',Below W.heap.size W W'->UOK W')->(fB S fl=16->∃t,fy S fl=some t/\Jc S iq n t W)->OQ (fE S (dZ S n) fl) n f cap W
def Mv (w:aw)(Q:ax)(w':aw)(Q':ax):Prop:=∀b,Q b->b<w.heap.size->Q' b/\w'.heap[b]?=w.heap[b]?
theorem Mv.O (hk:∀b,Q b->b<w.heap.size->w'.heap[b]?=w.heap[b]?):Mv w Q w' Q:=λb q l=>⟨q,hk b q l⟩
theorem Mv.V (hk:∀b,Q b->b<w.heap.size->Q' b):Mv w Q w Q':=λb q l=>⟨hk b q l,rfl⟩
theorem Mv.lt (h:Mv w Q w' Q'){b:Nat}(q:Q b)(l:b<w.heap.size):b<w'.heap.size:=by
 have:=(h b q l).2;rw[bU l]at this;exact(bI.1 this).1
theorem Kp.mv {W:aw}(hk:Kp Q' w' W)(h:Mv w Q w' Q'):Kp Q w W:=λb q l=>(hk b (h b q l).1 (h.lt q l)).J (h b q l).2
theorem Jf.mV {mp:an}{g:GF}{iq:aC}{v:Value}(hk:Mv w Q w' Q')(h:Jf w Q mp g iq v):Jf w' Q' mp g iq v:=by
 obtain⟨f,cap,h1,h2⟩:=h;exact⟨f,cap,h1,λS d fl n W q=>h2 S d fl n W (q.mv hk)⟩
end
abbrev F3:=Nat×Nat×Nat
def JE (f:F3):List Value:= [.int .i64 f.1,.int .i64 f.2.1,.int .i64 f.2.2]
def iu:List Nat:= [0,1,2,3,4,5,6,7,8,9,10,13]
abbrev Rl:Array Value:= #[.int .i64 0,.int .i64 1,.int .i64 2,.int .i64 3,.int .i64 4,.int .i64 5,.int .i64 6,.int .i64 7,.int .i64 8,.int .i64 9,.int .i64 10,.int .i64 13]
def Pg:Rl=(iu.map λk:Nat=>Value.int .i64 (k:Int)).toArray:=rfl
def Ac (raw:List Int)(n a:Nat):F3×Nat:=
 if jp raw (a+1) 5=4 then((jp raw a (16+n),4,(iu[jp raw (a+2) 12]?).getD 0),a+3)else((jp raw a (16+n),jp raw (a+1) 5,0),a+2)
def qI (raw:List Int)(n a:Nat):Nat->List F3×Nat
 |0=>([],a)
 |j+1=>((qI raw n a j).1++ [(Ac raw n (qI raw n a j).2).1],(Ac raw n (qI raw n a j).2).2)
def oz (raw:List Int)(n:Nat):Nat->List (List F3)×Nat
 |0=>([],1)
 |i+1=>((oz raw n i).1++ [(qI raw n ((oz raw n i).2+1) (jp raw (oz raw n i).2 7+1)).1],(qI raw n ((oz raw n i).2+1) (jp raw (oz raw n i).2 7+1)).2)
def sD (raw:List Int):List (List F3):=(oz raw (1+jp raw 0 3) (1+jp raw 0 3)).1
def tN (raw:List Int)(n a:Nat):∀j,(qI raw n a j).1.length=j/\(qI raw n a j).2<=a+3*j
 |0=>⟨rfl,aE _⟩
 |j+1=>by
  have:=tN raw n a j;rw[qI];refine⟨by simp[this.1],?_⟩;show(Ac raw n (qI raw n a j).2).2<=_;unfold Ac;split<;>simp only<;>omega
def tO (raw:List Int)(n:Nat):∀i,(oz raw n i).1.length=i/\(oz raw n i).2<=1+30*i
 |0=>⟨rfl,aE _⟩
 |i+1=>by
  have:=tO raw n i;rw[oz];have h2:=(tN raw n ((oz raw n i).2+1) (jp raw (oz raw n i).2 7+1)).2;have h3:jp raw (oz raw n i).2 7<7:=ik _ Vf;refine⟨by simp[this.1],?_⟩;simp only;omega
def eT {w:World}{c off b:Nat}(v:Value)(h:c≠b):(w.setCell ⟨c,off,none⟩ v).heap[b]?=w.heap[b]?:=by rw[dW,dO h]
def ec.fresh1 {bs:List Nat}{a b:World}(h:ec bs a b){c:Nat}(hc:a.heap.size<=c)(off:Nat)(u:Value):ec bs a (b.setCell ⟨c,off,none⟩ u):=
 ⟨h.os,h.tape,h.output,by simpa using h.size,λi hi hn=>(eT _ Vc).J (h.block i hi hn)⟩
def ec.grown {bs:List Nat}{a b c:World}{row:Option Nat}(h:ec bs a b)(hg:b.grownBy c row)(hr:∀g,row=some g->a.heap.size<=g):ec bs a c:=
 ⟨hg.os.J h.os,hg.tape.J h.tape,hg.output.J h.output,aM h.size hg.size,λi hi hn=>(hg.block i (aI hi h.size) (λe=>by have:=hr i e.sy;omega)).J (h.block i hi hn)⟩
def JH {w W:World}{a b c:Array Value}{A B C:TypeId}(h:((w.alloc (Obj.cells a A)).alloc (Obj.cells b B)).alloc (Obj.cells c C)=W):Below w.heap.size w W/\dX W w.heap.size a A/\dX W (w.heap.size+1) b B/\dX W (w.heap.size+1+1) c C:=by
 subst h;have h0:=dX.new w a A;have h1:=dX.new (w.alloc (Obj.cells a A)) b B;have h2:=dX.new ((w.alloc (Obj.cells a A)).alloc (Obj.cells b B)) c C;simp only[ci]at h1 h2;exact⟨(((Vb w _).alloc Vd _).alloc Ve _),(h0.alloc _).alloc _,h1.alloc _,h2⟩
def NJ (w:World)(Y:Nat->Prop)(vs:List Value)(L:List (List F3)):Prop:=vs.length=L.length/\∀(p:Nat) (fs:List F3) (v:Value),L[p]?=some fs->vs[p]?=some v->ix w Y v fs.length (fs.flatMap JE)
def NJ.O {w w':World}{Y:Nat->Prop}{vs:List Value}{L:List (List F3)}(h:NJ w Y vs L)(hk:∀b,Y b->b<w.heap.size->w'.heap[b]?=w.heap[b]?):NJ w' Y vs L:=⟨h.1,λp fs v h1 h2=>(h.2 p fs v h1 h2).O hk⟩
def NJ.snoc {w w':World}{Y Y':Nat->Prop}{vs:List Value}{L:List (List F3)}(h:NJ w Y vs L){v:Value}{fs:List F3}(hv:ix w' Y' v fs.length (fs.flatMap JE))(hk:∀b,Y b->b<w.heap.size->w'.heap[b]?=w.heap[b]?)(hy:∀b,Y b->b<w'.heap.size->b<w.heap.size->Y' b):NJ w' Y' (vs++ [v]) (L++ [fs]):=by
 refine⟨by simp[h.1],λp gs u h1 h2=> ?_⟩;by_cases hp:p<L.length;.rw[cA hp]at h1;rw[cA (by rw[h.1];exact hp)]at h2;have q:=h.2 p gs u h1 h2;exact(q.V (Y:=λb=>Y b/\b<w.heap.size) λb y l=>⟨y,l⟩).O (λb y l=>hk b y.1 l)|>.V λb y l=>hy b y.1 l y.2
 .rw[cj Vc]at h1;rw[cj (by rw[h.1];omega),h.1]at h2
  cases hq:p-L.length with
  |zero=>rw[hq]at h1 h2;cases h1;cases h2;exact hv
  |succ k=>rw[hq]at h1;cases h1
def Tryz.infoK1:(prog.info? 137).map (λi=>(i.zero,i.size,i.bytes))=some (some (.agg #[.int .i64 0,.int .i64 0,.int .i64 0]),3,24):=Vh
def Tryz.infoK2:(prog.info? 135).map (λi=>(i.zero,i.size,i.bytes))=some (some (.slice none 0 0),1,24):=Vh
def Ph (w:World)(rv:Value)(raw:List Int)(hr:∀x∈raw,JC x)(hf:raw.length<1099511627776)(Vq:ix w (λb=>b<w.heap.size) rv raw.length (raw.map λx=> .int .i64 x)):
  Calls prog 28 #[rv] w λe w'=>∃v Y vs,e= .returned (.agg #[v])/\ix w' Y v (sD raw).length vs/\NJ w' Y vs (sD raw)/\(∀b,Y b->w.heap.size<=b)/\Below w.heap.size w w':=by
 obtain⟨ra,rc,rfl⟩:=Vq.form;obtain⟨LL,HL⟩:∃LL,Hid (sD raw=LL):=⟨_,rfl⟩;rw[HL.o];have⟨i1,V0,V7,V8,V9⟩:=info_parts Tryz.infoK1;have⟨i2,Wb,Wd,We,Wf⟩:=info_parts Tryz.infoK2;go_in
 go_wp2_with fail;generalize hW:World.alloc _ _=w3;have⟨B3,KR,KG,KS⟩:=JH hW;have G3:Gv w3 (λb=>b<w.heap.size) (w.heap.size+1) raw 0:=⟨hr,hf,⟨_,KG,Vq.O λb q _=>B3.block b q⟩,Vc⟩;clear Vq KG hW;refine(mG w3 _ _ raw 0 3 G3 Vf Vf).V ?_;rintro e w4 ⟨rfl,G4,k4⟩;have B4:Below w.heap.size w w4:=B3.J (k4.to_below B3.size λx hx=>by simp at hx;omega);have R4:=KR.kept k4 Vd;have S4:=KS.kept k4 Vd;obtain⟨n,HN⟩:∃n,Hid ((1:Int)+(jp raw 0 3:Nat)=(n:Nat)/\1+jp raw 0 3=n):=⟨_,Vc,rfl⟩;have hn3:1<=n/\n<4:=by have:=HN.o.2;have:=ik ((raw[0]?).getD 0) (show 0<3 by decide);unfold jp at*;omega
 have VS:(jp raw 0 3:Int)<3:=by have:=HN.o.2;omega
 have HD:Hid (LL=(oz raw n n).1):=by rw[<-HL.o];unfold sD;rw[HN.o.2];exact rfl
 clear G3 B3 KR KS k4;go_wp2_with fail;rw[HN.o.1];clear VS;go_loopw [6] (λiv wr=>∃(i:Nat) (Lv:Value) (vs:List Value),i<=n/\iv= .int .i64 i/\dX wr (w.heap.size+1+1) #[Lv] 68/\dX wr w.heap.size #[.slice none 0 0] 68/\eO wr (λb=>w.heap.size+1+1<b) 135 1 Lv i vs/\NJ wr (λb=>w.heap.size+1+1<b/\some b≠Lv.ownBlock) vs (oz raw n i).1/\Gv wr (λb=>b<w.heap.size) (w.heap.size+1) raw (oz raw n i).2/\Below w.heap.size w wr) (λiv _=>n-(intOf iv).toNat)
 case atStart=>exact⟨0,_,[],aP _,rfl,S4,R4,eO.nil _ _ _ _,⟨rfl,λp fs v h=>by cases h⟩,G4,B4⟩
 obtain⟨i,Lv,vs,hin,rfl,KS,KR,Vq,VB,hG,hB⟩:=hrel;clear S4 R4 G4 B4;obtain⟨sa,sc,rfl⟩:=iz Vq.1;have⟨s1,s2⟩:=KS.I;by_cases hli:i<n
 .have VT:(i:Int)<(n:Int):=Vc;have VU:=tO raw n i;obtain⟨a,HA⟩:∃a,Hid ((oz raw n i).2=a):=⟨_,rfl⟩;rw[HA.o]at hG VU;have HC:=mG wr _ _ raw a 7 hG Vf Vc;obtain⟨kk,HK⟩:∃kk,Hid (jp raw a 7=kk):=⟨_,rfl⟩;have hk7:kk<7:=by rw[<-HK.o];exact ik _ Vf
  rw[HK.o]at HC;go_wp2_with fail;refine HC.V ?_;rintro e w5 ⟨rfl,G5,k5⟩;clear HC s1 s2 hG;have B5:Below w.heap.size w w5:=hB.J (k5.to_below hB.size λx hx=>by simp at hx;omega);have S5:=KS.kept k5 Vd;have R5:=KR.kept k5 Vd;have Vs:=Vq.O (w':=w5) λb q l=>k5.block b l Ve
  have VM:=VB.O (w':=w5) λb q l=>k5.block b l Ve
  clear KS KR Vq VB k5 hB;go_wp2;go_loopw [7,8] (λlv kv wx=>∃j:Nat,j<=kk+1/\kv= .int .i64 ((kk:Int)-j)/\eO wx (λb=>w5.heap.size<=b) 137 3 lv j ((qI raw n (a+1) j).1.flatMap JE)/\Gv wx (λb=>b<w.heap.size) (w.heap.size+1) raw (qI raw n (a+1) j).2/\ec [w.heap.size+1] w5 wx) (λ_ kv _=>(intOf kv+1).toNat)
  case atStart=>exact⟨0,aP _,Vd,eO.nil _ _ _ _,G5,ec.refl _ _⟩
  obtain⟨j,hjk,rfl,hl,hG,hk⟩:=hrel;have hsz:=hk.size;obtain⟨la,lc,rfl⟩:=iz hl.1;have VD:=tN raw n (a+1) j;obtain⟨c,VC⟩:∃c,Hid ((qI raw n (a+1) j).2=c):=⟨_,rfl⟩;obtain⟨xs,HX⟩:∃xs,Hid ((qI raw n (a+1) j).1=xs):=⟨_,rfl⟩;rw[VC.o]at hG VD;rw[HX.o]at hl VD;by_cases hjl:j<kk+1
  .have VV:(0:Int)<=(kk:Int)-j:=Vc;have HC:=mG wr _ _ raw c (16+n) hG Vc Vc;rw[show((16+n:Nat):Int)=16+n by omega]at HC;obtain⟨t,HT⟩:∃t,Hid (jp raw c (16+n)=t):=⟨_,rfl⟩;rw[HT.o]at HC;go_wp2_with fail;refine HC.V ?_;rintro e w6 ⟨rfl,G6,k6⟩;have HC:=mG w6 _ _ raw (c+1) 5 G6 Vc Vc;obtain⟨q,HQ⟩:∃q,Hid (jp raw (c+1) 5=q):=⟨_,rfl⟩;rw[HQ.o]at HC;go_wp2_with fail;refine HC.V ?_;rintro e w7 ⟨rfl,G7,k7⟩;have VE:=hk.J (k6.J k7);have s7:=VE.size;have VN:=(hl.O (w':=w7) λb q l=>(k6.J k7).block b l (by simp;have:=S5.lt;omega)).V (S':=λb=>w5.heap.size<=b/\b<w7.heap.size) λb q l=>⟨q,l⟩
   clear HC hG G6 k6 k7 hk hl hsz;have⟨B8,N8⟩:=d8 w7 #[.int .i64 t,.int .i64 q,.int .i64 0] 137;have G8:=G7.O (w':=w7.alloc (Obj.cells #[.int .i64 t,.int .i64 q,.int .i64 0] 137)) (B8.block _ (by have:=S5.lt;omega)) λb q l=>B8.block b l
   have VF:=VN.O (w':=w7.alloc (Obj.cells #[.int .i64 t,.int .i64 q,.int .i64 0] 137)) λb q l=>B8.block b l
   have VG:=VE.G B8;clear G7 VN VE;have⟨r1,r2⟩:=N8.I;go_upto_if 36 with fail
   clear r1 r2;generalize w7.alloc (Obj.cells #[.int .i64 t,.int .i64 q,.int .i64 0] 137)=w8 at*;go_cut []from 37 to 42 (λwx=>∃(ky d:Nat),Hid (Ac raw n c=((t,q,ky),d))/\dX wx w7.heap.size #[.int .i64 t,.int .i64 q,.int .i64 ky] 137/\Gv wx (λb=>b<w.heap.size) (w.heap.size+1) raw d/\eO wx (λb=>w5.heap.size<=b/\b<w7.heap.size) 137 3 (.slice la j lc) j (xs.flatMap JE)/\ec [w.heap.size+1] w5 wx)
   case first=>
    by_cases h4:q=4
    .subst h4;have⟨B9,N9⟩:=d8 w8 Rl 3;have G9:=G8.O (w':=w8.alloc (Obj.cells Rl 3)) (B9.block _ (by have:=S5.lt;have:=N8.lt;omega)) λb q l=>B9.block b l
     have HC:=mG _ _ _ raw (c+1+1) 12 G9 Vf Vc;obtain⟨z,HZ⟩:∃z,Hid (jp raw (c+1+1) 12=z):=⟨_,rfl⟩;have hz:z<12:=by rw[<-HZ.o];exact ik _ Vf
     rw[HZ.o]at HC;have VO:∀z:Fin 12,iu[z.val]?=some ((iu[z.val]?).getD 0):=Vf;have Vz:=VO ⟨z,hz⟩;obtain⟨ky,HY⟩:∃ky,Hid ((iu[z]?).getD 0=ky):=⟨_,rfl⟩;simp only at Vz;rw[HY.o]at Vz;go_wp2_with fail;refine HC.V ?_;rintro e w9 ⟨rfl,VH,Vw⟩;have VA:=N9.kept Vw (by simp;have:=S5.lt;have:=N8.lt;omega);have VP:=(N8.G B9 N8.lt).kept Vw (by simp;have:=S5.lt;omega);have hc:=VA.cell z;rw[Pg,cE,aT,Vz]at hc;have hc:w9.cell? ⟨w8.heap.size,z,none⟩=some (.int .i64 ky):=hc;have⟨r1,r2⟩:=VP.I;clear HC VO Vz;go_wp2;go_meet
     case rel=>exact⟨ky,_,by show Ac raw n c=_;unfold Ac;rw[HQ.o,dP rfl,HT.o,HZ.o,HY.o],by have:=VP.set 2 (.int .i64 ky);simpa using this,VH.O (eT _ (by have:=S5.lt;omega)) (λb q l=>eT _ (by have:=S5.lt;omega)),((VF.O λb q l=>B9.block b l).O λb q l=>Vw.block b l (by simp;have:=S5.lt;omega)).O λb q l=>eT _ Vc,((VG.G B9).J Vw).fresh1 Vc _ _⟩
    .have e4:((q:Int)==4)=false:=Ve;go_wp2;go_meet
     case rel=>exact⟨0,_,by show Ac raw n c=_;unfold Ac;rw[HQ.o,dO h4,HT.o],N8,G8,VF,VG⟩
   case rest=>
    obtain⟨ky,d,HF,N9,G9,VR,k9⟩:=hcut;have s9:=k9.size;have⟨Vx,VA⟩:=d8 wc #[.int .i64 t,.int .i64 q,.int .i64 ky] 137;have Vr:=VR.O (w':=wc.alloc (Obj.cells #[.int .i64 t,.int .i64 q,.int .i64 ky] 137)) λb q l=>Vx.block b l
    have Vw:=k9.G Vx;have VH:=G9.O (w':=wc.alloc (Obj.cells #[.int .i64 t,.int .i64 q,.int .i64 ky] 137)) (Vx.block _ (by have:=S5.lt;omega)) λb q l=>Vx.block b l
    have VI:∀j u,(JE (t,q,ky))[j]?=some u->(wc.alloc (Obj.cells #[.int .i64 t,.int .i64 q,.int .i64 ky] 137)).cell? ((⟨wc.heap.size,0,none⟩:Addr).add j)=some u:=λj u hu=>bz VA j u (by simpa [JE]using hu)
    have⟨r1,r2⟩:=N9.I;clear G9 VR k9 B8 N8 G8 VF VG VA Vx;go_wp2_with (at_builtin;refine wpList_append_lies _ rfl _ _ 135 rfl 0 137 i1 _ 3 24 underlying135 V0 V7 V8 V9 rfl Vc (.slice la j lc) j (xs.flatMap JE) rfl Vr.1 ⟨wc.heap.size,0,none⟩ 1 1 (JE (t,q,ky)) rfl rfl VI (by intro u hu;simp[JE]at hu;rcases hu with rfl|rfl|rfl<;>rfl) Vc Vj Vc Vc _ rfl ?_;intro g cap VL Vv Vp Vy Wh)
    have z7:=S5.lt;have e10:(wc.alloc (Obj.cells #[.int .i64 t,.int .i64 q,.int .i64 ky] 137)).heap.size=wc.heap.size+1:=Vd;refine⟨⟨j+1,Vc,Ve,⟨?_,?_⟩,?_,?_⟩,by simp[intOf];omega⟩;.rw[qI,HX.o,VC.o,HF.o];simpa using Vv
    .intro b hb;have hb:some g=some b:=hb;obtain rfl:=Option.some.inj hb;rcases Vy with h|h;.exact(Vr.2 _ h).1
     .omega
    .rw[qI,HX.o,VC.o,HF.o];exact VH.O (Vp.block _ Vc (λe=>by have:=Vr.2 _ e.sy;omega)) λb q l=>Vp.block b l (λe=>by have:=Vr.2 _ e.sy;omega)
    .exact Vw.grown Vp λg hg=>(Vr.2 g hg).1
  .obtain rfl:j=kk+1:=Vc;have VV:¬(0:Int)<=(kk:Int)-((kk+1:Nat):Int):=Vc;have z7:=S5.lt;have S6:=S5.kept hk Vd;have R6:=R5.kept hk Vd;have VJ:=Vs.O (w':=wr) λb q l=>hk.block b l Ve
   have VW:=VM.O (w':=wr) λb q l=>hk.block b l Ve
   have B6:Below w.heap.size w wr:=B5.J (hk.to_below B5.size λx hx=>by simp at hx;omega);have⟨B7,N7⟩:=d8 wr #[.slice la (kk+1) lc] 135;have VK:=VJ.O (w':=wr.alloc (Obj.cells #[.slice la (kk+1) lc] 135)) λb q l=>B7.block b l
   have VX:=VW.O (w':=wr.alloc (Obj.cells #[.slice la (kk+1) lc] 135)) λb q l=>B7.block b l
   have G7:=hG.O (w':=wr.alloc (Obj.cells #[.slice la (kk+1) lc] 135)) (B7.block _ Vc) λb q l=>B7.block b l
   have l7:=(hl.V (S':=λb=>w5.heap.size<=b/\b<wr.heap.size) λb q l=>⟨q,l⟩).O (w':=wr.alloc (Obj.cells #[.slice la (kk+1) lc] 135)) λb q l=>B7.block b l
   have VY:∀j u,[Value.slice la (kk+1) lc][j]?=some u->(wr.alloc (Obj.cells #[.slice la (kk+1) lc] 135)).cell? ((⟨wr.heap.size,0,none⟩:Addr).add j)=some u:=λj u hu=>bz N7 j u (by simpa using hu)
   have Vt:∀b,(Value.slice sa i sc).ownBlock=some b->b<w5.heap.size/\w.heap.size+1+1<b:=λb hb=>⟨(Vs.1.lt b hb).2,Vs.2 b hb⟩
   have VQ:some (w.heap.size+1+1)≠(Value.slice sa i sc).ownBlock:=λe=>by have:=Vt _ e.sy;omega
   have S7:=S6.G B7 S6.lt;have⟨r1,r2⟩:=S6.I;clear hG hl S5 R5 Vs VM G5;go_wp2_with (at_builtin;refine wpList_append_lies _ rfl _ _ 66 rfl 0 135 i2 _ 1 24 underlying66 Wb Wd We Wf rfl Vc (.slice sa i sc) i vs rfl VK.1 ⟨wr.heap.size,0,none⟩ 1 1 [.slice la (kk+1) lc] rfl rfl VY (by intro u hu;simp at hu;subst hu;rfl) Vc Vj Vc Vc _ rfl ?_;intro g cap VL Vv Vp Vy Wh;have⟨o1,o2⟩:=(S7.grown Vp VQ).I)
   have e10:(wr.alloc (Obj.cells #[.slice la (kk+1) lc] 135)).heap.size=wr.heap.size+1:=Vd
   have VZ:w.heap.size+1+1<g:=by
    rcases Vy with h|h;.exact(Vt _ h).2
    .omega
   have Vu:∀b,b<wr.heap.size+1->b≠w.heap.size+1+1->(Value.slice sa i sc).ownBlock≠some b->(VL.setCell ⟨w.heap.size+1+1,0,none⟩ (.slice (some ⟨g,0,none⟩) (i+1) cap)).heap[b]?=(wr.alloc (Obj.cells #[.slice la (kk+1) lc] 135)).heap[b]?:=λb h1 h2 h3=>(eT _ Vc).J (Vp.block b Vc (λe=>h3 e.sy))
   refine⟨⟨i+1,.slice (some ⟨g,0,none⟩) (i+1) cap,_,Vc,by go_num,?_,?_,⟨ew Vv (λb hb=>eT _ ?_),?_⟩,?_,?_,?_⟩,by simp[intOf];omega⟩;.have:=(S7.grown Vp VQ).set 0 (.slice (some ⟨g,0,none⟩) (i+1) cap);simpa using this
   .exact(Vu _ Vc Vc (λe=>by have:=Vt _ e;omega)).J (R6.G B7 R6.lt)
   .have hb:some g=some b:=hb;obtain rfl:=Option.some.inj hb;omega
   .intro b hb;have hb:some g=some b:=hb;obtain rfl:=Option.some.inj hb;exact VZ
   .rw[oz,HA.o,HK.o,HX.o];refine VX.snoc ?_ (λb q l=>Vu b Vc Vc (λe=>q.2 e.sy)) (λb q l l2=>⟨q.1,λe=> ?_⟩)
    .rw[show xs.length=kk+1 from VD.1];refine(l7.O (w':=VL.setCell ⟨w.heap.size+1+1,0,none⟩ (.slice (some ⟨g,0,none⟩) (i+1) cap)) λb q l=>Vu b Vc Vc (λe=>by have:=Vt _ e;omega)).rd.V λb q l=>⟨Vc,λe=> ?_⟩
     have e:some b=some g:=e;obtain rfl:=Option.some.inj e;rcases Vy with h|h;.have:=Vt _ h;omega
     .omega
    .have e:some b=some g:=e;obtain rfl:=Option.some.inj e;rcases Vy with h|h;.exact q.2 h.sy
     .omega
   .rw[oz,HA.o,HK.o,VC.o];exact G7.O (Vu _ Vc Vc (λe=>by have:=Vt _ e;omega)) λb q l=>Vu b Vc Vc (λe=>by have:=Vt _ e;omega)
   .exact(((B6.J (B7.V B6.size)).grown Vp Vc (λj hj=>by have:=Vt _ hj;omega))).setCell (p:=⟨w.heap.size+1+1,0,none⟩) (by show _<=w.heap.size+1+1;omega) _
 .obtain rfl:i=n:=Vc;have VT:¬(i:Int)<(i:Int):=Vc;have⟨r1,r2⟩:=KR.I;go_wp2;have K:=KR.set 0 (.slice sa i sc);have Vu:∀b,b≠w.heap.size->(wr.setCell ⟨w.heap.size,0,none⟩ (.slice sa i sc)).heap[b]?=wr.heap[b]?:=λb h=>eT _ Vc
  refine dR (el results28 _ _ rfl K underlying68 Vh) rfl ⟨_,rfl,λb=>w.heap.size<b,vs,?_,?_,λb q=>cq q,hB.setCell (p:=⟨w.heap.size,0,none⟩) (aE _) _⟩;.rw[HD.o,(tO raw i i).1];exact(Vq.rd.O λb q l=>Vu b Vc).V λb q l=>Vc
  .rw[HD.o];exact⟨VB.1,λp fs v h1 h2=>((VB.2 p fs v h1 h2).O λb q l=>Vu b Vc).V λb q l=>Vc⟩
def Qc (k:Nat):ap:=gr k++ [32,61,32]++gr (k+1)++ [59,32]
def JG (k:Nat)(f:F3):ap:=gG f.1++ [32,102]++Qc k
def Qd (k:Nat)(f:F3):ap:=
 if f.2.1=0 then JG k f
 else if f.2.1=1 then [114,101,112,101,97,116,101,100,32]++JG k f
 else if f.2.1=2 then [111,112,116,105,111,110,97,108,32]++JG k f
 else if f.2.1=3 then []
 else [109,97,112,60]++gG f.2.2++ [44]++gG f.1++ [62,32,102]++Qc k
def MM (k:Nat)(f:F3):ap:=if f.2.1=3 then JG k f else []
def wd (fs:List F3):Nat->ap
 |0=> []
 |k+1=>wd fs k++Qd k ((fs[k]?).getD (0,0,0))
def pU (fs:List F3):Nat->ap
 |0=> []
 |k+1=>pU fs k++MM k ((fs[k]?).getD (0,0,0))
def Ro (i:Nat)(fs:List F3):ap:=
 [109,101,115,115,97,103,101,32,77]++gr i++ [32,123]++wd fs fs.length++(if pU fs fs.length= []then []else [111,110,101,111,102,32,111,32,123,32]++pU fs fs.length++ [125])++ [125,10]
def we (L:List (List F3)):Nat->ap
 |0=> [101,110,117,109,32,69,32,123,32,65,32,61,32,48,59,32,125,10]
 |i+1=>we L i++Ro i ((L[i]?).getD [])
def qK (L:List (List F3)):au:=bl (we L L.length)
structure CG (L:List (List F3)):Prop where
 few:1<=L.length/\L.length<=3
 fs:∀fs∈L,1<=fs.length/\fs.length<=7/\∀f∈fs,f.1<16+L.length/\f.2.1<5/\f.2.2∈iu/\(f.2.1≠4->f.2.2=0)
def Pk (z:Nat):(iu[z]?).getD 0∈iu:=by
 cases h:iu[z]? with
 |none=>decide
 |some x=>exact aL h
def Im (raw:ar)(n a:Nat)(hn:0<n):∀j,∀f∈(qI raw n a j).1,f.1<16+n/\f.2.1<5/\f.2.2∈iu/\(f.2.1≠4->f.2.2=0)
 |0,f,h=>by cases h
 |j+1,f,h=>by
  rw[qI]at h;rcases aW.1 h with h|h;.exact Im raw n a hn j f h
  .obtain rfl:=ba.1 h;have h1:∀a,jp raw a (16+n)<16+n:=λa=>ik _ Vc
   have h2:∀a,jp raw a 5<5:=λa=>ik _ Vc
   unfold Ac;split;.exact⟨h1 _,(by decide:4<5),Pk _,λh=>absurd rfl h⟩
   .exact⟨h1 _,h2 _,(by decide:0∈iu),λ_=>rfl⟩
def In (raw:ar)(n:Nat)(hn:0<n):∀i,∀fs∈(oz raw n i).1,1<=fs.length/\fs.length<=7/\∀f∈fs,f.1<16+n/\f.2.1<5/\f.2.2∈iu/\(f.2.1≠4->f.2.2=0)
 |0,fs,h=>by cases h
 |i+1,fs,h=>by
  rw[oz]at h;rcases aW.1 h with h|h;.exact In raw n hn i fs h
  .obtain rfl:=ba.1 h;have h3:jp raw (oz raw n i).2 7<7:=ik _ Vf;rw[(tN raw n _ _).1];exact⟨Vc,Vc,Im raw n _ hn _⟩
def MN (raw:ar):CG (sD raw):=by
 have h:jp raw 0 3<3:=ik _ Vf;have hl:=(tO raw (1+jp raw 0 3) (1+jp raw 0 3)).1;unfold sD;refine⟨by rw[hl];omega,?_⟩;rw[hl];exact In raw _ Vc _
def dig_len (n:Nat):(gr n).length=1:=rfl
def ro {t:Nat}(h:t<19):(gG t).length<=8:=by
 have:∀t:Fin 19,(gG t.val).length<=8:=Vf;exact this ⟨t,h⟩
def MO {k:Nat}(h:k∈iu):k<16:=by
 have:∀k∈iu,k<16:=Vf;exact this k h
def Rp (w:aw)(v:Value)(Y:ax)(vs:ay)(L:List (List F3))(hD:CG L)(hrow:ix w Y v L.length vs)(hDA:NJ w Y vs L):
  Calls prog 29 #[.agg #[v]] w λe w'=>(e= .returned (ag (qK L))/\(qK L).size<=2000)/\ak w w':=by
 obtain⟨a,c,rfl⟩:=hrow.form;have⟨B1,K1⟩:=d8 w #[.slice a L.length c] 68;obtain⟨T,HT⟩:∃T,Hid (qK L=T):=⟨_,rfl⟩;rw[HT.o];go_in
 go_wp2_with fail;generalize w.alloc (am #[.slice a L.length c] 68)=w1 at*;go_loopw [3,4] (λov iv wr=>∃(i:Nat) (o:au),i<=L.length/\iv=aa i/\ov=ag o/\Hid (o=bl (we L i))/\o.size<=18+600*i/\ak w wr/\dX wr w.heap.size #[.slice a L.length c] 68) (λ_ iv _=>L.length-(intOf iv).toNat)
 case atStart=>exact⟨0,_,aP _,rfl,rfl,rfl,Vf,B1,K1⟩
 obtain⟨i,o,hin,rfl,rfl,HO,hos,hB,hK⟩:=hrel;have⟨r1,r2⟩:=hK.I;have⟨f1,f2⟩:=hD.few;by_cases hli:i<L.length
 .have VI:(i:Int)<(L.length:Int):=Vc;have HC:=tM wr i Vc;have VC:(bl (gr i)).size=1:=by rw[fR];rfl
  obtain⟨di,VE⟩:∃di,Hid (bl (gr i)=di):=⟨_,rfl⟩;rw[VE.o]at HC VC;go_wp2_with fail;refine HC.V ?_;rintro e w2 ⟨rfl,b2⟩;have VJ:=hK.G b2 hK.lt;have VK:=dU hB b2;have VD:Hid (o++⟨#[109,101,115,115,97,103,101,32,77]⟩++di++⟨#[32,123]⟩=bl (we L i++([109,101,115,115,97,103,101,32,77]++gr i++ [32,123]))):=jz (by rw[HO.o,<-VE.o,iH];simp[iH]);have hz1:(o++⟨#[109,101,115,115,97,103,101,32,77]⟩++di++⟨#[32,123]⟩).size<=30+600*i:=(by rw[bH,bH,bH,VC];show o.size+9+1+2<=_;omega);obtain⟨fs,Vz⟩:∃fs,L[i]?=some fs:=⟨_,aO hli⟩;obtain⟨vf,VA⟩:∃vf,vs[i]?=some vf:=⟨_,aO (by rw[hDA.1];exact hli)⟩;have Vx:=hDA.2 i fs vf Vz VA;have⟨n1,n2,VQ⟩:=hD.fs fs (aL Vz);obtain⟨fa,fc,rfl⟩:=Vx.form;obtain⟨ad,rfl,_,la,VF⟩:=hrow.at Vc;obtain⟨af,rfl,_,lf,VG⟩:=Vx.at Vc;have HR:Hid (∀W,ak w W->W.cell? (ad.add i)=some (.slice (some af) fs.length fc)):=λW hW=>VF W (hW.block _ la) i _ VA
  have HE:Hid (∀W,ak w W->∀k f,fs[k]?=some f->W.cell? (af.add (k*3))=some (aa f.1)/\W.cell? (aj ((af.add (k*3)).block) ((af.add (k*3)).off+1))=some (aa f.2.1)/\W.cell? (aj ((af.add (k*3)).block) ((af.add (k*3)).off+2))=some (aa f.2.2)):=λW hW k f hf=>by
   have hq:=λj (hj:j<3) u (hu:(JE f)[j]?=some u)=>VG W (hW.block _ lf) (k*3+j) u ((fY JE 3 (λ_=>rfl) fs k f hf j hj).J hu)
   exact⟨hq 0 Vc _ rfl,lI (hq 1 Vc _ rfl),lI (hq 2 Vc _ rfl)⟩
  clear r1 r2 hB hK HC VF VG Vx VA;go_wp2_with fail;generalize o++⟨#[109,101,115,115,97,103,101,32,77]⟩++di++⟨#[32,123]⟩=o1 at*;go_loopw [3,5,6] (λov sv kv wx=>∃(k:Nat) (o2 s2:au),k<=fs.length/\kv=aa k/\ov=ag o2/\sv=ag s2/\Hid (o2=o1++bl (wd fs k))/\Hid (s2=bl (pU fs k))/\o2.size<=30+600*i+40*k/\s2.size<=40*k/\ak w wx/\dX wx w.heap.size #[.slice (some ad) L.length c] 68) (λ_ _ kv _=>fs.length-(intOf kv).toNat)
  case atStart=>exact⟨0,_,_,aP _,rfl,rfl,rfl,jz (by simp[wd,iH]),rfl,Vc,Vf,VK,VJ⟩
  obtain⟨k,o2,s2,hkn,rfl,rfl,rfl,Vw,Vu,z2,zs,hB,hK⟩:=hrel;have⟨r1,r2⟩:=hK.I;have c0:=HR.o _ hB;by_cases hlk:k<fs.length
  .have VL:(k:Int)<(fs.length:Int):=Vc;obtain⟨f,hf⟩:∃f,fs[k]?=some f:=⟨_,aO hlk⟩;have⟨c1,c2,c3⟩:=HE.o _ hB k f hf;have⟨t1,t2,t3,t4⟩:=VQ f (aL hf);have ep:wd fs (k+1)=wd fs k++Qd k f:=by rw[wd,hf];rfl
   have eo:pU fs (k+1)=pU fs k++MM k f:=by rw[pU,hf];rfl
   obtain⟨ty,how,ky⟩:=f;simp only at c1 c2 c3 t1 t2 t3 t4;have t3:=MO t3;have⟨BN,NN⟩:=d8 wr #[aa ty,aa how,aa ky] 137;have hw:=λW=>ME W ty Vc
   have hd:=λW=>tM W k Vc
   have he:=λW=>tM W (k+1) Vc
   have VM:=λW=>ME W ky Vc
   have zw:(bl (gG ty)).size<=8:=by rw[fR];exact ro Vc
   have zk:(bl (gG ky)).size<=8:=by rw[fR];exact ro Vc
   have zd:(bl (gr k)).size=1:=by rw[fR];rfl
   have ze:(bl (gr (k+1))).size=1:=by rw[fR];rfl
   rw[show((k+1:Nat):Int)=(k:Int)+1 by omega]at he;have HB:Hid (bl (JG k (ty,how,ky))=bl (gG ty)++⟨#[32,102]⟩++bl (gr k)++⟨#[32,61,32]⟩++bl (gr (k+1))++⟨#[59,32]⟩):=jz (by simp[iH,JG,Qc]);have HM:Hid (how=4->bl (Qd k (ty,how,ky))=⟨#[109,97,112,60]⟩++bl (gG ky)++⟨#[44]⟩++bl (gG ty)++⟨#[62,32,102]⟩++bl (gr k)++⟨#[32,61,32]⟩++bl (gr (k+1))++⟨#[59,32]⟩):=λh=>jz (by subst h;simp[iH,Qd,Qc])
   generalize bl (gG ty)=sw at*;generalize bl (gG ky)=sk at*;generalize bl (gr k)=sd at*;generalize bl (gr (k+1))=se at*;go_wp2_with fail;have KN:=hK.G BN hK.lt;generalize wr.alloc (am #[aa ty,aa how,aa ky] 137)=w3 at*;refine(hw _).V ?_;rintro e w4 ⟨rfl,b4⟩;go_wp2_with fail;refine(hd _).V ?_;rintro e w5 ⟨rfl,b5⟩;go_wp2_with fail;refine(he _).V ?_;rintro e w6 ⟨rfl,b6⟩;have Vv:=dU b4 (dU b5 b6);have Vt:=dU hB (dU BN Vv);have Vp:=KN.G Vv KN.lt;have N6:=NN.G Vv NN.lt;have⟨r1,r2⟩:=N6.I;clear b4 b5 b6 Vv hB hK BN KN NN c1 c2 c3;have Vq:Hid (∀x,bl (Qd k (ty,how,ky))=x->o2++x=o1++bl (wd fs (k+1))):=λx hx=>by rw[ep,pB,hx,Vw.o,ByteArray.append_assoc]
   have Vr:Hid (∀x,bl (MM k (ty,how,ky))=x->s2++x=bl (pU fs (k+1))):=λx hx=>by rw[eo,pB,hx,Vu.o]
   have Vs:Hid (∀o:au,o++bl []=o):=λo=>jz (by simp[iH])
   have VN:how=0\/how=1\/how=2\/how=3\/how=4:=Vc;have zE:(sw++⟨#[32,102]⟩++sd++⟨#[32,61,32]⟩++se++⟨#[59,32]⟩).size<=17:=(by simp only[bH,zd,ze];show sw.size+2+1+3+1+2<=_;omega);clear ep eo Vw Vu;go_upto_region 12 with fail
   generalize sw++⟨#[32,102]⟩++sd++⟨#[32,61,32]⟩++se++⟨#[59,32]⟩=E at*;rcases VN with rfl|rfl|rfl|rfl|rfl
   .go_wp2;go_roundw
    case rel=>exact⟨k+1,_,_,Vc,by go_num,rfl,rfl,Vq.o _ HB.o,(Vs.o _).sy.J (Vr.o _ rfl),by rw[bH];omega,Vc,Vt,Vp⟩
    case measure=>simp[intOf];omega
   .go_wp2;go_roundw
    case rel=>exact⟨k+1,_,_,Vc,by go_num,rfl,rfl,(ByteArray.append_assoc).J (Vq.o _ ((pB _ _).J (dS _ HB.o))),(Vs.o _).sy.J (Vr.o _ rfl),by rw[bH,bH];show o2.size+9+_<=_;omega,Vc,Vt,Vp⟩
    case measure=>simp[intOf];omega
   .go_wp2;go_roundw
    case rel=>exact⟨k+1,_,_,Vc,by go_num,rfl,rfl,(ByteArray.append_assoc).J (Vq.o _ ((pB _ _).J (dS _ HB.o))),(Vs.o _).sy.J (Vr.o _ rfl),by rw[bH,bH];show o2.size+9+_<=_;omega,Vc,Vt,Vp⟩
    case measure=>simp[intOf];omega
   .go_wp2;go_roundw
    case rel=>exact⟨k+1,_,_,Vc,by go_num,rfl,rfl,(Vs.o _).sy.J (Vq.o _ rfl),Vr.o _ HB.o,Vc,by rw[bH];omega,Vt,Vp⟩
    case measure=>simp[intOf];omega
   .have VO:Hid (o2++⟨#[109,97,112,60]⟩++sk++⟨#[44]⟩++sw++⟨#[62,32,102]⟩++sd++⟨#[32,61,32]⟩++se++⟨#[59,32]⟩=o1++bl (wd fs (k+1))):=(by have:=Vq.o _ (HM.o rfl);simp only[ByteArray.append_assoc]at*;exact this);have zM:Hid ((o2++⟨#[109,97,112,60]⟩++sk++⟨#[44]⟩++sw++⟨#[62,32,102]⟩++sd++⟨#[32,61,32]⟩++se++⟨#[59,32]⟩:au).size<=30+600*i+40*(k+1)):=(by show _<=_;simp only[bH,zd,ze];show o2.size+4+sk.size+1+sw.size+3+1+3+1+2<=_;omega);have VP:Hid (s2=bl (pU fs (k+1))):=(Vs.o _).sy.J (Vr.o _ rfl);go_upto_region 13 with fail
    have HS:Hid (∀W,ak w6 W->W.cell? (aj wr.heap.size 0)=some (aa ty)/\W.cell? (aj wr.heap.size 2)=some (aa ky)):=λW hW=>⟨(N6.G hW N6.lt).cell 0,(N6.G hW N6.lt).cell 2⟩
    clear r1 r2 HM Vq Vr HB Vs;have qk:IntKind.i64.wrap ((k:Int)+1)=(k:Int)+1:=by rw[IntKind.wrap_i64];omega
    have q1:¬9223372036854775807<o2.size+4:=Vc;have q2:¬9223372036854775807<o2.size+4+sk.size:=Vc;have q3:¬9223372036854775807<o2.size+4+sk.size+1:=Vc;have q4:¬9223372036854775807<o2.size+4+sk.size+1+sw.size:=Vc;have q5:¬9223372036854775807<o2.size+4+sk.size+1+sw.size+3:=Vc;have q6:¬9223372036854775807<o2.size+4+sk.size+1+sw.size+3+1:=Vc;have q7:¬9223372036854775807<o2.size+4+sk.size+1+sw.size+3+1+3:=Vc;have q8:¬9223372036854775807<o2.size+4+sk.size+1+sw.size+3+1+3+1:=Vc;have q9:¬9223372036854775807<o2.size+4+sk.size+1+sw.size+3+1+3+1+2:=Vc
    go_region_held3 (λW=>W.cell? (aj wr.heap.size 0)=some (aa ty)/\W.cell? (aj wr.heap.size 2)=some (aa ky))
     (first|exact HS.o _ (dU b7 (dU b8 (dU b9 VB)))|exact HS.o _ (dU b7 (dU b8 b9))|exact HS.o _ (dU b7 b8)|exact HS.o _ b7|exact HS.o _ (Below.refl _ _).drew)
     (first|(go_at_call 61;refine(he w9).V ?_;rintro e w10 ⟨rfl,VB⟩)|(go_at_call 61;refine(hd w8).V ?_;rintro e w9 ⟨rfl,b9⟩)|(go_at_call 62;refine(hw w7).V ?_;rintro e w8 ⟨rfl,b8⟩)|(go_at_call 62;refine(VM _).V ?_;rintro e w7 ⟨rfl,VH⟩;have b7:=dU ((Va w6).drew) VH))
    have b6:=dU b7 (dU b8 (dU b9 VB));clear q1 q2 q3 q4 q5 q6 q7 q8 q9 b7 b8 b9 VB VH;go_wp2;go_roundw
    case rel=>exact⟨k+1,_,_,Vc,by go_num,rfl,rfl,VO.o,VP.o,zM.o,Vc,dU Vt b6,Vp.G b6 Vp.lt⟩
    case measure=>simp[intOf];omega
  .obtain rfl:k=fs.length:=Vc;have VL:¬(fs.length:Int)<(fs.length:Int):=Vc;have em:we L (i+1)=we L i++Ro i fs:=by rw[we,Vz];rfl
   by_cases hne:pU fs fs.length= []
   .have es:(!s2.toList.isEmpty)=false:=by rw[ByteArray.toList_eq,Vu.o,hne];rfl
    have Vy:Hid (o2++⟨#[125,10]⟩=bl (we L (i+1))):=jz (by rw[em,Vw.o,VD.o,Ro,dP hne];simp[iH]);clear em;go_wp2;go_roundw
    case rel=>exact⟨i+1,_,Vc,by go_num,rfl,Vy.o,by rw[bH];show o2.size+2<=_;omega,hB,hK⟩
    case measure=>simp[intOf];omega
   .have es:(!s2.toList.isEmpty)=true:=by rw[ByteArray.toList_eq,Vu.o,iH];simpa using hne
    have Vy:Hid (o2++⟨#[111,110,101,111,102,32,111,32,123,32]⟩++s2++⟨#[125]⟩++⟨#[125,10]⟩=bl (we L (i+1))):=jz (by rw[em,Vw.o,VD.o,Vu.o,Ro,dO hne];simp[iH]);clear em;go_wp2;go_roundw
    case rel=>exact⟨i+1,_,Vc,by go_num,rfl,Vy.o,by simp only[bH];show o2.size+10+s2.size+1+2<=_;omega,hB,hK⟩
    case measure=>simp[intOf];omega
 .obtain rfl:i=L.length:=Vc;have VI:¬(L.length:Int)<(L.length:Int):=Vc;go_wp2;go_ret;have hT:T=o:=by rw[HO.o,<-HT.o];rfl
  exact⟨⟨by rw[hT];rfl,by rw[hT];omega⟩,hB⟩
end
end Go.Proofs.YtfebdimolnobaaaGreatDoor
