import Derived.Test.YtfebdimolnobaaaGreatDoorEpA
import Derived.Test.YtfebdimolnobaaaGreatDoorEnK
set_option maxRecDepth 100000
set_option maxHeartbeats 8000000
set_option linter.all false
namespace Go.Proofs.YtfebdimolnobaaaGreatDoor
open Go.RowKit Go.Proofs.Tryz
section
open Vo
def P7 (c:PV->ap)(p:PV->Bool)(N f:Nat)(cap:ay)(W:aw):Prop:=
 ∀(W':aw) (Z:ax) (x:PV) (mv:Value) (k:Nat),Below N W W'->gP k W' Z mv x.2.2->pP k x.2.2->0<=x.1->x.1<2^64->p x=true->(c x).length<=2^47->
  U8 f (gh x mv::cap).toArray W' (ij (c x) W')
def OV (c:List PV->ap)(p:PV->Bool)(N f:Nat)(cap:ay)(W:aw):Prop:=
 ∀(W':aw) (Z:ax) (vv:Value) (l:List PV) (k:Nat),Below N W W'->pO (gP k W' Z) W' Z vv l->P6 k l->(∀x∈l,p x=true)->(c l).length<=2^47->
  U8 f (vv::cap).toArray W' (ij (c l) W')
def Gg (S:eD)(iq:aC)(n:Nat)(t:MT)(N:Nat)(W:aw):Prop:=
 ∀(W':aw) (Z:ax) (v:Value) (m:PM) (k:Nat),Below N W W'->gP k W' Z v m->pP k m->dZ S n t m=true->(eG S n t m).length<=2^47->
  U8 104 #[.pointer iq,.agg #[v,ag m.unk]] W' (ij (eG S n t m) W')
def yF {N:Nat}{a b c:aw}(h:Below N a b)(k:Below b.heap.size b c)(hN:N<=a.heap.size):Below N a c:=h.J (ed k (aM hN h.size))
section
variable {S:eD} {fl:fo} {n N:Nat} {W:aw}
def Ie {R:MT->PM->ap}{x:PV}{t:MT}(h:fB S fl=16)(hs:fy S fl=some t):gm S R fl x=fF (R t x.2.2):=by unfold gm;rw[dP h,hs]
def TG (ib:Nat)(iq:aC)(t:MT)(hN:N<=W.heap.size)(hb:dX W ib #[.pointer iq] 116)(hi:ib<N)(H:Gg S iq n t N W)(h16:fB S fl=16)(hsub:fy S fl=some t):
  P7 (gm S (eG S n) fl) (eC S (dZ S n) fl) N 412 [ah ib] W:=by
 intro W' Z x mv k B hm hO h0 h1 hp hl;show U8 412 #[gh x mv,ah ib] W' _;rw[Ie h16 hsub]at hl⊢;have hR:=uN hp h16 hsub;have Vs:=aM (ri _) hl;obtain⟨ma,mc,rfl⟩:=hm.form;have⟨B1,K1⟩:=d8 W' (U4 x ma mc) 55;have B2:=yF B B1 hN;have Vu:=hb.G B2 hi;have HC:=H _ Z _ x.2.2 k B2 (hm.G B1 (aE _)) hO hR Vs;have HL:=λW=>uM W (eG S n t x.2.2) Vs
 unfold ij gh;generalize eG S n t x.2.2=y at*;have⟨k1,k2⟩:=K1.I;have⟨k3,k4⟩:=Vu.I;go_enter func412,ntmps412;go_wp2_with fail;refine HC.V ?_;rintro e w2 ⟨rfl,b2⟩;go_wp2_with fail;refine(HL w2).V ?_;rintro e w3 ⟨rfl,rfl⟩;go_wp2;go_ret;exact⟨rfl,dU B1 b2⟩
def TH (hk:fB S fl=13\/fB S fl=14):P7 (gm S (eG S n) fl) (eC S (dZ S n) fl) N 413 [] W:=by
 intro W' Z x mv k B hm hO h0 h1 hp hl;show U8 413 #[gh x mv] W' _;have hb:gm S (eG S n) fl x=fF x.2.1.data.toList:=by unfold gm;rw[dO Vc,dP hk]
 rw[hb]at hl⊢;have Vs:=aM (ri _) hl;obtain⟨ma,mc,rfl⟩:=hm.form;have⟨B1,K1⟩:=d8 W' (U4 x ma mc) 55;have HL:=λW=>uM W x.2.1.data.toList Vs
 rw[show x.2.1.data.toList.length=x.2.1.size by simp]at HL;unfold ij gh;have⟨k1,k2⟩:=K1.I;go_enter func413,ntmps413;go_wp2_with fail;refine(HL _).V ?_;rintro e w3 ⟨rfl,rfl⟩;go_wp2;go_ret;exact⟨rfl,B1⟩
def TI (hk:fB S fl=4\/fB S fl=5):P7 (gm S (eG S n) fl) (eC S (dZ S n) fl) N 414 [] W:=by
 intro W' Z x mv k B hm hO h0 h1 hp hl;show U8 414 #[gh x mv] W' _;have hb:gm S (eG S n) fl x=vi (Cl x.1):=by unfold gm;rw[dO Vc,dO Vc,dO Vc,dO Vc,dP hk]
 rw[hb];have⟨Vy,Vz⟩:=wU h0 h1;obtain⟨ma,mc,rfl⟩:=hm.form;have⟨B1,K1⟩:=d8 W' (U4 x ma mc) 55;have HZ:=λW=>tC W x.1 h0 h1
 have HY:=λW=>oT W (Cl x.1) Vy Vz
 unfold ij gh;have⟨k1,k2⟩:=K1.I;go_enter func414,ntmps414;go_wp2_with fail;refine(HZ _).V ?_;rintro e w2 ⟨rfl,rfl⟩;go_wp2_with fail;refine(HY _).V ?_;rintro e w3 ⟨rfl,rfl⟩;go_wp2;go_ret;exact⟨rfl,B1⟩
def TJ (hk:fB S fl=7\/fB S fl=9\/fB S fl=11):P7 (gm S (eG S n) fl) (eC S (dZ S n) fl) N 415 [] W:=by
 intro W' Z x mv k B hm hO h0 h1 hp hl;show U8 415 #[gh x mv] W' _;have hb:gm S (eG S n) fl x=o0 4 x.1:=by unfold gm;rw[dO Vc,dO Vc,dP hk]
 obtain⟨ma,mc,rfl⟩:=hm.form;have B1:=(d8 W' (U4 x ma mc) 55).1;unfold ij gh;rw[hb,iG];go_enter func415,ntmps415;go_wp2;go_ret;exact⟨rfl,B1⟩
def TK (hk:fB S fl=8\/fB S fl=10\/fB S fl=12):P7 (gm S (eG S n) fl) (eC S (dZ S n) fl) N 416 [] W:=by
 intro W' Z x mv k B hm hO h0 h1 hp hl;show U8 416 #[gh x mv] W' _;have hb:gm S (eG S n) fl x=o0 8 x.1:=by unfold gm;rw[dO Vc,dO Vc,dO Vc,dP hk]
 obtain⟨ma,mc,rfl⟩:=hm.form;have B1:=(d8 W' (U4 x ma mc) 55).1;unfold ij gh;rw[hb,iG];go_enter func416,ntmps416;go_wp2;go_ret;exact⟨rfl,B1⟩
def TL (hk:fB S fl<4\/fB S fl=6\/fB S fl=15):P7 (gm S (eG S n) fl) (eC S (dZ S n) fl) N 417 [] W:=by
 intro W' Z x mv k B hm hO h0 h1 hp hl;show U8 417 #[gh x mv] W' _;have hb:gm S (eG S n) fl x=vi x.1:=by unfold gm;rw[dO Vc,dO Vc,dO Vc,dO Vc,dO Vc]
 rw[hb];obtain⟨ma,mc,rfl⟩:=hm.form;have⟨B1,K1⟩:=d8 W' (U4 x ma mc) 55;have HY:=λW=>oT W x.1 h0 h1
 unfold ij gh;have⟨k1,k2⟩:=K1.I;go_enter func417,ntmps417;go_wp2_with fail;refine(HY _).V ?_;rintro e w3 ⟨rfl,rfl⟩;go_wp2;go_ret;exact⟨rfl,B1⟩
end
section
variable {bv:PV->ap} {p:PV->Bool} {N:Nat} {W:aw}
def SE (vb vf:Nat)(vcap:ay)(hN:N<=W.heap.size)(hb:dX W vb #[.func (.func vf) #[] vcap.toArray] 447)(hi:vb<N)(hen:∀args w,(callFunc vf args).run prog w= .ok (.enter vf args) w)(H:P7 bv p N vf vcap W):
  OV (λl=>l.flatMap bv) p N 369 [ah vb] W:=by
 intro W' Z vv l k B hv hO hp hl;show U8 369 #[vv,ah vb] W' (ij (l.flatMap bv) W');obtain⟨a,c,rfl⟩:=hv.form;obtain⟨vcs,VA,VB⟩:=hv;have Vu:=hb.G B hi;have hll:=hO.1
 have HC:Hid (∀(W2:aw) (x:PV) (mv:Value),Below W'.heap.size W' W2->x∈l->gP k W' Z mv x.2.2->U8 vf (gh x mv::vcap).toArray W2 (ij (bv x) W2)):=λW2 x mv h2 hx hm=>
  H W2 Z x mv k (yF B h2 hN) (hm.G h2 (aE _)) (hO.2 x hx).2.2.2 (hO.2 x hx).1 (hO.2 x hx).2.1 (hp x hx) (aM (wT hx) hl)
 have HT:Hid (∀i,((l.take i).flatMap bv).length<=2^47):=λi=>aM (iW i) hl
 clear hl hp hO H;go_enter func369,ntmps369;go_wp2;go_loopw [4,6,9] (λsv _ jv wr=>∃j:Nat,jv=aa j/\j<=l.length/\sv=aa ((l.take j).flatMap bv).length/\Below W'.heap.size W' wr) (λ_ _ jv _=>l.length-(intOf jv).toNat)
 case atStart=>exact⟨0,rfl,aP _,rfl,Below.refl _ _⟩
 case round=>
  obtain⟨j,rfl,hj,rfl,BW⟩:=hrel;by_cases hlt:j<l.length
  .have⟨x,hx⟩:=gx hlt;have⟨mv,p1,p2,p3,p4,p5⟩:=VB.get hx;obtain⟨ma,mc,rfl⟩:=p1.form;obtain⟨gv,rfl,hzgv,Vv,Vp⟩:=VA.at Vc;have t0:=Vp wr (BW.block _ Vv) _ _ p2;have t1:=lI (Vp wr (BW.block _ Vv) _ _ p3);have t2:=lI (Vp wr (BW.block _ Vv) _ _ p4);have t3:=lI (Vp wr (BW.block _ Vv) _ _ p5);have hlj:(j:Int)<(l.length:Int):=Vc;have⟨B1,K1⟩:=d8 wr (U4 x ma mc) 55;have B2:=dU BW B1;have HX:=HC.o _ x _ B2 (aL hx) p1;unfold gh at HX;have KT:=Vu.G B2 Vu.lt;have hT:=HT.o (j+1);rw[gd hx,aN]at hT;have HS:Hid (((l.take (j+1)).flatMap bv).length=((l.take j).flatMap bv).length+(bv x).length):=(by show((l.take (j+1)).flatMap bv).length=_;rw[gd hx,aN]);generalize((l.take j).flatMap bv).length=sz at*;have⟨k1,k2⟩:=KT.I;have⟨k3,k4⟩:=K1.I;clear Vp p2 p3 p4 p5 hx;go_wp2_with fail;refine HX.V ?_;rintro e w3 ⟨rfl,b3⟩;generalize(bv x).length=yz at*;have Vt:(sz:Int)+(yz:Int)<=2^47:=Vc;go_wp2;go_roundw
   case rel=>exact⟨j+1,by go_num,Vc,by rw[HS.o];go_num,dU B2 b3⟩
   case measure=>simp[intOf];omega
  .obtain rfl:j=l.length:=Vc;rw[bB];go_wp2;go_ret;exact⟨rfl,BW⟩
def Mb {c:List PV->ap}(tb ab af:Nat)(acap:ay)(tg:ap)(ht:dX W tb #[aa tg.length] 3)(ha:dX W ab #[.func (.func af) #[] acap.toArray] 262)(hi:tb<N)(hj:ab<N)(hen:∀args w,(callFunc af args).run prog w= .ok (.enter af args) w)(H:OV c p N af acap W):
  OV (λl=>tg++fF (c l)) p N 290 [ah tb,ah ab] W:=by
 intro W' Z vv l k B hv hO hp hl;show U8 290 #[vv,ah tb,ah ab] W' (ij (tg++fF (c l)) W');have Vx:tg.length+(fF (c l)).length<=2^47:=(by grind);have Vs:=ri (c l);obtain⟨va,vc,rfl⟩:=hv.form;have b0:Below W'.heap.size W' W'.drew:=(Below.refl _ _).drew;have Vq:=ht.G B hi;have Vr:=ha.G B hj;have HX:=H W'.drew Z _ l k B.drew (pO.G b0 (aE _) hv) hO hp Vc;have HL:=λW=>uM W (c l) Vc
 unfold ij;rw[aN];have Vt:IntKind.i64.wrap ((tg.length:Int)+((fF (c l)).length:Int))=(tg.length:Int)+((fF (c l)).length:Int):=yE Vc Vc;have hW:W'.drew.cell? (aj tb 0)=some (aa tg.length)/\W'.drew.cell? (aj ab 0)=some (.func (.func af) #[] acap.toArray):=⟨Vq.drew.cell 0,Vr.drew.cell 0⟩;generalize tg.length=tl at*;generalize fF (c l)=y at*;go_enter func290,ntmps290;go_upto_region 1 with fail
 go_region_held2 (λW=>W.cell? (aj tb 0)=some (aa tl)/\W.cell? (aj ab 0)=some (.func (.func af) #[] acap.toArray))
  (first|exact Vw|exact hW)
  (first
   |(
     go_at_call 243;refine(HL _).V ?_
     rintro e w4 ⟨rfl,rfl⟩)
   |(
     refine HX.V ?_;rintro e w3 ⟨rfl,b3⟩
     have Vw:w3.cell? (aj tb 0)=some (aa tl)/\w3.cell? (aj ab 0)=some (.func (.func af) #[] acap.toArray):=⟨(Vq.drew.G b3 Vq.drew.lt).cell 0,(Vr.drew.G b3 Vr.drew.lt).cell 0⟩))
 all_goals
  go_wp2;go_ret;exact⟨Vi,dU b0 b3⟩
def OW (tb ab af:Nat)(acap:ay)(tg:ap)(ht:dX W tb #[aa tg.length] 3)(ha:dX W ab #[.func (.func af) #[] acap.toArray] 262)(hi:tb<N)(hj:ab<N)(hen:∀args w,(callFunc af args).run prog w= .ok (.enter af args) w)(H:OV (λl=>l.flatMap bv) p N af acap W):
  OV (λl=>l.flatMap λv=>tg++bv v) p N 291 [ah tb,ah ab] W:=by
 intro W' Z vv l k B hv hO hp hl;show U8 291 #[vv,ah tb,ah ab] W' (ij (l.flatMap λv=>tg++bv v) W')
 have Vx:tg.length*l.length+(l.flatMap bv).length<=2^47:=by
  have:=hl;simp only at this
  rwa [tG]at this
 obtain⟨va,vc,rfl⟩:=hv.form;have b0:Below W'.heap.size W' W'.drew:=(Below.refl _ _).drew;have Vq:=ht.G B hi;have Vr:=ha.G B hj;have HX:=H W'.drew Z _ l k B.drew (pO.G b0 (aE _) hv) hO hp (show(l.flatMap bv).length<=_ by omega);unfold ij;rw[tG];have hmul:(tg.length:Int)*(l.length:Int)=((tg.length*l.length:Nat):Int):=by rw[Int.natCast_mul]
 have hW:W'.drew.cell? (aj tb 0)=some (aa tg.length)/\W'.drew.cell? (aj ab 0)=some (.func (.func af) #[] acap.toArray):=⟨Vq.drew.cell 0,Vr.drew.cell 0⟩;generalize tg.length*l.length=pl at*;generalize tg.length=tl at*;change U8 af _ _ (ij (l.flatMap bv) W'.drew)at HX;generalize l.flatMap bv=y at*;have hw1:IntKind.i64.wrap (pl:Int)=pl:=yE Vc Vc;have Vt:IntKind.i64.wrap ((pl:Int)+(y.length:Int))=(pl:Int)+(y.length:Int):=yE Vc Vc;go_enter func291,ntmps291;go_upto_region 1 with fail
 go_region_held2 (λW=>W.cell? (aj tb 0)=some (aa tl)/\W.cell? (aj ab 0)=some (.func (.func af) #[] acap.toArray))
  (first|exact Vw|exact hW)
  (first
   |(
     refine HX.V ?_;rintro e w3 ⟨rfl,b3⟩
     have Vw:w3.cell? (aj tb 0)=some (aa tl)/\w3.cell? (aj ab 0)=some (.func (.func af) #[] acap.toArray):=⟨(Vq.drew.G b3 Vq.drew.lt).cell 0,(Vr.drew.G b3 Vr.drew.lt).cell 0⟩))
 all_goals
  go_wp2;go_ret;exact⟨Vi,dU b0 b3⟩
end
def SF (w:aw)(Q:ax)(b:Nat)(iq:aC)(v:Value):Prop:=
 ∃f cap,L6 v f cap/\∀(S:eD) (fl:fo) (n N:Nat) (W:aw),Kp Q w W->(∀b,Q b->b<w.heap.size->b<N)->N<=W.heap.size->fB S fl=b->(fB S fl=16->∃t,fy S fl=some t/\Gg S iq n t N W)->P7 (gm S (eG S n) fl) (eC S (dZ S n) fl) N f cap W
def vG (w:aw)(Q:ax)(b:Nat)(iq:aC)(v:Value):Prop:=
 ∃f cap,L6 v f cap/\∀(S:eD) (fl:fo) (n N:Nat) (W:aw),Kp Q w W->(∀b,Q b->b<w.heap.size->b<N)->N<=W.heap.size->fB S fl=b->(fB S fl=16->∃t,fy S fl=some t/\Gg S iq n t N W)->OV (nF S (eG S n) fl) (eC S (dZ S n) fl) N f cap W
def Gh (w:aw)(Q:ax)(mp:an)(g:GF)(iq:aC)(v:Value):Prop:=
 ∃f cap,L6 v f cap/\∀(S:eD) (d:MT) (fl:fo) (n N:Nat) (W:aw),Kp Q w W->(∀b,Q b->b<w.heap.size->b<N)->N<=W.heap.size->FG S mp d fl g->(0<=fl.num/\fl.num<=536870911)->(fB S fl=16->∃t,fy S fl=some t/\Gg S iq n t N W)->OV (kL S (eG S n) fl) (eC S (dZ S n) fl) N f cap W
section
variable {w w':aw} {Q Q':ax} {mp:an} {g:GF} {iq:aC} {v:Value} (hk:Mv w Q w' Q')
include hk
def vG.mV {b:Nat}(h:vG w Q b iq v):vG w' Q' b iq v:=by
 obtain⟨f,cap,h1,h2⟩:=h;exact⟨f,cap,h1,λS fl n N W q hN=>h2 S fl n N W (q.mv hk) λb x l=>hN b (hk b x l).1 (hk.lt x l)⟩
def Gh.mV (h:Gh w Q mp g iq v):Gh w' Q' mp g iq v:=by
 obtain⟨f,cap,h1,h2⟩:=h;exact⟨f,cap,h1,λS d fl n N W q hN=>h2 S d fl n N W (q.mv hk) λb x l=>hN b (hk b x l).1 (hk.lt x l)⟩
end
def O1 (c:PV->ap)(p:PV->Bool)(N f:Nat)(cap:ay)(W:aw):Prop:=
 ∀(W':aw) (Z:ax) (x:PV) (mv:Value) (k b:Nat) (l0:ap),Below N W W'->gP k W' Z mv x.2.2->(∀i,Z i->i<N)->pP k x.2.2->0<=x.1->x.1<2^64->p x=true->fH W' N b (eE b) l0->l0.length+(c x).length<=2^47->
  U8 f (gh x mv::eE b::cap).toArray W' (i9 N b l0 (c x) W')
def Tj (c:List PV->ap)(p:PV->Bool)(N f:Nat)(cap:ay)(W:aw):Prop:=
 ∀(W':aw) (Z:ax) (vv:Value) (l:List PV) (k b:Nat) (l0:ap),Below N W W'->pO (gP k W' Z) W' Z vv l->(∀i,Z i->i<N)->P6 k l->(∀x∈l,p x=true)->fH W' N b (eE b) l0->l0.length+(c l).length<=2^47->
  U8 f (vv::eE b::cap).toArray W' (i9 N b l0 (c l) W')
def Q0 (S:eD)(iq:aC)(n:Nat)(t:MT)(N:Nat)(W:aw):Prop:=
 ∀(W':aw) (Z:ax) (v:Value) (m:PM) (k b:Nat) (l0:ap),Below N W W'->gP k W' Z v m->(∀i,Z i->i<N)->pP k m->dZ S n t m=true->fH W' N b (eE b) l0->l0.length+(eG S n t m).length<=2^47->
  U8 99 #[.pointer iq,.agg #[v,ag m.unk],eE b] W' (i9 N b l0 (eG S n t m) W')
section
variable {S:eD} {fl:fo} {n N:Nat} {W:aw}
def TM (ib:Nat)(iq:aC)(t:MT)(hN:N<=W.heap.size)(hb:dX W ib #[.pointer iq] 116)(hi:ib<N)(H:Gg S iq n t N W)(H2:Q0 S iq n t N W)(h16:fB S fl=16)(hsub:fy S fl=some t):
  O1 (gm S (eG S n) fl) (eC S (dZ S n) fl) N 371 [ah ib] W:=by
 intro W' Z x mv k b l0 B hm hZ hO h0 h1 hp hW hl;show U8 371 #[gh x mv,eE b,ah ib] W' _;rw[Ie h16 hsub]at hl⊢;have hR:=uN hp h16 hsub;unfold fF at hl;rw[aN]at hl;obtain⟨ma,mc,rfl⟩:=hm.form;have⟨B1,K1⟩:=d8 W' (U4 x ma mc) 55;have Vq:=aM hN B.size;have B2:=yF B B1 hN;have Vw:=hb.G B2 hi;have HC:=H _ Z _ x.2.2 k B2 (hm.G B1 (aE _)) hO hR Vc
 have HW:Hid (∀(W2:aw) (l2:ap),Below N W' W2->fH W2 N b (eE b) l2->l2.length+(eG S n t x.2.2).length<=2^47->U8 99 #[.pointer iq,.agg #[.slice ma x.2.2.fs.length mc,ag x.2.2.unk],eE b] W2 (i9 N b l2 (eG S n t x.2.2) W2)):=λW2 l2 h3 hw Vs=>
  H2 W2 Z _ x.2.2 k b l2 (B.J h3) (hm.under h3 hZ) hZ hO hR hw Vs
 have VF:=hW.on B1;unfold gh;generalize eG S n t x.2.2=y at*;have⟨k1,k2⟩:=K1.I;have⟨k3,k4⟩:=Vw.I;clear hR;go_enter func371,ntmps371;go_wp2_with fail;generalize W'.alloc (Obj.cells (U4 x ma mc) 55)=w1 at*;refine HC.V ?_;rintro e w2 ⟨rfl,b2⟩;have B3:=dU B1 b2;have VD:=B3.size;go_wp2_with fail;refine(qA y.length (VF.on b2) Vc Vc Vc).V ?_;rintro e w3 ⟨rfl,q1,q2⟩;have VG:=q2.fr _ _ _ Vf Vf (K1.G b2 K1.lt);have VH:=q2.fr _ _ _ Vf Vf (Vw.G b2 Vw.lt);have Q:=(Wr.of B3 Vq).J q2;clear k1 k2 k3 k4;have⟨k1,k2⟩:=VG.I;have⟨k3,k4⟩:=VH.I;go_wp2_with fail;refine(HW.o w3 _ Q.bel q1 (by grind)).V ?_;rintro e w4 ⟨rfl,r1,r2⟩;go_wp2;go_end0;exact⟨rfl,by rw[bj]at r1;exact r1,Q.J r2⟩
def TN (hN:N<=W.heap.size)(hk:fB S fl=13\/fB S fl=14):O1 (gm S (eG S n) fl) (eC S (dZ S n) fl) N 372 [] W:=by
 intro W' Z x mv k b l0 B hm hZ hO h0 h1 hp hW hl;show U8 372 #[gh x mv,eE b] W' _;have hb:gm S (eG S n) fl x=fF x.2.1.data.toList:=by unfold gm;rw[dO Vc,dP hk]
 rw[hb]at hl⊢;obtain⟨ma,mc,rfl⟩:=hm.form;have⟨B1,K1⟩:=d8 W' (U4 x ma mc) 55;have Vq:=aM hN B.size;have HE:=H7 _ (hW.on B1) hl (aM Vq B1.size);unfold gh;have⟨k1,k2⟩:=K1.I;go_enter func372,ntmps372;go_wp2_with fail;refine HE.V ?_;rintro e w2 ⟨rfl,q1,q2⟩;go_wp2;go_end0;exact⟨rfl,q1,(Wr.of B1 Vq).J q2⟩
def TO (hN:N<=W.heap.size)(hk:fB S fl=4\/fB S fl=5):O1 (gm S (eG S n) fl) (eC S (dZ S n) fl) N 373 [] W:=by
 intro W' Z x mv k b l0 B hm hZ hO h0 h1 hp hW hl;show U8 373 #[gh x mv,eE b] W' _;have hb:gm S (eG S n) fl x=vi (Cl x.1):=by unfold gm;rw[dO Vc,dO Vc,dO Vc,dO Vc,dP hk]
 rw[hb]at hl⊢;have⟨VN,VO⟩:=wU h0 h1;obtain⟨ma,mc,rfl⟩:=hm.form;have⟨B1,K1⟩:=d8 W' (U4 x ma mc) 55;have Vq:=aM hN B.size;have HZ:=λW=>tC W x.1 h0 h1
 have HE:=oS _ (hW.on B1) VN VO hl (aM Vq B1.size);unfold gh;have⟨k1,k2⟩:=K1.I;go_enter func373,ntmps373;go_wp2_with fail;refine(HZ _).V ?_;rintro e w2 ⟨rfl,rfl⟩;go_wp2_with fail;refine HE.V ?_;rintro e w2 ⟨rfl,q1,q2⟩;go_wp2;go_end0;exact⟨rfl,q1,(Wr.of B1 Vq).J q2⟩
def TP (hN:N<=W.heap.size)(hk:fB S fl=7\/fB S fl=9\/fB S fl=11):O1 (gm S (eG S n) fl) (eC S (dZ S n) fl) N 374 [] W:=by
 intro W' Z x mv k b l0 B hm hZ hO h0 h1 hp hW hl;show U8 374 #[gh x mv,eE b] W' _;have hb:gm S (eG S n) fl x=o0 4 x.1:=by unfold gm;rw[dO Vc,dO Vc,dP hk]
 rw[hb]at hl⊢;obtain⟨ma,mc,rfl⟩:=hm.form;have⟨B1,K1⟩:=d8 W' (U4 x ma mc) 55;have Vq:=aM hN B.size;have HE:=LW _ (hW.on B1) h0 h1 hl (aM Vq B1.size);unfold gh;have⟨k1,k2⟩:=K1.I;go_enter func374,ntmps374;go_wp2_with fail;refine HE.V ?_;rintro e w2 ⟨rfl,q1,q2⟩;go_wp2;go_end0;exact⟨rfl,q1,(Wr.of B1 Vq).J q2⟩
def TQ (hN:N<=W.heap.size)(hk:fB S fl=8\/fB S fl=10\/fB S fl=12):O1 (gm S (eG S n) fl) (eC S (dZ S n) fl) N 375 [] W:=by
 intro W' Z x mv k b l0 B hm hZ hO h0 h1 hp hW hl;show U8 375 #[gh x mv,eE b] W' _;have hb:gm S (eG S n) fl x=o0 8 x.1:=by unfold gm;rw[dO Vc,dO Vc,dO Vc,dP hk]
 rw[hb]at hl⊢;obtain⟨ma,mc,rfl⟩:=hm.form;have⟨B1,K1⟩:=d8 W' (U4 x ma mc) 55;have Vq:=aM hN B.size;have HE:=H6 _ (hW.on B1) h0 h1 hl (aM Vq B1.size);unfold gh;have⟨k1,k2⟩:=K1.I;go_enter func375,ntmps375;go_wp2_with fail;refine HE.V ?_;rintro e w2 ⟨rfl,q1,q2⟩;go_wp2;go_end0;exact⟨rfl,q1,(Wr.of B1 Vq).J q2⟩
def TR (hN:N<=W.heap.size)(hk:fB S fl<4\/fB S fl=6\/fB S fl=15):O1 (gm S (eG S n) fl) (eC S (dZ S n) fl) N 376 [] W:=by
 intro W' Z x mv k b l0 B hm hZ hO h0 h1 hp hW hl;show U8 376 #[gh x mv,eE b] W' _;have hb:gm S (eG S n) fl x=vi x.1:=by unfold gm;rw[dO Vc,dO Vc,dO Vc,dO Vc,dO Vc]
 rw[hb]at hl⊢;obtain⟨ma,mc,rfl⟩:=hm.form;have⟨B1,K1⟩:=d8 W' (U4 x ma mc) 55;have Vq:=aM hN B.size;have HE:=oS _ (hW.on B1) h0 h1 hl (aM Vq B1.size);unfold gh;have⟨k1,k2⟩:=K1.I;go_enter func376,ntmps376;go_wp2_with fail;refine HE.V ?_;rintro e w2 ⟨rfl,q1,q2⟩;go_wp2;go_end0;exact⟨rfl,q1,(Wr.of B1 Vq).J q2⟩
end
section
variable {bv:PV->ap} {p:PV->Bool} {N:Nat} {W:aw}
def O2 (tb vb vf:Nat)(vcap:ay)(nu kd:Int)(hN:N<=W.heap.size)(ht:dX W tb #[aa nu,aa kd] 237)(hv0:dX W vb #[.func (.func vf) #[] vcap.toArray] 404)(hi:tb<N)(hj:vb<N)(hn:0<=nu/\nu<=536870911)(hkd:0<=kd/\kd<8)(hen:∀args w,(callFunc vf args).run prog w= .ok (.enter vf args) w)(H:O1 bv p N vf vcap W):
  Tj (λl=>l.flatMap λv=>fD nu kd++bv v) p N 294 [ah tb,ah vb] W:=by
 intro W' Z vv l k b l0 B hv hZ hO hp hW hl;show U8 294 #[vv,eE b,ah tb,ah vb] W' (i9 N b l0 (l.flatMap λv=>fD nu kd++bv v) W');obtain⟨a,c,rfl⟩:=hv.form;obtain⟨VP,VA,VB⟩:=hv;have Vq:=aM hN B.size;have Vx:=ht.G B hi;have Vy:=hv0.G B hj;have VI:=hO.1;obtain⟨bd,VC⟩:∃bd:PV->ap,bd=λx=>fD nu kd++bv x:=⟨_,rfl⟩
 have HB:Hid (∀x,bd x=fD nu kd++bv x):=λx=>by rw[VC]
 change l0.length+(l.flatMap λv=>fD nu kd++bv v).length<=_ at hl;rw[<-VC]at hl⊢
 have HA:Hid (∀j,l0.length+((l.take j).flatMap bd).length<=2^47):=λj=>by
  have:=iW (g:=bd) (l:=l) j;omega
 have HE:Hid (∀(W2:aw) (l2:ap),fH W2 N b (eE b) l2->l2.length+(fD nu kd).length<=2^47->N<=W2.heap.size->U8 230 #[eE b,.agg #[aa nu,aa kd]] W2 (i9 N b l2 (fD nu kd) W2)):=λW2 l2 hw Vs h2=>LZ nu kd hn.1 hn.2 hkd.1 hkd.2 hw Vs h2
 have HX:Hid (∀(W2:aw) (x:PV) (mv:Value) (l2:ap),Below N W' W2->x∈l->gP k W' Z mv x.2.2->fH W2 N b (eE b) l2->l2.length+(bv x).length<=2^47->U8 vf (gh x mv::eE b::vcap).toArray W2 (i9 N b l2 (bv x) W2)):=λW2 x mv l2 h2 hx hm hw Vs=>
  H W2 Z x mv k b l2 (B.J h2) (hm.under h2 hZ) hZ (hO.2 x hx).2.2.2 (hO.2 x hx).1 (hO.2 x hx).2.1 (hp x hx) hw Vs
 generalize fD nu kd=tg at*;clear VC hl hp H hO hn hkd;go_enter func294,ntmps294;go_wp2;go_loopw [7,10] (λ_ jv wr=>∃j:Nat,jv=aa j/\j<=l.length/\fH wr N b (eE b) (l0++(l.take j).flatMap bd)/\Wr N W' wr) (λ_ jv _=>l.length-(intOf jv).toNat)
 case atStart=>exact⟨0,rfl,aP _,by grind,Wr.refl _ _⟩
 case round=>
  obtain⟨j,rfl,hj,Vu,Wj⟩:=hrel;have hsz:=Wj.bel.size;by_cases hlt:j<l.length
  .have⟨x,hx⟩:=gx hlt;have⟨mv,p1,p2,p3,p4,p5⟩:=VB.get hx;obtain⟨ma,mc,rfl⟩:=p1.form;obtain⟨gv,rfl,Vt,VQ,Vp⟩:=VA.at Vc;have Vr:=Wj.bel.block _ (hZ _ Vt);have t0:=Vp wr Vr _ _ p2;have t1:=lI (Vp wr Vr _ _ p3);have t2:=lI (Vp wr Vr _ _ p4);have t3:=lI (Vp wr Vr _ _ p5);have VJ:(j:Int)<(l.length:Int):=Vc;have⟨B1,K1⟩:=d8 wr (U4 x ma mc) 55;have W2:=Wj.J (Wr.of B1 Vc);have VK:=Vu.on B1;have hA:=HA.o (j+1);rw[gd hx,HB.o]at hA;have HL:Hid (l0++(l.take (j+1)).flatMap bd=l0++(l.take j).flatMap bd++tg++bv x):=(by show l0++(l.take (j+1)).flatMap bd=_;rw[gd hx,HB.o];grind);have VE:(l0++(l.take j).flatMap bd).length+tg.length+(bv x).length<=2^47:=(by grind);have Vz:=aL hx;have VD:=W2.bel.size;have VL:=HE.o _ _ VK Vc Vc;have T2:=W2.fr _ _ _ Vf Vf Vx;generalize l0++(l.take j).flatMap bd=lj at*;have⟨k1,k2⟩:=T2.I;clear Vp p2 p3 p4 p5 hx hA Vr;go_wp2_with fail;generalize wr.alloc (Obj.cells (U4 x ma mc) 55)=w2 at*;refine VL.V ?_;rintro e w3 ⟨rfl,q1,q2⟩;have W3:=W2.J q2;have K3:=q2.fr _ _ _ Vf Vf K1;have V3:=W3.fr _ _ _ Vf Vf Vy;have Vv:=HX.o w3 x _ _ W3.bel Vz p1 q1 (by grind);unfold gh at Vv;clear k1 k2;have⟨k1,k2⟩:=K3.I;have⟨k3,k4⟩:=V3.I;go_wp2_with fail;refine Vv.V ?_;rintro e w4 ⟨rfl,r1,r2⟩;go_wp2;go_roundw
   case rel=>exact⟨j+1,by go_num,Vc,by rw[HL.o];exact r1,W3.J r2⟩
   case measure=>simp[intOf];omega
  .obtain rfl:j=l.length:=Vc;rw[bB]at Vu;go_wp2;go_end0;exact⟨rfl,Vu,Wj⟩
def Mc (tb ab af vb vf:Nat)(acap vcap:ay)(nu kd:Int)(hN:N<=W.heap.size)(ht:dX W tb #[aa nu,aa kd] 237)(ha0:dX W ab #[.func (.func af) #[] acap.toArray] 262)(hv0:dX W vb #[.func (.func vf) #[] vcap.toArray] 404)(hi:tb<N)(hi2:ab<N)(hj:vb<N)(hn:0<=nu/\nu<=536870911)(hkd:0<=kd/\kd<8)
  (hen:∀args w,(callFunc vf args).run prog w= .ok (.enter vf args) w) (hea:∀args w,(callFunc af args).run prog w= .ok (.enter af args) w) (H:O1 bv p N vf vcap W) (HA0:OV (λl=>l.flatMap bv) p N af acap W):
  Tj (λl=>fD nu kd++fF (l.flatMap bv)) p N 370 [ah tb,ah ab,ah vb] W:=by
 intro W' Z vv l k b l0 B hv hZ hO hp hW hl;show U8 370 #[vv,eE b,ah tb,ah ab,ah vb] W' (i9 N b l0 (fD nu kd++fF (l.flatMap bv)) W');change l0.length+(fD nu kd++fF (l.flatMap bv)).length<=_ at hl;obtain⟨a,c,rfl⟩:=hv.form;have Vq:=aM hN B.size;have Vx:=ht.G B hi;have VM:=ha0.G B hi2;have Vy:=hv0.G B hj;have VI:=hO.1;unfold fF at hl⊢;simp only[aN]at hl;have HA:Hid (∀j,((l.take j).flatMap bv).length<=(l.flatMap bv).length):=λj=>iW (g:=bv) (l:=l) j
 have HE:=LZ nu kd hn.1 hn.2 hkd.1 hkd.2 hW Vc Vq
 have HM:Hid (∀W2,Below N W' W2->U8 af (.slice a l.length c::acap).toArray W2 (ij (l.flatMap bv) W2)):=λW2 h2=>
  HA0 W2 Z _ l k (B.J h2) (hv.under h2 hZ) hO hp (show(l.flatMap bv).length<=_ by omega)
 have HX:Hid (∀(W2:aw) (x:PV) (mv:Value) (l2:ap),Below N W' W2->x∈l->gP k W' Z mv x.2.2->fH W2 N b (eE b) l2->l2.length+(bv x).length<=2^47->U8 vf (gh x mv::eE b::vcap).toArray W2 (i9 N b l2 (bv x) W2)):=λW2 x mv l2 h2 hx hm hw Vs=>
  H W2 Z x mv k b l2 (B.J h2) (hm.under h2 hZ) hZ (hO.2 x hx).2.2.2 (hO.2 x hx).1 (hO.2 x hx).2.1 (hp x hx) hw Vs
 obtain⟨VP,VA,VB⟩:=hv;obtain⟨y,HY⟩:∃y,Hid (l.flatMap bv=y):=⟨_,rfl⟩;rw[HY.o]at hl HA HM⊢;generalize fD nu kd=tg at*;clear hp H HA0 hO hn hkd;have⟨k1,k2⟩:=Vx.I;go_enter func370,ntmps370;go_wp2_with fail;refine HE.V ?_;rintro e w1 ⟨rfl,q1,W1⟩;have A1:=W1.fr _ _ _ Vf Vf VM;clear k1 k2;have⟨k1,k2⟩:=A1.I;go_wp2_with fail;refine(HM.o w1 W1.bel).V ?_;rintro e w2 ⟨rfl,b2⟩;have hs1:=W1.bel.size;have VD:=b2.size;go_wp2_with fail;refine(qA y.length (q1.on b2) Vc (by grind) Vc).V ?_;rintro e w3 ⟨rfl,r1,r2⟩;have W3:=(W1.J (Wr.of b2 Vc)).J r2;have hlen:(l0++tg++vi (y.length)).length+y.length<=2^47:=(by grind);have HF:Hid (l0++(tg++(vi (y.length)++y))=l0++tg++vi (y.length)++y):=(by show l0++(tg++(vi (y.length)++y))=_;grind);generalize l0++tg++vi (y.length)=lh at*;clear k1 k2 A1 q1 r2 W1 HE b2;go_wp2;go_loopw [8,19] (λ_ jv wr=>∃j:Nat,jv=aa j/\j<=l.length/\fH wr N b (eE b) (lh++(l.take j).flatMap bv)/\Wr N W' wr) (λ_ jv _=>l.length-(intOf jv).toNat)
 case atStart=>grind
 case round=>
  obtain⟨j,rfl,hj,Vu,Wj⟩:=hrel;have hsz:=Wj.bel.size;by_cases hlt:j<l.length
  .have⟨x,hx⟩:=gx hlt;have⟨mv,p1,p2,p3,p4,p5⟩:=VB.get hx;obtain⟨ma,mc,rfl⟩:=p1.form;obtain⟨gv,rfl,Vt,VQ,Vp⟩:=VA.at Vc;have Vr:=Wj.bel.block _ (hZ _ Vt);have t0:=Vp wr Vr _ _ p2;have t1:=lI (Vp wr Vr _ _ p3);have t2:=lI (Vp wr Vr _ _ p4);have t3:=lI (Vp wr Vr _ _ p5);have VJ:(j:Int)<(l.length:Int):=Vc;have⟨B1,K1⟩:=d8 wr (U4 x ma mc) 55;have W2:=Wj.J (Wr.of B1 Vc);have hA:=HA.o (j+1);rw[gd hx,aN]at hA;have HL:Hid (lh++(l.take (j+1)).flatMap bv=lh++(l.take j).flatMap bv++bv x):=(by show lh++(l.take (j+1)).flatMap bv=_;rw[gd hx,bj]);have VE:(lh++(l.take j).flatMap bv).length+(bv x).length<=2^47:=(by grind);have Vv:=HX.o _ x _ _ W2.bel (aL hx) p1 (Vu.on B1) VE;unfold gh at Vv;have V2:=W2.fr _ _ _ Vf Vf Vy;generalize lh++(l.take j).flatMap bv=lj at*;have⟨k1,k2⟩:=K1.I;have⟨k3,k4⟩:=V2.I;clear Vp p2 p3 p4 p5 hx hA Vr;go_wp2_with fail;refine Vv.V ?_;rintro e w4 ⟨rfl,s1,s2⟩;go_wp2;go_roundw
   case rel=>exact⟨j+1,by go_num,Vc,by rw[HL.o];exact s1,W2.J s2⟩
   case measure=>simp[intOf];omega
  .obtain rfl:j=l.length:=Vc;rw[bB,HY.o]at Vu;go_wp2;go_end0;exact⟨rfl,by rw[HF.o];omega,Wj⟩
end
def vH (w:aw)(Q:ax)(b:Nat)(iq:aC)(v:Value):Prop:=
 ∃f cap,L6 v f cap/\∀(S:eD) (fl:fo) (n N:Nat) (W:aw),Kp Q w W->(∀b,Q b->b<w.heap.size->b<N)->N<=W.heap.size->fB S fl=b->(fB S fl=16->∃t,fy S fl=some t/\Gg S iq n t N W/\Q0 S iq n t N W)->O1 (gm S (eG S n) fl) (eC S (dZ S n) fl) N f cap W
def Eu (w:aw)(Q:ax)(mp:an)(g:GF)(iq:aC)(v:Value):Prop:=
 ∃f cap,L6 v f cap/\∀(S:eD) (d:MT) (fl:fo) (n N:Nat) (W:aw),Kp Q w W->(∀b,Q b->b<w.heap.size->b<N)->N<=W.heap.size->FG S mp d fl g->(0<=fl.num/\fl.num<=536870911)->(fB S fl=16->∃t,fy S fl=some t/\Gg S iq n t N W/\Q0 S iq n t N W)->Tj (kL S (eG S n) fl) (eC S (dZ S n) fl) N f cap W
section
variable {w w':aw} {Q Q':ax} {mp:an} {g:GF} {iq:aC} {v:Value} (hk:Mv w Q w' Q')
include hk
def vH.mV {b:Nat}(h:vH w Q b iq v):vH w' Q' b iq v:=by
 obtain⟨f,cap,h1,h2⟩:=h;exact⟨f,cap,h1,λS fl n N W q hN=>h2 S fl n N W (q.mv hk) λb x l=>hN b (hk b x l).1 (hk.lt x l)⟩
def Eu.mV (h:Eu w Q mp g iq v):Eu w' Q' mp g iq v:=by
 obtain⟨f,cap,h1,h2⟩:=h;exact⟨f,cap,h1,λS d fl n N W q hN=>h2 S d fl n N W (q.mv hk) λb x l=>hN b (hk b x l).1 (hk.lt x l)⟩
end
end
end Go.Proofs.YtfebdimolnobaaaGreatDoor
