import Derived.Test.YtfebdimolnobaaaGreatDoorEpA
set_option maxRecDepth 100000
set_option maxHeartbeats 8000000
set_option linter.all false
namespace Go.Proofs.YtfebdimolnobaaaGreatDoor
open Go.RowKit
section
attribute [local go_sem↓] Go.wp_at_zero Go.wp_at_succ
def Ja (c:PV->List UInt8)(p:PV->Bool)(N f:Nat)(cap:aq)(W:an):Prop:=
 ∀(W':an) (Z:ap) (x:PV) (mv:Value) (k:Nat),Below N W W'->fR k W' Z mv x.2.2->kT k x.2.2->0<=x.1->x.1<18446744073709551616->p x=true->(c x).length<=140737488355328->
  Calls Tryz.prog f (ew x mv::cap).toArray W' (fE (c x) W')
def IA (c:List PV->List UInt8)(p:PV->Bool)(N f:Nat)(cap:aq)(W:an):Prop:=
 ∀(W':an) (Z:ap) (vv:Value) (l:List PV) (k:Nat),Below N W W'->mB (fR k W' Z) W' Z vv l->I9 k l->(∀x∈l,p x=true)->(c l).length<=140737488355328->
  Calls Tryz.prog f (vv::cap).toArray W' (fE (c l) W')
def Bq (S:dG)(iq:aw)(n:Nat)(t:MT)(N:Nat)(W:an):Prop:=
 ∀(W':an) (Z:ap) (v:Value) (m:PM) (k:Nat),Below N W W'->fR k W' Z v m->kT k m->dm S n t m=true->(dD S n t m).length<=140737488355328->
  Calls Tryz.prog 104 #[.pointer iq,.agg #[v,ae m.unk]] W' (fE (dD S n t m) W')
theorem tX {N:Nat}{a b c:an}(h:Below N a b)(k:Below b.heap.size b c)(hN:N<=a.heap.size):Below N a c:=h.trans (dj k (aG hN h.size))
section
variable {S:dG} {fl:ek} {n N:Nat} {W:an}
theorem CG {R:MT->PM->List UInt8}{x:PV}{t:MT}(h:fB S fl=16)(hs:ed S fl=some t):eV S R fl x=fm (R t x.2.2):=by unfold eV;rw[if_pos h,hs]
theorem MM (ib:Nat)(iq:aw)(t:MT)(hN:N<=W.heap.size)(hb:de W ib #[.pointer iq] 116)(hi:ib<N)(H:Bq S iq n t N W)(h16:fB S fl=16)(hsub:ed S fl=some t):
  Ja (eV S (dD S n) fl) (dZ S (dm S n) fl) N 412 [ag ib] W:=by
 intro W' Z x mv k B hm hO h0 h1 hp hl;show Calls Tryz.prog 412 #[ew x mv,ag ib] W' _;rw[CG h16 hsub]at hl⊢;have hR:=tV hp h16 hsub;have N8:=aG (oo _) hl;obtain⟨ma,mc,rfl⟩:=hm.form;obtain⟨B1,K1⟩:=di W' #[.int .u64 x.1,ae x.2.1,.slice ma x.2.2.fs.length mc,ae x.2.2.unk] 55;have B2:=tX B B1 hN;have Ob:=hb.below B2 hi;have HC:=H _ Z _ x.2.2 k B2 (hm.below B1 (ay _)) hO hR N8;have HL:=fun W=>qR W (dD S n t x.2.2) N8
 unfold fE ew;generalize dD S n t x.2.2=y at*;obtain⟨k1,k2⟩:=K1.rules;obtain⟨k3,k4⟩:=Ob.rules;go_enter Tryz.func412,Tryz.ntmps412
 go_wp2_with fail
 refine HC.mono ?_;rintro e w2 ⟨rfl,b2⟩;go_wp2_with fail
 refine(HL w2).mono ?_;rintro e w3 ⟨rfl,rfl⟩;go_wp2;go_ret;exact⟨rfl,cY B1 b2⟩
theorem MN (hk:fB S fl=13\/fB S fl=14):Ja (eV S (dD S n) fl) (dZ S (dm S n) fl) N 413 [] W:=by
 intro W' Z x mv k B hm hO h0 h1 hp hl;show Calls Tryz.prog 413 #[ew x mv] W' _;have hb:eV S (dD S n) fl x=fm x.2.1.data.toList:=by unfold eV;rw[if_neg (by omega),if_pos hk]
 rw[hb]at hl⊢;have N8:=aG (oo _) hl;obtain⟨ma,mc,rfl⟩:=hm.form;obtain⟨B1,K1⟩:=di W' #[.int .u64 x.1,ae x.2.1,.slice ma x.2.2.fs.length mc,ae x.2.2.unk] 55;have HL:=fun W=>qR W x.2.1.data.toList N8
 rw[show x.2.1.data.toList.length=x.2.1.size by simp]at HL;unfold fE ew;obtain⟨k1,k2⟩:=K1.rules;go_enter Tryz.func413,Tryz.ntmps413
 go_wp2_with fail
 refine(HL _).mono ?_;rintro e w3 ⟨rfl,rfl⟩;go_wp2;go_ret;exact⟨rfl,B1⟩
theorem MO (hk:fB S fl=4\/fB S fl=5):Ja (eV S (dD S n) fl) (dZ S (dm S n) fl) N 414 [] W:=by
 intro W' Z x mv k B hm hO h0 h1 hp hl;show Calls Tryz.prog 414 #[ew x mv] W' _;have hb:eV S (dD S n) fl x=vi (FY x.1):=by unfold eV;rw[if_neg (by omega),if_neg (by omega),if_neg (by omega),if_neg (by omega),if_pos hk]
 rw[hb];obtain⟨Of,Og⟩:=sE h0 h1;obtain⟨ma,mc,rfl⟩:=hm.form;obtain⟨B1,K1⟩:=di W' #[.int .u64 x.1,ae x.2.1,.slice ma x.2.2.fs.length mc,ae x.2.2.unk] 55;have HZ:=fun W=>qe W x.1 h0 h1
 have HY:=fun W=>lW W (FY x.1) Of Og
 unfold fE ew;obtain⟨k1,k2⟩:=K1.rules;go_enter Tryz.func414,Tryz.ntmps414
 go_wp2_with fail
 refine(HZ _).mono ?_;rintro e w2 ⟨rfl,rfl⟩;go_wp2_with fail
 refine(HY _).mono ?_;rintro e w3 ⟨rfl,rfl⟩;go_wp2;go_ret;exact⟨rfl,B1⟩
theorem MP (hk:fB S fl=7\/fB S fl=9\/fB S fl=11):Ja (eV S (dD S n) fl) (dZ S (dm S n) fl) N 415 [] W:=by
 intro W' Z x mv k B hm hO h0 h1 hp hl;show Calls Tryz.prog 415 #[ew x mv] W' _;have hb:eV S (dD S n) fl x=zO 4 x.1:=by unfold eV;rw[if_neg (by omega),if_neg (by omega),if_pos hk]
 obtain⟨ma,mc,rfl⟩:=hm.form;have B1:=(di W' #[.int .u64 x.1,ae x.2.1,.slice ma x.2.2.fs.length mc,ae x.2.2.unk] 55).1;unfold fE ew;rw[hb,jY];go_enter Tryz.func415,Tryz.ntmps415
 go_wp2;go_ret;exact⟨rfl,B1⟩
theorem MQ (hk:fB S fl=8\/fB S fl=10\/fB S fl=12):Ja (eV S (dD S n) fl) (dZ S (dm S n) fl) N 416 [] W:=by
 intro W' Z x mv k B hm hO h0 h1 hp hl;show Calls Tryz.prog 416 #[ew x mv] W' _;have hb:eV S (dD S n) fl x=zO 8 x.1:=by unfold eV;rw[if_neg (by omega),if_neg (by omega),if_neg (by omega),if_pos hk]
 obtain⟨ma,mc,rfl⟩:=hm.form;have B1:=(di W' #[.int .u64 x.1,ae x.2.1,.slice ma x.2.2.fs.length mc,ae x.2.2.unk] 55).1;unfold fE ew;rw[hb,jY];go_enter Tryz.func416,Tryz.ntmps416
 go_wp2;go_ret;exact⟨rfl,B1⟩
theorem MR (hk:fB S fl<4\/fB S fl=6\/fB S fl=15):Ja (eV S (dD S n) fl) (dZ S (dm S n) fl) N 417 [] W:=by
 intro W' Z x mv k B hm hO h0 h1 hp hl;show Calls Tryz.prog 417 #[ew x mv] W' _;have hb:eV S (dD S n) fl x=vi x.1:=by unfold eV;rw[if_neg (by omega),if_neg (by omega),if_neg (by omega),if_neg (by omega),if_neg (by omega)]
 rw[hb];obtain⟨ma,mc,rfl⟩:=hm.form;obtain⟨B1,K1⟩:=di W' #[.int .u64 x.1,ae x.2.1,.slice ma x.2.2.fs.length mc,ae x.2.2.unk] 55;have HY:=fun W=>lW W x.1 h0 h1
 unfold fE ew;obtain⟨k1,k2⟩:=K1.rules;go_enter Tryz.func417,Tryz.ntmps417
 go_wp2_with fail
 refine(HY _).mono ?_;rintro e w3 ⟨rfl,rfl⟩;go_wp2;go_ret;exact⟨rfl,B1⟩
end
section
variable {bv:PV->List UInt8} {p:PV->Bool} {N:Nat} {W:an}
theorem LW (vb vf:Nat)(vcap:aq)(hN:N<=W.heap.size)(hb:de W vb #[.func (.func vf) #[] vcap.toArray] 447)(hi:vb<N)(hen:∀args w,(callFunc vf args).run Tryz.prog w= .ok (.enter vf args) w)(H:Ja bv p N vf vcap W):
  IA (fun l=>l.flatMap bv) p N 369 [ag vb] W:=by
 intro W' Z vv l k B hv hO hp hl;show Calls Tryz.prog 369 #[vv,ag vb] W' (fE (l.flatMap bv) W');obtain⟨a,c,rfl⟩:=hv.form;obtain⟨vcs,Oh,Oi⟩:=hv;have Ob:=hb.below B hi;have hll:=hO.1
 have HC:Hid (∀(W2:an) (x:PV) (mv:Value),Below W'.heap.size W' W2->x∈l->fR k W' Z mv x.2.2->Calls Tryz.prog vf (ew x mv::vcap).toArray W2 (fE (bv x) W2)):=fun W2 x mv h2 hx hm=>
  H W2 Z x mv k (tX B h2 hN) (hm.below h2 (ay _)) (hO.2 x hx).2.2.2 (hO.2 x hx).1 (hO.2 x hx).2.1 (hp x hx) (aG (sD hx) hl)
 have HT:Hid (∀i,((l.take i).flatMap bv).length<=140737488355328):=fun i=>aG (gk i) hl
 clear hl hp hO H;go_enter Tryz.func369,Tryz.ntmps369
 go_wp2;go_loopw [4,6,9] (fun sv _ jv wr=>∃j:Nat,jv=aa j/\j<=l.length/\sv=aa ((l.take j).flatMap bv).length/\Below W'.heap.size W' wr) (fun _ _ jv _=>l.length-(intOf jv).toNat)
 case atStart=>exact⟨0,rfl,aM _,rfl,Below.refl _ _⟩
 case round=>
  obtain⟨j,rfl,hj,rfl,BW⟩:=hrel
  by_cases hlt:j<l.length
  ·obtain⟨x,hx⟩:=gx hlt;obtain⟨mv,p1,p2,p3,p4,p5⟩:=Oi.get hx;obtain⟨ma,mc,rfl⟩:=p1.form;obtain⟨gv,rfl,hzgv,Oc,N2⟩:=Oh.at (by omega);have t0:=N2 wr (BW.block _ Oc) _ _ p2;have t1:=jI (N2 wr (BW.block _ Oc) _ _ p3);have t2:=jI (N2 wr (BW.block _ Oc) _ _ p4);have t3:=jI (N2 wr (BW.block _ Oc) _ _ p5);have hlj:(j:Int)<(l.length:Int):=by omega
   obtain⟨B1,K1⟩:=di wr #[.int .u64 x.1,ae x.2.1,.slice ma x.2.2.fs.length mc,ae x.2.2.unk] 55;have B2:=cY BW B1;have HX:=HC.out _ x _ B2 (aI hx) p1;unfold ew at HX;have KT:=Ob.below B2 Ob.lt;have hT:=HT.out (j+1);rw[eu hx,aH]at hT
   have HS:Hid (((l.take (j+1)).flatMap bv).length=((l.take j).flatMap bv).length+(bv x).length):=by
    show((l.take (j+1)).flatMap bv).length=_;rw[eu hx,aH]
   generalize((l.take j).flatMap bv).length=sz at*;obtain⟨k1,k2⟩:=KT.rules;obtain⟨k3,k4⟩:=K1.rules;clear N2 p2 p3 p4 p5 hx;go_wp2_with fail
   refine HX.mono ?_;rintro e w3 ⟨rfl,b3⟩;generalize(bv x).length=yz at*;have Oa:(sz:Int)+(yz:Int)<=140737488355328:=by omega
   go_wp2;go_roundw
   case rel=>exact⟨j+1,by go_num,by omega,by rw[HS.out];go_num,cY B2 b3⟩
   case measure=>simp[intOf];omega
  ·obtain rfl:j=l.length:=by omega
   rw[aY];go_wp2;go_ret;exact⟨rfl,BW⟩
theorem Ga {c:List PV->List UInt8}(tb ab af:Nat)(acap:aq)(tg:List UInt8)(ht:de W tb #[aa tg.length] 3)(ha:de W ab #[.func (.func af) #[] acap.toArray] 262)(hi:tb<N)(hj:ab<N)(hen:∀args w,(callFunc af args).run Tryz.prog w= .ok (.enter af args) w)(H:IA c p N af acap W):
  IA (fun l=>tg++fm (c l)) p N 290 [ag tb,ag ab] W:=by
 intro W' Z vv l k B hv hO hp hl;show Calls Tryz.prog 290 #[vv,ag tb,ag ab] W' (fE (tg++fm (c l)) W')
 have Oe:tg.length+(fm (c l)).length<=140737488355328:=by
  have:=hl;simp only[aH]at this;exact this
 have N8:=oo (c l);obtain⟨va,vc,rfl⟩:=hv.form;have b0:Below W'.heap.size W' W'.drew:=(Below.refl _ _).drew;have N3:=ht.below B hi;have N7:=ha.below B hj;have HX:=H W'.drew Z _ l k B.drew (mB.below b0 (ay _) hv) hO hp (by omega);have HL:=fun W=>qR W (c l) (by omega)
 unfold fE;rw[aH];have Oa:IntKind.i64.wrap ((tg.length:Int)+((fm (c l)).length:Int))=(tg.length:Int)+((fm (c l)).length:Int):=tW (by omega) (by omega);have hW:W'.drew.cell? (ai tb 0)=some (aa tg.length)/\W'.drew.cell? (ai ab 0)=some (.func (.func af) #[] acap.toArray):=⟨N3.drew.cell 0,N7.drew.cell 0⟩;generalize tg.length=tl at*;generalize fm (c l)=y at*;go_enter Tryz.func290,Tryz.ntmps290
 go_upto_region 1 with fail
 go_region_held2 (fun W=>W.cell? (ai tb 0)=some (aa tl)/\W.cell? (ai ab 0)=some (.func (.func af) #[] acap.toArray))
  (first|exact Od|exact hW)
  (first
   |(
     go_at_call 243
     refine(HL _).mono ?_
     rintro e w4 ⟨rfl,rfl⟩)
   |(
     refine HX.mono ?_;rintro e w3 ⟨rfl,b3⟩
     have Od:w3.cell? (ai tb 0)=some (aa tl)/\w3.cell? (ai ab 0)=some (.func (.func af) #[] acap.toArray):=⟨(N3.drew.below b3 N3.drew.lt).cell 0,(N7.drew.below b3 N7.drew.lt).cell 0⟩))
 all_goals
  go_wp2;go_ret;exact⟨by rw[Int.natCast_add];rfl,cY b0 b3⟩
theorem IB (tb ab af:Nat)(acap:aq)(tg:List UInt8)(ht:de W tb #[aa tg.length] 3)(ha:de W ab #[.func (.func af) #[] acap.toArray] 262)(hi:tb<N)(hj:ab<N)(hen:∀args w,(callFunc af args).run Tryz.prog w= .ok (.enter af args) w)(H:IA (fun l=>l.flatMap bv) p N af acap W):
  IA (fun l=>l.flatMap fun v=>tg++bv v) p N 291 [ag tb,ag ab] W:=by
 intro W' Z vv l k B hv hO hp hl;show Calls Tryz.prog 291 #[vv,ag tb,ag ab] W' (fE (l.flatMap fun v=>tg++bv v) W')
 have Oe:tg.length*l.length+(l.flatMap bv).length<=140737488355328:=by
  have:=hl;simp only at this
  rwa [qg]at this
 obtain⟨va,vc,rfl⟩:=hv.form;have b0:Below W'.heap.size W' W'.drew:=(Below.refl _ _).drew;have N3:=ht.below B hi;have N7:=ha.below B hj;have HX:=H W'.drew Z _ l k B.drew (mB.below b0 (ay _) hv) hO hp (show(l.flatMap bv).length<=_ by omega);unfold fE;rw[qg];have hmul:(tg.length:Int)*(l.length:Int)=((tg.length*l.length:Nat):Int):=by rw[Int.natCast_mul]
 have hW:W'.drew.cell? (ai tb 0)=some (aa tg.length)/\W'.drew.cell? (ai ab 0)=some (.func (.func af) #[] acap.toArray):=⟨N3.drew.cell 0,N7.drew.cell 0⟩;generalize tg.length*l.length=pl at*;generalize tg.length=tl at*;change Calls Tryz.prog af _ _ (fE (l.flatMap bv) W'.drew)at HX;generalize l.flatMap bv=y at*;have hw1:IntKind.i64.wrap (pl:Int)=pl:=tW (by omega) (by omega);have Oa:IntKind.i64.wrap ((pl:Int)+(y.length:Int))=(pl:Int)+(y.length:Int):=tW (by omega) (by omega);go_enter Tryz.func291,Tryz.ntmps291
 go_upto_region 1 with fail
 go_region_held2 (fun W=>W.cell? (ai tb 0)=some (aa tl)/\W.cell? (ai ab 0)=some (.func (.func af) #[] acap.toArray))
  (first|exact Od|exact hW)
  (first
   |(
     refine HX.mono ?_;rintro e w3 ⟨rfl,b3⟩
     have Od:w3.cell? (ai tb 0)=some (aa tl)/\w3.cell? (ai ab 0)=some (.func (.func af) #[] acap.toArray):=⟨(N3.drew.below b3 N3.drew.lt).cell 0,(N7.drew.below b3 N7.drew.lt).cell 0⟩))
 all_goals
  go_wp2;go_ret;exact⟨by rw[Int.natCast_add];rfl,cY b0 b3⟩
end
def LX (w:an)(Q:ap)(b:Nat)(iq:aw)(v:Value):Prop:=
 ∃f cap,F7 v f cap/\∀(S:dG) (fl:ek) (n N:Nat) (W:an),Kp Q w W->(∀b,Q b->b<w.heap.size->b<N)->N<=W.heap.size->fB S fl=b->(fB S fl=16->∃t,ed S fl=some t/\Bq S iq n t N W)->Ja (eV S (dD S n) fl) (dZ S (dm S n) fl) N f cap W
def rG (w:an)(Q:ap)(b:Nat)(iq:aw)(v:Value):Prop:=
 ∃f cap,F7 v f cap/\∀(S:dG) (fl:ek) (n N:Nat) (W:an),Kp Q w W->(∀b,Q b->b<w.heap.size->b<N)->N<=W.heap.size->fB S fl=b->(fB S fl=16->∃t,ed S fl=some t/\Bq S iq n t N W)->IA (ly S (dD S n) fl) (dZ S (dm S n) fl) N f cap W
def Br (w:an)(Q:ap)(mp:am->Option Nat)(g:GF)(iq:aw)(v:Value):Prop:=
 ∃f cap,F7 v f cap/\∀(S:dG) (d:MT) (fl:ek) (n N:Nat) (W:an),Kp Q w W->(∀b,Q b->b<w.heap.size->b<N)->N<=W.heap.size->FG S mp d fl g->(0<=fl.num/\fl.num<=536870911)->(fB S fl=16->∃t,ed S fl=some t/\Bq S iq n t N W)->IA (iW S (dD S n) fl) (dZ S (dm S n) fl) N f cap W
section
variable {w w':an} {Q Q':ap} {mp:am->Option Nat} {g:GF} {iq:aw} {v:Value} (hk:Mv w Q w' Q')
include hk
theorem rG.move {b:Nat}(h:rG w Q b iq v):rG w' Q' b iq v:=by
 obtain⟨f,cap,h1,h2⟩:=h;exact⟨f,cap,h1,fun S fl n N W q hN=>h2 S fl n N W (q.mv hk) fun b x l=>hN b (hk b x l).1 (hk.lt x l)⟩
theorem Br.move (h:Br w Q mp g iq v):Br w' Q' mp g iq v:=by
 obtain⟨f,cap,h1,h2⟩:=h;exact⟨f,cap,h1,fun S d fl n N W q hN=>h2 S d fl n N W (q.mv hk) fun b x l=>hN b (hk b x l).1 (hk.lt x l)⟩
end
theorem fR.under {w w':an}{Z:ap}{N k:Nat}{v:Value}{m:PM}(h:fR k w Z v m)(hb:Below N w w')(hZ:∀i,Z i->i<N):fR k w' Z v m:=h.keep fun b q _=>hb.block b (hZ b q)
theorem mB.under {w w':an}{Z:ap}{N k:Nat}{v:Value}{l:List PV}(h:mB (fR k w Z) w Z v l)(hb:Below N w w')(hZ:∀i,Z i->i<N):mB (fR k w' Z) w' Z v l:=
 h.keep (fun _ _ q=>q.under hb hZ) fun b q _=>hb.block b (hZ b q)
def JV (S:dG)(mp:am->Option Nat)(B n:Nat):Prop:=
 ∀(w:an) (Z:ap) (v:Value) (m:PM) (d:MT) (mb:Nat) (gs:List GF) (nm:am) (k N b:Nat) (l:List UInt8),p8 w B S mp->gD w (fun b=>b<B) mp mb nm gs->ja S mp d gs->GY d->fR k w Z v m->(∀i,Z i->i<N)->B<=N->N<=w.heap.size->kT k m->dm S n d m=true->d6 w N b (dx b) l->l.length+(dD S n d m).length<=140737488355328->
  Calls Tryz.prog 97 #[ag mb,.agg #[v,ae m.unk],dx b] w (gu N b l (dD S n d m) w)
theorem IC {S:dG}{mp:am->Option Nat}{B n:Nat}(H:JV S mp B n)(hN:z8 S)(w:an)(Z:ap)(mv:Value)(x:PV)(d:MT)(f:ek)(g:GF)(fb:Nat)(pv:Value)(k N b:Nat)(l:List UInt8)(cx:p8 w B S mp)(hf:dP w (fun b=>b<B) mp g fb)(fg:FG S mp d f g)(hM:fR k w Z mv x.2.2)(hZ:∀i,Z i->i<N)(hBN:B<=N)(hNw:N<=w.heap.size)(hO:kT k x.2.2)(h0:0<=x.1)(h1:x.1<18446744073709551616)
  (hpv:∃rv,de w fb #[aa g.f.num,aa g.form,aa (dC mp g),pv,rv] 220) (hs:dZ S (dm S n) f x=true) (hW:d6 w N b (dx b) l) (hl:l.length+(eV S (dD S n) f x).length<=140737488355328):
  Calls Tryz.prog 234 #[.agg #[aa (dC mp g),pv],ew x mv,dx b] w (gu N b l (eV S (dD S n) f x) w):=by
 obtain⟨ma,mc,rfl⟩:=hM.form;have Of:=F5 fg;unfold ew;rw[fg.gb]
 by_cases h16:fB S f=16
 ·obtain⟨t,mb,gs,nm,rv,N2,Ob,Oc,Od⟩:=Bp cx hf fg h16;obtain⟨rv2,Oe⟩:=hpv
  obtain rfl:pv=ag mb:=by
   have:=(de.cell Ob 3).symm.trans (de.cell Oe 3);simpa using this.symm
  have hb:eV S (dD S n) f x=fm (dD S n t x.2.2):=by unfold eV;rw[if_pos h16,N2]
  have hR:=tV hs h16 N2;rw[hb]at hl;unfold fm at hl;rw[aH]at hl;rw[hb,h16];obtain⟨B0,KT,KV⟩:=eD w #[aa 16,ag mb] #[.int .u64 x.1,ae x.2.1,.slice ma x.2.2.fs.length mc,ae x.2.2.unk] 216 55;have HC:=qU hN n _ Z _ x.2.2 t mb gs nm k (cx.on (dj B0 cx.le)) (Oc.keep fun b q _=>B0.block b (by have:=cx.le;omega)) Od (qT hN N2) (hM.below B0 (ay _)) hO hR (by omega)
  have HW:Hid (∀(W:an) (l2:List UInt8),Below N w W->d6 W N b (dx b) l2->l2.length+(dD S n t x.2.2).length<=140737488355328->Calls Tryz.prog 97 #[ag mb,.agg #[.slice ma x.2.2.fs.length mc,ae x.2.2.unk],dx b] W (gu N b l2 (dD S n t x.2.2) W)):=fun W l2 N8 hw Oi=>
   H W Z _ x.2.2 t mb gs nm k N b l2 (cx.on (dj N8 hBN)) (Oc.keep fun b q _=>N8.block b (by omega)) Od (qT hN N2) (hM.under N8 hZ) hZ hBN (by have:=N8.size;omega) hO hR hw Oi
  have N3:=hW.on B0;generalize dD S n t x.2.2=y at*;obtain⟨k1,k2⟩:=KT.rules;obtain⟨k3,k4⟩:=KV.rules;clear Ob Oe H hb hR;go_enter Tryz.func234,Tryz.ntmps234
  go_wp2_with fail
  generalize(w.alloc (ak #[aa 16,ag mb] 216)).alloc (ak #[.int .u64 x.1,ae x.2.1,.slice ma x.2.2.fs.length mc,ae x.2.2.unk] 55)=w1 at*;refine HC.mono ?_;rintro e w2 ⟨rfl,b2⟩;have B2:=cY B0 b2;have hs2:=B2.size;go_wp2_with fail
  refine(nI y.length (N3.on b2) (by omega) (by omega) (by omega)).mono ?_;rintro e w3 ⟨rfl,q1,q2⟩;have Og:=q2.fr _ _ _ (by decide) (by decide) (KT.below b2 KT.lt);have Oh:=q2.fr _ _ _ (by decide) (by decide) (KV.below b2 KV.lt);have Q:=(Wr.of B2 hNw).trans q2;clear k1 k2 k3 k4;obtain⟨k1,k2⟩:=Og.rules;obtain⟨k3,k4⟩:=Oh.rules;go_wp2_with fail
  refine(HW.out w3 _ Q.bel q1 (by rw[aH];omega)).mono ?_;rintro e w4 ⟨rfl,r1,r2⟩;go_wp2;go_end0;exact⟨rfl,by rw[aW]at r1;exact r1,Q.trans r2⟩
 ·obtain⟨Oj,Ok⟩:=sE h0 h1;obtain⟨B0,KT,KV⟩:=eD w #[aa (fB S f),pv] #[.int .u64 x.1,ae x.2.1,.slice ma x.2.2.fs.length mc,ae x.2.2.unk] 216 55;have N3:=hW.on B0;have Oa:=B0.size;have N7:=aG hNw Oa;have HZ:=fun W=>qe W x.1 h0 h1
  clear hs H hpv Oa
  rcases vZ Of with q|q|q|q|q|q|q|q|q|q|q|q|q|q|q|q|q
  case inr.inr.inr.inr.inr.inr.inr.inr.inr.inr.inr.inr.inr.inr.inr.inr=>exact absurd q h16
  all_goals
   rw[q]at B0 KT KV N3 N7;obtain⟨k1,k2⟩:=KT.rules;obtain⟨k3,k4⟩:=KV.rules;clear h16;unfold eV at hl⊢;simp only[q,Nat.reduceEqDiff,if_false,if_true,or_self,or_true,or_false]at hl⊢;go_enter Tryz.func234,Tryz.ntmps234
   go_wp2_with (first|(go_at_call 318;refine(Cy _ N3 hl N7).mono ?_;rintro e w2 ⟨rfl,q1,q2⟩)|(go_at_call 319;refine(FW _ N3 h0 h1 hl N7).mono ?_;rintro e w2 ⟨rfl,q1,q2⟩)|(go_at_call 320;refine(Cx _ N3 h0 h1 hl N7).mono ?_;rintro e w2 ⟨rfl,q1,q2⟩)|(go_at_call 321;refine(HZ _).mono ?_;rintro e w2 ⟨rfl,rfl⟩)|(go_at_call 315;(first|refine(lV _ N3 h0 h1 hl N7).mono ?_|refine(lV _ N3 Oj Ok hl N7).mono ?_);rintro e w2 ⟨rfl,q1,q2⟩))
   go_end0;exact⟨rfl,q1,(Wr.of B0 hNw).trans q2⟩
def Mm (S:dG)(R:MT->PM->List UInt8)(f:ek)(l:List PV):List UInt8:=if iJ S f then gP f.num (mM S f)++vi (ly S R f l).length else []
def Mn (S:dG)(f:ek):List UInt8:=if iJ S f then []else gP f.num (mM S f)
theorem ID (S:dG)(R:MT->PM->List UInt8)(f:ek)(l:List PV):iW S R f l=Mm S R f l++l.flatMap fun v=>Mn S f++eV S R f v:=by
 unfold iW Mm Mn
 split
 ·simp only[aP];rw[fm,aW];rfl
 ·rfl
theorem IE {S:dG}{mp:am->Option Nat}{B n:Nat}(H:JV S mp B n)(hN:z8 S)(w:an)(Z:ap)(v:Value)(l:List PV)(d:MT)(f:ek)(g:GF)(fb k N b:Nat)(l0:List UInt8)(cx:p8 w B S mp)(hf:dP w (fun b=>b<B) mp g fb)(fg:FG S mp d f g)(hnm:0<=f.num/\f.num<=536870911)(hv:mB (fR k w Z) w Z v l)(hZ:∀i,Z i->i<N)(Oc:B<=N)(Of:N<=w.heap.size)(hO:I9 k l)
  (hs:∀x∈l,dZ S (dm S n) f x=true) (hW:d6 w N b (dx b) l0) (hl:l0.length+(iW S (dD S n) f l).length<=140737488355328):
  Calls Tryz.prog 152 #[ag fb,v,dx b] w (gu N b l0 (iW S (dD S n) f l) w):=by
 obtain⟨a,c,rfl⟩:=hv.form;obtain⟨pv,rv,h1,hfB,Oo,Oy⟩:=hf.blk;obtain⟨pq,rfl⟩:=eT Oy;have Ov:(ly S (dD S n) f l).length<=140737488355328:=by have:=CF S (dD S n) f l;omega
 have Oj:0<=mM S f/\mM S f<8:=by rw[<-fg.tk];exact qf mp g
 have hk:∀{W},Below N w W->dP W (fun b=>b<B) mp g fb:=fun hW=>hf.keep fun b q _=>hW.block b (by omega)
 have HT:Hid (∀W,Below N w W->Calls Tryz.prog 231 #[ag fb] W fun e w'=>e= .returned (.agg #[aa f.num,aa (mM S f)])/\Below W.heap.size W w'):=fun W hW=>by
  have:=tS W _ mp g fb (hk hW)
  rwa [fg.eq,fg.tk]at this
 have HE:Hid (∀(W:an) (l2:List UInt8),Below N w W->d6 W N b (dx b) l2->l2.length+(gP f.num (mM S f)).length<=140737488355328->Calls Tryz.prog 230 #[dx b,.agg #[aa f.num,aa (mM S f)]] W (gu N b l2 (gP f.num (mM S f)) W)):=fun W l2 N8 hw Oe=>
  F0 f.num (mM S f) hnm.1 hnm.2 Oj.1 Oj.2 hw Oe (by have:=N8.size;omega)
 have HP:Hid (∀W,Below N w W->Calls Tryz.prog 209 #[ag fb] W fun e w'=>e= .returned (.bool (iJ S f))/\Below W.heap.size W w'):=fun W hW=>by
  have:=jW W _ mp g fb (hk hW)
  rwa [fg.pk]at this
 have HV:Hid (∀W,Below N w W->Calls Tryz.prog 233 #[.agg #[aa (dC mp g),.pointer pq],.slice a l.length c] W (fE (ly S (dD S n) f l) W)):=fun W hW=>
  Aa (qU hN n) hN W Z _ l d f g fb (.pointer pq) k (cx.on (dj hW Oc)) (hk hW) fg (hv.under hW hZ) hO ⟨rv,(hW.block fb (by omega)).trans h1⟩ hs Ov
 have HX:Hid (∀(W:an) (x:PV) (mv:Value) (l2:List UInt8),Below N w W->x∈l->fR k w Z mv x.2.2->d6 W N b (dx b) l2->l2.length+(eV S (dD S n) f x).length<=140737488355328->Calls Tryz.prog 234 #[.agg #[aa (dC mp g),.pointer pq],ew x mv,dx b] W (gu N b l2 (eV S (dD S n) f x) W)):=fun W x mv l2 N8 hx hm hw Oe=>
  IC H hN W Z mv x d f g fb (.pointer pq) k N b l2 (cx.on (dj N8 Oc)) (hk N8) fg (hm.under N8 hZ) hZ Oc (by have:=N8.size;omega) (hO.2 x hx).2.2.2 (hO.2 x hx).1 (hO.2 x hx).2.1 ⟨rv,(N8.block fb (by omega)).trans h1⟩ (hs x hx) hw Oe
 obtain⟨vcs,Oz,OA⟩:=hv;have hll:=hO.1;rw[ID]at hl⊢;have HD:Hid (Mm S (dD S n) f l=if iJ S f then gP f.num (mM S f)++vi (ly S (dD S n) f l).length else []):=rfl;have HG:Hid (Mn S f=if iJ S f then []else gP f.num (mM S f)):=rfl;generalize Mm S (dD S n) f l=hd at*;generalize Mn S f=tg at*;generalize ly S (dD S n) f l=y at*;generalize eV S (dD S n) f=bv at*;generalize gP f.num (mM S f)=tb at*;generalize mM S f=tk at*;generalize iJ S f=pk at*;generalize dC mp g=gb at*;obtain⟨bd,Oq⟩:∃bd:PV->List UInt8,bd=fun x=>tg++bv x:=⟨_,rfl⟩
 have HB:Hid (∀x,bd x=tg++bv x):=fun x=>by rw[Oq]
 rw[<-Oq]at hl⊢;rw[aH]at hl
 have HA:Hid (∀j,l0.length+hd.length+((l.take j).flatMap bd).length<=140737488355328):=fun j=>by
  have:=gk (g:=bd) (l:=l) j;omega
 clear Oq Oy Oo hf Oj hs hO H cx hnm fg hk hl;have P1:=HP.out w (Below.refl _ _)
 cases pk with
 |false=>
  have Og:Hid (hd= []):=HD.out;obtain rfl:tg=tb:=HG.out;go_enter Tryz.func152,Tryz.ntmps152
  go_wp2_with fail
  refine P1.mono ?_;rintro e w1 ⟨rfl,b1⟩;have W1:=Wr.of b1 Of;have Ok:=hW.on b1;go_wp2;go_loopw [7,24] (fun _ jv wr=>∃j:Nat,jv=aa j/\j<=l.length/\d6 wr N b (dx b) (l0++(l.take j).flatMap bd)/\Wr N w wr) (fun _ jv _=>l.length-(intOf jv).toNat)
  case atStart=>exact⟨0,rfl,aM _,by simpa using Ok,W1⟩
  case round=>
   obtain⟨j,rfl,hj,N7,Wj⟩:=hrel;have hsz:=Wj.bel.size
   by_cases hlt:j<l.length
   ·obtain⟨x,hx⟩:=gx hlt;obtain⟨mv,p1,p2,p3,p4,p5⟩:=OA.get hx;obtain⟨ma,mc,rfl⟩:=p1.form;obtain⟨gv,rfl,Ob,OB,N2⟩:=Oz.at (by omega);have N3:=Wj.bel.block _ (hZ _ Ob);have t0:=N2 wr N3 _ _ p2;have t1:=jI (N2 wr N3 _ _ p3);have t2:=jI (N2 wr N3 _ _ p4);have t3:=jI (N2 wr N3 _ _ p5);have OD:(j:Int)<(l.length:Int):=by omega
    obtain⟨B1,K1⟩:=di wr #[.int .u64 x.1,ae x.2.1,.slice ma x.2.2.fs.length mc,ae x.2.2.unk] 55;have W2:=Wj.trans (Wr.of B1 (by omega));have Oh:=N7.on B1;have hA:=HA.out (j+1);rw[eu hx,HB.out]at hA
    have HL:Hid (l0++(l.take (j+1)).flatMap bd=l0++(l.take j).flatMap bd++tg++bv x):=by
     show l0++(l.take (j+1)).flatMap bd=_;rw[eu hx,HB.out];simp only[aW]
    have OE:(l0++(l.take j).flatMap bd).length+tg.length+(bv x).length<=140737488355328:=by
     simp only[aH]at hA⊢;omega
    have Oa:=aI hx;generalize l0++(l.take j).flatMap bd=lj at*;clear N2 p2 p3 p4 p5 hx hA N3;have OF:=W2.bel.size;have P2:=HP.out _ W2.bel;go_wp2_with fail
    generalize wr.alloc (ak #[.int .u64 x.1,ae x.2.1,.slice ma x.2.2.fs.length mc,ae x.2.2.unk] 55)=w2 at*;refine P2.mono ?_;rintro e w3 ⟨rfl,b3⟩;have W3:=W2.trans (Wr.of b3 (by omega));go_wp2_with fail
    refine(HT.out w3 W3.bel).mono ?_;rintro e w4 ⟨rfl,b4⟩;have B4:=cY b3 b4;have W4:=W2.trans (Wr.of B4 (by omega));go_wp2_with fail
    refine(HE.out w4 lj W4.bel (Oh.on B4) (by omega)).mono ?_;rintro e wc ⟨rfl,Ol,q2⟩;have Wc:=W4.trans q2;have Kc:=q2.fr _ _ _ (by decide) (by decide) (K1.below B4 K1.lt);have h3:de wc fb _ _:=(Wc.bel.block fb (by omega)).trans h1;have Oi:=HX.out wc.drew x _ (lj++tg) Wc.bel.drew Oa p1 (Ol.on (Below.refl wc.heap.size wc).drew) (by rw[aH];omega);unfold ew at Oi;go_upto_region 8 with fail
    generalize wr.heap.size=vb at*
    have hC:wc.drew.cell? (ai fb 2)=some (aa gb)/\wc.drew.cell? (ai fb 3)=some (.pointer pq)/\wc.drew.cell? (ai vb 0)=some (.int .u64 x.1)/\wc.drew.cell? (ai vb 1)=some (ae x.2.1)/\wc.drew.cell? (ai vb 2)=some (.slice ma x.2.2.fs.length mc)/\wc.drew.cell? (ai vb 3)=some (ae x.2.2.unk):=
     ⟨h3.drew.cell 2,h3.drew.cell 3,Kc.drew.cell 0,Kc.drew.cell 1,Kc.drew.cell 2,Kc.drew.cell 3⟩
    go_region_held2 (fun W=>W.cell? (ai fb 2)=some (aa gb)/\W.cell? (ai fb 3)=some (.pointer pq)/\W.cell? (ai vb 0)=some (.int .u64 x.1)/\W.cell? (ai vb 1)=some (ae x.2.1)/\W.cell? (ai vb 2)=some (.slice ma x.2.2.fs.length mc)/\W.cell? (ai vb 3)=some (ae x.2.2.unk))
     (first|exact hC|exact⟨h4.cell 2,h4.cell 3,K4.cell 0,K4.cell 1,K4.cell 2,K4.cell 3⟩)
     (first
      |(
        go_at_call 234
        refine Oi.mono ?_;rintro e w4 ⟨rfl,q1,q3⟩;have W4:Wr N w w4:=⟨Wc.bel.drew.trans q3.bel,fun i cs T h1 h2 h=>q3.fr i cs T h1 h2 (Wc.fr i cs T h1 h2 h)⟩;have h4:de w4 fb _ _:=(W4.bel.block fb (by omega)).trans h1
        have K4:=q3.fr _ _ _ (by decide) (by decide) Kc))
    go_wp2;go_roundw
    case rel=>exact⟨j+1,by go_num,by omega,by rw[HL.out];exact q1,W4⟩
    case measure=>simp[intOf];omega
   ·obtain rfl:j=l.length:=by omega
    rw[aY]at N7;go_wp2;go_end0;exact⟨rfl,by rw[Og.out,aP];exact N7,Wj⟩
 |true=>
  have Og:Hid (hd=tb++vi y.length):=HD.out;have OG:Hid (tg= []):=HG.out;have hA:=HA.out 0;rw[Og.out]at hA;simp only[aH]at hA;go_enter Tryz.func152,Tryz.ntmps152
  go_wp2_with fail
  refine P1.mono ?_;rintro e w2 ⟨rfl,b2⟩;have W2:=Wr.of b2 Of;go_wp2_with fail
  refine(HT.out w2 W2.bel).mono ?_;rintro e w3 ⟨rfl,b3⟩;have B3:=cY b2 b3;have W3:=Wr.of B3 Of;go_wp2_with fail
  refine(HE.out w3 l0 W3.bel (hW.on B3) (by omega)).mono ?_;rintro e w4 ⟨rfl,q1,q2⟩;have W4:=W3.trans q2;have h4:=(W4.bel.block fb (by omega)).trans h1;obtain⟨k1,k2⟩:=de.rules h4;go_wp2_with fail
  refine(HV.out w4 W4.bel).mono ?_;rintro e w5 ⟨rfl,b5⟩;have OH:=W4.bel.size;have OI:=b5.size;go_wp2_with fail
  refine(nI y.length (q1.on b5) Ov (by rw[aH];omega) (by omega)).mono ?_;rintro e w1 ⟨rfl,r1,r2⟩;have W1:=(W4.trans (Wr.of b5 (by omega))).trans r2;have Ok:d6 w1 N b (dx b) (l0++hd):=by rw[Og.out,<-aW];exact r1
  clear k1 k2 h4 Og q1 q2 b5 r1 r2 W4 W3 W2 B3 b2 b3 OH OI hA;go_wp2;go_loopw [7,24] (fun _ jv wr=>∃j:Nat,jv=aa j/\j<=l.length/\d6 wr N b (dx b) (l0++hd++(l.take j).flatMap bd)/\Wr N w wr) (fun _ jv _=>l.length-(intOf jv).toNat)
  case atStart=>exact⟨0,rfl,aM _,by simpa using Ok,W1⟩
  case round=>
   obtain⟨j,rfl,hj,N7,Wj⟩:=hrel;have hsz:=Wj.bel.size
   by_cases hlt:j<l.length
   ·obtain⟨x,hx⟩:=gx hlt;obtain⟨mv,p1,p2,p3,p4,p5⟩:=OA.get hx;obtain⟨ma,mc,rfl⟩:=p1.form;obtain⟨gv,rfl,Ob,OB,N2⟩:=Oz.at (by omega);have N3:=Wj.bel.block _ (hZ _ Ob);have t0:=N2 wr N3 _ _ p2;have t1:=jI (N2 wr N3 _ _ p3);have t2:=jI (N2 wr N3 _ _ p4);have t3:=jI (N2 wr N3 _ _ p5);have OD:(j:Int)<(l.length:Int):=by omega
    obtain⟨B1,K1⟩:=di wr #[.int .u64 x.1,ae x.2.1,.slice ma x.2.2.fs.length mc,ae x.2.2.unk] 55;have W2:=Wj.trans (Wr.of B1 (by omega));have Oh:=N7.on B1;have hA:=HA.out (j+1);rw[eu hx,HB.out]at hA
    have HL:Hid (l0++hd++(l.take (j+1)).flatMap bd=l0++hd++(l.take j).flatMap bd++tg++bv x):=by
     show l0++hd++(l.take (j+1)).flatMap bd=_;rw[eu hx,HB.out];simp only[aW]
    have OE:(l0++hd++(l.take j).flatMap bd).length+tg.length+(bv x).length<=140737488355328:=by
     simp only[aH]at hA⊢;omega
    have Oa:=aI hx;generalize l0++hd++(l.take j).flatMap bd=lj at*;clear N2 p2 p3 p4 p5 hx hA N3;have OF:=W2.bel.size;have P2:=HP.out _ W2.bel;go_wp2_with fail
    generalize wr.alloc (ak #[.int .u64 x.1,ae x.2.1,.slice ma x.2.2.fs.length mc,ae x.2.2.unk] 55)=w2 at*;refine P2.mono ?_;rintro e wc ⟨rfl,b3⟩;have Ol:d6 wc N b (dx b) (lj++tg):=by rw[OG.out,bT];exact Oh.on b3
    have Wc:=W2.trans (Wr.of b3 (by omega));have Kc:=K1.below b3 K1.lt;have h3:de wc fb _ _:=(Wc.bel.block fb (by omega)).trans h1;have Oi:=HX.out wc.drew x _ (lj++tg) Wc.bel.drew Oa p1 (Ol.on (Below.refl wc.heap.size wc).drew) (by rw[aH];omega);unfold ew at Oi;go_upto_region 8 with fail
    generalize wr.heap.size=vb at*
    have hC:wc.drew.cell? (ai fb 2)=some (aa gb)/\wc.drew.cell? (ai fb 3)=some (.pointer pq)/\wc.drew.cell? (ai vb 0)=some (.int .u64 x.1)/\wc.drew.cell? (ai vb 1)=some (ae x.2.1)/\wc.drew.cell? (ai vb 2)=some (.slice ma x.2.2.fs.length mc)/\wc.drew.cell? (ai vb 3)=some (ae x.2.2.unk):=
     ⟨h3.drew.cell 2,h3.drew.cell 3,Kc.drew.cell 0,Kc.drew.cell 1,Kc.drew.cell 2,Kc.drew.cell 3⟩
    go_region_held2 (fun W=>W.cell? (ai fb 2)=some (aa gb)/\W.cell? (ai fb 3)=some (.pointer pq)/\W.cell? (ai vb 0)=some (.int .u64 x.1)/\W.cell? (ai vb 1)=some (ae x.2.1)/\W.cell? (ai vb 2)=some (.slice ma x.2.2.fs.length mc)/\W.cell? (ai vb 3)=some (ae x.2.2.unk))
     (first|exact hC|exact⟨h4.cell 2,h4.cell 3,K4.cell 0,K4.cell 1,K4.cell 2,K4.cell 3⟩)
     (first
      |(
        go_at_call 234
        refine Oi.mono ?_;rintro e w4 ⟨rfl,q1,q3⟩;have W4:Wr N w w4:=⟨Wc.bel.drew.trans q3.bel,fun i cs T h1 h2 h=>q3.fr i cs T h1 h2 (Wc.fr i cs T h1 h2 h)⟩;have h4:de w4 fb _ _:=(W4.bel.block fb (by omega)).trans h1
        have K4:=q3.fr _ _ _ (by decide) (by decide) Kc))
    go_wp2;go_roundw
    case rel=>exact⟨j+1,by go_num,by omega,by rw[HL.out];exact q1,W4⟩
    case measure=>simp[intOf];omega
   ·obtain rfl:j=l.length:=by omega
    rw[aY]at N7;go_wp2;go_end0;exact⟨rfl,by rw[aW]at N7;exact N7,Wj⟩
theorem DB {S:dG}{mp:am->Option Nat}{B:Nat}(hN:z8 S):∀n,JV S mp B n:=by
 intro n
 induction n with
 |zero=>
  intro w Z v m d mb gs nm k N b l cx hm hG OC hM hZ Oc Of hO hs
  cases hs
 |succ n ih=>
  intro w Z v m d mb gs nm k N b l cx hm hG OC hM hZ Oc Of hO hs hW hl
  cases k with
  |zero=>exact hM.elim
  |succ k=>
  obtain⟨cs,hr,ON⟩:=hM;obtain⟨a,c,rfl⟩:=hr.form;obtain⟨ho1,ho2,OO⟩:=hO;rw[dm,aT]at hs;have hX:=fun x hx=>tU (x:=x) hs.1 hx
  obtain⟨B0,K1⟩:=di w #[.slice a m.fs.length c,ae m.unk] 49;have W0:=Wr.of B0 Of;have OJ:=hW.on B0;rw[dD]at hl⊢;rw[aH]at hl
  have HC:Hid (∀(W:an) (x:PF) (f:ek) (g:GF) (fb:Nat) (v:Value) (l2:List UInt8),Below N w W->x∈m.fs->dv d.fs x.1=some f->FG S mp d f g->dP W (fun b=>b<B) mp g fb->mB (fR k w Z) w Z v x.2->d6 W N b (dx b) l2->l2.length+(iL S (dD S n) d x).length<=140737488355328->Calls Tryz.prog 152 #[ag fb,v,dx b] W (gu N b l2 (iL S (dD S n) d x) W)):=fun W x f g fb v l2 N8 hx Od fg Ot hv hw Oe=>by
   obtain⟨f',q1,q2⟩:=hX x hx;obtain rfl:f=f':=by rw[Od]at q1;exact Option.some.inj q1
   have hb:iL S (dD S n) d x=iW S (dD S n) f x.2:=by unfold iL;rw[Od]
   rw[hb]at Oe⊢;exact IE ih hN W Z v x.2 d f g fb k N b l2 (cx.on (dj N8 Oc)) Ot fg (OC _ _ Od) (hv.under N8 hZ) hZ Oc (by have:=N8.size;omega) (OO x hx) (fun v hv=>xO q2 hv) hw Oe
  have HT:Hid (∀i,l.length+((m.fs.take i).flatMap (iL S (dD S n) d)).length+m.unk.data.toList.length<=140737488355328):=fun i=>by
   have:=gk (g:=iL S (dD S n) d) (l:=m.fs) i;show _<=_;omega
  generalize iL S (dD S n) d=bx at*;clear hl hs;obtain⟨k1,k2⟩:=K1.rules;go_enter Tryz.func97,Tryz.ntmps97
  go_wp2;generalize w.alloc (ak #[.slice a m.fs.length c,ae m.unk] 49)=w1 at*;go_loopw [7,11] (fun _ iv wr=>∃i:Nat,iv=aa i/\i<=m.fs.length/\d6 wr N b (dx b) (l++(m.fs.take i).flatMap bx)/\Wr N w1 wr) (fun _ iv _=>m.fs.length-(intOf iv).toNat)
  case atStart=>exact⟨0,rfl,aM _,by simpa using OJ,Wr.refl _ _⟩
  case round=>
   obtain⟨i,rfl,hi,N7,Wi⟩:=hrel;clear k1 k2;have WI:=W0.trans Wi;have hsz:=WI.bel.size
   by_cases hlt:i<m.fs.length
   ·obtain⟨x,hx⟩:=gx hlt;obtain⟨vv,p1,p2,p3⟩:=ON.get hx;obtain⟨va,vc,rfl⟩:=p1.form;obtain⟨g0,rfl,Ou,OB,N2⟩:=hr.at (by omega);have N3:=WI.bel.block _ (hZ _ Ou);have t0:=N2 wr N3 _ _ p2;have t1:=jI (N2 wr N3 _ _ p3);obtain⟨B1,K5⟩:=di wr #[aa x.1,.slice va x.2.length vc] 58;have Om:=Wi.trans (Wr.of B1 (by omega));have Ow:=W0.trans Om;have Oh:=N7.on B1.drew;obtain⟨f,Od,_⟩:=hX x (aI hx);obtain⟨g,hg,fg⟩:=hG.yes _ _ Od;have HF:=od _ (fun b=>b<B) mp mb nm gs x.1 (hm.keep fun b q _=>Ow.bel.drew.block b (by omega)) hG.srt hG.len;rw[hg]at HF;have hT:=HT.out (i+1);rw[eu hx,aH]at hT;have OL:(l++(m.fs.take i).flatMap bx).length+(bx x).length<=140737488355328:=by rw[aH];omega
    have HZ:=fun fb q=>HC.out _ x f g fb _ _ Ow.bel.drew (aI hx) Od fg q p1 Oh OL
    have HS:Hid (l++(m.fs.take (i+1)).flatMap bx=l++(m.fs.take i).flatMap bx++bx x):=by
     show l++(m.fs.take (i+1)).flatMap bx=_;rw[eu hx,aW]
    generalize l++(m.fs.take i).flatMap bx=li at*;have hij:(i:Int)<(m.fs.length:Int):=by omega
    clear N2 p2 p3 hx hg Od hT N3;go_upto_region 4 with fail
    generalize wr.alloc (ak #[aa x.1,.slice va x.2.length vc] 58)=w2 at*;generalize wr.heap.size=vb at*;have hC:w2.drew.cell? (ai vb 0)=some (aa x.1)/\w2.drew.cell? (ai vb 1)=some (.slice va x.2.length vc):=⟨K5.drew.cell 0,K5.drew.cell 1⟩
    go_region_held2 (fun W=>W.cell? (ai vb 0)=some (aa x.1)/\W.cell? (ai vb 1)=some (.slice va x.2.length vc))
     (first|exact hC|exact⟨Ox.cell 0,Ox.cell 1⟩)
     (first
      |(
        go_at_call 153
        refine HF.mono ?_
        rintro e w3 ⟨⟨fb,rfl,Ot⟩,rfl⟩)
      |(
        go_at_call 152
        refine(HZ _ Ot).mono ?_;rintro e w3 ⟨rfl,q1,q2⟩;have Ox:=q2.fr _ _ _ (by decide) (by decide) K5.drew
        have OM:Wr N w1 w3:=⟨Om.bel.drew.trans q2.bel,fun i cs T h1 h2 h=>q2.fr i cs T h1 h2 (Om.fr i cs T h1 h2 h)⟩))
    go_wp2;go_roundw
    case rel=>exact⟨i+1,by go_num,by omega,by rw[HS.out];exact q1,OM⟩
    case measure=>simp[intOf];omega
   ·obtain rfl:i=m.fs.length:=by omega
    have hT:=HT.out m.fs.length;rw[aY]at N7 hT;have K2:=Wi.fr _ _ _ (by decide) (by decide) K1;obtain⟨k3,k4⟩:=K2.rules;have HR:=qQ m.unk N7 (by rw[aH];omega) (by omega);go_wp2_with fail
    refine HR.mono ?_;rintro e w3 ⟨rfl,q1,q2⟩;go_wp2;go_end0;exact⟨rfl,by rw[aW]at q1;exact q1,WI.trans q2⟩
end
end Go.Proofs.YtfebdimolnobaaaGreatDoor
