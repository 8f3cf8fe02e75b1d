import Derived.Test.YtfebdimolnobaaaGreatDoorKpC
import Derived.Test.YtfebdimolnobaaaGreatDoorFaceB
import Derived.Test.YtfebdimolnobaaaGreatDoorEpK
set_option maxRecDepth 100000
set_option maxHeartbeats 8000000
set_option linter.all false
namespace Go.Proofs.YtfebdimolnobaaaGreatDoor
open Go.RowKit Go.Proofs.Tryz
section
open Go.Maps
section
variable {bs:List d7} {w w':aw} {ks:aB} {K:(ax)->aw->Prop} {R:Fx PM} {e:Ending}
def mF (w:aw)(sb kp mk:Nat)(bs:List d7)(P:ax):Prop:=
 ∃v y,dX w sb #[v,ah kp] 92/\(P sb/\P kp/\P mk/\sb≠kp/\sb≠mk)/\fU w (λb=>P b/\b≠sb/\b≠kp/\b≠mk) v bs y/\jN w kp mk (ei bs) (mO (y.map (·.1))) P
theorem Rc (h:kh bs):(ei bs).ms.length<=2001:=by
 show((gC bs).map lY).length<=2001;rw[bN];exact aM (bZ _ _) h.ok.few
theorem Ec.toP {sb kp mk:Nat}{lo:Nat}(h:Ec w sb kp mk bs lo)(hs:kh bs):mF w sb kp mk bs λb=>lo<=b:=by
 obtain⟨v,y,h1,⟨a1,a2,a3,a4,a5,a6⟩,h3,h4⟩:=h;refine⟨v,y,h1,⟨a1,a2,a3,a4,a5⟩,h3,0,λ_=>none,h4.1,h4.2,a6,?_,λ_ _ _ q=>(by cases q),λ_ _ q=>(by cases q)⟩;have:=Rc hs;have h5:ow (ei bs) (λ_=>none)<=(ei bs).ms.length:=bZ _ _;omega
section
variable {w w':aw} {sb kp mk:Nat} {bs:List d7} {P P':ax}
theorem mF.O (h:mF w sb kp mk bs P)(hk:∀b,P b->b<w.heap.size->w'.heap[b]?=w.heap[b]?):mF w' sb kp mk bs P:=by
 obtain⟨v,y,h1,h2,h3,N,pm,h4⟩:=h;refine⟨v,y,(hk _ h2.1 h1.lt).J h1,h2,h3.O (λb q hl=>hk b q.1 hl),N,pm,(hk _ h2.2.1 h4.kb.lt).J h4.kb,h4.mb.O (hk _ h2.2.2.1 h4.mb.lt),h4.ne,h4.ct,h4.inj,λt p hp=> ?_⟩;rcases h4.pl t p hp with⟨q,_⟩|⟨d,gs,q1,q2,q3⟩;.cases q
 .exact .inr ⟨d,gs,q1,q2,q3.O (λb q hl=>hk b q.2.2.2 hl) (λ_ _ q=>q)⟩
theorem mF.less (h:mF w sb kp mk bs P)(hp:∀b,P b->b<w.heap.size->P' b):mF w sb kp mk bs P':=by
 obtain⟨v,y,h1,⟨a1,a2,a3,a4,a5⟩,h3,N,pm,h4⟩:=h;exact⟨v,y,h1,⟨hp _ a1 h1.lt,hp _ a2 h4.kb.lt,hp _ a3 h4.mb.lt,a4,a5⟩,h3.V λb q hl=>⟨hp b q.1 hl,q.2⟩,N,pm,h4.less hp⟩
end
theorem lP.imp {K':(ax)->aw->Prop}(h:lP ks K w R e w')(hk:∀Z,(∀b,Z b->w.heap.size<=b)->ec ks w w'->K Z w'->K' Z w'):lP ks K' w R e w':=by
 cases R with
 |error x=>exact⟨h.1,h.2.1,hk _ (λ_ q=>q.elim) h.2.1 h.2.2⟩
 |ok m=>
  obtain⟨v,Z',h1,h2,h3,h4,h5⟩:=h;exact⟨v,Z',h1,h2,h3,h4,hk _ (λb q=>(h3 b q).1) h4 h5⟩
theorem Hx.toK (h:Hx w R e w')(hk:∀Z,ak w w'->K Z w'):lP ks K w R e w':=by
 cases R with
 |error x=>exact⟨h.1,.oB h.2,hk _ h.2⟩
 |ok m=>
  obtain⟨v,Z',h1,h2,h3,h4⟩:=h;exact⟨v,Z',h1,h2,h3,.oB h4,hk _ h4⟩
theorem AZ (MK:qB)(w:aw)(sb kp mk:Nat)(bs:List d7)(P:ax)(nm b:au)(way:Int)(hs:mF w sb kp mk bs P)(h:kh bs)(hu:UOK w)(hbs:b.size<=268435456)(hw:way=1\/way=2)(hu1:¬P 2)(hu2:¬P 3):
  U8 21 #[ah sb,aa way,ag nm,ag b] w (lP [mk,kp] (λZ w'=>mF w' sb kp mk bs λx=>(P x/\x<w.heap.size)\/(w.heap.size<=x/\¬Z x)) w (iV (ei bs) nm b)):=by
 have⟨v,y,h1,⟨a1,a2,a3,a4,a5⟩,h3,h4⟩:=id hs;rcases hw with rfl|rfl;.exact(Ju w sb v _ bs y _ nm b h1 h3 h hu hbs).V λe w' q=>q.toK λZ hb=>(hs.less (P':=λx=>(P x/\x<w.heap.size)\/(w.heap.size<=x/\¬Z x)) λx q hl=> .inl ⟨q,hl⟩).O λx _ hl=>hb.block x hl
 .have Vp:mk<w.heap.size/\kp<w.heap.size:=(by obtain⟨_,_,h5⟩:=h4;exact⟨h5.mb.lt,h5.kb.lt⟩);refine(Jv MK w sb kp mk v bs y _ nm b h1 h3 h hu hbs _ h4 (λx q=>q.1) (λx q=>⟨q.2.2.2,q.2.2.1⟩) ⟨a5,a4⟩ ⟨λe=>hu1 (e▸a3),λe=>hu1 (e▸a2)⟩ ⟨λe=>hu2 (e▸a3),λe=>hu2 (e▸a2)⟩).V λe w' q=>q.imp λZ hZ kw hp=> ?_
  have hn:∀x,x≠kp->x≠mk->x<w.heap.size->w'.heap[x]?=w.heap[x]?:=λx q1 q2 hl=>kw.block x hl (by simp[q1,q2])
  refine⟨v,y,(hn sb a4 a5 h1.lt).J h1,⟨.inl ⟨a1,h1.lt⟩,.inl ⟨a2,Vp.2⟩,.inl ⟨a3,Vp.1⟩,a4,a5⟩,(h3.V (Q:=λx=>(P x/\x≠sb/\x≠kp/\x≠mk)/\x<w.heap.size) λx q hl=>⟨q,hl⟩).O (λx q hl=>hn x q.1.2.2.1 q.1.2.2.2 hl)|>.V λx q _=>⟨.inl ⟨q.1.1,q.2⟩,q.1.2⟩,?_⟩;exact hp.less λx q _=>q.imp id λq=>⟨Vc,q.2⟩
end
end
section
open Go.Maps
open Vo
def EC {bs:List d7}(h:kh bs):Es (ei bs):=λt d hd n f hf=>by
 obtain⟨b,hb,rfl⟩:=aR.1 (jw hd);have⟨VM,VN⟩:=bA.1 hb;have⟨_,hm⟩:=fA hf;have⟨p,hp,hq⟩:=List.mem_flatMap.1 hm;obtain⟨fr,hr,rfl⟩:=aR.1 hq;have:=(h.ok.chk b VM (by simpa using VN)).flds p hp fr hr;have h1:=this.lo;have h2:=this.hi;show 0<=((jc fr.num.1:Nat):Int)/\((jc fr.num.1:Nat):Int)<=536870911;omega
abbrev FW (g:Bool):Nat:=bif g then 58 else 54
abbrev FP (g:Bool):Nat:=bif g then 59 else 55
abbrev oV (g:Bool)(b:au):Value:=bif g then aa b.size else ag b
section
variable {ks:aB} {K:aw->Prop} {E B:Nat}
def TZ (g:Bool)(hK:qC E B K)(ok:Bool)(v:Value)(w:aw)(hk0:K w)(q0 q1 q2 q3 mb:Nat)(a:aC)(n c:Nat)(unk:au)(hc0:w.cell? (aj q0 0)=some (aa 1))(hc1:w.cell? (aj q1 0)=some (ah mb))(hc2:dX w q2 #[.slice a n c,ag unk] 49)
  (h:U8 (FW g) #[ah mb,.agg #[.slice a n c,ag unk]] w (kU ok v w)):
  Calls prog (FK g) #[ah q0,ah q1,ah q2,ah q3] w (yM ks K ok v w):=by
 have⟨k1,k2⟩:=hc2.I;have Vr:∀w2,ak w w2->K w2:=λw2 b2=>hK w w2 hk0 b2.size λz _ hl=>b2.block z hl
 cases g<;>dsimp only[FK,FW,cond]at*
 go_in
 rotate_left;go_in
 all_goals
  go_wp2_with fail;refine h.V ?_;intro e w2 hr;rcases hr.part with⟨rfl,rfl,b2⟩|⟨rfl,y,z,rfl,b2⟩;.go_wp2;go_ret;exact⟨.oB b2,Vr w2 b2,rfl⟩
  .unfold dY;go_wp2;exact⟨rfl,.oB b2,Vr w2 b2,y,_,rfl⟩
def T0 (g:Bool)(hK:qC E B K)(ok:Bool)(v:Value)(w:aw)(q0 q1 q2 q3 mb sb kp:Nat)(sv:Value)(a:aC)(n c:Nat)(unk:au)(hc0:w.cell? (aj q0 0)=some (aa 2))(hc1:w.cell? (aj q1 0)=some (ah mb))(hc2:dX w q2 #[.slice a n c,ag unk] 49)(hc3:w.cell? (aj q3 0)=some (ah sb))(hs:dX w sb #[sv,ah kp] 92)
  (hq:q1∉ks/\q2∉ks/\q3∉ks/\sb∉ks)
  (h:U8 48 #[ah kp,ah mb] w.drew λe w1=>∃p,e= .returned (ah p)/\ec ks w.drew w1/\K w1/\U8 (FP g) #[ah p,.agg #[.slice a n c,ag unk]] w1 (kU ok v w1)):
  Calls prog (FK g) #[ah q0,ah q1,ah q2,ah q3] w (yM ks K ok v w):=by
 have l1:q1<w.heap.size:=aV _ _ hc1;have l3:q3<w.heap.size:=aV _ _ hc3
 have HS:Hid (∀W:aw,ec ks w W->W.cell? (aj q1 0)=some (ah mb)/\W.cell? (aj q2 0)=some (.slice a n c)/\W.cell? (aj q2 1)=some (ag unk)/\W.cell? (aj q3 0)=some (ah sb)/\W.cell? (aj sb 1)=some (ah kp)):=λW hk=>
  ⟨(bC (a:=(aj q1 0)) (hk.block q1 l1 hq.1)).J hc1,(hc2.kept hk hq.2.1).cell 0,(hc2.kept hk hq.2.1).cell 1,(bC (a:=(aj q3 0)) (hk.block q3 l3 hq.2.2.1)).J hc3,(hs.kept hk hq.2.2.2).cell 1⟩
 have e0:=HS.o w.drew (ec.refl _ w).drew;clear hc1 hc3;cases g<;>dsimp only[FK,FP,cond]at*
 go_in
 rotate_left;go_in
 all_goals
  go_upto_region 3 with fail
  go_region_held2 (λW=>W.cell? (aj q1 0)=some (ah mb)/\W.cell? (aj q2 0)=some (.slice a n c)/\W.cell? (aj q2 1)=some (ag unk)/\W.cell? (aj q3 0)=some (ah sb)/\W.cell? (aj sb 1)=some (ah kp))
   (first|exact HS.o _ Vu|exact HS.o _ rD|exact e0)
   (first
    |(
      go_at_call 48;refine h.V ?_;rintro e w2 ⟨p,rfl,VB,Vr,VO⟩
      have rD:=ec.ofDrew VB)
    |(
      first|go_at_call 55|go_at_call 59
      refine VO.V ?_;intro e w3 VP;rcases VP.part with⟨rfl,rfl,b3⟩|⟨rfl,y,z,rfl,b3⟩;rotate_left
      .have Vu:=rD.J (ec.oB b3);have Vw:=hK w2 w3 Vr b3.size λz _ hl=>b3.block z hl
       unfold dY;go_wp2;exact⟨rfl,Vu,Vw,y,_,rfl⟩
      have Vu:=rD.J (ec.oB b3)
      have Vw:=hK w2 w3 Vr b3.size λz _ hl=>b3.block z hl))
  all_goals
   go_wp2;go_ret;exact⟨Vu,Vw,rfl⟩
end
def kj (S:eD)(nm:au)(m:PM):au×Int:=
 match S.msg nm with
 |none=>(⟨#[]⟩,5)
 |some d=>(if dZ S 8 d m=true then⟨(eG S 8 d m).toArray⟩else⟨#[]⟩,if dZ S 8 d m=true then 0 else 12)
def T3 (g:Bool)(w:aw)(sb:Nat)(sv kv:Value)(bs:List d7)(y:List YM)(P:ax)(nm:au)(Z:ax)(k:Nat)(mv:Value)(m:PM)(h1:dX w sb #[sv,kv] 92)(hM:fU w P sv bs y)(h:kh bs)(hu:UOK w)(hMi:gP k w Z mv m)(hO:pP k m)(hl:∀d,(ei bs).msg nm=some d->(eG (ei bs) 8 d m).length<=2^47):
  U8 (FE g) #[ah sb,aa 1,ag nm,.agg #[mv,ag m.unk]] w λe w'=>e= .returned (.tuple #[oV g (kj (ei bs) nm m).1,aa (kj (ei bs) nm m).2])/\ak w w':=by
 obtain⟨a,c,rfl⟩:=hMi.form;refine(SH g (ks:= []) (K:=λ_=>True) (oV g (kj (ei bs) nm m).1,(kj (ei bs) nm m).2) w Vd (λ_ _ _ _ _=>trivial) trivial sb sv kv bs y P nm a m.fs.length c m.unk 1 h1 hM (rl hM h) (.inl rfl) (λVC=> ?_) (λi ym hi hn=> ?_)).V λe w' q=>⟨q.1,q.2.1.to_below (aE _) Vd⟩
 .unfold kj;rw[tJ hM VC];cases g<;>rfl
 .have⟨d,gs,g1,g2,g3,g4⟩:=EB hM h hi hn;have cx:=Ci hM h hu;refine⟨dZ (ei bs) 8 d m,oV g ⟨(eG (ei bs) 8 d m).toArray⟩,by unfold kj;rw[g1];dsimp only;cases dZ (ei bs) 8 d m<;>cases g<;>rfl,λw0 q0 q1 q2 q3 hb _ _ c0 c1 c2 _=> ?_⟩;refine TZ g (E:=0) (B:=0) (λ_ _ _ _ _=>trivial) _ _ w0 trivial q0 q1 q2 q3 ym.1.2 a _ c m.unk c0 c1 c2 ?_;cases g;.exact Mj (EC h) w0 Z _ m d ym.1.2 gs d.name k (cx.on hb) (g2.O λx q _=>hb.block x q) g3 (EC h _ _ g1) (hMi.G hb (aE _)) hO (hl d g1)
  .exact yL (EC h) w0 Z _ m d ym.1.2 gs d.name k (cx.on hb) (g2.O λx q _=>hb.block x q) g3 (EC h _ _ g1) (hMi.G hb (aE _)) hO (hl d g1)
def T4 (g:Bool)(MK:qB)(w:aw)(sb kp mk:Nat)(sv:Value)(bs:List d7)(y:List YM)(P:ax)(nm:au)(Z:ax)(k:Nat)(mv:Value)(m:PM)(h1:dX w sb #[sv,ah kp] 92)(hM:fU w P sv bs y)(h:kh bs)(hu:UOK w)(hMi:gP k w Z mv m)(hZ:¬Z mk/\¬Z kp)(hO:pP k m)(hl:∀d,(ei bs).msg nm=some d->(eG (ei bs) 8 d m).length<=2^47)
  (Y:ax) (hp:jN w kp mk (ei bs) (mO (y.map (·.1))) Y) (hY:∀x,P x->Y x) (hP:∀x,P x->x≠mk/\x≠kp) (hsb:sb≠mk/\sb≠kp) (hu1:2≠mk/\2≠kp) (hu2:3≠mk/\3≠kp):
  U8 (FE g) #[ah sb,aa 2,ag nm,.agg #[mv,ag m.unk]] w λe w'=>e= .returned (.tuple #[oV g (kj (ei bs) nm m).1,aa (kj (ei bs) nm m).2])/\ec [mk,kp] w w'/\jN w' kp mk (ei bs) (mO (y.map (·.1))) λx=>(Y x/\x<w.heap.size)\/(w.heap.size+6<=x/\¬False):=by
 obtain⟨a,c,rfl⟩:=hMi.form;have⟨N,pm,ok0⟩:=id hp;have Vx:=ok0.kb.lt;have Vq:=ok0.mb.lt;have VE:qC w.heap.size (w.heap.size+6) λw'=>jN w' kp mk (ei bs) (mO (y.map (·.1))) λx=>(Y x/\x<w.heap.size)\/(w.heap.size+6<=x/\¬False):=jN.still (Z:=λ_=>False) Vx Vq
 have VF:∀x∈ [mk,kp],x<w.heap.size:=λx hx=>by
  simp only[aS,bX,or_false]at hx;rcases hx with rfl|rfl;.exact Vq
  .exact Vx
 have Vs:∀x,x≠mk->x≠kp->x∉ [mk,kp]:=λx h1 h2=>by simp[h1,h2]
 refine SH g (oV g (kj (ei bs) nm m).1,(kj (ei bs) nm m).2) w VF VE (hp.less λx hy hl=> .inl ⟨hy,hl⟩) sb sv _ bs y P nm a m.fs.length c m.unk 2 h1 hM (rl hM h) (.inr rfl) (λVC=> ?_) (λi ym hi hn=> ?_);.unfold kj;rw[tJ hM VC];cases g<;>rfl
 .have VG:fU w (λx=>P x/\x<w.heap.size) sv bs y:=hM.V λx q hl=>⟨q,hl⟩
  have⟨d,gs,g1,g2,g3,g4,g5⟩:=AY VG h hi hn;have VH:=nX g1;refine⟨dZ (ei bs) 8 d m,oV g ⟨(eG (ei bs) 8 d m).toArray⟩,by unfold kj;rw[g1];dsimp only;cases dZ (ei bs) 8 d m<;>cases g<;>rfl,λw0 q0 q1 q2 q3 hb hsz VD c0 c1 c2 c3=> ?_⟩;have Vy:∀q,w.heap.size<=q->q∉ [mk,kp]:=λq hq hx=>by have:=VF q hx;omega
  refine T0 g VE _ _ w0 q0 q1 q2 q3 ym.1.2 sb kp sv a _ c m.unk c0 c1 c2 c3 (h1.G hb h1.lt) ⟨Vy _ VD.2.1,Vy _ VD.2.2.1,Vy _ VD.2.2.2,Vs sb hsb.1 hsb.2⟩ ?_;have Vp:ak w w0.drew:=hb.drew;have VJ:fU w0.drew P sv bs y:=hM.O λx _ hl=>Vp.block x hl
  have VK:∀x,(P x/\x<w.heap.size)->x<w.heap.size/\x≠mk/\x≠kp:=λx q=>⟨q.2,hP x q.1⟩
  have md:=(yT VG h).O (w':=w0.drew) λx q _=>Vp.block x q.2
  have hsz':w0.drew.heap.size=w.heap.size+6:=hsz
  have I1:Cq kp mk w.heap.size 0 (ei bs) (mO (y.map (·.1))) (λx=>P x/\x<w.heap.size) w0.drew N pm [] λx=>(Y x/\x<w.heap.size)\/(w.heap.size+6<=x/\¬False):=
   ⟨(ok0.less λx hy hl=> .inl ⟨hy,hl⟩).O (λx hl=>Vp.block x hl),md,Vp.size,Vd,λx hx=> .inl ⟨hY x hx.1,hx.2⟩,λx hx=> .inr ⟨Vc,id⟩,VK,Vx,Vq⟩
  refine(SG kp mk w.heap.size (ei bs) (mO (y.map (·.1))) _ MK w0.drew N pm ym.1.2 d gs _ I1 (by rw[VH];exact g1) (g2.O λx q _=>Vp.block x q.2) g3 g5).V ?_;rintro en w2 ⟨p,N',VI,rfl,VQ,ok2,hx2,rD⟩;refine⟨p,rfl,rD,⟨N',VI,ok2⟩,?_⟩;have VL:fU w2 P sv bs y:=VJ.O λx q hl=>rD.block x hl (Vs x (hP x q).1 (hP x q).2)
  have Vz:UOK w0.drew:=hu.O (Vp.block _ hu.lt1) (Vp.block _ hu.lt2);have VA:UOK w2:=Vz.O (rD.block _ Vz.lt1 (Vs _ hu1.1 hu1.2)) (rD.block _ Vz.lt2 (Vs _ hu2.1 hu2.2));have cx:=Ci VL h VA
  have pc:nR w2 (λx=>x<w2.heap.size) (ei bs) (mO (y.map (·.1))) VI:=λt q hq=>by
   rcases ok2.pl t q hq with⟨z,_⟩|⟨d',Vv,z1,z2,z3⟩;.cases z
   .exact⟨d',Vv,z1,z3.mV (.V λx _ hl=>hl) (λ_ _ q=>q),z2⟩
  have⟨d',Vv,z1,z2,z3⟩:=pc _ _ VQ;obtain rfl:d=d':=(by rw[VH,g1]at z1;exact Option.some.inj z1);have Vt:gP k w2 Z (.slice a m.fs.length c) m:=(hMi.G Vp (aE _)).O λx q hl=>rD.block x hl (Vs x (λe=>hZ.1 (e▸q)) (λe=>hZ.2 (e▸q)))
  cases g;.exact Mq (EC h) w2 Z _ m d p Vv k cx pc z2 z3 (EC h _ _ g1) Vt hO (hl d g1)
  .exact yS (EC h) w2 Z _ m d p Vv k cx pc z2 z3 (EC h _ _ g1) Vt hO (hl d g1)
def O8 (g:Bool)(MK:qB)(w:aw)(sb kp mk:Nat)(bs:List d7)(P:ax)(nm:au)(way:Int)(Z:ax)(k:Nat)(mv:Value)(m:PM)(hs:mF w sb kp mk bs P)(h:kh bs)(hu:UOK w)(hw:way=1\/way=2)(hu1:¬P 2)(hu2:¬P 3)(hMi:gP k w Z mv m)(hZ:∀b,Z b->¬P b)(hO:pP k m)(hl:∀d,(ei bs).msg nm=some d->(eG (ei bs) 8 d m).length<=2^47):
  U8 (FE g) #[ah sb,aa way,ag nm,.agg #[mv,ag m.unk]] w λe w'=>e= .returned (.tuple #[oV g (kj (ei bs) nm m).1,aa (kj (ei bs) nm m).2])/\ec [mk,kp] w w'/\mF w' sb kp mk bs λx=>(P x/\x<w.heap.size)\/w.heap.size<=x:=by
 have⟨v,y,h1,⟨a1,a2,a3,a4,a5⟩,h3,h4⟩:=id hs;rcases hw with rfl|rfl;.exact(T3 g w sb v _ bs y _ nm Z k mv m h1 h3 h hu hMi hO hl).V λe w' q=>⟨q.1,.oB q.2,(hs.less (P':=λx=>(P x/\x<w.heap.size)\/w.heap.size<=x) λx q hl=> .inl ⟨q,hl⟩).O λx _ hl=>q.2.block x hl⟩
 .have Vq:mk<w.heap.size/\kp<w.heap.size:=(by obtain⟨_,_,h5⟩:=h4;exact⟨h5.mb.lt,h5.kb.lt⟩);refine(T4 g MK w sb kp mk v bs y _ nm Z k mv m h1 h3 h hu hMi ⟨λq=>hZ _ q a3,λq=>hZ _ q a2⟩ hO hl _ h4 (λx q=>q.1) (λx q=>⟨q.2.2.2,q.2.2.1⟩) ⟨a5,a4⟩ ⟨λe=>hu1 (e▸a3),λe=>hu1 (e▸a2)⟩ ⟨λe=>hu2 (e▸a3),λe=>hu2 (e▸a2)⟩).V λe w' q=>⟨q.1,q.2.1,?_⟩
  have kw:=q.2.1;have hn:∀x,x≠kp->x≠mk->x<w.heap.size->w'.heap[x]?=w.heap[x]?:=λx q1 q2 hl=>kw.block x hl (by simp[q1,q2])
  refine⟨v,y,(hn sb a4 a5 h1.lt).J h1,⟨.inl ⟨a1,h1.lt⟩,.inl ⟨a2,Vq.2⟩,.inl ⟨a3,Vq.1⟩,a4,a5⟩,(h3.V (Q:=λx=>(P x/\x≠sb/\x≠kp/\x≠mk)/\x<w.heap.size) λx q hl=>⟨q,hl⟩).O (λx q hl=>hn x q.1.2.2.1 q.1.2.2.2 hl)|>.V λx q _=>⟨.inl ⟨q.1.1,q.2⟩,q.1.2⟩,?_⟩;exact q.2.2.less λx q _=>q.imp id λq=>Vc
end
abbrev tK:au:=⟨#[109,101,115,115,97,103,101,32,65,32,123,32,105,110,116,51,50,32,120,32,61,32,49,59,32,115,116,114,105,110,103,32,121,32,61,32,50,59,32,125]⟩
abbrev nK:au:=⟨#[65]⟩
abbrev iK:au:=⟨#[18,2,104,105,8,5]⟩
abbrev oK:au:=⟨#[8,5,18,2,104,105]⟩
def Tl:Nat->PM->Bool
 |0,_=>false
 |k+1,m=>decide (m.fs.length<=1099511627776)&&decide (m.unk.size<=1099511627776)&&m.fs.all λx=>decide (x.2.length<=1099511627776)&&x.2.all λv=>decide (0<=v.1)&&decide (v.1<2^64)&&decide (v.2.1.size<=1099511627776)&&Tl k v.2.2
def Mr:∀{k:Nat} {m:PM},Tl k m=true->pP k m
 |0,_,h=>by cases h
 |k+1,m,h=>by
  rw[Tl]at h;simp only[aQ,dQ,cg]at h;exact⟨h.1.1,h.1.2,λx hx=>⟨(h.2 x hx).1,λv hv=>⟨((h.2 x hx).2 v hv).1.1.1,((h.2 x hx).2 v hv).1.1.2,((h.2 x hx).2 v hv).1.2,Mr ((h.2 x hx).2 v hv).2⟩⟩⟩
def Re (bs:List d7):Bool:=
 (match iV (ei bs) nK iK with
 | .ok m=>Tl 9 m&&decide (wY 9 m<=1000)&&((kj (ei bs) nK m).1.data.toList==oK.data.toList)&&((kj (ei bs) nK m).2==0)
 | .error _=>false)
def Rf:(match iS tK with| .ok bs=>Re bs| .error _=>false)=true:=Vg
def Rg:∃bs m,iS tK= .ok bs/\iV (ei bs) nK iK= .ok m/\pP 9 m/\wY 9 m<=1000/\(kj (ei bs) nK m).1=oK/\(kj (ei bs) nK m).2=0:=by
 have h:=Rf
 cases h1:iS tK with
 |error x=>rw[h1]at h;cases h
 |ok bs=>
  rw[h1]at h;change Re bs=true at h;unfold Re at h
  cases h2:iV (ei bs) nK iK with
  |error x=>rw[h2]at h;cases h
  |ok m=>
   rw[h2]at h;simp only[aQ,dQ,beq_iff_eq]at h;obtain⟨⟨⟨h3,h4⟩,h5⟩,h6⟩:=h;exact⟨bs,m,rfl,h2,Mr h3,h4,cN (cV.1 h5),h6⟩
section
open Go.Maps
open Vo
def mF.lt {w:aw}{sb kp mk:Nat}{bs:List d7}{P:ax}(h:mF w sb kp mk bs P):P mk/\P kp/\mk<w.heap.size/\kp<w.heap.size:=by
 obtain⟨v,y,h1,⟨a1,a2,a3,a4,a5⟩,h3,N,pm,h4⟩:=h;exact⟨a3,a2,h4.mb.lt,h4.kb.lt⟩
def Pd (w:aw)(hg:GOK w)(hbo:BOK w)(hu:UOK w):Calls prog 26 #[] w λe w'=>e= .returned (.bool true)/\ak w w':=by
 obtain⟨bs,m,Vw,Vx,hO,VG,e1,e2⟩:=Rg;have Vq:=DR Vw
 have hl:∀d,(ei bs).msg nK=some d->(eG (ei bs) 8 d m).length<=2^47:=λd _=>by
  have:=qF (S:=ei bs) 8 9 d m hO;omega
 have HP:=c5 w tK Vf hg hbo;rw[Vw]at HP;have Vr:Hid (∀W,ak w W->UOK W):=λW hW=>hu.O (hW.block _ hu.lt1) (hW.block _ hu.lt2)
 have HD:Hid (∀(W:aw) (sb kp mk:Nat) (Vp:Int),ak w W->mF W sb kp mk bs (λb=>w.heap.size<=b)->Vp=1\/Vp=2->U8 21 #[ah sb,aa Vp,ag nK,ag iK] W (lP [mk,kp] (λZ w'=>mF w' sb kp mk bs λx=>(w.heap.size<=x/\x<W.heap.size)\/(W.heap.size<=x/\¬Z x)) W (.ok m))):=λW sb kp mk Vp hW hs hw=>by
  have:=AZ uX W sb kp mk bs _ nK iK Vp hs Vq (Vr.o W hW) Vf hw (by have:=hu.lt1;omega) (by have:=hu.lt2;omega)
  rwa [Vx]at this
 have HE:Hid (∀(W:aw) (sb kp mk:Nat) (Vp:Int) (P Z:ax) (mv:Value),ak w W->mF W sb kp mk bs P->Vp=1\/Vp=2->(∀b,P b->w.heap.size<=b)->gP 9 W Z mv m->(∀b,Z b->¬P b)->U8 24 #[ah sb,aa Vp,ag nK,.agg #[mv,ag m.unk]] W λe w'=>e= .returned (.tuple #[ag oK,aa 0])/\ec [mk,kp] W w'/\mF w' sb kp mk bs λx=>(P x/\x<W.heap.size)\/W.heap.size<=x):=λW sb kp mk Vp P Z mv hW hs hw hP hM hZ=>by
  have:=O8 false uX W sb kp mk bs P nK Vp Z 9 mv m hs Vq (Vr.o W hW) hw (λq=>by have:=hP _ q;have:=hu.lt1;omega) (λq=>by have:=hP _ q;have:=hu.lt2;omega) hM hZ hO hl;rw[e1,e2]at this;exact this
 have HS:Hid (∀(W:aw) (sb kp mk:Nat) (Vp:Int) (P Z:ax) (mv:Value),ak w W->mF W sb kp mk bs P->Vp=1\/Vp=2->(∀b,P b->w.heap.size<=b)->gP 9 W Z mv m->(∀b,Z b->¬P b)->U8 25 #[ah sb,aa Vp,ag nK,.agg #[mv,ag m.unk]] W λe w'=>e= .returned (.tuple #[aa 6,aa 0])/\ec [mk,kp] W w'/\mF w' sb kp mk bs λx=>(P x/\x<W.heap.size)\/W.heap.size<=x):=λW sb kp mk Vp P Z mv hW hs hw hP hM hZ=>by
  have:=O8 true uX W sb kp mk bs P nK Vp Z 9 mv m hs Vq (Vr.o W hW) hw (λq=>by have:=hP _ q;have:=hu.lt1;omega) (λq=>by have:=hP _ q;have:=hu.lt2;omega) hM hZ hO hl;rw[e1,e2]at this;exact this
 clear hl e1 e2 Vx VG hO;have hoo:(oK.toList==oK.toList)=true:=Vd;go_in
 go_wp2_with fail;refine HP.V ?_;rintro e w1 ⟨⟨sb,kp,mk,rfl,VH⟩,b1⟩;have Vy:=VH.toP Vq;go_wp2;go_loopw [4,5,6,7,8,9,10,11] (λiv _ _ _ _ _ _ _ wr=>∃Vp:Nat,iv=aa Vp/\1<=Vp/\Vp<=3/\mF wr sb kp mk bs (λb=>w.heap.size<=b)/\ak w wr) (λiv _ _ _ _ _ _ _ _=>3-(intOf iv).toNat)
 case atStart=>exact⟨1,rfl,Vc,Vc,Vy,b1⟩
 case round=>
  obtain⟨Vp,rfl,hw1,hw3,hs,B⟩:=hrel;by_cases hlt:Vp<3
  .have hlt':(Vp:Int)<3:=Vc;have hw:(Vp:Int)=1\/(Vp:Int)=2:=Vc;have⟨pm1,pk1,lm,lk⟩:=hs.lt
   have Vs:∀x∈ [mk,kp],w.heap.size<=x:=λx hx=>by
    simp only[aS,bX,or_false]at hx;rcases hx with rfl|rfl<;>assumption
   have Vz:=HD.o wr sb kp mk Vp B hs hw;go_wp2_with fail;refine Vz.V ?_;rintro e w2 ⟨v,Z',rfl,hm,hZ,rD,VI⟩;obtain⟨va,vc,rfl⟩:=hm.form;have B2:ak w w2:=B.J (rD.to_below B.size Vs);have⟨B3,K3⟩:=d8 w2 #[.slice va m.fs.length vc,ag m.unk] 49;have Vt:=dU B2 B3;have s2:=rD.size;have s3:=B3.size;have VA:=VI.O (w':=w2.U5 #[.slice va m.fs.length vc,ag m.unk] 49) λb _ hl=>B3.block b hl
   have Vv:=hm.toIn.rn.G B3 (aE _);have VB:=HE.o _ sb kp mk Vp _ Z' _ Vt VA hw (λb q=>by have:=B.size;rcases q with q|q<;>omega) Vv (λb q p=>p.elim (λp=>by have:=(hZ b q).1;omega) λp=>p.2 q);have⟨k1,k2⟩:=K3.I;go_wp2_with fail;refine VB.V ?_;rintro e w4 ⟨rfl,Vu,VJ⟩
   have VC:∀b,Z' b->b∉ [mk,kp]:=λb q hx=>by
    have:=(hZ b q).1;simp only[aS,bX,or_false]at hx;omega
   have K4:=K3.kept Vu Ve;have B4:ak w w4:=Vt.J (Vu.to_below Vt.size Vs);have VD:=Vv.O (w':=w4) λb q hl=>Vu.block b hl (VC b q)
   have VE:=HS.o _ sb kp mk Vp _ Z' _ B4 VJ hw (λb q=>by have:=B.size;rcases q with⟨q|q,_⟩|q<;>omega) VD (λb q p=>by
    have h1:=hZ b q;rcases p with⟨p|p,_⟩|p;.omega
    .exact p.2 q
    .omega)
   clear k1 k2;have⟨k1,k2⟩:=K4.I;go_wp2_with fail;refine VE.V ?_;rintro e w5 ⟨rfl,VK,VL⟩;have B5:ak w w5:=B4.J (VK.to_below B4.size Vs);have VF:=VL.less (P':=λb=>w.heap.size<=b) λb q _=>by have:=B.size;have:=B4.size;rcases q with⟨⟨q|q,_⟩|q,_⟩|q<;>omega
   go_wp2;go_roundw
   case rel=>exact⟨Vp+1,by go_num,Vc,Vc,VF,B5⟩
   case measure=>simp[intOf];omega
  .obtain rfl:Vp=3:=Vc;go_wp2;go_ret;exact⟨rfl,B⟩
end
section
open Go.Maps
def Gn:Fx PM->PM
 | .error _=>PM.none
 | .ok m=>m
def Gp:Fx PM->Int×Int
 | .error x=>x
 | .ok _=>(0,0)
def lP.one {ks:aB}{K:(ax)->aw->Prop}{w:aw}{R:Fx PM}{e:Ending}{w':aw}(h:lP ks K w R e w'):
  ∃v Z,e= .returned (.tuple #[.agg #[v,ag (Gn R).unk],aa (Gp R).1,aa (Gp R).2])/\qw 9 w' v (Gn R) Z/\(∀b,Z b->w.heap.size<=b/\b<w'.heap.size)/\ec ks w w'/\K Z w':=by
 cases R with
 |error x=>exact⟨_,λ_=>False,h.1,qw.none 8 w' _,λ_ q=>q.elim,h.2.1,h.2.2⟩
 |ok m=>
  obtain⟨v,Z,h1,h2,h3,h4,h5⟩:=h;exact⟨v,Z,h1,h2,h3,h4,h5⟩
structure sG (w:aw)(sb kp mk:Nat)(bs:List d7)(R:ax)(W:aw):Prop where
 bel:ak w W
 low:∀b,b<w.heap.size->R b
 lt:∀b,R b->b<W.heap.size
 sch:∃P,mF W sb kp mk bs P/\∀b,R b->¬P b
structure qH (R:ax)(W W':aw):Prop where
 size:W.heap.size<=W'.heap.size
 block:∀b,R b->W'.heap[b]?=W.heap[b]?
section
variable {w W W':aw} {sb kp mk:Nat} {bs:List d7} {R R':ax}
def qH.blk (h:qH R W W'){b:Nat}{cs:aq}{T:TypeId}(hb:dX W b cs T)(hR:R b):dX W' b cs T:=(h.block b hR).J hb
def qH.mrn (h:qH R W W'){k:Nat}{Z:ax}{v:Value}{m:PM}(hm:gP k W Z v m)(hZ:∀b,Z b->R b):gP k W' Z v m:=hm.O λb q _=>h.block b (hZ b q)
def sG.uok (h:sG w sb kp mk bs R W)(hu:UOK w):UOK W:=hu.O (h.bel.block _ hu.lt1) (h.bel.block _ hu.lt2)
def sG.step (h:sG w sb kp mk bs R W){P P':ax}(hk:ec [mk,kp] W W')(hs:mF W sb kp mk bs P)(hP:∀b,R b->¬P b)(hs':mF W' sb kp mk bs P')(hP':∀b,R' b->¬P' b)(hi:∀b,R b->R' b)(hlt:∀b,R' b->b<W'.heap.size):
  sG w sb kp mk bs R' W'/\qH R W W':=by
 have⟨pm,pk,_,_⟩:=hs.lt;refine⟨⟨h.bel.J (hk.to_below h.bel.size λx hx=> ?_),λb hb=>hi b (h.low b hb),hlt,P',hs',hP'⟩,hk.size,λb hR=>hk.block b (h.lt b hR) λhx=> ?_⟩
 .refine Nat.le_of_not_lt λhl=>hP x (h.low x hl) ?_
  simp only[aS,bX,or_false]at hx;rcases hx with rfl|rfl<;>assumption
 grind
def sG.on (h:sG w sb kp mk bs R W)(hb:Below W.heap.size W W'):sG w sb kp mk bs (λx=>R x\/(W.heap.size<=x/\x<W'.heap.size)) W'/\qH R W W':=by
 have⟨P,hs,hP⟩:=h.sch;have hl:=hb.size;refine⟨⟨dU h.bel hb,λb q=> .inl (h.low b q),λb q=> ?_,_,(hs.less (P':=λx=>P x/\x<W.heap.size) λx q hl=>⟨q,hl⟩).O (w':=W') λb _ hl=>hb.block b hl,λb q p=> ?_⟩,hl,λb q=>hb.block b (h.lt b q)⟩
 .rcases q with q|q;.have:=h.lt b q;omega
  omega
 grind
def sG.dec (h:sG w sb kp mk bs R W)(hsb:kh bs)(hu:UOK w)(nm b:au)(hb:b.size<=268435456)(way:Int)(hw:way=1\/way=2):
  U8 21 #[ah sb,aa way,ag nm,ag b] W λe W'=>
   ∃v Z,e= .returned (.tuple #[.agg #[v,ag (Gn (iV (ei bs) nm b)).unk],aa (Gp (iV (ei bs) nm b)).1,aa (Gp (iV (ei bs) nm b)).2])/\gP 9 W' Z v (Gn (iV (ei bs) nm b))/\sG w sb kp mk bs (λx=>R x\/Z x) W'/\qH R W W':=by
 have⟨P,hs,hP⟩:=h.sch;refine(AZ uX W sb kp mk bs P nm b way hs hsb (h.uok hu) hb hw (hP _ (h.low _ hu.lt1)) (hP _ (h.low _ hu.lt2))).V ?_;intro e W' q;have⟨v,Z,h1,h2,h3,h4,h5⟩:=q.one;have hl:=h4.size
 have⟨a1,a2⟩:=h.step h4 hs hP h5 (R':=λx=>R x\/Z x) (λx q p=>by
  rcases q with q|q<;>rcases p with⟨p,p2⟩|⟨p,p2⟩
  .simp_all
  .have:=h.lt x q;omega
  .grind
  simp_all) (λx q=> .inl q) (λx q=>by
  rcases q with q|q;.have:=h.lt x q;omega
  simp_all)
 exact⟨v,Z,h1,h2.toIn.rn,a1,a2⟩
def sG.aft (h:sG w sb kp mk bs R W){P:ax}(hs:mF W sb kp mk bs P)(hP:∀b,R b->¬P b)(hk:ec [mk,kp] W W')(hs':mF W' sb kp mk bs λx=>(P x/\x<W.heap.size)\/W.heap.size<=x):sG w sb kp mk bs R W'/\qH R W W':=
 h.step hk hs hP hs' (λx q p=>by
  have:=h.lt x q
  grind) (λ_ q=>q) (λx q=>aI (h.lt x q) hk.size)
def sG.enc (h:sG w sb kp mk bs R W)(hsb:kh bs)(hu:UOK w)(nm:au)(way:Int)(hw:way=1\/way=2){k:Nat}{Z:ax}{mv:Value}{m:PM}(hM:gP k W Z mv m)(hZ:∀b,Z b->R b)(hO:pP k m)(hwt:wY k m<=2^47):
  U8 24 #[ah sb,aa way,ag nm,.agg #[mv,ag m.unk]] W λe W'=>e= .returned (.tuple #[ag (kj (ei bs) nm m).1,aa (kj (ei bs) nm m).2])/\sG w sb kp mk bs R W'/\qH R W W':=by
 have⟨P,hs,hP⟩:=h.sch;refine(O8 false uX W sb kp mk bs P nm way Z k mv m hs hsb (h.uok hu) hw (hP _ (h.low _ hu.lt1)) (hP _ (h.low _ hu.lt2)) hM (λb q=>hP b (hZ b q)) hO λd _=>aM (qF 8 k d m hO) hwt).V ?_;rintro e W' ⟨h1,h2,h3⟩;exact⟨h1,h.aft hs hP h2 h3⟩
def sG.siz (h:sG w sb kp mk bs R W)(hsb:kh bs)(hu:UOK w)(nm:au)(way:Int)(hw:way=1\/way=2){k:Nat}{Z:ax}{mv:Value}{m:PM}(hM:gP k W Z mv m)(hZ:∀b,Z b->R b)(hO:pP k m)(hwt:wY k m<=2^47):
  U8 25 #[ah sb,aa way,ag nm,.agg #[mv,ag m.unk]] W λe W'=>e= .returned (.tuple #[aa (kj (ei bs) nm m).1.size,aa (kj (ei bs) nm m).2])/\sG w sb kp mk bs R W'/\qH R W W':=by
 have⟨P,hs,hP⟩:=h.sch;refine(O8 true uX W sb kp mk bs P nm way Z k mv m hs hsb (h.uok hu) hw (hP _ (h.low _ hu.lt1)) (hP _ (h.low _ hu.lt2)) hM (λb q=>hP b (hZ b q)) hO λd _=>aM (qF 8 k d m hO) hwt).V ?_;rintro e W' ⟨h1,h2,h3⟩;exact⟨h1,h.aft hs hP h2 h3⟩
def sG.new {w1:aw}(hb:ak w W)(hl:w.heap.size<=w1.heap.size)(hl2:w1.heap.size<=W.heap.size)(hs:Ec W sb kp mk bs w1.heap.size)(hsb:kh bs):sG w sb kp mk bs (λb=>b<w1.heap.size) W:=
 ⟨hb,λb q=>Vc,λb q=>Vc,_,hs.toP hsb,λb q p=>Vc⟩
end
end
def Pz {t:au}(h3:dV t=3)(hk:ig 3 t=true):fj (oh t)=true\/oh t=13:=by
 have hm:t.toList∈mZ:=by have:=nh h3;simpa [jI]using this
 have:(fj (oh t)||decide (oh t=13))=true:=by
  unfold oh;unfold ig at hk;generalize t.toList=l at hm hk
  revert l;decide+kernel
 simp_all
def RK {bs:List d7}(h:kh bs):SW (ei bs)/\∀d∈(ei bs).ms,(d.fs.map (·.num)).Nodup:=by
 have Vp:∀d∈(ei bs).ms,∃b,b∈bs/\b.enum=false/\d=lY b:=λd hd=>by
  obtain⟨b,hb,rfl⟩:=aR.1 hd;have:=bA.1 hb;grind
 refine⟨⟨(QO h).name,λd hd n f hf=> ?_,λd hd f hf=> ?_,λd hd f hf hM=> ?_⟩,λd hd=> ?_⟩;.obtain⟨b,hb,he,rfl⟩:=Vp d hd;have⟨e,hm⟩:=fA hf;obtain⟨p,hp,fr,hr,rfl⟩:=uD.1 hm;have:=(h.ok.chk b hb he).flds p hp fr hr;have h1:=this.lo;have h2:=this.hi;have e:((jc fr.num.1:Nat):Int)=n:=e;omega
 .obtain⟨b,hb,he,rfl⟩:=Vp d hd;obtain⟨p,hp,fr,hr,rfl⟩:=uD.1 hf;exact uB h (zN bs) (PW h hb he hp hr)
 .obtain⟨b,hb,he,rfl⟩:=Vp d hd;obtain⟨p,hp,fr,hr,rfl⟩:=uD.1 hf;have⟨_,f2,_⟩:=uC (h.ok.shape b hb p hp) hr;rw[f2]at hM;have⟨k3,kg⟩:=yi h hb he hp hr (of_decide_eq_true hM);have e:(ei bs).base (jK fr.key)=oh (jK fr.key):=sB h k3;refine⟨tw h k3,?_,?_⟩;.show fj ((ei bs).base (jK fr.key))=true\/(ei bs).base (jK fr.key)=13;rw[e];exact Pz k3 kg
  .show iJ ((ei bs).base (jK fr.key))=fi jm (jK fr.key);rw[e];exact DT k3
 .obtain⟨b,hb,he,rfl⟩:=Vp d hd
  have e:(lY b).fs.map (·.num)=(b.parts.flatMap (λp=>p.fields.map (λf=>jc f.num.1))).map (λn:Nat=>(n:Int)):=by
   show(b.parts.flatMap λp=>p.fields.map (gW p.oneof)).map (·.num)=_;rw[List.map_flatMap,List.map_flatMap];congr 1;funext p;rw[bJ,bJ];rfl
  rw[e];exact List.Pairwise.map _ (λa b Vq e=>Vq Vc) (h.ok.chk b hb he).nums
end Go.Proofs.YtfebdimolnobaaaGreatDoor
