import Derived.Test.YtfebdimolnobaaaGreatDoorPlM
set_option maxRecDepth 100000
set_option maxHeartbeats 8000000
set_option linter.all false
namespace Go.Proofs.YtfebdimolnobaaaGreatDoor
open Go.RowKit Go.Proofs.Tryz
section
open Go.Maps
attribute [local go_sem↓] Go.wp_at_zero Go.wp_at_succ
def Co {bs:List dO}(h:jt bs):Cf (dV bs):=λt d hd n f hf=>by
 obtain⟨b,hb,rfl⟩:=aQ.1 (iP hd);obtain⟨Ri,Rj⟩:=bN.1 hb;obtain⟨_,hm⟩:=eT hf;obtain⟨p,hp,hq⟩:=List.mem_flatMap.1 hm;obtain⟨fr,hr,rfl⟩:=aQ.1 hq;have:=(h.ok.chk b Ri (by simpa using Rj)).flds p hp fr hr;have h1:=this.lo;have h2:=this.hi;show 0<=((gA fr.num.1:Nat):Int)/\((gA fr.num.1:Nat):Int)<=536870911;omega
section
variable {ks:au} {K:an->Prop} {E B:Nat}
def FZ (hK:ld E B K)(ok:Bool)(v:am)(w:an)(hk0:K w)(q0 q1 q2 q3 mb:Nat)(a:aw)(n c:Nat)(unk:am)(hc0:w.cell? (ai q0 0)=some (aa 1))(hc1:w.cell? (ai q1 0)=some (ag mb))(hc2:dK w q2 #[.slice a n c,ae unk] 49)
  (h:Calls prog 54 #[ag mb,.agg #[.slice a n c,ae unk]] w (jC ok (Value.string v) w)):
  Calls prog 53 #[ag q0,ag q1,ag q2,ag q3] w (jZ ks K ok (Value.string v) w):=by
 obtain⟨k1,k2⟩:=hc2.rules;go_enter func53,ntmps53;go_wp2_with fail;refine h.mono ?_;intro e w2 hr;have QS:∀w2,aj w w2->K w2:=λw2 b2=>hK w w2 hk0 b2.size λz _ hl=>b2.block z hl
 rcases hr.part with⟨rfl,rfl,b2⟩|⟨rfl,y,z,rfl,b2⟩
 ·go_wp2;go_ret;exact⟨.of_below b2,QS w2 b2,rfl⟩
 ·unfold dI;go_wp2;exact⟨rfl,.of_below b2,QS w2 b2,y,_,rfl⟩
def F0 (hK:ld E B K)(ok:Bool)(v:am)(w:an)(q0 q1 q2 q3 mb sb kp:Nat)(sv:Value)(a:aw)(n c:Nat)(unk:am)(hc0:w.cell? (ai q0 0)=some (aa 2))(hc1:w.cell? (ai q1 0)=some (ag mb))(hc2:dK w q2 #[.slice a n c,ae unk] 49)(hc3:w.cell? (ai q3 0)=some (ag sb))(hs:dK w sb #[sv,ag kp] 92)
  (hq:q1∉ks/\q2∉ks/\q3∉ks/\sb∉ks)
  (h:Calls prog 48 #[ag kp,ag mb] w.drew λe w1=>∃p,e= .returned (ag p)/\dS ks w.drew w1/\K w1/\Calls prog 55 #[ag p,.agg #[.slice a n c,ae unk]] w1 (jC ok (Value.string v) w1)):
  Calls prog 53 #[ag q0,ag q1,ag q2,ag q3] w (jZ ks K ok (Value.string v) w):=by
 have l1:q1<w.heap.size:=aP _ _ hc1;have l3:q3<w.heap.size:=aP _ _ hc3
 have HS:Hid (∀W:an,dS ks w W->W.cell? (ai q1 0)=some (ag mb)/\W.cell? (ai q2 0)=some (.slice a n c)/\W.cell? (ai q2 1)=some (ae unk)/\W.cell? (ai q3 0)=some (ag sb)/\W.cell? (ai sb 1)=some (ag kp)):=λW hk=>
  ⟨(bj (a:=(ai q1 0)) (hk.block q1 l1 hq.1)).trans hc1,(hc2.kept hk hq.2.1).cell 0,(hc2.kept hk hq.2.1).cell 1,(bj (a:=(ai q3 0)) (hk.block q3 l3 hq.2.2.1)).trans hc3,(hs.kept hk hq.2.2.2).cell 1⟩
 have e0:=HS.out w.drew (dS.refl _ w).drew;clear hc1 hc3;go_enter func53,ntmps53;go_upto_region 3 with fail
 go_region_held2 (λW=>W.cell? (ai q1 0)=some (ag mb)/\W.cell? (ai q2 0)=some (.slice a n c)/\W.cell? (ai q2 1)=some (ae unk)/\W.cell? (ai q3 0)=some (ag sb)/\W.cell? (ai sb 1)=some (ag kp))
  (first|exact HS.out _ QU|exact HS.out _ QP|exact e0)
  (first
   |(
     go_at_call 48;refine h.mono ?_;rintro e w2 ⟨p,rfl,Q1,QS,Rf⟩
     have QP:=dS.ofDrew Q1)
   |(
     go_at_call 55;refine Rf.mono ?_;intro e w3 Rg
     rcases Rg.part with⟨rfl,rfl,b3⟩|⟨rfl,y,z,rfl,b3⟩
     rotate_left
     ·have QU:=QP.trans (dS.of_below b3);have QV:=hK w2 w3 QS b3.size λz _ hl=>b3.block z hl
      unfold dI;go_wp2;exact⟨rfl,QU,QV,y,_,rfl⟩
     have QU:=QP.trans (dS.of_below b3)
     have QV:=hK w2 w3 QS b3.size λz _ hl=>b3.block z hl))
 all_goals
  go_wp2;go_ret;exact⟨QU,QV,rfl⟩
end
def kh (S:d8)(nm:am)(m:PM):am×Int:=
 match S.msg nm with
 |none=>(⟨#[]⟩,5)
 |some d=>(if dN S 8 d m=true then⟨(d9 S 8 d m).toArray⟩else⟨#[]⟩,if dN S 8 d m=true then 0 else 12)
def F3 (w:an)(sb:Nat)(sv kv:Value)(bs:List dO)(y:List YM)(P:ap)(nm:am)(Z:ap)(k:Nat)(mv:Value)(m:PM)(h1:dK w sb #[sv,kv] 92)(hM:eV w P sv bs y)(h:jt bs)(hu:UOK w)(hMi:iy k w Z mv m)(hO:nR k m)(hl:∀d,(dV bs).msg nm=some d->(d9 (dV bs) 8 d m).length<=140737488355328):
  Calls prog 24 #[ag sb,aa 1,ae nm,.agg #[mv,ae m.unk]] w λe w'=>e= .returned (.tuple #[Value.string (kh (dV bs) nm m).1,aa (kh (dV bs) nm m).2])/\aj w w':=by
 obtain⟨a,c,rfl⟩:=hMi.form;refine(yA (ks:= []) (K:=λ_=>True) _ w QE (λ_ _ _ _ _=>trivial) trivial sb sv kv bs y P nm a m.fs.length c m.unk 1 h1 hM (lN hM h) (.inl rfl) (λQ2=> ?_) (λi ym hi hn=> ?_)).mono λe w' q=>⟨q.1,q.2.1.to_below (ay _) QE⟩
 ·unfold kh;rw[nL hM Q2]
 ·obtain⟨d,gs,g1,g2,g3,g4⟩:=wy hM h hi hn;have cx:=sJ hM h hu;refine⟨dN (dV bs) 8 d m,⟨(d9 (dV bs) 8 d m).toArray⟩,by unfold kh;rw[g1],λw0 q0 q1 q2 q3 hb _ _ c0 c1 c2 _=> ?_⟩;exact FZ (E:=0) (B:=0) (λ_ _ _ _ _=>trivial) _ _ w0 trivial q0 q1 q2 q3 ym.1.2 a _ c m.unk c0 c1 c2 (IE (Co h) w0 Z _ m d ym.1.2 gs d.name k (cx.on hb) (g2.keep λx q _=>hb.block x q) g3 (Co h _ _ g1) (hMi.below hb (ay _)) hO (hl d g1))
def F4 (MK:m9)(w:an)(sb kp mk:Nat)(sv:Value)(bs:List dO)(y:List YM)(P:ap)(nm:am)(Z:ap)(k:Nat)(mv:Value)(m:PM)(h1:dK w sb #[sv,ag kp] 92)(hM:eV w P sv bs y)(h:jt bs)(hu:UOK w)(hMi:iy k w Z mv m)(hZ:¬Z mk/\¬Z kp)(hO:nR k m)(hl:∀d,(dV bs).msg nm=some d->(d9 (dV bs) 8 d m).length<=140737488355328)
  (Y:ap) (hp:gZ w kp mk (dV bs) (kB (y.map (·.1))) Y) (hY:∀x,P x->Y x) (hP:∀x,P x->x≠mk/\x≠kp) (hsb:sb≠mk/\sb≠kp) (hu1:2≠mk/\2≠kp) (hu2:3≠mk/\3≠kp):
  Calls prog 24 #[ag sb,aa 2,ae nm,.agg #[mv,ae m.unk]] w λe w'=>e= .returned (.tuple #[Value.string (kh (dV bs) nm m).1,aa (kh (dV bs) nm m).2])/\dS [mk,kp] w w'/\gZ w' kp mk (dV bs) (kB (y.map (·.1))) λx=>(Y x/\x<w.heap.size)\/(w.heap.size+6<=x/\¬False):=by
 obtain⟨a,c,rfl⟩:=hMi.form;obtain⟨N,pm,ok0⟩:=id hp;have QW:=ok0.kb.lt;have QR:=ok0.mb.lt;have Q5:ld w.heap.size (w.heap.size+6) λw'=>gZ w' kp mk (dV bs) (kB (y.map (·.1))) λx=>(Y x/\x<w.heap.size)\/(w.heap.size+6<=x/\¬False):=gZ.still (Z:=λ_=>False) QW QR
 have Q6:∀x∈ [mk,kp],x<w.heap.size:=λx hx=>by
  simp only[aN,bF,or_false]at hx
  rcases hx with rfl|rfl
  ·exact QR
  ·exact QW
 have QT:∀x,x≠mk->x≠kp->x∉ [mk,kp]:=λx h1 h2=>by simp[h1,h2]
 refine yA _ w Q6 Q5 (hp.less λx hy hl=> .inl ⟨hy,hl⟩) sb sv _ bs y P nm a m.fs.length c m.unk 2 h1 hM (lN hM h) (.inr rfl) (λQ2=> ?_) (λi ym hi hn=> ?_)
 ·unfold kh;rw[nL hM Q2]
 ·have Q7:eV w (λx=>P x/\x<w.heap.size) sv bs y:=hM.mono λx q hl=>⟨q,hl⟩
  obtain⟨d,gs,g1,g2,g3,g4,g5⟩:=sU Q7 h hi hn;have Q8:=lc g1;refine⟨dN (dV bs) 8 d m,⟨(d9 (dV bs) 8 d m).toArray⟩,by unfold kh;rw[g1],λw0 q0 q1 q2 q3 hb hsz Q3 c0 c1 c2 c3=> ?_⟩;have QX:∀q,w.heap.size<=q->q∉ [mk,kp]:=λq hq hx=>by have:=Q6 q hx;omega
  refine F0 Q5 _ _ w0 q0 q1 q2 q3 ym.1.2 sb kp sv a _ c m.unk c0 c1 c2 c3 (h1.below hb h1.lt) ⟨QX _ Q3.2.1,QX _ Q3.2.2.1,QX _ Q3.2.2.2,QT sb hsb.1 hsb.2⟩ ?_;have QQ:aj w w0.drew:=hb.drew;have Ra:eV w0.drew P sv bs y:=hM.keep λx _ hl=>QQ.block x hl
  have Rb:∀x,(P x/\x<w.heap.size)->x<w.heap.size/\x≠mk/\x≠kp:=λx q=>⟨q.2,hP x q.1⟩
  have md:=(rM Q7 h).keep (w':=w0.drew) λx q _=>QQ.block x q.2
  have Rc:w0.drew.heap.size=w.heap.size+6:=hsz
  have I1:yx kp mk w.heap.size 0 (dV bs) (kB (y.map (·.1))) (λx=>P x/\x<w.heap.size) w0.drew N pm [] λx=>(Y x/\x<w.heap.size)\/(w.heap.size+6<=x/\¬False):=
   ⟨(ok0.less λx hy hl=> .inl ⟨hy,hl⟩).keep (λx hl=>QQ.block x hl),md,QQ.size,QE,λx hx=> .inl ⟨hY x hx.1,hx.2⟩,λx hx=> .inr ⟨QD,id⟩,Rb,QW,QR⟩
  refine(MZ kp mk w.heap.size (dV bs) (kB (y.map (·.1))) _ MK w0.drew N pm ym.1.2 d gs _ I1 (by rw[Q8];exact g1) (g2.keep λx q _=>QQ.block x q.2) g3 g5).mono ?_;rintro en w2 ⟨p,N',Q9,rfl,Rh,ok2,Rk,QP⟩;refine⟨p,rfl,QP,⟨N',Q9,ok2⟩,?_⟩;have Re:eV w2 P sv bs y:=Ra.keep λx q hl=>QP.block x hl (QT x (hP x q).1 (hP x q).2)
  have QY:UOK w0.drew:=hu.keep (QQ.block _ hu.lt1) (QQ.block _ hu.lt2);have QZ:UOK w2:=QY.keep (QP.block _ QY.lt1 (QT _ hu1.1 hu1.2)) (QP.block _ QY.lt2 (QT _ hu2.1 hu2.2));have cx:=sJ Re h QZ
  have pc:mr w2 (λx=>x<w2.heap.size) (dV bs) (kB (y.map (·.1))) Q9:=λt q hq=>by
   rcases ok2.pl t q hq with⟨z,_⟩|⟨d',Q4,z1,z2,z3⟩
   ·cases z
   ·exact⟨d',Q4,z1,z3.move (.mono λx _ hl=>hl) (λ_ _ q=>q),z2⟩
  obtain⟨d',Q4,z1,z2,z3⟩:=pc _ _ Rh
  obtain rfl:d=d':=by
   rw[Q8,g1]at z1;exact Option.some.inj z1
  have Q0:iy k w2 Z (.slice a m.fs.length c) m:=(hMi.below QQ (ay _)).keep λx q hl=>QP.block x hl (QT x (λe=>hZ.1 (e▸q)) (λe=>hZ.2 (e▸q)))
  exact IK (Co h) w2 Z _ m d p Q4 k cx pc z2 z3 (Co h _ _ g1) Q0 hO (hl d g1)
def yC (MK:m9)(w:an)(sb kp mk:Nat)(bs:List dO)(P:ap)(nm:am)(way:Int)(Z:ap)(k:Nat)(mv:Value)(m:PM)(hs:kH w sb kp mk bs P)(h:jt bs)(hu:UOK w)(hw:way=1\/way=2)(hu1:¬P 2)(hu2:¬P 3)(hMi:iy k w Z mv m)(hZ:∀b,Z b->¬P b)(hO:nR k m)(hl:∀d,(dV bs).msg nm=some d->(d9 (dV bs) 8 d m).length<=140737488355328):
  Calls prog 24 #[ag sb,aa way,ae nm,.agg #[mv,ae m.unk]] w λe w'=>e= .returned (.tuple #[Value.string (kh (dV bs) nm m).1,aa (kh (dV bs) nm m).2])/\dS [mk,kp] w w'/\kH w' sb kp mk bs λx=>(P x/\x<w.heap.size)\/w.heap.size<=x:=by
 obtain⟨v,y,h1,⟨a1,a2,a3,a4,a5⟩,h3,h4⟩:=id hs
 rcases hw with rfl|rfl
 ·exact(F3 w sb v _ bs y _ nm Z k mv m h1 h3 h hu hMi hO hl).mono λe w' q=>⟨q.1,.of_below q.2,(hs.less (P':=λx=>(P x/\x<w.heap.size)\/w.heap.size<=x) λx q hl=> .inl ⟨q,hl⟩).keep λx _ hl=>q.2.block x hl⟩
 ·have QR:mk<w.heap.size/\kp<w.heap.size:=by
   obtain⟨_,_,h5⟩:=h4;exact⟨h5.mb.lt,h5.kb.lt⟩
  refine(F4 MK w sb kp mk v bs y _ nm Z k mv m h1 h3 h hu hMi ⟨λq=>hZ _ q a3,λq=>hZ _ q a2⟩ hO hl _ h4 (λx q=>q.1) (λx q=>⟨q.2.2.2,q.2.2.1⟩) ⟨a5,a4⟩ ⟨λe=>hu1 (e▸a3),λe=>hu1 (e▸a2)⟩ ⟨λe=>hu2 (e▸a3),λe=>hu2 (e▸a2)⟩).mono λe w' q=>⟨q.1,q.2.1,?_⟩
  have kw:=q.2.1;have hn:∀x,x≠kp->x≠mk->x<w.heap.size->w'.heap[x]?=w.heap[x]?:=λx q1 q2 hl=>kw.block x hl (by simp[q1,q2])
  refine⟨v,y,(hn sb a4 a5 h1.lt).trans h1,⟨.inl ⟨a1,h1.lt⟩,.inl ⟨a2,QR.2⟩,.inl ⟨a3,QR.1⟩,a4,a5⟩,(h3.mono (Q:=λx=>(P x/\x≠sb/\x≠kp/\x≠mk)/\x<w.heap.size) λx q hl=>⟨q,hl⟩).keep (λx q hl=>hn x q.1.2.2.1 q.1.2.2.2 hl)|>.mono λx q _=>⟨.inl ⟨q.1.1,q.2⟩,q.1.2⟩,?_⟩;exact q.2.2.less λx q _=>q.imp id λq=>QD
section
variable {ks:au} {K:an->Prop} {E B:Nat}
def Nh (hK:ld E B K)(ok:Bool)(v:Int)(w:an)(hk0:K w)(q0 q1 q2 q3 mb:Nat)(a:aw)(n c:Nat)(unk:am)(hc0:w.cell? (ai q0 0)=some (aa 1))(hc1:w.cell? (ai q1 0)=some (ag mb))(hc2:dK w q2 #[.slice a n c,ae unk] 49)
  (h:Calls prog 58 #[ag mb,.agg #[.slice a n c,ae unk]] w (jC ok (Value.int .i64 v) w)):
  Calls prog 57 #[ag q0,ag q1,ag q2,ag q3] w (jZ ks K ok (Value.int .i64 v) w):=by
 obtain⟨k1,k2⟩:=hc2.rules;go_enter func57,ntmps57;go_wp2_with fail;refine h.mono ?_;intro e w2 hr;have QS:∀w2,aj w w2->K w2:=λw2 b2=>hK w w2 hk0 b2.size λz _ hl=>b2.block z hl
 rcases hr.part with⟨rfl,rfl,b2⟩|⟨rfl,y,z,rfl,b2⟩
 ·go_wp2;go_ret;exact⟨.of_below b2,QS w2 b2,rfl⟩
 ·unfold dI;go_wp2;exact⟨rfl,.of_below b2,QS w2 b2,y,_,rfl⟩
def Ni (hK:ld E B K)(ok:Bool)(v:Int)(w:an)(q0 q1 q2 q3 mb sb kp:Nat)(sv:Value)(a:aw)(n c:Nat)(unk:am)(hc0:w.cell? (ai q0 0)=some (aa 2))(hc1:w.cell? (ai q1 0)=some (ag mb))(hc2:dK w q2 #[.slice a n c,ae unk] 49)(hc3:w.cell? (ai q3 0)=some (ag sb))(hs:dK w sb #[sv,ag kp] 92)
  (hq:q1∉ks/\q2∉ks/\q3∉ks/\sb∉ks)
  (h:Calls prog 48 #[ag kp,ag mb] w.drew λe w1=>∃p,e= .returned (ag p)/\dS ks w.drew w1/\K w1/\Calls prog 59 #[ag p,.agg #[.slice a n c,ae unk]] w1 (jC ok (Value.int .i64 v) w1)):
  Calls prog 57 #[ag q0,ag q1,ag q2,ag q3] w (jZ ks K ok (Value.int .i64 v) w):=by
 have l1:q1<w.heap.size:=aP _ _ hc1;have l3:q3<w.heap.size:=aP _ _ hc3
 have HS:Hid (∀W:an,dS ks w W->W.cell? (ai q1 0)=some (ag mb)/\W.cell? (ai q2 0)=some (.slice a n c)/\W.cell? (ai q2 1)=some (ae unk)/\W.cell? (ai q3 0)=some (ag sb)/\W.cell? (ai sb 1)=some (ag kp)):=λW hk=>
  ⟨(bj (a:=(ai q1 0)) (hk.block q1 l1 hq.1)).trans hc1,(hc2.kept hk hq.2.1).cell 0,(hc2.kept hk hq.2.1).cell 1,(bj (a:=(ai q3 0)) (hk.block q3 l3 hq.2.2.1)).trans hc3,(hs.kept hk hq.2.2.2).cell 1⟩
 have e0:=HS.out w.drew (dS.refl _ w).drew;clear hc1 hc3;go_enter func57,ntmps57;go_upto_region 3 with fail
 go_region_held2 (λW=>W.cell? (ai q1 0)=some (ag mb)/\W.cell? (ai q2 0)=some (.slice a n c)/\W.cell? (ai q2 1)=some (ae unk)/\W.cell? (ai q3 0)=some (ag sb)/\W.cell? (ai sb 1)=some (ag kp))
  (first|exact HS.out _ QU|exact HS.out _ QP|exact e0)
  (first
   |(
     go_at_call 48;refine h.mono ?_;rintro e w2 ⟨p,rfl,Q1,QS,Rf⟩
     have QP:=dS.ofDrew Q1)
   |(
     go_at_call 59;refine Rf.mono ?_;intro e w3 Rg
     rcases Rg.part with⟨rfl,rfl,b3⟩|⟨rfl,y,z,rfl,b3⟩
     rotate_left
     ·have QU:=QP.trans (dS.of_below b3);have QV:=hK w2 w3 QS b3.size λz _ hl=>b3.block z hl
      unfold dI;go_wp2;exact⟨rfl,QU,QV,y,_,rfl⟩
     have QU:=QP.trans (dS.of_below b3)
     have QV:=hK w2 w3 QS b3.size λz _ hl=>b3.block z hl))
 all_goals
  go_wp2;go_ret;exact⟨QU,QV,rfl⟩
end
def qf (S:d8)(nm:am)(m:PM):Int×Int:=
 match S.msg nm with
 |none=>(0,5)
 |some d=>(if dN S 8 d m=true then((d9 S 8 d m).length:Int)else 0,if dN S 8 d m=true then 0 else 12)
def Nj (w:an)(sb:Nat)(sv kv:Value)(bs:List dO)(y:List YM)(P:ap)(nm:am)(Z:ap)(k:Nat)(mv:Value)(m:PM)(h1:dK w sb #[sv,kv] 92)(hM:eV w P sv bs y)(h:jt bs)(hu:UOK w)(hMi:iy k w Z mv m)(hO:nR k m)(hl:∀d,(dV bs).msg nm=some d->(d9 (dV bs) 8 d m).length<=140737488355328):
  Calls prog 25 #[ag sb,aa 1,ae nm,.agg #[mv,ae m.unk]] w λe w'=>e= .returned (.tuple #[Value.int .i64 (qf (dV bs) nm m).1,aa (qf (dV bs) nm m).2])/\aj w w':=by
 obtain⟨a,c,rfl⟩:=hMi.form;refine(IF (ks:= []) (K:=λ_=>True) _ w QE (λ_ _ _ _ _=>trivial) trivial sb sv kv bs y P nm a m.fs.length c m.unk 1 h1 hM (lN hM h) (.inl rfl) (λQ2=> ?_) (λi ym hi hn=> ?_)).mono λe w' q=>⟨q.1,q.2.1.to_below (ay _) QE⟩
 ·unfold qf;rw[nL hM Q2]
 ·obtain⟨d,gs,g1,g2,g3,g4⟩:=wy hM h hi hn;have cx:=sJ hM h hu;refine⟨dN (dV bs) 8 d m,((d9 (dV bs) 8 d m).length:Int),by unfold qf;rw[g1],λw0 q0 q1 q2 q3 hb _ _ c0 c1 c2 _=> ?_⟩;exact Nh (E:=0) (B:=0) (λ_ _ _ _ _=>trivial) _ _ w0 trivial q0 q1 q2 q3 ym.1.2 a _ c m.unk c0 c1 c2 (wi (Co h) w0 Z _ m d ym.1.2 gs d.name k (cx.on hb) (g2.keep λx q _=>hb.block x q) g3 (Co h _ _ g1) (hMi.below hb (ay _)) hO (hl d g1))
def Nk (MK:m9)(w:an)(sb kp mk:Nat)(sv:Value)(bs:List dO)(y:List YM)(P:ap)(nm:am)(Z:ap)(k:Nat)(mv:Value)(m:PM)(h1:dK w sb #[sv,ag kp] 92)(hM:eV w P sv bs y)(h:jt bs)(hu:UOK w)(hMi:iy k w Z mv m)(hZ:¬Z mk/\¬Z kp)(hO:nR k m)(hl:∀d,(dV bs).msg nm=some d->(d9 (dV bs) 8 d m).length<=140737488355328)
  (Y:ap) (hp:gZ w kp mk (dV bs) (kB (y.map (·.1))) Y) (hY:∀x,P x->Y x) (hP:∀x,P x->x≠mk/\x≠kp) (hsb:sb≠mk/\sb≠kp) (hu1:2≠mk/\2≠kp) (hu2:3≠mk/\3≠kp):
  Calls prog 25 #[ag sb,aa 2,ae nm,.agg #[mv,ae m.unk]] w λe w'=>e= .returned (.tuple #[Value.int .i64 (qf (dV bs) nm m).1,aa (qf (dV bs) nm m).2])/\dS [mk,kp] w w'/\gZ w' kp mk (dV bs) (kB (y.map (·.1))) λx=>(Y x/\x<w.heap.size)\/(w.heap.size+6<=x/\¬False):=by
 obtain⟨a,c,rfl⟩:=hMi.form;obtain⟨N,pm,ok0⟩:=id hp;have QW:=ok0.kb.lt;have QR:=ok0.mb.lt;have Q5:ld w.heap.size (w.heap.size+6) λw'=>gZ w' kp mk (dV bs) (kB (y.map (·.1))) λx=>(Y x/\x<w.heap.size)\/(w.heap.size+6<=x/\¬False):=gZ.still (Z:=λ_=>False) QW QR
 have Q6:∀x∈ [mk,kp],x<w.heap.size:=λx hx=>by
  simp only[aN,bF,or_false]at hx
  rcases hx with rfl|rfl
  ·exact QR
  ·exact QW
 have QT:∀x,x≠mk->x≠kp->x∉ [mk,kp]:=λx h1 h2=>by simp[h1,h2]
 refine IF _ w Q6 Q5 (hp.less λx hy hl=> .inl ⟨hy,hl⟩) sb sv _ bs y P nm a m.fs.length c m.unk 2 h1 hM (lN hM h) (.inr rfl) (λQ2=> ?_) (λi ym hi hn=> ?_)
 ·unfold qf;rw[nL hM Q2]
 ·have Q7:eV w (λx=>P x/\x<w.heap.size) sv bs y:=hM.mono λx q hl=>⟨q,hl⟩
  obtain⟨d,gs,g1,g2,g3,g4,g5⟩:=sU Q7 h hi hn;have Q8:=lc g1;refine⟨dN (dV bs) 8 d m,((d9 (dV bs) 8 d m).length:Int),by unfold qf;rw[g1],λw0 q0 q1 q2 q3 hb hsz Q3 c0 c1 c2 c3=> ?_⟩;have QX:∀q,w.heap.size<=q->q∉ [mk,kp]:=λq hq hx=>by have:=Q6 q hx;omega
  refine Ni Q5 _ _ w0 q0 q1 q2 q3 ym.1.2 sb kp sv a _ c m.unk c0 c1 c2 c3 (h1.below hb h1.lt) ⟨QX _ Q3.2.1,QX _ Q3.2.2.1,QX _ Q3.2.2.2,QT sb hsb.1 hsb.2⟩ ?_;have QQ:aj w w0.drew:=hb.drew;have Ra:eV w0.drew P sv bs y:=hM.keep λx _ hl=>QQ.block x hl
  have Rb:∀x,(P x/\x<w.heap.size)->x<w.heap.size/\x≠mk/\x≠kp:=λx q=>⟨q.2,hP x q.1⟩
  have md:=(rM Q7 h).keep (w':=w0.drew) λx q _=>QQ.block x q.2
  have Rc:w0.drew.heap.size=w.heap.size+6:=hsz
  have I1:yx kp mk w.heap.size 0 (dV bs) (kB (y.map (·.1))) (λx=>P x/\x<w.heap.size) w0.drew N pm [] λx=>(Y x/\x<w.heap.size)\/(w.heap.size+6<=x/\¬False):=
   ⟨(ok0.less λx hy hl=> .inl ⟨hy,hl⟩).keep (λx hl=>QQ.block x hl),md,QQ.size,QE,λx hx=> .inl ⟨hY x hx.1,hx.2⟩,λx hx=> .inr ⟨QD,id⟩,Rb,QW,QR⟩
  refine(MZ kp mk w.heap.size (dV bs) (kB (y.map (·.1))) _ MK w0.drew N pm ym.1.2 d gs _ I1 (by rw[Q8];exact g1) (g2.keep λx q _=>QQ.block x q.2) g3 g5).mono ?_;rintro en w2 ⟨p,N',Q9,rfl,Rh,ok2,Rk,QP⟩;refine⟨p,rfl,QP,⟨N',Q9,ok2⟩,?_⟩;have Re:eV w2 P sv bs y:=Ra.keep λx q hl=>QP.block x hl (QT x (hP x q).1 (hP x q).2)
  have QY:UOK w0.drew:=hu.keep (QQ.block _ hu.lt1) (QQ.block _ hu.lt2);have QZ:UOK w2:=QY.keep (QP.block _ QY.lt1 (QT _ hu1.1 hu1.2)) (QP.block _ QY.lt2 (QT _ hu2.1 hu2.2));have cx:=sJ Re h QZ
  have pc:mr w2 (λx=>x<w2.heap.size) (dV bs) (kB (y.map (·.1))) Q9:=λt q hq=>by
   rcases ok2.pl t q hq with⟨z,_⟩|⟨d',Q4,z1,z2,z3⟩
   ·cases z
   ·exact⟨d',Q4,z1,z3.move (.mono λx _ hl=>hl) (λ_ _ q=>q),z2⟩
  obtain⟨d',Q4,z1,z2,z3⟩:=pc _ _ Rh
  obtain rfl:d=d':=by
   rw[Q8,g1]at z1;exact Option.some.inj z1
  have Q0:iy k w2 Z (.slice a m.fs.length c) m:=(hMi.below QQ (ay _)).keep λx q hl=>QP.block x hl (QT x (λe=>hZ.1 (e▸q)) (λe=>hZ.2 (e▸q)))
  exact ww (Co h) w2 Z _ m d p Q4 k cx pc z2 z3 (Co h _ _ g1) Q0 hO (hl d g1)
def IL (MK:m9)(w:an)(sb kp mk:Nat)(bs:List dO)(P:ap)(nm:am)(way:Int)(Z:ap)(k:Nat)(mv:Value)(m:PM)(hs:kH w sb kp mk bs P)(h:jt bs)(hu:UOK w)(hw:way=1\/way=2)(hu1:¬P 2)(hu2:¬P 3)(hMi:iy k w Z mv m)(hZ:∀b,Z b->¬P b)(hO:nR k m)(hl:∀d,(dV bs).msg nm=some d->(d9 (dV bs) 8 d m).length<=140737488355328):
  Calls prog 25 #[ag sb,aa way,ae nm,.agg #[mv,ae m.unk]] w λe w'=>e= .returned (.tuple #[Value.int .i64 (qf (dV bs) nm m).1,aa (qf (dV bs) nm m).2])/\dS [mk,kp] w w'/\kH w' sb kp mk bs λx=>(P x/\x<w.heap.size)\/w.heap.size<=x:=by
 obtain⟨v,y,h1,⟨a1,a2,a3,a4,a5⟩,h3,h4⟩:=id hs
 rcases hw with rfl|rfl
 ·exact(Nj w sb v _ bs y _ nm Z k mv m h1 h3 h hu hMi hO hl).mono λe w' q=>⟨q.1,.of_below q.2,(hs.less (P':=λx=>(P x/\x<w.heap.size)\/w.heap.size<=x) λx q hl=> .inl ⟨q,hl⟩).keep λx _ hl=>q.2.block x hl⟩
 ·have QR:mk<w.heap.size/\kp<w.heap.size:=by
   obtain⟨_,_,h5⟩:=h4;exact⟨h5.mb.lt,h5.kb.lt⟩
  refine(Nk MK w sb kp mk v bs y _ nm Z k mv m h1 h3 h hu hMi ⟨λq=>hZ _ q a3,λq=>hZ _ q a2⟩ hO hl _ h4 (λx q=>q.1) (λx q=>⟨q.2.2.2,q.2.2.1⟩) ⟨a5,a4⟩ ⟨λe=>hu1 (e▸a3),λe=>hu1 (e▸a2)⟩ ⟨λe=>hu2 (e▸a3),λe=>hu2 (e▸a2)⟩).mono λe w' q=>⟨q.1,q.2.1,?_⟩
  have kw:=q.2.1;have hn:∀x,x≠kp->x≠mk->x<w.heap.size->w'.heap[x]?=w.heap[x]?:=λx q1 q2 hl=>kw.block x hl (by simp[q1,q2])
  refine⟨v,y,(hn sb a4 a5 h1.lt).trans h1,⟨.inl ⟨a1,h1.lt⟩,.inl ⟨a2,QR.2⟩,.inl ⟨a3,QR.1⟩,a4,a5⟩,(h3.mono (Q:=λx=>(P x/\x≠sb/\x≠kp/\x≠mk)/\x<w.heap.size) λx q hl=>⟨q,hl⟩).keep (λx q hl=>hn x q.1.2.2.1 q.1.2.2.2 hl)|>.mono λx q _=>⟨.inl ⟨q.1.1,q.2⟩,q.1.2⟩,?_⟩;exact q.2.2.less λx q _=>q.imp id λq=>QD
end
def wz:Nat->PM->Nat
 |0,_=>0
 |k+1,m=>m.unk.size+(m.fs.map λx=>30+(x.2.map λv=>30+v.2.1.size+wz k v.2.2).sum).sum
def pp {α:Type}{g:α->List UInt8}{h:α->Nat}:∀{l:List α},(∀x∈l,(g x).length<=h x)->(l.flatMap g).length<=(l.map h).sum
 | [],_=>aM _
 |x::l,hx=>by
  have h1:=hx x aT;have h2:=pp (l:=l) λy hy=>hx y (be _ hy)
  grind
def sV (v:Int):(vi v).length<=10:=(mK 9 v).1
section
variable {S:d8} {R:MT->PM->List UInt8} {f:eP}
def Ai {v:PV}{W:Nat}(h:∀t,(R t v.2.2).length<=W):(fP S R f v).length<=10+v.2.1.size+W:=by
 unfold fP;have hs:v.2.1.data.toList.length=v.2.1.size:=QE
 split
 ·unfold eX;rw[aG]
  split
  ·rename_i t _
   have:=h t;have:=sV ((R t v.2.2).length:Int);omega
  ·have:=sV (([]:List UInt8).length:Int)
   grind
 ·split
  ·unfold eX;rw[aG,hs];have:=sV (v.2.1.size:Int);omega
  ·split
   ·rw[gY];omega
   ·split
    ·rw[gY];omega
    ·split
     ·have:=sV (zZ v.1);omega
     ·have:=sV v.1;omega
def Lj {l:List PV}{W:PV->Nat}(h:∀v∈l,∀t,(R t v.2.2).length<=W v):(jM S R f l).length<=30+(l.map λv=>30+v.2.1.size+W v).sum:=by
 have ht:∀n k,(eW n k).length<=10:=λn k=>(mK 9 (n*8+k)).1
 unfold jM
 split
 ·have h1:(mo S R f l).length<=(l.map λv=>30+v.2.1.size+W v).sum:=pp λv hv=>by
   have:=Ai (S:=S) (f:=f) (h v hv);omega
  have h2:=sV ((mo S R f l).length:Int);have h3:=ht f.num (nJ S f);unfold eX
  (simp;omega)
 ·have h1:(l.flatMap λv=>eW f.num (nJ S f)++fP S R f v).length<=(l.map λv=>30+v.2.1.size+W v).sum:=pp λv hv=>by
   have:=Ai (S:=S) (f:=f) (h v hv)
   grind
  omega
end
def qO {S:d8}:∀(n k:Nat) (d:MT) (m:PM),nR k m->(d9 S n d m).length<=wz k m
 |0,_,_,_,_=>aM _
 |_+1,0,_,_,h=>h.elim
 |n+1,k+1,d,m,h=>by
  rw[d9,wz,aG,show m.unk.data.toList.length=m.unk.size by simp]
  have:=pp (g:=jy S (d9 S n) d) (h:=λx:PF=>30+(x.2.map λv=>30+v.2.1.size+wz k v.2.2).sum) (l:=m.fs) λx hx=>by
   unfold jy
   split
   ·simp
   ·exact Lj λv hv t=>qO n k t v.2.2 ((h.2.2 x hx).2 v hv).2.2.2
  omega
abbrev tK:am:=⟨#[109,101,115,115,97,103,101,32,65,32,123,32,105,110,116,51,50,32,120,32,61,32,49,59,32,115,116,114,105,110,103,32,121,32,61,32,50,59,32,125]⟩
abbrev nK:am:=⟨#[65]⟩
abbrev iK:am:=⟨#[18,2,104,105,8,5]⟩
abbrev oK:am:=⟨#[8,5,18,2,104,105]⟩
def OV:Nat->PM->Bool
 |0,_=>false
 |k+1,m=>decide (m.fs.length<=1099511627776)&&decide (m.unk.size<=1099511627776)&&m.fs.all λx=>decide (x.2.length<=1099511627776)&&x.2.all λv=>decide (0<=v.1)&&decide (v.1<18446744073709551616)&&decide (v.2.1.size<=1099511627776)&&OV k v.2.2
def IM:∀{k:Nat} {m:PM},OV k m=true->nR k m
 |0,_,h=>by cases h
 |k+1,m,h=>by
  rw[OV]at h;simp only[aJ,dD,bO]at h;exact⟨h.1.1,h.1.2,λx hx=>⟨(h.2 x hx).1,λv hv=>⟨((h.2 x hx).2 v hv).1.1.1,((h.2 x hx).2 v hv).1.1.2,((h.2 x hx).2 v hv).1.2,IM ((h.2 x hx).2 v hv).2⟩⟩⟩
def Nl (bs:List dO):Bool:=
 (match il (dV bs) nK iK with
 | .ok m=>OV 9 m&&decide (wz 9 m<=1000)&&((kh (dV bs) nK m).1.data.toList==oK.data.toList)&&((kh (dV bs) nK m).2==0)&&((qf (dV bs) nK m).1==6)&&((qf (dV bs) nK m).2==0)
 | .error _=>false)
def Nm:(match iw tK with| .ok bs=>Nl bs| .error _=>false)=true:=QH
def Nn:∃bs m,iw tK= .ok bs/\il (dV bs) nK iK= .ok m/\nR 9 m/\wz 9 m<=1000/\(kh (dV bs) nK m).1=oK/\(kh (dV bs) nK m).2=0/\(qf (dV bs) nK m).1=6/\(qf (dV bs) nK m).2=0:=by
 have h:=Nm
 cases h1:iw tK with
 |error x=>rw[h1]at h;cases h
 |ok bs=>
  rw[h1]at h;change Nl bs=true at h;unfold Nl at h
  cases h2:il (dV bs) nK iK with
  |error x=>rw[h2]at h;cases h
  |ok m=>
   rw[h2]at h;simp only[aJ,dD,beq_iff_eq]at h;obtain⟨⟨⟨⟨⟨h3,h4⟩,h5⟩,h6⟩,h7⟩,h8⟩:=h;exact⟨bs,m,rfl,h2,IM h3,h4,cK (cN.1 h5),h6,h7,h8⟩
section
variable {P:Di} {Q:Value->PM->Prop} {Z:ap}
theorem IN (hPQ:∀mv m C,(∀b,C b->Z b)->P mv m C->Q mv m):∀{l:List PV} {ms:aq} {Y:ap},(∀b,Y b->Z b)->jq (λmv (v:PV) C=>P mv v.2.2 C) Y ms l->nx Q (qd ms l) l
 | [],[],_,_,_=>rfl
 |v::l,mv::ms,Y,hY,h=>by
  obtain⟨A,B,h1,h2,h3,h4,_⟩:=h;exact⟨mv,qd ms l,rfl,hPQ _ _ A (λb q=>hY b (h3 b q)) h1,IN hPQ (λb q=>hY b (h4 b q)) h2⟩
theorem IP {w:an}(hPQ:∀mv m C,(∀b,C b->Z b)->P mv m C->Q mv m):∀{l:List PF} {ms:aq} {Y:ap},(∀b,Y b->Z b)->jq (λvv (f:PF) A=>jE P w A vv f.2) Y ms l->lp Q w Z (qe ms l) l
 | [],[],_,_,_=>rfl
 |v::l,mv::ms,Y,hY,h=>by
  obtain⟨A,B,⟨ms',Y',q1,q2,q3,q4⟩,h2,h3,h4,_⟩:=h;refine⟨mv,qe ms l,rfl,⟨_,q1.mono λb q _=>hY b (h3 b q),IN hPQ (λb q=>hY b (h3 b (q3 b q))) q4⟩,IP hPQ (λb q=>hY b (h4 b q)) h2⟩
theorem o0.toIn:∀{k:Nat} {w:an} {v:Value} {m:PM} {Z:ap},o0 k w v m Z->pM k w Z v m
 |0,_,_,_,_,h=>h
 |k+1,w,v,m,Z,h=>by
  obtain⟨vvs,Y,h1,h2,h3,h4⟩:=h;exact⟨_,h1,IP (P:=o0 k w) (λmv m C hC hm=>pM.mono (λb q _=>hC b q) (o0.toIn hm)) h3 h4⟩
end
section
attribute [local go_sem↓] Go.wp_at_zero Go.wp_at_succ
inductive PZ (w:an)(mp:am->Option Nat)(g:GF)(fb:Nat)(pq:aw)(al:Int)(W:an):Array Bool->Act->Prop where
 |mk {l0 l1 l2 l3 l4 l5 l6 l7 l8 l9 l10 Ra Rb Q0 QX QY QZ Q2 Q3 Q4:Bool} {t3 t4 t5 t6 t7 t8 t9 Q5 Rc Re Rf Q6 Rg Rh Ri Rj Q7:Value} (bP bQ bR:Nat) (m1 m2:Nat) (f0:l0=true->t6=ag fb) (f1:l1=true->t7=ag fb) (f2:l2=true->t8= .pointer (some (ai fb 2))) (f3:l3=true->t9= .agg #[aa (iU mp g.f.ty),.pointer pq]) (f5:l5=true->Rc=ag fb) (f6:l6=true->Re=ag fb) (f7:l7=true->Rf=ag fb) (f8:l8=true->Q6=aa g.f.num) (f9:l9=true->Rg=ag fb) (QT:l10=true->Rh=ag fb) (QU:Ra=true->Ri= .pointer (some (ai fb 2))) (QV:Rb=true->Rj= .agg #[aa (iU mp g.f.ty),.pointer pq]) (QP:Q0=true->Q7=aa al) (B:aj w W) (xP:Bx (w.heap.size) W QX Q2 l4 t3 bP 478 Q5) (xQ:Bx (w.heap.size) W QY Q3 l8 t4 bQ 3 Q6) (xR:Bx (w.heap.size) W QZ Q4 Q0 t5 bR 235 Q7) (QQ:m8 QX QY bP bQ) (QR:m8 QX QZ bP bR) (QS:m8 QY QZ bQ bR) (oP:FM QX l4 bP m1 m2) (oQ:FM QY l4 bQ m1 m2) (oR:FM QZ l4 bR m1 m2) (V:l4=true->mm W (λb=>m1<=b/\b<m2) (iU mp g.f.ty) Q5/\w.heap.size<=m1/\m2<=W.heap.size):PZ w mp g fb pq al W #[l0,l1,l2,l3,l4,l5,l6,l7,l8,l9,l10,Ra,Rb,Q0,QX,QY,QZ,Q2,Q3,Q4] ⟨#[ag fb,undef,.nilFunc,t3,t4,t5,t6,t7,t8,t9,Q5,Rc,Re,Rf,Q6,Rg,Rh,Ri,Rj,Q7,undef],[]⟩
section
variable (w:an) (Q P:ap) (mp pm:am->Option Nat) (g:GF) (fb:Nat)
def tV (hQ:∀b,w.heap.size<=b->Q b)(h:eG w P mp g fb)(h4:g.form≠4)(hb:iU mp g.f.ty<=15):Calls prog 379 #[ag fb] w (jg w λw' v=>Ld w' Q mp g v):=by
 have hmf:= @ti;obtain⟨pv,rv,h1,_,Q1,Rl⟩:=h.blk;have Rn:ee mp g=iU mp g.f.ty:=by unfold ee;rw[dA h4]
 rw[Rn]at h1;obtain⟨pq,rfl⟩:=gi Rl;obtain⟨ra,rn,rc,rfl⟩:=dL Q1.1;have hV:=λW=>ye W (iU mp g.f.ty) (.pointer pq) hb
 have hW:=λW=>oM W (iU mp g.f.ty) (.pointer pq) QD
 clear Rl Q1 h;have Q9:=h1.lt;obtain⟨al,Rm⟩:∃al:Int,(ei (iU mp g.f.ty):Int)=al:=⟨_,rfl⟩;rw[Rm]at hW;go_enter func379,ntmps379;go_upto_region 1 with fail
 go_cut [3,4,5]from 6 to 19 (λx y z wx=>∃vb nb ab vv,x=ag vb/\y=ag nb/\z=ag ab/\dK wx vb #[vv] 478/\dK wx nb #[aa g.f.num] 3/\dK wx ab #[aa al] 235/\mm wx Q (iU mp g.f.ty) vv/\w.heap.size<=vb/\w.heap.size<=nb/\w.heap.size<=ab/\aj w wx)
 case first=>
  refine jH (λL a W=>PZ w mp g fb pq al W L a) QI ⟨0,0,0,0,0,nofun,nofun,nofun,nofun,nofun,nofun,nofun,nofun,nofun,nofun,nofun,nofun,nofun,(Below.refl _ _).drew,Bx.start,Bx.start,Bx.start,nofun,nofun,nofun,nofun,nofun,nofun,nofun⟩ QI ?_ ?_
  ·rintro L a W @⟨l0,l1,l2,l3,l4,l5,l6,l7,l8,l9,l10,Ra,Rb,Q0,QX,QY,QZ,Q2,Q3,Q4,t3,t4,t5,t6,t7,t8,t9,Q5,Rc,Re,Rf,Q6,Rg,Rh,Ri,Rj,Q7,bP,bQ,bR,m1,m2,f0,f1,f2,f3,f5,f6,f7,f8,f9,QT,QU,QV,QP,B,xP,xQ,xR,QQ,QR,QS,oP,oQ,oR,V⟩ QW;obtain rfl:l4=true:=QW 4 QG;obtain rfl:l8=true:=QW 8 QG;obtain rfl:Q0=true:=QW 13 QG;obtain rfl:QX=true:=QW 14 QG;obtain rfl:QY=true:=QW 15 QG;obtain rfl:QZ=true:=QW 16 QG;obtain rfl:Q2=true:=QW 17 QG;obtain rfl:Q3=true:=QW 18 QG;obtain rfl:Q4=true:=QW 19 QG;obtain⟨rfl,zP,_⟩:=xP.made rfl;obtain⟨rfl,zQ,_⟩:=xQ.made rfl;obtain⟨rfl,zR,_⟩:=xR.made rfl;obtain rfl:=f8 rfl;obtain rfl:=QP rfl;obtain⟨v1,v2,v3⟩:=V rfl;have KP:=xP.put rfl;have KQ:=xQ.put rfl;have KR:=xR.put rfl;go_wp2;go_meet
   case rel=>exact⟨_,_,_,_,rfl,rfl,rfl,KP,KQ,KR,v1.move (λb q l=>⟨hQ b QD,rfl⟩),zP,zQ,zR,B⟩
  refine .cons ?_ (.cons ?_ (.cons ?_ (.cons ?_ (.cons ?_ (.cons ?_ (.cons ?_ (.cons ?_ (.cons ?_ (.cons ?_ (.cons ?_ (.cons ?_ (.cons ?_ (.cons ?_ (.cons ?_ (.cons ?_ (.cons ?_ (.cons ?_ (.cons ?_ (.cons ?_ .nil)))))))))))))))))))
  all_goals
   rintro L a W ⟨bP,bQ,bR,m1,m2,f0,f1,f2,f3,f5,f6,f7,f8,f9,QT,QU,QV,QP,B,xP,xQ,xR,QQ,QR,QS,oP,oQ,oR,V⟩ h0 hd K hK;subst h0
  ·clear hd;go_simp;refine hK.out _ _ ?_;simp only[QC];exact⟨bP,bQ,bR,m1,m2,λ_=>rfl,f1,f2,f3,f5,f6,f7,f8,f9,QT,QU,QV,QP,B,xP,xQ,xR,QQ,QR,QS,oP,oQ,oR,V⟩
  ·obtain rfl:=eC (k:=0) hd QI;obtain rfl:=f0 rfl;clear hd;go_simp;refine hK.out _ _ ?_;simp only[QC];exact⟨bP,bQ,bR,m1,m2,λ_=>rfl,λ_=>rfl,f2,f3,f5,f6,f7,f8,f9,QT,QU,QV,QP,B,xP,xQ,xR,QQ,QR,QS,oP,oQ,oR,V⟩
  ·obtain rfl:=eC (k:=1) hd QI;obtain rfl:=f1 rfl;clear hd;go_simp;refine hK.out _ _ ?_;simp only[QC];exact⟨bP,bQ,bR,m1,m2,f0,λ_=>rfl,λ_=>rfl,f3,f5,f6,f7,f8,f9,QT,QU,QV,QP,B,xP,xQ,xR,QQ,QR,QS,oP,oQ,oR,V⟩
  ·obtain rfl:=eC (k:=2) hd QI;obtain rfl:=f2 rfl;have KF:=h1.below B Q9;obtain⟨k1,k2⟩:=KF.rules;clear hd;go_simp;refine hK.out _ _ ?_;simp only[QC];exact⟨bP,bQ,bR,m1,m2,f0,f1,λ_=>rfl,λ_=>rfl,f5,f6,f7,f8,f9,QT,QU,QV,QP,B,xP,xQ,xR,QQ,QR,QS,oP,oQ,oR,V⟩
  ·obtain rfl:=eC (k:=3) hd QI;obtain rfl:=f3 rfl;clear hd;go_simp;go_wp2_with (first|(go_at_call 420;refine(hV _).mono ?_;rintro e w2 ⟨vv,rfl,Q8,b2⟩))
   refine hK.out _ _ ?_;simp only[QC];exact⟨bP,bQ,bR,W.heap.size,w2.heap.size,f0,f1,f2,λ_=>rfl,f5,f6,f7,f8,f9,QT,QU,QV,QP,(dG B b2),((xP.below b2).val _),(xQ.below b2),(xR.below b2),QQ,QR,QS,(λe _=> .inl (xP.lt e)),(λe _=> .inl (xQ.lt e)),(λe _=> .inl (xR.lt e)),(λ_=>⟨Q8.move (λb q l=>⟨⟨q,l⟩,rfl⟩),B.size,ay _⟩)⟩
  ·clear hd;go_simp;refine hK.out _ _ ?_;simp only[QC];exact⟨bP,bQ,bR,m1,m2,f0,f1,f2,f3,λ_=>rfl,f6,f7,f8,f9,QT,QU,QV,QP,B,xP,xQ,xR,QQ,QR,QS,oP,oQ,oR,V⟩
  ·obtain rfl:=eC (k:=5) hd QI;obtain rfl:=f5 rfl;clear hd;go_simp;refine hK.out _ _ ?_;simp only[QC];exact⟨bP,bQ,bR,m1,m2,f0,f1,f2,f3,λ_=>rfl,λ_=>rfl,f7,f8,f9,QT,QU,QV,QP,B,xP,xQ,xR,QQ,QR,QS,oP,oQ,oR,V⟩
  ·obtain rfl:=eC (k:=6) hd QI;obtain rfl:=f6 rfl;clear hd;go_simp;refine hK.out _ _ ?_;simp only[QC];exact⟨bP,bQ,bR,m1,m2,f0,f1,f2,f3,f5,λ_=>rfl,λ_=>rfl,f8,f9,QT,QU,QV,QP,B,xP,xQ,xR,QQ,QR,QS,oP,oQ,oR,V⟩
  ·obtain rfl:=eC (k:=7) hd QI;obtain rfl:=f7 rfl;have KF:=h1.below B Q9;obtain⟨k1,k2⟩:=KF.rules;clear hd;go_simp;refine hK.out _ _ ?_;simp only[QC];exact⟨bP,bQ,bR,m1,m2,f0,f1,f2,f3,f5,f6,λ_=>rfl,λ_=>rfl,f9,QT,QU,QV,QP,B,xP,(xQ.val _),xR,QQ,QR,QS,oP,oQ,oR,V⟩
  ·clear hd;go_simp;refine hK.out _ _ ?_;simp only[QC];exact⟨bP,bQ,bR,m1,m2,f0,f1,f2,f3,f5,f6,f7,f8,λ_=>rfl,QT,QU,QV,QP,B,xP,xQ,xR,QQ,QR,QS,oP,oQ,oR,V⟩
  ·obtain rfl:=eC (k:=9) hd QI;obtain rfl:=f9 rfl;clear hd;go_simp;refine hK.out _ _ ?_;simp only[QC];exact⟨bP,bQ,bR,m1,m2,f0,f1,f2,f3,f5,f6,f7,f8,λ_=>rfl,λ_=>rfl,QU,QV,QP,B,xP,xQ,xR,QQ,QR,QS,oP,oQ,oR,V⟩
  ·obtain rfl:=eC (k:=10) hd QI;obtain rfl:=QT rfl;clear hd;go_simp;refine hK.out _ _ ?_;simp only[QC];exact⟨bP,bQ,bR,m1,m2,f0,f1,f2,f3,f5,f6,f7,f8,f9,λ_=>rfl,λ_=>rfl,QV,QP,B,xP,xQ,xR,QQ,QR,QS,oP,oQ,oR,V⟩
  ·obtain rfl:=eC (k:=11) hd QI;obtain rfl:=QU rfl;have KF:=h1.below B Q9;obtain⟨k1,k2⟩:=KF.rules;clear hd;go_simp;refine hK.out _ _ ?_;simp only[QC];exact⟨bP,bQ,bR,m1,m2,f0,f1,f2,f3,f5,f6,f7,f8,f9,QT,λ_=>rfl,λ_=>rfl,QP,B,xP,xQ,xR,QQ,QR,QS,oP,oQ,oR,V⟩
  ·obtain rfl:=eC (k:=12) hd QI;obtain rfl:=QV rfl;clear hd;go_simp;go_wp2_with (first|(go_at_call 208;refine(hW _).mono ?_;rintro e w3 ⟨rfl,b3⟩))
   refine hK.out _ _ ?_;simp only[QC];exact⟨bP,bQ,bR,m1,m2,f0,f1,f2,f3,f5,f6,f7,f8,f9,QT,QU,λ_=>rfl,λ_=>rfl,(dG B b3),(xP.below b3),(xQ.below b3),((xR.below b3).val _),QQ,QR,QS,oP,oQ,oR,(λe=>⟨(V e).1.move (λb q l=>⟨q,b3.block b l⟩),(V e).2.1,aH (V e).2.2 b3.size⟩)⟩
  ·clear hd;go_simp;refine hK.out _ _ ?_;simp only[QC];exact⟨W.heap.size,bQ,bR,m1,m2,f0,f1,f2,f3,f5,f6,f7,f8,f9,QT,QU,QV,QP,(B.alloc B.size _),(xP.new B.size _),(xQ.alloc _),(xR.alloc _),(m8.new1 xQ),(m8.new1 xR),QS,(λ_ e=> .inr (V e).2.2),oQ,oR,(λe=>⟨(V e).1.move (λb q l=>⟨q,((Below.refl W.heap.size W).alloc (ay _) _).block b l⟩),(V e).2.1,aH (V e).2.2 ((Below.refl W.heap.size W).alloc (ay _) _).size⟩)⟩
  ·clear hd;go_simp;refine hK.out _ _ ?_;simp only[QC];exact⟨bP,W.heap.size,bR,m1,m2,f0,f1,f2,f3,f5,f6,f7,f8,f9,QT,QU,QV,QP,(B.alloc B.size _),(xP.alloc _),(xQ.new B.size _),(xR.alloc _),(m8.new2 xP),QR,(m8.new1 xR),oP,(λ_ e=> .inr (V e).2.2),oR,(λe=>⟨(V e).1.move (λb q l=>⟨q,((Below.refl W.heap.size W).alloc (ay _) _).block b l⟩),(V e).2.1,aH (V e).2.2 ((Below.refl W.heap.size W).alloc (ay _) _).size⟩)⟩
  ·clear hd;go_simp;refine hK.out _ _ ?_;simp only[QC];exact⟨bP,bQ,W.heap.size,m1,m2,f0,f1,f2,f3,f5,f6,f7,f8,f9,QT,QU,QV,QP,(B.alloc B.size _),(xP.alloc _),(xQ.alloc _),(xR.new B.size _),QQ,(m8.new2 xP),(m8.new2 xQ),oP,oQ,(λ_ e=> .inr (V e).2.2),(λe=>⟨(V e).1.move (λb q l=>⟨q,((Below.refl W.heap.size W).alloc (ay _) _).block b l⟩),(V e).2.1,aH (V e).2.2 ((Below.refl W.heap.size W).alloc (ay _) _).size⟩)⟩
  ·obtain rfl:=eC (k:=14) hd QI;obtain rfl:=eC (k:=4) hd QI;obtain⟨rfl,zP,yP⟩:=xP.made rfl;obtain⟨uP,cP,kP⟩:=gX yP;obtain⟨vf,Rk,rfl⟩:=(V rfl).1.form;clear hd;go_simp;refine hK.out _ _ ?_;simp only[QC];exact⟨bP,bQ,bR,m1,m2,f0,f1,f2,f3,f5,f6,f7,f8,f9,QT,QU,QV,QP,(B.setCell (p:=(ai bP 0)) zP _),xP.store,(xQ.other (λe=>QQ rfl e) _),(xR.other (λe=>QR rfl e) _),QQ,QR,QS,oP,oQ,oR,(λe=>⟨(V e).1.move (λb q l=>⟨q,dW (by have:=oP rfl e;omega)⟩),(V e).2.1,by simpa using(V e).2.2⟩)⟩
  ·obtain rfl:=eC (k:=15) hd QI;obtain rfl:=eC (k:=8) hd QI;obtain⟨rfl,zQ,yQ⟩:=xQ.made rfl;obtain⟨uQ,cQ,kQ⟩:=gX yQ;obtain rfl:=f8 rfl;clear hd;go_simp;refine hK.out _ _ ?_;simp only[QC];exact⟨bP,bQ,bR,m1,m2,f0,f1,f2,f3,f5,f6,f7,λ_=>rfl,f9,QT,QU,QV,QP,(B.setCell (p:=(ai bQ 0)) zQ _),(xP.other (λe=>QQ.symm rfl e) _),xQ.store,(xR.other (λe=>QS rfl e) _),QQ,QR,QS,oP,oQ,oR,(λe=>⟨(V e).1.move (λb q l=>⟨q,dW (by have:=oQ rfl e;omega)⟩),(V e).2.1,by simpa using(V e).2.2⟩)⟩
  ·obtain rfl:=eC (k:=16) hd QI;obtain rfl:=eC (k:=13) hd QI;obtain⟨rfl,zR,yR⟩:=xR.made rfl;obtain⟨uR,cR,kR⟩:=gX yR;obtain rfl:=QP rfl;clear hd;go_simp;refine hK.out _ _ ?_;simp only[QC];exact⟨bP,bQ,bR,m1,m2,f0,f1,f2,f3,f5,f6,f7,f8,f9,QT,QU,QV,λ_=>rfl,(B.setCell (p:=(ai bR 0)) zR _),(xP.other (λe=>QR.symm rfl e) _),(xQ.other (λe=>QS.symm rfl e) _),xR.store,QQ,QR,QS,oP,oQ,oR,(λe=>⟨(V e).1.move (λb q l=>⟨q,dW (by have:=oR rfl e;omega)⟩),(V e).2.1,by simpa using(V e).2.2⟩)⟩
 case rest=>
  obtain⟨vb,nb,ab,vv,rfl,rfl,rfl,h5,h6,h7,Q8,q1,q2,q3,b3⟩:=hcut;obtain⟨vf,Rk,rfl⟩:=Q8.form;go_wp2;go_ret;exact⟨_,rfl,⟨_,_,_,_,rfl,by rw[Rm];exact h7,h6,h5,Q8,hQ _ q3,hQ _ q2,hQ _ q1⟩,b3⟩
end
section
variable {S:d8} {R:MT->PM->Bool} {f:eP} {l:List PV}
def EI (n:Nat):((n==1)||decide (1<n))=decide (0<n):=by
 rw[cn];simp;omega
def F5 (hm:f.isMap=false)(hr:f.isRep=false)(hz:¬(gE f.how eS=true/\fB S f≠16)):fk S R f l=((l.length==1)&&l.all (ek S R f)):=by
 unfold fk og jY;rw[hm,hr,dA hz];simp
def F6 (hm:f.isMap=false)(hr:f.isRep=false)(hz:gE f.how eS=true/\fB S f≠16):fk S R f l=((l.length==1)&&l.all λx=> !(decide (x.1=0)&&nQ x.2.1)&&ek S R f x):=by
 unfold fk og jY;rw[hm,hr,dB hz]
 by_cases h1:l.length=1
 ·obtain⟨x,rfl⟩:=List.length_eq_one_iff.1 h1;simp[Bool.and_comm]
 ·have e:(l.length==1)=false:=by simpa using h1
  simp[e]
def F7 (hm:f.isMap=false)(hr:f.isRep=true)(hz:gE f.how eS=false):fk S R f l=(decide (0<l.length)&&l.all (ek S R f)):=by
 unfold fk og jY;rw[hm,hr,hz,<-EI];simp
def F8 (hm:f.isMap=true):fk S R f l=((decide (0<l.length)&&l.all (ek S R f))&&i8 (jD (S.base f.key)) none l):=by
 unfold fk og jY;rw[hm,<-EI];simp
def Ky.as {q q':List PV->Bool}{n g:Nat}{cap:aq}{W:an}(h:Ky q n g cap W)(he:∀l,q' l=q l):Ky q' n g cap W:=by
 obtain rfl:q'=q:=funext he;exact h
end
def tL (k:Nat):Nat:=if k=0\/k=4\/k=9\/k=15 then 347 else if k=2\/k=7\/k=11 then 348 else if k=6 then 351 else 411
def IQ (k:Nat)(x:Int):Int:=if k=0\/k=4\/k=9\/k=15 then lQ x else if k=2\/k=7\/k=11 then x%4294967296 else if k=6 then(if 0<x then 1 else 0)else x
def wA (a b:Int):(a==b)=(b==a):=by rw[cn];simp;exact eq_comm
def No (k:Nat)(x:Int):(IQ k x==x)=AJ k x:=by
 unfold IQ AJ
 split
 ·exact wA _ _
 ·split
  ·exact wA _ _
  ·split
   ·exact wA _ _
   ·simp
def DG (k:Nat):∀args w,(callFunc (tL k) args).run prog w= .ok (.enter (tL k) args) w:=by
 unfold tL
 split
 ·exact enters_of func347 QI rfl
 ·split
  ·exact enters_of func348 QI rfl
  ·split
   ·exact enters_of func351 QI rfl
   ·exact enters_of func411 QI rfl
def F9 (k:Nat)(W:an)(x:Int)(h0:0<=x):Calls prog (tL k) #[.int .u64 x] W λe w'=>e= .returned (.int .u64 (IQ k x))/\W=w':=by
 unfold tL IQ
 split
 ·exact(kD W x).mono λ_ _ h=>⟨h.1,h.2.symm⟩
 ·split
  ·exact(rj W x).mono λ_ _ h=>⟨h.1,h.2.symm⟩
  ·split
   ·exact(ui W x h0).mono λ_ _ h=>⟨h.1,h.2.symm⟩
   ·go_enter func411,ntmps411;go_wp2;go_ret;exact⟨rfl,rfl⟩
def Kp.back {Q:ap}{w w' W:an}(h:Kp Q w' W)(b:aj w w'):Kp Q w W:=λi q hi=>(h i q (aC hi b.size)).trans (b.block i hi)
def Kp.less {Q Q':ap}{w W:an}(h:Kp Q w W)(hq:∀b,Q' b->Q b):Kp Q' w W:=λi q hi=>h i (hq i q) hi
section
variable (w:an)
def OA (k:Nat)(hk:k<=16):Calls prog 363 #[aa k] w λe w'=>e= .returned (.func (.func (tL k)) #[] #[])/\w=w':=by
 rcases yn hk with rfl|rfl|rfl|rfl|rfl|rfl|rfl|rfl|rfl|rfl|rfl|rfl|rfl|rfl|rfl|rfl|rfl
 all_goals
  go_enter func363,ntmps363;go_wp2;go_ret;exact⟨rfl,rfl⟩
def tW (k:Nat)(pq iq:aw)(hk:k<=16):Calls prog 284 #[.agg #[aa k,.pointer pq],.pointer iq] w (jg w λw' v=>Om w' (λb=>w.heap.size<=b) k iq v):=by
 have QQ:= @ti;have hC:=λW=>OA W k hk
 obtain⟨B0,K1,K2⟩:=fK w #[aa k,.pointer pq] #[.pointer iq] 216 116;obtain⟨k1,k2⟩:=K1.rules
 by_cases h16:k=16
 ·subst h16;go_enter func284,ntmps284;go_wp2;go_ret;refine⟨_,rfl,⟨360,[ag (w.heap.size+1)],⟨rfl,enters_of func360 QI rfl⟩,λS fl n W hK hb hu QP=> ?_⟩,B0⟩;obtain⟨t,h1,h2⟩:=QP hb;exact Pb _ iq t (hK.bx QD K2) h2 hb h1
 ·by_cases h13:k=13
  ·subst h13;go_enter func284,ntmps284;go_wp2;go_ret;exact⟨_,rfl,⟨361,[],⟨rfl,enters_of func361 QI rfl⟩,λS fl n W hK hb hu QP=>Pc hu hb⟩,B0⟩
  ·by_cases h14:k=14
   ·subst h14;go_enter func284,ntmps284;go_wp2;go_ret;exact⟨_,rfl,⟨362,[],⟨rfl,enters_of func362 QI rfl⟩,λS fl n W hK hb hu QP=>Pd hb⟩,B0⟩
   ·have e16:((k:Int)==16)=false:=QF;have e13:((k:Int)==13)=false:=QF;have e14:((k:Int)==14)=false:=QF;go_enter func284,ntmps284;go_wp2_with fail;refine(hC _).mono ?_;rintro e w2 ⟨rfl,rfl⟩;go_wp2;go_ret;have B1:=(Below.refl _ _).alloc (ay _) (w:=(w.alloc (ak #[aa k,.pointer pq] 216)).alloc (ak #[.pointer iq] 116)) (ak #[.func (.func (tL k)) #[] #[]] 423);refine⟨_,rfl,⟨364,_,⟨rfl,enters_of func364 QI rfl⟩,λS fl n W hK hb hu QP=> ?_⟩,dG B0 B1⟩;refine Pe _ (tL k) (IQ k) (hK.bx (b:=w.heap.size+1+1) QD (dK.newAt QE _ _)) (DG k) (λW x h0 _=>F9 k W x h0) (λx=>by rw[hb];exact No k x) (by rw[hb];exact h16) (by rw[hb];exact h13) (by rw[hb];exact h14)
def IR (f:FuncId)(cap:Array Value):Calls prog 287 #[.func (.func f) #[] cap] w λe w'=>e= .returned (.func (.func 367) #[] #[ag w.heap.size])/\w.alloc (ak #[.func (.func f) #[] cap] 398)=w':=by
 have QQ:= @ti;go_enter func287,ntmps287;go_wp2;go_ret;exact⟨rfl,rfl⟩
def IS (f:FuncId)(cap:Array Value):Calls prog 286 #[.func (.func f) #[] cap] w λe w'=>e= .returned (.func (.func 366) #[] #[ag w.heap.size])/\w.alloc (ak #[.func (.func f) #[] cap] 398)=w':=by
 have QQ:= @ti;go_enter func286,ntmps286;go_wp2;go_ret;exact⟨rfl,rfl⟩
def Ga (f:FuncId)(cap:Array Value)(sg:Bool):Calls prog 285 #[.func (.func f) #[] cap,.bool sg] w λe w'=>
  ∃eb sb vb,e= .returned (.func (.func 365) #[] #[ag eb,ag sb])/\w.heap.size<=eb/\w.heap.size<=sb/\w.heap.size<=vb/\dK w' eb #[.func (.func 366) #[] #[ag vb]] 260/\dK w' sb #[.bool sg] 4/\dK w' vb #[.func (.func f) #[] cap] 398/\aj w w':=by
 have QQ:= @ti;have hE:=λW=>IS W f cap
 go_enter func285,ntmps285;go_wp2_with fail;refine(hE _).mono ?_;rintro e w2 ⟨rfl,rfl⟩;obtain⟨B2,K1,K2⟩:=fK w #[.bool sg] #[.func (.func f) #[] cap] 4 398;have s1:(w.alloc (ak #[.bool sg] 4)).heap.size=w.heap.size+1:=QE;rw[s1];go_wp2;go_ret;exact⟨w.heap.size+1+1,w.heap.size,w.heap.size+1,rfl,QD,QD,QD,dK.newAt QE _ _,K1.alloc _,K2.alloc _,dG B2 ((Below.refl _ _).alloc (ay _) _)⟩
end
def Lk {S:d8}{f:eP}(h:f.isMap=true):fB S f=16/\eR S f=some (eo f):=⟨by unfold fB;rw[h];rfl,by unfold eR;rw[h];rfl⟩
def wC (w:an)(P:ap)(mp:am->Option Nat)(g:GF)(fb:Nat)(iq:aw)(h:eG w P mp g fb):Calls prog 210 #[ag fb,.pointer iq] w (jg w λw' v=>FB w' (λb=>w.heap.size<=b) mp g iq v):=by
 have hmf:= @ti;obtain⟨pv,rv,h1,_,QT,QY⟩:=h.blk;obtain⟨pq,rfl⟩:=gi QY;obtain⟨ra,rn,rc,rfl⟩:=dL QT.1;have hV:=tW w (ee mp g) pq iq (kT mp g);have QZ:∀W,aj w W->eG W P mp g fb:=λW hW=>h.keep (λb _ hl=>hW.block b hl)
 clear QY QT h;obtain⟨k1,k2⟩:=h1.rules;go_enter func210,ntmps210;go_wp2_with fail;refine hV.mono ?_;rintro e w2 ⟨v2,rfl,⟨vf,QP,⟨rfl,QV⟩,HV⟩,b2⟩;have K2:=h1.below b2 h1.lt;have s2:=b2.size;have b3:∀o,aj w (w2.alloc o):=λo=>dG b2 ((Below.refl _ _).alloc (ay _) _)
 obtain⟨k3,k4⟩:=(K2.alloc (ak #[.func (.func vf) #[] QP.toArray] 398)).rules;have KV:=dK.new w2 #[.func (.func vf) #[] QP.toArray] 398;have hL:=λW=>IR W vf QP.toArray
 have hE:=λW=>IS W vf QP.toArray
 have hN:=λW sg=>Ga W vf QP.toArray sg
 have QU:Hid (∀(W3 W:an) (S:d8) (d:MT) (fl:eP) (n:Nat),aj w2 W3->Kp (λb=>w.heap.size<=b) W3 W->FG S mp d fl g->(∀W',Below W.heap.size W W'->UOK W')->(fB S fl=16->∃t,eR S fl=some t/\Fy S iq n t W)->Jr (ek S (dN S n) fl) n vf QP W):=λW3 W S d fl n hb hK fg hu QR=>HV S fl n W (hK.back hb) fg.gb.symm hu QR
 clear k1 k2 HV
 by_cases h4:g.form=4
 ·have f4:(g.form==4)=true:=by simp[h4]
  have Q0:=Ei _ P mp g fb (QZ (w2.alloc (ak #[.func (.func vf) #[] QP.toArray] 398)).drew (b3 _).drew) h4;have Q1:=λW pv=>nZ W (iU mp g.f.key) pv (sj mp _)
  have e0:=KV.cell 0;have b3':=b3 (ak #[.func (.func vf) #[] QP.toArray] 398);have Q2:aj w2 (w2.alloc (ak #[.func (.func vf) #[] QP.toArray] 398)):=(Below.refl _ _).alloc (ay _) _;go_upto_region 3 with fail
  generalize w2.alloc (ak #[.func (.func vf) #[] QP.toArray] 398)=w3 at*
  go_region_held2 (λW=>W.cell? (ai w2.heap.size 0)=some (.func (.func vf) #[] QP.toArray))
   (first|exact V6.cell 0|exact V5.cell 0|exact V4.cell 0|exact e0)
   (first|(go_at_call 188;refine Q0.mono ?_;rintro e w4 ⟨Q5,rfl,b4⟩;have V4:=dK.below (w:=w3.drew) KV b4 KV.lt)|(go_at_call 189;refine(Q1 w4 Q5).mono ?_;rintro e w5 ⟨rfl,b5⟩;have V5:=V4.below b5 V4.lt)|(go_at_call 285;refine(hN w5 _).mono ?_;rintro e w6 ⟨eb,sb,vb,rfl,q1,q2,q3,E1,E2,E3,b6⟩;have V6:=V5.below b6 V5.lt))
  all_goals
   go_wp2;go_ret;have B5:aj w2 w5:=dG Q2 (dG (dG (Below.refl _ _).drew b4) b5);have B6:=dG B5 b6;have s5:=B5.size;refine⟨_,rfl,⟨365,[ag eb,ag sb],⟨rfl,enters_of func365 QI rfl⟩,λS d fl n W hK fg hu QR=> ?_⟩,dG b2 B6⟩;have hm:fl.isMap=true:=by rw[fg.map,h4];rfl
   obtain⟨QW,QX⟩:=Lk (S:=S) hm;refine(Fz eb 366 sb [ag vb] (jD (iU mp g.f.key)) (hK.bx QD E1) (hK.bx QD E2) (enters_of func366 QI rfl) (Iv vb vf QP (hK.bx QD E3) QV (QU.out w6 W S d fl n B6 hK fg hu QR)) ?_).as λl=> ?_
   ·intro l k hO hl e he;rw[aJ]at hl;exact EB (sO (bO.1 hl.2 e he) QW QX) (hO.2 e he).2.2.2
   ·rw[F8 hm,fg.eq,(fg.key h4).1]
 ·have f4:(g.form==4)=false:=by simp[h4]
  by_cases h2:g.form=2
  ·have f2:(g.form==2)=true:=by simp[h2]
   go_wp2_with fail;refine(hE _).mono ?_;rintro e w4 ⟨rfl,rfl⟩;go_wp2;go_ret;have B4:aj w2 ((w2.alloc (ak #[.func (.func vf) #[] QP.toArray] 398)).alloc (ak #[.func (.func vf) #[] QP.toArray] 398)):=Below.a2 w2 _ _;refine⟨_,rfl,⟨366,[ag (w2.heap.size+1)],⟨rfl,enters_of func366 QI rfl⟩,λS d fl n W hK fg hu QR=> ?_⟩,dG b2 B4⟩;refine(Iv (w2.heap.size+1) vf QP (hK.bx QD (dK.newAt QE _ _)) QV (QU.out _ W S d fl n B4 hK fg hu QR)).as λl=> ?_
   exact F7 (by rw[fg.map];simp[h4]) (by rw[fg.rep];simp[h2]) (by rw[fg.sin];simp[h2])
  ·have f2:(g.form==2)=false:=by simp[h2]
   have QQ:∀(S:d8) (d:MT) (fl:eP),FG S mp d fl g->fl.isMap=false/\fl.isRep=false/\gE fl.how eS=decide (g.form=0):=λS d fl fg=>⟨by rw[fg.map];simp[h4],by rw[fg.rep];simp[h2],fg.sin⟩
   by_cases h0:g.form=0/\ee mp g≠16
   ·have f0:(g.form==0)=true:=by simp[h0.1]
    have Q3:((ee mp g:Int)==16)=false:=by have:=h0.2;simp;omega
    have Q4:=λW cap=>IR W 288 cap
    go_wp2_with fail;refine(Q4 _ _).mono ?_;rintro e w4 ⟨rfl,rfl⟩;go_wp2;go_ret;have B4:aj w2 ((w2.alloc (ak #[.func (.func vf) #[] QP.toArray] 398)).alloc (ak #[.func (.func 288) #[] #[ag w2.heap.size]] 398)):=Below.a2 w2 _ _;refine⟨_,rfl,⟨367,[ag (w2.heap.size+1)],⟨rfl,enters_of func367 QI rfl⟩,λS d fl n W hK fg hu QR=> ?_⟩,dG b2 B4⟩;refine(Iu (w2.heap.size+1) 288 [ag w2.heap.size] (hK.bx QD (dK.newAt QE _ _)) (enters_of func288 QI rfl) (FA w2.heap.size vf QP (hK.bx s2 (KV.alloc _)) QV (QU.out _ W S d fl n B4 hK fg hu QR))).as λl=> ?_
    obtain⟨m1,m2,m3⟩:=QQ S d fl fg;exact F6 m1 m2 ⟨by rw[m3];simp[h0.1],by rw[<-fg.gb];exact h0.2⟩
   ·have hz:∀(S:d8) (d:MT) (fl:eP),FG S mp d fl g->¬(gE fl.how eS=true/\fB S fl≠16):=λS d fl fg q=>h0 ⟨by have:=q.1;rw[fg.sin]at this;simpa using this,by rw[fg.gb];exact q.2⟩
    have HF:Hid (∀(S:d8) (d:MT) (fl:eP) (n:Nat) (W:an),Kp (λb=>w.heap.size<=b) ((w2.alloc (ak #[.func (.func vf) #[] QP.toArray] 398)).alloc (ak #[.func (.func vf) #[] QP.toArray] 398)) W->FG S mp d fl g->(∀W',Below W.heap.size W W'->UOK W')->(fB S fl=16->∃t,eR S fl=some t/\Fy S iq n t W)->Ky (fk S (dN S n) fl) n 367 [ag (w2.heap.size+1)] W):=λS d fl n W hK fg hu QR=>by
     obtain⟨m1,m2,m3⟩:=QQ S d fl fg;exact(Iu (w2.heap.size+1) vf QP (hK.bx QD (dK.newAt QE _ _)) QV (QU.out _ W S d fl n (Below.a2 w2 _ _) hK fg hu QR)).as λl=>F5 m1 m2 (hz S d fl fg)
    have QS:∀args w,(callFunc 367 args).run prog w= .ok (.enter 367 args) w:=enters_of func367 QI rfl
    by_cases h00:g.form=0
    ·have f0:(g.form==0)=true:=by simp[h00]
     have Q3:((ee mp g:Int)==16)=true:=by
      have:ee mp g=16:=Decidable.not_not.1 λq=>h0 ⟨h00,q⟩
      simp[this]
     clear QQ hz h0;go_wp2_with fail;refine(hL _).mono ?_;rintro e w4 ⟨rfl,rfl⟩;go_wp2;go_ret;exact⟨_,rfl,⟨367,[ag (w2.heap.size+1)],⟨rfl,QS⟩,HF.out⟩,dG b2 (Below.a2 w2 _ _)⟩
    ·have f0:(g.form==0)=false:=by simp[h00]
     clear QQ hz h0;go_wp2_with fail;refine(hL _).mono ?_;rintro e w4 ⟨rfl,rfl⟩;go_wp2;go_ret;exact⟨_,rfl,⟨367,[ag (w2.heap.size+1)],⟨rfl,QS⟩,HF.out⟩,dG b2 (Below.a2 w2 _ _)⟩
section
variable (w:an)
def sW (k:Nat)(pq iq:aw)(hk:k<=16):Calls prog 368 #[.agg #[aa k,.pointer pq],.pointer iq] w (jg w λw' v=>Oq w' (λb=>w.heap.size<=b) k iq v):=by
 have QR:= @ti;have hC:=λW=>oM W k (.pointer pq) hk
 obtain⟨B0,K1,K2⟩:=fK w #[aa k,.pointer pq] #[.pointer iq] 216 116;obtain⟨k1,k2⟩:=K1.rules
 rcases yn hk with rfl|rfl|rfl|rfl|rfl|rfl|rfl|rfl|rfl|rfl|rfl|rfl|rfl|rfl|rfl|rfl|rfl
 all_goals
  go_enter func368,ntmps368;go_wp2_with (go_at_call 208;refine(hC _).mono ?_;rintro e w2 ⟨rfl,b2⟩)
  go_ret
  first
   |exact⟨_,rfl,⟨417,[],⟨rfl,enters_of func417 QI rfl⟩,λS fl n N W hK hq hN hb QP=>Pk QD⟩,dG B0 b2⟩
   |exact⟨_,rfl,⟨416,[],⟨rfl,enters_of func416 QI rfl⟩,λS fl n N W hK hq hN hb QP=>Pj QD⟩,dG B0 b2⟩
   |exact⟨_,rfl,⟨415,[],⟨rfl,enters_of func415 QI rfl⟩,λS fl n N W hK hq hN hb QP=>Pi QD⟩,dG B0 b2⟩
   |exact⟨_,rfl,⟨414,[],⟨rfl,enters_of func414 QI rfl⟩,λS fl n N W hK hq hN hb QP=>Ph QD⟩,B0⟩
   |exact⟨_,rfl,⟨413,[],⟨rfl,enters_of func413 QI rfl⟩,λS fl n N W hK hq hN hb QP=>Pg QD⟩,B0⟩
   |(
     refine⟨_,rfl,⟨412,[ag (w.heap.size+1)],⟨rfl,enters_of func412 QI rfl⟩,λS fl n N W hK hq hN hb QP=> ?_⟩,B0⟩;obtain⟨t,h1,h2⟩:=QP hb
     exact Pf _ iq t hN (hK.bx QD K2) (hq _ QD K2.lt) h2 hb h1)
def pr (k:Nat)(pq iq:aw)(hk:k<=16):Calls prog 293 #[.agg #[aa k,.pointer pq],.pointer iq] w (jg w λw' v=>tI w' (λb=>w.heap.size<=b) k iq v):=by
 have QR:= @ti;have hC:=λW=>oM W k (.pointer pq) hk
 obtain⟨B0,K1,K2⟩:=fK w #[aa k,.pointer pq] #[.pointer iq] 216 116;obtain⟨k1,k2⟩:=K1.rules
 rcases yn hk with rfl|rfl|rfl|rfl|rfl|rfl|rfl|rfl|rfl|rfl|rfl|rfl|rfl|rfl|rfl|rfl|rfl
 all_goals
  go_enter func293,ntmps293;go_wp2_with (go_at_call 208;refine(hC _).mono ?_;rintro e w2 ⟨rfl,b2⟩)
  go_ret
  first
   |exact⟨_,rfl,⟨376,[],⟨rfl,enters_of func376 QI rfl⟩,λS fl n N W hK hq hN hb QP=>Pr hN QD⟩,dG B0 b2⟩
   |exact⟨_,rfl,⟨375,[],⟨rfl,enters_of func375 QI rfl⟩,λS fl n N W hK hq hN hb QP=>Pq hN QD⟩,dG B0 b2⟩
   |exact⟨_,rfl,⟨374,[],⟨rfl,enters_of func374 QI rfl⟩,λS fl n N W hK hq hN hb QP=>Pp hN QD⟩,dG B0 b2⟩
   |exact⟨_,rfl,⟨373,[],⟨rfl,enters_of func373 QI rfl⟩,λS fl n N W hK hq hN hb QP=>Po hN QD⟩,B0⟩
   |exact⟨_,rfl,⟨372,[],⟨rfl,enters_of func372 QI rfl⟩,λS fl n N W hK hq hN hb QP=>Pn hN QD⟩,B0⟩
   |(
     refine⟨_,rfl,⟨371,[ag (w.heap.size+1)],⟨rfl,enters_of func371 QI rfl⟩,λS fl n N W hK hq hN hb QP=> ?_⟩,B0⟩;obtain⟨t,h1,h2,h3⟩:=QP hb
     exact Pm _ iq t hN (hK.bx QD K2) (hq _ QD K2.lt) h2 h3 hb h1)
def mL (k:Nat)(pq iq:aw)(hk:k<=16):Calls prog 289 #[.agg #[aa k,.pointer pq],.pointer iq] w (jg w λw' v=>tH w' (λb=>w.heap.size<=b) k iq v):=by
 have QR:= @ti;obtain⟨B1,K1⟩:=dR w #[aa k,.pointer pq] 216;have hC:=sW (w.alloc (ak #[aa k,.pointer pq] 216)) k pq iq hk;obtain⟨k1,k2⟩:=K1.rules;go_enter func289,ntmps289;go_wp2_with fail;refine hC.mono ?_;rintro e w2 ⟨v2,rfl,⟨vf,QQ,⟨rfl,QS⟩,HV⟩,b2⟩;have s1:=B1.size;have s2:=b2.size;generalize w.alloc (ak #[aa k,.pointer pq] 216)=w1 at*;obtain⟨B3,K3⟩:=dR w2 #[.func (.func vf) #[] QQ.toArray] 447;go_wp2;go_ret;refine⟨_,rfl,⟨369,[ag w2.heap.size],⟨rfl,enters_of func369 QI rfl⟩,λS fl n N W hK hq hN hb QP=> ?_⟩,dG B1 (dG b2 B3)⟩;exact Oo w2.heap.size vf QQ hN (hK.bx QD K3) (hq _ QD K3.lt) QS (HV S fl n N W ((hK.back B3).less λb q=>QD) (λb q l=>hq b QD (aC l B3.size)) hN hb QP)
end
structure Bz (lo:Nat)(W:an)(on st:Bool)(t:Value)(b:Nat)(T:TypeId)(x y:Value):Prop where
 made:on=true->t=ag b/\lo<=b/\∃u v,dK W b #[u,v] T
 put:st=true->dK W b #[x,y] T
 dep:st=true->on=true
section
variable {lo:Nat} {W W':an} {on st:Bool} {t:Value} {b:Nat} {T:TypeId} {x y:Value}
def Bz.start:Bz lo W false false t b T x y:=⟨nofun,nofun,nofun⟩
def Bz.below (h:Bz lo W on st t b T x y)(hb:Below W.heap.size W W'):Bz lo W' on st t b T x y:=
 ⟨λe=>by
  obtain⟨h1,h2,u,v,h3⟩:=h.made e
  exact⟨h1,h2,u,v,h3.below hb h3.lt⟩,λe=>(h.put e).below hb (h.put e).lt,h.dep⟩
def Bz.alloc (h:Bz lo W on st t b T x y)(o:Obj):Bz lo (W.alloc o) on st t b T x y:=h.below ((Below.refl _ _).alloc (ay _) o)
def Bz.new (h:Bz lo W false st t b T x y)(hl:lo<=W.heap.size)(u v:Value):Bz lo (W.alloc (.cells #[u,v] T)) true st (ag W.heap.size) W.heap.size T x y:=
 ⟨λ_=>⟨rfl,hl,u,v,dK.new _ _ _⟩,λe=>(by cases h.dep e),λe=>(by cases h.dep e)⟩
def Bz.store (h:Bz lo W true st t b T x y):Bz lo ((W.setCell (ai b 0) x).setCell (ai b 1) y) true true t b T x y:=by
 obtain⟨h1,h2,u,v,h3⟩:=h.made rfl;have q:dK ((W.setCell (ai b 0) x).setCell (ai b 1) y) b #[x,y] T:=(h3.set 0 x).set 1 y;exact⟨λ_=>⟨h1,h2,x,y,q⟩,λ_=>q,λ_=>rfl⟩
def Bz.oth (h:Bz lo W on st t b T x y){c:Nat}(hne:on=true->c≠b)(off:Nat)(z:Value):Bz lo (W.setCell (ai c off) z) on st t b T x y:=
 ⟨λe=>by
  obtain⟨h1,h2,u,v,h3⟩:=h.made e
  exact⟨h1,h2,u,v,h3.other off z (hne e)⟩,λe=>(h.put e).other off z (hne (h.dep e)),h.dep⟩
def Bz.lt (h:Bz lo W on st t b T x y)(e:on=true):b<W.heap.size:=by
 obtain⟨_,_,u,v,h3⟩:=h.made e;exact h3.lt
def Bx.oth {vr:Bool}(h:Bx lo W on st vr t b T x){c:Nat}(hne:on=true->c≠b)(off:Nat)(z:Value):Bx lo (W.setCell (ai c off) z) on st vr t b T x:=
 ⟨λe=>by
  obtain⟨h1,h2,h3⟩:=h.made e
  exact⟨h1,h2,h3.other off z (hne e)⟩,λe=>(h.put e).other off z (hne (h.dep e).1),h.dep⟩
def m8.lt1 {W:an}{on:Bool}{b:Nat}(h:on=true->b<W.heap.size):m8 true on W.heap.size b:=λ_ e q=>by
 have:=h e;omega
end
def Pw (n k t:Int):Prop:=0<=n/\n<=536870911->t=((eW n k).length:Int)
section
variable (w:an)
def Ll (x:Int):0<=IntKind.u64.wrap x/\IntKind.u64.wrap x<=18446744073709551615:=by
 simp[IntKind.wrap,IntKind.bits,IntKind.signed];omega
def IT (op:BinOp)(x y:Int):0<=bits op .u64 x y/\bits op .u64 x y<=18446744073709551615:=by
 unfold bits;exact Ll _
def Aj (x:Int):Calls prog 328 #[.int .u64 x] w λe w'=>∃t,e= .returned (aa t)/\aj w w':=by
 obtain⟨q1,q2⟩:=IT .or x 1;have hl:=Ca _ w q1 q2;clear q1 q2;go_enter func328,ntmps328;go_wp2_with fail;refine hl.mono ?_;rintro e w2 ⟨rfl,rfl⟩;go_wp2;go_ret;exact⟨_,rfl,Below.refl _ _⟩
def Np (n k:Int):Calls prog 316 #[.agg #[aa n,aa k]] w λe w'=>∃x,e= .returned (.int .u64 x)/\aj w w':=by
 obtain⟨k1,k2⟩:=(dK.new w #[aa n,aa k] 237).rules;go_enter func316,ntmps316;go_wp2;go_ret;exact⟨_,rfl,(Below.refl _ _).alloc (ay _) _⟩
def Nq (n k:Int)(k0:0<=k)(k1:k<8):Calls prog 242 #[.agg #[aa n,aa k]] w λe w'=>∃t,e= .returned (aa t)/\Pw n k t/\aj w w':=by
 by_cases h:0<=n/\n<=536870911
 ·exact(LS w n k h.1 h.2 k0 k1).mono λe w' q=>⟨_,q.1,λ_=>rfl,q.2⟩
 ·obtain⟨B1,K1⟩:=dR w #[aa n,aa k] 237;obtain⟨k1,k2⟩:=K1.rules;go_enter func242,ntmps242;go_wp2_with fail;refine(Np _ n k).mono ?_;rintro e w2 ⟨x,rfl,b2⟩;go_wp2_with fail;refine(Aj _ x).mono ?_;rintro e w3 ⟨m,rfl,b3⟩;go_wp2;go_ret;exact⟨_,rfl,λq=>absurd q h,dG B1 (dG b2 b3)⟩
end
inductive P3 (w:an)(mp:am->Option Nat)(g:GF)(fb:Nat)(pq iq:aw)(W:an):Array Bool->Act->Prop where
 |mk {l0 l1 l2 l3 l4 l5 l6 l7 l8 l9 l10 QX QY:Bool} {t5 t6 t7 t8 t9 Q0 Q1 Q2 Q3 Q4 QZ:Value} (bP bQ:Nat) (tl:Int) (m1 m2:Nat) (f0:l0=true->t7=ag fb) (f1:l1=true->t8= .agg #[aa g.f.num,aa (yi mp g)]) (f2:l2=true->t9=aa tl) (f3:l3=true->Q0=ag fb) (f4:l4=true->Q1=ag fb) (f5:l5=true->Q2= .pointer (some (ai fb 2))) (f6:l6=true->Q3= .agg #[aa (ee mp g),.pointer pq]) (f7:l7=true->Q4= .pointer iq) (B:aj w W) (xP:Bx (w.heap.size) W l9 QX l2 t5 bP 3 t9) (xQ:Bx (w.heap.size) W l10 QY l8 t6 bQ 262 QZ) (QP:m8 l9 l10 bP bQ) (QQ:FM l9 l8 bP m1 m2) (QR:FM l10 l8 bQ m1 m2) (V:l8=true->tH W (λb=>m1<=b/\b<m2) (ee mp g) iq QZ/\w.heap.size<=m1/\m2<=W.heap.size) (sz:l2=true->Pw g.f.num (yi mp g) tl):P3 w mp g fb pq iq W #[l0,l1,l2,l3,l4,l5,l6,l7,l8,l9,l10,QX,QY] ⟨#[ag fb,.pointer iq,undef,undef,.nilFunc,t5,t6,t7,t8,t9,Q0,Q1,Q2,Q3,Q4,QZ,undef,undef,undef,undef],[]⟩
section
variable (w:an) (P:ap) (mp:am->Option Nat) (g:GF) (fb:Nat) (iq:aw)
def tX (h:eG w P mp g fb):Calls prog 211 #[ag fb,.pointer iq] w (jg w λw' v=>DC w' (λb=>w.heap.size<=b) mp g iq v):=by
 have hmf:= @ti;obtain⟨pv,rv,h1,_,QU,Q6⟩:=h.blk;obtain⟨pq,rfl⟩:=gi Q6;obtain⟨ra,rn,rc,rfl⟩:=dL QU.1;have Q8:=kT mp g;have Q9:=h1.lt;have hT:∀W,aj w W->Calls prog 231 #[ag fb] W λe w'=>e= .returned (.agg #[aa g.f.num,aa (yi mp g)])/\Below W.heap.size W w':=λW hW=>vU W P mp g fb (h.keep (λb _ hl=>hW.block b hl))
 obtain⟨Rc,Re⟩:=rI mp g;have hS:=λW=>Nq W g.f.num (yi mp g) Rc Re
 have Ra:∀W,aj w W->Calls prog 209 #[ag fb] W λe w'=>e= .returned (.bool (gN mp g))/\Below W.heap.size W w':=λW hW=>lH W P mp g fb (h.keep (λb _ hl=>hW.block b hl))
 have Rb:=λW=>mL W (ee mp g) pq iq Q8
 clear Q6 QU h;go_enter func211,ntmps211;go_upto_region 1 with fail
 go_cut [5,6]from 7 to 15 (λx y wx=>∃tb ab tl vv,x=ag tb/\y=ag ab/\dK wx tb #[aa tl] 3/\dK wx ab #[vv] 262/\Pw g.f.num (yi mp g) tl/\tH wx (λb=>w.heap.size<=b) (ee mp g) iq vv/\w.heap.size<=tb/\w.heap.size<=ab/\aj w wx)
 case first=>
  refine jH (λL a W=>P3 w mp g fb pq iq W L a) QI ⟨0,0,0,0,0,nofun,nofun,nofun,nofun,nofun,nofun,nofun,nofun,(Below.refl _ _).drew,Bx.start,Bx.start,nofun,nofun,nofun,nofun,nofun⟩ QI ?_ ?_
  ·rintro L a W @⟨l0,l1,l2,l3,l4,l5,l6,l7,l8,l9,l10,QX,QY,t5,t6,t7,t8,t9,Q0,Q1,Q2,Q3,Q4,QZ,bP,bQ,tl,m1,m2,f0,f1,f2,f3,f4,f5,f6,f7,B,xP,xQ,QP,QQ,QR,V,sz⟩ QS;obtain rfl:l2=true:=QS 2 QG;obtain rfl:l8=true:=QS 8 QG;obtain rfl:l9=true:=QS 9 QG;obtain rfl:l10=true:=QS 10 QG;obtain rfl:QX=true:=QS 11 QG;obtain rfl:QY=true:=QS 12 QG;obtain⟨rfl,zP,_⟩:=xP.made rfl;obtain⟨rfl,zQ,_⟩:=xQ.made rfl;obtain rfl:=f2 rfl;obtain⟨v1,v2,v3⟩:=V rfl;have KP:=xP.put rfl;have KQ:=xQ.put rfl;have hsz:=sz rfl;go_wp2;go_meet
   case rel=>exact⟨_,_,_,_,rfl,rfl,KP,KQ,hsz,v1.move (λb q l=>⟨aH v2 q.1,rfl⟩),zP,zQ,B⟩
  refine .cons ?_ (.cons ?_ (.cons ?_ (.cons ?_ (.cons ?_ (.cons ?_ (.cons ?_ (.cons ?_ (.cons ?_ (.cons ?_ (.cons ?_ (.cons ?_ (.cons ?_ (.nil)))))))))))))
  all_goals
   rintro L a W ⟨bP,bQ,tl,m1,m2,f0,f1,f2,f3,f4,f5,f6,f7,B,xP,xQ,QP,QQ,QR,V,sz⟩ h0 hd K hK;subst h0
  ·clear hd;go_simp;refine hK.out _ _ ?_;simp only[QC];exact⟨bP,bQ,tl,m1,m2,λ_=>rfl,f1,f2,f3,f4,f5,f6,f7,B,xP,xQ,QP,QQ,QR,V,sz⟩
  ·obtain rfl:=eC (k:=0) hd QI;obtain rfl:=f0 rfl;clear hd;go_simp;go_wp2_with (first|(go_at_call 231;refine(hT _ B).mono ?_;rintro e w2 ⟨rfl,b2⟩))
   refine hK.out _ _ ?_;simp only[QC];exact⟨bP,bQ,tl,m1,m2,λ_=>rfl,λ_=>rfl,f2,f3,f4,f5,f6,f7,(dG B b2),(xP.below b2),(xQ.below b2),QP,QQ,QR,(λe=>⟨(V e).1.move (λb q l=>⟨q,b2.block b l⟩),(V e).2.1,aH (V e).2.2 b2.size⟩),sz⟩
  ·obtain rfl:=eC (k:=1) hd QI;obtain rfl:=f1 rfl;clear hd;go_simp;go_wp2_with (first|(go_at_call 242;refine(hS _).mono ?_;rintro e w3 ⟨t3,rfl,hsz,b3⟩))
   refine hK.out _ _ ?_;simp only[QC];exact⟨bP,bQ,t3,m1,m2,f0,λ_=>rfl,λ_=>rfl,f3,f4,f5,f6,f7,(dG B b3),((xP.below b3).val _),(xQ.below b3),QP,QQ,QR,(λe=>⟨(V e).1.move (λb q l=>⟨q,b3.block b l⟩),(V e).2.1,aH (V e).2.2 b3.size⟩),(λ_=>hsz)⟩
  ·clear hd;go_simp;refine hK.out _ _ ?_;simp only[QC];exact⟨bP,bQ,tl,m1,m2,f0,f1,f2,λ_=>rfl,f4,f5,f6,f7,B,xP,xQ,QP,QQ,QR,V,sz⟩
  ·obtain rfl:=eC (k:=3) hd QI;obtain rfl:=f3 rfl;clear hd;go_simp;refine hK.out _ _ ?_;simp only[QC];exact⟨bP,bQ,tl,m1,m2,f0,f1,f2,λ_=>rfl,λ_=>rfl,f5,f6,f7,B,xP,xQ,QP,QQ,QR,V,sz⟩
  ·obtain rfl:=eC (k:=4) hd QI;obtain rfl:=f4 rfl;clear hd;go_simp;refine hK.out _ _ ?_;simp only[QC];exact⟨bP,bQ,tl,m1,m2,f0,f1,f2,f3,λ_=>rfl,λ_=>rfl,f6,f7,B,xP,xQ,QP,QQ,QR,V,sz⟩
  ·obtain rfl:=eC (k:=5) hd QI;obtain rfl:=f5 rfl;have KF:=h1.below B Q9;obtain⟨k1,k2⟩:=KF.rules;clear hd;go_simp;refine hK.out _ _ ?_;simp only[QC];exact⟨bP,bQ,tl,m1,m2,f0,f1,f2,f3,f4,λ_=>rfl,λ_=>rfl,f7,B,xP,xQ,QP,QQ,QR,V,sz⟩
  ·clear hd;go_simp;refine hK.out _ _ ?_;simp only[QC];exact⟨bP,bQ,tl,m1,m2,f0,f1,f2,f3,f4,f5,f6,λ_=>rfl,B,xP,xQ,QP,QQ,QR,V,sz⟩
  ·obtain rfl:=eC (k:=6) hd QI;obtain rfl:=eC (k:=7) hd QI;obtain rfl:=f6 rfl;obtain rfl:=f7 rfl;clear hd;go_simp;go_wp2_with (first|(go_at_call 289;refine(Rb _).mono ?_;rintro e w4 ⟨vv,rfl,Rf,b4⟩))
   refine hK.out _ _ ?_;simp only[QC];exact⟨bP,bQ,tl,W.heap.size,w4.heap.size,f0,f1,f2,f3,f4,f5,λ_=>rfl,λ_=>rfl,(dG B b4),(xP.below b4),((xQ.below b4).val _),QP,(λe _=> .inl (xP.lt e)),(λe _=> .inl (xQ.lt e)),(λ_=>⟨Rf.move (λb q l=>⟨⟨q,l⟩,rfl⟩),B.size,ay _⟩),sz⟩
  ·clear hd;go_simp;refine hK.out _ _ ?_;simp only[QC];exact⟨W.heap.size,bQ,tl,m1,m2,f0,f1,f2,f3,f4,f5,f6,f7,(B.alloc B.size _),(xP.new B.size _),(xQ.alloc _),(m8.lt1 xQ.lt),(λ_ e=> .inr (V e).2.2),QR,(λe=>⟨(V e).1.move (λb q l=>⟨q,((Below.refl W.heap.size W).alloc (ay _) _).block b l⟩),(V e).2.1,aH (V e).2.2 ((Below.refl W.heap.size W).alloc (ay _) _).size⟩),sz⟩
  ·clear hd;go_simp;refine hK.out _ _ ?_;simp only[QC];exact⟨bP,W.heap.size,tl,m1,m2,f0,f1,f2,f3,f4,f5,f6,f7,(B.alloc B.size _),(xP.alloc _),(xQ.new B.size _),(m8.lt1 xP.lt).symm,QQ,(λ_ e=> .inr (V e).2.2),(λe=>⟨(V e).1.move (λb q l=>⟨q,((Below.refl W.heap.size W).alloc (ay _) _).block b l⟩),(V e).2.1,aH (V e).2.2 ((Below.refl W.heap.size W).alloc (ay _) _).size⟩),sz⟩
  ·obtain rfl:=eC (k:=9) hd QI;obtain rfl:=eC (k:=2) hd QI;obtain⟨rfl,zP,yP⟩:=xP.made rfl;obtain⟨wP,cP,kP⟩:=gX yP;obtain rfl:=f2 rfl;clear hd;go_simp;refine hK.out _ _ ?_;simp only[QC];exact⟨bP,bQ,tl,m1,m2,f0,f1,λ_=>rfl,f3,f4,f5,f6,f7,(B.setCell (p:=(ai bP 0)) zP _),xP.store,(xQ.oth (λe=>QP rfl e) 0 _),QP,QQ,QR,(λe=>⟨(V e).1.move (λb q l=>⟨q,dW (by have:=QQ rfl e;omega)⟩),(V e).2.1,by simpa using(V e).2.2⟩),sz⟩
  ·obtain rfl:=eC (k:=10) hd QI;obtain rfl:=eC (k:=8) hd QI;obtain⟨rfl,zQ,yQ⟩:=xQ.made rfl;obtain⟨wQ,cQ,kQ⟩:=gX yQ;obtain⟨vf,vcap,⟨rfl,Q5⟩,hvc⟩:=(V rfl).1;clear hd;go_simp;refine hK.out _ _ ?_;simp only[QC];exact⟨bP,bQ,tl,m1,m2,f0,f1,f2,f3,f4,f5,f6,f7,(B.setCell (p:=(ai bQ 0)) zQ _),(xP.oth (λe=>QP.symm rfl e) 0 _),xQ.store,QP,QQ,QR,(λe=>⟨(V e).1.move (λb q l=>⟨q,dW (by have:=QR rfl e;omega)⟩),(V e).2.1,by simpa using(V e).2.2⟩),sz⟩
 case rest=>
  obtain⟨tb,ab,tl,vv,rfl,rfl,KP,KQ,hsz,⟨af,QV,⟨rfl,Q5⟩,hv⟩,zP,zQ,b3⟩:=hcut;have hq:=Ra wc b3;obtain⟨pk,QW⟩:∃pk,gN mp g=pk:=⟨_,rfl⟩;rw[QW]at hq
  have HF:Hid (∀w5,aj wc w5->∀f,(∀args w,(callFunc f args).run prog w= .ok (.enter f args) w)->f=(if pk then 290 else 291)->DC w5 (λb=>w.heap.size<=b) mp g iq (.func (.func f) #[] #[ag tb,ag ab])):=λw5 b5 f hf Q7=>by
   refine⟨f,[ag tb,ag ab],⟨rfl,hf⟩,λS d fl n N W hK hq hN fg Rg Rh=> ?_⟩;have QT:=hsz (by rw[fg.eq];exact Rg);rw[fg.eq,fg.tk]at QT;subst QT;have K1:=hK.bx zP (KP.below b5 KP.lt);have K2:=hK.bx zQ (KQ.below b5 KQ.lt);have L:=hv S fl n N W (hK.back b5) (λb q l=>hq b q (aC l b5.size)) hN fg.gb.symm Rh;have i1:=hq tb zP (aC KP.lt b5.size);have i2:=hq ab zQ (aC KQ.lt b5.size);rw[fg.pk]at QW
   cases pk with
   |true=>
    obtain rfl:=Q7;have:=Iw tb ab af QV (eW fl.num (nJ S fl)) K1 K2 i1 i2 Q5 L
    exact λW' Z vv l k B q1 q2 q3 q4=>by
     have e:jM S (d9 S n) fl l=eW fl.num (nJ S fl)++eX (mo S (d9 S n) fl l):=by unfold jM;rw[dB QW]
     rw[e]at q4⊢;exact this W' Z vv l k B q1 q2 q3 q4
   |false=>
    obtain rfl:=Q7;have:=KU tb ab af QV (eW fl.num (nJ S fl)) K1 K2 i1 i2 Q5 L
    exact λW' Z vv l k B q1 q2 q3 q4=>by
     have e:jM S (d9 S n) fl l=l.flatMap λv=>eW fl.num (nJ S fl)++fP S (d9 S n) fl v:=by unfold jM;rw[dA (by rw[QW];simp)]
     rw[e]at q4⊢;exact this W' Z vv l k B q1 q2 q3 q4
  clear QW hsz hv
  cases pk with
  |true=>
   go_wp2_with fail;refine hq.mono ?_;rintro e w5 ⟨rfl,b5⟩;go_wp2;go_ret;exact⟨_,rfl,HF.out w5 b5 290 (enters_of func290 QI rfl) rfl,dG b3 b5⟩
  |false=>
   go_wp2_with fail;refine hq.mono ?_;rintro e w5 ⟨rfl,b5⟩;go_wp2;go_ret;exact⟨_,rfl,HF.out w5 b5 291 (enters_of func291 QI rfl) rfl,dG b3 b5⟩
end
inductive P4 (w:an)(mp:am->Option Nat)(g:GF)(fb:Nat)(pq iq:aw)(W:an):Array Bool->Act->Prop where
 |mk {l0 l1 l2 l3 l4 l5 l6 l7 l8 l9 l10 Q0:Bool} {t5 t6 Q8 Q6 Q9 Ra Rb Rc Q7 Rm:Value} (bP bQ:Nat) (m1 m2:Nat) (f0:l0=true->Q8=ag fb) (f1:l1=true->Q6= .agg #[aa g.f.num,aa (yi mp g)]) (f2:l2=true->Q9=ag fb) (f3:l3=true->Ra=ag fb) (f4:l4=true->Rb= .pointer (some (ai fb 2))) (f5:l5=true->Rc= .agg #[aa (ee mp g),.pointer pq]) (f6:l6=true->Q7= .pointer iq) (B:aj w W) (xP:Bz (w.heap.size) W l8 l10 t5 bP 237 (aa g.f.num) (aa (yi mp g))) (xQ:Bx (w.heap.size) W l9 Q0 l7 t6 bQ 404 Rm) (QP:m8 l8 l9 bP bQ) (QQ:FM l8 l7 bP m1 m2) (QR:FM l9 l7 bQ m1 m2) (V:l7=true->tI W (λb=>m1<=b/\b<m2) (ee mp g) iq Rm/\w.heap.size<=m1/\m2<=W.heap.size):P4 w mp g fb pq iq W #[l0,l1,l2,l3,l4,l5,l6,l7,l8,l9,l10,Q0] ⟨#[ag fb,.pointer iq,undef,undef,.nilFunc,t5,t6,ag fb,.bool false,undef,undef,Q8,Q6,Q9,Ra,Rb,Rc,Q7,Rm,undef],[]⟩
inductive P5 (w:an)(mp:am->Option Nat)(g:GF)(fb:Nat)(pq:aw)(W:an):Array Bool->Act->Prop where
 |mk {l0 l1 l2 l3 l4 l5 l6 l7 l8 l9 l10 Q0 Q3 Q4 Q5 Rj Rk Rl:Bool} {t3 t4 t5 t6 t7 t8 t9 Rq Q8 Q6 Q9 Ra Rb Rc Q7:Value} (bP bQ bR:Nat) (m1 m2:Nat) (n1 n2:Nat) (f0:l0=true->t6=ag fb) (f1:l1=true->t7= .agg #[aa g.f.num,aa (yi mp g)]) (f2:l2=true->t8=ag fb) (f3:l3=true->t9=ag fb) (f4:l4=true->Rq= .pointer (some (ai fb 2))) (f5:l5=true->Q8= .agg #[aa (ee mp g),.pointer pq]) (f7:l7=true->Q9=ag fb) (f8:l8=true->Ra=ag fb) (f9:l9=true->Rb= .pointer (some (ai fb 2))) (QW:l10=true->Rc= .agg #[aa (ee mp g),.pointer pq]) (B:aj w W) (xP:Bz (w.heap.size) W Q3 Rj t3 bP 237 (aa g.f.num) (aa (yi mp g))) (xQ:Bx (w.heap.size) W Q4 Rk l6 t4 bQ 262 Q6) (xR:Bx (w.heap.size) W Q5 Rl Q0 t5 bR 404 Q7) (QP:m8 Q3 Q4 bP bQ) (QT:m8 Q3 Q5 bP bR) (QU:m8 Q4 Q5 bQ bR) (QV:FM Q3 l6 bP m1 m2) (QX:FM Q4 l6 bQ m1 m2) (QY:FM Q5 l6 bR m1 m2) (A:l6=true->tH W (λb=>m1<=b/\b<m2) (ee mp g) none Q6/\w.heap.size<=m1/\m2<=W.heap.size) (QQ:FM Q3 Q0 bP n1 n2) (QR:FM Q4 Q0 bQ n1 n2) (QZ:FM Q5 Q0 bR n1 n2) (V:Q0=true->tI W (λb=>n1<=b/\b<n2) (ee mp g) none Q7/\w.heap.size<=n1/\n2<=W.heap.size):P5 w mp g fb pq W #[l0,l1,l2,l3,l4,l5,l6,l7,l8,l9,l10,Q0,Q3,Q4,Q5,Rj,Rk,Rl] ⟨#[ag fb,undef,.nilFunc,t3,t4,t5,t6,t7,t8,t9,Rq,Q8,Q6,Q9,Ra,Rb,Rc,Q7,undef],[]⟩
section
variable (w:an) (P:ap) (mp:am->Option Nat) (g:GF) (fb:Nat) (iq:aw)
def DH (h:eG w P mp g fb)(hp:gN mp g=false):Calls prog 212 #[ag fb,.pointer iq] w (jg w λw' v=>Ch w' (λb=>w.heap.size<=b) mp g iq v):=by
 have hq:=lH w P mp g fb h;rw[hp]at hq;have Rw:= @ti;have Rh:=kT mp g;go_enter func212,ntmps212;go_wp2_with fail;refine hq.mono ?_;rintro e wb ⟨rfl,b0⟩;have h:=h.keep (w':=wb) (λb _ hl=>b0.block b hl);obtain⟨pv,rv,h1,_,Q1,Rf⟩:=h.blk;obtain⟨pq,rfl⟩:=gi Rf;obtain⟨ra,rn,rc,rfl⟩:=dL Q1.1;have Ri:=h1.lt;have hT:∀W,Below wb.heap.size wb W->Calls prog 231 #[ag fb] W λe w'=>e= .returned (.agg #[aa g.f.num,aa (yi mp g)])/\Below W.heap.size W w':=λW hW=>vU W P mp g fb (h.keep (λb _ hl=>hW.block b hl))
 have Rn:=λW=>pr W (ee mp g) pq iq Rh
 have yb:=b0.size;clear Rf Q1 h hq;go_upto_region 3 with fail
 go_cut [5,6]from 11 to 18 (λx y wx=>∃tb vb vv,x=ag tb/\y=ag vb/\dK wx tb #[aa g.f.num,aa (yi mp g)] 237/\dK wx vb #[vv] 404/\tI wx (λb=>wb.heap.size<=b) (ee mp g) iq vv/\wb.heap.size<=tb/\wb.heap.size<=vb/\Below wb.heap.size wb wx)
 case first=>
  refine jH (λL a W=>P4 wb mp g fb pq iq W L a) QI ⟨0,0,0,0,nofun,nofun,nofun,nofun,nofun,nofun,nofun,(Below.refl _ _).drew,Bz.start,Bx.start,nofun,nofun,nofun,nofun⟩ QI ?_ ?_
  ·rintro L a W @⟨l0,l1,l2,l3,l4,l5,l6,l7,l8,l9,l10,Q0,t5,t6,Q8,Q6,Q9,Ra,Rb,Rc,Q7,Rm,bP,bQ,m1,m2,f0,f1,f2,f3,f4,f5,f6,B,xP,xQ,QP,QQ,QR,V⟩ QS;obtain rfl:l1=true:=QS 1 QG;obtain rfl:l7=true:=QS 7 QG;obtain rfl:l8=true:=QS 8 QG;obtain rfl:l9=true:=QS 9 QG;obtain rfl:l10=true:=QS 10 QG;obtain rfl:Q0=true:=QS 11 QG;obtain⟨rfl,zP,_⟩:=xP.made rfl;obtain⟨rfl,zQ,_⟩:=xQ.made rfl;obtain⟨v1,v2,v3⟩:=V rfl;have KP:=xP.put rfl;have KQ:=xQ.put rfl;go_wp2;go_meet
   case rel=>exact⟨_,_,_,rfl,rfl,KP,KQ,v1.move (λb q l=>⟨aH v2 q.1,rfl⟩),zP,zQ,B⟩
  refine .cons ?_ (.cons ?_ (.cons ?_ (.cons ?_ (.cons ?_ (.cons ?_ (.cons ?_ (.cons ?_ (.cons ?_ (.cons ?_ (.cons ?_ (.cons ?_ (.nil))))))))))))
  all_goals
   rintro L a W ⟨bP,bQ,m1,m2,f0,f1,f2,f3,f4,f5,f6,B,xP,xQ,QP,QQ,QR,V⟩ h0 hd K hK;subst h0
  ·clear hd;go_simp;refine hK.out _ _ ?_;simp only[QC];exact⟨bP,bQ,m1,m2,λ_=>rfl,f1,f2,f3,f4,f5,f6,B,xP,xQ,QP,QQ,QR,V⟩
  ·obtain rfl:=eC (k:=0) hd QI;obtain rfl:=f0 rfl;clear hd;go_simp;go_wp2_with (first|(go_at_call 231;refine(hT _ B).mono ?_;rintro e w2 ⟨rfl,b2⟩))
   refine hK.out _ _ ?_;simp only[QC];exact⟨bP,bQ,m1,m2,λ_=>rfl,λ_=>rfl,f2,f3,f4,f5,f6,(dG B b2),(xP.below b2),(xQ.below b2),QP,QQ,QR,(λe=>⟨(V e).1.move (λb q l=>⟨q,b2.block b l⟩),(V e).2.1,aH (V e).2.2 b2.size⟩)⟩
  ·clear hd;go_simp;refine hK.out _ _ ?_;simp only[QC];exact⟨bP,bQ,m1,m2,f0,f1,λ_=>rfl,f3,f4,f5,f6,B,xP,xQ,QP,QQ,QR,V⟩
  ·obtain rfl:=eC (k:=2) hd QI;obtain rfl:=f2 rfl;clear hd;go_simp;refine hK.out _ _ ?_;simp only[QC];exact⟨bP,bQ,m1,m2,f0,f1,λ_=>rfl,λ_=>rfl,f4,f5,f6,B,xP,xQ,QP,QQ,QR,V⟩
  ·obtain rfl:=eC (k:=3) hd QI;obtain rfl:=f3 rfl;clear hd;go_simp;refine hK.out _ _ ?_;simp only[QC];exact⟨bP,bQ,m1,m2,f0,f1,f2,λ_=>rfl,λ_=>rfl,f5,f6,B,xP,xQ,QP,QQ,QR,V⟩
  ·obtain rfl:=eC (k:=4) hd QI;obtain rfl:=f4 rfl;have KF:=h1.below B Ri;obtain⟨k1,k2⟩:=KF.rules;clear hd;go_simp;refine hK.out _ _ ?_;simp only[QC];exact⟨bP,bQ,m1,m2,f0,f1,f2,f3,λ_=>rfl,λ_=>rfl,f6,B,xP,xQ,QP,QQ,QR,V⟩
  ·clear hd;go_simp;refine hK.out _ _ ?_;simp only[QC];exact⟨bP,bQ,m1,m2,f0,f1,f2,f3,f4,f5,λ_=>rfl,B,xP,xQ,QP,QQ,QR,V⟩
  ·obtain rfl:=eC (k:=5) hd QI;obtain rfl:=eC (k:=6) hd QI;obtain rfl:=f5 rfl;obtain rfl:=f6 rfl;clear hd;go_simp;go_wp2_with (first|(go_at_call 293;refine(Rn _).mono ?_;rintro e w4 ⟨vv,rfl,Ro,b4⟩))
   refine hK.out _ _ ?_;simp only[QC];exact⟨bP,bQ,W.heap.size,w4.heap.size,f0,f1,f2,f3,f4,λ_=>rfl,λ_=>rfl,(dG B b4),(xP.below b4),((xQ.below b4).val _),QP,(λe _=> .inl (xP.lt e)),(λe _=> .inl (xQ.lt e)),(λ_=>⟨Ro.move (λb q l=>⟨⟨q,l⟩,rfl⟩),B.size,ay _⟩)⟩
  ·clear hd;go_simp;refine hK.out _ _ ?_;simp only[QC];exact⟨W.heap.size,bQ,m1,m2,f0,f1,f2,f3,f4,f5,f6,(B.alloc B.size _),(xP.new B.size _ _),(xQ.alloc _),(m8.lt1 xQ.lt),(λ_ e=> .inr (V e).2.2),QR,(λe=>⟨(V e).1.move (λb q l=>⟨q,((Below.refl W.heap.size W).alloc (ay _) _).block b l⟩),(V e).2.1,aH (V e).2.2 ((Below.refl W.heap.size W).alloc (ay _) _).size⟩)⟩
  ·clear hd;go_simp;refine hK.out _ _ ?_;simp only[QC];exact⟨bP,W.heap.size,m1,m2,f0,f1,f2,f3,f4,f5,f6,(B.alloc B.size _),(xP.alloc _),(xQ.new B.size _),(m8.lt1 xP.lt).symm,QQ,(λ_ e=> .inr (V e).2.2),(λe=>⟨(V e).1.move (λb q l=>⟨q,((Below.refl W.heap.size W).alloc (ay _) _).block b l⟩),(V e).2.1,aH (V e).2.2 ((Below.refl W.heap.size W).alloc (ay _) _).size⟩)⟩
  ·obtain rfl:=eC (k:=8) hd QI;obtain rfl:=eC (k:=1) hd QI;obtain⟨rfl,zP,Ry,Rz,yP⟩:=xP.made rfl;obtain⟨cP,kP⟩:=yP.rules;obtain rfl:=f1 rfl;clear hd;go_simp;refine hK.out _ _ ?_;simp only[QC];exact⟨bP,bQ,m1,m2,f0,λ_=>rfl,f2,f3,f4,f5,f6,((B.setCell (p:=(ai bP 0)) zP _).setCell (p:=(ai bP 1)) zP _),xP.store,((xQ.oth (λe=>QP rfl e) 0 _).oth (λe=>QP rfl e) 1 _),QP,QQ,QR,(λe=>⟨(V e).1.move (λb q l=>⟨q,(dW (by have:=QQ rfl e;omega)).trans (dW (by have:=QQ rfl e;omega))⟩),(V e).2.1,by simpa using(V e).2.2⟩)⟩
  ·obtain rfl:=eC (k:=9) hd QI;obtain rfl:=eC (k:=7) hd QI;obtain⟨rfl,zQ,yQ⟩:=xQ.made rfl;obtain⟨wQ,cQ,kQ⟩:=gX yQ;obtain⟨vf,Q2,⟨rfl,Re⟩,Rt⟩:=(V rfl).1;clear hd;go_simp;refine hK.out _ _ ?_;simp only[QC];exact⟨bP,bQ,m1,m2,f0,f1,f2,f3,f4,f5,f6,(B.setCell (p:=(ai bQ 0)) zQ _),(xP.oth (λe=>QP.symm rfl e) 0 _),xQ.store,QP,QQ,QR,(λe=>⟨(V e).1.move (λb q l=>⟨q,dW (by have:=QR rfl e;omega)⟩),(V e).2.1,by simpa using(V e).2.2⟩)⟩
 case rest=>
  obtain⟨tb,vb,vv,rfl,rfl,KP,KQ,⟨vf,Q2,⟨rfl,Re⟩,hv⟩,zP,zQ,b3⟩:=hcut;go_wp2;go_ret;refine⟨_,rfl,⟨294,[ag tb,ag vb],⟨rfl,enters_of func294 QI rfl⟩,λS d fl n N W hK hq hN fg Rp Ru=> ?_⟩,dG b0 b3⟩;have K1:=hK.bx QD KP;have K2:=hK.bx QD KQ;have L:=hv S fl n N W (hK.less λb q=>QD) (λb q l=>hq b QD l) hN fg.gb.symm Ru;rw[fg.eq,fg.tk]at K1;rw[fg.pk]at hp;have hk:=rI mp g;rw[fg.tk]at hk;have:=Lc tb vb vf Q2 fl.num (nJ S fl) hN K1 K2 (hq tb QD KP.lt) (hq vb QD KQ.lt) Rp hk Re L
  exact λW' Z vv l k b l0 B q1 q2 q3 q4 q5 q6=>by
   have e:jM S (d9 S n) fl l=l.flatMap λv=>eW fl.num (nJ S fl)++fP S (d9 S n) fl v:=by unfold jM;rw[dA (by rw[hp];simp)]
   rw[e]at q6⊢;exact this W' Z vv l k b l0 B q1 q2 q3 q4 q5 q6
end
section
variable (w:an) (P:ap) (mp:am->Option Nat) (g:GF) (fb:Nat) (iq:aw)
def tY (h:eG w P mp g fb)(hp:gN mp g=true):Calls prog 292 #[ag fb] w (jg w λw' v=>Ch w' (λb=>w.heap.size<=b) mp g iq v):=by
 have Rw:= @ti;obtain⟨pv,rv,h1,_,Q1,Rf⟩:=h.blk;obtain⟨pq,rfl⟩:=gi Rf;obtain⟨ra,rn,rc,rfl⟩:=dL Q1.1;have Rh:=kT mp g;have Ri:=h1.lt;have hT:∀W,aj w W->Calls prog 231 #[ag fb] W λe w'=>e= .returned (.agg #[aa g.f.num,aa (yi mp g)])/\Below W.heap.size W w':=λW hW=>vU W P mp g fb (h.keep (λb _ hl=>hW.block b hl))
 have Rx:=λW=>mL W (ee mp g) pq none Rh
 have Rn:=λW=>pr W (ee mp g) pq none Rh
 clear Rf Q1 h;go_enter func292,ntmps292;go_upto_region 1 with fail
 go_cut [3,4,5]from 6 to 17 (λx y z wx=>∃tb ab vb av vv,x=ag tb/\y=ag ab/\z=ag vb/\dK wx tb #[aa g.f.num,aa (yi mp g)] 237/\dK wx ab #[av] 262/\dK wx vb #[vv] 404/\tH wx (λb=>w.heap.size<=b) (ee mp g) none av/\tI wx (λb=>w.heap.size<=b) (ee mp g) none vv/\w.heap.size<=tb/\w.heap.size<=ab/\w.heap.size<=vb/\aj w wx)
 case first=>
  refine jH (λL a W=>P5 w mp g fb pq W L a) QI ⟨0,0,0,0,0,0,0,nofun,nofun,nofun,nofun,nofun,nofun,nofun,nofun,nofun,nofun,(Below.refl _ _).drew,Bz.start,Bx.start,Bx.start,nofun,nofun,nofun,nofun,nofun,nofun,nofun,nofun,nofun,nofun,nofun⟩ QI ?_ ?_
  ·rintro L a W @⟨l0,l1,l2,l3,l4,l5,l6,l7,l8,l9,l10,Q0,Q3,Q4,Q5,Rj,Rk,Rl,t3,t4,t5,t6,t7,t8,t9,Rq,Q8,Q6,Q9,Ra,Rb,Rc,Q7,bP,bQ,bR,m1,m2,n1,n2,f0,f1,f2,f3,f4,f5,f7,f8,f9,QW,B,xP,xQ,xR,QP,QT,QU,QV,QX,QY,A,QQ,QR,QZ,V⟩ QS;obtain rfl:l1=true:=QS 1 QG;obtain rfl:l6=true:=QS 6 QG;obtain rfl:Q0=true:=QS 11 QG;obtain rfl:Q3=true:=QS 12 QG;obtain rfl:Q4=true:=QS 13 QG;obtain rfl:Q5=true:=QS 14 QG;obtain rfl:Rj=true:=QS 15 QG;obtain rfl:Rk=true:=QS 16 QG;obtain rfl:Rl=true:=QS 17 QG;obtain⟨rfl,zP,_⟩:=xP.made rfl;obtain⟨rfl,zQ,_⟩:=xQ.made rfl;obtain⟨rfl,zR,_⟩:=xR.made rfl;obtain⟨a1,a2,a3⟩:=A rfl;obtain⟨v1,v2,v3⟩:=V rfl;have KP:=xP.put rfl;have KQ:=xQ.put rfl;have KR:=xR.put rfl;go_wp2;go_meet
   case rel=>exact⟨_,_,_,_,_,rfl,rfl,rfl,KP,KQ,KR,a1.move (λb q l=>⟨aH a2 q.1,rfl⟩),v1.move (λb q l=>⟨aH v2 q.1,rfl⟩),zP,zQ,zR,B⟩
  refine .cons ?_ (.cons ?_ (.cons ?_ (.cons ?_ (.cons ?_ (.cons ?_ (.cons ?_ (.cons ?_ (.cons ?_ (.cons ?_ (.cons ?_ (.cons ?_ (.cons ?_ (.cons ?_ (.cons ?_ (.cons ?_ (.cons ?_ (.cons ?_ (.nil))))))))))))))))))
  all_goals
   rintro L a W ⟨bP,bQ,bR,m1,m2,n1,n2,f0,f1,f2,f3,f4,f5,f7,f8,f9,QW,B,xP,xQ,xR,QP,QT,QU,QV,QX,QY,A,QQ,QR,QZ,V⟩ h0 hd K hK;subst h0
  ·clear hd;go_simp;refine hK.out _ _ ?_;simp only[QC];exact⟨bP,bQ,bR,m1,m2,n1,n2,λ_=>rfl,f1,f2,f3,f4,f5,f7,f8,f9,QW,B,xP,xQ,xR,QP,QT,QU,QV,QX,QY,A,QQ,QR,QZ,V⟩
  ·obtain rfl:=eC (k:=0) hd QI;obtain rfl:=f0 rfl;clear hd;go_simp;go_wp2_with (first|(go_at_call 231;refine(hT _ B).mono ?_;rintro e w2 ⟨rfl,b2⟩))
   refine hK.out _ _ ?_;simp only[QC];exact⟨bP,bQ,bR,m1,m2,n1,n2,λ_=>rfl,λ_=>rfl,f2,f3,f4,f5,f7,f8,f9,QW,(dG B b2),(xP.below b2),(xQ.below b2),(xR.below b2),QP,QT,QU,QV,QX,QY,(λe=>⟨(A e).1.move (λb q l=>⟨q,b2.block b l⟩),(A e).2.1,aH (A e).2.2 b2.size⟩),QQ,QR,QZ,(λe=>⟨(V e).1.move (λb q l=>⟨q,b2.block b l⟩),(V e).2.1,aH (V e).2.2 b2.size⟩)⟩
  ·clear hd;go_simp;refine hK.out _ _ ?_;simp only[QC];exact⟨bP,bQ,bR,m1,m2,n1,n2,f0,f1,λ_=>rfl,f3,f4,f5,f7,f8,f9,QW,B,xP,xQ,xR,QP,QT,QU,QV,QX,QY,A,QQ,QR,QZ,V⟩
  ·obtain rfl:=eC (k:=2) hd QI;obtain rfl:=f2 rfl;clear hd;go_simp;refine hK.out _ _ ?_;simp only[QC];exact⟨bP,bQ,bR,m1,m2,n1,n2,f0,f1,λ_=>rfl,λ_=>rfl,f4,f5,f7,f8,f9,QW,B,xP,xQ,xR,QP,QT,QU,QV,QX,QY,A,QQ,QR,QZ,V⟩
  ·obtain rfl:=eC (k:=3) hd QI;obtain rfl:=f3 rfl;clear hd;go_simp;refine hK.out _ _ ?_;simp only[QC];exact⟨bP,bQ,bR,m1,m2,n1,n2,f0,f1,f2,λ_=>rfl,λ_=>rfl,f5,f7,f8,f9,QW,B,xP,xQ,xR,QP,QT,QU,QV,QX,QY,A,QQ,QR,QZ,V⟩
  ·obtain rfl:=eC (k:=4) hd QI;obtain rfl:=f4 rfl;have KF:=h1.below B Ri;obtain⟨k1,k2⟩:=KF.rules;clear hd;go_simp;refine hK.out _ _ ?_;simp only[QC];exact⟨bP,bQ,bR,m1,m2,n1,n2,f0,f1,f2,f3,λ_=>rfl,λ_=>rfl,f7,f8,f9,QW,B,xP,xQ,xR,QP,QT,QU,QV,QX,QY,A,QQ,QR,QZ,V⟩
  ·obtain rfl:=eC (k:=5) hd QI;obtain rfl:=f5 rfl;clear hd;go_simp;go_wp2_with (first|(go_at_call 289;refine(Rx _).mono ?_;rintro e w3 ⟨av,rfl,RA,b3⟩))
   refine hK.out _ _ ?_;simp only[QC];exact⟨bP,bQ,bR,W.heap.size,w3.heap.size,n1,n2,f0,f1,f2,f3,f4,λ_=>rfl,f7,f8,f9,QW,(dG B b3),(xP.below b3),((xQ.below b3).val _),(xR.below b3),QP,QT,QU,(λe _=> .inl (xP.lt e)),(λe _=> .inl (xQ.lt e)),(λe _=> .inl (xR.lt e)),(λ_=>⟨RA.move (λb q l=>⟨⟨q,l⟩,rfl⟩),B.size,ay _⟩),QQ,QR,QZ,(λe=>⟨(V e).1.move (λb q l=>⟨q,b3.block b l⟩),(V e).2.1,aH (V e).2.2 b3.size⟩)⟩
  ·clear hd;go_simp;refine hK.out _ _ ?_;simp only[QC];exact⟨bP,bQ,bR,m1,m2,n1,n2,f0,f1,f2,f3,f4,f5,λ_=>rfl,f8,f9,QW,B,xP,xQ,xR,QP,QT,QU,QV,QX,QY,A,QQ,QR,QZ,V⟩
  ·obtain rfl:=eC (k:=7) hd QI;obtain rfl:=f7 rfl;clear hd;go_simp;refine hK.out _ _ ?_;simp only[QC];exact⟨bP,bQ,bR,m1,m2,n1,n2,f0,f1,f2,f3,f4,f5,λ_=>rfl,λ_=>rfl,f9,QW,B,xP,xQ,xR,QP,QT,QU,QV,QX,QY,A,QQ,QR,QZ,V⟩
  ·obtain rfl:=eC (k:=8) hd QI;obtain rfl:=f8 rfl;clear hd;go_simp;refine hK.out _ _ ?_;simp only[QC];exact⟨bP,bQ,bR,m1,m2,n1,n2,f0,f1,f2,f3,f4,f5,f7,λ_=>rfl,λ_=>rfl,QW,B,xP,xQ,xR,QP,QT,QU,QV,QX,QY,A,QQ,QR,QZ,V⟩
  ·obtain rfl:=eC (k:=9) hd QI;obtain rfl:=f9 rfl;have KF:=h1.below B Ri;obtain⟨k1,k2⟩:=KF.rules;clear hd;go_simp;refine hK.out _ _ ?_;simp only[QC];exact⟨bP,bQ,bR,m1,m2,n1,n2,f0,f1,f2,f3,f4,f5,f7,f8,λ_=>rfl,λ_=>rfl,B,xP,xQ,xR,QP,QT,QU,QV,QX,QY,A,QQ,QR,QZ,V⟩
  ·obtain rfl:=eC (k:=10) hd QI;obtain rfl:=QW rfl;clear hd;go_simp;go_wp2_with (first|(go_at_call 293;refine(Rn _).mono ?_;rintro e w4 ⟨vv,rfl,Ro,b4⟩))
   refine hK.out _ _ ?_;simp only[QC];exact⟨bP,bQ,bR,m1,m2,W.heap.size,w4.heap.size,f0,f1,f2,f3,f4,f5,f7,f8,f9,λ_=>rfl,(dG B b4),(xP.below b4),(xQ.below b4),((xR.below b4).val _),QP,QT,QU,QV,QX,QY,(λe=>⟨(A e).1.move (λb q l=>⟨q,b4.block b l⟩),(A e).2.1,aH (A e).2.2 b4.size⟩),(λe _=> .inl (xP.lt e)),(λe _=> .inl (xQ.lt e)),(λe _=> .inl (xR.lt e)),(λ_=>⟨Ro.move (λb q l=>⟨⟨q,l⟩,rfl⟩),B.size,ay _⟩)⟩
  ·clear hd;go_simp;refine hK.out _ _ ?_;simp only[QC];exact⟨W.heap.size,bQ,bR,m1,m2,n1,n2,f0,f1,f2,f3,f4,f5,f7,f8,f9,QW,(B.alloc B.size _),(xP.new B.size _ _),(xQ.alloc _),(xR.alloc _),(m8.lt1 xQ.lt),(m8.lt1 xR.lt),QU,(λ_ e=> .inr (A e).2.2),QX,QY,(λe=>⟨(A e).1.move (λb q l=>⟨q,((Below.refl W.heap.size W).alloc (ay _) _).block b l⟩),(A e).2.1,aH (A e).2.2 ((Below.refl W.heap.size W).alloc (ay _) _).size⟩),(λ_ e=> .inr (V e).2.2),QR,QZ,(λe=>⟨(V e).1.move (λb q l=>⟨q,((Below.refl W.heap.size W).alloc (ay _) _).block b l⟩),(V e).2.1,aH (V e).2.2 ((Below.refl W.heap.size W).alloc (ay _) _).size⟩)⟩
  ·clear hd;go_simp;refine hK.out _ _ ?_;simp only[QC];exact⟨bP,W.heap.size,bR,m1,m2,n1,n2,f0,f1,f2,f3,f4,f5,f7,f8,f9,QW,(B.alloc B.size _),(xP.alloc _),(xQ.new B.size _),(xR.alloc _),(m8.lt1 xP.lt).symm,QT,(m8.lt1 xR.lt),QV,(λ_ e=> .inr (A e).2.2),QY,(λe=>⟨(A e).1.move (λb q l=>⟨q,((Below.refl W.heap.size W).alloc (ay _) _).block b l⟩),(A e).2.1,aH (A e).2.2 ((Below.refl W.heap.size W).alloc (ay _) _).size⟩),QQ,(λ_ e=> .inr (V e).2.2),QZ,(λe=>⟨(V e).1.move (λb q l=>⟨q,((Below.refl W.heap.size W).alloc (ay _) _).block b l⟩),(V e).2.1,aH (V e).2.2 ((Below.refl W.heap.size W).alloc (ay _) _).size⟩)⟩
  ·clear hd;go_simp;refine hK.out _ _ ?_;simp only[QC];exact⟨bP,bQ,W.heap.size,m1,m2,n1,n2,f0,f1,f2,f3,f4,f5,f7,f8,f9,QW,(B.alloc B.size _),(xP.alloc _),(xQ.alloc _),(xR.new B.size _),QP,(m8.lt1 xP.lt).symm,(m8.lt1 xQ.lt).symm,QV,QX,(λ_ e=> .inr (A e).2.2),(λe=>⟨(A e).1.move (λb q l=>⟨q,((Below.refl W.heap.size W).alloc (ay _) _).block b l⟩),(A e).2.1,aH (A e).2.2 ((Below.refl W.heap.size W).alloc (ay _) _).size⟩),QQ,QR,(λ_ e=> .inr (V e).2.2),(λe=>⟨(V e).1.move (λb q l=>⟨q,((Below.refl W.heap.size W).alloc (ay _) _).block b l⟩),(V e).2.1,aH (V e).2.2 ((Below.refl W.heap.size W).alloc (ay _) _).size⟩)⟩
  ·obtain rfl:=eC (k:=12) hd QI;obtain rfl:=eC (k:=1) hd QI;obtain⟨rfl,zP,Ry,Rz,yP⟩:=xP.made rfl;obtain⟨cP,kP⟩:=yP.rules;obtain rfl:=f1 rfl;clear hd;go_simp;refine hK.out _ _ ?_;simp only[QC];exact⟨bP,bQ,bR,m1,m2,n1,n2,f0,λ_=>rfl,f2,f3,f4,f5,f7,f8,f9,QW,((B.setCell (p:=(ai bP 0)) zP _).setCell (p:=(ai bP 1)) zP _),xP.store,((xQ.oth (λe=>QP rfl e) 0 _).oth (λe=>QP rfl e) 1 _),((xR.oth (λe=>QT rfl e) 0 _).oth (λe=>QT rfl e) 1 _),QP,QT,QU,QV,QX,QY,(λe=>⟨(A e).1.move (λb q l=>⟨q,(dW (by have:=QV rfl e;omega)).trans (dW (by have:=QV rfl e;omega))⟩),(A e).2.1,by simpa using(A e).2.2⟩),QQ,QR,QZ,(λe=>⟨(V e).1.move (λb q l=>⟨q,(dW (by have:=QQ rfl e;omega)).trans (dW (by have:=QQ rfl e;omega))⟩),(V e).2.1,by simpa using(V e).2.2⟩)⟩
  ·obtain rfl:=eC (k:=13) hd QI;obtain rfl:=eC (k:=6) hd QI;obtain⟨rfl,zQ,yQ⟩:=xQ.made rfl;obtain⟨wQ,cQ,kQ⟩:=gX yQ;obtain⟨af,Rg,⟨rfl,Re⟩,Rt⟩:=(A rfl).1;clear hd;go_simp;refine hK.out _ _ ?_;simp only[QC];exact⟨bP,bQ,bR,m1,m2,n1,n2,f0,f1,f2,f3,f4,f5,f7,f8,f9,QW,(B.setCell (p:=(ai bQ 0)) zQ _),(xP.oth (λe=>QP.symm rfl e) 0 _),xQ.store,(xR.oth (λe=>QU rfl e) 0 _),QP,QT,QU,QV,QX,QY,(λe=>⟨(A e).1.move (λb q l=>⟨q,dW (by have:=QX rfl e;omega)⟩),(A e).2.1,by simpa using(A e).2.2⟩),QQ,QR,QZ,(λe=>⟨(V e).1.move (λb q l=>⟨q,dW (by have:=QR rfl e;omega)⟩),(V e).2.1,by simpa using(V e).2.2⟩)⟩
  ·obtain rfl:=eC (k:=14) hd QI;obtain rfl:=eC (k:=11) hd QI;obtain⟨rfl,zR,yR⟩:=xR.made rfl;obtain⟨wR,cR,kR⟩:=gX yR;obtain⟨vf,Q2,⟨rfl,Re⟩,Rt⟩:=(V rfl).1;clear hd;go_simp;refine hK.out _ _ ?_;simp only[QC];exact⟨bP,bQ,bR,m1,m2,n1,n2,f0,f1,f2,f3,f4,f5,f7,f8,f9,QW,(B.setCell (p:=(ai bR 0)) zR _),(xP.oth (λe=>QT.symm rfl e) 0 _),(xQ.oth (λe=>QU.symm rfl e) 0 _),xR.store,QP,QT,QU,QV,QX,QY,(λe=>⟨(A e).1.move (λb q l=>⟨q,dW (by have:=QY rfl e;omega)⟩),(A e).2.1,by simpa using(A e).2.2⟩),QQ,QR,QZ,(λe=>⟨(V e).1.move (λb q l=>⟨q,dW (by have:=QZ rfl e;omega)⟩),(V e).2.1,by simpa using(V e).2.2⟩)⟩
 case rest=>
  obtain⟨tb,ab,vb,av,vv,rfl,rfl,rfl,KP,KQ,KR,⟨af,Rg,⟨rfl,RB⟩,ha⟩,⟨vf,Q2,⟨rfl,Re⟩,hv⟩,zP,zQ,zR,b3⟩:=hcut;go_wp2;go_ret;refine⟨_,rfl,⟨370,[ag tb,ag ab,ag vb],⟨rfl,enters_of func370 QI rfl⟩,λS d fl n N W hK hq hN fg Rp Ru=> ?_⟩,b3⟩;have K1:=hK.bx zP KP;have K2:=hK.bx zQ KQ;have K3:=hK.bx zR KR
  have Rr:fB S fl≠16:=by
   rw[fg.pk]at hp;unfold g9 at hp;rw[aJ]at hp;intro q;rw[q]at hp;simp[eK]at hp
  have L:=hv S fl n N W hK hq hN fg.gb.symm λq=>absurd q Rr
  have A:=ha S fl n N W hK hq hN fg.gb.symm λq=>absurd q Rr
  rw[fg.eq,fg.tk]at K1;rw[fg.pk]at hp;have hk:=rI mp g;rw[fg.tk]at hk;have:=Ix tb ab af vb vf Rg Q2 fl.num (nJ S fl) hN K1 K2 K3 (hq tb zP KP.lt) (hq ab zQ KQ.lt) (hq vb zR KR.lt) Rp hk Re RB L A
  exact λW' Z vv l k b l0 B q1 q2 q3 q4 q5 q6=>by
   have e:jM S (d9 S n) fl l=eW fl.num (nJ S fl)++eX (l.flatMap (fP S (d9 S n) fl)):=by unfold jM;rw[dB hp];rfl
   rw[e]at q6⊢;exact this W' Z vv l k b l0 B q1 q2 q3 q4 q5 q6
def xu (h:eG w P mp g fb):Calls prog 212 #[ag fb,.pointer iq] w (jg w λw' v=>Ch w' (λb=>w.heap.size<=b) mp g iq v):=by
 cases hp:gN mp g with
 |false=>exact DH w P mp g fb iq h hp
 |true=>
  have Rs:=lH w P mp g fb h;rw[hp]at Rs;go_enter func212,ntmps212;go_wp2_with fail;refine Rs.mono ?_;rintro e w1 ⟨rfl,b1⟩;have s1:=b1.size;have hW:=tY w1 P mp g fb iq (h.keep λb _ hl=>b1.block b hl) hp;go_wp2_with fail;refine hW.mono ?_;rintro e w2 ⟨v,rfl,E2,b2⟩;obtain⟨f2,c2,e2,_⟩:=id E2;obtain rfl:=e2.eq;go_wp2;go_ret;exact⟨_,rfl,E2.move λb q l=>⟨aH s1 q,rfl⟩,dG b1 b2⟩
end
end
def sX:m9:=⟨wC,tX,xu,tV,wg⟩
section
open Go.Maps
attribute [local go_sem↓] Go.wp_at_zero Go.wp_at_succ
def kH.lt {w:an}{sb kp mk:Nat}{bs:List dO}{P:ap}(h:kH w sb kp mk bs P):P mk/\P kp/\mk<w.heap.size/\kp<w.heap.size:=by
 obtain⟨v,y,h1,⟨a1,a2,a3,a4,a5⟩,h3,N,pm,h4⟩:=h;exact⟨a3,a2,h4.mb.lt,h4.kb.lt⟩
def Lm (w:an)(hg:GOK w)(hbo:BOK w)(hu:UOK w):Calls prog 26 #[] w λe w'=>e= .returned (.bool true)/\aj w w':=by
 obtain⟨bs,m,QW,QX,hO,Q7,e1,e2,e3,e4⟩:=Nn;have QQ:=Bu QW
 have hl:∀d,(dV bs).msg nK=some d->(d9 (dV bs) 8 d m).length<=140737488355328:=λd _=>by
  have:=qO (S:=dV bs) 8 9 d m hO;omega
 have HP:=c5 w tK QG hg hbo;rw[QW]at HP;have QR:Hid (∀W,aj w W->UOK W):=λW hW=>hu.keep (hW.block _ hu.lt1) (hW.block _ hu.lt2)
 have HD:Hid (∀(W:an) (sb kp mk:Nat) (QP:Int),aj w W->kH W sb kp mk bs (λb=>w.heap.size<=b)->QP=1\/QP=2->Calls prog 21 #[ag sb,aa QP,ae nK,ae iK] W (kG [mk,kp] (λZ w'=>kH w' sb kp mk bs λx=>(w.heap.size<=x/\x<W.heap.size)\/(W.heap.size<=x/\¬Z x)) W (.ok m))):=λW sb kp mk QP hW hs hw=>by
  have:=yB sX W sb kp mk bs _ nK iK QP hs QQ (QR.out W hW) QG hw (by have:=hu.lt1;omega) (by have:=hu.lt2;omega)
  rwa [QX]at this
 have HE:Hid (∀(W:an) (sb kp mk:Nat) (QP:Int) (P Z:ap) (mv:Value),aj w W->kH W sb kp mk bs P->QP=1\/QP=2->(∀b,P b->w.heap.size<=b)->iy 9 W Z mv m->(∀b,Z b->¬P b)->Calls prog 24 #[ag sb,aa QP,ae nK,.agg #[mv,ae m.unk]] W λe w'=>e= .returned (.tuple #[ae oK,aa 0])/\dS [mk,kp] W w'/\kH w' sb kp mk bs λx=>(P x/\x<W.heap.size)\/W.heap.size<=x):=λW sb kp mk QP P Z mv hW hs hw hP hM hZ=>by
  have:=yC sX W sb kp mk bs P nK QP Z 9 mv m hs QQ (QR.out W hW) hw (λq=>by have:=hP _ q;have:=hu.lt1;omega) (λq=>by have:=hP _ q;have:=hu.lt2;omega) hM hZ hO hl
  rwa [e1,e2]at this
 have HS:Hid (∀(W:an) (sb kp mk:Nat) (QP:Int) (P Z:ap) (mv:Value),aj w W->kH W sb kp mk bs P->QP=1\/QP=2->(∀b,P b->w.heap.size<=b)->iy 9 W Z mv m->(∀b,Z b->¬P b)->Calls prog 25 #[ag sb,aa QP,ae nK,.agg #[mv,ae m.unk]] W λe w'=>e= .returned (.tuple #[aa 6,aa 0])/\dS [mk,kp] W w'/\kH w' sb kp mk bs λx=>(P x/\x<W.heap.size)\/W.heap.size<=x):=λW sb kp mk QP P Z mv hW hs hw hP hM hZ=>by
  have:=IL sX W sb kp mk bs P nK QP Z 9 mv m hs QQ (QR.out W hW) hw (λq=>by have:=hP _ q;have:=hu.lt1;omega) (λq=>by have:=hP _ q;have:=hu.lt2;omega) hM hZ hO hl
  rwa [e3,e4]at this
 clear hl e1 e2 e3 e4 QX Q7 hO;have hoo:(oK.toList==oK.toList)=true:=QE;go_enter func26,ntmps26;go_wp2_with fail;refine HP.mono ?_;rintro e w1 ⟨⟨sb,kp,mk,rfl,Q8⟩,b1⟩;have QZ:=Q8.toP QQ;go_wp2;go_loopw [4,5,6,7,8,9,10,11] (λiv _ _ _ _ _ _ _ wr=>∃QP:Nat,iv=aa QP/\1<=QP/\QP<=3/\kH wr sb kp mk bs (λb=>w.heap.size<=b)/\aj w wr) (λiv _ _ _ _ _ _ _ _=>3-(intOf iv).toNat)
 case atStart=>exact⟨1,rfl,QD,QD,QZ,b1⟩
 case round=>
  obtain⟨QP,rfl,hw1,hw3,hs,B⟩:=hrel
  by_cases hlt:QP<3
  ·have hlt':(QP:Int)<3:=QD;have hw:(QP:Int)=1\/(QP:Int)=2:=QD;obtain⟨pm1,pk1,lm,lk⟩:=hs.lt
   have QS:∀x∈ [mk,kp],w.heap.size<=x:=λx hx=>by
    simp only[aN,bF,or_false]at hx
    rcases hx with rfl|rfl<;>assumption
   have Q0:=HD.out wr sb kp mk QP B hs hw;go_wp2_with fail;refine Q0.mono ?_;rintro e w2 ⟨v,Z',rfl,hm,hZ,QY,Q9⟩;obtain⟨va,vc,rfl⟩:=hm.form;have B2:aj w w2:=B.trans (QY.to_below B.size QS);obtain⟨B3,K3⟩:=dR w2 #[.slice va m.fs.length vc,ae m.unk] 49;have QT:=dG B2 B3;have s2:=QY.size;have s3:=B3.size;have Q1:=Q9.keep (w':=w2.alloc (ak #[.slice va m.fs.length vc,ae m.unk] 49)) λb _ hl=>B3.block b hl
   have QV:=hm.toIn.rn.below B3 (ay _);have Q2:=HE.out _ sb kp mk QP _ Z' _ QT Q1 hw (λb q=>by have:=B.size;rcases q with q|q<;>omega) QV (λb q p=>p.elim (λp=>by have:=(hZ b q).1;omega) λp=>p.2 q);obtain⟨k1,k2⟩:=K3.rules;go_wp2_with fail;refine Q2.mono ?_;rintro e w4 ⟨rfl,QU,Ra⟩
   have Q3:∀b,Z' b->b∉ [mk,kp]:=λb q hx=>by
    have:=(hZ b q).1;simp only[aN,bF,or_false]at hx;omega
   have K4:=K3.kept QU QF;have B4:aj w w4:=QT.trans (QU.to_below QT.size QS);have Q4:=QV.keep (w':=w4) λb q hl=>QU.block b hl (Q3 b q)
   have Q5:=HS.out _ sb kp mk QP _ Z' _ B4 Ra hw (λb q=>by have:=B.size;rcases q with⟨q|q,_⟩|q<;>omega) Q4 (λb q p=>by
    have h1:=hZ b q
    rcases p with⟨p|p,_⟩|p
    ·omega
    ·exact p.2 q
    ·omega)
   clear k1 k2;obtain⟨k1,k2⟩:=K4.rules;go_wp2_with fail;refine Q5.mono ?_;rintro e w5 ⟨rfl,Rb,Rc⟩;have B5:aj w w5:=B4.trans (Rb.to_below B4.size QS);have Q6:=Rc.less (P':=λb=>w.heap.size<=b) λb q _=>by have:=B.size;have:=B4.size;rcases q with⟨⟨q|q,_⟩|q,_⟩|q<;>omega
   go_wp2;go_roundw
   case rel=>exact⟨QP+1,by go_num,QD,QD,Q6,B5⟩
   case measure=>simp[intOf];omega
  ·obtain rfl:QP=3:=QD;go_wp2;go_ret;exact⟨rfl,B⟩
end
end Go.Proofs.YtfebdimolnobaaaGreatDoor
