import Derived.Test.YtfebdimolnobaaaGreatDoorEpK
set_option maxRecDepth 100000
set_option maxHeartbeats 8000000
set_option linter.all false
namespace Go.Proofs.YtfebdimolnobaaaGreatDoor
open Go.RowKit
section
open Go.Maps
attribute [local go_sem↓] Go.wp_at_zero Go.wp_at_succ
theorem Aj {bs:List dh}(h:ix bs):z8 (dt bs):=fun t d hd n f hf=>by
 obtain⟨b,hb,rfl⟩:=List.mem_map.1 (jn hd);obtain⟨OC,OD⟩:=List.mem_filter.1 hb;obtain⟨_,hm⟩:=eY hf;obtain⟨p,hp,hq⟩:=List.mem_flatMap.1 hm;obtain⟨fr,hr,rfl⟩:=List.mem_map.1 hq;have:=(h.ok.chk b OC (by simpa using OD)).flds p hp fr hr;have h1:=this.lo;have h2:=this.hi;show 0<=((fy fr.num.1:Nat):Int)/\((fy fr.num.1:Nat):Int)<=536870911;omega
section
variable {ks:au} {K:an->Prop} {E B:Nat}
theorem DW (hK:jG E B K)(ok:Bool)(v:am)(w:an)(hk0:K w)(q0 q1 q2 q3 mb:Nat)(a:aw)(n c:Nat)(unk:am)(hc0:w.cell? (ai q0 0)=some (aa 1))(hc1:w.cell? (ai q1 0)=some (ag mb))(hc2:de w q2 #[.slice a n c,ae unk] 49)
  (h:Calls Tryz.prog 54 #[ag mb,.agg #[.slice a n c,ae unk]] w (iu ok (Value.string v) w)):
  Calls Tryz.prog 53 #[ag q0,ag q1,ag q2,ag q3] w (iX ks K ok (Value.string v) w):=by
 obtain⟨k1,k2⟩:=hc2.rules;go_enter Tryz.func53,Tryz.ntmps53
 go_wp2_with fail
 refine h.mono ?_;intro e w2 hr;have N8:∀w2,aj w w2->K w2:=fun w2 b2=>hK w w2 hk0 b2.size fun z _ hl=>b2.block z hl
 rcases hr.part with⟨rfl,rfl,b2⟩|⟨rfl,y,z,rfl,b2⟩
 ·go_wp2;go_ret;exact⟨.of_below b2,N8 w2 b2,rfl⟩
 ·unfold da;go_wp2;exact⟨rfl,.of_below b2,N8 w2 b2,y,_,rfl⟩
theorem DX (hK:jG E B K)(ok:Bool)(v:am)(w:an)(q0 q1 q2 q3 mb sb kp:Nat)(sv:Value)(a:aw)(n c:Nat)(unk:am)(hc0:w.cell? (ai q0 0)=some (aa 2))(hc1:w.cell? (ai q1 0)=some (ag mb))(hc2:de w q2 #[.slice a n c,ae unk] 49)(hc3:w.cell? (ai q3 0)=some (ag sb))(hs:de w sb #[sv,ag kp] 92)
  (hq:q1∉ks/\q2∉ks/\q3∉ks/\sb∉ks)
  (h:Calls Tryz.prog 48 #[ag kp,ag mb] w.drew fun e w1=>∃p,e= .returned (ag p)/\dl ks w.drew w1/\K w1/\Calls Tryz.prog 55 #[ag p,.agg #[.slice a n c,ae unk]] w1 (iu ok (Value.string v) w1)):
  Calls Tryz.prog 53 #[ag q0,ag q1,ag q2,ag q3] w (iX ks K ok (Value.string v) w):=by
 have l1:q1<w.heap.size:=aN _ _ hc1;have l3:q3<w.heap.size:=aN _ _ hc3
 have HS:Hid (∀W:an,dl ks w W->W.cell? (ai q1 0)=some (ag mb)/\W.cell? (ai q2 0)=some (.slice a n c)/\W.cell? (ai q2 1)=some (ae unk)/\W.cell? (ai q3 0)=some (ag sb)/\W.cell? (ai sb 1)=some (ag kp)):=fun W hk=>
  ⟨(aZ (a:=(ai q1 0)) (hk.block q1 l1 hq.1)).trans hc1,(hc2.kept hk hq.2.1).cell 0,(hc2.kept hk hq.2.1).cell 1,(aZ (a:=(ai q3 0)) (hk.block q3 l3 hq.2.2.1)).trans hc3,(hs.kept hk hq.2.2.2).cell 1⟩
 have e0:=HS.out w.drew (dl.refl _ w).drew;clear hc1 hc3;go_enter Tryz.func53,Tryz.ntmps53
 go_upto_region 3 with fail
 go_region_held2 (fun W=>W.cell? (ai q1 0)=some (ag mb)/\W.cell? (ai q2 0)=some (.slice a n c)/\W.cell? (ai q2 1)=some (ae unk)/\W.cell? (ai q3 0)=some (ag sb)/\W.cell? (ai sb 1)=some (ag kp))
  (first|exact HS.out _ Ob|exact HS.out _ N2|exact e0)
  (first
   |(
     go_at_call 48
     refine h.mono ?_;rintro e w2 ⟨p,rfl,Oi,N8,Oz⟩
     have N2:=dl.ofDrew Oi)
   |(
     go_at_call 55
     refine Oz.mono ?_;intro e w3 OA
     rcases OA.part with⟨rfl,rfl,b3⟩|⟨rfl,y,z,rfl,b3⟩
     rotate_left
     ·have Ob:=N2.trans (dl.of_below b3);have Oc:=hK w2 w3 N8 b3.size fun z _ hl=>b3.block z hl
      unfold da;go_wp2;exact⟨rfl,Ob,Oc,y,_,rfl⟩
     have Ob:=N2.trans (dl.of_below b3)
     have Oc:=hK w2 w3 N8 b3.size fun z _ hl=>b3.block z hl))
 all_goals
  go_wp2;go_ret;exact⟨Ob,Oc,rfl⟩
end
def kK (S:dG)(nm:am)(m:PM):am×Int:=
 match S.msg nm with
 |none=>(⟨#[]⟩,5)
 |some d=>(if dm S 8 d m=true then⟨(dD S 8 d m).toArray⟩else⟨#[]⟩,if dm S 8 d m=true then 0 else 12)
theorem DY (w:an)(sb:Nat)(sv kv:Value)(bs:List dh)(y:List YM)(P:ap)(nm:am)(Z:ap)(k:Nat)(mv:Value)(m:PM)(h1:de w sb #[sv,kv] 92)(hM:d5 w P sv bs y)(h:ix bs)(hu:UOK w)(hMi:fR k w Z mv m)(hO:kT k m)(hl:∀d,(dt bs).msg nm=some d->(dD (dt bs) 8 d m).length<=140737488355328):
  Calls Tryz.prog 24 #[ag sb,aa 1,ae nm,.agg #[mv,ae m.unk]] w fun e w'=>e= .returned (.tuple #[Value.string (kK (dt bs) nm m).1,aa (kK (dt bs) nm m).2])/\aj w w':=by
 obtain⟨a,c,rfl⟩:=hMi.form;refine(wy (ks:= []) (K:=fun _=>True) _ w (by simp) (fun _ _ _ _ _=>trivial) trivial sb sv kv bs y P nm a m.fs.length c m.unk 1 h1 hM (kc hM h) (.inl rfl) (fun Oj=> ?_) (fun i ym hi hn=> ?_)).mono fun e w' q=>⟨q.1,q.2.1.to_below (ay _) (by simp)⟩
 ·unfold kK;rw[lX hM Oj]
 ·obtain⟨d,gs,g1,g2,g3,g4⟩:=uo hM h hi hn;have cx:=qO hM h hu;refine⟨dm (dt bs) 8 d m,⟨(dD (dt bs) 8 d m).toArray⟩,by unfold kK;rw[g1],fun w0 q0 q1 q2 q3 hb _ _ c0 c1 c2 _=> ?_⟩;exact DW (E:=0) (B:=0) (fun _ _ _ _ _=>trivial) _ _ w0 trivial q0 q1 q2 q3 ym.1.2 a _ c m.unk c0 c1 c2 (Gi (Aj h) w0 Z _ m d ym.1.2 gs d.name k (cx.on hb) (g2.keep fun x q _=>hb.block x q) g3 (Aj h _ _ g1) (hMi.below hb (ay _)) hO (hl d g1))
theorem DZ (MK:lB)(w:an)(sb kp mk:Nat)(sv:Value)(bs:List dh)(y:List YM)(P:ap)(nm:am)(Z:ap)(k:Nat)(mv:Value)(m:PM)(h1:de w sb #[sv,ag kp] 92)(hM:d5 w P sv bs y)(h:ix bs)(hu:UOK w)(hMi:fR k w Z mv m)(hZ:¬Z mk/\¬Z kp)(hO:kT k m)(hl:∀d,(dt bs).msg nm=some d->(dD (dt bs) 8 d m).length<=140737488355328)
  (Y:ap) (hp:fS w kp mk (dt bs) (jc (y.map (·.1))) Y) (hY:∀x,P x->Y x) (hP:∀x,P x->x≠mk/\x≠kp) (hsb:sb≠mk/\sb≠kp) (hu1:2≠mk/\2≠kp) (hu2:3≠mk/\3≠kp):
  Calls Tryz.prog 24 #[ag sb,aa 2,ae nm,.agg #[mv,ae m.unk]] w fun e w'=>e= .returned (.tuple #[Value.string (kK (dt bs) nm m).1,aa (kK (dt bs) nm m).2])/\dl [mk,kp] w w'/\fS w' kp mk (dt bs) (jc (y.map (·.1))) fun x=>(Y x/\x<w.heap.size)\/(w.heap.size+6<=x/\¬False):=by
 obtain⟨a,c,rfl⟩:=hMi.form;obtain⟨N,pm,ok0⟩:=id hp;have Od:=ok0.kb.lt;have N7:=ok0.mb.lt;have Om:jG w.heap.size (w.heap.size+6) fun w'=>fS w' kp mk (dt bs) (jc (y.map (·.1))) fun x=>(Y x/\x<w.heap.size)\/(w.heap.size+6<=x/\¬False):=fS.still (Z:=fun _=>False) Od N7
 have Oo:∀x∈ [mk,kp],x<w.heap.size:=fun x hx=>by
  simp only[aL,bG,or_false]at hx
  rcases hx with rfl|rfl
  ·exact N7
  ·exact Od
 have Oa:∀x,x≠mk->x≠kp->x∉ [mk,kp]:=fun x h1 h2=>by simp[h1,h2]
 refine wy _ w Oo Om (hp.less fun x hy hl=> .inl ⟨hy,hl⟩) sb sv _ bs y P nm a m.fs.length c m.unk 2 h1 hM (kc hM h) (.inr rfl) (fun Oj=> ?_) (fun i ym hi hn=> ?_)
 ·unfold kK;rw[lX hM Oj]
 ·have Oq:d5 w (fun x=>P x/\x<w.heap.size) sv bs y:=hM.mono fun x q hl=>⟨q,hl⟩
  obtain⟨d,gs,g1,g2,g3,g4,g5⟩:=qX Oq h hi hn;have Ot:=jF g1;refine⟨dm (dt bs) 8 d m,⟨(dD (dt bs) 8 d m).toArray⟩,by unfold kK;rw[g1],fun w0 q0 q1 q2 q3 hb hsz Ok c0 c1 c2 c3=> ?_⟩;have Oe:∀q,w.heap.size<=q->q∉ [mk,kp]:=fun q hq hx=>by have:=Oo q hx;omega
  refine DX Om _ _ w0 q0 q1 q2 q3 ym.1.2 sb kp sv a _ c m.unk c0 c1 c2 c3 (h1.below hb h1.lt) ⟨Oe _ Ok.2.1,Oe _ Ok.2.2.1,Oe _ Ok.2.2.2,Oa sb hsb.1 hsb.2⟩ ?_;have N3:aj w w0.drew:=hb.drew;have Ov:d5 w0.drew P sv bs y:=hM.keep fun x _ hl=>N3.block x hl
  have Ow:∀x,(P x/\x<w.heap.size)->x<w.heap.size/\x≠mk/\x≠kp:=fun x q=>⟨q.2,hP x q.1⟩
  have md:=(qj Oq h).keep (w':=w0.drew) fun x q _=>N3.block x q.2
  have Ox:w0.drew.heap.size=w.heap.size+6:=hsz
  have I1:wo kp mk w.heap.size 0 (dt bs) (jc (y.map (·.1))) (fun x=>P x/\x<w.heap.size) w0.drew N pm [] fun x=>(Y x/\x<w.heap.size)\/(w.heap.size+6<=x/\¬False):=
   ⟨(ok0.less fun x hy hl=> .inl ⟨hy,hl⟩).keep (fun x hl=>N3.block x hl),md,N3.size,by simp,fun x hx=> .inl ⟨hY x hx.1,hx.2⟩,fun x hx=> .inr ⟨by omega,id⟩,Ow,Od,N7⟩
  refine(Ka kp mk w.heap.size (dt bs) (jc (y.map (·.1))) _ MK w0.drew N pm ym.1.2 d gs _ I1 (by rw[Ot];exact g1) (g2.keep fun x q _=>N3.block x q.2) g3 g5).mono ?_;rintro en w2 ⟨p,N',Ou,rfl,OB,ok2,OE,N2⟩;refine⟨p,rfl,N2,⟨N',Ou,ok2⟩,?_⟩;have Oy:d5 w2 P sv bs y:=Ov.keep fun x q hl=>N2.block x hl (Oa x (hP x q).1 (hP x q).2)
  have Of:UOK w0.drew:=hu.keep (N3.block _ hu.lt1) (N3.block _ hu.lt2);have Og:UOK w2:=Of.keep (N2.block _ Of.lt1 (Oa _ hu1.1 hu1.2)) (N2.block _ Of.lt2 (Oa _ hu2.1 hu2.2));have cx:=qO Oy h Og
  have pc:kI w2 (fun x=>x<w2.heap.size) (dt bs) (jc (y.map (·.1))) Ou:=fun t q hq=>by
   rcases ok2.pl t q hq with⟨z,_⟩|⟨d',Ol,z1,z2,z3⟩
   ·cases z
   ·exact⟨d',Ol,z1,z3.move (.mono fun x _ hl=>hl) (fun _ _ q=>q),z2⟩
  obtain⟨d',Ol,z1,z2,z3⟩:=pc _ _ OB
  obtain rfl:d=d':=by
   rw[Ot,g1]at z1;exact Option.some.inj z1
  have Oh:fR k w2 Z (.slice a m.fs.length c) m:=(hMi.below N3 (ay _)).keep fun x q hl=>N2.block x hl (Oa x (fun e=>hZ.1 (e▸q)) (fun e=>hZ.2 (e▸q)))
  exact Gp (Aj h) w2 Z _ m d p Ol k cx pc z2 z3 (Aj h _ _ g1) Oh hO (hl d g1)
theorem wC (MK:lB)(w:an)(sb kp mk:Nat)(bs:List dh)(P:ap)(nm:am)(way:Int)(Z:ap)(k:Nat)(mv:Value)(m:PM)(hs:jq w sb kp mk bs P)(h:ix bs)(hu:UOK w)(hw:way=1\/way=2)(hu1:¬P 2)(hu2:¬P 3)(hMi:fR k w Z mv m)(hZ:∀b,Z b->¬P b)(hO:kT k m)(hl:∀d,(dt bs).msg nm=some d->(dD (dt bs) 8 d m).length<=140737488355328):
  Calls Tryz.prog 24 #[ag sb,aa way,ae nm,.agg #[mv,ae m.unk]] w fun e w'=>e= .returned (.tuple #[Value.string (kK (dt bs) nm m).1,aa (kK (dt bs) nm m).2])/\dl [mk,kp] w w'/\jq w' sb kp mk bs fun x=>(P x/\x<w.heap.size)\/w.heap.size<=x:=by
 obtain⟨v,y,h1,⟨a1,a2,a3,a4,a5⟩,h3,h4⟩:=id hs
 rcases hw with rfl|rfl
 ·exact(DY w sb v _ bs y _ nm Z k mv m h1 h3 h hu hMi hO hl).mono fun e w' q=>⟨q.1,.of_below q.2,(hs.less (P':=fun x=>(P x/\x<w.heap.size)\/w.heap.size<=x) fun x q hl=> .inl ⟨q,hl⟩).keep fun x _ hl=>q.2.block x hl⟩
 ·have N7:mk<w.heap.size/\kp<w.heap.size:=by
   obtain⟨_,_,h5⟩:=h4;exact⟨h5.mb.lt,h5.kb.lt⟩
  refine(DZ MK w sb kp mk v bs y _ nm Z k mv m h1 h3 h hu hMi ⟨fun q=>hZ _ q a3,fun q=>hZ _ q a2⟩ hO hl _ h4 (fun x q=>q.1) (fun x q=>⟨q.2.2.2,q.2.2.1⟩) ⟨a5,a4⟩ ⟨fun e=>hu1 (e▸a3),fun e=>hu1 (e▸a2)⟩ ⟨fun e=>hu2 (e▸a3),fun e=>hu2 (e▸a2)⟩).mono fun e w' q=>⟨q.1,q.2.1,?_⟩
  have kw:=q.2.1;have hn:∀x,x≠kp->x≠mk->x<w.heap.size->w'.heap[x]?=w.heap[x]?:=fun x q1 q2 hl=>kw.block x hl (by simp[q1,q2])
  refine⟨v,y,(hn sb a4 a5 h1.lt).trans h1,⟨.inl ⟨a1,h1.lt⟩,.inl ⟨a2,N7.2⟩,.inl ⟨a3,N7.1⟩,a4,a5⟩,(h3.mono (Q:=fun x=>(P x/\x≠sb/\x≠kp/\x≠mk)/\x<w.heap.size) fun x q hl=>⟨q,hl⟩).keep (fun x q hl=>hn x q.1.2.2.1 q.1.2.2.2 hl)|>.mono fun x q _=>⟨.inl ⟨q.1.1,q.2⟩,q.1.2⟩,?_⟩;exact q.2.2.less fun x q _=>q.imp id fun q=>by omega
section
variable {ks:au} {K:an->Prop} {E B:Nat}
theorem Kr (hK:jG E B K)(ok:Bool)(v:Int)(w:an)(hk0:K w)(q0 q1 q2 q3 mb:Nat)(a:aw)(n c:Nat)(unk:am)(hc0:w.cell? (ai q0 0)=some (aa 1))(hc1:w.cell? (ai q1 0)=some (ag mb))(hc2:de w q2 #[.slice a n c,ae unk] 49)
  (h:Calls Tryz.prog 58 #[ag mb,.agg #[.slice a n c,ae unk]] w (iu ok (Value.int .i64 v) w)):
  Calls Tryz.prog 57 #[ag q0,ag q1,ag q2,ag q3] w (iX ks K ok (Value.int .i64 v) w):=by
 obtain⟨k1,k2⟩:=hc2.rules;go_enter Tryz.func57,Tryz.ntmps57
 go_wp2_with fail
 refine h.mono ?_;intro e w2 hr;have N8:∀w2,aj w w2->K w2:=fun w2 b2=>hK w w2 hk0 b2.size fun z _ hl=>b2.block z hl
 rcases hr.part with⟨rfl,rfl,b2⟩|⟨rfl,y,z,rfl,b2⟩
 ·go_wp2;go_ret;exact⟨.of_below b2,N8 w2 b2,rfl⟩
 ·unfold da;go_wp2;exact⟨rfl,.of_below b2,N8 w2 b2,y,_,rfl⟩
theorem Ks (hK:jG E B K)(ok:Bool)(v:Int)(w:an)(q0 q1 q2 q3 mb sb kp:Nat)(sv:Value)(a:aw)(n c:Nat)(unk:am)(hc0:w.cell? (ai q0 0)=some (aa 2))(hc1:w.cell? (ai q1 0)=some (ag mb))(hc2:de w q2 #[.slice a n c,ae unk] 49)(hc3:w.cell? (ai q3 0)=some (ag sb))(hs:de w sb #[sv,ag kp] 92)
  (hq:q1∉ks/\q2∉ks/\q3∉ks/\sb∉ks)
  (h:Calls Tryz.prog 48 #[ag kp,ag mb] w.drew fun e w1=>∃p,e= .returned (ag p)/\dl ks w.drew w1/\K w1/\Calls Tryz.prog 59 #[ag p,.agg #[.slice a n c,ae unk]] w1 (iu ok (Value.int .i64 v) w1)):
  Calls Tryz.prog 57 #[ag q0,ag q1,ag q2,ag q3] w (iX ks K ok (Value.int .i64 v) w):=by
 have l1:q1<w.heap.size:=aN _ _ hc1;have l3:q3<w.heap.size:=aN _ _ hc3
 have HS:Hid (∀W:an,dl ks w W->W.cell? (ai q1 0)=some (ag mb)/\W.cell? (ai q2 0)=some (.slice a n c)/\W.cell? (ai q2 1)=some (ae unk)/\W.cell? (ai q3 0)=some (ag sb)/\W.cell? (ai sb 1)=some (ag kp)):=fun W hk=>
  ⟨(aZ (a:=(ai q1 0)) (hk.block q1 l1 hq.1)).trans hc1,(hc2.kept hk hq.2.1).cell 0,(hc2.kept hk hq.2.1).cell 1,(aZ (a:=(ai q3 0)) (hk.block q3 l3 hq.2.2.1)).trans hc3,(hs.kept hk hq.2.2.2).cell 1⟩
 have e0:=HS.out w.drew (dl.refl _ w).drew;clear hc1 hc3;go_enter Tryz.func57,Tryz.ntmps57
 go_upto_region 3 with fail
 go_region_held2 (fun W=>W.cell? (ai q1 0)=some (ag mb)/\W.cell? (ai q2 0)=some (.slice a n c)/\W.cell? (ai q2 1)=some (ae unk)/\W.cell? (ai q3 0)=some (ag sb)/\W.cell? (ai sb 1)=some (ag kp))
  (first|exact HS.out _ Ob|exact HS.out _ N2|exact e0)
  (first
   |(
     go_at_call 48
     refine h.mono ?_;rintro e w2 ⟨p,rfl,Oi,N8,Oz⟩
     have N2:=dl.ofDrew Oi)
   |(
     go_at_call 59
     refine Oz.mono ?_;intro e w3 OA
     rcases OA.part with⟨rfl,rfl,b3⟩|⟨rfl,y,z,rfl,b3⟩
     rotate_left
     ·have Ob:=N2.trans (dl.of_below b3);have Oc:=hK w2 w3 N8 b3.size fun z _ hl=>b3.block z hl
      unfold da;go_wp2;exact⟨rfl,Ob,Oc,y,_,rfl⟩
     have Ob:=N2.trans (dl.of_below b3)
     have Oc:=hK w2 w3 N8 b3.size fun z _ hl=>b3.block z hl))
 all_goals
  go_wp2;go_ret;exact⟨Ob,Oc,rfl⟩
end
def oF (S:dG)(nm:am)(m:PM):Int×Int:=
 match S.msg nm with
 |none=>(0,5)
 |some d=>(if dm S 8 d m=true then((dD S 8 d m).length:Int)else 0,if dm S 8 d m=true then 0 else 12)
theorem Kt (w:an)(sb:Nat)(sv kv:Value)(bs:List dh)(y:List YM)(P:ap)(nm:am)(Z:ap)(k:Nat)(mv:Value)(m:PM)(h1:de w sb #[sv,kv] 92)(hM:d5 w P sv bs y)(h:ix bs)(hu:UOK w)(hMi:fR k w Z mv m)(hO:kT k m)(hl:∀d,(dt bs).msg nm=some d->(dD (dt bs) 8 d m).length<=140737488355328):
  Calls Tryz.prog 25 #[ag sb,aa 1,ae nm,.agg #[mv,ae m.unk]] w fun e w'=>e= .returned (.tuple #[Value.int .i64 (oF (dt bs) nm m).1,aa (oF (dt bs) nm m).2])/\aj w w':=by
 obtain⟨a,c,rfl⟩:=hMi.form;refine(Gj (ks:= []) (K:=fun _=>True) _ w (by simp) (fun _ _ _ _ _=>trivial) trivial sb sv kv bs y P nm a m.fs.length c m.unk 1 h1 hM (kc hM h) (.inl rfl) (fun Oj=> ?_) (fun i ym hi hn=> ?_)).mono fun e w' q=>⟨q.1,q.2.1.to_below (ay _) (by simp)⟩
 ·unfold oF;rw[lX hM Oj]
 ·obtain⟨d,gs,g1,g2,g3,g4⟩:=uo hM h hi hn;have cx:=qO hM h hu;refine⟨dm (dt bs) 8 d m,((dD (dt bs) 8 d m).length:Int),by unfold oF;rw[g1],fun w0 q0 q1 q2 q3 hb _ _ c0 c1 c2 _=> ?_⟩;exact Kr (E:=0) (B:=0) (fun _ _ _ _ _=>trivial) _ _ w0 trivial q0 q1 q2 q3 ym.1.2 a _ c m.unk c0 c1 c2 (ui (Aj h) w0 Z _ m d ym.1.2 gs d.name k (cx.on hb) (g2.keep fun x q _=>hb.block x q) g3 (Aj h _ _ g1) (hMi.below hb (ay _)) hO (hl d g1))
theorem Ku (MK:lB)(w:an)(sb kp mk:Nat)(sv:Value)(bs:List dh)(y:List YM)(P:ap)(nm:am)(Z:ap)(k:Nat)(mv:Value)(m:PM)(h1:de w sb #[sv,ag kp] 92)(hM:d5 w P sv bs y)(h:ix bs)(hu:UOK w)(hMi:fR k w Z mv m)(hZ:¬Z mk/\¬Z kp)(hO:kT k m)(hl:∀d,(dt bs).msg nm=some d->(dD (dt bs) 8 d m).length<=140737488355328)
  (Y:ap) (hp:fS w kp mk (dt bs) (jc (y.map (·.1))) Y) (hY:∀x,P x->Y x) (hP:∀x,P x->x≠mk/\x≠kp) (hsb:sb≠mk/\sb≠kp) (hu1:2≠mk/\2≠kp) (hu2:3≠mk/\3≠kp):
  Calls Tryz.prog 25 #[ag sb,aa 2,ae nm,.agg #[mv,ae m.unk]] w fun e w'=>e= .returned (.tuple #[Value.int .i64 (oF (dt bs) nm m).1,aa (oF (dt bs) nm m).2])/\dl [mk,kp] w w'/\fS w' kp mk (dt bs) (jc (y.map (·.1))) fun x=>(Y x/\x<w.heap.size)\/(w.heap.size+6<=x/\¬False):=by
 obtain⟨a,c,rfl⟩:=hMi.form;obtain⟨N,pm,ok0⟩:=id hp;have Od:=ok0.kb.lt;have N7:=ok0.mb.lt;have Om:jG w.heap.size (w.heap.size+6) fun w'=>fS w' kp mk (dt bs) (jc (y.map (·.1))) fun x=>(Y x/\x<w.heap.size)\/(w.heap.size+6<=x/\¬False):=fS.still (Z:=fun _=>False) Od N7
 have Oo:∀x∈ [mk,kp],x<w.heap.size:=fun x hx=>by
  simp only[aL,bG,or_false]at hx
  rcases hx with rfl|rfl
  ·exact N7
  ·exact Od
 have Oa:∀x,x≠mk->x≠kp->x∉ [mk,kp]:=fun x h1 h2=>by simp[h1,h2]
 refine Gj _ w Oo Om (hp.less fun x hy hl=> .inl ⟨hy,hl⟩) sb sv _ bs y P nm a m.fs.length c m.unk 2 h1 hM (kc hM h) (.inr rfl) (fun Oj=> ?_) (fun i ym hi hn=> ?_)
 ·unfold oF;rw[lX hM Oj]
 ·have Oq:d5 w (fun x=>P x/\x<w.heap.size) sv bs y:=hM.mono fun x q hl=>⟨q,hl⟩
  obtain⟨d,gs,g1,g2,g3,g4,g5⟩:=qX Oq h hi hn;have Ot:=jF g1;refine⟨dm (dt bs) 8 d m,((dD (dt bs) 8 d m).length:Int),by unfold oF;rw[g1],fun w0 q0 q1 q2 q3 hb hsz Ok c0 c1 c2 c3=> ?_⟩;have Oe:∀q,w.heap.size<=q->q∉ [mk,kp]:=fun q hq hx=>by have:=Oo q hx;omega
  refine Ks Om _ _ w0 q0 q1 q2 q3 ym.1.2 sb kp sv a _ c m.unk c0 c1 c2 c3 (h1.below hb h1.lt) ⟨Oe _ Ok.2.1,Oe _ Ok.2.2.1,Oe _ Ok.2.2.2,Oa sb hsb.1 hsb.2⟩ ?_;have N3:aj w w0.drew:=hb.drew;have Ov:d5 w0.drew P sv bs y:=hM.keep fun x _ hl=>N3.block x hl
  have Ow:∀x,(P x/\x<w.heap.size)->x<w.heap.size/\x≠mk/\x≠kp:=fun x q=>⟨q.2,hP x q.1⟩
  have md:=(qj Oq h).keep (w':=w0.drew) fun x q _=>N3.block x q.2
  have Ox:w0.drew.heap.size=w.heap.size+6:=hsz
  have I1:wo kp mk w.heap.size 0 (dt bs) (jc (y.map (·.1))) (fun x=>P x/\x<w.heap.size) w0.drew N pm [] fun x=>(Y x/\x<w.heap.size)\/(w.heap.size+6<=x/\¬False):=
   ⟨(ok0.less fun x hy hl=> .inl ⟨hy,hl⟩).keep (fun x hl=>N3.block x hl),md,N3.size,by simp,fun x hx=> .inl ⟨hY x hx.1,hx.2⟩,fun x hx=> .inr ⟨by omega,id⟩,Ow,Od,N7⟩
  refine(Ka kp mk w.heap.size (dt bs) (jc (y.map (·.1))) _ MK w0.drew N pm ym.1.2 d gs _ I1 (by rw[Ot];exact g1) (g2.keep fun x q _=>N3.block x q.2) g3 g5).mono ?_;rintro en w2 ⟨p,N',Ou,rfl,OB,ok2,OE,N2⟩;refine⟨p,rfl,N2,⟨N',Ou,ok2⟩,?_⟩;have Oy:d5 w2 P sv bs y:=Ov.keep fun x q hl=>N2.block x hl (Oa x (hP x q).1 (hP x q).2)
  have Of:UOK w0.drew:=hu.keep (N3.block _ hu.lt1) (N3.block _ hu.lt2);have Og:UOK w2:=Of.keep (N2.block _ Of.lt1 (Oa _ hu1.1 hu1.2)) (N2.block _ Of.lt2 (Oa _ hu2.1 hu2.2));have cx:=qO Oy h Og
  have pc:kI w2 (fun x=>x<w2.heap.size) (dt bs) (jc (y.map (·.1))) Ou:=fun t q hq=>by
   rcases ok2.pl t q hq with⟨z,_⟩|⟨d',Ol,z1,z2,z3⟩
   ·cases z
   ·exact⟨d',Ol,z1,z3.move (.mono fun x _ hl=>hl) (fun _ _ q=>q),z2⟩
  obtain⟨d',Ol,z1,z2,z3⟩:=pc _ _ OB
  obtain rfl:d=d':=by
   rw[Ot,g1]at z1;exact Option.some.inj z1
  have Oh:fR k w2 Z (.slice a m.fs.length c) m:=(hMi.below N3 (ay _)).keep fun x q hl=>N2.block x hl (Oa x (fun e=>hZ.1 (e▸q)) (fun e=>hZ.2 (e▸q)))
  exact um (Aj h) w2 Z _ m d p Ol k cx pc z2 z3 (Aj h _ _ g1) Oh hO (hl d g1)
theorem Gq (MK:lB)(w:an)(sb kp mk:Nat)(bs:List dh)(P:ap)(nm:am)(way:Int)(Z:ap)(k:Nat)(mv:Value)(m:PM)(hs:jq w sb kp mk bs P)(h:ix bs)(hu:UOK w)(hw:way=1\/way=2)(hu1:¬P 2)(hu2:¬P 3)(hMi:fR k w Z mv m)(hZ:∀b,Z b->¬P b)(hO:kT k m)(hl:∀d,(dt bs).msg nm=some d->(dD (dt bs) 8 d m).length<=140737488355328):
  Calls Tryz.prog 25 #[ag sb,aa way,ae nm,.agg #[mv,ae m.unk]] w fun e w'=>e= .returned (.tuple #[Value.int .i64 (oF (dt bs) nm m).1,aa (oF (dt bs) nm m).2])/\dl [mk,kp] w w'/\jq w' sb kp mk bs fun x=>(P x/\x<w.heap.size)\/w.heap.size<=x:=by
 obtain⟨v,y,h1,⟨a1,a2,a3,a4,a5⟩,h3,h4⟩:=id hs
 rcases hw with rfl|rfl
 ·exact(Kt w sb v _ bs y _ nm Z k mv m h1 h3 h hu hMi hO hl).mono fun e w' q=>⟨q.1,.of_below q.2,(hs.less (P':=fun x=>(P x/\x<w.heap.size)\/w.heap.size<=x) fun x q hl=> .inl ⟨q,hl⟩).keep fun x _ hl=>q.2.block x hl⟩
 ·have N7:mk<w.heap.size/\kp<w.heap.size:=by
   obtain⟨_,_,h5⟩:=h4;exact⟨h5.mb.lt,h5.kb.lt⟩
  refine(Ku MK w sb kp mk v bs y _ nm Z k mv m h1 h3 h hu hMi ⟨fun q=>hZ _ q a3,fun q=>hZ _ q a2⟩ hO hl _ h4 (fun x q=>q.1) (fun x q=>⟨q.2.2.2,q.2.2.1⟩) ⟨a5,a4⟩ ⟨fun e=>hu1 (e▸a3),fun e=>hu1 (e▸a2)⟩ ⟨fun e=>hu2 (e▸a3),fun e=>hu2 (e▸a2)⟩).mono fun e w' q=>⟨q.1,q.2.1,?_⟩
  have kw:=q.2.1;have hn:∀x,x≠kp->x≠mk->x<w.heap.size->w'.heap[x]?=w.heap[x]?:=fun x q1 q2 hl=>kw.block x hl (by simp[q1,q2])
  refine⟨v,y,(hn sb a4 a5 h1.lt).trans h1,⟨.inl ⟨a1,h1.lt⟩,.inl ⟨a2,N7.2⟩,.inl ⟨a3,N7.1⟩,a4,a5⟩,(h3.mono (Q:=fun x=>(P x/\x≠sb/\x≠kp/\x≠mk)/\x<w.heap.size) fun x q hl=>⟨q,hl⟩).keep (fun x q hl=>hn x q.1.2.2.1 q.1.2.2.2 hl)|>.mono fun x q _=>⟨.inl ⟨q.1.1,q.2⟩,q.1.2⟩,?_⟩;exact q.2.2.less fun x q _=>q.imp id fun q=>by omega
end
def uq:Nat->PM->Nat
 |0,_=>0
 |k+1,m=>m.unk.size+(m.fs.map fun x=>30+(x.2.map fun v=>30+v.2.1.size+uq k v.2.2).sum).sum
theorem qk {α:Type}{g:α->List UInt8}{h:α->Nat}:∀{l:List α},(∀x∈l,(g x).length<=h x)->(l.flatMap g).length<=(l.map h).sum
 | [],_=>aM _
 |x::l,hx=>by
  have h1:=hx x bg;have h2:=qk (l:=l) fun y hy=>hx y (bF _ hy)
  rw[bm,aH,br,List.sum_cons];omega
theorem qY (v:Int):(vi v).length<=10:=(om 9 v).1
section
variable {S:dG} {R:MT->PM->List UInt8} {f:ek}
theorem CL {v:PV}{W:Nat}(h:∀t,(R t v.2.2).length<=W):(eV S R f v).length<=10+v.2.1.size+W:=by
 unfold eV;have hs:v.2.1.data.toList.length=v.2.1.size:=by simp
 split
 ·unfold fm;rw[aH]
  split
  ·rename_i t _
   have:=h t;have:=qY ((R t v.2.2).length:Int);omega
  ·have:=qY (([]:List UInt8).length:Int);simp only[cy]at*;omega
 ·split
  ·unfold fm;rw[aH,hs];have:=qY (v.2.1.size:Int);omega
  ·split
   ·rw[jY];omega
   ·split
    ·rw[jY];omega
    ·split
     ·have:=qY (FY v.1);omega
     ·have:=qY v.1;omega
theorem IM {l:List PV}{W:PV->Nat}(h:∀v∈l,∀t,(R t v.2.2).length<=W v):(iW S R f l).length<=30+(l.map fun v=>30+v.2.1.size+W v).sum:=by
 have ht:∀n k,(gP n k).length<=10:=fun n k=>(om 9 (n*8+k)).1
 unfold iW
 split
 ·have h1:(ly S R f l).length<=(l.map fun v=>30+v.2.1.size+W v).sum:=qk fun v hv=>by
   have:=CL (S:=S) (f:=f) (h v hv);omega
  have h2:=qY ((ly S R f l).length:Int);have h3:=ht f.num (mM S f);unfold fm;rw[aH,aH];omega
 ·have h1:(l.flatMap fun v=>gP f.num (mM S f)++eV S R f v).length<=(l.map fun v=>30+v.2.1.size+W v).sum:=qk fun v hv=>by
   have:=CL (S:=S) (f:=f) (h v hv);have:=ht f.num (mM S f);rw[aH];omega
  omega
end
theorem xX {S:dG}:∀(n k:Nat) (d:MT) (m:PM),kT k m->(dD S n d m).length<=uq k m
 |0,_,_,_,_=>aM _
 |_+1,0,_,_,h=>h.elim
 |n+1,k+1,d,m,h=>by
  rw[dD,uq,aH,show m.unk.data.toList.length=m.unk.size by simp]
  have:=qk (g:=iL S (dD S n) d) (h:=fun x:PF=>30+(x.2.map fun v=>30+v.2.1.size+uq k v.2.2).sum) (l:=m.fs) fun x hx=>by
   unfold iL
   split
   ·exact aM _
   ·exact IM fun v hv t=>xX n k t v.2.2 ((h.2.2 x hx).2 v hv).2.2.2
  omega
abbrev tK:am:=⟨#[109,101,115,115,97,103,101,32,65,32,123,32,105,110,116,51,50,32,120,32,61,32,49,59,32,115,116,114,105,110,103,32,121,32,61,32,50,59,32,125]⟩
abbrev nK:am:=⟨#[65]⟩
abbrev iK:am:=⟨#[18,2,104,105,8,5]⟩
abbrev oK:am:=⟨#[8,5,18,2,104,105]⟩
def Mp:Nat->PM->Bool
 |0,_=>false
 |k+1,m=>decide (m.fs.length<=1099511627776)&&decide (m.unk.size<=1099511627776)&&m.fs.all fun x=>decide (x.2.length<=1099511627776)&&x.2.all fun v=>decide (0<=v.1)&&decide (v.1<18446744073709551616)&&decide (v.2.1.size<=1099511627776)&&Mp k v.2.2
theorem Gr:∀{k:Nat} {m:PM},Mp k m=true->kT k m
 |0,_,h=>by cases h
 |k+1,m,h=>by
  rw[Mp]at h;simp only[aT,decide_eq_true_eq,List.all_eq_true]at h;exact⟨h.1.1,h.1.2,fun x hx=>⟨(h.2 x hx).1,fun v hv=>⟨((h.2 x hx).2 v hv).1.1.1,((h.2 x hx).2 v hv).1.1.2,((h.2 x hx).2 v hv).1.2,Gr ((h.2 x hx).2 v hv).2⟩⟩⟩
def Kv (bs:List dh):Bool:=
 (match gN (dt bs) nK iK with
 | .ok m=>Mp 9 m&&decide (uq 9 m<=1000)&&((kK (dt bs) nK m).1.data.toList==oK.data.toList)&&((kK (dt bs) nK m).2==0)&&((oF (dt bs) nK m).1==6)&&((oF (dt bs) nK m).2==0)
 | .error _=>false)
theorem Kw:(match gi tK with| .ok bs=>Kv bs| .error _=>false)=true:=by decide+kernel
theorem Kx:∃bs m,gi tK= .ok bs/\gN (dt bs) nK iK= .ok m/\kT 9 m/\uq 9 m<=1000/\(kK (dt bs) nK m).1=oK/\(kK (dt bs) nK m).2=0/\(oF (dt bs) nK m).1=6/\(oF (dt bs) nK m).2=0:=by
 have h:=Kw
 cases h1:gi tK with
 |error x=>rw[h1]at h;cases h
 |ok bs=>
  rw[h1]at h;change Kv bs=true at h;unfold Kv at h
  cases h2:gN (dt bs) nK iK with
  |error x=>rw[h2]at h;cases h
  |ok m=>
   rw[h2]at h;simp only[aT,decide_eq_true_eq,beq_iff_eq]at h;obtain⟨⟨⟨⟨⟨h3,h4⟩,h5⟩,h6⟩,h7⟩,h8⟩:=h;exact⟨bs,m,rfl,h2,Gr h3,h4,cF (Array.toList_inj.1 h5),h6,h7,h8⟩
theorem Gs {P:AW}{Q:Value->PM->Prop}{Z:ap}(hPQ:∀mv m C,(∀b,C b->Z b)->P mv m C->Q mv m):∀{l:List PV} {ms:aq} {Y:ap},(∀b,Y b->Z b)->ij (fun mv (v:PV) C=>P mv v.2.2 C) Y ms l->lu Q (oD ms l) l
 | [],[],_,_,_=>rfl
 |v::l,mv::ms,Y,hY,h=>by
  obtain⟨A,B,h1,h2,h3,h4,_⟩:=h;exact⟨mv,oD ms l,rfl,hPQ _ _ A (fun b q=>hY b (h3 b q)) h1,Gs hPQ (fun b q=>hY b (h4 b q)) h2⟩
theorem Gt {P:AW}{Q:Value->PM->Prop}{w:an}{Z:ap}(hPQ:∀mv m C,(∀b,C b->Z b)->P mv m C->Q mv m):∀{l:List PF} {ms:aq} {Y:ap},(∀b,Y b->Z b)->ij (fun vv (f:PF) A=>iy P w A vv f.2) Y ms l->jK Q w Z (oE ms l) l
 | [],[],_,_,_=>rfl
 |v::l,mv::ms,Y,hY,h=>by
  obtain⟨A,B,⟨ms',Y',q1,q2,q3,q4⟩,h2,h3,h4,_⟩:=h;refine⟨mv,oE ms l,rfl,⟨_,q1.mono fun b q _=>hY b (h3 b q),Gs hPQ (fun b q=>hY b (h3 b (q3 b q))) q4⟩,Gt hPQ (fun b q=>hY b (h4 b q)) h2⟩
theorem nE.toIn:∀{k:Nat} {w:an} {v:Value} {m:PM} {Z:ap},nE k w v m Z->oe k w Z v m
 |0,_,_,_,_,h=>h
 |k+1,w,v,m,Z,h=>by
  obtain⟨vvs,Y,h1,h2,h3,h4⟩:=h;exact⟨_,h1,Gt (P:=nE k w) (fun mv m C hC hm=>oe.mono (fun b q _=>hC b q) (nE.toIn hm)) h3 h4⟩
section
attribute [local go_sem↓] Go.wp_at_zero Go.wp_at_succ
inductive Ny (w:an)(mp:am->Option Nat)(g:GF)(fb:Nat)(pq:aw)(al:Int)(W:an):Array Bool->Act->Prop where
 |mk {l0 l1 l2 l3 l4 l5 l6 l7 l8 l9 l10 Ov Ow Oh Oe Of Og Oj Ok Ol:Bool} {t3 t4 t5 t6 t7 t8 t9 Om Ox Oy Oz Oo OA OB OC OD Oq:Value} (bP bQ bR:Nat) (m1 m2:Nat) (f0:l0=true->t6=ag fb) (f1:l1=true->t7=ag fb) (f2:l2=true->t8= .pointer (some (ai fb 2))) (f3:l3=true->t9= .agg #[aa (gQ mp g.f.ty),.pointer pq]) (f5:l5=true->Ox=ag fb) (f6:l6=true->Oy=ag fb) (f7:l7=true->Oz=ag fb) (f8:l8=true->Oo=aa g.f.num) (f9:l9=true->OA=ag fb) (Oa:l10=true->OB=ag fb) (Ob:Ov=true->OC= .pointer (some (ai fb 2))) (Oc:Ow=true->OD= .agg #[aa (gQ mp g.f.ty),.pointer pq]) (N2:Oh=true->Oq=aa al) (B:aj w W) (xP:Bx (w.heap.size) W Oe Oj l4 t3 bP 478 Om) (xQ:Bx (w.heap.size) W Of Ok l8 t4 bQ 3 Oo) (xR:Bx (w.heap.size) W Og Ol Oh t5 bR 235 Oq) (N3:lA Oe Of bP bQ) (N7:lA Oe Og bP bR) (N8:lA Of Og bQ bR) (oP:DJ Oe l4 bP m1 m2) (oQ:DJ Of l4 bQ m1 m2) (oR:DJ Og l4 bR m1 m2) (V:l4=true->kG W (fun b=>m1<=b/\b<m2) (gQ mp g.f.ty) Om/\w.heap.size<=m1/\m2<=W.heap.size):Ny w mp g fb pq al W #[l0,l1,l2,l3,l4,l5,l6,l7,l8,l9,l10,Ov,Ow,Oh,Oe,Of,Og,Oj,Ok,Ol] ⟨#[ag fb,undef,.nilFunc,t3,t4,t5,t6,t7,t8,t9,Om,Ox,Oy,Oz,Oo,OA,OB,OC,OD,Oq,undef],[]⟩
section
variable (w:an) (Q P:ap) (mp pm:am->Option Nat) (g:GF) (fb:Nat)
theorem rW (hQ:∀b,w.heap.size<=b->Q b)(h:dP w P mp g fb)(h4:g.form≠4)(hb:gQ mp g.f.ty<=15):Calls Tryz.prog 379 #[ag fb] w (g8 w fun w' v=>IH w' Q mp g v):=by
 have hmf:= @rh;obtain⟨pv,rv,h1,_,Oi,OF⟩:=h.blk;have OH:dC mp g=gQ mp g.f.ty:=by unfold dC;rw[if_neg h4]
 rw[OH]at h1;obtain⟨pq,rfl⟩:=eT OF;obtain⟨ra,rn,rc,rfl⟩:=df Oi.1;have hV:=fun W=>vT W (gQ mp g.f.ty) (.pointer pq) hb
 have hW:=fun W=>nj W (gQ mp g.f.ty) (.pointer pq) (by omega)
 clear OF Oi h;have Ou:=h1.lt;obtain⟨al,OG⟩:∃al:Int,(dL (gQ mp g.f.ty):Int)=al:=⟨_,rfl⟩;rw[OG]at hW;go_enter Tryz.func379,Tryz.ntmps379
 go_upto_region 1 with fail
 go_cut [3,4,5]from 6 to 19 (fun x y z wx=>∃vb nb ab vv,x=ag vb/\y=ag nb/\z=ag ab/\de wx vb #[vv] 478/\de wx nb #[aa g.f.num] 3/\de wx ab #[aa al] 235/\kG wx Q (gQ mp g.f.ty) vv/\w.heap.size<=vb/\w.heap.size<=nb/\w.heap.size<=ab/\aj w wx)
 case first=>
  refine iC (fun L a W=>Ny w mp g fb pq al W L a) (by kernel_rfl) ⟨0,0,0,0,0,nofun,nofun,nofun,nofun,nofun,nofun,nofun,nofun,nofun,nofun,nofun,nofun,nofun,(Below.refl _ _).drew,Bx.start,Bx.start,Bx.start,nofun,nofun,nofun,nofun,nofun,nofun,nofun⟩ (by kernel_rfl) ?_ ?_
  ·rintro L a W @⟨l0,l1,l2,l3,l4,l5,l6,l7,l8,l9,l10,Ov,Ow,Oh,Oe,Of,Og,Oj,Ok,Ol,t3,t4,t5,t6,t7,t8,t9,Om,Ox,Oy,Oz,Oo,OA,OB,OC,OD,Oq,bP,bQ,bR,m1,m2,f0,f1,f2,f3,f5,f6,f7,f8,f9,Oa,Ob,Oc,N2,B,xP,xQ,xR,N3,N7,N8,oP,oQ,oR,V⟩ Od;obtain rfl:l4=true:=Od 4 (by decide);obtain rfl:l8=true:=Od 8 (by decide);obtain rfl:Oh=true:=Od 13 (by decide);obtain rfl:Oe=true:=Od 14 (by decide);obtain rfl:Of=true:=Od 15 (by decide);obtain rfl:Og=true:=Od 16 (by decide);obtain rfl:Oj=true:=Od 17 (by decide);obtain rfl:Ok=true:=Od 18 (by decide);obtain rfl:Ol=true:=Od 19 (by decide);obtain⟨rfl,zP,_⟩:=xP.made rfl;obtain⟨rfl,zQ,_⟩:=xQ.made rfl;obtain⟨rfl,zR,_⟩:=xR.made rfl;obtain rfl:=f8 rfl;obtain rfl:=N2 rfl;obtain⟨v1,v2,v3⟩:=V rfl;have KP:=xP.put rfl;have KQ:=xQ.put rfl;have KR:=xR.put rfl;go_wp2;go_meet
   case rel=>exact⟨_,_,_,_,rfl,rfl,rfl,KP,KQ,KR,v1.move (fun b q l=>⟨hQ b (by omega),rfl⟩),zP,zQ,zR,B⟩
  refine .cons ?_ (.cons ?_ (.cons ?_ (.cons ?_ (.cons ?_ (.cons ?_ (.cons ?_ (.cons ?_ (.cons ?_ (.cons ?_ (.cons ?_ (.cons ?_ (.cons ?_ (.cons ?_ (.cons ?_ (.cons ?_ (.cons ?_ (.cons ?_ (.cons ?_ (.cons ?_ .nil)))))))))))))))))))
  all_goals
   rintro L a W ⟨bP,bQ,bR,m1,m2,f0,f1,f2,f3,f5,f6,f7,f8,f9,Oa,Ob,Oc,N2,B,xP,xQ,xR,N3,N7,N8,oP,oQ,oR,V⟩ h0 hd K hK;subst h0
  ·clear hd;go_simp;refine hK.out _ _ ?_;simp only[NZ];exact⟨bP,bQ,bR,m1,m2,fun _=>rfl,f1,f2,f3,f5,f6,f7,f8,f9,Oa,Ob,Oc,N2,B,xP,xQ,xR,N3,N7,N8,oP,oQ,oR,V⟩
  ·obtain rfl:=dK (k:=0) hd (by kernel_rfl);obtain rfl:=f0 rfl;clear hd;go_simp;refine hK.out _ _ ?_;simp only[NZ];exact⟨bP,bQ,bR,m1,m2,fun _=>rfl,fun _=>rfl,f2,f3,f5,f6,f7,f8,f9,Oa,Ob,Oc,N2,B,xP,xQ,xR,N3,N7,N8,oP,oQ,oR,V⟩
  ·obtain rfl:=dK (k:=1) hd (by kernel_rfl);obtain rfl:=f1 rfl;clear hd;go_simp;refine hK.out _ _ ?_;simp only[NZ];exact⟨bP,bQ,bR,m1,m2,f0,fun _=>rfl,fun _=>rfl,f3,f5,f6,f7,f8,f9,Oa,Ob,Oc,N2,B,xP,xQ,xR,N3,N7,N8,oP,oQ,oR,V⟩
  ·obtain rfl:=dK (k:=2) hd (by kernel_rfl);obtain rfl:=f2 rfl;have KF:=h1.below B Ou;obtain⟨k1,k2⟩:=KF.rules;clear hd;go_simp;refine hK.out _ _ ?_;simp only[NZ];exact⟨bP,bQ,bR,m1,m2,f0,f1,fun _=>rfl,fun _=>rfl,f5,f6,f7,f8,f9,Oa,Ob,Oc,N2,B,xP,xQ,xR,N3,N7,N8,oP,oQ,oR,V⟩
  ·obtain rfl:=dK (k:=3) hd (by kernel_rfl);obtain rfl:=f3 rfl;clear hd;go_simp;go_wp2_with (first|(go_at_call 420;refine(hV _).mono ?_;rintro e w2 ⟨vv,rfl,Ot,b2⟩))
   refine hK.out _ _ ?_;simp only[NZ];exact⟨bP,bQ,bR,W.heap.size,w2.heap.size,f0,f1,f2,fun _=>rfl,f5,f6,f7,f8,f9,Oa,Ob,Oc,N2,(cY B b2),((xP.below b2).val _),(xQ.below b2),(xR.below b2),N3,N7,N8,(fun e _=> .inl (xP.lt e)),(fun e _=> .inl (xQ.lt e)),(fun e _=> .inl (xR.lt e)),(fun _=>⟨Ot.move (fun b q l=>⟨⟨q,l⟩,rfl⟩),B.size,ay _⟩)⟩
  ·clear hd;go_simp;refine hK.out _ _ ?_;simp only[NZ];exact⟨bP,bQ,bR,m1,m2,f0,f1,f2,f3,fun _=>rfl,f6,f7,f8,f9,Oa,Ob,Oc,N2,B,xP,xQ,xR,N3,N7,N8,oP,oQ,oR,V⟩
  ·obtain rfl:=dK (k:=5) hd (by kernel_rfl);obtain rfl:=f5 rfl;clear hd;go_simp;refine hK.out _ _ ?_;simp only[NZ];exact⟨bP,bQ,bR,m1,m2,f0,f1,f2,f3,fun _=>rfl,fun _=>rfl,f7,f8,f9,Oa,Ob,Oc,N2,B,xP,xQ,xR,N3,N7,N8,oP,oQ,oR,V⟩
  ·obtain rfl:=dK (k:=6) hd (by kernel_rfl);obtain rfl:=f6 rfl;clear hd;go_simp;refine hK.out _ _ ?_;simp only[NZ];exact⟨bP,bQ,bR,m1,m2,f0,f1,f2,f3,f5,fun _=>rfl,fun _=>rfl,f8,f9,Oa,Ob,Oc,N2,B,xP,xQ,xR,N3,N7,N8,oP,oQ,oR,V⟩
  ·obtain rfl:=dK (k:=7) hd (by kernel_rfl);obtain rfl:=f7 rfl;have KF:=h1.below B Ou;obtain⟨k1,k2⟩:=KF.rules;clear hd;go_simp;refine hK.out _ _ ?_;simp only[NZ];exact⟨bP,bQ,bR,m1,m2,f0,f1,f2,f3,f5,f6,fun _=>rfl,fun _=>rfl,f9,Oa,Ob,Oc,N2,B,xP,(xQ.val _),xR,N3,N7,N8,oP,oQ,oR,V⟩
  ·clear hd;go_simp;refine hK.out _ _ ?_;simp only[NZ];exact⟨bP,bQ,bR,m1,m2,f0,f1,f2,f3,f5,f6,f7,f8,fun _=>rfl,Oa,Ob,Oc,N2,B,xP,xQ,xR,N3,N7,N8,oP,oQ,oR,V⟩
  ·obtain rfl:=dK (k:=9) hd (by kernel_rfl);obtain rfl:=f9 rfl;clear hd;go_simp;refine hK.out _ _ ?_;simp only[NZ];exact⟨bP,bQ,bR,m1,m2,f0,f1,f2,f3,f5,f6,f7,f8,fun _=>rfl,fun _=>rfl,Ob,Oc,N2,B,xP,xQ,xR,N3,N7,N8,oP,oQ,oR,V⟩
  ·obtain rfl:=dK (k:=10) hd (by kernel_rfl);obtain rfl:=Oa rfl;clear hd;go_simp;refine hK.out _ _ ?_;simp only[NZ];exact⟨bP,bQ,bR,m1,m2,f0,f1,f2,f3,f5,f6,f7,f8,f9,fun _=>rfl,fun _=>rfl,Oc,N2,B,xP,xQ,xR,N3,N7,N8,oP,oQ,oR,V⟩
  ·obtain rfl:=dK (k:=11) hd (by kernel_rfl);obtain rfl:=Ob rfl;have KF:=h1.below B Ou;obtain⟨k1,k2⟩:=KF.rules;clear hd;go_simp;refine hK.out _ _ ?_;simp only[NZ];exact⟨bP,bQ,bR,m1,m2,f0,f1,f2,f3,f5,f6,f7,f8,f9,Oa,fun _=>rfl,fun _=>rfl,N2,B,xP,xQ,xR,N3,N7,N8,oP,oQ,oR,V⟩
  ·obtain rfl:=dK (k:=12) hd (by kernel_rfl);obtain rfl:=Oc rfl;clear hd;go_simp;go_wp2_with (first|(go_at_call 208;refine(hW _).mono ?_;rintro e w3 ⟨rfl,b3⟩))
   refine hK.out _ _ ?_;simp only[NZ];exact⟨bP,bQ,bR,m1,m2,f0,f1,f2,f3,f5,f6,f7,f8,f9,Oa,Ob,fun _=>rfl,fun _=>rfl,(cY B b3),(xP.below b3),(xQ.below b3),((xR.below b3).val _),N3,N7,N8,oP,oQ,oR,(fun e=>⟨(V e).1.move (fun b q l=>⟨q,b3.block b l⟩),(V e).2.1,aG (V e).2.2 b3.size⟩)⟩
  ·clear hd;go_simp;refine hK.out _ _ ?_;simp only[NZ];exact⟨W.heap.size,bQ,bR,m1,m2,f0,f1,f2,f3,f5,f6,f7,f8,f9,Oa,Ob,Oc,N2,(B.alloc B.size _),(xP.new B.size _),(xQ.alloc _),(xR.alloc _),(lA.new1 xQ),(lA.new1 xR),N8,(fun _ e=> .inr (V e).2.2),oQ,oR,(fun e=>⟨(V e).1.move (fun b q l=>⟨q,((Below.refl W.heap.size W).alloc (ay _) _).block b l⟩),(V e).2.1,aG (V e).2.2 ((Below.refl W.heap.size W).alloc (ay _) _).size⟩)⟩
  ·clear hd;go_simp;refine hK.out _ _ ?_;simp only[NZ];exact⟨bP,W.heap.size,bR,m1,m2,f0,f1,f2,f3,f5,f6,f7,f8,f9,Oa,Ob,Oc,N2,(B.alloc B.size _),(xP.alloc _),(xQ.new B.size _),(xR.alloc _),(lA.new2 xP),N7,(lA.new1 xR),oP,(fun _ e=> .inr (V e).2.2),oR,(fun e=>⟨(V e).1.move (fun b q l=>⟨q,((Below.refl W.heap.size W).alloc (ay _) _).block b l⟩),(V e).2.1,aG (V e).2.2 ((Below.refl W.heap.size W).alloc (ay _) _).size⟩)⟩
  ·clear hd;go_simp;refine hK.out _ _ ?_;simp only[NZ];exact⟨bP,bQ,W.heap.size,m1,m2,f0,f1,f2,f3,f5,f6,f7,f8,f9,Oa,Ob,Oc,N2,(B.alloc B.size _),(xP.alloc _),(xQ.alloc _),(xR.new B.size _),N3,(lA.new2 xP),(lA.new2 xQ),oP,oQ,(fun _ e=> .inr (V e).2.2),(fun e=>⟨(V e).1.move (fun b q l=>⟨q,((Below.refl W.heap.size W).alloc (ay _) _).block b l⟩),(V e).2.1,aG (V e).2.2 ((Below.refl W.heap.size W).alloc (ay _) _).size⟩)⟩
  ·obtain rfl:=dK (k:=14) hd (by kernel_rfl);obtain rfl:=dK (k:=4) hd (by kernel_rfl);obtain⟨rfl,zP,yP⟩:=xP.made rfl;obtain⟨uP,cP,kP⟩:=fQ yP;obtain⟨vf,OE,rfl⟩:=(V rfl).1.form;clear hd;go_simp;refine hK.out _ _ ?_;simp only[NZ];exact⟨bP,bQ,bR,m1,m2,f0,f1,f2,f3,f5,f6,f7,f8,f9,Oa,Ob,Oc,N2,(B.setCell (p:=(ai bP 0)) zP _),xP.store,(xQ.other (fun e=>N3 rfl e) _),(xR.other (fun e=>N7 rfl e) _),N3,N7,N8,oP,oQ,oR,(fun e=>⟨(V e).1.move (fun b q l=>⟨q,dp (by have:=oP rfl e;omega)⟩),(V e).2.1,by simpa using(V e).2.2⟩)⟩
  ·obtain rfl:=dK (k:=15) hd (by kernel_rfl);obtain rfl:=dK (k:=8) hd (by kernel_rfl);obtain⟨rfl,zQ,yQ⟩:=xQ.made rfl;obtain⟨uQ,cQ,kQ⟩:=fQ yQ;obtain rfl:=f8 rfl;clear hd;go_simp;refine hK.out _ _ ?_;simp only[NZ];exact⟨bP,bQ,bR,m1,m2,f0,f1,f2,f3,f5,f6,f7,fun _=>rfl,f9,Oa,Ob,Oc,N2,(B.setCell (p:=(ai bQ 0)) zQ _),(xP.other (fun e=>N3.symm rfl e) _),xQ.store,(xR.other (fun e=>N8 rfl e) _),N3,N7,N8,oP,oQ,oR,(fun e=>⟨(V e).1.move (fun b q l=>⟨q,dp (by have:=oQ rfl e;omega)⟩),(V e).2.1,by simpa using(V e).2.2⟩)⟩
  ·obtain rfl:=dK (k:=16) hd (by kernel_rfl);obtain rfl:=dK (k:=13) hd (by kernel_rfl);obtain⟨rfl,zR,yR⟩:=xR.made rfl;obtain⟨uR,cR,kR⟩:=fQ yR;obtain rfl:=N2 rfl;clear hd;go_simp;refine hK.out _ _ ?_;simp only[NZ];exact⟨bP,bQ,bR,m1,m2,f0,f1,f2,f3,f5,f6,f7,f8,f9,Oa,Ob,Oc,fun _=>rfl,(B.setCell (p:=(ai bR 0)) zR _),(xP.other (fun e=>N7.symm rfl e) _),(xQ.other (fun e=>N8.symm rfl e) _),xR.store,N3,N7,N8,oP,oQ,oR,(fun e=>⟨(V e).1.move (fun b q l=>⟨q,dp (by have:=oR rfl e;omega)⟩),(V e).2.1,by simpa using(V e).2.2⟩)⟩
 case rest=>
  obtain⟨vb,nb,ab,vv,rfl,rfl,rfl,h5,h6,h7,Ot,q1,q2,q3,b3⟩:=hcut;obtain⟨vf,OE,rfl⟩:=Ot.form;go_wp2;go_ret;exact⟨_,rfl,⟨_,_,_,_,rfl,by rw[OG];exact h7,h6,h5,Ot,hQ _ q3,hQ _ q2,hQ _ q1⟩,b3⟩
end
end
end Go.Proofs.YtfebdimolnobaaaGreatDoor
