import Derived.Test.YtfebdimolnobaaaGreatDoorPlT
set_option maxRecDepth 100000
set_option maxHeartbeats 8000000
set_option linter.all false
namespace Go.Proofs.YtfebdimolnobaaaGreatDoor
open Go.RowKit
section
open Go.Maps
attribute [local go_sem↓] Go.wp_at_zero Go.wp_at_succ
def jG (E B:Nat)(K:an->Prop):Prop:=∀a b:an,K a->a.heap.size<=b.heap.size->(∀x,(x<E\/B<=x)->x<a.heap.size->b.heap[x]?=a.heap[x]?)->K b
def ot (ks:au)(K:(ap)->an->Prop)(w:an)(R:Fx PM)(e:Ending)(w':an):Prop:=
 match R with
 | .error x=>e=da x.1 x.2/\dl ks w w'/\K (fun _=>False) w'
 | .ok m=>∃v Z',e= .returned (.agg #[v,ae m.unk])/\nE 9 w' v m Z'/\(∀b,Z' b->w.heap.size<=b/\b<w'.heap.size)/\dl ks w w'/\K Z' w'
def jp (ks:au)(K:(ap)->an->Prop)(w:an)(R:Fx PM)(e:Ending)(w':an):Prop:=
 match R with
 | .error x=>e= .returned (.tuple #[.agg #[ah,ae ⟨#[]⟩],aa x.1,aa x.2])/\dl ks w w'/\K (fun _=>False) w'
 | .ok m=>∃v Z',e= .returned (.tuple #[.agg #[v,ae m.unk],aa 0,aa 0])/\nE 9 w' v m Z'/\(∀b,Z' b->w.heap.size<=b/\b<w'.heap.size)/\dl ks w w'/\K Z' w'
theorem DM {ks:au}{K:(ap)->an->Prop}{E B:Nat}(hks:∀x∈ks,x<E)(hK:∀Z,jG E B (K Z))(R:Fx PM)(w:an)(hE:E<=w.heap.size)(hB:w.heap.size+3<=B)(c0 c1 c2 c3:Value)(h:∀w0,aj w w0->w0.heap.size=w.heap.size+3->Calls Tryz.prog 46 #[c0,c1,c2,c3] w0 (ot ks K w0 R)):
  Calls Tryz.prog 45 #[.func (Fn.func 46) #[] #[c0,c1,c2,c3]] w (jp ks K w R):=by
 have Oq:= @rh;have B1:=(Below.refl w.heap.size w).alloc (ay _) (ak #[ah,ae ⟨#[]⟩] 49);have B0:=(B1.alloc (by simp) (ak #[aa 0] 24)).alloc (by simp;omega) (ak #[aa 0] 3);have KM:=((de.new w #[ah,ae ⟨#[]⟩] 49).alloc (ak #[aa 0] 24)).alloc (ak #[aa 0] 3);have K0:=(de.newAt (w:=w.alloc (ak #[ah,ae ⟨#[]⟩] 49)) (n:=w.heap.size+1) (by simp) #[aa 0] 24).alloc (ak #[aa 0] 3);have K1:=de.newAt (w:=(w.alloc (ak #[ah,ae ⟨#[]⟩] 49)).alloc (ak #[aa 0] 24)) (n:=w.heap.size+1+1) (by simp) #[aa 0] 3;have HC:Hid (Calls Tryz.prog 46 #[c0,c1,c2,c3] _ (ot ks K _ R)):=h _ B0 (by simp);have hsz:w.heap.size+3<=(((w.alloc (ak #[ah,ae ⟨#[]⟩] 49)).alloc (ak #[aa 0] 24)).alloc (ak #[aa 0] 3)).heap.size:=by simp
 clear B1 h;go_enter_defers Tryz.func45,Tryz.ntmps45
 go_wp2_with fail
 generalize(((w.alloc (ak #[ah,ae ⟨#[]⟩] 49)).alloc (ak #[aa 0] 24)).alloc (ak #[aa 0] 3))=w1 at*;refine HC.out.mono ?_
 cases R with
 |error x=>
  rintro e w2 ⟨rfl,N3,Ob⟩;have K2:=K0.kept N3 (fun q=>by have:=hks _ q;omega);have K3:=K1.kept N3 (fun q=>by have:=hks _ q;omega);have Oe:=KM.kept N3 (fun q=>by have:=hks _ q;omega);have C2:=(dl.of_below (bs:=ks) B0).trans N3;obtain⟨k1,k2⟩:=K2.rules;obtain⟨k3,k4⟩:=K3.rules;have z3:=K3.lt;unfold da;refine leaves_cons (f:=82) (args:= #[ag (w.heap.size+1),ag (w.heap.size+1+1)]) (by simp) (by simp[go_sem]) ?_;refine(Ds (w.heap.size+1) (w.heap.size+1+1) x.1 x.2 [] w2 _ _ (k1 0) (k3 0) (k2 0) (k4 0) (by omega)).mono ?_;rintro e u' Oy ⟨rfl,rfl,rfl⟩;have q0:=(((K2.set 0 (aa x.1)).other (c:=w.heap.size+1+1) 0 (aa x.2) (by omega)).alloc (ak #[aa x.1,aa x.2] 142)).drew;have q1:=(((K3.other (c:=w.heap.size+1) 0 (aa x.1) (by omega)).set 0 (aa x.2)).alloc (ak #[aa x.1,aa x.2] 142)).drew;have q2:=(((Oe.other (c:=w.heap.size+1) 0 (aa x.1) (by omega)).other (c:=w.heap.size+1+1) 0 (aa x.2) (by omega)).alloc (ak #[aa x.1,aa x.2] 142)).drew;have C3:dl ks w (((w2.setCell (ai (w.heap.size+1) 0) (aa x.1)).setCell (ai (w.heap.size+1+1) 0) (aa x.2)).alloc (ak #[aa x.1,aa x.2] 142)).drew:=(((C2.freshP (bE _) 0 _).freshP (by omega) 0 _).alloc _).drew;have H3:K (fun _=>False) (((w2.setCell (ai (w.heap.size+1) 0) (aa x.1)).setCell (ai (w.heap.size+1+1) 0) (aa x.2)).alloc (ak #[aa x.1,aa x.2] 142)).drew:=hK _ w2 _ Ob (by simp) fun y hy hl=>(Below.heap_alloc _ _ y (by simpa using hl)).trans ((dp (by omega)).trans (dp (by omega)))
  generalize(((w2.setCell (ai (w.heap.size+1) 0) (aa x.1)).setCell (ai (w.heap.size+1+1) 0) (aa x.2)).alloc (ak #[aa x.1,aa x.2] 142)).drew=w3 at*;have r0:=q0.cell 0;have r1:=q1.cell 0;have l0:(loadVar 24 (ai (w.heap.size+1) 0)).run Tryz.prog w3= .ok (aa x.1) w3:=by simp[go_sem,r0]
  have l1:(loadVar 3 (ai (w.heap.size+1+1) 0)).run Tryz.prog w3= .ok (aa x.2) w3:=by simp[go_sem,r1]
  have N8:=fun tmps hp hq hr=>vS (fn:=Tryz.f45) Tryz.results45 tmps w3 hp hq hr q2 Tryz.underlying49 (by kernel_rfl) l0 l1
  simp[Leaves,settle];exact⟨_,N8 _ rfl rfl rfl,rfl,C3,H3⟩
 |ok m=>
  rintro e w2 ⟨v,Z',rfl,hm,hZ,N3,Ob⟩;obtain⟨va,vc,rfl⟩:=hm.form;have K2:=K0.kept N3 (fun q=>by have:=hks _ q;omega);have K3:=K1.kept N3 (fun q=>by have:=hks _ q;omega);have Oe:=KM.kept N3 (fun q=>by have:=hks _ q;omega);have C2:=(dl.of_below (bs:=ks) B0).trans N3;obtain⟨k1,k2⟩:=K2.rules;obtain⟨k3,k4⟩:=K3.rules;obtain⟨k5,k6⟩:=Oe.rules;have z3:=K3.lt;go_wp2;refine leaves_cons (f:=82) (args:= #[ag (w.heap.size+1),ag (w.heap.size+1+1)]) (by simp) (by simp[go_sem]) ?_;refine(Ip (ai (w.heap.size+1) 0) (ai (w.heap.size+1+1) 0) _).mono ?_;rintro e u' Oy ⟨rfl,rfl,rfl⟩;have q0:=(((K2.other (c:=w.heap.size) 0 (.slice va m.fs.length vc) (by omega)).other (c:=w.heap.size) 1 (ae m.unk) (by omega)).set 0 (aa 0)).other (c:=w.heap.size+1+1) 0 (aa 0) (by omega);have q1:=(((K3.other (c:=w.heap.size) 0 (.slice va m.fs.length vc) (by omega)).other (c:=w.heap.size) 1 (ae m.unk) (by omega)).other (c:=w.heap.size+1) 0 (aa 0) (by omega)).set 0 (aa 0);have q2:=(((Oe.set 0 (.slice va m.fs.length vc)).set 1 (ae m.unk)).other (c:=w.heap.size+1) 0 (aa 0) (by omega)).other (c:=w.heap.size+1+1) 0 (aa 0) (by omega);have C3:dl ks w ((((w2.setCell (ai w.heap.size 0) (.slice va m.fs.length vc)).setCell (ai w.heap.size 1) (ae m.unk)).setCell (ai (w.heap.size+1) 0) (aa 0)).setCell (ai (w.heap.size+1+1) 0) (aa 0)):=(((C2.freshP (ay _) 0 _).freshP (ay _) 1 _).freshP (bE _) 0 _).freshP (by omega) 0 _;have H3:K Z' ((((w2.setCell (ai w.heap.size 0) (.slice va m.fs.length vc)).setCell (ai w.heap.size 1) (ae m.unk)).setCell (ai (w.heap.size+1) 0) (aa 0)).setCell (ai (w.heap.size+1+1) 0) (aa 0)):=hK _ w2 _ Ob (by simp) fun y hy _=>(dp (by omega)).trans ((dp (by omega)).trans ((dp (by omega)).trans (dp (by omega))))
  have Oc:=hm.keep (w':=((((w2.setCell (ai w.heap.size 0) (.slice va m.fs.length vc)).setCell (ai w.heap.size 1) (ae m.unk)).setCell (ai (w.heap.size+1) 0) (aa 0)).setCell (ai (w.heap.size+1+1) 0) (aa 0))) (fun x hx _=>by
   have:=(hZ x hx).1
   rw[dd,if_neg (by omega),dd,if_neg (by omega),dd,if_neg (by omega),dd,if_neg (by omega)])
  have Ot:∀x,Z' x->w.heap.size<=x/\x<((((w2.setCell (ai w.heap.size 0) (.slice va m.fs.length vc)).setCell (ai w.heap.size 1) (ae m.unk)).setCell (ai (w.heap.size+1) 0) (aa 0)).setCell (ai (w.heap.size+1+1) 0) (aa 0)).heap.size:=fun x hx=>⟨by have:=(hZ x hx).1;omega,by simp only[ca];exact(hZ x hx).2⟩
  generalize((((w2.setCell (ai w.heap.size 0) (.slice va m.fs.length vc)).setCell (ai w.heap.size 1) (ae m.unk)).setCell (ai (w.heap.size+1) 0) (aa 0)).setCell (ai (w.heap.size+1+1) 0) (aa 0))=w3 at*;have r0:=q0.cell 0;have r1:=q1.cell 0;have l0:(loadVar 24 (ai (w.heap.size+1) 0)).run Tryz.prog w3= .ok (aa 0) w3:=by simp[go_sem,r0]
  have l1:(loadVar 3 (ai (w.heap.size+1+1) 0)).run Tryz.prog w3= .ok (aa 0) w3:=by simp[go_sem,r1]
  have N8:=fun tmps hp hq hr=>vS (fn:=Tryz.f45) Tryz.results45 tmps w3 hp hq hr q2 Tryz.underlying49 (by kernel_rfl) l0 l1
  simp[Leaves,settle];exact⟨_,N8 _ rfl rfl rfl,_,Z',rfl,Oc,Ot,C3,H3⟩
theorem ww {ks:au}{K:(ap)->an->Prop}{B:Nat}(R:Fx PM)(w:an)(hks:∀x∈ks,x<w.heap.size)(hK:∀Z,jG w.heap.size B (K Z))(hB:w.heap.size+9=B)(hk0:K (fun _=>False) w)(sb:Nat)(v kv:Value)(bs:List dh)(y:List YM)(P:ap)(nm b:am)(way:Int)(h1:de w sb #[v,kv] 92)(hM:d5 w P v bs y)(hl:y.length<=2001)(hw:way=1\/way=2)
  (hR:(∀m∈y,(m.1.1.toList==nm.toList)=false)->R= .error (5,0))
  (h:∀(i:Nat) (m:YM) (w0:an) (q0 q1 q2 q3:Nat),y[i]?=some m->(m.1.1.toList==nm.toList)=true->aj w w0->w0.heap.size+1=B->w.heap.size<=q0/\w.heap.size<=q1/\w.heap.size<=q2/\w.heap.size<=q3->w0.cell? (ai q0 0)=some (aa way)->w0.cell? (ai q1 0)=some (ag m.1.2)->w0.cell? (ai q2 0)=some (ae b)->w0.cell? (ai q3 0)=some (ag sb)->
   Calls Tryz.prog 46 #[ag q0,ag q1,ag q2,ag q3] w0 (ot ks K w0 R)):
  Calls Tryz.prog 21 #[ag sb,aa way,ae nm,ae b] w (jp ks K w R):=by
 have Oq:= @rh;have Ou:∃w0,(((w.alloc (ak #[ag sb] 22)).alloc (ak #[aa way] 3)).alloc (ak #[ae b] 9)).alloc (ak #[ah,ae ⟨#[]⟩] 49)=w0:=⟨_,rfl⟩;obtain⟨w0,Oa⟩:=Ou;have B0:aj w w0:=by rw[<-Oa];exact((((Below.refl _ _).alloc (ay _) _).alloc (by simp) _).alloc (by simp;omega) _).alloc (by simp;omega) _
 have KS:de w0 w.heap.size #[ag sb] 22:=by rw[<-Oa];exact(((de.new w _ _).alloc _).alloc _).alloc _
 have KY:de w0 (w.heap.size+1) #[aa way] 3:=by rw[<-Oa];exact((de.newAt (by simp) _ _).alloc _).alloc _
 have KB:de w0 (w.heap.size+1+1) #[ae b] 9:=by rw[<-Oa];exact(de.newAt (by simp) _ _).alloc _
 have KM:de w0 (w.heap.size+1+1+1) #[ah,ae ⟨#[]⟩] 49:=by rw[<-Oa];exact de.newAt (by simp) _ _
 have Ol:=tP w0 sb v kv bs y P nm way (h1.below B0 h1.lt) (hM.keep fun x _ hl=>B0.block x hl) hl hw;obtain⟨s1,s2⟩:=KS.rules;obtain⟨s3,s4⟩:=KY.rules;obtain⟨s5,s6⟩:=KB.rules;obtain⟨s7,s8⟩:=KM.rules;go_enter Tryz.func21,Tryz.ntmps21
 go_wp2_with fail
 refine Ol.mono ?_;have Oi:Hid (w0.heap.size=w.heap.size+4):=by show _=_;rw[<-Oa];simp
 clear Ol Oa;rintro e w1 ⟨rfl,⟨i,m,hi,hn,rfl⟩|⟨Oo,rfl⟩⟩
 ·have B1:aj w1 (w1.alloc (ak #[ag m.1.2] 105)):=(Below.refl _ _).alloc (ay _) _;have KP:=de.new w1 #[ag m.1.2] 105
  have HC:Hid (∀w0,Below (w1.alloc (ak #[ag m.1.2] 105)).heap.size (w1.alloc (ak #[ag m.1.2] 105)) w0->w0.heap.size=(w1.alloc (ak #[ag m.1.2] 105)).heap.size+3->Calls Tryz.prog 46 #[ag (w.heap.size+1),ag w1.heap.size,ag (w.heap.size+1+1),ag w.heap.size] w0 (ot ks K w0 R)):=fun w0 hb hsz=>by
   have Of:=cY B1 hb;have hs1:=Oi.out;simp only[bV]at hsz;exact h i m w0 _ _ _ _ hi hn (cY B0 Of) (by omega) ⟨by omega,by omega,by omega,ay _⟩ ((KY.below Of KY.lt).cell 0) ((KP.below hb KP.lt).cell 0) ((KB.below Of KB.lt).cell 0) ((KS.below Of KS.lt).cell 0)
  have HK:=DM hks hK R (w1.alloc (ak #[ag m.1.2] 105)) (by have:=Oi.out;simp;omega) (by have:=Oi.out;simp;omega) _ _ _ _ HC.out;clear h hi hn HC;go_wp2_with fail
  have Od:=KM.alloc (ak #[ag m.1.2] 105);have B2:aj w (w1.alloc (ak #[ag m.1.2] 105)):=cY B0 B1;have zM:=KM.lt;have z2:=B1.size;clear s1 s2 s3 s4 s5 s6 s7 s8 KS KY KB KM KP B1;generalize w1.alloc (ak #[ag m.1.2] 105)=w2 at*;refine HK.mono ?_;clear HK hR
  cases R with
  |error x=>
   rintro e w3 ⟨rfl,N2,Oj⟩;have N7:=Od.kept N2 (fun q=>by have:=hks _ q;omega);have C3:=(dl.of_below (bs:=ks) B2).trans N2;obtain⟨s7,s8⟩:=N7.rules;go_wp2;exact bodyPost_ret (qN Tryz.results21 _ _ rfl ((N7.set 0 _).set 1 _) Tryz.underlying49 (by kernel_rfl)) rfl ⟨rfl,(C3.freshP (by omega) 0 _).freshP (by omega) 1 _,hK _ w3 _ Oj (by simp) fun y hy _=>(dp (by omega)).trans (dp (by omega))⟩
  |ok m'=>
   rintro e w3 ⟨v',Z',rfl,hm,hZ,N2,Oj⟩;obtain⟨va,vc,rfl⟩:=hm.form;have N7:=Od.kept N2 (fun q=>by have:=hks _ q;omega);have C3:=(dl.of_below (bs:=ks) B2).trans N2;obtain⟨s7,s8⟩:=N7.rules;go_wp2
   have Oc:=hm.keep (w':=(w3.setCell (ai (w.heap.size+1+1+1) 0) (.slice va m'.fs.length vc)).setCell (ai (w.heap.size+1+1+1) 1) (ae m'.unk)) (fun x hx _=>by
    have:=(hZ x hx).1
    rw[dd,if_neg (by omega),dd,if_neg (by omega)])
   exact bodyPost_ret (qN Tryz.results21 _ _ rfl ((N7.set 0 _).set 1 _) Tryz.underlying49 (by kernel_rfl)) rfl ⟨_,Z',rfl,Oc,fun x hx=>⟨by have:=(hZ x hx).1;omega,by simp only[ca];exact(hZ x hx).2⟩,
    (C3.freshP (by omega) 0 _).freshP (by omega) 1 _,hK _ w3 _ Oj (by simp) fun y hy _=>(dp (by omega)).trans (dp (by omega))⟩
 ·obtain rfl:=hR Oo;have Od:=KM.alloc (ak #[.pointer none] 105);have B2:=B0.alloc B0.size (ak #[.pointer none] 105);clear h hR Oo;obtain⟨r7,r8⟩:=Od.rules;go_wp2;exact bodyPost_ret (qN Tryz.results21 _ _ rfl ((Od.set 0 _).set 1 _) Tryz.underlying49 (by kernel_rfl)) rfl ⟨rfl,((dl.of_below (bs:=ks) B2).freshP (by omega) 0 _).freshP (by omega) 1 _,hK _ w _ hk0 (by have:=B2.size;simp at this⊢;omega) fun y hy hl=>(dp (by omega)).trans ((dp (by omega)).trans (B2.block y hl))⟩
theorem jN.part {w:an}{R:Fx PM}{e:Ending}{w':an}(h:jN w R e w'):(∃x,R= .error x/\e=da x.1 x.2/\aj w w')\/∃m v Z',R= .ok m/\e= .returned (.agg #[v,ae m.unk])/\nE 9 w' v m Z'/\(∀b,Z' b->w.heap.size<=b/\b<w'.heap.size)/\aj w w':=by
 cases R with
 |error x=>exact .inl ⟨x,rfl,h.1,h.2⟩
 |ok m=>
  obtain⟨v,Z',h⟩:=h;exact .inr ⟨m,v,Z',rfl,h⟩
theorem Ke {ks:au}{K:(ap)->an->Prop}{E B:Nat}(hks:∀x∈ks,x<E)(hK:∀Z,jG E B (K Z))(R:Fx PM)(w:an)(hE:E<=w.heap.size)(hB:w.heap.size+1=B)(q0 q1 q2 q3 mb sb kp:Nat)(v:Value)(b:am)(hc0:w.cell? (ai q0 0)=some (aa 2))(hc1:w.cell? (ai q1 0)=some (ag mb))(hc2:w.cell? (ai q2 0)=some (ae b))(hc3:w.cell? (ai q3 0)=some (ag sb))(hs:de w sb #[v,ag kp] 92)
  (hq:q0∉ks/\q1∉ks/\q2∉ks/\q3∉ks/\sb∉ks)
  (h:∀w0,aj w w0->w0.heap.size=B->Calls Tryz.prog 48 #[ag kp,ag mb] w0 fun e w1=>∃p,e= .returned (ag p)/\dl ks w0 w1/\(∀Z:ap,(∀b,Z b->w1.heap.size<=b)->K Z w1)/\Calls Tryz.prog 49 #[ag p,ae b] w1 (jN w1 R)):
  Calls Tryz.prog 46 #[ag q0,ag q1,ag q2,ag q3] w (ot ks K w R):=by
 obtain⟨B0,KM⟩:=di w #[ah,ae ⟨#[]⟩] 49;have l0:q0<w.heap.size:=aN _ _ hc0;have l1:q1<w.heap.size:=aN _ _ hc1;have l2:q2<w.heap.size:=aN _ _ hc2;have l3:q3<w.heap.size:=aN _ _ hc3;have d0:=(B0.cell (p:=(ai q0 0)) l0).trans hc0;have d1:=(B0.cell (p:=(ai q1 0)) l1).trans hc1;have d2:=(B0.cell (p:=(ai q2 0)) l2).trans hc2;have d3:=(B0.cell (p:=(ai q3 0)) l3).trans hc3;have Ov:=hs.below B0 hs.lt;have HC:Hid (Calls Tryz.prog 48 #[ag kp,ag mb] (w.alloc (ak #[ah,ae ⟨#[]⟩] 49)).drew fun e w1=>∃p,e= .returned (ag p)/\dl ks (w.alloc (ak #[ah,ae ⟨#[]⟩] 49)).drew w1/\(∀Z:ap,(∀b,Z b->w1.heap.size<=b)->K Z w1)/\Calls Tryz.prog 49 #[ag p,ae b] w1 (jN w1 R)):=h _ B0.drew (by simp[<-hB]);clear h;have hw1:w.heap.size<(w.alloc (ak #[ah,ae ⟨#[]⟩] 49)).heap.size/\(w.alloc (ak #[ah,ae ⟨#[]⟩] 49)).heap.size<=B:=by simp;omega
 go_enter Tryz.func46,Tryz.ntmps46
 go_upto_region 3 with fail
 generalize w.alloc (ak #[ah,ae ⟨#[]⟩] 49)=w1 at*;have b1:=B0.size;have nk:∀x,x<w.heap.size->x∉ks->x∉w.heap.size::ks:=fun x h1 h2 q=>(aL.1 q).elim (fun e=>by omega) h2
 have mk':∀x∈ks,x∈w.heap.size::ks:=fun x q=>by simp[q]
 have HS:Hid (∀W:an,dl (w.heap.size::ks) w1 W->W.cell? (ai q1 0)=some (ag mb)/\W.cell? (ai q2 0)=some (ae b)/\W.cell? (ai q3 0)=some (ag sb)/\W.cell? (ai sb 1)=some (ag kp)):=fun W hk=>
  ⟨(aZ (a:=(ai q1 0)) (hk.block q1 (by omega) (nk q1 l1 hq.2.1))).trans d1,(aZ (a:=(ai q2 0)) (hk.block q2 (by omega) (nk q2 l2 hq.2.2.1))).trans d2,(aZ (a:=(ai q3 0)) (hk.block q3 (by omega) (nk q3 l3 hq.2.2.2.1))).trans d3,(Ov.kept hk (nk sb hs.lt hq.2.2.2.2)).cell 1⟩
 have Ow:w.heap.size∉ks:=fun q=>by have:=hks _ q;omega
 have e0:=HS.out w1.drew (dl.refl _ w1).drew
 go_region_held2 (fun W=>W.cell? (ai q1 0)=some (ag mb)/\W.cell? (ai q2 0)=some (ae b)/\W.cell? (ai q3 0)=some (ag sb)/\W.cell? (ai sb 1)=some (ag kp))
  (first|exact HS.out _ Ox|exact HS.out _ Om|exact HS.out _ (Oh.mono mk')|exact HS.out _ (Og.mono mk')|exact e0)
  (first
   |(
     go_at_call 48
     refine HC.out.mono ?_;rintro e w2 ⟨p,rfl,Ok,Ob,Oz⟩
     have Og:=dl.ofDrew Ok)
   |(
     go_at_call 49
     refine Oz.mono ?_;intro e w3 OA
     rcases jN.part OA with⟨x,rfl,rfl,N2⟩|⟨m,v',Z',rfl,rfl,hm,hZ,N2⟩
     ·unfold da;go_wp2;exact⟨rfl,rfl,(dl.of_below B0).trans (Og.trans (dl.of_below N2)),hK _ w2 w3 (Ob _ fun _ q=>q.elim) N2.size fun y _ hl=>N2.block y hl⟩
     obtain⟨va,vc,rfl⟩:=hm.form;have Oh:=Og.trans (dl.of_below N2);have N7:=KM.kept Oh Ow;obtain⟨k5,k6⟩:=N7.rules;have Om:=(Oh.mono mk').set1 (c:=w.heap.size) (by simp) 0 (.slice va m.fs.length vc)
     have Ox:=Om.set1 (c:=w.heap.size) (by simp) 1 (ae m.unk)))
 all_goals
  go_wp2;have hz2:=Og.size
  have Oc:=hm.keep (w':=(w3.setCell (ai w.heap.size 0) (.slice va m.fs.length vc)).setCell (ai w.heap.size 1) (ae m.unk)) (fun x hx _=>by
   have:=(hZ x hx).1
   rw[dd,if_neg (by omega),dd,if_neg (by omega)])
  refine bodyPost_ret (dw Tryz.results46 _ _ rfl ((N7.set 0 _).set 1 _) Tryz.underlying49 (by kernel_rfl)) rfl ⟨_,Z',rfl,Oc,fun x hx=>⟨by have:=(hZ x hx).1;omega,by simp only[ca];exact(hZ x hx).2⟩,?_,?_⟩
  ·exact(((dl.of_below B0).trans Oh).freshP (ay _) 0 _).freshP (ay _) 1 _
  ·refine hK _ w2 _ (Ob _ fun x hx=>(hZ x hx).1) (by have:=N2.size;simpa using this) fun y hy hl=>(dp (by omega)).trans ((dp (by omega)).trans (N2.block y hl))
end
section
attribute [local go_sem↓] Go.wp_at_zero Go.wp_at_succ
def nJ (S:dG)(R:MT->PM->Bool)(d:MT)(ahead:List PF)(x:PF):Bool:=
 match dv d.fs x.1 with
 |none=>false
 |some f=>jR (uM d f) x.1 ahead&&fL S R f x.2
theorem uh {S:dG}{R:MT->PM->Bool}{d:MT}{fs:List PF}{i:Nat}{x:PF}(hx:fs[i]?=some x):
  jS S R d (fs.take i) (fs.drop i)=(nJ S R d (fs.take i) x&&jS S R d (fs.take (i+1)) (fs.drop (i+1))):=by
 have Ob:i<fs.length:=(List.getElem?_eq_some_iff.1 hx).1;have e:fs[i]=x:=(List.getElem?_eq_some_iff.1 hx).2;rw[aU Ob,e,jS,bu,hx];rfl
section
variable {mp:am->Option Nat}
theorem Kf (w:an)(P:ap)(mb pb:Nat)(nm:am)(gs:List GF)(num kind:Int)(h:gD w P mp mb nm gs)(hs:gs.Pairwise (fun x y=>x.f.num<=y.f.num))(hl:gs.length<=2001)(hp:de w pb #[ag mb] 105):
  Calls Tryz.prog 161 #[.agg #[aa num,aa kind],ag pb] w fun e w'=>e= .returned (.bool (pU mp gs num kind).isSome)/\aj w w':=by
 obtain⟨B0,K0⟩:=di w #[aa num,aa kind] 237;have Oo:=hp.below B0 hp.lt;have HK:=vA _ P mp mb nm gs num kind (h.keep (fun b _ hl=>B0.block b hl)) hs hl;obtain⟨k1,k2⟩:=K0.rules;obtain⟨k3,k4⟩:=Oo.rules;generalize pU mp gs num kind=r at*;go_enter Tryz.func161,Tryz.ntmps161
 go_wp2_with fail
 refine HK.mono ?_;rintro e w2 ⟨he,b2⟩
 cases r with
 |none=>
  obtain rfl:e= .returned (.pointer none):=he;go_wp2;go_ret;exact⟨rfl,cY B0 b2⟩
 |some g=>
  obtain⟨fb,rfl,_⟩:=he;go_wp2;go_ret;exact⟨rfl,cY B0 b2⟩
end
theorem IJ {S:dG}{mp:am->Option Nat}{B:Nat}:∀n,JT S mp B n:=by
 intro n
 induction n with
 |zero=>
  intro w Z v m d mb gs nm deep k cx hm hG hM hO hd;obtain⟨a,c,rfl⟩:=hM.form;obtain rfl:deep=9:=by omega
  obtain⟨B0,K1,K2⟩:=eD w #[ag mb] #[.slice a m.fs.length c,ae m.unk] 105 49;go_enter Tryz.func101,Tryz.ntmps101
  go_wp2_with (go_at_call 157;refine(fD _).mono ?_;rintro e w2 ⟨rfl,rfl⟩;unfold da)
  exact⟨rfl,dA.no B0⟩
 |succ n ih=>
  intro w Z v m d mb gs nm deep k cx hm hG hM hO hd
  cases k with
  |zero=>exact hM.elim
  |succ k=>
  obtain⟨cs,hr,Og⟩:=hM;obtain⟨a,c,rfl⟩:=hr.form;have hcap:=hr.cap;obtain⟨Oy,Oz,OA⟩:=hO;obtain⟨B0,K1,K2⟩:=eD w #[ag mb] #[.slice a m.fs.length c,ae m.unk] 105 49;have hd8:(deep:Int)<=8:=by omega
  obtain⟨X,HX⟩:∃X,Hid (jS S (dm S n) d [] m.fs=X):=⟨_,rfl⟩
  have HM:Hid (dm S (n+1) d m=(X&&xK (tT S d) m.unk)):=by
   show dm S (n+1) d m=_;rw[dm,HX.out]
  have HU:Hid (∀(W:an),aj w W->de W w.heap.size #[ag mb] 105->Calls Tryz.prog 160 #[ae m.unk,.func (.func 161) #[] #[ag w.heap.size]] W (dA (xK (tT S d) m.unk) W)):=fun W hW hp=>
   wd W m.unk 161 [ag w.heap.size] (tT S d) Oz (enters_of Tryz.func161 (by kernel_rfl) rfl) fun W2 num kind Oh=>by
    have:=Kf W2 (fun b=>b<B) mb w.heap.size nm gs num kind (hm.keep fun b _ q=>(cY hW Oh).block b q) hG.srt hG.len (hp.below Oh hp.lt);rw[F6 hG]at this;exact this
  generalize xK (tT S d) m.unk=Y at*;go_enter Tryz.func101,Tryz.ntmps101
  obtain⟨k1,k2⟩:=K2.rules;go_wp2_with (go_at_call 157;refine(fN _).mono ?_;rintro e w2 ⟨rfl,rfl⟩)
  generalize(w.alloc (ak #[ag mb] 105)).alloc (ak #[.slice a m.fs.length c,ae m.unk] 49)=w1 at*;go_loopw [6,7,8,15] (fun _ _ _ iv wr=>∃i:Nat,iv=aa i/\i<=m.fs.length/\Hid (jS S (dm S n) d (m.fs.take i) (m.fs.drop i)=X)/\aj w1 wr) (fun _ _ _ iv _=>m.fs.length-(intOf iv).toNat)
  case atStart=>exact⟨0,rfl,aM _,HX,Below.refl _ _⟩
  case round=>
   obtain⟨i,rfl,hi,HI,Bw⟩:=hrel;clear k1 k2;have BW:=cY B0 Bw
   by_cases Ob:i<m.fs.length
   ·obtain⟨x,hx⟩:=gx Ob;obtain⟨vv,p1,p2,p3⟩:=Og.get hx;obtain⟨va,vc,rfl⟩:=p1.form;obtain⟨g0,rfl,hzg0,Oi,N2⟩:=hr.at (by omega);have t0:=N2 wr (BW.block _ Oi) _ _ p2;have t1:=jI (N2 wr (BW.block _ Oi) _ _ p3);obtain⟨B1,K5⟩:=di wr #[aa x.1,.slice va x.2.length vc] 58;have B2:=cY BW B1;have Oc:=cY Bw B1;have Od:=K1.below Oc K1.lt;have K22:=K2.below Oc K2.lt;have HF:=od _ (fun b=>b<B) mp mb nm gs x.1 (hm.keep fun b _ q=>B2.block b q) hG.srt hG.len
    have N8:Hid (X=(nJ S (dm S n) d (m.fs.take i) x&&jS S (dm S n) d (m.fs.take (i+1)) (m.fs.drop (i+1)))):=by
     show X=_;rw[<-HI.out,uh hx]
    obtain⟨k3,k4⟩:=Od.rules;obtain⟨k5,k6⟩:=K5.rules;have hij:(i:Int)<(m.fs.length:Int):=by omega
    have Oq:=OA x (aI hx);clear N2 p2 p3 B1 hx;go_wp2_with fail
    refine HF.mono ?_;rintro e w3 ⟨he,rfl⟩;generalize wr.alloc (ak #[aa x.1,.slice va x.2.length vc] 58)=w2 at*;generalize wr.heap.size=vb at*
    cases hfd:dv d.fs x.1 with
    |none=>
     rw[hG.no _ hfd]at he;obtain rfl:e= .returned (.pointer none):=he
     have N3:Hid (dm S (n+1) d m=false):=by
      show dm S (n+1) d m=false;rw[HM.out,N8.out,nJ,hfd];rfl
     go_wp2_with (go_at_call 157;refine(fD _).mono ?_;rintro e w2 ⟨rfl,rfl⟩;unfold da)
     rw[N3.out];exact⟨rfl,dA.no B2⟩
    |some f=>
     obtain⟨g,hg,fg⟩:=hG.yes _ _ hfd;rw[hg]at he;obtain⟨fb,rfl,Oj⟩:=he;have N7:=(eY hfd).1
     have HS:Hid (nJ S (dm S n) d (m.fs.take i) x=(jR g.riv g.f.num (m.fs.take i)&&fL S (dm S n) f x.2)):=by
      show nJ S (dm S n) d (m.fs.take i) x=_;unfold nJ;rw[hfd,fg.riv,fg.eq,N7]
     obtain⟨pv,rv,Oa,_,Ok,Ol⟩:=Oj.blk;obtain⟨pq,rfl⟩:=eT Ol;obtain⟨ra,rc,rfl⟩:=gS Ok.1;have Of:=F4 w2.drew (some g0) c c m.fs cs i g.f.num (.slice ra g.riv.length rc) g.riv (hr.keep fun b _ q=>B2.drew.block b q) (uH.below B2.drew (ay _) Og) (by omega) Oy (Ok.keep fun b _ q=>(Below.refl w2.heap.size w2).drew.block b q) fg.rlen;obtain⟨q,hq⟩:∃q,jR g.riv g.f.num (m.fs.take i)=q:=⟨_,rfl⟩;rw[hq]at Of HS;clear hq hg hfd N7 HF Ol;have hic:(i:Int)<=(c:Int):=by omega
     go_upto_region 7 with(go_at_call 157;refine(fN _).mono ?_;rintro e w2 ⟨rfl,rfl⟩)
     have hW:w2.drew.cell? (ai (w.heap.size+1) 0)=some (.slice (some g0) m.fs.length c)/\w2.drew.cell? (ai fb 0)=some (aa g.f.num)/\w2.drew.cell? (ai fb 4)=some (.slice ra g.riv.length rc):=
      ⟨K22.drew.cell 0,Oa.drew.cell 0,Oa.drew.cell 4⟩
     go_region_held2 (fun W=>W.cell? (ai (w.heap.size+1) 0)=some (.slice (some g0) m.fs.length c)/\W.cell? (ai fb 0)=some (aa g.f.num)/\W.cell? (ai fb 4)=some (.slice ra g.riv.length rc))
      (first|exact hW|exact⟨Ot.cell 0,h3.cell 0,h3.cell 4⟩)
      (first
       |(
         go_at_call 158
         refine Of.mono ?_;intro e w3 OB
         rcases OB.part with⟨rfl,rfl,b3⟩|⟨rfl,y,z,rfl,b3⟩
         rotate_left
         ·have B4:=cY B2.drew b3
          have N3:Hid (dm S (n+1) d m=false):=by
           show dm S (n+1) d m=false;rw[HM.out,N8.out,HS.out];rfl
          unfold da;go_wp2;rw[N3.out];exact⟨rfl,dA.no B4⟩
         have h3:=Oa.below (w:=w2.drew) b3 Oa.lt
         have Ot:=K22.below (w:=w2.drew) b3 K22.lt))
     have B4:=cY B2.drew b3;have Ou:=cY Oc.drew b3;have Ov:=K5.below (w:=w2.drew) b3 K5.lt;have HC:=xN ih w3 Z (.slice va x.2.length vc) x.2 d f g fb deep k (cx.on (dj B4 cx.le)) (Oj.keep (w':=w3) fun b _ q=>show w3.heap[b]?=w2.heap[b]? from b3.block b q) fg (mB.below B4 (ay _) p1) Oq (by omega);obtain⟨r,Om⟩:∃r,fL S (dm S n) f x.2=r:=⟨_,rfl⟩;rw[Om]at HC HS;clear Om k3 k4 k5 k6;obtain⟨k5,k6⟩:=Ov.rules;go_wp2_with fail
     refine HC.mono ?_;intro e w4 Oe
     rcases Oe.part with⟨rfl,rfl,b4⟩|⟨rfl,y,z,rfl,b4⟩
     ·have Ow:Hid (jS S (dm S n) d (m.fs.take (i+1)) (m.fs.drop (i+1))=X):=by
       show _=X;rw[N8.out,HS.out];rfl
      go_wp2;go_roundw
      case rel=>exact⟨i+1,by go_num,by omega,Ow,cY Ou b4⟩
      case measure=>simp[intOf];omega
     ·have N3:Hid (dm S (n+1) d m=false):=by
       show dm S (n+1) d m=false;rw[HM.out,N8.out,HS.out];rfl
      unfold da;go_wp2;rw[N3.out];exact⟨rfl,dA.no (cY B4 b4)⟩
   ·obtain rfl:i=m.fs.length:=by omega
    have N3:Hid (dm S (n+1) d m=Y):=by
     show dm S (n+1) d m=Y;rw[HM.out,<-HI.out,b9];rfl
    have Od:=K1.below Bw K1.lt;have K22:=K2.below Bw K2.lt;have Ox:=HU.out wr BW Od;obtain⟨k3,k4⟩:=K22.rules;go_wp2_with fail
    refine Ox.mono ?_;intro e w4 Oe
    rcases Oe.part with⟨rfl,rfl,b4⟩|⟨rfl,y,z,rfl,b4⟩
    ·go_wp2;go_end0;rw[N3.out];exact dA.ok (cY BW b4)
    ·unfold da;go_wp2;rw[N3.out];exact⟨rfl,dA.no (cY BW b4)⟩
def iu (ok:Bool)(v:Value)(w:an)(e:Ending)(w':an):Prop:=aj w w'/\if ok=true then e= .returned v else∃(x:Nz) (y:Int),e=da x.1 y
theorem iu.ok {w w':an}{v:Value}(b:aj w w'):iu true v w (.returned v) w':=⟨b,rfl⟩
theorem iu.no {w w':an}{v:Value}{x y:Int}(b:aj w w')(hx:x≠0:=by first|decide|exact Nz.ne _):iu false v w (da x y) w':=⟨b,⟨x,hx⟩,_,rfl⟩
theorem iu.part {ok:Bool}{w:an}{v:Value}{e:Ending}{w':an}(h:iu ok v w e w'):(ok=true/\e= .returned v/\aj w w')\/(ok=false/\∃(x:Nz) (y:Int),e=da x.1 y/\aj w w'):=by
 obtain⟨h1,h2⟩:=h
 cases ok
 ·rw[if_neg (by simp)]at h2;obtain⟨x,y,q⟩:=h2;exact .inr ⟨rfl,x,y,q,h1⟩
 ·exact .inl ⟨rfl,h2,h1⟩
section
variable {S:dG} {mp:am->Option Nat} {B:Nat}
theorem ui (hN:z8 S)(w:an)(Z:ap)(v:Value)(m:PM)(d:MT)(mb:Nat)(gs:List GF)(nm:am)(k:Nat)(cx:p8 w B S mp)(hm:gD w (fun b=>b<B) mp mb nm gs)(hG:ja S mp d gs)(hnd:GY d)(hM:fR k w Z v m)(hO:kT k m)(hl:(dD S 8 d m).length<=140737488355328):
  Calls Tryz.prog 58 #[ag mb,.agg #[v,ae m.unk]] w (iu (dm S 8 d m) (aa (dD S 8 d m).length) w):=by
 obtain⟨a,c,rfl⟩:=hM.form;obtain⟨B0,K1⟩:=di w #[.slice a m.fs.length c,ae m.unk] 49;have HC:=IJ (S:=S) (mp:=mp) (B:=B) 8 _ Z _ m d mb gs nm 1 k (cx.on (dj B0 cx.le)) (hm.keep fun b _ q=>B0.block b q) hG (hM.below B0 (ay _)) hO rfl
 have HZ:Hid (∀W,aj w W->dm S 8 d m=true->Calls Tryz.prog 102 #[ag mb,.agg #[.slice a m.fs.length c,ae m.unk]] W (fE (dD S 8 d m) W)):=fun W hW hs=>
  qU hN 8 W Z _ m d mb gs nm k (cx.on (dj hW cx.le)) (hm.keep fun b _ q=>hW.block b q) hG hnd (hM.below hW (ay _)) hO hs hl
 generalize dD S 8 d m=y at*;generalize dm S 8 d m=ok at*;obtain⟨k1,k2⟩:=K1.rules;go_enter Tryz.func58,Tryz.ntmps58
 go_wp2_with fail
 refine HC.mono ?_;intro e w2 hr;generalize w.alloc (ak #[.slice a m.fs.length c,ae m.unk] 49)=w1 at*
 rcases hr.part with⟨rfl,rfl,b2⟩|⟨rfl,y,z,rfl,b2⟩
 ·have K2:=K1.below b2 K1.lt;clear k1 k2;obtain⟨k1,k2⟩:=K2.rules;have B2:=cY B0 b2;go_wp2_with fail
  refine(HZ.out w2 B2 trivial).mono ?_;rintro e w3 ⟨rfl,b3⟩;go_wp2;go_ret;exact iu.ok (cY B2 b3)
 ·unfold da;go_wp2;exact⟨rfl,iu.no (cY B0 b2)⟩
theorem Gi (hN:z8 S)(w:an)(Z:ap)(v:Value)(m:PM)(d:MT)(mb:Nat)(gs:List GF)(nm:am)(k:Nat)(cx:p8 w B S mp)(hm:gD w (fun b=>b<B) mp mb nm gs)(hG:ja S mp d gs)(hnd:GY d)(hM:fR k w Z v m)(hO:kT k m)(hl:(dD S 8 d m).length<=140737488355328):
  Calls Tryz.prog 54 #[ag mb,.agg #[v,ae m.unk]] w (iu (dm S 8 d m) (ae ⟨(dD S 8 d m).toArray⟩) w):=by
 obtain⟨a,c,rfl⟩:=hM.form;obtain⟨B0,K1⟩:=di w #[.slice a m.fs.length c,ae m.unk] 49;have HC:=ui hN _ Z _ m d mb gs nm k (cx.on (dj B0 cx.le)) (hm.keep fun b _ q=>B0.block b q) hG hnd (hM.below B0 (ay _)) hO hl;have N2:=hM.mono (Y:=fun b=>b<w.heap.size) fun _ _ q=>q
 have HW:Hid (∀W N b,aj w W->w.heap.size<=N->N<=W.heap.size->dm S 8 d m=true->d6 W N b (dx b) []->Calls Tryz.prog 97 #[ag mb,.agg #[.slice a m.fs.length c,ae m.unk],dx b] W (gu N b [] (dD S 8 d m) W)):=fun W N b hW hN1 N3 hs hw=>
  DB hN 8 W _ _ m d mb gs nm k N b [] (cx.on (dj hW cx.le)) (hm.keep fun b _ q=>hW.block b q) hG hnd (N2.below hW (ay _)) (fun i q=>by omega) (by have:=cx.le;omega) N3 hO hs hw (by simpa using hl)
 generalize dD S 8 d m=y at*;generalize dm S 8 d m=ok at*;obtain⟨k1,k2⟩:=K1.rules;have hs1:w.heap.size+1=(w.alloc (ak #[.slice a m.fs.length c,ae m.unk] 49)).heap.size:=by simp
 go_enter Tryz.func54,Tryz.ntmps54
 go_wp2_with fail
 refine HC.mono ?_;intro e w2 hr;generalize w.alloc (ak #[.slice a m.fs.length c,ae m.unk] 49)=w1 at*
 rcases hr.part with⟨rfl,rfl,b2⟩|⟨rfl,y,z,rfl,b2⟩
 ·have hs2:=b2.size;go_wp2_with fail
  refine(rE (B:=w.heap.size+1) y.length hl (by omega)).mono ?_;rintro e w3 ⟨b,rfl,hb,N7,b3⟩;have K3:de w3 w.heap.size _ _:=(b3.block _ (by omega)).trans (K1.below b2 K1.lt);have hs3:=b3.size;have B3:aj w w3:=(cY B0 b2).trans (dj b3 (by omega));clear k1 k2;obtain⟨k1,k2⟩:=K3.rules;go_wp2_with fail
  refine(HW.out w3 (w.heap.size+1) b B3 (by omega) (by omega) trivial N7).mono ?_;rintro e w4 ⟨rfl,q1,q2⟩;rw[aP]at q1;have hs4:=q2.bel.size;go_wp2_with fail
  refine(vV q1 (by omega)).mono ?_;rintro e w5 ⟨rfl,b5⟩;go_wp2;go_ret;exact iu.ok (B3.trans (dj (q2.bel.trans b5) (by omega)))
 ·unfold da;go_wp2;exact⟨rfl,iu.no (cY B0 b2)⟩
end
end
end Go.Proofs.YtfebdimolnobaaaGreatDoor
