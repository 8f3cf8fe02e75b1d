import Derived.Test.YtfebdimolnobaaaGreatDoorFcE
set_option maxRecDepth 100000
set_option maxHeartbeats 8000000
set_option linter.all false
namespace Go.Proofs.YtfebdimolnobaaaGreatDoor
open Go.RowKit
section
open Go.Maps
attribute [local go_sem↓] Go.wp_at_zero Go.wp_at_succ
def iX (ks:au)(K:an->Prop)(ok:Bool)(v:Value)(w:an)(e:Ending)(w':an):Prop:=dl ks w w'/\K w'/\if ok=true then e= .returned v else∃(x:Nz) (y:Int),e=da x.1 y
section
theorem DN (a b:Addr)(w:an):
  CallsD Tryz.prog 150 #[.pointer (some a),.pointer (some b)] .returning w fun e u' w'=>e= .returned (.tuple #[])/\u'= .returning/\w'=w:=by
 refine callsD_of_wpS Tryz.func150 rfl fun c₀ cs hu=> ?_
 apply wpS_seq;apply wpS_region;simp[wpOpsS,go_sem,recoverD,hu,Tryz.ntmps150,Exit.thenS];refine wpS_of_wp ?_;rw[rD];go_wp2
 cases c₀
 simp_all [bodyPostS,results,Tryz.results150]
theorem DO (ab bb:Nat)(k p:Int)(older:List PanicEntry)(w:an)(x y:Value)(ha:w.cell? (ai ab 0)=some x)(hb:w.cell? (ai bb 0)=some y)(fa:w.frozen? (ai ab 0)=false)(fb:w.frozen? (ai bb 0)=false)(hab:¬ab=bb):
  CallsD Tryz.prog 150 #[ag ab,ag bb] (.panicking ({v:= .iface 142 (.agg #[aa k,aa p]),recovered:=false}::older)) w fun e u' w'=>
   e= .returned (.tuple #[])/\u'= .panicking ({v:= .iface 142 (.agg #[aa k,aa p]),recovered:=true}::older)/\
    w'=(((w.setCell (ai ab 0) (aa k)).setCell (ai bb 0) (aa p)).alloc (ak #[aa k,aa p] 142)).drew:=by
 have Og:=In k p;have la:=aN _ _ ha;have lb:=aN _ _ hb;simp only at la lb;obtain⟨p1,p2,p3,p4⟩:=eK (w:=w) (b:=ab) la;obtain⟨s1,s2,s3,s4⟩:=eK (w:=w) (b:=bb) lb;have Oh:¬bb=ab:=fun e=>hab e.symm
 refine callsD_of_wpS Tryz.func150 rfl fun c₀ cs hu=> ?_
 apply wpS_seq;apply wpS_region;simp[wpOpsS,go_sem,recoverD,hu,Tryz.ntmps150,Exit.thenS];refine wpS_of_wp ?_;rw[rD];go_wp2;go_region
 exact⟨rfl,_,rfl,.tuple #[],by simp[results,Tryz.results150],rfl,rfl,rfl⟩
variable {ks:au} {K:an->Prop} {E B:Nat}
theorem DP (hks:∀x∈ks,x<E)(hK:jG E B K)(ok:Bool)(v:am)(w:an)(hE:E<=w.heap.size)(hB:w.heap.size+2<=B)(c0 c1 c2 c3:Value)(h:∀w0,aj w w0->w0.heap.size=w.heap.size+2->Calls Tryz.prog 53 #[c0,c1,c2,c3] w0 (iX ks K ok (Value.string v) w0)):
  Calls Tryz.prog 95 #[.func (Fn.func 53) #[] #[c0,c1,c2,c3]] w fun e w'=>dl ks w w'/\K w'/\if ok=true then e= .returned (.tuple #[Value.string v,aa 0,aa 0])else∃(x:Nz) (y:Int),e= .returned (.tuple #[ae ⟨#[]⟩,aa x.1,aa y]):=by
 have Od:= @rh;obtain⟨B0,K0,K1⟩:=eD w #[aa 0] #[aa 0] 24 3;have HC:Hid (Calls Tryz.prog 53 #[c0,c1,c2,c3] _ (iX ks K ok (Value.string v) _)):=h _ B0 (by simp);clear h;go_enter_defers Tryz.func95,Tryz.ntmps95
 go_wp2_with fail
 generalize(w.alloc (ak #[aa 0] 24)).alloc (ak #[aa 0] 3)=w1 at*;refine HC.out.mono ?_;rintro e w2 ⟨N7,Ob,he⟩;have K2:=K0.kept N7 (fun q=>by have:=hks _ q;omega);have K3:=K1.kept N7 (fun q=>by have:=hks _ q;omega);have C2:=(dl.of_below (bs:=ks) B0).trans N7;obtain⟨k1,k2⟩:=K2.rules;obtain⟨k3,k4⟩:=K3.rules;have z3:=K3.lt
 cases ok with
 |false=>
  rw[if_neg (by simp)]at he;obtain⟨x,y,rfl⟩:=he;unfold da;refine leaves_cons (f:=150) (args:= #[ag w.heap.size,ag (w.heap.size+1)]) (by simp) (by simp[go_sem]) ?_;refine(DO w.heap.size (w.heap.size+1) x.1 y [] w2 _ _ (k1 0) (k3 0) (k2 0) (k4 0) (by omega)).mono ?_;rintro e u' Of ⟨rfl,rfl,rfl⟩;have q0:=(((K2.set 0 (aa x.1)).other (c:=w.heap.size+1) 0 (aa y) (by omega)).alloc (ak #[aa x.1,aa y] 142)).cell 0;have q1:=(((K3.other (c:=w.heap.size) 0 (aa x.1) (by omega)).set 0 (aa y)).alloc (ak #[aa x.1,aa y] 142)).cell 0;have C3:dl ks w (((w2.setCell (ai w.heap.size 0) (aa x.1)).setCell (ai (w.heap.size+1) 0) (aa y)).alloc (ak #[aa x.1,aa y] 142)).drew:=(((C2.freshP (ay _) 0 _).freshP (bE _) 0 _).alloc _).drew;have H3:K (((w2.setCell (ai w.heap.size 0) (aa x.1)).setCell (ai (w.heap.size+1) 0) (aa y)).alloc (ak #[aa x.1,aa y] 142)).drew:=hK w2 _ Ob (by simp) fun z hz hl=>(Below.heap_alloc _ _ z (by simpa using hl)).trans ((dp (by omega)).trans (dp (by omega)))
  simp at q0 q1;simp[Leaves,settle,results,Tryz.results95,go_sem,q0,q1];exact⟨C3,H3,x.2⟩
 |true=>
  rw[if_pos rfl]at he;subst he;go_wp2;refine leaves_cons (f:=150) (args:= #[ag w.heap.size,ag (w.heap.size+1)]) (by simp) (by simp[go_sem]) ?_;refine(DN (ai w.heap.size 0) (ai (w.heap.size+1) 0) _).mono ?_;rintro e u' Of ⟨rfl,rfl,rfl⟩;have q0:=((K2.set 0 (aa 0)).other (c:=w.heap.size+1) 0 (aa 0) (by omega)).cell 0;have q1:=((K3.other (c:=w.heap.size) 0 (aa 0) (by omega)).set 0 (aa 0)).cell 0;have C3:dl ks w ((w2.setCell (ai w.heap.size 0) (aa 0)).setCell (ai (w.heap.size+1) 0) (aa 0)):=(C2.freshP (ay _) 0 _).freshP (bE _) 0 _;have H3:K ((w2.setCell (ai w.heap.size 0) (aa 0)).setCell (ai (w.heap.size+1) 0) (aa 0)):=hK w2 _ Ob (by simp) fun z hz hl=>(dp (by omega)).trans (dp (by omega))
  simp at q0 q1;simp[Leaves,settle,results,Tryz.results95,go_sem,q0,q1];exact⟨C3,H3⟩
theorem DQ (hks:∀x∈ks,x<E)(hK:jG E B K)(ok:Bool)(v:am)(w:an)(hE:E<=w.heap.size)(hB:w.heap.size+2<=B)(c0 c1 c2 c3:Value)(h:∀w0,aj w w0->w0.heap.size=w.heap.size+2->Calls Tryz.prog 53 #[c0,c1,c2,c3] w0 (iX ks K ok (Value.string v) w0)):
  Calls Tryz.prog 52 #[.func (Fn.func 53) #[] #[c0,c1,c2,c3]] w fun e w'=>dl ks w w'/\K w'/\e= .returned (.tuple #[if ok=true then Value.string v else ae ⟨#[]⟩,aa (if ok=true then 0 else 12)]):=by
 have HC:=DP hks hK ok v w hE hB c0 c1 c2 c3 h;clear h;go_enter Tryz.func52,Tryz.ntmps52
 go_wp2_with fail
 refine HC.mono ?_;rintro e w2 ⟨C2,H2,he⟩
 cases ok with
 |false=>
  rw[if_neg (by simp)]at he;obtain⟨x,y,rfl⟩:=he;have hx:(x.1 !=0)=true:=by simpa using x.2
  go_wp2;go_ret2;exact⟨C2,H2,rfl⟩
 |true=>
  rw[if_pos rfl]at he;subst he;go_wp2;go_ret2;exact⟨C2,H2,rfl⟩
theorem wy (r:am×Int)(w:an)(hks:∀x∈ks,x<w.heap.size)(hK:jG w.heap.size (w.heap.size+6) K)(hk0:K w)(sb:Nat)(sv kv:Value)(bs:List dh)(y:List YM)(P:ap)(nm:am)(a:aw)(n c:Nat)(unk:am)(way:Int)(h1:de w sb #[sv,kv] 92)(hM:d5 w P sv bs y)(hl:y.length<=2001)(hw:way=1\/way=2)
  (hR:(∀m∈y,(m.1.1.toList==nm.toList)=false)->r=(⟨#[]⟩,5))
  (h:∀(i:Nat) (m:YM),y[i]?=some m->(m.1.1.toList==nm.toList)=true->∃ok v,r=(if ok=true then v else⟨#[]⟩,if ok=true then 0 else 12)/\∀(w0:an) (q0 q1 q2 q3:Nat),aj w w0->w0.heap.size=w.heap.size+6->w.heap.size<=q0/\w.heap.size<=q1/\w.heap.size<=q2/\w.heap.size<=q3->w0.cell? (ai q0 0)=some (aa way)->w0.cell? (ai q1 0)=some (ag m.1.2)->de w0 q2 #[.slice a n c,ae unk] 49->w0.cell? (ai q3 0)=some (ag sb)->
   Calls Tryz.prog 53 #[ag q0,ag q1,ag q2,ag q3] w0 (iX ks K ok (Value.string v) w0)):
  Calls Tryz.prog 24 #[ag sb,aa way,ae nm,.agg #[.slice a n c,ae unk]] w fun e w'=>e= .returned (.tuple #[Value.string r.1,aa r.2])/\dl ks w w'/\K w':=by
 have Od:= @rh;obtain⟨w0,N2⟩:∃w0,((w.alloc (ak #[ag sb] 22)).alloc (ak #[aa way] 3)).alloc (ak #[.slice a n c,ae unk] 49)=w0:=⟨_,rfl⟩;have B0:aj w w0:=by rw[<-N2];exact(((Below.refl _ _).alloc (ay _) _).alloc (by simp) _).alloc (by simp;omega) _
 have KS:de w0 w.heap.size #[ag sb] 22:=by rw[<-N2];exact((de.new w _ _).alloc _).alloc _
 have KY:de w0 (w.heap.size+1) #[aa way] 3:=by rw[<-N2];exact(de.newAt (by simp) _ _).alloc _
 have KM:de w0 (w.heap.size+1+1) #[.slice a n c,ae unk] 49:=by rw[<-N2];exact de.newAt (by simp) _ _
 have N8:=tP w0 sb sv kv bs y P nm way (h1.below B0 h1.lt) (hM.keep fun x _ hl=>B0.block x hl) hl hw;have Oa:Hid (w0.heap.size=w.heap.size+3):=by show _=_;rw[<-N2];simp
 obtain⟨s1,s2⟩:=KS.rules;obtain⟨s3,s4⟩:=KY.rules;go_enter Tryz.func24,Tryz.ntmps24
 go_wp2_with fail
 refine N8.mono ?_;clear N8 N2;rintro e w1 ⟨rfl,⟨i,m,hi,hn,rfl⟩|⟨Oc,rfl⟩⟩
 ·obtain⟨B1,KP⟩:=di w1 #[ag m.1.2] 105;have Oe:(w1.alloc (ak #[ag m.1.2] 105)).heap.size=w.heap.size+4:=by have:=Oa.out;simp;omega
  obtain⟨ok,v,hr,hc⟩:=h i m hi hn;have HR:Hid (r=(if ok=true then v else⟨#[]⟩,if ok=true then 0 else 12)):=hr;clear hr hR
  have HC:Hid (∀w3,Below (w1.alloc (ak #[ag m.1.2] 105)).heap.size (w1.alloc (ak #[ag m.1.2] 105)) w3->w3.heap.size=(w1.alloc (ak #[ag m.1.2] 105)).heap.size+2->Calls Tryz.prog 53 #[ag (w.heap.size+1),ag w1.heap.size,ag (w.heap.size+1+1),ag w.heap.size] w3 (iX ks K ok (Value.string v) w3)):=fun w3 hb hs=>by
   have N3:=cY B1 hb;have Oi:=Oa.out;exact hc w3 _ _ _ _ (cY B0 N3) (by omega) ⟨by omega,by omega,by omega,ay _⟩ ((KY.below N3 KY.lt).cell 0) ((KP.below hb KP.lt).cell 0) (KM.below N3 KM.lt) ((KS.below N3 KS.lt).cell 0)
  have HK:=DQ hks hK ok v (w1.alloc (ak #[ag m.1.2] 105)) (by omega) (by omega) _ _ _ _ HC.out;have B2:=cY B0 B1;go_wp2_with fail
  refine HK.mono ?_;rintro e w3 ⟨C3,H3,rfl⟩
  cases ok
  all_goals
   go_wp2;go_ret2;exact⟨by rw[HR.out];rfl,(dl.of_below B2).trans C3,H3⟩
 ·obtain rfl:=hR Oc;have B2:=B0.alloc B0.size (ak #[.pointer none] 105);clear h hR Oc;go_wp2;go_ret2;exact⟨rfl,dl.of_below B2,hK w _ hk0 B2.size fun z _ hl=>B2.block z hl⟩
end
section
theorem Kg (a b:Addr)(w:an):
  CallsD Tryz.prog 156 #[.pointer (some a),.pointer (some b)] .returning w fun e u' w'=>e= .returned (.tuple #[])/\u'= .returning/\w'=w:=by
 refine callsD_of_wpS Tryz.func156 rfl fun c₀ cs hu=> ?_
 apply wpS_seq;apply wpS_region;simp[wpOpsS,go_sem,recoverD,hu,Tryz.ntmps156,Exit.thenS];refine wpS_of_wp ?_;rw[rD];go_wp2
 cases c₀
 simp_all [bodyPostS,results,Tryz.results156]
theorem Kh (ab bb:Nat)(k p:Int)(older:List PanicEntry)(w:an)(x y:Value)(ha:w.cell? (ai ab 0)=some x)(hb:w.cell? (ai bb 0)=some y)(fa:w.frozen? (ai ab 0)=false)(fb:w.frozen? (ai bb 0)=false)(hab:¬ab=bb):
  CallsD Tryz.prog 156 #[ag ab,ag bb] (.panicking ({v:= .iface 142 (.agg #[aa k,aa p]),recovered:=false}::older)) w fun e u' w'=>
   e= .returned (.tuple #[])/\u'= .panicking ({v:= .iface 142 (.agg #[aa k,aa p]),recovered:=true}::older)/\
    w'=(((w.setCell (ai ab 0) (aa k)).setCell (ai bb 0) (aa p)).alloc (ak #[aa k,aa p] 142)).drew:=by
 have Og:=In k p;have la:=aN _ _ ha;have lb:=aN _ _ hb;simp only at la lb;obtain⟨p1,p2,p3,p4⟩:=eK (w:=w) (b:=ab) la;obtain⟨s1,s2,s3,s4⟩:=eK (w:=w) (b:=bb) lb;have Oh:¬bb=ab:=fun e=>hab e.symm
 refine callsD_of_wpS Tryz.func156 rfl fun c₀ cs hu=> ?_
 apply wpS_seq;apply wpS_region;simp[wpOpsS,go_sem,recoverD,hu,Tryz.ntmps156,Exit.thenS];refine wpS_of_wp ?_;rw[rD];go_wp2;go_region
 exact⟨rfl,_,rfl,.tuple #[],by simp[results,Tryz.results156],rfl,rfl,rfl⟩
variable {ks:au} {K:an->Prop} {E B:Nat}
theorem Ki (hks:∀x∈ks,x<E)(hK:jG E B K)(ok:Bool)(v:Int)(w:an)(hE:E<=w.heap.size)(hB:w.heap.size+2<=B)(c0 c1 c2 c3:Value)(h:∀w0,aj w w0->w0.heap.size=w.heap.size+2->Calls Tryz.prog 57 #[c0,c1,c2,c3] w0 (iX ks K ok (Value.int .i64 v) w0)):
  Calls Tryz.prog 100 #[.func (Fn.func 57) #[] #[c0,c1,c2,c3]] w fun e w'=>dl ks w w'/\K w'/\if ok=true then e= .returned (.tuple #[Value.int .i64 v,aa 0,aa 0])else∃(x:Nz) (y:Int),e= .returned (.tuple #[aa 0,aa x.1,aa y]):=by
 have Od:= @rh;obtain⟨B0,K0,K1⟩:=eD w #[aa 0] #[aa 0] 24 3;have HC:Hid (Calls Tryz.prog 57 #[c0,c1,c2,c3] _ (iX ks K ok (Value.int .i64 v) _)):=h _ B0 (by simp);clear h;go_enter_defers Tryz.func100,Tryz.ntmps100
 go_wp2_with fail
 generalize(w.alloc (ak #[aa 0] 24)).alloc (ak #[aa 0] 3)=w1 at*;refine HC.out.mono ?_;rintro e w2 ⟨N7,Ob,he⟩;have K2:=K0.kept N7 (fun q=>by have:=hks _ q;omega);have K3:=K1.kept N7 (fun q=>by have:=hks _ q;omega);have C2:=(dl.of_below (bs:=ks) B0).trans N7;obtain⟨k1,k2⟩:=K2.rules;obtain⟨k3,k4⟩:=K3.rules;have z3:=K3.lt
 cases ok with
 |false=>
  rw[if_neg (by simp)]at he;obtain⟨x,y,rfl⟩:=he;unfold da;refine leaves_cons (f:=156) (args:= #[ag w.heap.size,ag (w.heap.size+1)]) (by simp) (by simp[go_sem]) ?_;refine(Kh w.heap.size (w.heap.size+1) x.1 y [] w2 _ _ (k1 0) (k3 0) (k2 0) (k4 0) (by omega)).mono ?_;rintro e u' Of ⟨rfl,rfl,rfl⟩;have q0:=(((K2.set 0 (aa x.1)).other (c:=w.heap.size+1) 0 (aa y) (by omega)).alloc (ak #[aa x.1,aa y] 142)).cell 0;have q1:=(((K3.other (c:=w.heap.size) 0 (aa x.1) (by omega)).set 0 (aa y)).alloc (ak #[aa x.1,aa y] 142)).cell 0;have C3:dl ks w (((w2.setCell (ai w.heap.size 0) (aa x.1)).setCell (ai (w.heap.size+1) 0) (aa y)).alloc (ak #[aa x.1,aa y] 142)).drew:=(((C2.freshP (ay _) 0 _).freshP (bE _) 0 _).alloc _).drew;have H3:K (((w2.setCell (ai w.heap.size 0) (aa x.1)).setCell (ai (w.heap.size+1) 0) (aa y)).alloc (ak #[aa x.1,aa y] 142)).drew:=hK w2 _ Ob (by simp) fun z hz hl=>(Below.heap_alloc _ _ z (by simpa using hl)).trans ((dp (by omega)).trans (dp (by omega)))
  simp at q0 q1;simp[Leaves,settle,results,Tryz.results100,go_sem,q0,q1];exact⟨C3,H3,x.2⟩
 |true=>
  rw[if_pos rfl]at he;subst he;go_wp2;refine leaves_cons (f:=156) (args:= #[ag w.heap.size,ag (w.heap.size+1)]) (by simp) (by simp[go_sem]) ?_;refine(Kg (ai w.heap.size 0) (ai (w.heap.size+1) 0) _).mono ?_;rintro e u' Of ⟨rfl,rfl,rfl⟩;have q0:=((K2.set 0 (aa 0)).other (c:=w.heap.size+1) 0 (aa 0) (by omega)).cell 0;have q1:=((K3.other (c:=w.heap.size) 0 (aa 0) (by omega)).set 0 (aa 0)).cell 0;have C3:dl ks w ((w2.setCell (ai w.heap.size 0) (aa 0)).setCell (ai (w.heap.size+1) 0) (aa 0)):=(C2.freshP (ay _) 0 _).freshP (bE _) 0 _;have H3:K ((w2.setCell (ai w.heap.size 0) (aa 0)).setCell (ai (w.heap.size+1) 0) (aa 0)):=hK w2 _ Ob (by simp) fun z hz hl=>(dp (by omega)).trans (dp (by omega))
  simp at q0 q1;simp[Leaves,settle,results,Tryz.results100,go_sem,q0,q1];exact⟨C3,H3⟩
theorem Kj (hks:∀x∈ks,x<E)(hK:jG E B K)(ok:Bool)(v:Int)(w:an)(hE:E<=w.heap.size)(hB:w.heap.size+2<=B)(c0 c1 c2 c3:Value)(h:∀w0,aj w w0->w0.heap.size=w.heap.size+2->Calls Tryz.prog 57 #[c0,c1,c2,c3] w0 (iX ks K ok (Value.int .i64 v) w0)):
  Calls Tryz.prog 56 #[.func (Fn.func 57) #[] #[c0,c1,c2,c3]] w fun e w'=>dl ks w w'/\K w'/\e= .returned (.tuple #[if ok=true then Value.int .i64 v else aa 0,aa (if ok=true then 0 else 12)]):=by
 have HC:=Ki hks hK ok v w hE hB c0 c1 c2 c3 h;clear h;go_enter Tryz.func56,Tryz.ntmps56
 go_wp2_with fail
 refine HC.mono ?_;rintro e w2 ⟨C2,H2,he⟩
 cases ok with
 |false=>
  rw[if_neg (by simp)]at he;obtain⟨x,y,rfl⟩:=he;have hx:(x.1 !=0)=true:=by simpa using x.2
  go_wp2;go_ret2;exact⟨C2,H2,rfl⟩
 |true=>
  rw[if_pos rfl]at he;subst he;go_wp2;go_ret2;exact⟨C2,H2,rfl⟩
theorem Gj (r:Int×Int)(w:an)(hks:∀x∈ks,x<w.heap.size)(hK:jG w.heap.size (w.heap.size+6) K)(hk0:K w)(sb:Nat)(sv kv:Value)(bs:List dh)(y:List YM)(P:ap)(nm:am)(a:aw)(n c:Nat)(unk:am)(way:Int)(h1:de w sb #[sv,kv] 92)(hM:d5 w P sv bs y)(hl:y.length<=2001)(hw:way=1\/way=2)
  (hR:(∀m∈y,(m.1.1.toList==nm.toList)=false)->r=(0,5))
  (h:∀(i:Nat) (m:YM),y[i]?=some m->(m.1.1.toList==nm.toList)=true->∃ok v,r=(if ok=true then v else 0,if ok=true then 0 else 12)/\∀(w0:an) (q0 q1 q2 q3:Nat),aj w w0->w0.heap.size=w.heap.size+6->w.heap.size<=q0/\w.heap.size<=q1/\w.heap.size<=q2/\w.heap.size<=q3->w0.cell? (ai q0 0)=some (aa way)->w0.cell? (ai q1 0)=some (ag m.1.2)->de w0 q2 #[.slice a n c,ae unk] 49->w0.cell? (ai q3 0)=some (ag sb)->
   Calls Tryz.prog 57 #[ag q0,ag q1,ag q2,ag q3] w0 (iX ks K ok (Value.int .i64 v) w0)):
  Calls Tryz.prog 25 #[ag sb,aa way,ae nm,.agg #[.slice a n c,ae unk]] w fun e w'=>e= .returned (.tuple #[Value.int .i64 r.1,aa r.2])/\dl ks w w'/\K w':=by
 have Od:= @rh;obtain⟨w0,N2⟩:∃w0,((w.alloc (ak #[ag sb] 22)).alloc (ak #[aa way] 3)).alloc (ak #[.slice a n c,ae unk] 49)=w0:=⟨_,rfl⟩;have B0:aj w w0:=by rw[<-N2];exact(((Below.refl _ _).alloc (ay _) _).alloc (by simp) _).alloc (by simp;omega) _
 have KS:de w0 w.heap.size #[ag sb] 22:=by rw[<-N2];exact((de.new w _ _).alloc _).alloc _
 have KY:de w0 (w.heap.size+1) #[aa way] 3:=by rw[<-N2];exact(de.newAt (by simp) _ _).alloc _
 have KM:de w0 (w.heap.size+1+1) #[.slice a n c,ae unk] 49:=by rw[<-N2];exact de.newAt (by simp) _ _
 have N8:=tP w0 sb sv kv bs y P nm way (h1.below B0 h1.lt) (hM.keep fun x _ hl=>B0.block x hl) hl hw;have Oa:Hid (w0.heap.size=w.heap.size+3):=by show _=_;rw[<-N2];simp
 obtain⟨s1,s2⟩:=KS.rules;obtain⟨s3,s4⟩:=KY.rules;go_enter Tryz.func25,Tryz.ntmps25
 go_wp2_with fail
 refine N8.mono ?_;clear N8 N2;rintro e w1 ⟨rfl,⟨i,m,hi,hn,rfl⟩|⟨Oc,rfl⟩⟩
 ·obtain⟨B1,KP⟩:=di w1 #[ag m.1.2] 105;have Oe:(w1.alloc (ak #[ag m.1.2] 105)).heap.size=w.heap.size+4:=by have:=Oa.out;simp;omega
  obtain⟨ok,v,hr,hc⟩:=h i m hi hn;have HR:Hid (r=(if ok=true then v else 0,if ok=true then 0 else 12)):=hr;clear hr hR
  have HC:Hid (∀w3,Below (w1.alloc (ak #[ag m.1.2] 105)).heap.size (w1.alloc (ak #[ag m.1.2] 105)) w3->w3.heap.size=(w1.alloc (ak #[ag m.1.2] 105)).heap.size+2->Calls Tryz.prog 57 #[ag (w.heap.size+1),ag w1.heap.size,ag (w.heap.size+1+1),ag w.heap.size] w3 (iX ks K ok (Value.int .i64 v) w3)):=fun w3 hb hs=>by
   have N3:=cY B1 hb;have Oi:=Oa.out;exact hc w3 _ _ _ _ (cY B0 N3) (by omega) ⟨by omega,by omega,by omega,ay _⟩ ((KY.below N3 KY.lt).cell 0) ((KP.below hb KP.lt).cell 0) (KM.below N3 KM.lt) ((KS.below N3 KS.lt).cell 0)
  have HK:=Kj hks hK ok v (w1.alloc (ak #[ag m.1.2] 105)) (by omega) (by omega) _ _ _ _ HC.out;have B2:=cY B0 B1;go_wp2_with fail
  refine HK.mono ?_;rintro e w3 ⟨C3,H3,rfl⟩
  cases ok
  all_goals
   go_wp2;go_ret2;exact⟨by rw[HR.out];rfl,(dl.of_below B2).trans C3,H3⟩
 ·obtain rfl:=hR Oc;have B2:=B0.alloc B0.size (ak #[.pointer none] 105);clear h hR Oc;go_wp2;go_ret2;exact⟨rfl,dl.of_below B2,hK w _ hk0 B2.size fun z _ hl=>B2.block z hl⟩
end
end
section
attribute [local go_sem↓] Go.wp_at_zero Go.wp_at_succ
def rV (form:Int)(m:PM)(n:Int)(v:LV):PM:=if form=2 then m.put n (m.get n++ [nx v])else if form=0/\v.1=0/\gy v.2 eS=true then m.put n []else m.put n [nx v]
def Ad (form:Int)(m:PM)(n:Int):Fx (LV×Nat)->Fx (PM×Nat)
 | .error x=> .error x
 | .ok x=> .ok (rV form m n x.1,x.2)
theorem Gk {form:Int}(h:form≠2)(m:PM)(n:Int)(r:Fx (LV×Nat)):Ad form m n r=H9 (decide (form=0)) m n r:=by
 cases r with
 |error x=>rfl
 |ok x=>simp only[Ad,H9,rV,if_neg h,decide_eq_true_eq]
theorem Gl {form:Int}(h:form=2)(m:PM)(n:Int)(r:Fx (LV×Nat)):Ad form m n r=Fl m n r:=by
 cases r with
 |error x=>rfl
 |ok x=>simp only[Ad,Fl,rV,if_pos h]
theorem xU (form:Int)(args:Array Value)(w:an):(callFunc (jD form) args).run Tryz.prog w= .ok (.enter (jD form) args) w:=by
 unfold jD
 split
 ·exact enters_of Tryz.func193 (by kernel_rfl) rfl args w
 ·split
  ·exact enters_of Tryz.func268 (by kernel_rfl) rfl args w
  ·exact enters_of Tryz.func195 (by kernel_rfl) rfl args w
theorem Ae (S:dG)(k:Nat)(d:MT)(form:Int)(w:an)(Z:ap)(db:Nat)(m:PM)(n:Int)(v:LV)(h:dB S (k+1) (some d) w Z db m)(ok1:lM S (some d) n .vals)(ok2:∀kd,lM S (some d) n kd->kd= .vals)(hl:m.fs.length<4194304)(hvl:(m.get n).length<4194304)(hZ:∀b,Z b->b<w.heap.size):
  Calls Tryz.prog (jD form) #[ag db,aa n,rN v] w (ir S k (some d) w Z db (rV form m n v)):=by
 by_cases h0:form=0
 ·have e1:jD form=193:=by unfold jD;rw[if_pos h0]
  have e2:rV form m n v=if v.1=0/\gy v.2 eS=true then m.put n []else m.put n [nx v]:=by unfold rV;rw[if_neg (by omega)];simp[h0]
  rw[e1,e2];exact Cg S k (some d) w Z db m n v h ok1 (.inl ok2) hl hZ
 ·by_cases h2:form=2
  ·have e1:jD form=268:=by unfold jD;rw[if_neg h0,if_pos h2]
   have e2:rV form m n v=m.put n (m.get n++ [nx v]):=by unfold rV;rw[if_pos h2]
   rw[e1,e2];exact tF S k (some d) w Z db m n v h ok1 (.inl ok2) hl hvl
  ·have e1:jD form=195:=by unfold jD;rw[if_neg h0,if_neg h2]
   have e2:rV form m n v=m.put n [nx v]:=by unfold rV;rw[if_neg h2,if_neg (fun q=>h0 q.1)]
   rw[e1,e2];exact tj S k (some d) w Z db m n v h ok1 (.inl ok2) hl
theorem Jc (w:an)(B:Nat)(S:dG)(mp:am->Option Nat)(k:Nat)(d:MT)(f:ek)(g:GF)(Z:ap)(rb db:Nat)(b:am)(e a z deep:Nat)(kind:Int)(m:PM)(v:Value)
  (I:lR w B S mp k d Z rb db b e a z deep m) (hv:JY w (fun b=>b<B) mp g v) (fg:FG S mp d f g) (h4:g.form≠4) (hb:S.base f.ty<=15) (hff:dv d.fs f.num=some f):
  jO v [aa kind,ag rb,ag db] w (fK S k d w Z rb db (b.extract 0 e) deep (Ad g.form m f.num (eO (b.extract 0 e) z (S.base f.ty)))):=by
 obtain⟨pb,nb,vb,vv,rfl,h1,h2,h3,Od,q1,q2,q3⟩:=hv;refine⟨422,[_,_,_],rfl,enters_of Tryz.func422 (by kernel_rfl) rfl,?_⟩;show Calls Tryz.prog 422 #[aa kind,ag rb,ag db,ag pb,ag nb,ag vb] w _;rw[fg.eq]at h2 Od;rw[fg.base]at Od;obtain⟨Oi,_,_⟩:=jo fg h4 hb;obtain⟨ok1,ok2⟩:=lS hff Oi;have hes:(b.extract 0 e).size=e:=eG I.eb;have hl:=I.wm.len;have hab:=I.az;have hze:=I.ze;have heb:=I.eb;have hbs:=I.bs;have hrb:=I.rB;have Oe:=I.rZ;have N8:=I.hZ;have hrl:rb<w.heap.size:=de.lt I.hr;have Of:dB S (k+1) (some d) w.drew Z db m:=I.hd.keep (fun _ _ _=>rfl);have hr0:dn w.drew rb (b.extract 0 e) z deep:=I.hr;obtain⟨vf,N3,rfl,eg,hV⟩:=FP (Od.keep (w':=w.drew) (fun _ _ _=>rfl)) rb (b.extract 0 e) z deep hr0 (by omega) (by omega) (by omega) (I.cx.u:UOK w.drew) (by have:=I.cx.u1;omega) (by have:=I.cx.u2;omega)
 have HA:Hid (∀(w3:an) (v:LV),dB S (k+1) (some d) w3 Z db m->w.heap.size<=w3.heap.size->Calls Tryz.prog (jD g.form) #[ag db,aa f.num,rN v] w3 (ir S k (some d) w3 Z db (rV g.form m f.num v))):=
  fun w3 v Oj Ok=>Ae S k d g.form w3 Z db m f.num v Oj ok1 ok2 (by omega) (by have:=hl.2.2 f.num;omega) (fun x q=>aC (N8 x q).2 Ok)
 have ep:=xU g.form;have Og:Hid (∀x,Ad g.form m f.num (.ok x)= .ok (rV g.form m f.num x.1,x.2)):=fun _=>rfl
 have Oh:Hid (∀x,Ad g.form m f.num (.error x)= .error x):=fun _=>rfl
 obtain⟨R,hR⟩:∃R,eO (b.extract 0 e) z (S.base f.ty)=R:=⟨_,rfl⟩;rw[hR]at hV⊢;clear hR;generalize jD g.form=pf at*;generalize Ad g.form m f.num=PR at*;unfold yi at h1;have Oa:de w.drew pb #[.func (.func pf) #[] #[]] 480:=h1;have Ob:de w.drew nb #[aa f.num] 3:=h2;have Oc:de w.drew vb #[.func (.func vf) #[] N3.toArray] 478:=h3;go_enter Tryz.func422,Tryz.ntmps422
 go_upto_region 0 with fail
 go_region_held2 (fun W=>W.cell? (ai pb 0)=some (.func (.func pf) #[] #[])/\W.cell? (ai nb 0)=some (aa f.num)/\W.cell? (ai vb 0)=some (.func (.func vf) #[] N3.toArray))
  (first|exact c4|exact c3|exact⟨Oa.cell 0,Ob.cell 0,Oc.cell 0⟩)
  (first
   |(
     refine hV.mono ?_;intro en w3 hq
     rcases hq.part with⟨x,rfl,rfl,N2⟩|⟨x,rfl,rfl,N2,Ol⟩
     ·unfold da;go_wp2;rw[Oh.out];exact⟨rfl,rfl,Z,(dF.of_below (Below.refl _ _).drew).trans (.of_kept N2)⟩
     have c3:w3.cell? (ai pb 0)=some (.func (.func pf) #[] #[])/\w3.cell? (ai nb 0)=some (aa f.num)/\w3.cell? (ai vb 0)=some (.func (.func vf) #[] N3.toArray):=⟨(Oa.kept N2 (by simp;omega)).cell 0,(Ob.kept N2 (by simp;omega)).cell 0,(Oc.kept N2 (by simp;omega)).cell 0⟩)
   |(
     refine(HA.out w3 x.1 (dF.dr Of N2 Oe) N2.size).mono ?_;rintro en w4 ⟨rfl,Z4,N7,Om⟩
     have c4:w4.cell? (ai pb 0)=some (.func (.func pf) #[] #[])/\w4.cell? (ai nb 0)=some (aa f.num)/\w4.cell? (ai vb 0)=some (.func (.func vf) #[] N3.toArray):=⟨((Oa.kept N2 (by simp;omega)).step N7 (fun q=>by have:=(N8 pb q).1;omega)).cell 0,((Ob.kept N2 (by simp;omega)).step N7 (fun q=>by have:=(N8 nb q).1;omega)).cell 0,((Oc.kept N2 (by simp;omega)).step N7 (fun q=>by have:=(N8 vb q).1;omega)).cell 0⟩))
 all_goals
  go_wp2;go_end0;rw[Og.out];exact⟨rfl,Z4,((dF.of_below (Below.refl _ _).drew).trans (.of_kept N2)).trans (.of_step N7),Om,de.step Ol N7 Oe⟩
theorem Kk (w:an)(B:Nat)(S:dG)(mp:am->Option Nat)(k:Nat)(d:MT)(f:ek)(g:GF)(Z:ap)(rb db:Nat)(b:am)(e a z deep:Nat)(m:PM)(v:Value)
  (I:lR w B S mp k d Z rb db b e a z deep m) (hv:IH w (fun b=>b<B) mp g v) (fg:FG S mp d f g) (hf:g.form=2) (hb:S.base f.ty<=15) (hff:dv d.fs f.num=some f):
  jO v [aa (dL (S.base f.ty)),ag rb,ag db] w (fK S k d w Z rb db (b.extract 0 e) deep (Fl m f.num (eO (b.extract 0 e) z (S.base f.ty)))):=by
 obtain⟨pb,nb,vb,vv,rfl,h1,h2,h3,Ob,q1,q2,q3⟩:=hv;refine⟨421,[_,_,_],rfl,enters_of Tryz.func421 (by kernel_rfl) rfl,?_⟩;show Calls Tryz.prog 421 #[aa (dL (S.base f.ty)),ag rb,ag db,ag pb,ag nb,ag vb] w _;rw[fg.eq]at h1 h2 Ob;rw[fg.base]at h1 Ob;obtain⟨Oz,_,_⟩:=jo fg (by omega) hb;obtain⟨ok1,ok2⟩:=lS hff Oz;have OC:(b.extract 0 e).size=e:=eG I.eb;have hl:=I.wm.len;have OP:=I.az;have OQ:=I.ze;have OD:=I.eb;have OR:=I.bs;have OE:=I.rB;have Oh:=I.rZ;have Oc:=I.hZ;have OF:rb<w.heap.size:=de.lt I.hr;have Om:dB S (k+1) (some d) w.drew Z db m:=I.hd.keep (fun _ _ _=>rfl);have hr0:dn w.drew rb (b.extract 0 e) z deep:=I.hr;obtain⟨vf,N2,rfl,eg,hV⟩:=FP (Ob.keep (w':=w.drew) (fun _ _ _=>rfl)) rb (b.extract 0 e) z deep hr0 (by omega) (by omega) (by omega) (I.cx.u:UOK w.drew) (by have:=I.cx.u1;omega) (by have:=I.cx.u2;omega)
 have hA:∀w3:an,∀v:LV,dB S (k+1) (some d) w3 Z db m->Calls Tryz.prog 268 #[ag db,aa f.num,rN v] w3 (ir S k (some d) w3 Z db (m.put f.num (m.get f.num++ [nx v]))):=
  fun w3 v Oq=>tF S k (some d) w3 Z db m f.num v Oq ok1 (.inl ok2) (by omega) (by have:=hl.2.2 f.num;omega)
 obtain⟨R,hR⟩:∃R,eO (b.extract 0 e) z (S.base f.ty)=R:=⟨_,rfl⟩;rw[hR]at hV⊢;clear hR;generalize(dL (S.base f.ty):Int)=al at*;have Od:de w.drew nb #[aa f.num] 3:=h2;have Oe:de w.drew vb #[.func (.func vf) #[] N2.toArray] 478:=h3;obtain⟨k1,k2⟩:=h1.rules;have OG:(al==al)=true:=by simp
 go_enter Tryz.func421,Tryz.ntmps421
 go_upto_region 1 with fail
 go_region_held2 (fun W=>W.cell? (ai nb 0)=some (aa f.num)/\W.cell? (ai vb 0)=some (.func (.func vf) #[] N2.toArray))
  (first|exact c4|exact c3|exact⟨Od.cell 0,Oe.cell 0⟩)
  (first
   |(
     refine hV.mono ?_;intro en w3 hq
     rcases hq.part with⟨x,rfl,rfl,N7⟩|⟨x,rfl,rfl,N7,O6⟩
     ·unfold da;go_wp2;exact⟨rfl,rfl,Z,(dF.of_below (Below.refl _ _).drew).trans (.of_kept N7)⟩
     have c3:w3.cell? (ai nb 0)=some (aa f.num)/\w3.cell? (ai vb 0)=some (.func (.func vf) #[] N2.toArray):=⟨(Od.kept N7 (by simp;omega)).cell 0,(Oe.kept N7 (by simp;omega)).cell 0⟩)
   |(
     go_at_call 268
     refine(hA w3 x.1 (dF.dr Om N7 Oh)).mono ?_;rintro en w4 ⟨rfl,Z4,Ol,Ov⟩
     have c4:w4.cell? (ai nb 0)=some (aa f.num)/\w4.cell? (ai vb 0)=some (.func (.func vf) #[] N2.toArray):=⟨((Od.kept N7 (by simp;omega)).step Ol (fun q=>by have:=(Oc nb q).1;omega)).cell 0,((Oe.kept N7 (by simp;omega)).step Ol (fun q=>by have:=(Oc vb q).1;omega)).cell 0⟩))
 all_goals
  go_wp2;go_end0;exact⟨rfl,Z4,((dF.of_below (Below.refl _ _).drew).trans (.of_kept N7)).trans (.of_step Ol),Ov,de.step O6 Ol Oh⟩
structure Kl (S:dG)(k:Nat)(d:MT)(B:Nat)(w wr:an)(Z Z':ap)(rb nb db y1 y2:Nat)(b s:am)(deep:Nat)(bs:Nat)(m:PM)(n:Int)(a:Nat)(l:List PV)(F:Nat)(P:Fx (List PV)):Prop where
 st:dF w Z rb wr Z'
 rn:dn wr nb (b.extract 0 y2) a deep
 rr:dn wr rb s y2 deep
 dr:dB S (k+1) (some d) wr Z' db (m.put n l)
 lo:y1<=a
 hi:a<=y2
 ll:l.length<=a
 eq:Hid (P=e7 b bs y2 F l a)
 fu:y2-a<=F
 zz:∀x,Z' x->B<=x/\x<wr.heap.size
 zn:¬Z' nb
theorem Km (w:an)(B:Nat)(S:dG)(mp:am->Option Nat)(k:Nat)(d:MT)(f:ek)(g:GF)(Z:ap)(rb db:Nat)(b:am)(e a z deep:Nat)(m:PM)(v:Value)
  (I:lR w B S mp k d Z rb db b e a z deep m) (hv:IH w (fun b=>b<B) mp g v) (fg:FG S mp d f g) (hf:g.form=2) (hb:S.base f.ty<=15) (hw:dL (S.base f.ty)≠2) (hff:dv d.fs f.num=some f):
  jO v [aa 2,ag rb,ag db] w (fK S k d w Z rb db (b.extract 0 e) deep (nD (S.base f.ty) b f.num m (dS (b.extract 0 e) z))):=by
 obtain⟨pb,ub,vb,vv,rfl,h1,h2,h3,Ob,q1,q2,q3⟩:=hv;refine⟨421,[_,_,_],rfl,enters_of Tryz.func421 (by kernel_rfl) rfl,?_⟩;show Calls Tryz.prog 421 #[aa 2,ag rb,ag db,ag pb,ag ub,ag vb] w _;rw[fg.eq]at h1 h2 Ob;rw[fg.base]at h1 Ob;obtain⟨Oz,_,_⟩:=jo fg (by omega) hb;obtain⟨ok1,ok2⟩:=lS hff Oz;have OC:(b.extract 0 e).size=e:=eG I.eb;have hl:=I.wm.len;have OP:=I.az;have OQ:=I.ze;have OD:=I.eb;have OR:=I.bs;have OE:=I.rB;have Oh:=I.rZ;have hu1:=I.cx.u1;have hu2:=I.cx.u2;have Oc:=I.hZ;have OS:=I.cx;have OF:rb<w.heap.size:=de.lt I.hr;have Oo:=lK w rb _ z deep I.hr (by omega);have Oa:=I.hd.srt;have Om:=I.hd;obtain⟨R,hR⟩:∃R,dS (b.extract 0 e) z=R:=⟨_,rfl⟩;rw[hR]at Oo⊢;have HR:Hid (dS (b.extract 0 e) z=R):=hR;clear hR;have hne:((2:Int)==(dL (S.base f.ty):Int))=false:=by simp;omega
 have OT:S.base f.ty≠13:=fun q=>hw (by rw[q];rfl)
 have OU:S.base f.ty≠14:=fun q=>hw (by rw[q];rfl)
 generalize(dL (S.base f.ty):Int)=al at*
 obtain⟨vf,N2,rfl⟩:∃vf N2,vv= .func (.func vf) #[] N2:=by
  rcases Ob with⟨_,rfl⟩|⟨_,rfl⟩|⟨_,_,_,rfl,_⟩
  ·exact⟨_,_,rfl⟩
  ·exact⟨_,_,rfl⟩
  ·exact⟨_,_,rfl⟩
 obtain⟨k1,k2⟩:=h1.rules;have OV:=I.cx.le;clear I;go_enter Tryz.func421,Tryz.ntmps421
 go_wp2_with fail
 refine Oo.mono ?_;intro en w3 hq
 rcases hq.part with⟨x,rfl,rfl,N7⟩|⟨y,nb,rfl,rfl,N7,O7,O8,Oj,OA⟩
 ·unfold da;go_wp2;exact⟨rfl,rfl,Z,.of_kept N7⟩
 clear k1 k2 Oo;obtain⟨y1,y2⟩:=y;obtain⟨v0,v1,v2⟩:=gq HR.out;rw[OC]at v2;have OG:(b.extract 0 e).extract 0 y2=b.extract 0 y2:=iE OD v2;simp only[OG]at Oj;have OH:(b.extract 0 y2).size=y2:=eG (by omega);have Oq:=dF.dr Om N7 Oh
 have P0:Kl S k d B w w3 Z Z rb nb db y1 y2 b (b.extract 0 e) deep (S.base f.ty) m f.num y1 (m.get f.num) (y2-y1) (e7 b (S.base f.ty) y2 (y2-y1) (m.get f.num) y1):=
  ⟨.of_kept N7,Oj,OA,by rw[Cn Oa.1 Oa.2];exact Oq,ay _,v1,by have:=hl.2.2 f.num;omega,rfl,ay _,fun x q=>⟨(Oc x q).1,aC (Oc x q).2 N7.size⟩,fun q=>by have:=(Oc nb q).2;omega⟩
 obtain⟨P,hP⟩:∃P,e7 b (S.base f.ty) y2 (y2-y1) (m.get f.num) y1=P:=⟨_,rfl⟩
 have HQ:Hid (nD (S.base f.ty) b f.num m (.ok (y1,y2))=Fm m f.num y2 P):=by
  show Fm m f.num y2 (e7 b (S.base f.ty) y2 (y2-y1) (m.get f.num) y1)=_;rw[hP]
 rw[hP]at P0;clear hP;go_wp2;go_loopw [21] (fun _ wr=>∃Z' a' l F',Kl S k d B w wr Z Z' rb nb db y1 y2 b (b.extract 0 e) deep (S.base f.ty) m f.num a' l F' P) (fun _ wr=>jM wr nb y2)
 case atStart=>exact⟨Z,y1,_,_,P0⟩
 case round=>
  obtain⟨Z',a',l,F',O⟩:=hrel;have hM:=ph wr nb _ a' deep O.rn;rw[OH]at hM;have hlo:=O.lo;have hhi:=O.hi;have hll:=O.ll;go_wp2_with fail
  refine hM.mono ?_;rintro en w4 ⟨rfl,q,rfl⟩
  by_cases hlt:a'<y2
  ·have hd:decide (a'<y2)=true:=decide_eq_true hlt;obtain⟨F2,rfl⟩:∃F2,F'=F2+1:=⟨F'-1,by have:=O.fu;omega⟩;have Ok:Below B w wr:=O.st.below OV (fun x q=>(Oc x q).1) OE;have Of:Below B w (wr.drewN q).drew:=(gC Ok q).drew;have hu:UOK (wr.drewN q).drew:=(OS.on Ok).u;have OW:dn (wr.drewN q).drew nb (b.extract 0 y2) a' deep:=O.rn;have OI:=O7;obtain⟨Pa,N3,ON,eg,hV⟩:=FP (Ob.keep (w':=(wr.drewN q).drew) (fun x h _=>Of.block x h)) nb (b.extract 0 y2) a' deep OW (by omega) (by omega) (by omega) hu (by omega) (by omega);obtain⟨rfl,rfl⟩:vf=Pa/\N2=N3.toArray:=by injection ON with e1 _ e3;injection e1 with e1;exact⟨e1,e3⟩
   clear ON
   have Ot:eO (b.extract 0 y2) a' (S.base f.ty)=match eX (b.extract 0 y2) a' (S.base f.ty)with| .error x=> .error x| .ok x=> .ok ((x.1,⟨#[]⟩),x.2):=by
    unfold eO;rw[if_neg OT,if_neg OU]
    all_goals (cases eX (b.extract 0 y2) a' (S.base f.ty)<;>rfl)
   have Ou:=vH (k:=S.base f.ty) (F:=F2) (l:=l) (show y2<=b.size by omega) hlt
   have Oi:Hid (∀x,eO (b.extract 0 y2) a' (S.base f.ty)= .error x->nD (S.base f.ty) b f.num m (.ok (y1,y2))= .error x):=fun x hx=>by
    rw[HQ.out,O.eq.out,Ou];rw[Ot]at hx
    cases hn:eX (b.extract 0 y2) a' (S.base f.ty)with
    |error y=>rw[hn]at hx;cases hx;rfl
    |ok y=>rw[hn]at hx;cases hx
   have OJ:Hid (∀x,eO (b.extract 0 y2) a' (S.base f.ty)= .ok x->P=e7 b (S.base f.ty) y2 F2 (l++ [nx x.1]) x.2):=fun x hx=>by
    rw[O.eq.out,Ou];rw[Ot]at hx
    cases hn:eX (b.extract 0 y2) a' (S.base f.ty)with
    |error y=>rw[hn]at hx;cases hx
    |ok y=>rw[hn]at hx;cases hx;rfl
   clear Ot Ou;have Ov:dB S (k+1) (some d) (wr.drewN q).drew Z' db (m.put f.num l):=O.dr.keep (fun _ _ _=>rfl)
   have hA:∀w5:an,∀v:LV,dB S (k+1) (some d) w5 Z' db (m.put f.num l)->Calls Tryz.prog 268 #[ag db,aa f.num,rN v] w5 (ir S k (some d) w5 Z' db (m.put f.num (l++ [nx v]))):=fun w5 v Pb=>by
    have h1:=PM.put_len m f.num l;have h2:=zj Oa.1 f.num l;have:=tF S k (some d) w5 Z' db (m.put f.num l) f.num v Pb ok1 (.inl ok2) (by omega) (by rw[h2];omega);rw[h2,Cm Oa.1]at this;exact this
   obtain⟨Rv,OB⟩:∃Rv,eO (b.extract 0 y2) a' (S.base f.ty)=Rv:=⟨_,rfl⟩
   have OX:Hid (∀x,Rv= .ok x->a'<x.2/\x.2<=y2):=fun x hx=>by
    have:=zh hb (OB.trans hx);rw[OH]at this;exact⟨this.1,this.2.1⟩
   rw[OB]at hV Oi OJ;clear OB;have Od:de (wr.drewN q).drew ub #[aa f.num] 3:=h2.below Of (by omega);have Oe:de (wr.drewN q).drew vb #[.func (.func vf) #[] N3.toArray] 478:=h3.below Of (by omega);have OY:dn (wr.drewN q).drew rb (b.extract 0 e) y2 deep:=O.rr;have OL:dF w Z rb (wr.drewN q).drew Z':=O.st.trans (.of_below (gC (Below.refl _ _) q).drew);have Ow:=O.zn;have Ox:=O.zz;have OZ:¬Z' rb:=O.st.not OF Oh;have HM:Hid (jM wr nb y2=y2-a'):=fO O.rn;have O1:Hid (y2-a'<=F2+1):=O.fu;have O2:Below B w wr:=Ok;clear O hM Ok;go_upto_region 4 with fail
   go_region_held2 (fun W=>W.cell? (ai ub 0)=some (aa f.num)/\W.cell? (ai vb 0)=some (.func (.func vf) #[] N3.toArray))
    (first|exact c6|exact c5|exact⟨Od.cell 0,Oe.cell 0⟩)
    (first
     |(
       refine hV.mono ?_;intro en w5 Pc
       rcases Pc.part with⟨x,rfl,rfl,N8⟩|⟨x,rfl,rfl,N8,OO⟩
       ·unfold da;go_wp2;rw[Oi.out x rfl];exact⟨rfl,rfl,Z',OL.keptN N8 OI⟩
       have c5:w5.cell? (ai ub 0)=some (aa f.num)/\w5.cell? (ai vb 0)=some (.func (.func vf) #[] N3.toArray):=⟨(Od.kept N8 (by simp;omega)).cell 0,(Oe.kept N8 (by simp;omega)).cell 0⟩)
     |(
       go_at_call 268
       refine(hA w5 x.1 (dF.dr Ov N8 Ow)).mono ?_;rintro en w6 ⟨rfl,Z6,Og,Pd⟩
       have c6:w6.cell? (ai ub 0)=some (aa f.num)/\w6.cell? (ai vb 0)=some (.func (.func vf) #[] N3.toArray):=⟨((Od.kept N8 (by simp;omega)).step Og (fun q=>by have:=(Ox ub q).1;omega)).cell 0,((Oe.kept N8 (by simp;omega)).step Og (fun q=>by have:=(Ox vb q).1;omega)).cell 0⟩))
   all_goals
    have O3:=OX.out x rfl;have OM:dn w6 nb (b.extract 0 y2) x.2 deep:=de.step OO Og Ow;have O4:=(OL.keptN N8 OI).trans (.of_step Og);have O5:dn w6 rb (b.extract 0 e) y2 deep:=de.step (de.kept OY N8 (by simp;exact fun e=>O8 e.symm)) Og OZ;have Oy:nb<w5.heap.size:=de.lt OO
    have PN:Kl S k d B w w6 Z (fun i=>Z6 i/\i<w6.heap.size) rb nb db y1 y2 b (b.extract 0 e) deep (S.base f.ty) m f.num x.2 (l++ [nx x.1]) F2 P:=
     ⟨O4.clip,OM,O5,Pd.clip,by omega,O3.2,by simp;omega,OJ.out x rfl,by have:=O1.out;omega,fun i q=>⟨(Og.grow i q.1).elim (fun e=>(Ox i e).1) (fun e=>by have h8:wr.heap.size<=w5.heap.size:=N8.size;have:=O2.size;omega),q.2⟩,fun q=>Og.not Oy Ow q.1⟩
    go_wp2;go_roundw
    case rel=>exact⟨_,_,_,_,PN⟩
    case measure=>rw[HM.out,fO OM];omega
  ·have hd:decide (a'<y2)=false:=decide_eq_false hlt
   have HE:Hid (nD (S.base f.ty) b f.num m (.ok (y1,y2))= .ok (m.put f.num l,y2)):=by
    show _=_;rw[HQ.out,O.eq.out]
    have:e7 b (S.base f.ty) y2 F' l a'= .ok l:=by
     cases F' with
     |zero=>rfl
     |succ F'=>rw[e7,if_neg hlt]
    rw[this];rfl
   go_wp2;go_end0;rw[HE.out];exact⟨rfl,Z',O.st.trans (.of_below (gC (Below.refl _ _) q)),O.dr.keep (fun _ _ _=>rfl),O.rr⟩
end
end Go.Proofs.YtfebdimolnobaaaGreatDoor
