import Derived.Test.YtfebdimolnobaaaGreatDoorPlS
import Derived.Test.YtfebdimolnobaaaGreatDoorPxF
import Derived.Test.YtfebdimolnobaaaGreatDoorPlK
import Derived.Conc.MuLone
set_option maxRecDepth 100000
set_option maxHeartbeats 8000000
set_option linter.all false
namespace Go.Proofs.YtfebdimolnobaaaGreatDoor
open Go.RowKit Go.Proofs.Tryz
end Go.Proofs.YtfebdimolnobaaaGreatDoor
namespace Go.Proofs
abbrev Tryz.muLink:Go.Conc.Locks.MuLink:={lock:=86,unlock:=87,ilock:=138,iunlock:=139,lockSlow:=203,unlockSlow:=206,disable:=199,enable:=201,acquire:=202,relMerge:=204,cas32:=200,add32:=205,tMutex:=168,tIMutex:=166,tPMutex:=251,tPIMutex:=318,tPI32:=320,tUP:=322,tNoCopy:=163,tU32:=164}
theorem Tryz.muLib:Go.Conc.Locks.MuLib Tryz.prog Tryz.muLink:=
 ⟨Tryz.func86,Tryz.func87,Tryz.func138,Tryz.func139,Tryz.func199,Tryz.func201,Tryz.func202,Tryz.func204,Tryz.func200,Tryz.func205,Tryz.underlying166,Tryz.runUnderlying166,Tryz.sizeOf166,Tryz.isAgg166,Tryz.zeroValue166,Tryz.underlying168,Tryz.runUnderlying168,Tryz.sizeOf168,Tryz.isAgg168,Tryz.zeroValue168,Tryz.underlying251,Tryz.runUnderlying251,Tryz.sizeOf251,Tryz.isAgg251,Tryz.zeroValue251,Tryz.underlying318,Tryz.runUnderlying318,Tryz.sizeOf318,Tryz.isAgg318,Tryz.zeroValue318,Tryz.underlying320,Tryz.runUnderlying320,Tryz.sizeOf320,Tryz.isAgg320,Tryz.zeroValue320,Tryz.underlying322,Tryz.runUnderlying322,Tryz.sizeOf322,Tryz.isAgg322,Tryz.zeroValue322,Tryz.underlying163,Tryz.runUnderlying163,Tryz.sizeOf163,Tryz.isAgg163,Tryz.zeroValue163,Tryz.underlying21,Tryz.runUnderlying21,Tryz.sizeOf21,Tryz.isAgg21,Tryz.zeroValue21,(by kernel_rfl)⟩
end Go.Proofs
namespace Go.Proofs.YtfebdimolnobaaaGreatDoor
open Go.RowKit Go.Maps
open Vo
section
variable {kp mk:Nat} {mu mu':Int} {S:eD} {mp:an} {w:aw} {N:Nat} {pm:an} {U:aB} {X:ax}
theorem vI.mutex (h:vI kp mk mu S mp w N pm U X)(hU:kp∉U):vI kp mk mu' S mp (w.setCell (aj kp 0) (.int .i32 mu')) N pm U X:=by
 have hk:∀b,b≠kp->(w.setCell (aj kp 0) (.int .i32 mu')).heap[b]?=w.heap[b]?:=fun b hb=>er (fun e=>hb e.sy)
 refine⟨by simpa using h.kb.set 0 (.int .i32 mu'),h.mb.O (hk _ h.ne),h.ne,h.ct,h.inj,fun t p hp=> ?_⟩;rcases h.pl t p hp with⟨q1,q2,q3⟩|⟨d,gs,q1,q2,q3⟩;.exact .inl ⟨q1,(hk p (fun e=>hU (e▸q1))).J q2,q3⟩
 .exact .inr ⟨d,gs,q1,q2,q3.O (fun b q _=>hk b q.2.1) (fun _ _ q=>q)⟩
end
section
variable (kp mk W0:Nat) (S:eD) (mp:an) (P:ax)
theorem SG (MK:qB)(w:aw)(N:Nat)(pm:an)(mb:Nat)(d:MT)(gs:List GF)(X:ax)(I:Cq kp mk W0 0 S mp P w N pm [] X)(hd:S.msg d.name=some d)(hM:jh w P mp mb d.name gs)(hG:lH S mp d gs)(hsz:d.name.size<=2000):
  U8 48 #[ah kp,ah mb] w fun e w'=>∃p N' Vp,e= .returned (ah p)/\Vp d.name=some p/\vI kp mk 0 S mp w' N' Vp [] X/\(∀t p,pm t=some p->Vp t=some p)/\ec [mk,kp] w w':=by
 have Vq:=I.ok.kb;have ok1:=I.ok.mutex (mu':=1) (by simp)
 have I1:Cq kp mk W0 1 S mp P (w.setCell (aj kp 0) (.int .i32 1)) N pm [] X:=
  ⟨ok1,I.md.O fun b hb _=>er (fun e=>(I.hp b hb).2.2 e.sy),by simpa using I.w0,by simp,I.xx,fun b hb=>I.xn b (by simpa using hb),I.hp,I.kl,I.ml⟩
 have hC:=O4 kp mk W0 1 S mp P MK (ow S pm) (w.setCell (aj kp 0) (.int .i32 1)) N pm [] X mb d gs I1 (aE _) hd (hM.O fun b hb _=>er (fun e=>(I.hp b hb).2.2 e.sy)) hG hsz;have hL:=Go.MuLone.lock_free Tryz.muLib (aj kp 0) w (Vq.cell 0) (Vq.I.2 0);have⟨k1,k2⟩:=Vq.I;have Vr:=ok1.kb;go_enter_defers Tryz.func48,Tryz.ntmps48
 go_wp2_with fail;refine hL.V ?_;rintro e w1 ⟨rfl,rfl⟩;have⟨k3,k4⟩:=Vr.I;clear k1 k2 hL;have hkl:=Vr.lt;go_wp2_with fail;have Nk:ec [mk,kp] w (w.setCell (aj kp 0) (.int .i32 1)):=(ec.refl _ _).set1 (by simp) 0 _;generalize w.setCell (aj kp 0) (.int .i32 1)=w1 at*;refine hC.V ?_;rintro e w2 ⟨v,N',Vp,rfl,⟨p,rfl,hp⟩,ok2,hx,rD⟩;have Vs:=ok2.kb;clear k3 k4;have⟨k5,k6⟩:=Vs.I;go_wp2;refine leaves_cons (f:=87) (args:= #[ah kp]) (by simp) (by simp[go_sem]) ?_;refine(Go.MuLone.unlock_deferred Tryz.muLib (aj kp 0) .returning w2 (k5 0) (k6 0)).V ?_;rintro e u' w'' ⟨rfl,rfl,rfl⟩;simp[Leaves,settle];refine⟨ah p,by simp[results,Tryz.results48],p,rfl,⟨N',Vp,hp,ok2.mutex (by simp),hx,?_⟩⟩;exact(Nk.J (rD.V (by simp))).set1 (by simp) 0 _
end
end Go.Proofs.YtfebdimolnobaaaGreatDoor
namespace Go.Proofs.YtfebdimolnobaaaGreatDoor
open Go.RowKit Go.Proofs.Tryz
section
open Go.Maps
open Vo
section
variable {ks:aB} {K:(ax)->aw->Prop} {B:Nat}
def qC (E B:Nat)(K:aw->Prop):Prop:=∀a b:aw,K a->a.heap.size<=b.heap.size->(∀x,(x<E\/B<=x)->x<a.heap.size->b.heap[x]?=a.heap[x]?)->K b
def rk (ks:aB)(K:(ax)->aw->Prop)(w:aw)(R:Fx PM)(e:Ending)(w':aw):Prop:=
 match R with
 | .error x=>e=dY x.1 x.2/\ec ks w w'/\K (λ_=>False) w'
 | .ok m=>∃v Z',e= .returned (.agg #[v,ag m.unk])/\qw 9 w' v m Z'/\(∀b,Z' b->w.heap.size<=b/\b<w'.heap.size)/\ec ks w w'/\K Z' w'
def lP (ks:aB)(K:(ax)->aw->Prop)(w:aw)(R:Fx PM)(e:Ending)(w':aw):Prop:=
 match R with
 | .error x=>e= .returned (.tuple #[.agg #[ai,U7],aa x.1,aa x.2])/\ec ks w w'/\K (λ_=>False) w'
 | .ok m=>∃v Z',e= .returned (.tuple #[.agg #[v,ag m.unk],aa 0,aa 0])/\qw 9 w' v m Z'/\(∀b,Z' b->w.heap.size<=b/\b<w'.heap.size)/\ec ks w w'/\K Z' w'
theorem Jr {E:Nat}(hks:∀x∈ks,x<E)(hK:∀Z,qC E B (K Z))(R:Fx PM)(w:aw)(hE:E<=w.heap.size)(hB:w.heap.size+3<=B)(c0 c1 c2 c3:Value)(h:∀w0,ak w w0->w0.heap.size=w.heap.size+3->U8 46 #[c0,c1,c2,c3] w0 (rk ks K w0 R)):
  U8 45 #[.func (Fn.func 46) #[] #[c0,c1,c2,c3]] w (lP ks K w R):=by
 have VG:= @wo;have B1:=(Va w).alloc (aE _) (am #[ai,U7] 49);have B0:=(B1.alloc Vd (am #[aa 0] 24)).alloc Ve (am #[aa 0] 3);have KM:=((dX.new w #[ai,U7] 49).alloc (am #[aa 0] 24)).alloc (am #[aa 0] 3);have K0:=(dX.newAt (w:=w.alloc (am #[ai,U7] 49)) (n:=w.heap.size+1) Vd #[aa 0] 24).alloc (am #[aa 0] 3);have K1:=dX.newAt (w:=(w.alloc (am #[ai,U7] 49)).alloc (am #[aa 0] 24)) (n:=w.heap.size+1+1) Vd #[aa 0] 3;have HC:Hid (U8 46 #[c0,c1,c2,c3] _ (rk ks K _ R)):=h _ B0 Vd;have hsz:w.heap.size+3<=(((w.alloc (am #[ai,U7] 49)).alloc (am #[aa 0] 24)).alloc (am #[aa 0] 3)).heap.size:=Vd;clear B1 h;go_enter_defers func45,ntmps45
 go_wp2_with fail;generalize(((w.alloc (am #[ai,U7] 49)).alloc (am #[aa 0] 24)).alloc (am #[aa 0] 3))=w1 at*;refine HC.o.V ?_
 cases R with
 |error x=>
  rintro e w2 ⟨rfl,Vq,Vu⟩;have K2:=K0.kept Vq (λq=>by grind);have K3:=K1.kept Vq (λq=>by grind);have Vx:=KM.kept Vq (λq=>by grind);have C2:=(ec.oB (bs:=ks) B0).J Vq;have⟨k1,k2⟩:=K2.I;have⟨k3,k4⟩:=K3.I;have z3:=K3.lt;unfold dY;refine leaves_cons (f:=82) (args:= #[ah (w.heap.size+1),ah (w.heap.size+1+1)]) Vd Vi ?_;refine(I8 (w.heap.size+1) (w.heap.size+1+1) x.1 x.2 [] w2 _ _ (k1 0) (k3 0) (k2 0) (k4 0) Vc).V ?_;rintro e u' VM ⟨rfl,rfl,rfl⟩;have q0:=(((K2.set 0 (aa x.1)).other (c:=w.heap.size+1+1) 0 (aa x.2) Vc).alloc (am #[aa x.1,aa x.2] 142)).drew;have q1:=(((K3.other (c:=w.heap.size+1) 0 (aa x.1) Vc).set 0 (aa x.2)).alloc (am #[aa x.1,aa x.2] 142)).drew;have q2:=(((Vx.other (c:=w.heap.size+1) 0 (aa x.1) Vc).other (c:=w.heap.size+1+1) 0 (aa x.2) Vc).alloc (am #[aa x.1,aa x.2] 142)).drew;have C3:ec ks w (((w2.setCell (aj (w.heap.size+1) 0) (aa x.1)).setCell (aj (w.heap.size+1+1) 0) (aa x.2)).alloc (am #[aa x.1,aa x.2] 142)).drew:=(((C2.freshP (bG _) 0 _).freshP Vc 0 _).alloc _).drew;have H3:K (λ_=>False) (((w2.setCell (aj (w.heap.size+1) 0) (aa x.1)).setCell (aj (w.heap.size+1+1) 0) (aa x.2)).alloc (am #[aa x.1,aa x.2] 142)).drew:=hK _ w2 _ Vu Vd λy hy hl=>(Below.l _ _ y (by simpa using hl)).J ((er Vc).J (er Vc))
  generalize(((w2.setCell (aj (w.heap.size+1) 0) (aa x.1)).setCell (aj (w.heap.size+1+1) 0) (aa x.2)).alloc (am #[aa x.1,aa x.2] 142)).drew=w3 at*;have r0:=q0.cell 0;have r1:=q1.cell 0;have l0:(loadVar 24 (aj (w.heap.size+1) 0)).run prog w3= .ok (aa x.1) w3:=by simp[go_sem,r0]
  have l1:(loadVar 3 (aj (w.heap.size+1+1) 0)).run prog w3= .ok (aa x.2) w3:=by simp[go_sem,r1]
  have Vs:=λtmps hp hq hr=>AJ (fn:=f45) results45 tmps w3 hp hq hr q2 underlying49 Vi l0 l1
  simp[Leaves,settle]
  exact⟨_,Vs _ rfl rfl rfl,rfl,C3,H3⟩
 |ok m=>
  rintro e w2 ⟨v,Z',rfl,hm,hZ,Vq,Vu⟩;obtain⟨va,vc,rfl⟩:=hm.form;have K2:=K0.kept Vq (λq=>by grind);have K3:=K1.kept Vq (λq=>by grind);have Vx:=KM.kept Vq (λq=>by grind);have C2:=(ec.oB (bs:=ks) B0).J Vq;have⟨k1,k2⟩:=K2.I;have⟨k3,k4⟩:=K3.I;have⟨k5,k6⟩:=Vx.I;have z3:=K3.lt;go_wp2;refine leaves_cons (f:=82) (args:= #[ah (w.heap.size+1),ah (w.heap.size+1+1)]) Vd Vi ?_;refine(OJ (aj (w.heap.size+1) 0) (aj (w.heap.size+1+1) 0) _).V ?_;rintro e u' VM ⟨rfl,rfl,rfl⟩;have q0:=(((K2.other (c:=w.heap.size) 0 (.slice va m.fs.length vc) Vc).other (c:=w.heap.size) 1 (ag m.unk) Vc).set 0 (aa 0)).other (c:=w.heap.size+1+1) 0 (aa 0) Vc;have q1:=(((K3.other (c:=w.heap.size) 0 (.slice va m.fs.length vc) Vc).other (c:=w.heap.size) 1 (ag m.unk) Vc).other (c:=w.heap.size+1) 0 (aa 0) Vc).set 0 (aa 0);have q2:=(((Vx.set 0 (.slice va m.fs.length vc)).set 1 (ag m.unk)).other (c:=w.heap.size+1) 0 (aa 0) Vc).other (c:=w.heap.size+1+1) 0 (aa 0) Vc;have C3:ec ks w ((((w2.setCell (aj w.heap.size 0) (.slice va m.fs.length vc)).setCell (aj w.heap.size 1) (ag m.unk)).setCell (aj (w.heap.size+1) 0) (aa 0)).setCell (aj (w.heap.size+1+1) 0) (aa 0)):=(((C2.freshP (aE _) 0 _).freshP (aE _) 1 _).freshP (bG _) 0 _).freshP Vc 0 _;have H3:K Z' ((((w2.setCell (aj w.heap.size 0) (.slice va m.fs.length vc)).setCell (aj w.heap.size 1) (ag m.unk)).setCell (aj (w.heap.size+1) 0) (aa 0)).setCell (aj (w.heap.size+1+1) 0) (aa 0)):=hK _ w2 _ Vu Vd λy hy _=>(er Vc).J ((er Vc).J ((er Vc).J (er Vc)))
  have Vv:=hm.O (w':=((((w2.setCell (aj w.heap.size 0) (.slice va m.fs.length vc)).setCell (aj w.heap.size 1) (ag m.unk)).setCell (aj (w.heap.size+1) 0) (aa 0)).setCell (aj (w.heap.size+1+1) 0) (aa 0))) (λx hx _=>by
   have:=(hZ x hx).1
   rw[dW,dO Vc,dW,dO Vc,dW,dO Vc,dW,dO Vc])
  have VH:∀x,Z' x->w.heap.size<=x/\x<((((w2.setCell (aj w.heap.size 0) (.slice va m.fs.length vc)).setCell (aj w.heap.size 1) (ag m.unk)).setCell (aj (w.heap.size+1) 0) (aa 0)).setCell (aj (w.heap.size+1+1) 0) (aa 0)).heap.size:=λx hx=>⟨by grind,by simp only[cD];grind⟩
  generalize((((w2.setCell (aj w.heap.size 0) (.slice va m.fs.length vc)).setCell (aj w.heap.size 1) (ag m.unk)).setCell (aj (w.heap.size+1) 0) (aa 0)).setCell (aj (w.heap.size+1+1) 0) (aa 0))=w3 at*;have r0:=q0.cell 0;have r1:=q1.cell 0;have l0:(loadVar 24 (aj (w.heap.size+1) 0)).run prog w3= .ok (aa 0) w3:=by simp[go_sem,r0]
  have l1:(loadVar 3 (aj (w.heap.size+1+1) 0)).run prog w3= .ok (aa 0) w3:=by simp[go_sem,r1]
  have Vs:=λtmps hp hq hr=>AJ (fn:=f45) results45 tmps w3 hp hq hr q2 underlying49 Vi l0 l1
  simp[Leaves,settle];exact⟨_,Vs _ rfl rfl rfl,_,Z',rfl,Vv,VH,C3,H3⟩
theorem AX (R:Fx PM)(w:aw)(hks:∀x∈ks,x<w.heap.size)(hK:∀Z,qC w.heap.size B (K Z))(hB:w.heap.size+9=B)(hk0:K (λ_=>False) w)(sb:Nat)(v kv:Value)(bs:List d7)(y:List YM)(P:ax)(nm b:au)(way:Int)(h1:dX w sb #[v,kv] 92)(hM:fU w P v bs y)(hl:y.length<=2001)(hw:way=1\/way=2)
  (hR:(∀m∈y,(m.1.1.toList==nm.toList)=false)->R= .error (5,0))
  (h:∀(i:Nat) (m:YM) (w0:aw) (q0 q1 q2 q3:Nat),y[i]?=some m->(m.1.1.toList==nm.toList)=true->ak w w0->w0.heap.size+1=B->w.heap.size<=q0/\w.heap.size<=q1/\w.heap.size<=q2/\w.heap.size<=q3->w0.cell? (aj q0 0)=some (aa way)->w0.cell? (aj q1 0)=some (ah m.1.2)->w0.cell? (aj q2 0)=some (ag b)->w0.cell? (aj q3 0)=some (ah sb)->
   U8 46 #[ah q0,ah q1,ah q2,ah q3] w0 (rk ks K w0 R)):
  Calls prog 21 #[ah sb,aa way,ag nm,ag b] w (lP ks K w R):=by
 have VG:= @wo;have VI:∃w0,(((w.alloc (am #[ah sb] 22)).alloc (am #[aa way] 3)).alloc (am #[ag b] 9)).alloc (am #[ai,U7] 49)=w0:=⟨_,rfl⟩;obtain⟨w0,Vt⟩:=VI;have B0:ak w w0:=by rw[<-Vt];exact((((Below.refl _ _).alloc (aE _) _).alloc Vd _).alloc Ve _).alloc Ve _
 have KS:dX w0 w.heap.size #[ah sb] 22:=by rw[<-Vt];exact(((dX.new w _ _).alloc _).alloc _).alloc _
 have KY:dX w0 (w.heap.size+1) #[aa way] 3:=by rw[<-Vt];exact((dX.newAt Vd _ _).alloc _).alloc _
 have KB:dX w0 (w.heap.size+1+1) #[ag b] 9:=by rw[<-Vt];exact(dX.newAt Vd _ _).alloc _
 have KM:dX w0 (w.heap.size+1+1+1) #[ai,U7] 49:=by rw[<-Vt];exact dX.newAt Vd _ _
 have VD:=Ee w0 sb v kv bs y P nm way (h1.G B0 h1.lt) (hM.O λx _ hl=>B0.block x hl) hl hw;have⟨s1,s2⟩:=KS.I;have⟨s3,s4⟩:=KY.I;have⟨s5,s6⟩:=KB.I;have⟨s7,s8⟩:=KM.I;go_in
 go_wp2_with fail;refine VD.V ?_;have VA:Hid (w0.heap.size=w.heap.size+4):=by show _=_;rw[<-Vt];simp
 clear VD Vt;rintro e w1 ⟨rfl,⟨i,m,hi,hn,rfl⟩|⟨VF,rfl⟩⟩
 .have B1:ak w1 (w1.alloc (am #[ah m.1.2] 105)):=(Below.refl _ _).alloc (aE _) _;have KP:=dX.new w1 #[ah m.1.2] 105
  have HC:Hid (∀w0,Below (w1.alloc (am #[ah m.1.2] 105)).heap.size (w1.alloc (am #[ah m.1.2] 105)) w0->w0.heap.size=(w1.alloc (am #[ah m.1.2] 105)).heap.size+3->U8 46 #[ah (w.heap.size+1),ah w1.heap.size,ah (w.heap.size+1+1),ah w.heap.size] w0 (rk ks K w0 R)):=λw0 hb hsz=>by
   have Vy:=dU B1 hb;have hs1:=VA.o;simp only[ci]at hsz;exact h i m w0 _ _ _ _ hi hn (dU B0 Vy) Vc ⟨Vc,Vc,Vc,aE _⟩ ((KY.G Vy KY.lt).cell 0) ((KP.G hb KP.lt).cell 0) ((KB.G Vy KB.lt).cell 0) ((KS.G Vy KS.lt).cell 0)
  have HK:=Jr hks hK R (w1.alloc (am #[ah m.1.2] 105)) (by have:=VA.o;simp;omega) (by have:=VA.o;simp;omega) _ _ _ _ HC.o;clear h hi hn HC;go_wp2_with fail;have Vw:=KM.alloc (am #[ah m.1.2] 105);have B2:ak w (w1.alloc (am #[ah m.1.2] 105)):=dU B0 B1;have zM:=KM.lt;have z2:=B1.size;clear s1 s2 s3 s4 s5 s6 s7 s8 KS KY KB KM KP B1;generalize w1.alloc (am #[ah m.1.2] 105)=w2 at*;refine HK.V ?_;clear HK hR
  cases R with
  |error x=>
   rintro e w3 ⟨rfl,Vp,VB⟩;have Vr:=Vw.kept Vp (λq=>by grind);have C3:=(ec.oB (bs:=ks) B2).J Vp;have⟨s7,s8⟩:=Vr.I;go_wp2
   exact dR (uI results21 _ _ rfl ((Vr.set 0 _).set 1 _) underlying49 Vi) rfl ⟨rfl,(C3.freshP Vc 0 _).freshP Vc 1 _,hK _ w3 _ VB Vd λy hy _=>(er Vc).J (er Vc)⟩
  |ok m'=>
   rintro e w3 ⟨v',Z',rfl,hm,hZ,Vp,VB⟩;obtain⟨va,vc,rfl⟩:=hm.form;have Vr:=Vw.kept Vp (λq=>by grind);have C3:=(ec.oB (bs:=ks) B2).J Vp;have⟨s7,s8⟩:=Vr.I;go_wp2
   have Vv:=hm.O (w':=(w3.setCell (aj (w.heap.size+1+1+1) 0) (.slice va m'.fs.length vc)).setCell (aj (w.heap.size+1+1+1) 1) (ag m'.unk)) (λx hx _=>by
    have:=(hZ x hx).1
    rw[dW,dO Vc,dW,dO Vc])
   exact dR (uI results21 _ _ rfl ((Vr.set 0 _).set 1 _) underlying49 Vi) rfl ⟨_,Z',rfl,Vv,λx hx=>⟨by grind,by simp only[cD];grind⟩,
    (C3.freshP Vc 0 _).freshP Vc 1 _,hK _ w3 _ VB Vd λy hy _=>(er Vc).J (er Vc)⟩
 .obtain rfl:=hR VF;have Vw:=KM.alloc (am #[.pointer none] 105);have B2:=B0.alloc B0.size (am #[.pointer none] 105);clear h hR VF;have⟨r7,r8⟩:=Vw.I;go_wp2;exact dR (uI results21 _ _ rfl ((Vw.set 0 _).set 1 _) underlying49 Vi) rfl ⟨rfl,((ec.oB (bs:=ks) B2).freshP Vc 0 _).freshP Vc 1 _,hK _ w _ hk0 (by have:=B2.size;simp at this⊢;omega) λy hy hl=>(er Vc).J ((er Vc).J (B2.block y hl))⟩
theorem mD.part {w:aw}{R:Fx PM}{e:Ending}{w':aw}(h:mD w R e w'):(∃x,R= .error x/\e=dY x.1 x.2/\ak w w')\/∃m v Z',R= .ok m/\e= .returned (.agg #[v,ag m.unk])/\qw 9 w' v m Z'/\(∀b,Z' b->w.heap.size<=b/\b<w'.heap.size)/\ak w w':=by
 cases R with
 |error x=>exact .inl ⟨x,rfl,h.1,h.2⟩
 |ok m=>
  obtain⟨v,Z',h⟩:=h;grind
theorem Q5 {E:Nat}(hks:∀x∈ks,x<E)(hK:∀Z,qC E B (K Z))(R:Fx PM)(w:aw)(hE:E<=w.heap.size)(hB:w.heap.size+1=B)(q0 q1 q2 q3 mb sb kp:Nat)(v:Value)(b:au)(hc0:w.cell? (aj q0 0)=some (aa 2))(hc1:w.cell? (aj q1 0)=some (ah mb))(hc2:w.cell? (aj q2 0)=some (ag b))(hc3:w.cell? (aj q3 0)=some (ah sb))(hs:dX w sb #[v,ah kp] 92)
  (hq:q0∉ks/\q1∉ks/\q2∉ks/\q3∉ks/\sb∉ks)
  (h:∀w0,ak w w0->w0.heap.size=B->U8 48 #[ah kp,ah mb] w0 λe w1=>∃p,e= .returned (ah p)/\ec ks w0 w1/\(∀Z:ax,(∀b,Z b->w1.heap.size<=b)->K Z w1)/\U8 49 #[ah p,ag b] w1 (mD w1 R)):
  Calls prog 46 #[ah q0,ah q1,ah q2,ah q3] w (rk ks K w R):=by
 have⟨B0,KM⟩:=d8 w #[ai,U7] 49;have l0:q0<w.heap.size:=aV _ _ hc0;have l1:q1<w.heap.size:=aV _ _ hc1;have l2:q2<w.heap.size:=aV _ _ hc2;have l3:q3<w.heap.size:=aV _ _ hc3;have d0:=(B0.cell (p:=(aj q0 0)) l0).J hc0;have d1:=(B0.cell (p:=(aj q1 0)) l1).J hc1;have d2:=(B0.cell (p:=(aj q2 0)) l2).J hc2;have d3:=(B0.cell (p:=(aj q3 0)) l3).J hc3;have VJ:=hs.G B0 hs.lt;have HC:Hid (U8 48 #[ah kp,ah mb] (w.alloc (am #[ai,U7] 49)).drew λe w1=>∃p,e= .returned (ah p)/\ec ks (w.alloc (am #[ai,U7] 49)).drew w1/\(∀Z:ax,(∀b,Z b->w1.heap.size<=b)->K Z w1)/\U8 49 #[ah p,ag b] w1 (mD w1 R)):=h _ B0.drew (by simp[<-hB]);clear h;have hw1:w.heap.size<(w.alloc (am #[ai,U7] 49)).heap.size/\(w.alloc (am #[ai,U7] 49)).heap.size<=B:=Ve;go_in
 go_upto_region 3 with fail
 generalize w.alloc (am #[ai,U7] 49)=w1 at*;have b1:=B0.size;have nk:∀x,x<w.heap.size->x∉ks->x∉w.heap.size::ks:=λx h1 h2 q=>(aS.1 q).elim (λe=>Vc) h2
 have mk':∀x∈ks,x∈w.heap.size::ks:=λx q=>by simp[q]
 have HS:Hid (∀W:aw,ec (w.heap.size::ks) w1 W->W.cell? (aj q1 0)=some (ah mb)/\W.cell? (aj q2 0)=some (ag b)/\W.cell? (aj q3 0)=some (ah sb)/\W.cell? (aj sb 1)=some (ah kp)):=λW hk=>
  ⟨(bC (a:=(aj q1 0)) (hk.block q1 Vc (nk q1 l1 hq.2.1))).J d1,(bC (a:=(aj q2 0)) (hk.block q2 Vc (nk q2 l2 hq.2.2.1))).J d2,(bC (a:=(aj q3 0)) (hk.block q3 Vc (nk q3 l3 hq.2.2.2.1))).J d3,(VJ.kept hk (nk sb hs.lt hq.2.2.2.2)).cell 1⟩
 have VK:w.heap.size∉ks:=λq=>by grind
 have e0:=HS.o w1.drew (ec.refl _ w1).drew
 go_region_held2 (λW=>W.cell? (aj q1 0)=some (ah mb)/\W.cell? (aj q2 0)=some (ag b)/\W.cell? (aj q3 0)=some (ah sb)/\W.cell? (aj sb 1)=some (ah kp))
  (first|exact HS.o _ VL|exact HS.o _ VE|exact HS.o _ (Vz.V mk')|exact HS.o _ (rD.V mk')|exact e0)
  (first
   |(
     go_at_call 48;refine HC.o.V ?_;rintro e w2 ⟨p,rfl,VC,Vu,VN⟩
     have rD:=ec.ofDrew VC)
   |(
     go_at_call 49;refine VN.V ?_;intro e w3 VO;rcases mD.part VO with⟨x,rfl,rfl,Vp⟩|⟨m,v',Z',rfl,rfl,hm,hZ,Vp⟩;.unfold dY;go_wp2;exact⟨rfl,rfl,(ec.oB B0).J (rD.J (ec.oB Vp)),hK _ w2 w3 (Vu _ λ_ q=>q.elim) Vp.size λy _ hl=>Vp.block y hl⟩
     obtain⟨va,vc,rfl⟩:=hm.form;have Vz:=rD.J (ec.oB Vp);have Vr:=KM.kept Vz VK;have⟨k5,k6⟩:=Vr.I;have VE:=(Vz.V mk').set1 (c:=w.heap.size) Vd 0 (.slice va m.fs.length vc)
     have VL:=VE.set1 (c:=w.heap.size) Vd 1 (ag m.unk)))
 all_goals
  go_wp2;have hz2:=rD.size
  have Vv:=hm.O (w':=(w3.setCell (aj w.heap.size 0) (.slice va m.fs.length vc)).setCell (aj w.heap.size 1) (ag m.unk)) (λx hx _=>by
   have:=(hZ x hx).1
   rw[dW,dO Vc,dW,dO Vc])
  refine dR (el results46 _ _ rfl ((Vr.set 0 _).set 1 _) underlying49 Vi) rfl ⟨_,Z',rfl,Vv,λx hx=>⟨by grind,by simp only[cD];grind⟩,?_,?_⟩;.exact(((ec.oB B0).J Vz).freshP (aE _) 0 _).freshP (aE _) 1 _
  .refine hK _ w2 _ (Vu _ λx hx=>(hZ x hx).1) (by have:=Vp.size;simpa using this) λy hy hl=>(er Vc).J ((er Vc).J (Vp.block y hl))
end
section
variable (g:Bool)
def yM (ks:aB)(K:aw->Prop)(ok:Bool)(v:Value)(w:aw)(e:Ending)(w':aw):Prop:=ec ks w w'/\K w'/\if ok=true then e= .returned v else∃(x:Nz) (y:Int),e=dY x.1 y
abbrev FI (g:Bool):Nat:=bif g then 156 else 150
abbrev FT (g:Bool):Nat:=bif g then 100 else 95
abbrev FK (g:Bool):Nat:=bif g then 57 else 53
abbrev FS (g:Bool):Nat:=bif g then 56 else 52
abbrev FE (g:Bool):Nat:=bif g then 25 else 24
abbrev ZV (g:Bool):Value:=bif g then aa 0 else U7
section
theorem TV (a b:Addr)(w:aw):
  CallsD prog (FI g) #[.pointer (some a),.pointer (some b)] .returning w λe u' w'=>e= .returned (.tuple #[])/\u'= .returning/\w'=w:=by
 cases g<;>dsimp only[FI,cond]
 have hs:=results150;refine callsD_of_wpS func150 rfl λc₀ cs hu=> ?_
 rotate_left;have hs:=results156;refine callsD_of_wpS func156 rfl λc₀ cs hu=> ?_
 all_goals
  apply wpS_seq;apply wpS_region;simp[wpOpsS,go_sem,recoverD,hu,Exit.thenS];refine wpS_of_wp ?_;rw[AI];go_wp2;cases c₀;simp_all [bodyPostS,results]
theorem TW (ab bb:Nat)(k p:Int)(older:List PanicEntry)(w:aw)(x y:Value)(ha:w.cell? (aj ab 0)=some x)(hb:w.cell? (aj bb 0)=some y)(fa:w.frozen? (aj ab 0)=false)(fb:w.frozen? (aj bb 0)=false)(hab:¬ab=bb):
  CallsD prog (FI g) #[ah ab,ah bb] (.panicking ({v:= .iface 142 (.agg #[aa k,aa p]),recovered:=false}::older)) w λe u' w'=>
   e= .returned (.tuple #[])/\u'= .panicking ({v:= .iface 142 (.agg #[aa k,aa p]),recovered:=true}::older)/\
    w'=(((w.setCell (aj ab 0) (aa k)).setCell (aj bb 0) (aa p)).alloc (am #[aa k,aa p] 142)).drew:=by
 have hta:=QM k p;have la:=aV _ _ ha;have lb:=aV _ _ hb;simp only at la lb;have⟨p1,p2,p3,p4⟩:=gT (w:=w) (b:=ab) la;have⟨s1,s2,s3,s4⟩:=gT (w:=w) (b:=bb) lb;have hba:¬bb=ab:=λe=>hab e.sy
 cases g<;>dsimp only[FI,cond]
 refine callsD_of_wpS func150 rfl λc₀ cs hu=> ?_
 rotate_left;refine callsD_of_wpS func156 rfl λc₀ cs hu=> ?_
 all_goals
  apply wpS_seq;apply wpS_region;simp[wpOpsS,go_sem,recoverD,hu,Exit.thenS];refine wpS_of_wp ?_;rw[AI];go_wp2;go_region
  exact⟨rfl,_,rfl,.tuple #[],by simp[results],rfl,rfl,rfl⟩
variable {ks:aB} {K:aw->Prop} {E B:Nat}
theorem TX (hks:∀x∈ks,x<E)(hK:qC E B K)(ok:Bool)(v:Value)(w:aw)(hE:E<=w.heap.size)(hB:w.heap.size+2<=B)(c0 c1 c2 c3:Value)(h:∀w0,ak w w0->w0.heap.size=w.heap.size+2->U8 (FK g) #[c0,c1,c2,c3] w0 (yM ks K ok v w0)):
  U8 (FT g) #[.func (Fn.func (FK g)) #[] #[c0,c1,c2,c3]] w λe w'=>ec ks w w'/\K w'/\if ok=true then e= .returned (.tuple #[v,aa 0,aa 0])else∃(x:Nz) (y:Int),e= .returned (.tuple #[ZV g,aa x.1,aa y]):=by
 have Vw:= @wo;have⟨B0,K0,K1⟩:=gY w #[aa 0] #[aa 0] 24 3;have HC:Hid (Calls _ _ _ _ _):=h _ B0 Vd;have Vx:=TW g;have Vy:=TV g;clear h;cases g<;>dsimp only[FI,FT,FK,ZV,cond]at*
 go_enter_defers func95,ntmps95
 rotate_left;go_enter_defers func100,ntmps100
 all_goals
  go_wp2_with fail;generalize(w.alloc (am #[aa 0] 24)).alloc (am #[aa 0] 3)=w1 at*;refine HC.o.V ?_;rintro e w2 ⟨Vr,Vu,he⟩;have K2:=K0.kept Vr (λq=>by have:=hks _ q;omega);have K3:=K1.kept Vr (λq=>by have:=hks _ q;omega);have C2:=(ec.oB (bs:=ks) B0).J Vr;have⟨k1,k2⟩:=K2.I;have⟨k3,k4⟩:=K3.I;have z3:=K3.lt
  cases ok with
  |false=>
   rw[dO Vd]at he;obtain⟨x,y,rfl⟩:=he;unfold dY;refine leaves_cons (args:= #[ah w.heap.size,ah (w.heap.size+1)]) ?_ ?_ ((Vx w.heap.size (w.heap.size+1) x.1 y [] w2 _ _ (k1 0) (k3 0) (k2 0) (k4 0) Vc).V ?_);.simp
   .simp[go_sem]
   rintro e u' VB ⟨rfl,rfl,rfl⟩;have q0:=(((K2.set 0 (aa x.1)).other (c:=w.heap.size+1) 0 (aa y) Vc).alloc (am #[aa x.1,aa y] 142)).cell 0;have q1:=(((K3.other (c:=w.heap.size) 0 (aa x.1) Vc).set 0 (aa y)).alloc (am #[aa x.1,aa y] 142)).cell 0;have C3:ec ks w (((w2.setCell (aj w.heap.size 0) (aa x.1)).setCell (aj (w.heap.size+1) 0) (aa y)).alloc (am #[aa x.1,aa y] 142)).drew:=(((C2.freshP (aE _) 0 _).freshP (bG _) 0 _).alloc _).drew;have H3:K (((w2.setCell (aj w.heap.size 0) (aa x.1)).setCell (aj (w.heap.size+1) 0) (aa y)).alloc (am #[aa x.1,aa y] 142)).drew:=hK w2 _ Vu Vd λz hz hl=>(Below.l _ _ z (by simpa using hl)).J ((er Vc).J (er Vc))
   simp at q0 q1;simp[Leaves,settle,results,go_sem,q0,q1]
   exact⟨C3,H3,x.2⟩
  |true=>
   rw[dP rfl]at he;subst he;go_wp2;refine leaves_cons (args:= #[ah w.heap.size,ah (w.heap.size+1)]) ?_ ?_ ((Vy (aj w.heap.size 0) (aj (w.heap.size+1) 0) _).V ?_);.simp
   .simp[go_sem]
   rintro e u' VB ⟨rfl,rfl,rfl⟩;have q0:=((K2.set 0 (aa 0)).other (c:=w.heap.size+1) 0 (aa 0) Vc).cell 0;have q1:=((K3.other (c:=w.heap.size) 0 (aa 0) Vc).set 0 (aa 0)).cell 0;have C3:ec ks w ((w2.setCell (aj w.heap.size 0) (aa 0)).setCell (aj (w.heap.size+1) 0) (aa 0)):=(C2.freshP (aE _) 0 _).freshP (bG _) 0 _;have H3:K ((w2.setCell (aj w.heap.size 0) (aa 0)).setCell (aj (w.heap.size+1) 0) (aa 0)):=hK w2 _ Vu Vd λz hz hl=>(er Vc).J (er Vc)
   simp at q0 q1;simp[Leaves,settle,results,go_sem,q0,q1];exact⟨C3,H3⟩
theorem TY (hks:∀x∈ks,x<E)(hK:qC E B K)(ok:Bool)(v:Value)(w:aw)(hE:E<=w.heap.size)(hB:w.heap.size+2<=B)(c0 c1 c2 c3:Value)(h:∀w0,ak w w0->w0.heap.size=w.heap.size+2->U8 (FK g) #[c0,c1,c2,c3] w0 (yM ks K ok v w0)):
  Calls prog (FS g) #[.func (Fn.func (FK g)) #[] #[c0,c1,c2,c3]] w λe w'=>ec ks w w'/\K w'/\e= .returned (.tuple #[if ok=true then v else ZV g,aa (if ok=true then 0 else 12)]):=by
 have HC:=TX g hks hK ok v w hE hB c0 c1 c2 c3 h;clear h;cases g<;>dsimp only[FT,FK,FS,ZV,cond]at*
 go_in
 rotate_left;go_in
 all_goals
  go_wp2_with fail;refine HC.V ?_;rintro e w2 ⟨C2,H2,he⟩
  cases ok with
  |false=>
   rw[dO Vd]at he;obtain⟨x,y,rfl⟩:=he;have hx:(x.1 !=0)=true:=by simpa using x.2
   go_wp2;go_ret2
   exact⟨C2,H2,rfl⟩
  |true=>
   rw[dP rfl]at he;subst he;go_wp2;go_ret2;exact⟨C2,H2,rfl⟩
theorem SH (r:Value×Int)(w:aw)(hks:∀x∈ks,x<w.heap.size)(hK:qC w.heap.size (w.heap.size+6) K)(hk0:K w)(sb:Nat)(sv kv:Value)(bs:List d7)(y:List YM)(P:ax)(nm:au)(a:aC)(n c:Nat)(unk:au)(way:Int)(h1:dX w sb #[sv,kv] 92)(hM:fU w P sv bs y)(hl:y.length<=2001)(hw:way=1\/way=2)
  (hR:(∀m∈y,(m.1.1.toList==nm.toList)=false)->r=(ZV g,5))
  (h:∀(i:Nat) (m:YM),y[i]?=some m->(m.1.1.toList==nm.toList)=true->∃ok v,r=(if ok=true then v else ZV g,if ok=true then 0 else 12)/\∀(w0:aw) (q0 q1 q2 q3:Nat),ak w w0->w0.heap.size=w.heap.size+6->w.heap.size<=q0/\w.heap.size<=q1/\w.heap.size<=q2/\w.heap.size<=q3->w0.cell? (aj q0 0)=some (aa way)->w0.cell? (aj q1 0)=some (ah m.1.2)->dX w0 q2 #[.slice a n c,ag unk] 49->w0.cell? (aj q3 0)=some (ah sb)->
   U8 (FK g) #[ah q0,ah q1,ah q2,ah q3] w0 (yM ks K ok v w0)):
  Calls prog (FE g) #[ah sb,aa way,ag nm,.agg #[.slice a n c,ag unk]] w λe w'=>e= .returned (.tuple #[r.1,aa r.2])/\ec ks w w'/\K w':=by
 have Vw:= @wo;obtain⟨w0,Vp⟩:=Y9 (((w.alloc (am #[ah sb] 22)).alloc (am #[aa way] 3)).alloc (am #[.slice a n c,ag unk] 49));have B0:ak w w0:=by rw[<-Vp];exact(((Below.refl _ _).alloc (aE _) _).alloc Vd _).alloc Ve _
 have KS:dX w0 w.heap.size #[ah sb] 22:=by rw[<-Vp];exact((dX.new w _ _).alloc _).alloc _
 have KY:dX w0 (w.heap.size+1) #[aa way] 3:=by rw[<-Vp];exact(dX.newAt Vd _ _).alloc _
 have KM:dX w0 (w.heap.size+1+1) #[.slice a n c,ag unk] 49:=by rw[<-Vp];exact dX.newAt Vd _ _
 have Vs:=Ee w0 sb sv kv bs y P nm way (h1.G B0 h1.lt) (hM.O λx _ hl=>B0.block x hl) hl hw;have Vt:Hid (w0.heap.size=w.heap.size+3):=by show _=_;rw[<-Vp];simp
 have⟨s1,s2⟩:=KS.I;have⟨s3,s4⟩:=KY.I;have Vz:=TY g hks hK;cases g<;>dsimp only[FK,FS,FE,ZV,cond]at*
 go_in
 rotate_left;go_in
 all_goals
  go_wp2_with fail;refine Vs.V ?_;clear Vs Vp;rintro e w1 ⟨rfl,⟨i,m,hi,hn,rfl⟩|⟨Vv,rfl⟩⟩
  .have⟨B1,KP⟩:=d8 w1 #[ah m.1.2] 105;have hsz1:(w1.alloc (am #[ah m.1.2] 105)).heap.size=w.heap.size+4:=by have:=Vt.o;simp;omega
   have⟨ok,v,hr,hc⟩:=h i m hi hn;have HR:Hid _:=hr;clear hr hR
   have VA:=λw3 (hb:Below (w1.alloc (am #[ah m.1.2] 105)).heap.size (w1.alloc (am #[ah m.1.2] 105)) w3) (hs:w3.heap.size=(w1.alloc (am #[ah m.1.2] 105)).heap.size+2)=>by
    have Vq:=dU B1 hb;have h1s:=Vt.o;exact hc w3 _ _ _ _ (dU B0 Vq) Vc ⟨Vc,Vc,Vc,aE _⟩ ((KY.G Vq KY.lt).cell 0) ((KP.G hb KP.lt).cell 0) (KM.G Vq KM.lt) ((KS.G Vq KS.lt).cell 0)
   have HK:=Vz ok v (w1.alloc (am #[ah m.1.2] 105)) Vc Vc _ _ _ _ VA;have B2:=dU B0 B1;go_wp2_with fail;refine HK.V ?_;rintro e w3 ⟨C3,H3,rfl⟩;cases ok
   all_goals
    go_wp2;go_ret2;exact⟨by rw[HR.o];rfl,(ec.oB B2).J C3,H3⟩
  .obtain rfl:=hR Vv;have B2:=B0.alloc B0.size (am #[.pointer none] 105);clear h hR Vv;go_wp2;go_ret2;exact⟨rfl,ec.oB B2,hK w _ hk0 B2.size λz _ hl=>B2.block z hl⟩
end
end
end
section
variable {w w':aw} {P:ax} {v:Value} {bs:List d7} {y:List YM} {nm:au} {R:Fx PM} {e:Ending}
theorem rl (hM:fU w P v bs y)(h:kh bs):y.length<=2001:=by
 have e:y.length=(eh bs).length:=by rw[<-hM.names];simp
 rw[e,jn,bN];exact aM (bZ _ _) h.ok.few
theorem EB (hM:fU w P v bs y)(h:kh bs){i:Nat}{m:YM}(hi:y[i]?=some m)(hn:(m.1.1.toList==nm.toList)=true):
  ∃d gs,(ei bs).msg nm=some d/\jh w (λb=>b<w.heap.size) (mO (y.map (·.1))) m.1.2 d.name gs/\lH (ei bs) (mO (y.map (·.1))) d gs/\mg (ei bs) d:=by
 have hz:(y.map (·.1)).map (·.1)=eh bs:=by rw[bJ];exact hM.names
 have Vr:m.1.1.toList=nm.toList:=by simpa using hn
 have Vp:fi (eh bs) nm=true:=(ji _ _).2 ⟨m.1.1,by rw[<-hM.names];exact aR.2 ⟨m,aL hi,rfl⟩,Vr⟩;have⟨_,b,_,_,h2,_,_⟩:=qh h.ok hz Vp;have⟨j,m2,hj,_,q2,q3,q4,q5,q6⟩:=rh hM h h2;have Vs:((y.map (·.1)).map (·.1)).Pairwise (λx y=>x.toList≠y.toList):=(by rw[hz,jn];exact List.Pairwise.sublist (List.Sublist.map _ dC) h.ok.names);have e1:m.1.1=m2.1.1:=jH (Vr.J q3.sy);have g1:=qS Vs (s:=m.1.1) (b:=m.1.2) (aR.2 ⟨m,aL hi,rfl⟩);have g2:=qS Vs (s:=m2.1.1) (b:=m2.1.2) (aR.2 ⟨m2,aL hj,rfl⟩);rw[e1,g2]at g1;exact⟨_,m2.2,h2,by rw[<-Option.some.inj g1];exact q4,q5,q6⟩
theorem tJ (hM:fU w P v bs y)(Vq:∀m∈y,(m.1.1.toList==nm.toList)=false):(ei bs).msg nm=none:=by
 have hz:(y.map (·.1)).map (·.1)=eh bs:=by rw[bJ];exact hM.names
 refine(xF hz ?_).1
 cases hm:fi (eh bs) nm with
 |false=>rfl
 |true=>
  have⟨x,hx,Vu⟩:=(ji _ _).1 hm;rw[<-hM.names]at hx;obtain⟨m,Vv,rfl⟩:=aR.1 hx;have:=Vq m Vv;rw[Vu]at this;simp at this
theorem mD.toK (h:mD w R e w'):rk [] (λ_ _=>True) w R e w':=by
 cases R with
 |error x=>exact⟨h.1,.oB h.2,trivial⟩
 |ok m=>
  obtain⟨v,Z',h1,h2,h3,h4⟩:=h;exact⟨v,Z',h1,h2,h3,.oB h4,trivial⟩
theorem lP.toRet (h:lP [] (λ_ _=>True) w R e w'):Hx w R e w':=by
 cases R with
 |error x=>exact⟨h.1,h.2.1.to_below (aE _) Vd⟩
 |ok m=>
  obtain⟨v,Z',h1,h2,h3,h4,_⟩:=h;exact⟨v,Z',h1,h2,h3,h4.to_below (aE _) Vd⟩
theorem Ju (w:aw)(sb:Nat)(v kv:Value)(bs:List d7)(y:List YM)(P:ax)(nm b:au)(h1:dX w sb #[v,kv] 92)(hM:fU w P v bs y)(h:kh bs)(hu:UOK w)(hbs:b.size<=268435456):
  U8 21 #[ah sb,aa 1,ag nm,ag b] w (Hx w (iV (ei bs) nm b)):=by
 refine(AX (ks:= []) (K:=λ_ _=>True) _ w Vd (λ_ _ _ _ _ _=>trivial) rfl trivial sb v kv bs y P nm b 1 h1 hM (rl hM h) (.inl rfl) (λVq=> ?_) (λi m w0 q0 q1 q2 q3 hi hn hb _ _ c0 c1 c2 _=> ?_)).V λ_ _ q=>q.toRet
 .unfold iV;rw[tJ hM Vq]
 .have⟨d,gs,g1,g2,g3,g4⟩:=EB hM h hi hn;have cx:=Ci hM h hu;refine(QN _ w0 q0 q1 q2 q3 m.1.2 b c0 c1 c2 λw2 Vw=> ?_).V λ_ _ q=>q.toK
  have Vt:ak w w2:=dU hb Vw;have e:iV (ei bs) nm b=eW (ei bs) b (b.size+1) d PM.none 0 b.size 1:=by unfold iV;rw[g1]
  rw[e];exact F6 (ei bs) (mO (y.map (·.1))) w.heap.size b (QO h) hbs w2 d m.1.2 gs d.name (cx.on Vt) (g2.O λx q _=>Vt.block x q) g3 g4
end
section
open Go.Maps
section
variable {w:aw} {P:ax} {v:Value} {bs:List d7} {y:List YM}
def yT (hM:fU w P v bs y)(h:kh bs):Mf w P (ei bs) (mO (y.map (·.1))):=by
 refine⟨λt d ht=> ?_,λt ht=> ?_⟩
 .have⟨i,m,hi,h1,h2,_,_,h3,_⟩:=rh hM h ht;have VD:=aL hi;refine⟨m.1.2,m.2,h1,by rw[<-h2];exact hM.msg m VD,h3,?_⟩;have VJ:m.1.1∈eh bs:=by rw[<-hM.names];exact aR.2 ⟨m,VD,rfl⟩
  have⟨b,Vz,VN⟩:=aR.1 VJ;rw[<-h2,<-VN];exact(h.ok.ok b (bA.1 Vz).1).name
 .have hz:(y.map (·.1)).map (·.1)=eh bs:=by rw[bJ];exact hM.names
  have hs:(mO (y.map (·.1)) t).isSome=true:=by
   unfold jB at ht;split at ht
   .exfalso;have e:mZ.length=15:=Vg;unfold oh at ht
    cases hq:Df mZ t.toList 0 with
    |none=>rw[hq]at ht;cases ht
    |some k=>
     rw[hq]at ht;have:=BL _ _ _ _ hq;simp at ht;omega
   .split at ht;.assumption
    .cases ht
  rw[r9,hz]at hs;have⟨_,b,_,_,h2,_⟩:=qh h.ok hz hs;exact⟨_,h2⟩
def AY (hM:fU w P v bs y)(h:kh bs){i:Nat}{m:YM}(hi:y[i]?=some m){nm:au}(hn:(m.1.1.toList==nm.toList)=true):
  ∃d gs,(ei bs).msg nm=some d/\jh w P (mO (y.map (·.1))) m.1.2 d.name gs/\lH (ei bs) (mO (y.map (·.1))) d gs/\mg (ei bs) d/\d.name.size<=2000:=by
 have hz:(y.map (·.1)).map (·.1)=eh bs:=by rw[bJ];exact hM.names
 have VE:m.1.1.toList=nm.toList:=by simpa using hn
 have Vt:fi (eh bs) nm=true:=(ji _ _).2 ⟨m.1.1,by rw[<-hM.names];exact aR.2 ⟨m,aL hi,rfl⟩,VE⟩;have⟨_,b,_,_,h2,_,_⟩:=qh h.ok hz Vt;have⟨j,m2,hj,_,q2,q3,_,q5,q6⟩:=rh hM h h2;have VF:((y.map (·.1)).map (·.1)).Pairwise (λx y=>x.toList≠y.toList):=(by rw[hz,jn];exact List.Pairwise.sublist (List.Sublist.map _ dC) h.ok.names);have e1:m.1.1=m2.1.1:=jH (VE.J q3.sy);have g1:=qS VF (s:=m.1.1) (b:=m.1.2) (aR.2 ⟨m,aL hi,rfl⟩);have g2:=qS VF (s:=m2.1.1) (b:=m2.1.2) (aR.2 ⟨m2,aL hj,rfl⟩);rw[e1,g2]at g1;have⟨_,_,_,_,_,k4⟩:=(yT hM h).md nm _ h2;exact⟨_,m2.2,h2,by rw[<-Option.some.inj g1,<-q2];exact hM.msg m2 (aL hj),q5,q6,k4⟩
end
def jN (w:aw)(kp mk:Nat)(S:eD)(mp:an)(X:ax):Prop:=∃N pm,vI kp mk 0 S mp w N pm [] X
def jN.still {kp mk E B:Nat}{S:eD}{mp:an}{Y Z:ax}(hk:kp<E)(hm:mk<E):qC E B λw=>jN w kp mk S mp λb=>(Y b/\b<E)\/(B<=b/\¬Z b):=by
 rintro a b ⟨N,pm,h⟩ _ hb;refine⟨N,pm,(hb kp (.inl hk) h.kb.lt).J h.kb,h.mb.O (hb mk (.inl hm) h.mb.lt),h.ne,h.ct,h.inj,λt p hp=> ?_⟩;rcases h.pl t p hp with⟨q1,_⟩|⟨d,gs,q1,q2,q3⟩;.cases q1
 .exact .inr ⟨d,gs,q1,q2,q3.O (λx q hl=>hb x (q.2.2.2.imp And.right And.left) hl) (λ_ _ q=>q)⟩
def jN.less {w:aw}{kp mk:Nat}{S:eD}{mp:an}{X Y:ax}(h:jN w kp mk S mp X)(hx:∀b,X b->b<w.heap.size->Y b):jN w kp mk S mp Y:=by
 obtain⟨N,pm,h⟩:=h;exact⟨N,pm,h.less hx⟩
def Jv (MK:qB)(w:aw)(sb kp mk:Nat)(v:Value)(bs:List d7)(y:List YM)(P:ax)(nm b:au)(h1:dX w sb #[v,ah kp] 92)(hM:fU w P v bs y)(h:kh bs)(hu:UOK w)(hbs:b.size<=268435456)
  (Y:ax) (hp:jN w kp mk (ei bs) (mO (y.map (·.1))) Y) (hY:∀x,P x->Y x) (hP:∀x,P x->x≠mk/\x≠kp) (hsb:sb≠mk/\sb≠kp) (hu1:2≠mk/\2≠kp) (hu2:3≠mk/\3≠kp):
  U8 21 #[ah sb,aa 2,ag nm,ag b] w (lP [mk,kp] (λZ w'=>jN w' kp mk (ei bs) (mO (y.map (·.1))) λx=>(Y x/\x<w.heap.size)\/(w.heap.size+9<=x/\¬Z x)) w (iV (ei bs) nm b)):=by
 have⟨N,pm,ok0⟩:=id hp;have Vu:=ok0.kb.lt;have Vv:=ok0.mb.lt;have VG:∀Z:ax,qC w.heap.size (w.heap.size+9) λw'=>jN w' kp mk (ei bs) (mO (y.map (·.1))) λx=>(Y x/\x<w.heap.size)\/(w.heap.size+9<=x/\¬Z x):=λ_=>jN.still Vu Vv
 have Vw:∀x∈ [mk,kp],x<w.heap.size:=λx hx=>by
  simp only[aS,bX,or_false]at hx;rcases hx with rfl|rfl;.exact Vv
  .exact Vu
 have Vq:∀x,x≠mk->x≠kp->x∉ [mk,kp]:=λx h1 h2=>by simp[h1,h2]
 refine AX _ w Vw VG rfl (hp.less λx hy hl=> .inl ⟨hy,hl⟩) sb v _ bs y P nm b 2 h1 hM (rl hM h) (.inr rfl) (λVO=> ?_) (λi m w0 q0 q1 q2 q3 hi hn hb hsz Vs c0 c1 c2 c3=> ?_);.unfold iV;rw[tJ hM VO]
 .have VH:fU w (λx=>P x/\x<w.heap.size) v bs y:=hM.V λx q hl=>⟨q,hl⟩
  have⟨d,gs,g1,g2,g3,g4,g5⟩:=AY VH h hi hn;have e:iV (ei bs) nm b=eW (ei bs) b (b.size+1) d PM.none 0 b.size 1:=by unfold iV;rw[g1]
  rw[e];have Vr:∀q,w.heap.size<=q->q∉ [mk,kp]:=λq hq hx=>by have:=Vw q hx;omega
  have VI:=nX g1;refine Q5 Vw VG _ w0 hb.size hsz q0 q1 q2 q3 m.1.2 sb kp v b c0 c1 c2 c3 (h1.G hb h1.lt) ⟨Vr _ Vs.1,Vr _ Vs.2.1,Vr _ Vs.2.2.1,Vr _ Vs.2.2.2,Vq sb hsb.1 hsb.2⟩ λw1 Vz hsz1=> ?_
  have Vp:ak w w1:=dU hb Vz;have VK:fU w1 P v bs y:=hM.O λx _ hl=>Vp.block x hl
  have VL:∀x,(P x/\x<w.heap.size)->x<w.heap.size/\x≠mk/\x≠kp:=λx q=>⟨q.2,hP x q.1⟩
  have md:=(yT VH h).O (w':=w1) λx q _=>Vp.block x q.2
  have I1:Cq kp mk w.heap.size 0 (ei bs) (mO (y.map (·.1))) (λx=>P x/\x<w.heap.size) w1 N pm [] λx=>(Y x/\x<w.heap.size)\/w.heap.size+9<=x:=
   ⟨(ok0.less λx hy hl=> .inl ⟨hy,hl⟩).O (λx hl=>Vp.block x hl),md,Vp.size,Vd,λx hx=> .inl ⟨hY x hx.1,hx.2⟩,λx hx=> .inr Vc,VL,Vu,Vv⟩
  refine(SG kp mk w.heap.size (ei bs) (mO (y.map (·.1))) _ MK w1 N pm m.1.2 d gs _ I1 (by rw[VI];exact g1) (g2.O λx q _=>Vp.block x q.2) g3 g5).V ?_;rintro en w2 ⟨p,N',VA,rfl,VP,ok2,hx2,rD⟩;refine⟨p,rfl,rD,λZ hZ=>⟨N',VA,ok2.less λx q hl=>q.imp id λq=>⟨q,λz=>by have:=hZ x z;omega⟩⟩,?_⟩;have VM:fU w2 P v bs y:=VK.O λx q hl=>rD.block x hl (Vq x (hP x q).1 (hP x q).2)
  have Vx:UOK w1:=hu.O (Vp.block _ hu.lt1) (Vp.block _ hu.lt2);have Vy:UOK w2:=Vx.O (rD.block _ Vx.lt1 (Vq _ hu1.1 hu1.2)) (rD.block _ Vx.lt2 (Vq _ hu2.1 hu2.2));have cx:=Ci VM h Vy
  have pc:nR w2 (λx=>x<w2.heap.size) (ei bs) (mO (y.map (·.1))) VA:=λt q hq=>by
   rcases ok2.pl t q hq with⟨z,_⟩|⟨d',VB,z1,z2,z3⟩;.cases z
   .exact⟨d',VB,z1,z3.mV (.V λx _ hl=>hl) (λ_ _ q=>q),z2⟩
  have⟨d',VB,z1,z2,z3⟩:=pc _ _ VP;obtain rfl:d=d':=(by rw[VI,g1]at z1;exact Option.some.inj z1);refine Rb (ei bs) b w2 d p λw3 Z rb db VC hr hd hZ VQ VR=> ?_
  exact Gj (ei bs) (mO (y.map (·.1))) VA w2.heap.size b (QO h) hbs (b.size+1) w3 Z d PM.none 0 b.size 1 7 p VB rb db (cx.on VC) (pc.O λx q _=>VC.block x q) (z2.O (λx q _=>VC.block x q) (λ_ _ q=>q)) z3 g4 hr hd hZ VQ VR (aP _) (aE _) Vc rfl (WM.none _ _ _)
end
end Go.Proofs.YtfebdimolnobaaaGreatDoor
