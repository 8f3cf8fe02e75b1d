import Derived.Test.YtfebdimolnobaaaGreatDoorPlI
import Derived.Defers
import Derived.Recover
set_option maxRecDepth 100000
set_option maxHeartbeats 8000000
set_option linter.all false
namespace Go.Proofs.YtfebdimolnobaaaGreatDoor
open Go.RowKit Go.Proofs.Tryz
section
variable {bs:List d7} {t:au}
theorem FM {ws:List W}{j:Nat}(h:pZ ws= .ok (bs,j)):∀b∈bs,dV b.name.1=1:=by
 refine oF (Q:=λb=>dV b.name.1=1) (λi b j hb=> ?_) _ _ _ _ h;unfold jT at hb;split at hb;.unfold lV at hb;have⟨_,i1,_,hb⟩:=d6 hb;have⟨n,i2,hn,hb⟩:=d6 hb;have⟨_,i3,_,hb⟩:=d6 hb;have⟨l,i4,_,hb⟩:=d6 hb;have⟨_,i5,_,hb⟩:=d6 hb;simp at hb;obtain⟨rfl,_⟩:=hb;exact(iQ _ _ _ _ _ hn).2.2
 .unfold ia at hb;have⟨_,i1,_,hb⟩:=d6 hb;have⟨n,i2,hn,hb⟩:=d6 hb;have⟨_,i3,_,hb⟩:=d6 hb;have⟨l,i4,_,hb⟩:=d6 hb;have⟨_,i5,_,hb⟩:=d6 hb;simp at hb;obtain⟨rfl,_⟩:=hb;exact(iQ _ _ _ _ _ hn).2.2
structure kh (bs:List d7):Prop where
 ok:DD bs
 nm:∀b∈bs,dV b.name.1=1
 ones:∀b∈bs,b.enum=false->(ir b.parts).Pairwise (λx y=>x.toList≠y.toList)
theorem DR (h:iS t= .ok bs):kh bs:=by
 refine⟨rY h,?_,λb hb he=>Fm h hb he⟩;unfold iS at h;split at h;.cases h
 .split at h;.cases h
  .rename_i h3;split at h;.cases h
   .cases h;exact FM h3
theorem sq {s:au}(h:s.toList=t.toList):dV s=dV t:=by rw[jH h]
theorem tw (h:kh bs)(h3:dV t=3):(ei bs).msg t=none:=by
 refine qg λb hb e=> ?_
 have:=h.nm b (bA.1 hb).1;rw[sq e,h3]at this;omega
theorem Hj (h3:dV t=3):oh t<=14:=by
 unfold oh;have hm:t.toList∈mZ:=by have:=nh h3;simpa [jI]using this
 generalize t.toList=l at hm
 revert l;decide+kernel
theorem uB (h:kh bs){z:List (au×Nat)}(hz:z.map (·.1)=eh bs)(ht:dV t=3\/(dV t=1/\fi (fJ bs) t=true)):(ei bs).base t=16<->((ei bs).msg t).isSome=true:=by
 rw[wz h.ok hz ht];unfold jB;by_cases h3:dV t=3;.rw[dP h3,tw h h3];have:=Hj h3;simp;omega
 .rw[dO h3]
  cases hm:fi (eh bs) t with
  |true=>
   have⟨_,_,_,_,h2,_,h4⟩:=qh h.ok hz hm
   simp_all
  |false=>
   have⟨h1,h2⟩:=xF hz hm;simp_all
theorem DT (h3:dV t=3):iJ (oh t)=fi jm t:=by
 have hm:t.toList∈mZ:=by have:=nh h3;simpa [jI]using this
 have e:fi jm t=fi jm ⟨t.toList.toArray⟩:=(by unfold fi;rw[ByteArray.toList_eq,ByteArray.toList_eq]);unfold oh;rw[e];generalize t.toList=l at hm
 revert l;decide+kernel
end
section
open Go.Maps
open Vo
def mD (w:aw)(R:Fx PM)(e:Ending)(w':aw):Prop:=
 match R with
 | .error x=>e=dY x.1 x.2/\ak w w'
 | .ok m=>∃v Z',e= .returned (.agg #[v,ag m.unk])/\qw 9 w' v m Z'/\(∀b,Z' b->w.heap.size<=b/\b<w'.heap.size)/\ak w w'
def eR.belowW {w w':aw}{Z Z':ax}{rb:Nat}(h:eR w Z rb w' Z'){n:Nat}(hn:n<=w.heap.size)(hZ:∀x,Z x->n<=x)(hr:n<=rb):Below n w w':=
 ⟨h.os,h.tape,h.output,h.size,λi hi=>h.block i (aI hi hn) (λq=>by have:=hZ i q;omega) Vc⟩
def F6 (S:eD)(mp:an)(B:Nat)(b:au)(hS:Fg S)(hbs:b.size<=268435456)(w:aw)(d:MT)(mb:Nat)(gs:List GF)(nm:au)(cx:tu w B S mp)(hM:jh w (λb=>b<B) mp mb nm gs)
  (hG:lH S mp d gs) (hgd:mg S d):
  Calls prog 47 #[ah mb,ag b] w (mD w (eW S b (b.size+1) d PM.none 0 b.size 1)):=by
 have hex:b.extract 0 b.size=b:=Vd;have Vx:=cx.le;have B1:ak w (w.U5 #[ai,U7] 49):=(Below.refl _ _).alloc (aE _) _;have B2:=B1.alloc Vd (am #[ai,ai] 183);have B3:=B2.alloc Ve (am #[ag b,aa 0,aa 1] 244);have KR:=((dX.new w #[ai,U7] 49).alloc (am #[ai,ai] 183)).alloc (am #[ag b,aa 0,aa 1] 244);have KD:=(dX.newAt (w:=w.alloc (am #[ai,U7] 49)) (n:=w.heap.size+1) Vd #[ai,ai] 183).alloc (am #[ag b,aa 0,aa 1] 244);have KW:=dX.newAt (w:=(w.alloc (am #[ai,U7] 49)).alloc (am #[ai,ai] 183)) (n:=w.heap.size+1+1) Vd #[ag b,aa 0,aa 1] 244;have Vp:=Kn ((w.U5 #[ai,U7] 49).U5 #[ai,ai] 183) b;simp only[ci]at Vp;go_in
 go_wp2_with fail;refine Vp.V ?_;rintro e w' ⟨rfl,rfl⟩;have hsz:w.heap.size+3=(((w.alloc (am #[ai,U7] 49)).alloc (am #[ai,ai] 183)).alloc (am #[ag b,aa 0,aa 1] 244)).heap.size:=Vd;clear Vp B1 B2;go_wp2_with fail;generalize(((w.alloc (am #[ai,U7] 49)).alloc (am #[ai,ai] 183)).alloc (am #[ag b,aa 0,aa 1] 244))=w3 at*;have BB:Below B w w3:=⟨B3.os,B3.tape,B3.output,B3.size,λi hi=>B3.block i (aI hi Vx)⟩
 have Vr:=zX S mp B b hS hbs (b.size+1) w3 (λx=>x=w.heap.size+1) d PM.none 0 b.size 1 7 mb gs nm (w.heap.size+1+1) (w.heap.size+1) (cx.on BB) (hM.O (λx q _=>BB.block x q)) hG hgd (by rw[hex];exact KW) (eM.fresh KD)
  (λx hx=>by subst hx;omega) Vc Vc (aP _) (aE _) Vc rfl (WM.none _ _ _)
 refine Vr.V ?_;intro e w4 hq;rcases hq.part with⟨x,hP,rfl,Z',st⟩|⟨m',hP,rfl,Z',st,hdr⟩;.unfold dY;go_wp2;exact⟨rfl,rfl,B3.J (st.belowW Vc (λx hx=>Vc) Vc)⟩
 .have B4:ak w w4:=B3.J (st.belowW Vc (λx hx=>Vc) Vc);have Vs:dX w4 w.heap.size #[ai,U7] 49:=(st.block w.heap.size Vc Vc Vc).J KR;have z4:=st.size;have hg:=st.grow;clear Vr hq st;go_wp2_with fail;refine(yx (S:=S) 8 (some d) w4 Z' (w.heap.size+1) m' hdr).V ?_;rintro e w5 ⟨v,Z2,rfl,hm,Vv,Vw⟩;obtain⟨va,vc,rfl⟩:=hm.form;have Vt:=Vs.G Vw Vs.lt;have⟨r1,r2⟩:=Vt.I
  have Vq:∀x,Z2 x->w.heap.size<x:=λx hx=>by
   rcases(Vv x hx).2 with h|h
   .rcases hg x h with h|h;.omega
    .omega
   .omega
  go_wp2
  have Vy:∀x,Z2 x->x<w5.heap.size->((w5.setCell (aj w.heap.size 0) (.slice va m'.fs.length vc)).setCell (aj w.heap.size 1) (ag m'.unk)).heap[x]?=w5.heap[x]?:=λx hx _=>by
   have Vu:w.heap.size≠x:=by have:=Vq x hx;omega
   rw[dW,dO Vu,dW,dO Vu]
  rw[hP];refine dR (el results47 _ _ rfl ((Vt.set 0 _).set 1 _) underlying49 Vh) rfl ⟨_,Z2,rfl,hm.O Vy,λx hx=>⟨cq (Vq x hx),by simp only[cD];exact(Vv x hx).1⟩,?_⟩;exact((dU B4 Vw).setCell (p:=(aj w.heap.size 0)) (aE _) _).setCell (p:=(aj w.heap.size 1)) (aE _) _
end
section
def _root_.Go.CallsD.V:=@Go.CallsD.mono
open Go.Maps
def fU.O {w w':aw}{P:ax}{v:Value}{bs:List d7}{y:List YM}(hk:∀b,P b->b<w.heap.size->w'.heap[b]?=w.heap[b]?)(h:fU w P v bs y):fU w' P v bs y:=
 ⟨h.row.O hk,h.names,λm hm=>(h.msg m hm).O hk,h.g⟩
def fU.V {w:aw}{P Q:ax}{v:Value}{bs:List d7}{y:List YM}(hs:∀b,P b->b<w.heap.size->Q b)(h:fU w P v bs y):fU w Q v bs y:=
 ⟨h.row.V hs,h.names,λm hm=>(h.msg m hm).V hs,h.g⟩
def Ec (w:aw)(sb kp mk:Nat)(bs:List d7)(lo:Nat):Prop:=
 ∃v y,dX w sb #[v,ah kp] 92/\(lo<=sb/\lo<=kp/\lo<=mk/\sb≠kp/\sb≠mk/\mk≠kp)/\fU w (λb=>lo<=b/\b≠sb/\b≠kp/\b≠mk) v bs y/\LH w kp mk 0 (λ_=>none)
def OI (w:aw)(r:Except (Int×Nat) (List d7))(e:Ending)(w':aw):Prop:=
 (match r with
 | .error (k,p)=>e=dY k p
 | .ok bs=>∃sb kp mk,e= .returned (ah sb)/\Ec w' sb kp mk bs w.heap.size)/\ak w w'
def Sb (w:aw)(tb:Nat)(t:au)(hmax:t.size<=2^47)(hc:w.cell? (aj tb 0)=some (ag t))(hg:GOK w)(hbo:BOK w):
  Calls prog 34 #[ah tb] w (OI w (iS t)):=by
 generalize hr:iS t=r;have HR:Hid (iS t=r):=hr;clear hr;go_in
 go_wp2_with fail;refine(UK _ t hmax hg).V ?_
 cases h:iS t with
 |error q=>
  obtain⟨k,p⟩:=q;rintro e w2 ⟨he,Vp⟩;obtain rfl:e=dY k p:=he;obtain rfl:r= .error (k,p):=HR.o.sy.J h;unfold dY;go_wp2
  exact⟨rfl,rfl,Vp⟩
 |ok bs=>
  rintro e w2 ⟨⟨a,n,c,cs,rfl,Vt,VF⟩,Vp⟩;have OK:=rY h;obtain rfl:n=bs.length:=fh Vt.1;obtain rfl:r= .ok bs:=HR.o.sy.J h;go_wp2_with fail;refine(Of w2 a c bs cs _ Vt VF OK (hg.O (Vp.block _ hg.lt)) (hbo.O (Vp.block _ hbo.lt))).V ?_;rintro e w3 ⟨v,y,rfl,hM,VG⟩;obtain⟨va,vn,vc,rfl⟩:=d5 hM.row.1;have C3:=eQ Vp VG;go_wp2_with fail;refine(I7 w3).V ?_;rintro e w4 ⟨kp,mk,rfl,hK,hkp,hmk,VH,Vu⟩;have C4:=eQ C3 Vu;have z3:=C3.size;have z2:=Vp.size;have zk:=hK.1.lt;have zm:=hK.2.lt;go_wp2;go_ret;refine⟨⟨w4.heap.size,kp,mk,rfl,_,y,dX.new w4 _ _,⟨C4.size,Vc,Vc,Vc,Vc,VH⟩,?_,(hK.1.alloc _),hK.2.O (Below.l _ _ _ zm)⟩,C4.alloc C4.size _⟩;have Vv:=hM.V (Q:=λb=>w.heap.size<=b/\b<w3.heap.size) (λx hx hl=>⟨Vc,hl⟩);have h5:=Vv.O (w':=w4) (λx _ hl=>Vu.block x hl);have h6:=h5.V (Q:=λb=>w.heap.size<=b/\b≠w4.heap.size/\b≠kp/\b≠mk) (λx hx hl=>⟨hx.1,Vc,Vc,Vc⟩);exact h6.O (λx _ hl=>Below.l _ _ _ hl)
def QM (k p:Int)(w:aw):(Instr.typeAssert (.iface 142 (.agg #[aa k,aa p])) 20 142 true).run prog w= .ok (.tuple #[.agg #[aa k,aa p],.bool true]) w:=Vh
def AI (x y v:Value): #[x,y]++(((Array.replicate 18 undef).setIfInBounds 3 v).setIfInBounds 0 v)= #[x,y,v,undef,undef,v,undef,undef,undef,undef,undef,undef,undef,undef,undef,undef,undef,undef,undef,undef]:=Vh
def LI (a b:Addr)(w:aw):
  CallsD prog 65 #[.pointer (some a),.pointer (some b)] .returning w λe u' w'=>e= .returned (.tuple #[])/\u'= .returning/\w'=w:=by
 refine callsD_of_wpS func65 rfl λc₀ cs hu=> ?_
 apply wpS_seq;apply wpS_region;simp[wpOpsS,go_sem,recoverD,hu,ntmps65,Exit.thenS];refine wpS_of_wp ?_;rw[AI];go_wp2;cases c₀;simp_all [bodyPostS,results,results65]
def F7 (ab bb:Nat)(k p:Int)(older:List PanicEntry)(w:aw)(x y:Value)(ha:w.cell? (aj ab 0)=some x)(hb:w.cell? (aj bb 0)=some y)(fa:w.frozen? (aj ab 0)=false)(fb:w.frozen? (aj bb 0)=false)(hab:¬ab=bb):
  CallsD prog 65 #[ah ab,ah bb] (.panicking ({v:= .iface 142 (.agg #[aa k,aa p]),recovered:=false}::older)) w λe u' w'=>
   e= .returned (.tuple #[])/\u'= .panicking ({v:= .iface 142 (.agg #[aa k,aa p]),recovered:=true}::older)/\
    w'=(((w.setCell (aj ab 0) (aa k)).setCell (aj bb 0) (aa p)).alloc (am #[aa k,aa p] 142)).drew:=by
 have hta:=QM k p;have la:=aV _ _ ha;have lb:=aV _ _ hb;simp only at la lb;have⟨p1,p2,p3,p4⟩:=gT (w:=w) (b:=ab) la;have⟨s1,s2,s3,s4⟩:=gT (w:=w) (b:=bb) lb;have hba:¬bb=ab:=λe=>hab e.sy
 refine callsD_of_wpS func65 rfl λc₀ cs hu=> ?_
 apply wpS_seq;apply wpS_region;simp[wpOpsS,go_sem,recoverD,hu,ntmps65,Exit.thenS];refine wpS_of_wp ?_;rw[AI];go_wp2;go_region
 exact⟨rfl,_,rfl,.tuple #[],by simp[results,results65],rfl,rfl,rfl⟩
def Ed (w:aw)(r:Except (Int×Nat) (List d7))(e:Ending)(w':aw):Prop:=
 (match r with
 | .error (k,p)=>e= .returned (.tuple #[.pointer none,aa k,aa p])
 | .ok bs=>∃sb kp mk,e= .returned (.tuple #[ah sb,aa 0,aa 0])/\Ec w' sb kp mk bs w.heap.size)/\ak w w'
def Sc (w:aw)(tb:Nat)(t:au)(hmax:t.size<=2^47)(hc:w.cell? (aj tb 0)=some (ag t))(hg:GOK w)(hbo:BOK w):
  U8 33 #[.func (Fn.func 34) #[] #[ah tb]] w (Ed w (iS t)):=by
 have hmf:= @wo;generalize hr:iS t=r;have HR:Hid (iS t=r):=hr;clear hr;have Vw:=aV _ _ hc;have B0:=((Va w).alloc (aE _) (am #[aa 0] 24)).alloc Vd (am #[aa 0] 3);go_enter_defers func33,ntmps33
 have Vx:((w.U5 #[aa 0] 24).U5 #[aa 0] 3).cell? (aj tb 0)=some (ag t):=(B0.cell (p:=(aj tb 0)) Vw).J hc;have Vy:GOK ((w.U5 #[aa 0] 24).U5 #[aa 0] 3):=hg.O (B0.block _ hg.lt);have Vr:BOK ((w.U5 #[aa 0] 24).U5 #[aa 0] 3):=hbo.O (B0.block _ hbo.lt);have K0:=(dX.new w #[aa 0] 24).alloc (am #[aa 0] 3);have K1:dX ((w.U5 #[aa 0] 24).U5 #[aa 0] 3) (w.heap.size+1) #[aa 0] 3:=(by have:=dX.new (w.U5 #[aa 0] 24) #[aa 0] 3;simpa using this);go_wp2_with fail;refine(Sb _ tb t hmax Vx Vy Vr).V ?_
 cases h:iS t with
 |error q=>
  obtain⟨k,p⟩:=q;rintro e w2 ⟨he,Vp⟩;obtain rfl:e=dY k p:=he;obtain rfl:r= .error (k,p):=HR.o.sy.J h;have K2:=K0.G Vp K0.lt;have K3:=K1.G Vp K1.lt;have C2:=B0.J (Vp.V B0.size);have⟨k1,k2⟩:=K2.I;have⟨k3,k4⟩:=K3.I;have z3:=K3.lt;unfold dY;refine leaves_cons (f:=65) (args:= #[ah w.heap.size,ah (w.heap.size+1)]) Vd (by simp[go_sem]) ?_;refine(F7 w.heap.size (w.heap.size+1) k p [] w2 _ _ (k1 0) (k3 0) (k2 0) (k4 0) Vc).V ?_;rintro e u' VI ⟨rfl,rfl,rfl⟩;have q0:=(((K2.set 0 (aa k)).other (c:=w.heap.size+1) 0 (aa p) Vc).alloc (am #[aa k,aa p] 142)).cell 0;have q1:=(((K3.other (c:=w.heap.size) 0 (aa k) Vc).set 0 (aa p)).alloc (am #[aa k,aa p] 142)).cell 0;have C3:ak w (((w2.setCell (aj w.heap.size 0) (aa k)).setCell (aj (w.heap.size+1) 0) (aa p)).alloc (am #[aa k,aa p] 142)).drew:=(((C2.setCell (p:=(aj w.heap.size 0)) (aE _) (aa k)).setCell (p:=(aj (w.heap.size+1) 0)) (bG _) (aa p)).alloc (by simp[World.setCell];omega) _).drew;simp at q0 q1;simp[Leaves,settle,results,results33,go_sem,q0,q1]
  exact⟨rfl,C3⟩
 |ok bs=>
  rintro e w2 ⟨⟨sb,kp,mk,rfl,Vs⟩,Vp⟩;obtain rfl:r= .ok bs:=HR.o.sy.J h;have K2:=K0.G Vp K0.lt;have K3:=K1.G Vp K1.lt;have C2:=B0.J (Vp.V B0.size);have⟨k1,k2⟩:=K2.I;have⟨k3,k4⟩:=K3.I;have z3:=K3.lt;go_wp2;refine leaves_cons (f:=65) (args:= #[ah w.heap.size,ah (w.heap.size+1)]) Vd (by simp[go_sem]) ?_;refine(LI (aj w.heap.size 0) (aj (w.heap.size+1) 0) _).V ?_;rintro e u' VI ⟨rfl,rfl,rfl⟩;have q0:=((K2.set 0 (aa 0)).other (c:=w.heap.size+1) 0 (aa 0) Vc).cell 0;have q1:=((K3.other (c:=w.heap.size) 0 (aa 0) Vc).set 0 (aa 0)).cell 0;have C3:ak w ((w2.setCell (aj w.heap.size 0) (aa 0)).setCell (aj (w.heap.size+1) 0) (aa 0)):=(C2.setCell (p:=(aj w.heap.size 0)) (aE _) (aa 0)).setCell (p:=(aj (w.heap.size+1) 0)) (bG _) (aa 0)
  have Vz:Ec ((w2.setCell (aj w.heap.size 0) (aa 0)).setCell (aj (w.heap.size+1) 0) (aa 0)) sb kp mk bs w.heap.size:=by
   obtain⟨v,y,h1,⟨h3,h4,h5,h6,h7,h8⟩,hM,hK⟩:=Vs;have VA:w.heap.size+2<=sb:=by simpa using h3
   have VB:w.heap.size+2<=kp:=by simpa using h4
   have VC:w.heap.size+2<=mk:=by simpa using h5
   have Vq:∀x,w.heap.size+2<=x->((w2.setCell (aj w.heap.size 0) (aa 0)).setCell (aj (w.heap.size+1) 0) (aa 0)).heap[x]?=w2.heap[x]?:=λx hx=>by rw[dW,dO Vc,dW,dO Vc]
   have VD:=hM.O (w':=((w2.setCell (aj w.heap.size 0) (aa 0)).setCell (aj (w.heap.size+1) 0) (aa 0))) (λx hx _=>Vq x (by simpa using hx.1))
   have VE:=VD.V (Q:=λb=>w.heap.size<=b/\b≠sb/\b≠kp/\b≠mk) (λx hx _=>by
    have h9:w.heap.size+2<=x:=by simpa using hx.1
    exact⟨Vc,hx.2⟩)
   exact⟨v,y,(Vq sb VA).J h1,⟨Vc,Vc,Vc,h6,h7,h8⟩,VE,(Vq kp VB).J hK.1,hK.2.O (Vq mk VC)⟩
  simp at q0 q1;simp[Leaves,settle,results,results33,go_sem,q0,q1];exact⟨⟨sb,kp,mk,rfl,Vz⟩,C3⟩
end
section
open Go.Maps
open Vo
def Hx (w:aw)(R:Fx PM)(e:Ending)(w':aw):Prop:=
 match R with
 | .error x=>e= .returned (.tuple #[.agg #[ai,U7],aa x.1,aa x.2])/\ak w w'
 | .ok m=>∃v Z',e= .returned (.tuple #[.agg #[v,ag m.unk],aa 0,aa 0])/\qw 9 w' v m Z'/\(∀b,Z' b->w.heap.size<=b/\b<w'.heap.size)/\ak w w'
def OJ (a b:Addr)(w:aw):
  CallsD prog 82 #[.pointer (some a),.pointer (some b)] .returning w λe u' w'=>e= .returned (.tuple #[])/\u'= .returning/\w'=w:=by
 refine callsD_of_wpS func82 rfl λc₀ cs hu=> ?_
 apply wpS_seq;apply wpS_region;simp[wpOpsS,go_sem,recoverD,hu,ntmps82,Exit.thenS];refine wpS_of_wp ?_;rw[AI];go_wp2;cases c₀;simp_all [bodyPostS,results,results82]
def I8 (ab bb:Nat)(k p:Int)(older:List PanicEntry)(w:aw)(x y:Value)(ha:w.cell? (aj ab 0)=some x)(hb:w.cell? (aj bb 0)=some y)(fa:w.frozen? (aj ab 0)=false)(fb:w.frozen? (aj bb 0)=false)(hab:¬ab=bb):
  CallsD prog 82 #[ah ab,ah bb] (.panicking ({v:= .iface 142 (.agg #[aa k,aa p]),recovered:=false}::older)) w λe u' w'=>
   e= .returned (.tuple #[])/\u'= .panicking ({v:= .iface 142 (.agg #[aa k,aa p]),recovered:=true}::older)/\
    w'=(((w.setCell (aj ab 0) (aa k)).setCell (aj bb 0) (aa p)).alloc (am #[aa k,aa p] 142)).drew:=by
 have hta:=QM k p;have la:=aV _ _ ha;have lb:=aV _ _ hb;simp only at la lb;have⟨p1,p2,p3,p4⟩:=gT (w:=w) (b:=ab) la;have⟨s1,s2,s3,s4⟩:=gT (w:=w) (b:=bb) lb;have hba:¬bb=ab:=λe=>hab e.sy
 refine callsD_of_wpS func82 rfl λc₀ cs hu=> ?_
 apply wpS_seq;apply wpS_region;simp[wpOpsS,go_sem,recoverD,hu,ntmps82,Exit.thenS];refine wpS_of_wp ?_;rw[AI];go_wp2;go_region
 exact⟨rfl,_,rfl,.tuple #[],by simp[results,results82],rfl,rfl,rfl⟩
def AJ {fn:Func}{p q r:Tmp}{ty ty' ty'':TypeId}{b b1 b2:Nat}{cs:aq}{fs:Array Field}{v1 v2:Value}(h:fn.results= #[.cell p ty,.cell q ty',.cell r ty''])(tmps:aq)(W:aw)
  (hp:tmps.getD p undef=ah b) (hq:tmps.getD q undef=ah b1) (hr:tmps.getD r undef=ah b2) (K:dX W b cs ty)
  (hu:prog.underlying ty=some (.struct fs)) (hi:(prog.info? ty).map (·.size)=some cs.size) (h1:(loadVar ty' (aj b1 0)).run prog W= .ok v1 W) (h2:(loadVar ty'' (aj b2 0)).run prog W= .ok v2 W):
  (results fn tmps).run prog W= .ok (.tuple #[.agg cs,v1,v2]) W:=by
 have hl:=run_loadVar_row (P:=prog) W b ty ty cs (0,0) _ K hu rfl hi;have Vp:tmps[p]?.getD undef=ah b:=by simpa using hp
 have Vq:tmps[q]?.getD undef=ah b1:=by simpa using hq
 have Vr:tmps[r]?.getD undef=ah b2:=by simpa using hr
 simp only[results,h];simp[Vp,Vq,Vr,asAddr,hl,h1,h2]
def Sy (w:aw)(y:List YM)(nm:au)(e:Ending)(w':aw):Prop:=
 w'=w/\((∃(i:Nat) (m:YM),y[i]?=some m/\(m.1.1.toList==nm.toList)=true/\e= .returned (.tuple #[ah m.1.2,aa 0]))\/
  ((∀m∈y,(m.1.1.toList==nm.toList)=false)/\e= .returned (.tuple #[.pointer none,aa 5])))
def Ee (w:aw)(sb:Nat)(v kv:Value)(bs:List d7)(y:List YM)(P:ax)(nm:au)(way:Int)(h1:dX w sb #[v,kv] 92)(hM:fU w P v bs y)(hl:y.length<=2001)(hw:way=1\/way=2):
  Calls prog 44 #[ah sb,aa way,ag nm] w (Sy w y nm):=by
 obtain⟨va,vc,rfl⟩:=iz hM.row.1;have⟨k1,k2⟩:=h1.I
 .go_in
  rcases hw with rfl|rfl
  all_goals
   go_wp2;go_loopw [9,23] (λ_ i wr=>∃(q:Nat),q<=y.length/\i=aa q/\(∀m∈y.take q,(m.1.1.toList==nm.toList)=false)/\wr=w) (λ_ i _=>y.length-(intOf i).toNat)
   case atStart=>exact⟨0,aP _,rfl,Vd,rfl⟩
   case round=>
    obtain⟨q,hq,rfl,Vr,rfl⟩:=hrel;by_cases hlt:q<y.length
    .have⟨m,hm⟩:=gx hlt;have Vq:Hid (y.take (q+1)=y.take q++ [m]):=by show _=_;rw[bT,hm];rfl
     obtain⟨g,rfl,_,hgl,Vp⟩:=eH hM.row.1 Vc;have t0:=Vp wr rfl q (gZ (some m.1.2)) (by simp[fx,hm]);unfold gZ at t0;have⟨fv,fbs,Vs,_,_,_⟩:=hM.msg m (aL hm);have⟨k3,k4⟩:=Vs.I;clear Vp
     cases hc:m.1.1.toList==nm.toList with
     |true=>
      have HM:Hid (y[q]?=some m):=hm;clear hm;go_wp2;go_ret2
      exact⟨rfl,.inl ⟨q,m,HM.o,hc,rfl⟩⟩
     |false=>
      clear hm;go_wp2;go_roundw
      case rel=>
       refine⟨q+1,Vc,by go_num,?_,trivial⟩;rw[Vq.o];intro x hx;rcases aW.1 hx with hx|hx;.exact Vr x hx
       .rw[ba.1 hx];exact hc
      case measure=>simp[intOf];omega
    .have hli:decide ((q:Int)<(y.length:Int))=false:=Ve;obtain rfl:q=y.length:=Vc;rw[bB]at Vr;go_wp2;go_ret2;exact⟨rfl,.inr ⟨Vr,rfl⟩⟩
def QN (R:Fx PM)(w:aw)(q0 q1 q2 q3 mb:Nat)(b:au)(hc0:w.cell? (aj q0 0)=some (aa 1))(hc1:w.cell? (aj q1 0)=some (ah mb))(hc2:w.cell? (aj q2 0)=some (ag b))
  (h:∀w0,ak w w0->U8 47 #[ah mb,ag b] w0 (mD w0 R)):
  Calls prog 46 #[ah q0,ah q1,ah q2,ah q3] w (mD w R):=by
 have⟨B0,KM⟩:=d8 w #[ai,U7] 49;have d0:=(B0.cell (p:=(aj q0 0)) (aV _ _ hc0)).J hc0;have d1:=(B0.cell (p:=(aj q1 0)) (aV _ _ hc1)).J hc1;have d2:=(B0.cell (p:=(aj q2 0)) (aV _ _ hc2)).J hc2;have HC:Hid (U8 47 #[ah mb,ag b] _ (mD _ R)):=h _ B0;clear h;go_in
 go_wp2_with fail;generalize w.alloc (am #[ai,U7] 49)=w1 at*;refine HC.o.V ?_
 cases R with
 |error x=>
  rintro e w2 ⟨rfl,Vp⟩;unfold dY;go_wp2
  exact⟨rfl,rfl,dU B0 Vp⟩
 |ok m=>
  rintro e w2 ⟨v,Z',rfl,hm,hZ,Vp⟩;obtain⟨va,vc,rfl⟩:=hm.form;have Vq:=KM.G Vp KM.lt;have C2:=dU B0 Vp;have z1:=KM.lt;have⟨k5,k6⟩:=Vq.I;clear d0 d1 d2 hc0 hc1 hc2;go_wp2
  have Vr:=hm.O (w':=(w2.setCell (aj w.heap.size 0) (.slice va m.fs.length vc)).setCell (aj w.heap.size 1) (ag m.unk)) (λx hx _=>by
   have:=(hZ x hx).1
   rw[dW,dO Vc,dW,dO Vc])
  exact dR (el results46 _ _ rfl ((Vq.set 0 _).set 1 _) underlying49 Vh) rfl ⟨_,Z',rfl,Vr,λx hx=>⟨by have:=(hZ x hx).1;omega,by simp only[cD];exact(hZ x hx).2⟩,(C2.setCell (p:=(aj w.heap.size 0)) (aE _) _).setCell (p:=(aj w.heap.size 1)) (aE _) _⟩
def uI {fn:Func}{p q r:Tmp}{ty:TypeId}{b:Nat}{cs:aq}{fs:Array Field}(h:fn.results= #[.cell p ty,.tmp q,.tmp r])(tmps:aq)(W:aw)(hp:tmps.getD p undef=ah b)(K:dX W b cs ty)
  (hu:prog.underlying ty=some (.struct fs)) (hi:(prog.info? ty).map (·.size)=some cs.size):
  (results fn tmps).run prog W= .ok (.tuple #[.agg cs,tmps.getD q undef,tmps.getD r undef]) W:=by
 have hl:=run_loadVar_row (P:=prog) W b ty ty cs (0,0) _ K hu rfl hi;have Vs:tmps[p]?.getD undef=ah b:=by simpa using hp
 simp only[results,h];simp[Vs,asAddr,hl]
end
section
open Vo
def yX (v c:Nat):Nat:=if c=0 then v%300 else if c=1 then 18446744073709551615-v%300 else if c=2 then v*17179869184 else if c=3 then v*4 else v
def JD (t v:Nat):Nat:=if t=0\/t=4\/t=9\/t=15 then(if v%4294967296<2147483648 then v%4294967296 else v%4294967296+18446744069414584320)else if t=2\/t=7\/t=11 then v%4294967296 else if t=6 then v%2 else v
def yY (raw:ar)(i t:Nat):Nat:=JD t (yX (jp raw i 1073741824) (jp raw (i+1) 6))
def MF (w:aw)(Z:ax)(gb:Nat)(raw:ar)(i t:Nat)(hG:Gv w Z gb raw i)(hi:i+2<1099511627776):Calls prog 106 #[ah gb,aa t] w λe w'=>e= .returned (.int .u64 (yY raw i t))/\Gv w' Z gb raw (i+2)/\ec [gb] w w':=by
 have h1:=λW (h:Gv W Z gb raw i)=>mG W Z gb raw i 1073741824 h Vc Vc
 have h2:=λW (h:Gv W Z gb raw (i+1))=>mG W Z gb raw (i+1) 6 h Vc Vc
 have l1:jp raw i 1073741824<1073741824:=ik _ Vc;have l2:jp raw (i+1) 6<6:=ik _ Vc;unfold yY;generalize jp raw i 1073741824=v at*;generalize jp raw (i+1) 6=c at*;go_in
 go_wp2_with fail;refine(h1 _ hG).V ?_;rintro e w1 ⟨rfl,g1,b1⟩;go_wp2_with fail;refine(h2 _ g1).V ?_;rintro e w2 ⟨rfl,g2,b2⟩;have hk:=b1.J b2;clear h1 h2 g1 b1 b2 hG;have hc:c=0\/c=1\/c=2\/c=3\/c=4\/c=5:=Vc;have hx:bits .xor .u64 IntKind.u64.max ((v:Int)%300)=18446744073709551615-(v:Int)%300:=(by have hk:∀k:Fin 300,bits .xor .u64 IntKind.u64.max (k.val:Int)=18446744073709551615-(k.val:Int):=Vg;have:=hk ⟨v%300,Vc⟩;simpa using this);rcases hc with rfl|rfl|rfl|rfl|rfl|rfl
 all_goals
  go_wp2
 all_goals
  go_ret;refine⟨dS (λx:Int=>Ending.returned (.int .u64 x)) ?_,g2,hk⟩;simp only[beq_iff_eq,beq_eq_false_iff_ne,ne_eq]at*;unfold JD;simp only[yX,if_true,if_false,reduceCtorEq,Nat.reduceEqDiff,Nat.zero_ne_one,Nat.one_ne_zero];clear g2 hk l2
  try rw[hx]
  clear hx
  try simp (disch:=omega) only[dB,wrap64,wrap32,IntKind.wrap_u64]
  first|omega|((repeat' split)<;>omega)
end
end Go.Proofs.YtfebdimolnobaaaGreatDoor
