import Derived.Test.YtfebdimolnobaaaGreatDoorDfE
import Derived.Deep.RegionHeld2
import Derived.Shelf.SlIter.Collect
set_option maxRecDepth 100000
set_option maxHeartbeats 8000000
set_option linter.all false
namespace Go.Proofs.YtfebdimolnobaaaGreatDoor
open Go.RowKit Go.Proofs.Tryz
section
attribute [local go_sem↓] Go.wp_at_zero Go.wp_at_succ
def Hj (m:PM)(n:Int)(e:Nat):Fx (List PV)->Fx (PM×Nat)
 | .error x=> .error x
 | .ok l=> .ok (m.put n l,e)
def oZ (k:Nat)(b:am)(n:Int)(m:PM):Fx (Nat×Nat)->Fx (PM×Nat)
 | .error x=> .error x
 | .ok y=>Hj m n y.2 (fy b k y.2 (y.2-y.1) (m.get n) y.1)
def D4.part {w:an}{rb:Nat}{s:am}{deep:Int}{r:Fx (Nat×Nat)}{e:Ending}{w':an}(h:D4 w rb s deep r e w'):
  (∃x,r= .error x/\e=dI x.1 x.2/\dS [rb] w w')\/∃x nb,r= .ok x/\e= .returned (ag nb)/\dS [rb] w w'/\w.heap.size<=nb/\nb≠rb/\dU w' nb (s.extract 0 x.2) x.1 deep/\dU w' rb s x.2 deep:=by
 obtain⟨h1,h2⟩:=h
 cases r with
 |error x=>exact .inl ⟨x,rfl,h2,h1⟩
 |ok x=>
  obtain⟨nb,q1,q2,q3,q4,q5⟩:=h2;exact .inr ⟨x,nb,rfl,q1,h1,q2,q3,q4,q5⟩
def lr (w:an)(nb e:Nat):Nat:=
 match w.cell? (ai nb 1)with
 |some (.int _ n)=>((e:Int)-n).toNat
 |_=>0
def gU {w:an}{nb a e:Nat}{s:am}{deep:Int}(h:dU w nb s a deep):lr w nb e=e-a:=by
 unfold lr;rw[dK.cell h];simp
structure MA (S:d8)(k:Nat)(d:MT)(B:Nat)(w wr:an)(Z Z':ap)(rb nb db fb y1 y2:Nat)(b s:am)(deep:Nat)(fcs:Array Value)(bs:Nat)(m:PM)(n:Int)(a:Nat)(l:List PV)(F:Nat)(P:Fx (List PV)):Prop where
 st:el w Z rb wr Z'
 rn:dU wr nb (b.extract 0 y2) a deep
 rr:dU wr rb s y2 deep
 dr:ed S (k+1) (some d) wr Z' db (m.put n l)
 fd:dK wr fb fcs 220
 lo:y1<=a
 hi:a<=y2
 ll:l.length<=a
 eq:Hid (P=fy b bs y2 F l a)
 fu:y2-a<=F
 zz:∀x,Z' x->B<=x/\x<wr.heap.size
 zn:¬Z' nb
def el.keptN {a b c:an}{Z Y:ap}{rb nb:Nat}(h:el a Z rb b Y)(k:dS [nb] b c)(hn:a.heap.size<=nb):el a Z rb c Y:=
 ⟨k.os.trans h.os,k.tape.trans h.tape,k.output.trans h.output,aH h.size k.size,λi hi q1 q2=>(k.block i (aC hi h.size) QF).trans (h.block i hi q1 q2),h.grow⟩
def Dg (w:an)(B:Nat)(S:d8)(mp:am->Option Nat)(k:Nat)(d:MT)(f:eP)(g:GF)(fb:Nat)(Z:ap)(rb db:Nat)(b:am)(e a z deep F:Nat)(num:Int)(m:PM)
  (I:nD w B S mp k d Z rb db b e a z deep m) (hfa:eG w (λb=>b<B) mp g fb) (fg:FG S mp d f g) (hf:g.form=2) (hb:S.base f.ty<=15) (hw:ei (S.base f.ty)≠2) (hff:dP d.fs f.num=some f):
  Calls prog 192 #[ag fb,aa 2,ag rb,ag db] w (gR S k d w Z rb db (b.extract 0 e) deep (jx S b F d f m deep (fh (b.extract 0 e) a num 2 z))):=by
 have QV:jx S b F d f m deep (fh (b.extract 0 e) a num 2 z)=oZ (S.base f.ty) b f.num m (eJ (b.extract 0 e) z):=by
  rw[BD fg hf hw]
  cases eJ (b.extract 0 e) z with
  |error x=>rfl
  |ok y=>simp only[oZ];cases fy b (S.base f.ty) y.2 (y.2-y.1) (m.get f.num) y.1<;>rfl
 rw[QV];clear QV;obtain⟨pv,rv,h1,hfB,_,Re⟩:=hfa.blk;have Rg:ee mp g=S.base f.ty:=by unfold ee;rw[dA QD,fg.eq,fg.base]
 rw[Rg,fg.eq]at h1;obtain⟨Rz,_,_⟩:=kF fg QD hb;obtain⟨ok1,ok2⟩:=nE hff Rz;have Rh:(b.extract 0 e).size=e:=fX I.eb;have hl:=I.wm.len;have hab:=I.az;have hze:=I.ze;have heb:=I.eb;have hbs:=I.bs;have Ri:=I.rB;have Q2:=I.rZ;have hu1:=I.cx.u1;have hu2:=I.cx.u2;have Q3:rb<w.heap.size:=dK.lt I.hr;have hW:=oM w (S.base f.ty) pv QD;have Q4:∀w2,dU w2 rb (b.extract 0 e) z deep->Calls prog 197 #[ag rb] w2 (D4 w2 rb (b.extract 0 e) deep (eJ (b.extract 0 e) z)):=λw2 h=>nt w2 rb _ z deep h QD
 have QP:=I.hd.srt;obtain⟨R,hR⟩:∃R,eJ (b.extract 0 e) z=R:=⟨_,rfl⟩;rw[hR]at Q4⊢;have HR:Hid (eJ (b.extract 0 e) z=R):=hR;clear hR;obtain⟨pq,rfl⟩:=gi Re;clear Re;obtain⟨k1,k2⟩:=h1.rules;have hne:((2:Int)==(ei (S.base f.ty):Int))=false:=QF;go_enter func192,ntmps192;go_wp2_with fail;refine hW.mono ?_;rintro en w2 ⟨rfl,B2⟩;have h2:=h1.below B2 h1.lt;have Rj:dU w2 rb (b.extract 0 e) z deep:=dK.below I.hr B2 Q3;have Rk:=I.hd.keep (λx _ q=>B2.block x q);clear k1 k2 hW;go_wp2_with fail;refine(Q4 w2 Rj).mono ?_;intro en w3 hq
 rcases hq.part with⟨x,rfl,rfl,QR⟩|⟨y,nb,rfl,rfl,QR,RA,RB,QU,Q0⟩
 ·unfold dI;go_wp2;exact⟨rfl,rfl,Z,(el.of_below B2).trans (.of_kept QR)⟩
 obtain⟨y1,y2⟩:=y;obtain⟨v0,v1,v2⟩:=it HR.out;rw[Rh]at v2;have Rl:(b.extract 0 e).extract 0 y2=b.extract 0 y2:=jw I.eb v2;simp only[Rl]at QU;have Q5:(b.extract 0 y2).size=y2:=fX QD;have h3:=h2.kept QR QF;have Rm:=el.dr Rk QR Q2;have Q6:w.heap.size<=nb:=aH B2.size RA;have Rn:=I.cx.le
 have P0:MA S k d B w w3 Z Z rb nb db fb y1 y2 b (b.extract 0 e) deep #[aa f.num,aa g.form,aa (S.base f.ty),.pointer pq,rv] (S.base f.ty) m f.num y1 (m.get f.num) (y2-y1) (fy b (S.base f.ty) y2 (y2-y1) (m.get f.num) y1):=
  ⟨(el.of_below B2).trans (.of_kept QR),QU,Q0,by rw[El QP.1 QP.2];exact Rm,h3,ay _,v1,by have:=hl.2.2 f.num;omega,rfl,ay _,λx q=>⟨(I.hZ x q).1,aC (I.hZ x q).2 (aH B2.size QR.size)⟩,λq=>by have:=(I.hZ nb q).2;omega⟩
 obtain⟨P,hP⟩:∃P,fy b (S.base f.ty) y2 (y2-y1) (m.get f.num) y1=P:=⟨_,rfl⟩
 have HQ:Hid (oZ (S.base f.ty) b f.num m (.ok (y1,y2))=Hj m f.num y2 P):=by
  show Hj m f.num y2 (fy b (S.base f.ty) y2 (y2-y1) (m.get f.num) y1)=_;rw[hP]
 rw[hP]at P0;clear hP;go_wp2;go_loopw [30] (λ_ wr=>∃Z' a' l F',MA S k d B w wr Z Z' rb nb db fb y1 y2 b (b.extract 0 e) deep #[aa f.num,aa g.form,aa (S.base f.ty),.pointer pq,rv] (S.base f.ty) m f.num a' l F' P) (λ_ wr=>lr wr nb y2)
 case atStart=>exact⟨Z,y1,_,_,P0⟩
 case round=>
  obtain⟨Z',a',l,F',O⟩:=hrel;have hM:=qC wr nb _ a' deep O.rn;rw[Q5]at hM;have hlo:=O.lo;have hhi:=O.hi;have hll:=O.ll;go_wp2_with fail;refine hM.mono ?_;rintro en w4 ⟨rfl,q,rfl⟩
  by_cases hlt:a'<y2
  ·have hd:decide (a'<y2)=true:=decide_eq_true hlt;obtain⟨F2,rfl⟩:∃F2,F'=F2+1:=⟨F'-1,by have:=O.fu;omega⟩;have Q7:Below B w wr:=O.st.below Rn (λx q=>(I.hZ x q).1) Ri;have hu:UOK (wr.drewN q).drew:=(I.cx.on Q7).u
   have hV:∀w1,dU w1 nb (b.extract 0 y2) a' deep->UOK w1->Calls prog 194 #[.agg #[aa (S.base f.ty),.pointer pq],ag nb] w1 (oL w1 nb (b.extract 0 y2) deep (fY (b.extract 0 y2) a' (S.base f.ty)) tO):=
    λw1 h1 h2=>oO w1 nb _ a' deep _ _ h1 QD QD hb h2 QD QD
   have Ro:S.base f.ty≠13:=λq=>hw (by rw[q];rfl)
   have Rp:S.base f.ty≠14:=λq=>hw (by rw[q];rfl)
   have QW:fY (b.extract 0 y2) a' (S.base f.ty)=match gp (b.extract 0 y2) a' (S.base f.ty)with| .error x=> .error x| .ok x=> .ok ((x.1,⟨#[]⟩),x.2):=by
    unfold fY;rw[dA Ro,dA Rp]
    cases gp (b.extract 0 y2) a' (S.base f.ty)<;>rfl
   have QX:=xS (k:=S.base f.ty) (F:=F2) (l:=l) (show y2<=b.size by omega) hlt
   have QT:Hid (∀x,fY (b.extract 0 y2) a' (S.base f.ty)= .error x->oZ (S.base f.ty) b f.num m (.ok (y1,y2))= .error x):=λx hx=>by
    rw[HQ.out,O.eq.out,QX];rw[QW]at hx
    cases hn:gp (b.extract 0 y2) a' (S.base f.ty)with
    |error y=>rw[hn]at hx;cases hx;rfl
    |ok y=>rw[hn]at hx;cases hx
   have Q8:Hid (∀x,fY (b.extract 0 y2) a' (S.base f.ty)= .ok x->P=fy b (S.base f.ty) y2 F2 (l++ [oU x.1]) x.2):=λx hx=>by
    rw[O.eq.out,QX];rw[QW]at hx
    cases hn:gp (b.extract 0 y2) a' (S.base f.ty)with
    |error y=>rw[hn]at hx;cases hx
    |ok y=>rw[hn]at hx;cases hx;rfl
   clear QW QX;have Rq:ed S (k+1) (some d) (wr.drewN q).drew Z' db (m.put f.num l):=O.dr.keep (λ_ _ _=>rfl)
   have hA:∀w5:an,∀v:LV,ed S (k+1) (some d) w5 Z' db (m.put f.num l)->Calls prog 268 #[ag db,aa f.num,tO v] w5 (jA S k (some d) w5 Z' db (m.put f.num (l++ [oU v]))):=λw5 v RC=>by
    have h1:=PM.put_len m f.num l;have h2:=BE QP.1 f.num l;have:=vI S k (some d) w5 Z' db (m.put f.num l) f.num v RC ok1 (.inl ok2) QD (by rw[h2];omega);rw[h2,Ek QP.1]at this;exact this
   obtain⟨Rv,Q1⟩:∃Rv,fY (b.extract 0 y2) a' (S.base f.ty)=Rv:=⟨_,rfl⟩
   have Rr:Hid (∀x,Rv= .ok x->a'<x.2/\x.2<=y2):=λx hx=>by
    have:=BC hb (Q1.trans hx);rw[Q5]at this;exact⟨this.1,this.2.1⟩
   rw[Q1]at hV QT Q8;clear Q1;have Q9:dK (wr.drewN q).drew fb #[aa f.num,aa g.form,aa (S.base f.ty),.pointer pq,rv] 220:=O.fd;have hfl:fb<wr.heap.size:=dK.lt O.fd;have Rs:dU (wr.drewN q).drew nb (b.extract 0 y2) a' deep:=O.rn;have QV:dU (wr.drewN q).drew rb (b.extract 0 e) y2 deep:=O.rr;have Ra:el w Z rb (wr.drewN q).drew Z':=O.st.trans (.of_below (iE (Below.refl _ _) q).drew);have QY:=O.zn;have Rb:=O.zz;have Rt:¬Z' rb:=O.st.not Q3 Q2;obtain⟨k3,k4⟩:=Q9.rules;obtain⟨k9,k10⟩:=dK.rules O.fd;have HM:Hid (lr wr nb y2=y2-a'):=gU O.rn;have Ru:Hid (y2-a'<=F2+1):=O.fu;clear O hM;go_upto_region 4 with fail
   go_region_with
    (first
     |(
       go_at_call 194;refine(hV (wr.drewN q).drew Rs hu).mono ?_;intro en w5 RD
       rcases RD.part with⟨x,rfl,rfl,QQ⟩|⟨x,rfl,rfl,QQ,Rf⟩
       ·unfold dI;go_wp2;rw[QT.out x rfl];exact⟨rfl,rfl,Z',Ra.keptN QQ Q6⟩
       have h5:=Q9.kept QQ QF
       obtain⟨k5,k6⟩:=h5.rules)
     |(
       go_at_call 268;refine(hA w5 x.1 (el.dr Rq QQ QY)).mono ?_;rintro en w6 ⟨rfl,Z6,QS,RE⟩;have h6:=h5.step QS (λq=>by have:=(Rb fb q).1;omega)
       obtain⟨k7,k8⟩:=h6.rules))
   all_goals
    have Rw:=Rr.out x rfl;have Rc:dU w6 nb (b.extract 0 y2) x.2 deep:=dK.step Rf QS QY;have Rx:=(Ra.keptN QQ Q6).trans (.of_step QS);have Ry:dU w6 rb (b.extract 0 e) y2 deep:=dK.step (dK.kept QV QQ (by simp;exact λe=>RB e.symm)) QS Rt;have QZ:nb<w5.heap.size:=dK.lt Rf
    have PN:MA S k d B w w6 Z (λi=>Z6 i/\i<w6.heap.size) rb nb db fb y1 y2 b (b.extract 0 e) deep #[aa f.num,aa g.form,aa (S.base f.ty),.pointer pq,rv] (S.base f.ty) m f.num x.2 (l++ [oU x.1]) F2 P:=
     ⟨Rx.clip,Rc,Ry,RE.clip,h6,QD,Rw.2,QF,Q8.out x rfl,by have:=Ru.out;omega,λi q=>⟨(QS.grow i q.1).elim (λe=>(Rb i e).1) (λe=>by have h8:wr.heap.size<=w5.heap.size:=QQ.size;have:=Q7.size;omega),q.2⟩,λq=>QS.not QZ QY q.1⟩
    go_wp2;go_roundw
    case rel=>exact⟨_,_,_,_,PN⟩
    case measure=>rw[HM.out,gU Rc];omega
  ·have hd:decide (a'<y2)=false:=decide_eq_false hlt
   have HE:Hid (oZ (S.base f.ty) b f.num m (.ok (y1,y2))= .ok (m.put f.num l,y2)):=by
    show _=_;rw[HQ.out,O.eq.out]
    have:fy b (S.base f.ty) y2 F' l a'= .ok l:=by
     cases F' with
     |zero=>rfl
     |succ F'=>rw[fy,dA hlt]
    rw[this];rfl
   go_wp2;go_end0;rw[HE.out];exact⟨rfl,Z',O.st.trans (.of_below (iE (Below.refl _ _) q)),O.dr.keep (λ_ _ _=>rfl),O.rr⟩
end
section
variable {w:an} {S:d8} {mp:am->Option Nat} {d sub:MT} {rb z deep:Nat} {b s:am} {m:PM} {num:Int} {f:eP} {g:GF}
def Hl (S:d8)(mp:am->Option Nat)(B:Nat)(b:am)(F:Nat):Prop:=
 ∀(w:an) (Z:ap) (sub:MT) (m:PM) (a e deep k mb:Nat) (gs:List GF) (nm:am) (rb db:Nat),rC w B S mp->iF w (λb=>b<B) mp mb nm gs->kc S mp sub gs->kU S sub->dU w rb (b.extract 0 e) a deep->ed S (k+1) (some sub) w Z db m->
  (∀x,Z x->B<=x/\x<w.heap.size)->B<=rb->¬Z rb->a<=e->e<=b.size->e-a<F->k+deep=8->WM S a sub m->
  Calls prog 83 #[ag mb,ag rb,ag db] w (gR S k sub w Z rb db (b.extract 0 e) deep (nC e (ew S b F sub m a e deep)))
theorem nD.on {w1:an}{B:Nat}{k:Nat}{Z Z1:ap}{db:Nat}{e a:Nat}{m1:PM}(I:nD w B S mp k d Z rb db b e a z deep m)(st:el w Z rb w1 Z1)(hd:ed S (k+1) (some d) w1 Z1 db m1)(hr:dU w1 rb (b.extract 0 e) z deep)(hw:WM S a d m1):
  nD w1 B S mp k d (λi=>Z1 i/\i<w1.heap.size) rb db b e a z deep m1:=
 ⟨I.cx.on (st.below I.cx.le (λx q=>(I.hZ x q).1) I.rB),hr,hd.clip,λx q=>⟨(st.grow x q.1).elim (λq=>(I.hZ x q).1) (λq=>aH I.cx.le q),q.2⟩,I.rB,λq=>st.not (dK.lt I.hr) I.rZ q.1,I.az,I.ze,I.eb,I.bs,hw⟩
def Ke (sin:Bool)(m:PM)(n:Int):Fx (LV×Nat)->Fx (PM×Nat)
 | .error x=> .error x
 | .ok x=> .ok (if sin=true/\x.1.1=0/\gE x.1.2 eS=true then m.put n []else m.put n [oU x.1],x.2)
theorem Em {F a e:Nat}(fg:FG S mp d f g)(h4:g.form≠4)(h2:g.form≠2)(hb:S.base f.ty<=15)(he:e<=b.size):
  jx S b F d f m deep (fh (b.extract 0 e) a num (ei (S.base f.ty)) z)=Ke (decide (g.form=0)) (m.without g.riv) f.num (fY (b.extract 0 e) z (S.base f.ty)):=by
 rw[vu (b.extract 0 e) a num z _ hb]
 cases hr:fh (b.extract 0 e) a num (ei (S.base f.ty)) z with
 |error x=>rfl
 |ok r=>
  have hk:=mh (BA _) hr;obtain⟨_,_,h3,_⟩:=oY hr;rw[fX he]at h3;obtain⟨_,hs,hm⟩:=kF fg h4 hb;have QS:f.isRep=false:=by rw[fg.rep];simp[h2]
  simp only[jx,xg,Bl];rw[dB (by unfold fA;rw[hm];exact hk)];unfold oS mW;rw[hs];simp only;rw[Bn rfl hb hk h3 he]
  cases xf (b.extract 0 e) (S.base f.ty) r with
  |error x=>rfl
  |ok v=>
   simp only[Ec,nC,Ke];unfold gB;rw[hm,QS,hs,fg.sin,vE,fg.riv];simp only[aL,if_false,Option.isNone_none,cU,aJ,dD]
   by_cases h0:g.form=0
   ·have QT:=fg.lone QD;rw[<-fg.riv,QT,iN];simp only[h0,true_and];rfl
   ·simp only[h0,false_and,if_false];rfl
theorem pO (fg:FG S mp d f g)(hS:Bt S)(hs:eR S f=some sub)(hd:deep<=8):ot S sub (deep+1)=decide (8<(deep:Int)+jF mp g)/\0<=jF mp g/\jF mp g<=2/\ee mp g=16:=by
 unfold jF
 by_cases h4:g.form=4
 ·have QP:ee mp g=16:=by unfold ee;rw[dB h4]
  have hm:f.isMap=true:=by rw[fg.map,h4];rfl
  have QU:sub=eo f:=by
   unfold eR at hs;rw[dB hm]at hs;exact(Option.some.inj hs).symm
  subst QU
  have QQ:ot S (eo f) (deep+1)=if deep+1=8 then(S.msg f.ty).isSome else decide (8<deep+1):=by
   unfold ot eo;have e1:gE eS eS=true:=by unfold gE;simp
   simp only[e1,cF,di]
   by_cases q:deep+1=8
   ·simp[q]
   ·have q2:(deep+1 !=8)=true:=QF;rw[q2,dB rfl,dA q]
  have QR:iU mp g.f.ty=S.base f.ty:=by rw[fg.eq,fg.base]
  by_cases hn:S.base f.ty=16
  ·have hl:(if g.form=4/\iU mp g.f.ty=16 then(2:Int)else if ee mp g=16 then 1 else 0)=2:=dB ⟨h4,by rw[QR];exact hn⟩;rw[hl,QQ,fg.nest.1 hn];refine⟨?_,QD,QD,QP⟩
   split
   ·simp;omega
   ·rw[decide_eq_decide];omega
  ·have QV:(S.msg f.ty).isSome=false:=by rw[cg];exact λq=>hn (fg.nest.2 q)
   have hl:(if g.form=4/\iU mp g.f.ty=16 then(2:Int)else if ee mp g=16 then 1 else 0)=1:=by rw[dA (λq=>hn (by rw[<-QR];exact q.2)),dB QP]
   rw[hl,QQ,QV];refine⟨?_,QD,QD,QP⟩
   split
   ·simp;omega
   ·rw[decide_eq_decide];omega
 ·have hm:¬f.isMap=true:=by rw[fg.map];simp[h4]
  unfold eR at hs;rw[dA hm]at hs;have hb:S.base f.ty=16:=fg.nest.2 (by rw[hs];rfl);have QP:ee mp g=16:=by unfold ee;rw[dA h4,fg.eq,fg.base,hb]
  rw[dA (λq=>h4 q.1),dB QP];refine⟨?_,QD,QD,QP⟩;unfold ot;rw[hS.name sub (iP hs)];simp;omega
def Fm (M:PM->PM)(e:Nat):Fx PM->Fx (PM×Nat)
 | .error x=> .error x
 | .ok sm=> .ok (M sm,e)
def tR (S:d8)(b:am)(F:Nat)(sub:MT)(m0:PM)(deep:Nat)(M:PM->PM):Fx (Nat×Nat)->Fx (PM×Nat)
 | .error x=> .error x
 | .ok y=>Fm M y.2 (ew S b F sub m0 y.1 y.2 (deep+1))
theorem En {F a e:Nat}(fg:FG S mp d f g)(hS:Bt S)(hs:eR S f=some sub)(hd:deep<=8):
  jx S b F d f m deep (fh (b.extract 0 e) a num 2 z)=tR S b F sub (eH f m).2.2 deep (λsm=>gB S d f m ((eH f m).1,(eH f m).2.1,sm)) (lW (b.extract 0 e) z deep (jF mp g)):=by
 have e2:fh (b.extract 0 e) a num 2 z=_:=sw (b.extract 0 e) a num z;rw[e2];unfold lW
 cases eJ (b.extract 0 e) z with
 |error x=>rfl
 |ok y=>
  obtain⟨h1,_,_,h4⟩:=pO fg hS hs hd
  have hw:fA S f=2:=by
   unfold fA
   split
   ·rfl
   ·rename_i q
    unfold eR at hs;rw[dA q]at hs;have:=fg.nest.2 (by rw[hs];rfl);unfold d8.wire;rw[this];rfl
  simp only[jx,xg];rw[dB hw.symm];unfold oS mW xd;rw[hs];simp only;rw[h1]
  by_cases q:8<(deep:Int)+jF mp g
  ·rw[dB q];simp[q,tR,Ec,nC]
  ·rw[dA q];simp only[q,decide_false,aL,if_false,tR]
   cases ew S b F sub (eH f m).2.2 y.1 y.2 (deep+1)<;>rfl
theorem GL.part {deep:Int}{r:Fx (Nat×Nat)}{e:Ending}{w':an}(h:GL w rb s deep r e w'):
  (∃x,r= .error x/\e=dI x.1 x.2/\dS [rb] w w')\/∃x nb,r= .ok x/\e= .returned (ag nb)/\dS [rb] w w'/\w.heap.size<=nb/\nb≠rb/\dU w' nb (s.extract 0 x.2) x.1 (deep+1)/\dU w' rb s x.2 deep:=by
 obtain⟨h1,h2⟩:=h
 cases r with
 |error x=>exact .inl ⟨x,rfl,h2,h1⟩
 |ok x=>
  obtain⟨nb,q1,q2,q3,q4,q5⟩:=h2;exact .inr ⟨x,nb,rfl,q1,h1,q2,q3,q4,q5⟩
theorem rF {deep lv:Int}{y:Nat×Nat}(h:lW s z deep lv= .ok y):eJ s z= .ok y/\deep+lv<=8:=by
 unfold lW at h
 cases hw:eJ s z with
 |error x=>rw[hw]at h;cases h
 |ok x=>
  rw[hw]at h;simp only at h
  split at h
  ·cases h
  ·cases h
   exact⟨rfl,QD⟩
end
section
attribute [local go_sem↓] Go.wp_at_zero Go.wp_at_succ
def Hm (w:an)(B:Nat)(S:d8)(mp:am->Option Nat)(k:Nat)(d:MT)(f:eP)(g:GF)(fb:Nat)(Z:ap)(rb db:Nat)(b:am)(e a z deep F:Nat)(num kind:Int)(m:PM)
  (I:nD w B S mp k d Z rb db b e a z deep m) (hfa:eG w (λb=>b<B) mp g fb) (fg:FG S mp d f g) (hf:g.form=2) (hb:S.base f.ty<=15) (hff:dP d.fs f.num=some f) (hk:kind=ei (S.base f.ty)\/(kind=2/\ei (S.base f.ty)≠2)):
  Calls prog 133 #[ag fb,aa kind,ag rb,ag db] w (gR S k d w Z rb db (b.extract 0 e) deep (jx S b F d f m deep (fh (b.extract 0 e) a num kind z))):=by
 obtain⟨pv,rv,h1,Rm,QR,Q6⟩:=hfa.blk;have Rc:ee mp g=S.base f.ty:=by unfold ee;rw[dA QD,fg.eq,fg.base]
 have Re:=fg.lone QD;rw[Re]at QR;have hD:=od S k (some d) w Z db m rv [] I.hd QR.1 QE (λx hx q=>by have:=QR.2 x hx;have:=(I.hZ x q).1;omega);rw[iN]at hD
 have HR:∀w1 Z1,fi w Z w1 Z1->ed S (k+1) (some d) w1 Z1 db m->Calls prog 192 #[ag fb,aa kind,ag rb,ag db] w1 (gR S k d w Z rb db (b.extract 0 e) deep (jx S b F d f m deep (fh (b.extract 0 e) a num kind z))):=λw1 Z1 st QW=>by
  have Ra:el w Z rb w1 Z1:= .of_step st;have Rl:=Ra.below I.cx.le (λx q=>(I.hZ x q).1) I.rB;have I1:=I.on Ra QW (dK.step I.hr st I.rZ) I.wm;have Q1:=hfa.keep (w':=w1) (λx q _=>Rl.block x q)
  rcases hk with rfl|⟨rfl,hw⟩
  ·exact(Df w1 B S mp k d f g fb _ rb db b e a z deep F num m I1 Q1 fg hf hb hff).mono λ_ _ q=>q.pre Ra.clip
  ·exact(Dg w1 B S mp k d f g fb _ rb db b e a z deep F num m I1 Q1 fg hf hb hw hff).mono λ_ _ q=>q.pre Ra.clip
 rw[Rc,fg.eq,hf]at h1;obtain⟨R,hR⟩:∃R,jx S b F d f m deep (fh (b.extract 0 e) a num kind z)=R:=⟨_,rfl⟩;rw[hR]at HR⊢;clear hR;obtain⟨pq,rfl⟩:=gi Q6;obtain⟨ra,rn,rc,rfl⟩:=dL QR.1;obtain⟨k1,k2⟩:=h1.rules;have Rf:((S.base f.ty:Int)==16)=false:=QF;have Rb:=h1.lt;clear Q6 hk;go_enter func133,ntmps133;go_wp2_with fail;refine hD.mono ?_;rintro en w1 ⟨rfl,Z1,st1,QW⟩;have h2:=h1.step st1 (λq=>by have:=(I.hZ fb q).1;omega);clear k1 k2 hD;obtain⟨k1,k2⟩:=h2.rules;go_wp2_with fail;refine(HR w1 Z1 st1 QW).mono ?_;intro en w2 hq
 cases R with
 |error x=>
  obtain⟨rfl,hq⟩:=hq;unfold dI;go_wp2;exact⟨rfl,rfl,hq⟩
 |ok x=>
  obtain⟨rfl,hq⟩:=hq;go_wp2;go_end0;exact⟨rfl,hq⟩
def Hn (w:an)(B:Nat)(S:d8)(mp:am->Option Nat)(k:Nat)(d:MT)(f:eP)(g:GF)(fb:Nat)(Z:ap)(rb db:Nat)(b:am)(e a z deep F:Nat)(num:Int)(m:PM)
  (I:nD w B S mp k d Z rb db b e a z deep m) (hfa:eG w (λb=>b<B) mp g fb) (fg:FG S mp d f g) (h4:g.form≠4) (h2:g.form≠2) (hb:S.base f.ty<=15) (hff:dP d.fs f.num=some f):
  Calls prog 133 #[ag fb,aa (ei (S.base f.ty)),ag rb,ag db] w (gR S k d w Z rb db (b.extract 0 e) deep (jx S b F d f m deep (fh (b.extract 0 e) a num (ei (S.base f.ty)) z))):=by
 rw[Em fg h4 h2 hb I.eb];obtain⟨pv,rv,h1,Rm,QR,Q6⟩:=hfa.blk;have Rc:ee mp g=S.base f.ty:=by unfold ee;rw[dA h4,fg.eq,fg.base]
 rw[Rc,fg.eq]at h1;have hD:=od S k (some d) w Z db m rv g.riv I.hd QR.1 fg.rlen (λx hx q=>by have:=QR.2 x hx;have:=(I.hZ x q).1;omega);obtain⟨Rn,_,_⟩:=kF fg h4 hb;obtain⟨ok1,ok2⟩:=nE hff Rn;have hes:(b.extract 0 e).size=e:=fX I.eb
 have hl:(m.without g.riv).fs.length<=a:=by
  have:=I.wm.len.1;exact aH (bW _ _) this
 have hab:=I.az;have hze:=I.ze;have heb:=I.eb;have hbs:=I.bs;have hrb:=I.rB;have Q0:=I.rZ;have Rg:=I.hZ;have hBw:=I.cx.le;have Rh:rb<w.heap.size:=dK.lt I.hr
 have hV:∀w1,dU w1 rb (b.extract 0 e) z deep->UOK w1->Calls prog 194 #[.agg #[aa (S.base f.ty),pv],ag rb] w1 (oL w1 rb (b.extract 0 e) deep (fY (b.extract 0 e) z (S.base f.ty)) tO):=
  λw1 h1 h2=>oO w1 rb _ z deep _ pv h1 QD QD hb h2 (by have:=I.cx.u1;have:=I.rB;omega) (by have:=I.cx.u2;have:=I.rB;omega)
 obtain⟨R,hR⟩:∃R,fY (b.extract 0 e) z (S.base f.ty)=R:=⟨_,rfl⟩;rw[hR]at hV⊢;clear hR;obtain⟨m1,Rj⟩:∃m1,m.without g.riv=m1:=⟨_,rfl⟩;rw[Rj]at hD hl⊢;clear Rj;have hu:∀w1 Z1,fi w Z w1 Z1->UOK w1:=λw1 Z1 st=>(I.cx.on ((el.of_step (rb:=rb) st).below I.cx.le (λx q=>(I.hZ x q).1) I.rB)).u
 obtain⟨pq,rfl⟩:=gi Q6;obtain⟨ra,rn,rc,rfl⟩:=dL QR.1;have Rf:((S.base f.ty:Int)==16)=false:=QF;have hr0:=I.hr;clear Q6;have Q2:=fg.form;have Rb:=h1.lt
 rcases Q2 with hf|hf|hf|hf|hf
 ·rw[hf]at h1⊢
  have HA:Hid (∀(w3:an) (Z1:ap) (v:LV),ed S (k+1) (some d) w3 Z1 db m1->(∀x,Z1 x->x<w3.heap.size)->Calls prog 193 #[ag db,aa f.num,tO v] w3 (jA S k (some d) w3 Z1 db (if v.1=0/\gE v.2 eS=true then m1.put f.num []else m1.put f.num [oU v]))):=
   λw3 Z1 v Q7 Ro=>Ee S k (some d) w3 Z1 db m1 f.num v Q7 ok1 (.inl ok2) QD Ro
  obtain⟨k1,k2⟩:=h1.rules;go_enter func133,ntmps133;go_wp2_with fail;refine hD.mono ?_;rintro en w1 ⟨rfl,Rk,QS,QT⟩;obtain⟨Z1,st1,QW,Ri⟩:∃Z1,fi w Z w1 Z1/\ed S (k+1) (some d) w1.drew Z1 db m1/\∀x,Z1 x->x<w1.heap.size:=⟨_,QS.clip,QT.clip.keep (λ_ _ _=>rfl),λx q=>q.2⟩;clear QS QT;have QX:¬Z fb:=λq=>by have:=(Rg fb q).1;omega
  have QY:=h1.step st1 QX;have QZ:dK w1.drew fb #[aa f.num,aa 0,aa (S.base f.ty),.pointer pq,.slice ra rn rc] 220:=QY;have Q3:dU w1.drew rb (b.extract 0 e) z deep:=dK.step hr0 st1.drew Q0;have QQ:¬Z1 rb:=st1.not Rh Q0;have QU:¬Z1 fb:=st1.not Rb QX;have Q4:UOK w1.drew:=hu w1 Z1 st1;clear k1 k2 hD;obtain⟨k1,k2⟩:=QY.rules;obtain⟨k3,k4⟩:=QZ.rules;go_upto_region 13 with fail
  go_region_with
   (first
    |(
      go_at_call 194;refine(hV w1.drew Q3 Q4).mono ?_;intro en w3 hq
      rcases hq.part with⟨x,rfl,rfl,QP⟩|⟨x,rfl,rfl,QP,Q8⟩
      ·unfold dI;go_wp2;exact⟨rfl,rfl,Z1,(el.of_step st1.drew).trans (.of_kept QP)⟩
      have h3:=QZ.kept QP QF
      obtain⟨k5,k6⟩:=h3.rules)
    |(
      go_at_call 193;refine(HA.out w3 Z1 x.1 (el.dr QW QP QQ) (λi q=>aC (Ri i q) QP.size)).mono ?_;rintro en w4 ⟨rfl,Z4,QV,Q9⟩;have Q5:=h3.step QV QU
      obtain⟨k7,k8⟩:=Q5.rules))
  all_goals
   go_wp2;go_end0;refine⟨rfl,Z4,((el.of_step st1.drew).trans (.of_kept QP)).trans (.of_step QV),?_,dK.step Q8 QV QQ⟩;simp only[decide_true,true_and];exact Q9
 ·rw[hf]at h1⊢
  have HA:Hid (∀(w3:an) (Z1:ap) (v:LV),ed S (k+1) (some d) w3 Z1 db m1->Calls prog 195 #[ag db,aa f.num,tO v] w3 (jA S k (some d) w3 Z1 db (m1.put f.num [oU v]))):=
   λw3 Z1 v Q7=>vw S k (some d) w3 Z1 db m1 f.num v Q7 ok1 (.inl ok2) QD
  obtain⟨k1,k2⟩:=h1.rules;go_enter func133,ntmps133;go_wp2_with fail;refine hD.mono ?_;rintro en w1 ⟨rfl,Rk,QS,QT⟩;obtain⟨Z1,st1,QW,Ri⟩:∃Z1,fi w Z w1 Z1/\ed S (k+1) (some d) w1.drew Z1 db m1/\∀x,Z1 x->x<w1.heap.size:=⟨_,QS.clip,QT.clip.keep (λ_ _ _=>rfl),λx q=>q.2⟩;clear QS QT;have QX:¬Z fb:=λq=>by have:=(Rg fb q).1;omega
  have QY:=h1.step st1 QX;have QZ:dK w1.drew fb #[aa f.num,aa 1,aa (S.base f.ty),.pointer pq,.slice ra rn rc] 220:=QY;have Q3:dU w1.drew rb (b.extract 0 e) z deep:=dK.step hr0 st1.drew Q0;have QQ:¬Z1 rb:=st1.not Rh Q0;have QU:¬Z1 fb:=st1.not Rb QX;have Q4:UOK w1.drew:=hu w1 Z1 st1;clear k1 k2 hD;obtain⟨k1,k2⟩:=QY.rules;obtain⟨k3,k4⟩:=QZ.rules;go_upto_region 1 with fail
  go_region_with
   (first
    |(
      go_at_call 194;refine(hV w1.drew Q3 Q4).mono ?_;intro en w3 hq
      rcases hq.part with⟨x,rfl,rfl,QP⟩|⟨x,rfl,rfl,QP,Q8⟩
      ·unfold dI;go_wp2;exact⟨rfl,rfl,Z1,(el.of_step st1.drew).trans (.of_kept QP)⟩
      have h3:=QZ.kept QP QF
      obtain⟨k5,k6⟩:=h3.rules)
    |(
      go_at_call 195;refine(HA.out w3 Z1 x.1 (el.dr QW QP QQ)).mono ?_;rintro en w4 ⟨rfl,Z4,QV,Q9⟩;have Q5:=h3.step QV QU
      obtain⟨k7,k8⟩:=Q5.rules))
  all_goals
   go_wp2;go_end0;refine⟨rfl,Z4,((el.of_step st1.drew).trans (.of_kept QP)).trans (.of_step QV),?_,dK.step Q8 QV QQ⟩;exact Q9
 ·exact absurd hf h2
 ·rw[hf]at h1⊢
  have HA:Hid (∀(w3:an) (Z1:ap) (v:LV),ed S (k+1) (some d) w3 Z1 db m1->Calls prog 195 #[ag db,aa f.num,tO v] w3 (jA S k (some d) w3 Z1 db (m1.put f.num [oU v]))):=
   λw3 Z1 v Q7=>vw S k (some d) w3 Z1 db m1 f.num v Q7 ok1 (.inl ok2) QD
  obtain⟨k1,k2⟩:=h1.rules;go_enter func133,ntmps133;go_wp2_with fail;refine hD.mono ?_;rintro en w1 ⟨rfl,Rk,QS,QT⟩;obtain⟨Z1,st1,QW,Ri⟩:∃Z1,fi w Z w1 Z1/\ed S (k+1) (some d) w1.drew Z1 db m1/\∀x,Z1 x->x<w1.heap.size:=⟨_,QS.clip,QT.clip.keep (λ_ _ _=>rfl),λx q=>q.2⟩;clear QS QT;have QX:¬Z fb:=λq=>by have:=(Rg fb q).1;omega
  have QY:=h1.step st1 QX;have QZ:dK w1.drew fb #[aa f.num,aa 3,aa (S.base f.ty),.pointer pq,.slice ra rn rc] 220:=QY;have Q3:dU w1.drew rb (b.extract 0 e) z deep:=dK.step hr0 st1.drew Q0;have QQ:¬Z1 rb:=st1.not Rh Q0;have QU:¬Z1 fb:=st1.not Rb QX;have Q4:UOK w1.drew:=hu w1 Z1 st1;clear k1 k2 hD;obtain⟨k1,k2⟩:=QY.rules;obtain⟨k3,k4⟩:=QZ.rules;go_upto_region 1 with fail
  go_region_with
   (first
    |(
      go_at_call 194;refine(hV w1.drew Q3 Q4).mono ?_;intro en w3 hq
      rcases hq.part with⟨x,rfl,rfl,QP⟩|⟨x,rfl,rfl,QP,Q8⟩
      ·unfold dI;go_wp2;exact⟨rfl,rfl,Z1,(el.of_step st1.drew).trans (.of_kept QP)⟩
      have h3:=QZ.kept QP QF
      obtain⟨k5,k6⟩:=h3.rules)
    |(
      go_at_call 195;refine(HA.out w3 Z1 x.1 (el.dr QW QP QQ)).mono ?_;rintro en w4 ⟨rfl,Z4,QV,Q9⟩;have Q5:=h3.step QV QU
      obtain⟨k7,k8⟩:=Q5.rules))
  all_goals
   go_wp2;go_end0;refine⟨rfl,Z4,((el.of_step st1.drew).trans (.of_kept QP)).trans (.of_step QV),?_,dK.step Q8 QV QQ⟩;exact Q9
 ·exact absurd hf h4
end
section
variable {S:d8} {d sub:MT} {f:eP} {deep:Nat} {num:Int} (w:an)
attribute [local go_sem↓] Go.wp_at_zero Go.wp_at_succ
structure zK (S:d8)(d:MT)(f:eP)(sub:MT):Prop where
 hs:eR S f=some sub
 hm:f.isMap=false
theorem zK.kind (h:zK S d f sub)(hf:dP d.fs f.num=some f):ny S (some d) f.num .msgs/\(∀kd,ny S (some d) f.num kd->kd= .msgs)/\mX S (some d) f.num=some sub:=by
 have hk:oq S f= .msgs:=by unfold oq;rw[h.hm,h.hs];rfl
 exact⟨λd' f' e1 e2=>by cases e1;rw[hf]at e2;cases e2;exact hk.symm,λkd q=>by rw[q d f rfl hf,hk],by unfold mX;simp[hf,h.hs]⟩
def qI (g:GF)(m:PM)(n:Int)(sm:PM):PM:=if g.form=2 then m.put n (m.get n++ [mV sm])else(m.without g.riv).put n [mV sm]
theorem zL {mp:am->Option Nat}{b:am}{F a z e:Nat}{g:GF}{m:PM}(fg:FG S mp d f g)(hS:Bt S)(h:zK S d f sub)(hd:deep<=8)(hf:dP d.fs f.num=some f)(hw:WM S a d m):
  jx S b F d f m deep (fh (b.extract 0 e) a num 2 z)=tR S b F sub (if g.form=2 then PM.none else((m.get f.num).headD PV.none).2.2) deep (qI g m f.num) (lW (b.extract 0 e) z deep (jF mp g)):=by
 rw[En fg hS h.hs hd];obtain⟨⟨t1,t2⟩,_⟩:=lK hw hf h.hs
 have hM:(λsm=>gB S d f m ((eH f m).1,(eH f m).2.1,sm))=qI g m f.num:=funext λsm=>by
  rw[t1,t2];unfold gB qI;rw[h.hm,fg.rep,h.hs];simp only[aL,if_false,dD,Option.isNone_some,cr,cl];rw[vE,fg.riv];rfl
 rw[hM]
 have Sa:(eH f m).2.2=if g.form=2 then PM.none else((m.get f.num).headD PV.none).2.2:=by
  unfold eH;rw[h.hm,fg.rep]
  by_cases q:g.form=2
  ·simp only[q,decide_true,cz,if_true];rfl
  ·simp[q]
 rw[Sa]
theorem gR.part {k:Nat}{w:an}{Z:ap}{rb db:Nat}{s:am}{e:Nat}{P:Fx PM}{en:Ending}{w':an}(h:gR S k d w Z rb db s deep (nC e P) en w'):
  (∃x,P= .error x/\en=dI x.1 x.2/\∃Z',el w Z rb w' Z')\/∃sm,P= .ok sm/\en= .returned (.tuple #[])/\∃Z',el w Z rb w' Z'/\ed S (k+1) (some d) w' Z' db sm:=by
 cases P with
 |error x=>exact .inl ⟨x,rfl,h.1,h.2⟩
 |ok sm=>
  obtain⟨h1,Z',h2,h3,_⟩:=h;exact .inr ⟨sm,rfl,h1,Z',h2,h3⟩
section
variable {S:d8} {k:Nat} {T T':Option MT} {w w3 w4 w5:an} {Z Z3 Z4 Z5 C:ap} {rb nb db p y deep:Nat} {s:am} {M:PM->PM} {sm:PM}
theorem nF (QQ:el w Z rb w3 Z3)(hn:w.heap.size<=nb)(QP:fi w3 Z3 w4 Z4)(hC:∀b,C b->Z4 b)(QS:el w4 C nb w5 Z5):el w Z rb w5 (λb=>Z4 b\/Z5 b):=by
 have RY:∀i,Z4 i->Z i\/w.heap.size<=i:=λi q=>(QP.grow i q).elim (QQ.grow i) (λe=> .inr (aH QQ.size e))
 refine⟨QS.os.trans (QP.os.trans QQ.os),QS.tape.trans (QP.tape.trans QQ.tape),QS.output.trans (QP.output.trans QQ.output),aH QQ.size (aH QP.size QS.size),λi hi q1 q2=> ?_,λi q=> ?_⟩
 ·have h3:i<w3.heap.size:=aC hi QQ.size;have n3:=QQ.not hi q1;have n4:=QP.not h3 n3;exact((QS.block i (aC h3 QP.size) (λe=>n4 (hC i e)) QD).trans (QP.block i h3 n3)).trans (QQ.block i hi q1 q2)
 ·rcases q with q|q
  ·exact RY i q
  ·exact(QS.grow i q).elim (λe=>RY i (hC i e)) (λe=> .inr (aH (aH QQ.size QP.size) e))
theorem vJ (QQ:el w Z rb w3 Z3)(Q9:rb<w.heap.size)(hrZ:¬Z rb)(hn3:nb<w3.heap.size)(Q6:¬Z3 nb)(Rz:nb≠rb)(hrr:dU w3 rb s y deep)(QP:fi w3 Z3 w4 Z4)(hH:JY S k T w4 Z4 db p C T' M)(QS:el w4 C nb w5 Z5)(RA:ed S k T' w5 Z5 p sm):
  ed S (k+1) T w5 (λb=>Z4 b\/Z5 b) db (M sm)/\dU w5 rb s y deep:=by
 have Sb:¬Z4 nb:=QP.not hn3 Q6;have RZ:¬Z3 rb:=QQ.not Q9 hrZ;have h3:rb<w3.heap.size:=aC Q9 QQ.size;have Sc:¬Z4 rb:=QP.not h3 RZ;refine⟨hH.2 w5 Z5 sm (λb hz hc hl=>QS.block b hl hc (λe=>Sb (e▸hz))) QS.size QS.grow RA,?_⟩;exact((QS.block rb (aC h3 QP.size) (λe=>Sc (hH.1 rb e)) (λe=>Rz e.symm)).trans (QP.block rb h3 RZ)).trans hrr
end
theorem Ho (B:Nat)(S:d8)(mp:am->Option Nat)(k:Nat)(d:MT)(f:eP)(g:GF)(fb:Nat)(Z:ap)(rb db:Nat)(b:am)(e a z deep F:Nat)(num:Int)(m:PM)(sub:MT)
  (I:nD w B S mp k d Z rb db b e a z deep m) (hfa:eG w (λb=>b<B) mp g fb) (fg:FG S mp d f g) (hff:dP d.fs f.num=some f) (hS:Bt S) (hM:zK S d f sub) (h2:g.form≠2) (hkd:k+deep=8) (hRd:Hl S mp B b F) (hF:e-z<=F):
  Calls prog 133 #[ag fb,aa 2,ag rb,ag db] w (gR S k d w Z rb db (b.extract 0 e) deep (jx S b F d f m deep (fh (b.extract 0 e) a num 2 z))):=by
 have h4:g.form≠4:=λq=>by have:=hM.hm;rw[fg.map,q]at this;cases this
 obtain⟨Rk,Ru,Rw,Rx⟩:=pO (deep:=deep) fg hS hM.hs QD;rw[zL fg hS hM QD hff I.wm,dA h2];obtain⟨ok1,ok2,RL⟩:=hM.kind hff;obtain⟨pv,rv,h1,Sk,QT,Rl⟩:=hfa.blk;rw[dA h4,fg.eq]at Rl;have Ra:S.msg f.ty=some sub:=by have:=hM.hs;unfold eR at this;rw[hM.hm]at this;exact this
 obtain⟨QZ,gs,RM,RN,RO⟩:=I.cx.md f.ty sub Ra;rw[RM]at Rl;subst Rl;rw[Rx,fg.eq]at h1;have hD:=od S k (some d) w Z db m rv g.riv I.hd QT.1 fg.rlen (λx hx q=>by have:=QT.2 x hx;have:=(I.hZ x q).1;omega);have RB:(b.extract 0 e).size=e:=fX I.eb;have Sd:=I.az;have Se:=I.ze;have RC:=I.eb;have Sf:=I.bs;have Ro:=I.rB;have Rb:=I.rZ;have Q4:=I.hZ;have Rc:=I.cx.le;have Q9:rb<w.heap.size:=dK.lt I.hr;have Sg:=h1.lt;have hL:=λw1 (h:eG w1 (λb=>b<B) mp g fb)=>oN w1 (λb=>b<B) mp g fb h
 have Re:=λw1 (h:dU w1 rb (b.extract 0 e) z deep)=>nw w1 rb (b.extract 0 e) z deep (jF mp g) h QD QD QD Ru Rw
 obtain⟨Q0,QU⟩:∃Q0,jF mp g=Q0:=⟨_,rfl⟩;rw[QU]at hL Re⊢
 have Rp:Hid (∀y:Nat×Nat,lW (b.extract 0 e) z deep Q0= .ok y->z<y.1/\y.1<=y.2/\y.2<=e/\1<=k/\(b.extract 0 e).extract 0 y.2=b.extract 0 y.2):=λy hy=>by
  obtain⟨q1,q2⟩:=rF hy;obtain⟨v0,v1,v2⟩:=it (z:=y.1) (e:=y.2) q1;rw[RB]at v2
  have Sh:1<=Q0:=by
   rw[<-QU];unfold jF;rw[dA (λq=>h4 q.1),dB Rx];exact dj _
  exact⟨v0,v1,v2,QD,jw RC v2⟩
 clear QU Ru Rw Rk;obtain⟨R,hR⟩:∃R,lW (b.extract 0 e) z deep Q0=R:=⟨_,rfl⟩;rw[hR]at Re Rp⊢;clear hR;have RD:¬Z fb:=λq=>by have:=(Q4 fb q).1;omega
 have R8:(m.without g.riv).get f.num=m.get f.num:=tA (by rw[fg.riv];exact Ef d f)
 have Rq:WM S a sub ((m.get f.num).headD PV.none).2.2:=by
  have:=(lK I.wm hff hM.hs).2;unfold eH at this;rw[hM.hm,fg.rep]at this;simpa [h2]using this
 have hlen:(m.without g.riv).fs.length<=a:=aH (bW _ _) I.wm.len.1;have RE:tt (some d) f.num:=⟨d,f,rfl,hff,by rw[fg.rep];simp[h2]⟩
 have HP:Hid (∀k',k=k'+1->∀(w3:an) (Z3:ap),ed S (k+1) (some d) w3 Z3 db (m.without g.riv)->(∀x,Z3 x->x<w3.heap.size)->Calls prog 191 #[ag db,aa f.num] w3 (qs S k (some d) w3 Z3 db (some sub) ((m.get f.num).headD PV.none).2.2 (qI g m f.num))):=by
  rintro k' rfl w3 Z3 Rh RP;have:=vy S k' (some d) w3 Z3 db (m.without g.riv) f.num Rh ok1 ok2 RE QD RP;rw[RL,R8]at this;have RF:qI g m f.num=λm'=>(m.without g.riv).put f.num [mV m']:=funext λsm=>by unfold qI;rw[dA h2]
  rw[RF];exact this
 have Rr:Hid (∀k',k=k'+1->∀(w4:an) (C:ap) (y:Nat×Nat) (nb p:Nat),Below B w w4->z<y.1->y.1<=y.2->y.2<=e->dU w4 nb (b.extract 0 y.2) y.1 ((deep:Int)+1)->ed S k (some sub) w4 C p ((m.get f.num).headD PV.none).2.2->(∀x,C x->B<=x/\x<w4.heap.size)->B<=nb->¬C nb->
   Calls prog 83 #[ag QZ,ag nb,ag p] w4 (gR S k' sub w4 C nb p (b.extract 0 y.2) (deep+1) (nC y.2 (ew S b F sub ((m.get f.num).headD PV.none).2.2 y.1 y.2 (deep+1))))):=by
  rintro k' rfl w4 C y nb p Q8 v0 v1 v2 RQ Rm hC RT Rj;exact hRd w4 C sub _ y.1 y.2 (deep+1) k' QZ gs sub.name nb p (I.cx.on Q8) (RN.keep (λx q _=>Q8.block x q)) RO (hS.good.sub hM.hs) (by rw[df];exact RQ) Rm hC RT Rj v1 QD QD QD (Rq.mono QD)
 have RG:∀w1,Below B w w1->eG w1 (λb=>b<B) mp g fb:=λw1 Rf=>hfa.keep (λx q _=>Rf.block x q)
 have hr0:=I.hr;obtain⟨m0,Ry⟩:∃m0,((m.get f.num).headD PV.none).2.2=m0:=⟨_,rfl⟩;rw[Ry]at HP Rr⊢;clear Ry Rq R8;obtain⟨m1,R9⟩:∃m1,m.without g.riv=m1:=⟨_,rfl⟩;rw[R9]at hD HP;clear R9 hlen;obtain⟨ra,rn,rc,rfl⟩:=dL QT.1;have hf4:(g.form==4)=false:=by simpa using h4
 have hf2:(g.form==2)=false:=by simpa using h2
 unfold gC at h1;obtain⟨k1,k2⟩:=h1.rules;go_enter func133,ntmps133;go_wp2_with fail;refine hD.mono ?_;rintro en w1 ⟨rfl,Sl,QR,Q1⟩;obtain⟨Z1,st1,RU,Q2⟩:∃Z1,el w Z rb w1.drew Z1/\ed S (k+1) (some d) w1.drew Z1 db m1/\∀x,Z1 x->B<=x/\x<w1.heap.size:=⟨_,.of_step QR.clip.drew,Q1.clip.keep (λ_ _ _=>rfl),λx q=>⟨(QR.grow x q.1).elim (λe=>(Q4 x e).1) (λe=>aH Rc e),q.2⟩⟩;have Rs:=h1.step QR RD;have RH:dU w1.drew rb (b.extract 0 e) z deep:=dK.step hr0 QR.drew Rb;clear QR Q1 k1 k2 hD;have Q5:dK w1.drew fb #[aa f.num,aa g.form,aa 16,ag QZ,.slice ra rn rc] 220:=Rs;have Rf:Below B w w1.drew:=st1.below Rc (λx q=>(Q4 x q).1) Ro;have Rg:¬Z1 rb:=st1.not Q9 Rb;obtain⟨k1,k2⟩:=Rs.rules;obtain⟨k3,k4⟩:=Q5.rules;have QW:Hid (∀y:Nat×Nat,tR S b F sub m0 deep (qI g m f.num) (.ok y)=Fm (qI g m f.num) y.2 (ew S b F sub m0 y.1 y.2 (deep+1))):=λ_=>rfl
 go_upto_region 9 with fail
 go_region_held2 (λw'=>w'.cell? (ai fb 0)=some (aa f.num)/\w'.cell? (ai fb 3)=some (ag QZ))
  (first|exact⟨h5.cell 0,h5.cell 3⟩|exact⟨Q7.cell 0,Q7.cell 3⟩|exact⟨h3.cell 0,h3.cell 3⟩|exact⟨Q5.cell 0,Q5.cell 3⟩)
  (first
   |(
     go_at_call 186;refine(hL w1.drew (RG w1.drew Rf)).mono ?_
     rintro en w2 ⟨rfl,rfl⟩)
   |(
     go_at_call 185;refine(Re w1.drew RH).mono ?_;intro en w3 hq
     rcases hq.part with⟨x,rfl,rfl,QV⟩|⟨y,nb,rfl,rfl,QV,RV,Rz,Q3,Rn⟩
     ·unfold dI;go_wp2;exact⟨rfl,rfl,Z1,st1.trans (.of_kept QV)⟩
     obtain⟨v0,v1,v2,v3,v4⟩:=Rp.out y rfl;obtain⟨k',rfl⟩:∃k',k=k'+1:=⟨k-1,QD⟩;have h3:=Q5.kept QV QF;have QQ:=st1.trans (.of_kept QV);have Rh:=el.dr RU QV Rg;have Si:w.heap.size<=w1.heap.size:=st1.size;have Sj:w1.heap.size<=w3.heap.size:=QV.size;have RI:w1.heap.size<=nb:=RV;have QX:nb<w3.heap.size:=dK.lt Q3;have Q6:¬Z1 nb:=λq=>by have:=(Q2 nb q).2;omega
     have QY:dU w3 nb (b.extract 0 y.2) y.1 ((deep:Int)+1):=by rw[<-v4];exact Q3)
   |(
     go_at_call 191;refine(HP.out k' rfl w3 Z1 Rh (λx q=>by have:=(Q2 x q).2;omega)).mono ?_;rintro en w4 ⟨p,Z4,C,rfl,QP,Rm,hH,RW⟩;have Rt:∀x,Z4 x->B<=x:=λx q=>(QP.grow x q).elim (λe=>(Q2 x e).1) (λe=>QD)
     have Q7:=h3.step QP (λq=>by have:=(Q2 fb q).1;omega);have Ri:dU w4 nb (b.extract 0 y.2) y.1 ((deep:Int)+1):=dK.step QY QP Q6;have Q8:Below B w w4:=⟨QP.os.trans QQ.os,QP.tape.trans QQ.tape,QP.output.trans QQ.output,aH QQ.size QP.size,λi hi=>(QP.block i QD (λq=>by have:=(Q2 i q).1;omega)).trans ((QQ.below Rc (λx q=>(Q4 x q).1) Ro).block i hi)⟩
     have Rj:¬C nb:=λq=>QP.not QX Q6 (hH.1 nb q))
   |(
     go_at_call 83;refine(Rr.out k' rfl w4 C y nb p Q8 v0 v1 v2 Ri Rm (λx q=>⟨Rt x (hH.1 x q),RW x q⟩) QD Rj).mono ?_;intro en w5 RX
     rcases RX.part with⟨x,hP,rfl,Z5,QS⟩|⟨sm,hP,rfl,Z5,QS,RA⟩
     ·unfold dI;go_wp2;rw[QW.out y,hP];exact⟨rfl,rfl,_,nF QQ QD QP hH.1 QS⟩
     have h5:dK w5 fb #[aa f.num,aa g.form,aa 16,ag QZ,.slice ra rn rc] 220:=(QS.block fb Q7.lt (λq=>by have:=Rt fb (hH.1 fb q);omega) QD).trans Q7;have RJ:Hid (ew S b F sub m0 y.1 y.2 (deep+1)= .ok sm):=hP
     clear hP))
 all_goals
  go_wp2;go_end0;rw[QW.out y,RJ.out];exact⟨rfl,_,nF QQ QD QP hH.1 QS,vJ QQ Q9 Rb QX Q6 Rz Rn QP hH QS RA⟩
theorem Fo (B:Nat)(S:d8)(mp:am->Option Nat)(k:Nat)(d:MT)(f:eP)(g:GF)(fb:Nat)(Z:ap)(rb db:Nat)(b:am)(e a z deep F:Nat)(num:Int)(m:PM)(sub:MT)
  (I:nD w B S mp k d Z rb db b e a z deep m) (hfa:eG w (λb=>b<B) mp g fb) (fg:FG S mp d f g) (hff:dP d.fs f.num=some f) (hS:Bt S) (hM:zK S d f sub) (h2:g.form=2) (hkd:k+deep=8) (hRd:Hl S mp B b F) (hF:e-z<=F):
  Calls prog 133 #[ag fb,aa 2,ag rb,ag db] w (gR S k d w Z rb db (b.extract 0 e) deep (jx S b F d f m deep (fh (b.extract 0 e) a num 2 z))):=by
 have h4:g.form≠4:=λq=>by have:=hM.hm;rw[fg.map,q]at this;cases this
 obtain⟨Rk,Ru,Rw,Rx⟩:=pO (deep:=deep) fg hS hM.hs QD;rw[zL fg hS hM QD hff I.wm,dB h2];obtain⟨ok1,ok2,RL⟩:=hM.kind hff;obtain⟨pv,rv,h1,Sk,QT,Rl⟩:=hfa.blk;rw[dA h4,fg.eq]at Rl;have Ra:S.msg f.ty=some sub:=by have:=hM.hs;unfold eR at this;rw[hM.hm]at this;exact this
 obtain⟨QZ,gs,RM,RN,RO⟩:=I.cx.md f.ty sub Ra;rw[RM]at Rl;subst Rl;rw[Rx,fg.eq]at h1;have hD:=od S k (some d) w Z db m rv g.riv I.hd QT.1 fg.rlen (λx hx q=>by have:=QT.2 x hx;have:=(I.hZ x q).1;omega);have RB:(b.extract 0 e).size=e:=fX I.eb;have Sd:=I.az;have Se:=I.ze;have RC:=I.eb;have Sf:=I.bs;have Ro:=I.rB;have Rb:=I.rZ;have Q4:=I.hZ;have Rc:=I.cx.le;have Q9:rb<w.heap.size:=dK.lt I.hr;have Sg:=h1.lt;have hL:=λw1 (h:eG w1 (λb=>b<B) mp g fb)=>oN w1 (λb=>b<B) mp g fb h
 have Re:=λw1 (h:dU w1 rb (b.extract 0 e) z deep)=>nw w1 rb (b.extract 0 e) z deep (jF mp g) h QD QD QD Ru Rw
 obtain⟨Q0,QU⟩:∃Q0,jF mp g=Q0:=⟨_,rfl⟩;rw[QU]at hL Re⊢
 have Rp:Hid (∀y:Nat×Nat,lW (b.extract 0 e) z deep Q0= .ok y->z<y.1/\y.1<=y.2/\y.2<=e/\1<=k/\(b.extract 0 e).extract 0 y.2=b.extract 0 y.2):=λy hy=>by
  obtain⟨q1,q2⟩:=rF hy;obtain⟨v0,v1,v2⟩:=it (z:=y.1) (e:=y.2) q1;rw[RB]at v2
  have Sh:1<=Q0:=by
   rw[<-QU];unfold jF;rw[dA (λq=>h4 q.1),dB Rx];exact dj _
  exact⟨v0,v1,v2,QD,jw RC v2⟩
 clear QU Ru Rw Rk;obtain⟨R,hR⟩:∃R,lW (b.extract 0 e) z deep Q0=R:=⟨_,rfl⟩;rw[hR]at Re Rp⊢;clear hR;have RD:¬Z fb:=λq=>by have:=(Q4 fb q).1;omega
 have RK:=fg.lone QD;rw[RK,iN]at hD;have Rq:WM S a sub PM.none:=WM.none S a sub;have hlen:=I.wm.len
 have HP:Hid (∀k',k=k'+1->∀(w3:an) (Z3:ap),ed S (k+1) (some d) w3 Z3 db m->(∀x,Z3 x->x<w3.heap.size)->Calls prog 190 #[ag db,aa f.num] w3 (qs S k (some d) w3 Z3 db (some sub) PM.none (qI g m f.num))):=by
  rintro k' rfl w3 Z3 Rh RP;have:=mY S k' (some d) w3 Z3 db m f.num (Rh.slot QD) ok1 ok2 (λ⟨d',f',e1,e2,e3⟩=>by cases e1;rw[hff]at e2;cases e2;rw[fg.rep,h2]at e3;cases e3) (by have:=hlen.2.2 f.num;omega) (λq=>by have:=RP _ q;omega);rw[RL]at this;have RF:qI g m f.num=λm'=>m.put f.num (m.get f.num++ [mV m']):=funext λsm=>by unfold qI;rw[dB h2]
  rw[RF];exact this
 have Rr:Hid (∀k',k=k'+1->∀(w4:an) (C:ap) (y:Nat×Nat) (nb p:Nat),Below B w w4->z<y.1->y.1<=y.2->y.2<=e->dU w4 nb (b.extract 0 y.2) y.1 ((deep:Int)+1)->ed S k (some sub) w4 C p PM.none->(∀x,C x->B<=x/\x<w4.heap.size)->B<=nb->¬C nb->
   Calls prog 83 #[ag QZ,ag nb,ag p] w4 (gR S k' sub w4 C nb p (b.extract 0 y.2) (deep+1) (nC y.2 (ew S b F sub PM.none y.1 y.2 (deep+1))))):=by
  rintro k' rfl w4 C y nb p Q8 v0 v1 v2 RQ Rm hC RT Rj;exact hRd w4 C sub _ y.1 y.2 (deep+1) k' QZ gs sub.name nb p (I.cx.on Q8) (RN.keep (λx q _=>Q8.block x q)) RO (hS.good.sub hM.hs) (by rw[df];exact RQ) Rm hC RT Rj v1 QD QD QD (Rq.mono QD)
 have RG:∀w1,Below B w w1->eG w1 (λb=>b<B) mp g fb:=λw1 Rf=>hfa.keep (λx q _=>Rf.block x q)
 have hr0:=I.hr;obtain⟨m0,Ry⟩:∃m0,PM.none=m0:=⟨_,rfl⟩;rw[Ry]at HP Rr⊢;clear Ry Rq hlen;obtain⟨ra,rn,rc,rfl⟩:=dL QT.1;rw[h2]at h1;unfold gC at h1;obtain⟨k1,k2⟩:=h1.rules;go_enter func133,ntmps133;go_wp2_with fail;refine hD.mono ?_;rintro en w1 ⟨rfl,Sl,QR,Q1⟩;obtain⟨Z1,st1,RU,Q2⟩:∃Z1,el w Z rb w1.drew Z1/\ed S (k+1) (some d) w1.drew Z1 db m/\∀x,Z1 x->B<=x/\x<w1.heap.size:=⟨_,.of_step QR.clip.drew,Q1.clip.keep (λ_ _ _=>rfl),λx q=>⟨(QR.grow x q.1).elim (λe=>(Q4 x e).1) (λe=>aH Rc e),q.2⟩⟩;have Rs:=h1.step QR RD;have RH:dU w1.drew rb (b.extract 0 e) z deep:=dK.step hr0 QR.drew Rb;clear QR Q1 k1 k2 hD;have Q5:dK w1.drew fb #[aa f.num,aa 2,aa 16,ag QZ,.slice ra rn rc] 220:=Rs;have Rf:Below B w w1.drew:=st1.below Rc (λx q=>(Q4 x q).1) Ro;have Rg:¬Z1 rb:=st1.not Q9 Rb;obtain⟨k1,k2⟩:=Rs.rules;obtain⟨k3,k4⟩:=Q5.rules;have QW:Hid (∀y:Nat×Nat,tR S b F sub m0 deep (qI g m f.num) (.ok y)=Fm (qI g m f.num) y.2 (ew S b F sub m0 y.1 y.2 (deep+1))):=λ_=>rfl
 go_upto_region 7 with fail
 go_region_held2 (λw'=>w'.cell? (ai fb 0)=some (aa f.num)/\w'.cell? (ai fb 3)=some (ag QZ))
  (first|exact⟨h5.cell 0,h5.cell 3⟩|exact⟨Q7.cell 0,Q7.cell 3⟩|exact⟨h3.cell 0,h3.cell 3⟩|exact⟨Q5.cell 0,Q5.cell 3⟩)
  (first
   |(
     go_at_call 186;refine(hL w1.drew (RG w1.drew Rf)).mono ?_
     rintro en w2 ⟨rfl,rfl⟩)
   |(
     go_at_call 185;refine(Re w1.drew RH).mono ?_;intro en w3 hq
     rcases hq.part with⟨x,rfl,rfl,QV⟩|⟨y,nb,rfl,rfl,QV,RV,Rz,Q3,Rn⟩
     ·unfold dI;go_wp2;exact⟨rfl,rfl,Z1,st1.trans (.of_kept QV)⟩
     obtain⟨v0,v1,v2,v3,v4⟩:=Rp.out y rfl;obtain⟨k',rfl⟩:∃k',k=k'+1:=⟨k-1,QD⟩;have h3:=Q5.kept QV QF;have QQ:=st1.trans (.of_kept QV);have Rh:=el.dr RU QV Rg;have Si:w.heap.size<=w1.heap.size:=st1.size;have Sj:w1.heap.size<=w3.heap.size:=QV.size;have RI:w1.heap.size<=nb:=RV;have QX:nb<w3.heap.size:=dK.lt Q3;have Q6:¬Z1 nb:=λq=>by have:=(Q2 nb q).2;omega
     have QY:dU w3 nb (b.extract 0 y.2) y.1 ((deep:Int)+1):=by rw[<-v4];exact Q3)
   |(
     go_at_call 190;refine(HP.out k' rfl w3 Z1 Rh (λx q=>by have:=(Q2 x q).2;omega)).mono ?_;rintro en w4 ⟨p,Z4,C,rfl,QP,Rm,hH,RW⟩;have Rt:∀x,Z4 x->B<=x:=λx q=>(QP.grow x q).elim (λe=>(Q2 x e).1) (λe=>QD)
     have Q7:=h3.step QP (λq=>by have:=(Q2 fb q).1;omega);have Ri:dU w4 nb (b.extract 0 y.2) y.1 ((deep:Int)+1):=dK.step QY QP Q6;have Q8:Below B w w4:=⟨QP.os.trans QQ.os,QP.tape.trans QQ.tape,QP.output.trans QQ.output,aH QQ.size QP.size,λi hi=>(QP.block i QD (λq=>by have:=(Q2 i q).1;omega)).trans ((QQ.below Rc (λx q=>(Q4 x q).1) Ro).block i hi)⟩
     have Rj:¬C nb:=λq=>QP.not QX Q6 (hH.1 nb q))
   |(
     go_at_call 83;refine(Rr.out k' rfl w4 C y nb p Q8 v0 v1 v2 Ri Rm (λx q=>⟨Rt x (hH.1 x q),RW x q⟩) QD Rj).mono ?_;intro en w5 RX
     rcases RX.part with⟨x,hP,rfl,Z5,QS⟩|⟨sm,hP,rfl,Z5,QS,RA⟩
     ·unfold dI;go_wp2;rw[QW.out y,hP];exact⟨rfl,rfl,_,nF QQ QD QP hH.1 QS⟩
     have h5:dK w5 fb #[aa f.num,aa 2,aa 16,ag QZ,.slice ra rn rc] 220:=(QS.block fb Q7.lt (λq=>by have:=Rt fb (hH.1 fb q);omega) QD).trans Q7;have RJ:Hid (ew S b F sub m0 y.1 y.2 (deep+1)= .ok sm):=hP
     clear hP))
 all_goals
  go_wp2;go_end0;rw[QW.out y,RJ.out];exact⟨rfl,_,nF QQ QD QP hH.1 QS,vJ QQ Q9 Rb QX Q6 Rz Rn QP hH QS RA⟩
end
section
variable {S:d8} {mp:am->Option Nat} {d:MT} {f:eP} {g:GF} {num:Int}
attribute [local go_sem↓] Go.wp_at_zero Go.wp_at_succ
theorem Kf:gE kx AT=false/\gE kx Gs=false/\gE kx eS=false/\jd kx=false:=QH
theorem Hp {s t:am}{n:Int}(hb:iU mp t=S.base t)(hn:S.base t=16<->(S.msg t).isSome=true):FG S mp d ⟨s,t,eS,kx,n⟩ (kz s t n):=by
 obtain⟨o1,o2,o3,o4⟩:=Kf;refine⟨rfl,.inr (.inl rfl),by unfold eP.isMap kz;rw[o1];rfl,by unfold eP.isRep kz;rw[o2];rfl,by unfold kz;simp only;rw[o3];rfl,?_,λ_=>rfl,by simp[kz],hb,hn,λq=>by simp[kz]at q⟩;unfold kC kz;simp only
 have:∀o:eP,(gE o.how kx&&jd o.how&&decide (o.num≠n))=false:=λo=>by
  cases h:gE o.how kx with
  |false=>rfl
  |true=>
   have:jd o.how=false:=by
    rw[show o.how=kx from ja (gk.1 h),o4]
   rw[this];rfl
 rw[List.filter_eq_nil_iff.2 (λo _=>by rw[this o];simp)];rfl
theorem zO (fg:FG S mp d f g)(h4:g.form=4):kc S mp (eo f) [kz mQ f.key 1,kz oD f.ty 2]:=by
 obtain⟨q1,q2,q3,_⟩:=fg.key h4;refine⟨sk _ _,QE,λn hn=> ?_,λn f' hn=> ?_⟩
 ·unfold eo at hn;simp only[dP]at hn
  split at hn
  ·cases hn
  ·split at hn
   ·cases hn
   ·rename_i h1 h2
    exact oa λx hx=>by
     simp only[aN,bF,or_false]at hx
     rcases hx with rfl|rfl
     ·exact h1
     ·exact h2
 ·unfold eo at hn;simp only[dP]at hn
  split at hn
  ·rename_i e
   cases hn
   subst e;exact⟨_,Bh _ _,Hp q1 ⟨λq=>QD,λq=>by rw[q3]at q;cases q⟩⟩
  ·split at hn
   ·rename_i e
    cases hn
    subst e;exact⟨_,Bi _ _,Hp fg.base fg.nest⟩
   ·cases hn
def xk (f:eP)(m:PM)(sm:PM):PM:=m.put f.num (jn f.key (m.get f.num) (mV (fO sm)))
theorem Eo {b:am}{F deep a z e:Nat}{m:PM}(fg:FG S mp d f g)(hS:Bt S)(h4:g.form=4)(hd:deep<=8):
  jx S b F d f m deep (fh (b.extract 0 e) a num 2 z)=tR S b F (eo f) PM.none deep (xk f m) (lW (b.extract 0 e) z deep (jF mp g)):=by
 have hm:f.isMap=true:=by rw[fg.map,h4];rfl
 rw[En fg hS (sub:=eo f) (by unfold eR;rw[dB hm]) hd];have RO:eH f m=PV.none:=by unfold eH;rw[hm];simp
 rw[RO]
 have hM:(λsm=>gB S d f m (PV.none.1,PV.none.2.1,sm))=xk f m:=funext λsm=>by
  unfold gB xk;rw[dB hm];rfl
 rw[hM];rfl
theorem rG {w w3 w5:an}{Z Z3 Z5:ap}{rb nb eb:Nat}(QR:el w Z rb w3 Z3)(hn:w.heap.size<=nb)(he:w.heap.size<=eb)(QQ:el w3 (λx=>x=eb) nb w5 Z5):el w Z rb w5 (λb=>Z3 b\/Z5 b):=
 ⟨QQ.os.trans QR.os,QQ.tape.trans QR.tape,QQ.output.trans QR.output,aH QR.size QQ.size,λi hi q1 q2=>(QQ.block i (aC hi QR.size) QD QD).trans (QR.block i hi q1 q2),
  λi q=>q.elim (QR.grow i) (λq=>(QQ.grow i q).elim (λe=> .inr QD) (λe=> .inr (aH QR.size e)))⟩
theorem Hq (w:an)(B:Nat)(S:d8)(mp:am->Option Nat)(k:Nat)(d:MT)(f:eP)(g:GF)(fb:Nat)(Z:ap)(rb db:Nat)(b:am)(e a z deep F:Nat)(num:Int)(m:PM)
  (I:nD w B S mp k d Z rb db b e a z deep m) (hfa:eG w (λb=>b<B) mp g fb) (fg:FG S mp d f g) (hff:dP d.fs f.num=some f) (hS:Bt S) (h4:g.form=4) (hkd:k+deep=8) (hgd:kU S d) (hRd:Hl S mp B b F) (hF:e-z<=F):
  Calls prog 133 #[ag fb,aa 2,ag rb,ag db] w (gR S k d w Z rb db (b.extract 0 e) deep (jx S b F d f m deep (fh (b.extract 0 e) a num 2 z))):=by
 have hm:f.isMap=true:=by rw[fg.map,h4];rfl
 have QU:eR S f=some (eo f):=by unfold eR;rw[dB hm]
 obtain⟨Ro,RI,RJ,RK⟩:=pO (deep:=deep) fg hS QU QD;rw[Eo fg hS h4 QD];obtain⟨Sd,kq2,Se,Sf⟩:=fg.key h4;have Rq:oq S f= .ents f.key:=by unfold oq;rw[dB hm]
 have ok1:ny S (some d) f.num (.ents f.key):=λd' f' e1 e2=>by cases e1;rw[hff]at e2;cases e2;exact Rq.symm
 have ok2:∀kd,ny S (some d) f.num kd->kd= .ents f.key:=λkd q=>by rw[q d f rfl hff,Rq]
 obtain⟨pv,rv,h1,hfB,QS,RL⟩:=hfa.blk;rw[dB h4]at RL;obtain⟨QY,rfl,RM⟩:=RL;rw[fg.eq]at RM;rw[RK,fg.eq,h4]at h1;have Rb:=fg.lone QD;rw[Rb]at QS;have hD:=od S k (some d) w Z db m rv [] I.hd QS.1 QE (λx hx q=>by have:=QS.2 x hx;have:=(I.hZ x q).1;omega);rw[iN]at hD;have RP:(b.extract 0 e).size=e:=fX I.eb;have hab:=I.az;have hze:=I.ze;have RQ:=I.eb;have RT:=I.bs;have Rc:=I.rB;have Rr:=I.rZ;have QZ:=I.hZ;have Q9:=I.cx.le;have RU:rb<w.heap.size:=dK.lt I.hr;have hfl:=h1.lt;have hL:=λw1 (h:eG w1 (λb=>b<B) mp g fb)=>oN w1 (λb=>b<B) mp g fb h
 have Re:=λw1 (h:dU w1 rb (b.extract 0 e) z deep)=>nw w1 rb (b.extract 0 e) z deep (jF mp g) h QD QD QD RI RJ
 have Rs:=λw1 (h:eG w1 (λb=>b<B) mp g fb)=>Ei w1 (λb=>b<B) mp g fb h h4
 have Rt:=λw1 pv=>nZ w1 (S.base f.key) pv QD
 rw[fg.eq,Sd]at Rs;rw[Sf]at Rt;obtain⟨Q4,QV⟩:∃Q4,jF mp g=Q4:=⟨_,rfl⟩;rw[QV]at hL Re⊢
 have Ru:Hid (∀y:Nat×Nat,lW (b.extract 0 e) z deep Q4= .ok y->z<y.1/\y.1<=y.2/\y.2<=e/\1<=k/\(b.extract 0 e).extract 0 y.2=b.extract 0 y.2):=λy hy=>by
  obtain⟨q1,q2⟩:=rF hy;obtain⟨v0,v1,v2⟩:=it (z:=y.1) (e:=y.2) q1;rw[RP]at v2
  have hlv:1<=Q4:=by
   rw[<-QV];unfold jF;rw[RK]
   split<;>simp
  exact⟨v0,v1,v2,QD,jw RQ v2⟩
 clear QV RI RJ Ro;obtain⟨R,hR⟩:∃R,lW (b.extract 0 e) z deep Q4=R:=⟨_,rfl⟩;rw[hR]at Re Ru⊢;clear hR;have Rf:¬Z fb:=λq=>by have:=(QZ fb q).1;omega
 have hlen:=I.wm.len
 have RV:Hid (∀k',k=k'+1->∀(w4:an) (C:ap) (y:Nat×Nat) (nb p:Nat),Below B w w4->z<y.1->y.1<=y.2->y.2<=e->dU w4 nb (b.extract 0 y.2) y.1 ((deep:Int)+1)->ed S k (some (eo f)) w4 C p PM.none->(∀x,C x->B<=x/\x<w4.heap.size)->B<=nb->¬C nb->
   Calls prog 83 #[ag QY,ag nb,ag p] w4 (gR S k' (eo f) w4 C nb p (b.extract 0 y.2) (deep+1) (nC y.2 (ew S b F (eo f) PM.none y.1 y.2 (deep+1))))):=by
  rintro k' rfl w4 C y nb p RN v0 v1 v2 Sg Sh hC Si Sj;exact hRd w4 C (eo f) _ y.1 y.2 (deep+1) k' QY _ eS nb p (I.cx.on RN) (RM.msg.keep (λx q _=>RN.block x q)) (zO fg h4) (hS.good.sub QU) (by rw[df];exact Sg) Sh hC Si Sj v1 QD QD QD (WM.none _ _ _)
 have Rg:Hid (∀k',k=k'+1->∀(w6:an) (Z6 E:ap) (eb:Nat) (y:Nat×Nat) (sm:PM),z<y.1->y.1<=y.2->y.2<=e->ew S b F (eo f) PM.none y.1 y.2 (deep+1)= .ok sm->ed S (k+1) (some d) w6 Z6 db m->ed S k (some (eo f)) w6 E eb sm->(∀x,E x->¬Z6 x)->(∀x,Z6 x->x<w6.heap.size)->(∀x,E x->x<w6.heap.size)->
   Calls prog 187 #[ag db,aa f.num,.bool (eM iJ f.key),ag eb] w6 λen w'=>en= .returned (.tuple #[])/\∃Z',fi w6 (λb=>Z6 b\/E b) w' Z'/\ed S (k+1) (some d) w' Z' db (xk f m sm)):=by
  rintro k' rfl w6 Z6 E eb y sm v0 v1 v2 Sk Rm Sl Rp Sm Sn;have Rw:=jW hS.good RT F (eo f) PM.none y.1 y.2 (deep+1) sm Sk (hS.good.sub QU) v1 QD (WM.none _ _ _);have Rx:=zC (hgd f (eT hff).2 hm) Rw;have hel:=Rw.len.1;exact tz S k' (some d) w6 Z6 E db eb m sm f.num f.key _ Rm Sl.toKey Se Rp Sm Sn ok1 ok2 rfl Rx.ky (by obtain⟨r,hr⟩:=Rx.key;show(fO sm).get 1≠ [];have:(mV (fO sm)).2.2.get 1=_:=hr;simp only[mV]at this;rw[this];simp) QD (by have:=hlen.2.2 f.num;omega) QD
 have Ry:∀w1,Below B w w1->eG w1 (λb=>b<B) mp g fb:=λw1 Rh=>hfa.keep (λx q _=>Rh.block x q)
 have hr0:=I.hr;obtain⟨ra,rn,rc,rfl⟩:=dL QS.1;unfold gC at h1;obtain⟨k1,k2⟩:=h1.rules;go_enter func133,ntmps133;go_wp2_with fail;refine hD.mono ?_;rintro en w1 ⟨rfl,Z1',QP,Q5⟩;obtain⟨B1,KE⟩:=dR w1 #[ah,ah] 183;have Rz:w.heap.size<=w1.heap.size:=QP.size
 obtain⟨Z1,st1,So,Q6⟩:∃Z1,el w Z rb (w1.alloc (ak #[ah,ah] 183)) Z1/\ed S (k+1) (some d) (w1.alloc (ak #[ah,ah] 183)) Z1 db m/\∀x,Z1 x->B<=x/\x<w1.heap.size:=
  ⟨_,.of_step (QP.clip.below B1),Q5.clip.keep (λx _ q=>B1.block x q),λx q=>⟨(QP.grow x q.1).elim (λe=>(QZ x e).1) (λe=>aH Q9 e),q.2⟩⟩
 have RA:=(h1.step QP Rf).below B1 (h1.step QP Rf).lt;have RB:dU (w1.alloc (ak #[ah,ah] 183)) rb (b.extract 0 e) z deep:=dK.step hr0 (QP.below B1) Rr;have RC:=h1.step QP Rf;clear QP Q5 k1 k2 hD;obtain⟨k1,k2⟩:=RC.rules;go_upto_region 4 with fail
 have hew:w1.heap.size<(w1.alloc (ak #[ah,ah] 183)).heap.size:=KE.lt;generalize w1.alloc (ak #[ah,ah] 183)=wa at*;generalize w1.heap.size=eb at*;clear k1 k2 RC B1;have Ra:dK wa.drew fb #[aa f.num,aa 4,aa 16,ag QY,.slice ra rn rc] 220:=RA;have Rh:Below B w wa:=st1.below Q9 (λx q=>(QZ x q).1) Rc;have Ri:Below B w wa.drew:=Rh.drew;have Rj:dU wa.drew rb (b.extract 0 e) z deep:=RB;have Q0:¬Z1 rb:=st1.not RU Rr;have Rk:ed S (k+1) (some d) wa.drew Z1 db m:=So.keep (λ_ _ _=>rfl);have RW:dK wa.drew eb #[ah,ah] 183:=KE;have Q1:el w Z rb wa.drew Z1:=st1.trans (.of_below (Below.refl _ _).drew);obtain⟨k1,k2⟩:=RA.rules;have Q2:Hid (∀y:Nat×Nat,tR S b F (eo f) PM.none deep (xk f m) (.ok y)=Fm (xk f m) y.2 (ew S b F (eo f) PM.none y.1 y.2 (deep+1))):=λ_=>rfl
 go_region_held2 (λw'=>w'.cell? (ai fb 0)=some (aa f.num)/\w'.cell? (ai fb 3)=some (ag QY))
  (first|exact⟨h5.cell 0,h5.cell 3⟩|exact⟨h3.cell 0,h3.cell 3⟩|exact⟨Ra.cell 0,Ra.cell 3⟩)
  (first
   |(
     go_at_call 186;refine(hL wa.drew (Ry wa.drew Ri)).mono ?_
     rintro en w2 ⟨rfl,rfl⟩)
   |(
     go_at_call 185;refine(Re wa.drew Rj).mono ?_;intro en w3 hq
     rcases hq.part with⟨x,rfl,rfl,QW⟩|⟨y,nb,rfl,rfl,QW,Sp,Sq,Q7,Q8⟩
     ·unfold dI;go_wp2;exact⟨rfl,rfl,Z1,Q1.trans (.of_kept QW)⟩
     obtain⟨v0,v1,v2,v3,v4⟩:=Ru.out y rfl;obtain⟨k',rfl⟩:∃k',k=k'+1:=⟨k-1,QD⟩;have h3:=Ra.kept QW QF;have QR:=Q1.trans (.of_kept QW);have RX:=el.dr Rk QW Q0;have hw3:wa.heap.size<=w3.heap.size:=QW.size;have hnb1:wa.heap.size<=nb:=Sp;have hnl3:nb<w3.heap.size:=dK.lt Q7;have RY:¬Z1 nb:=λq=>by have:=(Q6 nb q).2;omega
     have RZ:=RW.kept QW QF;have R8:ed S (k'+1) (some (eo f)) w3 (λx=>x=eb) eb PM.none:=ed.fresh RZ;have R9:Below B w w3:=QR.below Q9 (λx q=>(QZ x q).1) Rc
     have Q3:dU w3 nb (b.extract 0 y.2) y.1 ((deep:Int)+1):=by rw[<-v4];exact Q7)
   |(
     go_at_call 83;refine(RV.out k' rfl w3 (λx=>x=eb) y nb eb R9 v0 v1 v2 Q3 R8 (λx q=>by subst q;exact⟨QD,QD⟩) QD QD).mono ?_;intro en w5 Sr
     rcases Sr.part with⟨x,hP,rfl,Z5,QQ⟩|⟨sm,hP,rfl,Z5,QQ,Ss⟩
     ·unfold dI;go_wp2;rw[Q2.out y,hP];exact⟨rfl,rfl,_,rG QR QD Rz QQ⟩
     have h5:dK w5 fb #[aa f.num,aa 4,aa 16,ag QY,.slice ra rn rc] 220:=(QQ.block fb h3.lt QD QD).trans h3;have RD:Hid (ew S b F (eo f) PM.none y.1 y.2 (deep+1)= .ok sm):=hP
     clear hP))
 have RE:∀x,Z5 x->x=eb\/w3.heap.size<=x:=QQ.grow;have Rl:=Ss.clip;have Rm:ed S (k'+1+1) (some d) w5 Z1 db m:=RX.keep λx q hl=>QQ.block x hl (λe=>by have:=(Q6 x q).2;omega) (λe=>RY (e▸q))
 have RF:dU w5 rb (b.extract 0 e) y.2 deep:=(QQ.block rb (dK.lt Q8) QD (λe=>Sq e.symm)).trans Q8;have RG:=rG QR QD Rz QQ;have Sa:Below B w w5:=RG.below Q9 (λx q=>(QZ x q).1) Rc;have Rn:dK w5.drew fb #[aa f.num,aa 4,aa 16,ag QY,.slice ra rn rc] 220:=h5;have hw5:w3.heap.size<=w5.heap.size:=QQ.size;clear k1 k2;obtain⟨k1,k2⟩:=h5.rules;go_upto_region 5 with fail
 go_region_held2 (λw'=>w'.cell? (ai fb 0)=some (aa f.num))
  (first|exact h9.cell 0|exact h8.cell 0|exact h7.cell 0|exact Rn.cell 0)
  (first
   |(
     go_at_call 188;refine(Rs w5.drew (Ry w5.drew Sa.drew)).mono ?_;rintro en w7 ⟨St,rfl,B7⟩
     have h7:=Rn.below B7 Rn.lt)
   |(
     go_at_call 189;refine(Rt w7 St).mono ?_;rintro en w8 ⟨rfl,B8⟩;have h8:=h7.below B8 h7.lt
     have QX:aj w5 w8:=dG (Below.refl w5.heap.size w5).drew (dG B7 B8))
   |(
     go_at_call 187;refine(Rg.out k' rfl w8 Z1 (λx=>Z5 x/\x<w5.heap.size) eb y sm v0 v1 v2 RD.out (Rm.keep (λx _ q=>QX.block x q)) (Rl.keep (λx _ q=>QX.block x q)) (λx q1 q2=>by have:=(Q6 x q2).2;have:=RE x q1.1;omega) (λx q=>by have:=(Q6 x q).2;have:=QX.size;omega) (λx q=>aC q.2 QX.size)).mono ?_;rintro en w9 ⟨rfl,Z9,QT,Su⟩;have RH:∀x,x<wa.heap.size->x≠eb->¬Z1 x->¬(Z1 x\/(Z5 x/\x<w5.heap.size)):=λx q1 q2 q3 q=>q.elim q3 (λq=>(RE x q.1).elim q2 (λe=>QD))
     have h9:=h8.step QT (RH fb Ra.lt QD (λq=>by have:=(Q6 fb q).1;omega))))
 all_goals
  go_wp2;go_end0;rw[Q2.out y,RD.out];have Sb:dU w8 rb (b.extract 0 e) y.2 deep:=dK.below RF QX (dK.lt RF);have Sc:el w Z rb w8 (λx=>Z1 x\/Z5 x):=RG.trans (.of_below QX);refine⟨rfl,Z9,Sc.trans ⟨QT.os,QT.tape,QT.output,QT.size,λi hi q _=>QT.block i hi (λe=>q (e.imp id (λe=>e.1))),λi q=>(QT.grow i q).imp (λe=>e.imp id (λe=>e.1)) id⟩,Su,?_⟩;exact dK.step Sb QT (RH rb (dK.lt RB) QD Q0)
end
def sE {k:Nat}(hk:k<=15):eK k=true<->ei k≠2:=by
 constructor
 ·intro h q
  rcases zD hk q with rfl|rfl<;>simp[eK]at h
 ·intro h;unfold eK
  by_cases h1:k=13
  ·subst h1;exact absurd rfl h
  ·by_cases h2:k=14
   ·subst h2;exact absurd rfl h
   ·simp;omega
def zS (S:d8)(t:am):S.base t<=16:=by
 unfold d8.base
 split
 ·rename_i k hk
  have:=zv _ _ _ _ hk;have e:mz.length=15:=QH;omega
 ·split<;>omega
def nG {S:d8}{mp:am->Option Nat}{d:MT}{f:eP}{g:GF}{k:Nat}(fg:FG S mp d f g):kj mp g k=true<->(k=fA S f\/(k=2/\f.isRep=true)):=by
 have QU:=zS S f.ty
 have hb:ei (ee mp g)=fA S f:=by
  unfold ee fA d8.wire;rw[fg.map,fg.eq,fg.base]
  by_cases h:g.form=4
  ·simp[h];rfl
  ·simp[h]
 unfold kj gN;rw[hb,fg.rep];simp only[cj,aJ,beq_iff_eq,dD]
 constructor
 ·rintro(h|⟨h1,h2,h3⟩)
  ·exact .inl QD
  ·exact .inr ⟨QD,h2⟩
 ·rintro(h|⟨h1,h2⟩)
  ·exact .inl QD
  ·by_cases q:fA S f=2
   ·exact .inl QD
   ·refine .inr ⟨QD,h2,?_⟩;have QS:ee mp g=S.base f.ty:=by unfold ee;rw[dA QD,fg.eq,fg.base]
    rw[hb.symm,QS]at q;rw[QS];have:S.base f.ty≠16:=λe=>q (by rw[e];rfl)
    exact(sE QD).2 q
def zT (w:an)(B:Nat)(S:d8)(mp:am->Option Nat)(k:Nat)(d:MT)(f:eP)(g:GF)(fb:Nat)(Z:ap)(rb db:Nat)(b:am)(e a z deep F kn:Nat)(num:Int)(m:PM)
  (I:nD w B S mp k d Z rb db b e a z deep m) (hfa:eG w (λb=>b<B) mp g fb) (fg:FG S mp d f g) (hff:dP d.fs f.num=some f) (hS:Bt S) (hkd:k+deep=8) (hgd:kU S d) (hRd:Hl S mp B b F) (hF:e-z<=F) (hfit:kj mp g kn=true):
  Calls prog 133 #[ag fb,aa kn,ag rb,ag db] w (gR S k d w Z rb db (b.extract 0 e) deep (jx S b F d f m deep (fh (b.extract 0 e) a num kn z))):=by
 have hq:=(nG fg).1 hfit;have QU:=zS S f.ty
 by_cases h4:g.form=4
 ·have hm:f.isMap=true:=by rw[fg.map,h4];rfl
  obtain rfl:kn=2:=by
   rcases hq with h|⟨h,_⟩
   ·rw[h];unfold fA;rw[dB hm]
   ·exact h
  exact Hq w B S mp k d f g fb Z rb db b e a z deep F num m I hfa fg hff hS h4 hkd hgd hRd hF
 ·have hm:f.isMap=false:=by rw[fg.map];simp[h4]
  have QQ:fA S f=ei (S.base f.ty):=by unfold fA d8.wire;rw[hm];rfl
  by_cases hb:S.base f.ty=16
  ·obtain rfl:kn=2:=by
    rcases hq with h|⟨h,_⟩
    ·rw[h,QQ,hb];rfl
    ·exact h
   have:=fg.nest.1 hb;obtain⟨sub,QR⟩:=bV.1 this;have hM:zK S d f sub:=⟨by unfold eR;rw[hm];exact QR,hm⟩
   by_cases h2:g.form=2
   ·exact Fo w B S mp k d f g fb Z rb db b e a z deep F num m sub I hfa fg hff hS hM h2 hkd hRd hF
   ·exact Ho w B S mp k d f g fb Z rb db b e a z deep F num m sub I hfa fg hff hS hM h2 hkd hRd hF
  ·have QP:S.base f.ty<=15:=QD
   by_cases h2:g.form=2
   ·refine Hm w B S mp k d f g fb Z rb db b e a z deep F num kn m I hfa fg h2 QP hff ?_
    rcases hq with h|⟨h,_⟩
    ·exact .inl (by rw[h,QQ])
    ·by_cases q:ei (S.base f.ty)=2
     ·exact .inl QD
     ·exact .inr ⟨QD,q⟩
   ·have QV:f.isRep=false:=by rw[fg.rep];simp[h2]
    obtain rfl:kn=ei (S.base f.ty):=by
     rcases hq with h|⟨_,h⟩
     ·rw[h,QQ]
     ·rw[QV]at h;cases h
    exact Hn w B S mp k d f g fb Z rb db b e a z deep F num m I hfa fg h4 h2 QP hff
def Dh {s:am}{a:Nat}{x:(Int×Int)×Nat}(h:jo s a= .ok x):∃kn:Nat,x.1.2=kn/\(kn=0\/kn=1\/kn=2\/kn=5)/\a<x.2/\x.2<=s.size:=by
 unfold jo at h
 cases hv:gy s a s.size with
 |error y=>rw[hv]at h;cases h
 |ok y=>
  rw[hv]at h;obtain⟨v0,v1,v2,v3⟩:=gM (m:=y.1) (z:=y.2) hv;simp only at h
  split at h
  ·cases h
  ·split at h
   ·rename_i q
    cases h
    rcases q with q|q|q|q
    ·exact⟨0,q,.inl rfl,v2,v3⟩
    ·exact⟨1,q,.inr (.inl rfl),v2,v3⟩
    ·exact⟨2,q,.inr (.inr (.inl rfl)),v2,v3⟩
    ·exact⟨5,q,.inr (.inr (.inr rfl)),v2,v3⟩
   ·cases h
def sF {s:am}{a z:Nat}{num kind:Int}{r:om}(h:fh s a num kind z= .ok r):r.num=num/\r.a=a:=by
 unfold fh at h
 split at h
 ·cases hv:gy s z s.size<;>rw[hv]at h<;>cases h;exact⟨rfl,rfl⟩
 ·split at h
  ·cases hv:gD s z 8<;>rw[hv]at h<;>cases h;exact⟨rfl,rfl⟩
  ·split at h
   ·cases hv:gD s z 4<;>rw[hv]at h<;>cases h;exact⟨rfl,rfl⟩
   ·cases hv:eJ s z<;>rw[hv]at h<;>cases h;exact⟨rfl,rfl⟩
section
variable {S:d8} {b:am} {F a e deep z kn:Nat} {d:MT} {m:PM} {num:Int} {f:eP}
def qJ (he:e<=b.size)(ht:jo (b.extract 0 e) a= .ok ((num,(kn:Int)),z)):fw b a e=fh (b.extract 0 e) a num kn z:=by
 rw[<-uk he,pK,ht]
def BF (he:e<=b.size)(h:a<e)(ht:jo (b.extract 0 e) a= .ok ((num,(kn:Int)),z))(hk:kn=0\/kn=1\/kn=2\/kn=5)(hf:dP d.fs num=some f)(hfit:kn=fA S f\/(kn=2/\f.isRep=true)):
  ew S b (F+1) d m a e deep=match jx S b F d f m deep (fh (b.extract 0 e) a num kn z)with| .error x=> .error x| .ok y=>ew S b F d y.1 y.2 e deep:=by
 have hr:=qJ he ht
 cases hq:fh (b.extract 0 e) a num kn z with
 |error x=>
  rw[hq]at hr;rw[iH h hr];rfl
 |ok r=>
  rw[hq]at hr;have h1:=mh hk hq;have h2:=sF hq;rw[Fi h hr (by rw[h2.1];exact hf) (by rw[h1];exact hfit)];simp only[jx]
  cases xg S b F d f m r deep<;>rfl
def Ep (hS:Bt S)(hb:b.size<=268435456)(hd:kU S d)(he:e<=b.size)(hw:WM S a d m)(ht:jo (b.extract 0 e) a= .ok ((num,(kn:Int)),z))(hk:kn=0\/kn=1\/kn=2\/kn=5)(hf:dP d.fs num=some f)(hfit:kn=fA S f\/(kn=2/\f.isRep=true)){y:PM×Nat}
  (h:jx S b F d f m deep (fh (b.extract 0 e) a num kn z)= .ok y):WM S y.2 d y.1/\z<y.2/\y.2<=e:=by
 have hr:=qJ he ht
 cases hq:fh (b.extract 0 e) a num kn z with
 |error x=>rw[hq]at h;cases h
 |ok r=>
  rw[hq]at hr h;have h1:=mh hk hq;have h2:=sF hq;obtain⟨h3,_,h4,_⟩:=oY hq;rw[fX he]at h4;simp only[jx]at h
  cases hm:xg S b F d f m r deep with
  |error x=>rw[hm]at h;cases h
  |ok m2=>
   rw[hm]at h
   cases h
   refine⟨?_,h3,h4⟩;have QT:dP d.fs r.num=some f:=by rw[h2.1];exact hf
   unfold xg at hm
   split at hm
   ·rename_i q
    exact JU hS.good hb hd hw hr he QT q hm
   ·rename_i q
    have QW:=hfit.resolve_left (λe=>q (by rw[h1];exact e))
    cases hp:lA S b f (m.get f.num) r.fr r.e with
    |error x=>rw[hp]at hm;cases hm
    |ok l=>
     rw[hp]at hm
     cases hm
     exact(JV hS.good hw hr QT q (by rw[h1];exact QW.1) hp).1
def sG (he:e<=b.size)(h:a<e)(ht:jo (b.extract 0 e) a= .ok ((num,(kn:Int)),z))(hk:kn=0\/kn=1\/kn=2\/kn=5)(hf:∀f,dP d.fs num=some f->¬(kn=fA S f\/(kn=2/\f.isRep=true))):
  ew S b (F+1) d m a e deep=match kS (b.extract 0 e) z kn with| .error x=> .error x| .ok y=>ew S b F d (m.keep (b.extract a y.2)) y.2 e deep:=by
 have hr:=qJ he ht;rw[pL (b.extract 0 e) a num kn z]
 cases hq:fh (b.extract 0 e) a num kn z with
 |error x=>
  rw[hq]at hr;rw[iH h hr]
 |ok r=>
  rw[hq]at hr;have h1:=mh hk hq;have h2:=sF hq;rw[oc h hr (λf q=>by rw[h2.1]at q;have:=hf f q;rw[h1];exact⟨λe=>this (.inl e),λe=>this (.inr e)⟩),h2.2]
def BG (he:e<=b.size)(h:a<e){x:Int×Int}(ht:jo (b.extract 0 e) a= .error x):ew S b (F+1) d m a e deep= .error x:=by
 refine iH h ?_;rw[<-uk he,pK,ht]
end
def uz {s:am}{z kn:Nat}{y:Unit×Nat}(h:kS s z kn= .ok y):z<y.2/\y.2<=s.size:=by
 rw[pL s 0 0 kn z]at h
 cases hq:fh s 0 0 kn z with
 |error x=>rw[hq]at h;cases h
 |ok r=>
  rw[hq]at h
  cases h
  obtain⟨h1,_,h3,_⟩:=oY hq;exact⟨h1,h3⟩
section
variable {w w':an} {rb:Nat} {s:am} {deep:Int}
attribute [local go_sem↓] Go.wp_at_zero Go.wp_at_succ
structure xl (S:d8)(k:Nat)(d:MT)(B:Nat)(w wr:an)(Z Z':ap)(rb db:Nat)(b:am)(e deep F a:Nat)(m:PM)(P:Fx PM):Prop where
 st:el w Z rb wr Z'
 rr:dU wr rb (b.extract 0 e) a deep
 dr:ed S (k+1) (some d) wr Z' db m
 hi:a<=e
 wm:WM S a d m
 fu:e-a<F
 eq:Hid (P=ew S b F d m a e deep)
 zz:∀x,Z' x->B<=x/\x<wr.heap.size
def LP (S:d8)(b:am)(F:Nat)(d:MT)(e deep:Nat):Fx (PM×Nat)->Fx PM
 | .error x=> .error x
 | .ok y=>ew S b F d y.1 y.2 e deep
def Hr (S:d8)(b:am)(F:Nat)(d:MT)(m:PM)(a e deep:Nat):Fx (Unit×Nat)->Fx PM
 | .error x=> .error x
 | .ok y=>ew S b F d (m.keep (b.extract a y.2)) y.2 e deep
theorem GP.part {r:Fx (Unit×Nat)}{e:Ending}(h:GP w rb s deep r e w'):
  (∃x,r= .error x/\e=dI x.1 x.2/\dS [rb] w w')\/∃x,r= .ok x/\e= .returned (.tuple #[])/\dS [rb] w w'/\dU w' rb s x.2 deep:=by
 obtain⟨h1,h2⟩:=h
 cases r with
 |error x=>exact .inl ⟨x,rfl,h2,h1⟩
 |ok x=>exact .inr ⟨x,rfl,h2.1,h1,h2.2⟩
theorem gR.part2 {S:d8}{k:Nat}{d:MT}{Z:ap}{db:Nat}{deep:Nat}{R:Fx (PM×Nat)}{en:Ending}(h:gR S k d w Z rb db s deep R en w'):
  (∃x,R= .error x/\en=dI x.1 x.2/\∃Z',el w Z rb w' Z')\/∃x,R= .ok x/\en= .returned (.tuple #[])/\∃Z',el w Z rb w' Z'/\ed S (k+1) (some d) w' Z' db x.1/\dU w' rb s x.2 deep:=by
 cases R with
 |error x=>exact .inl ⟨x,rfl,h.1,h.2⟩
 |ok x=>exact .inr ⟨x,rfl,h.1,h.2⟩
theorem xp (S:d8)(mp:am->Option Nat)(B:Nat)(b:am)(hS:Bt S)(hbs:b.size<=268435456):∀F,Hl S mp B b F:=by
 intro F
 induction F using Nat.strongRecOn with
 |_ F ih=>
 intro w Z d m a e deep k mb gs nm rb db cx hM hG Rx hr hd hZ Q8 RL RM he hF RN RO;have Q2:(b.extract 0 e).size=e:=fX he;have Rf:=cx.le;have RC:rb<w.heap.size:=dK.lt hr;obtain⟨P,hP⟩:∃P,ew S b F d m a e deep=P:=⟨_,rfl⟩;rw[hP];have O0:xl S k d B w w Z Z rb db b e deep F a m P:=⟨el.refl _ _ _,hr,hd,RM,RO,hF,hP.symm,hZ⟩;clear hP;go_enter func83,ntmps83;go_wp2;go_loopw [9] (λ_ wr=>∃Z' a' m' F',F'<=F/\xl S k d B w wr Z Z' rb db b e deep F' a' m' P) (λ_ wr=>lr wr rb e)
 case atStart=>exact⟨Z,a,m,F,ay _,O0⟩
 case round=>
  obtain⟨Z',a',m',F',hFF,O⟩:=hrel;have Rg:=qC wr rb _ a' deep O.rr;rw[Q2]at Rg;have hhi:=O.hi;have hfu:=O.fu;go_wp2_with fail;refine Rg.mono ?_;rintro en w4 ⟨rfl,q,rfl⟩
  by_cases hlt:a'<e
  ·have RD:decide (a'<e)=true:=decide_eq_true hlt;obtain⟨F1,rfl⟩:∃F1,F'=F1+1:=⟨F'-1,QD⟩;have Rh:dU (wr.drewN q) rb (b.extract 0 e) a' deep:=O.rr;have RE:ed S (k+1) (some d) (wr.drewN q) Z' db m':=O.dr.keep (λ_ _ _=>rfl);have Ri:el w Z rb (wr.drewN q) Z':=O.st.trans (.of_below (iE (Below.refl _ _) q));have RF:=Oa (wr.drewN q) rb _ a' deep Rh;have Rj:=GM (wr.drewN q) rb _ a' deep Rh QD;have Rk:∀x,Z' x->B<=x/\x<(wr.drewN q).heap.size:=O.zz;have QU:¬Z' rb:=O.st.not RC RL;have HM:Hid (lr wr rb e=e-a'):=gU O.rr;have Q3:∀x,Z x->B<=x:=λx q=>(hZ x q).1
   obtain⟨T,hT⟩:∃T,jo (b.extract 0 e) a'=T:=⟨_,rfl⟩;rw[hT]at Rj;have HT:Hid (jo (b.extract 0 e) a'=T):=hT;clear hT;generalize wr.drewN q=w4 at*;go_wp2_with fail;refine RF.mono ?_;rintro en w5 ⟨rfl,rfl⟩;go_wp2_with fail;refine Rj.mono ?_;intro en w6 RP
   rcases RP.part with⟨x,rfl,rfl,QR⟩|⟨x,rfl,rfl,QR,Q9⟩
   ·have HB:Hid (P= .error x):=by
     show P=_;rw[O.eq.out,BG he hlt HT.out]
    unfold dI;go_wp2;rw[HB.out];exact⟨rfl,rfl,Z',Ri.trans (.of_kept QR)⟩
   obtain⟨⟨num,kind⟩,z⟩:=x;obtain⟨kn,Ry,Ra,Rz,Rb⟩:=Dh HT.out;simp only at Ry Rz Rb Q9;subst Ry;rw[Q2]at Rb;obtain⟨B7,KT⟩:=dR w6 #[aa num,aa kn] 237;have Rl:dU (w6.alloc (ak #[aa num,aa kn] 237)) rb (b.extract 0 e) z deep:=dK.alloc Q9 _;have Rm:=(Ri.trans (.of_kept QR)).trans (.of_below B7);have RG:=(el.dr RE QR QU).keep (λx _ q=>B7.block x q);have RH:Below B w (w6.alloc (ak #[aa num,aa kn] 237)):=Rm.below Rf Q3 Q8;have RI:=xK (w6.alloc (ak #[aa num,aa kn] 237)) (λb=>b<B) mp mb nm gs num kn (hM.keep (λx q _=>RH.block x q)) hG.srt hG.len;have Rn:∀x,Z' x->B<=x/\x<(w6.alloc (ak #[aa num,aa kn] 237)).heap.size:=λx q=>⟨(Rk x q).1,aC (aC (Rk x q).2 QR.size) B7.size⟩
   obtain⟨k1,k2⟩:=KT.rules;have hrw:rb<w6.heap.size:=dK.lt Q9;go_wp2_with fail;generalize w6.alloc (ak #[aa num,aa kn] 237)=w7 at*;generalize w6.heap.size=tb at*;refine RI.mono ?_;rintro en w8 ⟨QV,B8⟩;have Ro:dU w8 rb (b.extract 0 e) z deep:=dK.below Rl B8 (dK.lt Rl);have QP:=Rm.trans (.of_below B8);have Rp:=RG.keep (λx _ q=>B8.block x q);have Rq:Below B w w8:=QP.below Rf Q3 Q8;have Rr:=KT.below B8 KT.lt;have Rs:∀x,Z' x->B<=x/\x<w8.heap.size:=λx q=>⟨(Rn x q).1,aC (Rn x q).2 B8.size⟩
   have hul:=O.wm.len;clear k1 k2
   cases hfit:rl mp gs num kn with
   |some g=>
    rw[hfit]at QV;obtain⟨fb,rfl,RQ⟩:=QV
    obtain⟨f,QW,fg,RA⟩:∃f,dP d.fs num=some f/\FG S mp d f g/\kj mp g kn=true:=by
     unfold rl at hfit
     cases hfg:g8 gs num with
     |none=>rw[hfg]at hfit;cases hfit
     |some g'=>
      rw[hfg]at hfit;simp only at hfit
      split at hfit
      ·cases hfit
       cases hf:dP d.fs num with
       |none=>rw[hG.no num hf]at hfg;cases hfg
       |some f=>
        obtain⟨g2,q1,q2⟩:=hG.yes num f hf;rw[hfg]at q1
        cases q1
        exact⟨f,rfl,q2,QN⟩
      ·cases hfit
    have Q4:f.num=num:=(eT QW).1;have I:nD w8 B S mp k d Z' rb db b e a' z deep m':=⟨cx.on Rq,Ro,Rp,Rs,Q8,QU,Rz,Rb,he,hbs,O.wm⟩;have Rt:=zT w8 B S mp k d f g fb Z' rb db b e a' z deep F1 kn num m' I RQ fg (by rw[Q4];exact QW) hS RN Rx (ih F1 QD) QD RA;have hit:=(nG fg).1 RA;obtain⟨R,hR⟩:∃R,jx S b F1 d f m' deep (fh (b.extract 0 e) a' num kn z)=R:=⟨_,rfl⟩
    have HL:Hid (P=LP S b F1 d e deep R):=by
     have h:=BF (S:=S) (F:=F1) (deep:=deep) (d:=d) (m:=m') he hlt HT.out Ra QW hit;rw[hR]at h;show P=_;rw[O.eq.out,h]
     cases R<;>rfl
    have HW:Hid (∀y,R= .ok y->WM S y.2 d y.1/\z<y.2/\y.2<=e):=λy hy=>Ep hS hbs Rx he O.wm HT.out Ra QW hit (hR.trans hy)
    rw[hR]at Rt;clear hR hfit;obtain⟨k1,k2⟩:=Rr.rules;go_wp2_with fail;refine Rt.mono ?_;intro en w9 Rc
    rcases Rc.part2 with⟨x,rfl,rfl,Z9,QX⟩|⟨y,rfl,rfl,Z9,QX,Q5,QS⟩
    ·unfold dI;go_wp2;rw[HL.out];exact⟨rfl,rfl,Z9,QP.trans QX⟩
    obtain⟨RT,RU,QY⟩:=HW.out y rfl
    have O9:xl S k d B w w9 Z (λi=>Z9 i/\i<w9.heap.size) rb db b e deep F1 y.2 y.1 P:=
     ⟨(QP.trans QX).clip,QS,Q5.clip,QY,RT,QD,HL,λx q=>⟨(QX.grow x q.1).elim (λe=>(Rs x e).1) (λe=>by have:=Rq.size;omega),q.2⟩⟩
    clear k1 k2;go_wp2;go_roundw
    case rel=>exact⟨_,_,_,_,QD,O9⟩
    case measure=>rw[HM.out,gU QS];omega
   |none=>
    rw[hfit]at QV;obtain rfl:en= .returned (.pointer none):=QV
    have RJ:∀f,dP d.fs num=some f->¬(kn=fA S f\/(kn=2/\f.isRep=true)):=λf hf hq=>by
     obtain⟨g,q1,q2⟩:=hG.yes num f hf;unfold rl at hfit;rw[q1]at hfit;simp only at hfit;rw[(nG q2).2 hq,dB rfl]at hfit
     cases hfit
    have Ru:=zq w8 rb _ z deep kn Ro QD QD QD;obtain⟨R,hR⟩:∃R,kS (b.extract 0 e) z kn=R:=⟨_,rfl⟩
    have HL:Hid (P=Hr S b F1 d m' a' e deep R):=by
     have h:=sG (S:=S) (F:=F1) (deep:=deep) (d:=d) (m:=m') he hlt HT.out Ra RJ;rw[hR]at h;show P=_;rw[O.eq.out,h]
     cases R<;>rfl
    have HW:Hid (∀y,R= .ok y->z<y.2/\y.2<=e):=λy hy=>by
     have:=uz (hR.trans hy);rw[Q2]at this;exact this
    rw[hR]at Ru;clear hR hfit;obtain⟨k1,k2⟩:=Rr.rules;go_wp2_with fail;refine Ru.mono ?_;intro en w9 Rc
    rcases Rc.part with⟨x,rfl,rfl,QZ⟩|⟨y,rfl,rfl,QZ,QS⟩
    ·unfold dI;go_wp2;rw[HL.out];exact⟨rfl,rfl,Z',QP.trans (.of_kept QZ)⟩
    obtain⟨RU,QY⟩:=HW.out y rfl;have Rw:=uh w9 rb _ y.2 deep a' QS QD QD;have Q5:=el.dr Rp QZ QU;have hex:(b.extract 0 e).extract a' y.2=b.extract a' y.2:=jw he QY;rw[hex]at Rw;clear k1 k2;go_wp2_with fail;refine Rw.mono ?_;rintro en w10 ⟨rfl,Q0,rfl⟩;have Q6:ed S (k+1) (some d) (w9.drewN Q0) Z' db m':=Q5.keep (λ_ _ _=>rfl);have RK:=zH S k (some d) (w9.drewN Q0) Z' db m' (b.extract a' y.2) Q6 (by rw[aS];omega);go_wp2_with fail;refine RK.mono ?_;rintro en Q1 ⟨rfl,RB,QT,Re⟩;have Q7:dU (w9.drewN Q0) rb (b.extract 0 e) y.2 deep:=QS;have QQ:dU Q1 rb (b.extract 0 e) y.2 deep:=dK.step Q7 QT QU;have stA:el w Z rb Q1 RB:=((QP.trans (.of_kept QZ)).trans (.of_below (iE (Below.refl _ _) Q0))).trans (.of_step QT)
    have O9:xl S k d B w Q1 Z (λi=>RB i/\i<Q1.heap.size) rb db b e deep F1 y.2 (m'.keep (b.extract a' y.2)) P:=
     ⟨stA.clip,QQ,Re.clip,QY,O.wm.keep _ (by rw[aS];omega),QD,HL,λx q=>⟨(stA.grow x q.1).elim (Q3 x) (λe=>QD),q.2⟩⟩
    go_wp2;go_roundw
    case rel=>exact⟨_,_,_,_,QD,O9⟩
    case measure=>rw[HM.out,gU QQ];omega
  ·have RD:decide (a'<e)=false:=decide_eq_false hlt;obtain rfl:a'=e:=QD
   have HE:Hid (P= .ok m'):=by
    show P=_;rw[O.eq.out,ie hlt]
   go_wp2;go_end0;rw[HE.out];exact⟨rfl,Z',O.st.trans (.of_below (iE (Below.refl _ _) q)),O.dr.keep (λ_ _ _=>rfl),O.rr⟩
end
def qd:aq->List PV->aq
 |mv::ms,v::vs=> .int .u64 v.1::ae v.2.1::mv::ae v.2.2.unk::qd ms vs
 |_,_=> []
def qe:aq->List PF->aq
 |vv::r,f::fs=>aa f.1::vv::qe r fs
 |_,_=> []
def tB:∀{a:aq} {l:List PV} {b:aq} {r:List PV},a.length=l.length->qd (a++b) (l++r)=qd a l++qd b r
 | [],[],_,_,_=>by simp[qd]
 | [],_::_,_,_,h=>by simp at h
 |_::_,[],_,_,h=>by simp at h
 |mv::a,v::l,b,r,h=>by simp[qd,tB (a:=a) (l:=l) (b:=b) (r:=r) (by simpa using h)]
def tC:∀{a:aq} {l:List PF} {b:aq} {r:List PF},a.length=l.length->qe (a++b) (l++r)=qe a l++qe b r
 | [],[],_,_,_=>by simp[qe]
 | [],_::_,_,_,h=>by simp at h
 |_::_,[],_,_,h=>by simp at h
 |mv::a,v::l,b,r,h=>by simp[qe,tC (a:=a) (l:=l) (b:=b) (r:=r) (by simpa using h)]
abbrev Di:=Value->PM->(ap)->Prop
def jE (P:Di)(w:an)(A:ap)(vv:Value)(l:List PV):Prop:=
 ∃ms Y,et w A 55 4 vv l.length (qd ms l)/\(∀b,vv.ownBlock=some b->¬Y b)/\(∀b,Y b->A b)/\jq (λmv v C=>P mv v.2.2 C) Y ms l
def o0:Nat->an->Di
 |0,_,_,_,_=>False
 |k+1,w,v,m,Z=>∃QS Y,et w Z 58 2 v m.fs.length (qe QS m.fs)/\(∀b,v.ownBlock=some b->¬Y b)/\(∀b,Y b->Z b)/\jq (λvv f A=>jE (o0 k w) w A vv f.2) Y QS m.fs
def jE.keep {P Q:Di}{w w':an}{A:ap}{vv:Value}{l:List PV}(h:jE P w A vv l)(hk:∀b,A b->b<w.heap.size->w'.heap[b]?=w.heap[b]?)
  (hPQ:∀mv m C,(∀b,C b->A b)->P mv m C->Q mv m C):jE Q w' A vv l:=by
 obtain⟨ms,Y,h1,h2,h3,h4⟩:=h;exact⟨ms,Y,h1.keep hk,h2,h3,h4.imp λmv v C _ _ hC h=>hPQ mv _ C (λb hb=>h3 b (hC b hb)) h⟩
def o0.keep:∀{k:Nat} {w w':an} {v:Value} {m:PM} {Z:ap},o0 k w v m Z->(∀b,Z b->b<w.heap.size->w'.heap[b]?=w.heap[b]?)->o0 k w' v m Z
 |0,_,_,_,_,_,h,_=>h
 |_+1,_,_,_,_,_,⟨QS,Y,h1,h2,h3,h4⟩,hk=>⟨QS,Y,h1.keep hk,h2,h3,h4.imp λ_ _ _ _ _ hA h=>
   h.keep (λb hb hl=>hk b (h3 b (hA b hb)) hl) (λ_ _ _ hC hm=>hm.keep λb hb hl=>hk b (h3 b (hA b (hC b hb))) hl)⟩
def o0.none (k:Nat)(w:an)(Z:ap):o0 (k+1) w (.slice .none 0 0) PM.none Z:=⟨[],λ_=>False,et.nil _ _ _ _,(by intro b h;cases h),(by intro b h;cases h),trivial⟩
def o0.form {k:Nat}{w:an}{v:Value}{m:PM}{Z:ap}(h:o0 k w v m Z):∃a c,v= .slice a m.fs.length c:=by
 cases k with
 |zero=>exact h.elim
 |succ k=>
  obtain⟨QS,Y,h1,_⟩:=h;obtain⟨a,n,c,rfl⟩:=dL h1.1;rw[eI h1.1];exact⟨a,c,rfl⟩
def jE.form {P:Di}{w:an}{A:ap}{vv:Value}{l:List PV}(h:jE P w A vv l):∃a c,vv= .slice a l.length c:=by
 obtain⟨ms,Y,h1,_⟩:=h;obtain⟨a,n,c,rfl⟩:=dL h1.1;rw[eI h1.1];exact⟨a,c,rfl⟩
def Kg {k:Nat}{w:an}{A:ap}{vv:Value}{lv:List LV}(h:et w A 55 4 vv lv.length (lv.flatMap lI)):jE (o0 (k+1) w) w A vv (lv.map oU):=by
 have e:∀lv:List LV,lv.flatMap lI=qd (lv.map λ_=>ah) (lv.map oU):=λlv=>by
  induction lv with
  |nil=>rfl
  |cons x lv ih=>rw[bw,ih];rfl
 refine⟨lv.map λ_=>ah,λ_=>False,?_,λb _ h=>h,λb h=>h.elim,?_⟩
 ·rw[<-e];simpa using h
 ·have:∀lv:List LV,jq (λmv (v:PV) C=>o0 (k+1) w mv v.2.2 C) (λ_=>False) (lv.map λ_=>ah) (lv.map oU):=λlv=>by
   induction lv with
   |nil=>trivial
   |cons x lv ih=>exact⟨λ_=>False,λ_=>False,o0.none k w _,ih,λb h=>h,λb h=>h,λb h=>h.elim⟩
  exact this lv
def Oe (k:Nat)(w:an)(Z:ap)(m:PM)(e:Ending)(w':an):Prop:=
 ∃v Z',e= .returned (.agg #[v,ae m.unk])/\o0 (k+1) w' v m Z'/\(∀b,Z' b->b<w'.heap.size/\(Z b\/w.heap.size<=b))/\aj w w'
def qK (k:Nat)(w:an)(A:ap)(l:List PV)(e:Ending)(w':an):Prop:=
 ∃v Z',e= .returned v/\jE (o0 (k+1) w') w' Z' v l/\(∀b,Z' b->b<w'.heap.size/\(A b\/w.heap.size<=b))/\aj w w'
def tS (S:d8)(k:Nat)(T:Option MT)(w0:an)(B:ap)(wr:an)(u:Value)(done:List PV)(ps:au)(rest:List PV):Prop:=
 ∃ms Y,∃B1 B2:ap,jq (λp v C=>v=mV v.2.2/\ed S k T w0 C p v.2.2) B2 ps rest/\(∀b,B1 b->B b)/\(∀b,B2 b->B b)/\(∀b,B1 b->¬B2 b)/\
  wr.ownsRow w0.heap.size 55 4 u done.length (qd ms done)/\(∀b,u.ownBlock=some b->¬Y b)/\jq (λmv v C=>o0 (k+1) wr mv v.2.2 C) Y ms done/\(∀b,Y b->b<wr.heap.size/\(B1 b\/w0.heap.size<=b))
def tS.start {S:d8}{k:Nat}{T:Option MT}{w0:an}{B:ap}{wr:an}{ps:au}{l:List PV}(h:jq (λp v C=>v=mV v.2.2/\ed S k T w0 C p v.2.2) B ps l):tS S k T w0 B wr (ah) [] ps l:=
 ⟨[],λ_=>False,λ_=>False,B,h,λ_ q=>q.elim,λ_ q=>q,λ_ q=>q.elim,bf _ _ _ _,(λ_ q=>by cases q),trivial,λ_ q=>q.elim⟩
def tS.done {S:d8}{k:Nat}{T:Option MT}{w0:an}{B:ap}{wr:an}{u:Value}{l:List PV}(h:tS S k T w0 B wr u l [] []):
  ∃Z',jE (o0 (k+1) wr) wr Z' u l/\∀b,Z' b->b<wr.heap.size/\(B b\/w0.heap.size<=b):=by
 obtain⟨ms,Y,B1,B2,_,QT,_,_,QP,QR,QQ,hY⟩:=h;refine⟨λb=>Y b\/u.ownBlock=some b,⟨ms,Y,⟨ownsRow_base_a QP (aM _),λb hb=> .inr hb⟩,QR,λb hb=> .inl hb,QQ⟩,?_⟩;rintro b (hb|hb)
 ·exact⟨(hY b hb).1,(hY b hb).2.imp (QT b) id⟩
 ·exact⟨(QP.lt b hb).2,.inr (QP.lt b hb).1⟩
def tS.step {S:d8}{k:Nat}{T:Option MT}{w0:an}{B:ap}{wr w1 w2:an}{u u' mv:Value}{done rest:List PV}{ps:au}{v:PV}{A B2 B2' B1 Y Z':ap}{ms:aq}
  (hlB:∀b,B b->b<w0.heap.size) (h0:w0.heap.size<=wr.heap.size)
  (hs:jq (λp v C=>v=mV v.2.2/\ed S k T w0 C p v.2.2) B2' ps rest) (hA:∀b,A b->B2 b) (hB':∀b,B2' b->B2 b) (hAB:∀b,A b->¬B2' b)
  (QT:∀b,B1 b->B b) (hB2:∀b,B2 b->B b) (h12:∀b,B1 b->¬B2 b) (QP:wr.ownsRow w0.heap.size 55 4 u done.length (qd ms done)) (QR:∀b,u.ownBlock=some b->¬Y b)
  (QQ:jq (λmv v C=>o0 (k+1) wr mv v.2.2 C) Y ms done) (hY:∀b,Y b->b<wr.heap.size/\(B1 b\/w0.heap.size<=b))
  (hb1:aj wr w1) (hm:o0 (k+1) w1 mv v.2.2 Z') (hZ:∀b,Z' b->b<w1.heap.size/\(A b\/wr.heap.size<=b))
  (hg:w1.grownBy w2 u.ownBlock) (hrow':w2.ownsRow w0.heap.size 55 4 u' (done.length+1) (qd ms done++qd [mv] [v])) (hu':u'.ownBlock=u.ownBlock\/∃g,u'.ownBlock=some g/\w1.heap.size<=g):
  tS S k T w0 B w2 u' (done++ [v]) ps rest:=by
 have hlen:ms.length=done.length:=QQ.len
 have QV:∀b,Y b->¬Z' b:=λb hb hz=>by
  have q1:=hY b hb;have q2:=hZ b hz
  rcases q2.2 with q|q
  ·rcases q1.2 with q'|q'
   ·exact h12 b q' (hA b q)
   ·have:=hlB b (hB2 b (hA b q));omega
  ·omega
 have QU:∀b,u.ownBlock=some b->¬(Y b\/Z' b):=λb hb h=>by
  rcases h with h|h
  ·exact QR b hb h
  ·have q:=QP.lt b hb
   rcases(hZ b h).2 with q'|q'
   ·have:=hlB b (hB2 b (hA b q'));omega
   ·omega
 have hk:∀b,(Y b\/Z' b)->b<w1.heap.size->w2.heap[b]?=w1.heap[b]?:=λb hb hl=>hg.block b hl (λe=>QU b e.symm hb)
 refine⟨ms++ [mv],λb=>Y b\/Z' b,λb=>B1 b\/A b,B2',hs,?_,λb hb=>hB2 b (hB' b hb),?_,?_,?_,?_,?_⟩
 ·rintro b (hb|hb)
  ·exact QT b hb
  ·exact hB2 b (hA b hb)
 ·rintro b (hb|hb)
  ·exact λh=>h12 b hb (hB' b h)
  ·exact hAB b hb
 ·rw[tB hlen];simpa using hrow'
 ·intro b hb h
  rcases hu' with e|⟨g,e,hge⟩
  ·exact QU b (e▸hb) h
  ·rw[e]at hb
   cases hb
   rcases h with h|h
   ·have:=(hY _ h).1;have:=hb1.size;omega
   ·have:=(hZ _ h).1;omega
 ·refine jq.append (A:=Y) (B:=Z') ?_ ?_ (λb h=> .inl h) (λb h=> .inr h) QV
  ·refine QQ.imp λmv v C _ _ hC h=>h.keep λb hb hl=> ?_
   exact(hk b (.inl (hC b hb)) (aC hl hb1.size)).trans (hb1.block b hl)
  ·exact⟨Z',λ_=>False,hm.keep λb hb hl=>hk b (.inr hb) hl,trivial,λb h=>h,λb h=>h.elim,λb _ h=>h⟩
 ·have hsz:=hg.size;rintro b (hb|hb)
  ·have q:=hY b hb;have:=hb1.size;exact⟨QD,q.2.imp .inl id⟩
  ·have q:=hZ b hb;exact⟨QD,q.2.imp .inr (λh=>QD)⟩
section
open Go.Maps Go.Sort
def Hs:WideMaps.KeyLaw prog 386:=deep_law (m:=2) QD QI QI QI
def Ht {a b:LV}(h:kV a=kV b):a=b:=by
 unfold kV at h;simp only[Value.agg.injEq,Array.mk.injEq,List.cons.injEq,Value.int.injEq,true_and,Value.string.injEq,and_true]at h;exact cO h.1 h.2
def BH {v:Value}{kl:Lit}(h:Go.keyOf prog 386 v=some kl):∃k:LV,v=kV k/\xj k:=by
 obtain⟨xs,L,rfl,h1,_⟩:=keyOf_top QI h;have hb:Nat.ble 1 prog.types.size=true:=QI;have hb2:=Nat.le_of_ble_eq_true hb;obtain⟨N,hN⟩:∃N,prog.types.size+1=N+1+1:=⟨prog.types.size-1,QD⟩;rw[hN]at h1;obtain⟨l⟩:=xs
 have hl:l.length=2:=by
  simp only[Program.keyLits,underlying386,Dd]at h1
  split at h1
  ·rename_i q;exact q.1
  ·cases h1
 obtain⟨c0,c1,rfl⟩:∃c0 c1,l= [c0,c1]:=by
  match l,hl with
  | [c0,c1],_=>exact⟨c0,c1,rfl⟩
 ·simp[Program.keyLits,underlying386,Dd,Hc,Bp,underlying53,underlying9]at h1
  cases c0 with
  |int q n=>
   simp only at h1
   by_cases hq:q= .u64/\(Lit.int .u64 n).wf=true
   ·rw[dB hq]at h1
    cases c1 with
    |string t=>
     simp only[Option.bind_some,Function.comp]at h1
     by_cases hs:t.size<=maxLen
     ·obtain⟨rfl,h2⟩:=hq;have Q3:(decide (0<=n)&&decide (n<=18446744073709551615))=true:=h2;simp only[aJ,dD]at Q3;exact⟨(n,t),rfl,⟨Q3.1,by show n<_;omega,hs⟩⟩
     ·rw[dA hs]at h1;simp at h1
    |_=>simp at h1
   ·rw[dA hq]at h1;simp at h1
  |_=>simp at h1
def o8 (D0:DataW Unit)(left:Lit->Bool)(ss:List LV):Prop:=ss.Nodup/\(∀k∈ss,xj k)/\∀(k:LV) kl,Go.keyOf prog 386 (kV k)=some kl->(k∈ss<->(has D0 kl=true/\left kl=false))
def o8.start (D0:DataW Unit):o8 D0 (has D0) []:=⟨List.nodup_nil,QE,λk kl _=>by cases has D0 kl<;>simp⟩
def o8.step {D0:DataW Unit}{left:Lit->Bool}{ss:List LV}(h:o8 D0 left ss){x:LV}{kl:Lit}{y:DataW Unit}(hx:xj x)(hk:Go.keyOf prog 386 (kV x)=some kl)(Q0:left kl=true)(Q1:∀zd,D0.atKey kl zd=y):o8 D0 (λz=>left z&& !z.sameKey kl) (ss++ [x]):=by
 have QV:has D0 kl=true:=has_true_of_atKey Q1;have QW:x∉ss:=λq=>by have:=((h.2.2 x kl hk).1 q).2;rw[Q0]at this;cases this
 refine⟨dw.2 ⟨h.1,QE,λa ha b hb=>by simp at hb;subst hb;exact λe=>QW (e▸ha)⟩,λk hk=>by
  rcases aV.1 hk with hk|hk
  ·exact h.2.1 k hk
  ·simp at hk;subst hk;exact hx,λk kl' QS=> ?_⟩
 obtain⟨s,rfl⟩:=Hs.str hk;obtain⟨s',rfl⟩:=Hs.str QS
 by_cases e:k=x
 ·subst e;rw[hk]at QS
  cases QS
  simp[QV,Lit.sameKey]
 ·have Q5:s'≠s:=λq=>by
   subst q;exact e (Ht (Hs.inj QS hk))
  simp[h.2.2 k _ QS,e,Lit.sameKey,Q5]
def zU {v:Value}{y:DataW Unit×List MemPlace}(h:gj v=some y):∃o:Option Nat,v=gC o:=by
 unfold gj at h
 split at h
 ·exact⟨none,rfl⟩
 ·rename_i b;exact⟨some b,rfl⟩
 ·cases h
def Hu (F:Fence)(n:Nat)(hF:∀f,F.fn f)(QP:F.round=none)(hn:1<=n)(l Bm b nn:Nat)(D0:DataW Unit)(J:List LV->an->Prop)
  (hY:∀pre x W,J pre W->pre.length<Go.Maps.size D0->YieldAt F (n-1) prog l #[kV x] W λe W'=>e= .returned (.bool true)/\J (pre++ [x]) W'/\KeepsWalks W W')
  (W:an) (hJ:AbidesFrom W.heap.size J) (hm:W.cell? (ai Bm 0)=some (.map (some b))) (hown:W.ownsMap prog 386 gj b nn D0) (h0:J [] W):
  CallsIn F n prog 356 #[.func (.yield l) #[] #[],ag Bm] W λe W'=>(∃v,e= .returned v)/\∃ss:List LV,(o8 D0 (λ_=>false) ss/\ss.length<=Go.Maps.size D0)/\J ss W':=by
 refine callsIn_of_wp func356 rfl (hF _) ?_ QP;simp only[ntmps356,dy,bE,dt,Nat.reduceAdd,Nat.reduceSub,dg,dh,dz,dq,aR,bi]
 gi_wp2_with (first
  |(gi_at_range;refine wpListIn_range_own _ rfl _ 247 rfl 386 180 Dc underlying247 _ b nn _ rfl hown ?_;intro w0 QY Q8 hs0)
  |gi_in)
 go_frame
 gi_loopw [3] (λ_ wr=>∃(left:Lit->Bool) (cnt:Nat) (ss:List LV),wr.ranges prog 386 gj b W.heap.size nn D0 left cnt/\ss.length+cnt<=Go.Maps.size D0/\o8 D0 left ss/\J ss wr) (λ_ wr=>wr.rangeLeft b W.heap.size)
 case atStart=>exact⟨_,_,[],QY,QE,o8.start D0,hJ [] W w0 none h0 Q8 (λr e=>by cases e)⟩
 case round=>
  obtain⟨left,cnt,ss,QU,hcs,hC,Q4⟩:=hrel
  gi_wp2_with (first
   |(gi_at_next;refine wpListIn_next_ranges _ rfl _ rfl 386 Dc gj kV gC (λkey kl hk=>by obtain⟨k,rfl,_⟩:=BH hk;exact⟨k,rfl⟩) (λv y hv=>by obtain⟨o,rfl⟩:=zU hv;exact⟨o,rfl⟩) b W.heap.size nn _ _ _ rfl QU ?_ ?_)
   |gi_in)
  ·intro hc0 Q9
   gi_wp2
   go_end0;have hz:left=λ_=>false:=funext Q9
   subst hz;exact⟨⟨_,rfl⟩,ss,⟨hC,QD⟩,Q4⟩
  ·intro x1 x2 c kl yd yp w2 QZ QT Q0 hv Q1 Q2 Ra Rb Rc Re;obtain⟨x',ex,Rf⟩:=BH QT;obtain rfl:=Ht ex;have Q6:J ss w2:=hJ ss wr w2 (some W.heap.size) Q4 Rb (λr e=>by cases e;exact⟨ay _,QU.iter_walk⟩);have QX:J ss (w2.alloc (ak #[.int .u64 x1,ae x2] 386)):=hJ ss w2 _ none Q6 (World.grownBy_alloc w2 _ none) (λr e=>by cases e);obtain⟨fn,tmps,assign,body,hy,hR⟩:=hY ss ((x1,x2):LV) _ QX QD;unfold kV at Re hy;clear Rc
   gi_wp2
   refine hR.mono ?_;rintro e W3 ⟨rfl,QX,Rg⟩
   gi_wp2
   have QQ:=Q2.of_walks ((KeepsWalks.alloc _ _).trans Rg);go_roundw
   case rel=>exact⟨_,QZ,ss++ [(x1,x2)],QQ,QF,hC.step Rf QT Q0 Q1,QX⟩
   case measure=>rw[QQ.left_eq,QU.left_eq];exact Ra
def Hv (F:Fence)(n:Nat)(hF:∀f,F.fn f)(QP:F.round=none)(l Bm:Nat)(J:List LV->an->Prop)(W:an)(hJ:AbidesFrom W.heap.size J)
  (hm:W.cell? (ai Bm 0)=some (.map none)) (h0:J [] W):
  CallsIn F n prog 356 #[.func (.yield l) #[] #[],ag Bm] W λe W'=>(∃v,e= .returned v)/\∃ss:List LV,ss= []/\J ss W':=by
 refine callsIn_of_wp func356 rfl (hF _) ?_ QP;simp only[ntmps356,dy,bE,dt,Nat.reduceAdd,Nat.reduceSub,dg,dh,dz,dq,aR,bi];have QU:=run_range_nilMap (P:=prog) W 247 386 180 underlying247;have hnx:∀ty,(Instr.next (ag W.heap.size) false ty).run prog (W.alloc (.mapIter none 0 #[] 0))=_:=λty=>run_next_nilMap _ ty 0 0 #[]
 gi_wp2
 refine wpIn_loop_rounds 1 ?_;rw[roundsIn_succ]
 gi_wp2
 go_end0;exact⟨⟨_,rfl⟩,[],rfl,hJ [] W _ none h0 (World.grownBy_alloc W _ none) (λr e=>by cases e)⟩
def Dj (w:an)(Bm:Nat)(S:List LV->Prop)(N:Nat):Prop:=∀(F:Fence) (n:Nat),(∀f,F.fn f)->F.round=none->1<=n->SeqGives F n prog 356 #[ag Bm] kV S N w
def Dk {w:an}{Bm b nn:Nat}{D0:DataW Unit}(hBm:Bm<w.heap.size)(hm:w.cell? (ai Bm 0)=some (.map (some b)))(hown:w.ownsMap prog 386 gj b nn D0):
  Dj w Bm (λss=>o8 D0 (λ_=>false) ss/\ss.length<=Go.Maps.size D0) (Go.Maps.size D0):=λF n hF QP hn l J W hW hJ hY h0=>by
 have QR:W.ownsMap prog 386 gj b nn D0:=by
  have Q7:=hown.lt;obtain⟨es,clock,hb,Ft,hs,hD⟩:=hown;exact⟨es,clock,(hW.block b Q7).trans hb,Ft,hs,hD⟩
 exact Hu F n hF QP hn l Bm b nn D0 J hY W hJ ((hW.cell (p:=(ai Bm 0)) hBm).trans hm) QR h0
def BI {w:an}{Bm:Nat}(hBm:Bm<w.heap.size)(hm:w.cell? (ai Bm 0)=some (.map none)):Dj w Bm (λss=>ss= []) 0:=
 λF n hF QP _ l J W hW hJ _ h0=>Hv F n hF QP l Bm J W hJ ((hW.cell (p:=(ai Bm 0)) hBm).trans hm) h0
def Of:(prog.info? 386).map (λi=>(i.zero,i.size,i.bytes))=some (some (.agg #[.int .u64 0,ae ⟨#[]⟩]),2,24):=QI
def jX:List LV->aq
 | []=> []
 |k::ks=> .int .u64 k.1::ae k.2::jX ks
def tD:∀(a b:List LV),jX (a++b)=jX a++jX b
 | [],b=>rfl
 |k::a,b=>by simp[jX,tD a b]
def jS:∀a:List LV,(jX a).length=2*a.length
 | []=>rfl
 |k::a=>by simp[jX,jS a];omega
def vK:Code:=(Code.region 2 #[{dst:=some 5,op:=Op.alloc 386,type:=0,pos:= "iter.go:51",after:= #[],guard:=none},{dst:=none,op:=Op.store 386 (Operand.tmp 5) (Operand.tmp 7),type:=0,pos:= "iter.go:51",after:= #[{on:=0,ground:=Ground.data},{on:=0,ground:=Ground.phase}],guard:=none}] false)
def Dl:Code:=(Code.block 1 (Code.region 3 #[{dst:=some 8,op:=Op.load 389 (Operand.tmp 2),type:=389,pos:= "iter.go:52",after:= #[],guard:=none},{dst:=some 9,op:=Op.load 386 (Operand.tmp 5),type:=386,pos:= "iter.go:52",after:= #[],guard:=none},{dst:=some 10,op:=Op.buildSlice 389 1 #[(0,Operand.tmp 9)],type:=389,pos:= "iter.go:52",after:= #[{on:=1,ground:=Ground.data}],guard:=none},{dst:=some 11,op:=Op.call {callee:=Callee.builtin Builtin.append,args:= #[Operand.tmp 8,Operand.tmp 10],argTypes:= #[389,389]},type:=389,pos:= "iter.go:52",after:= #[{on:=0,ground:=Ground.data},{on:=2,ground:=Ground.data}],guard:=none},{dst:=none,op:=Op.store 389 (Operand.tmp 2) (Operand.tmp 11),type:=0,pos:= "iter.go:52",after:= #[{on:=3,ground:=Ground.data},{on:=3,ground:=Ground.chain},{on:=0,ground:=Ground.phase},{on:=1,ground:=Ground.phase},{on:=2,ground:=Ground.phase},{on:=3,ground:=Ground.phase}],guard:=none}] false))
def o9 (fn:FuncId)(sv:Value)(Bs D:Nat)(st:LoopState)(pend:Option Code):Loop:=
 {state:=st,pending:=pend,fn,tmps:= #[ah,sv,ag Bs,undef,ah,undef,sv,undef,undef,undef,undef,undef,undef],params:= #[7],assign:=vK,body:=Dl,defers:=D}
structure Fp (w0:an)(fn:FuncId)(sv:Value)(Bs l D:Nat)(ss:List LV)(W:an):Prop where
 box:∃v,W.heap[Bs]?=some (.cells #[v] 389 (0,0))/\W.ownsRow w0.heap.size 386 2 v ss.length (jX ss)
 L:W.heap[l]?=some (.loop (o9 fn sv Bs D .ready none))
 K:W.heap[D]?=some (.deferred (some []))
 below:aj w0 W
def xX (w0:an)(fn:FuncId)(sv:Value)(Bs l D B:Nat)(hB:w0.heap.size<=B):AbidesFrom B (Fp w0 fn sv Bs l D):=λs W W' row h hg QP=>by
 have QR:∀r,row=some r->∃o:Obj,W.heap[r]?=some o/\o.isWalk=true:=λr e=>(QP r e).2
 obtain⟨v,hv,hr⟩:=h.box
 exact⟨⟨v,(grownBy_keeps hg QR hv rfl).trans hv,ownsRow_abides_a hr hg QR⟩,(grownBy_keeps hg QR h.L rfl).trans h.L,(grownBy_keeps hg QR h.K rfl).trans h.K,
  h.below.grown hg h.below.size (λk e=>aH hB (QP k e).1)⟩
def Kh (F:Fence)(m:Nat)(w0:an)(fn:FuncId)(Rl:F.fn fn)(sv:Value)(Bs l D:Nat)(hBl:Bs≠l)(hDl:D≠l)(hDB:D≠Bs)(h0B:w0.heap.size<=Bs)(h0l:w0.heap.size<=l)
  (N:Nat) (hN:N<=maxLen) (hNb:N*24<=140737488355328) (ss:List LV) (x:LV) (W:an) (h:Fp w0 fn sv Bs l D ss W) (hlen:ss.length<N):
  YieldAt F m prog l #[kV x] W λe W'=>e= .returned (.bool true)/\Fp w0 fn sv Bs l D (ss++ [x]) W'/\KeepsWalks W W':=by
 obtain⟨i0,hi,RC,RD,RE⟩:=info_parts Of;obtain⟨x1,x2⟩:=x;refine⟨fn,#[ah,sv,ag Bs,undef,ah,undef,sv,kV (x1,x2),undef,undef,undef,undef,undef],vK,Dl,by simpa [o9]using run_yield (P:=prog) (args:= #[kV (x1,x2)]) h.L rfl,roundIn_of_wpIn Rl ?_⟩;have hlW:l<W.heap.size:=(bu.1 h.L).1;have hA:Fp w0 fn sv Bs l D ss (W.alloc (.cells #[.int .u64 x1,ae x2] 386)):=xX w0 fn sv Bs l D w0.heap.size (ay _) ss W _ none h (World.grownBy_alloc W _ none) (λr e=>by cases e);have Rm:KeepsWalks W (W.alloc (.cells #[.int .u64 x1,ae x2] 386)):=KeepsWalks.alloc _ _;have Rn:(W.alloc (.cells #[.int .u64 x1,ae x2] 386)).heap[W.heap.size]?=some (.cells #[.int .u64 x1,ae x2] 386 (0,0)):=World.alloc_heap_new _ _;unfold vK kV
 gi_wp2_with (rw[Oper.semAt_eq _ _ _ (λc h=>by cases h)];go_simp;try go_bits)
 generalize W.alloc (.cells #[.int .u64 x1,ae x2] 386)=Wa at hA Rm Rn⊢;obtain⟨v,hv,QP⟩:=hA.box;have hl:l<Wa.heap.size:=(bu.1 hA.L).1;obtain⟨W2,Q0⟩:∃W2,Wa.putObj l (.loop {o9 fn sv Bs D .ready none with state:= .busy})=W2:=⟨_,rfl⟩;have Ro:=run_beginRound (P:=prog) hA.L rfl;rw[Q0]at Ro;have Rp:Wa.grownBy W2 (some l):=by rw[<-Q0];exact grownBy_putObj_a _ _ _
 have Rt:KeepsWalks W W2:=by rw[<-Q0];exact Rm.trans (KeepsWalks.putObj _ hA.L rfl)
 have Q9:W2.heap[Bs]?=some (.cells #[v] 389 (0,0)):=by rw[<-Q0];exact(World.putObj_heap_other hBl).trans hv
 have Rf:W2.heap[D]?=some (.deferred (some [])):=by rw[<-Q0];exact(World.putObj_heap_other hDl).trans hA.K
 have Rg:W2.heap[l]?=some (.loop {o9 fn sv Bs D .ready none with state:= .busy}):=by rw[<-Q0];exact World.putObj_heap_same hl
 have Rq:W2.heap[W.heap.size]?=some (.cells #[.int .u64 x1,ae x2] 386 (0,0)):=by rw[<-Q0];exact(World.putObj_heap_other QD).trans Rn
 have QS:W2.ownsRow w0.heap.size 386 2 v ss.length (jX ss):=QP.kept Rp (ownsRow_ne_a QP hA.L (λQW e=>by cases e));have Ra:aj w0 W2:=hA.below.grown Rp hA.below.size (λk e=>by cases e;exact h0l);clear Q0;have hnc0:W2.cell? (ai W.heap.size 0)=some (.int .u64 x1):=by simp[World.cell?,Rq]
 have hnc1:W2.cell? (ai W.heap.size 1)=some (ae x2):=by simp[World.cell?,Rq]
 obtain⟨hc2,hf2⟩:=cell_of_box_a Q9;have Rh:Bs<W2.heap.size:=(bu.1 Q9).1;have Ru:l<W2.heap.size:=(bu.1 Rg).1;have Ri:D<W2.heap.size:=(bu.1 Rf).1
 have QT:∀{j:Nat} {o:Obj},W2.heap[j]?=some o->(∀QW,o≠ .cells QW 386 (0,0))->some j≠v.ownBlock:=λhj RF=>by
  rcases ownsRow_ne_a QS hj RF with e|e
  ·rw[e];simp
  ·exact λe'=>e e'.symm
 refine⟨W2,Ro,?_⟩;unfold Dl
 gi_wp2_with (first
  |(
    gi_at_builtin;refine wpListIn_append_own _ rfl _ _ 389 rfl w0.heap.size 386 i0 (.agg #[.int .u64 0,ae ⟨#[]⟩]) 2 24 underlying389 hi RC RD RE rfl QG _ _ _ rfl (QS.alloc _) (ai W2.heap.size 0) 1 1 [.int .u64 x1,ae x2] rfl rfl (lG _ _ _ _) QL QD QD (by have:=Ra.size;simp;omega) ?_;intro v' w3 QU Q6 hnil3
    have Q2:w3.heap[Bs]?=some (.cells #[v] 389 (0,0)):=(Q6.block Bs QF (QT Q9 (λQW e=>by cases e))).trans ((Below.heap_alloc _ _ Bs Rh).trans Q9);obtain⟨RG,RH⟩:=cell_of_box_a Q2;obtain⟨g',QQ,QX,rfl,hbase',hgb',hr1,hr2,hr3,hr4⟩:∃g' QQ QX,v'= .slice (some (ai g' 0)) (ss.length+1) QQ/\w0.heap.size<=g'/\w3.heap[g']?=some (.cells QX 386 (0,0))/\ss.length+1<=QQ/\QQ<=maxLen/\QX.size=QQ*2/\QX.toList.take ((ss.length+1)*2)=jX ss++ [.int .u64 x1,ae x2]:=QU.2.elim (λq=>absurd q.2 QD) id
    go_frame)
  |(rw[Oper.semAt_eq _ _ _ (λc h=>by cases h)];go_simp;try go_bits))
 have QV:(W2.alloc (.cells #[.int .u64 x1,ae x2] 386)).grownBy w3 v.ownBlock:=Q6;have Rr:w3.heap[l]?=some (.loop {o9 fn sv Bs D .ready none with state:= .busy}):=(QV.block l QF (QT Rg (λQW e=>by cases e))).trans ((Below.heap_alloc _ _ l Ru).trans Rg);have Q3:w3.heap[D]?=some (.deferred (some [])):=(QV.block D QF (QT Rf (λQW e=>by cases e))).trans ((Below.heap_alloc _ _ D Ri).trans Rf);obtain⟨w4,Q7⟩:∃w4,w3.setCell (ai Bs 0) (.slice (some (ai g' 0)) (ss.length+1) QQ)=w4:=⟨_,rfl⟩;rw[Q7];have Rb:w3.grownBy w4 (some Bs):=by rw[<-Q7];exact grownBy_setCell0_a _ _ _
 have Rw:w4.heap[Bs]?=some (.cells #[.slice (some (ai g' 0)) (ss.length+1) QQ] 389 (0,0)):=by rw[<-Q7];exact heap_setCell_box_a _ Q2
 have Rc:w4.heap[l]?=some (.loop {o9 fn sv Bs D .ready none with state:= .busy}):=(Rb.block l (bu.1 Rr).1 (λe=>hBl (by cases e;rfl))).trans Rr;have Rx:w4.heap[D]?=some (.deferred (some [])):=(Rb.block D (bu.1 Q3).1 (λe=>hDB (by cases e;rfl))).trans Q3;have QY:=QU.kept Rb (ownsRow_ne_a QU Q2 (λQW e=>by cases e));have Ry:l<w4.heap.size:=(bu.1 Rc).1;have Q4:aj w0 w3:=(Ra.alloc Ra.size _).grown QV (by have:=Ra.size;simp;omega) (λk e=>(QS.lt k e).1);have Rs:aj w0 w4:=Q4.grown Rb Q4.size (λk e=>by cases e;exact h0B);have Rz:KeepsWalks W w4:=((Rt.trans (KeepsWalks.alloc _ _)).trans (KeepsWalks.of_grownBy QV (ownsRow_not_walk_a (QS.alloc _)))).trans (by rw[<-Q7];exact KeepsWalks.setCell _ _ _);clear Q7;refine⟨_,_,run_endRound none Rc,rfl,⟨⟨_,(World.putObj_heap_other hBl).trans Rw,?_⟩,World.putObj_heap_same Ry,(World.putObj_heap_other hDl).trans Rx,Rs.grown (grownBy_putObj_a _ _ _) Rs.size (λk e=>by cases e;exact h0l)⟩,Rz.trans (KeepsWalks.putObj _ Rc rfl)⟩;have:=QY.kept (grownBy_putObj_a w4 l (.loop {{o9 fn sv Bs D .ready none with state:= .busy}with state:=if(none:Option Code).isNone then .ready else .done,pending:=none})) (ownsRow_ne_a QY Rc (λQW e=>by cases e));simpa [tD,jX]using this
def Dm (F:Fence)(n:Nat)(hF:∀f,F.fn f)(hro:F.round=none)(hn:2<=n)(g:Nat)(lb:Array Value)(eg:∀args w,(callFunc g args).run prog w= .ok (.enter g args) w)
  (S:List LV->Prop) (N:Nat) (hN:N<=maxLen) (hNb:N*24<=140737488355328) (w:an) (hseq:SeqGives F (n-1) prog g lb kV S N w):
  CallsIn F n prog 407 #[ah,.func (.func g) #[] lb] w λe w'=>∃(v:Value) (ss:List LV),e= .returned v/\S ss/\w'.ownsRow w.heap.size 386 2 v ss.length (jX ss)/\aj w w':=by
 have h1:1<=n:=QD;refine callsIn_of_wp_marks func407 rfl (hF _) ?_ hro;simp only[ntmps407,dy,bE,dt,Nat.reduceAdd,Nat.reduceSub,dg,dh,dz,dq,aR,bi]
 gi_wp2
 refine wpIn_rangeFunc ?_;intro fn Rl;rw[hro];obtain⟨W0,Re⟩:∃W0,w.alloc (.cells #[ah] 389)=W0:=⟨_,rfl⟩;have RA:W0.heap.size=w.heap.size+1:=by rw[<-Re];simp
 have RB:W0.heap[w.heap.size]?=some (.cells #[ah] 389 (0,0)):=by rw[<-Re];exact World.alloc_heap_new w _
 have Rj:aj w W0:=by rw[<-Re];exact(Below.refl _ w).alloc (ay _) _
 rw[Re];obtain⟨W1,Q1⟩:∃W1,(W0.alloc (.deferred (some []))).alloc (.loop (o9 fn (.func (.func g) #[] lb) w.heap.size W0.heap.size .ready none))=W1:=⟨_,rfl⟩
 have hold:∀k,k<W0.heap.size->W1.heap[k]?=W0.heap[k]?:=λk hk=>by
  rw[<-Q1];exact(Below.heap_alloc _ _ k QF).trans (Below.heap_alloc _ _ k hk)
 have Rk:aj w W1:=by rw[<-Q1];exact(Rj.alloc Rj.size _).alloc (by have:=Rj.size;simp;omega) _
 have hs1:W1.heap.size=W0.heap.size+2:=by rw[<-Q1];simp
 have hM:Fp w fn (.func (.func g) #[] lb) w.heap.size (W0.heap.size+1) W0.heap.size [] W1:=
  ⟨⟨_,(hold w.heap.size QD).trans RB,⟨rfl,.inl ⟨rfl,rfl⟩⟩⟩, by rw[<-Q1];have:=World.alloc_heap_new (W0.alloc (.deferred (some []))) (.loop (o9 fn (.func (.func g) #[] lb) w.heap.size W0.heap.size .ready none));rwa [ck]at this, by rw[<-Q1];exact(Below.heap_alloc _ _ _ QE).trans (World.alloc_heap_new W0 _),Rk⟩
 refine⟨W0.heap.size+1,[{target:= .collected W0.heap.size,args:= #[]}],W1,{target:= .fn (.func g) lb,args:= #[.func (.yield (W0.heap.size+1)) #[] #[]]},W1,g,
  #[.func (.yield (W0.heap.size+1)) #[] #[]]++lb,W1,?_,?_,?_,?_,λ_=>h1,?_⟩
 ·rw[<-Q1];exact run_enterLoop_outer _ _ _ _ _
 ·simp[resolve,go_sem]
 ·intro f' hf';exact hF _
 ·simp[invoke,go_sem,eg]
 ·refine(hseq (W0.heap.size+1) (Fp w fn (.func (.func g) #[] lb) w.heap.size (W0.heap.size+1) W0.heap.size) W1 Rk (xX _ _ _ _ _ _ _ Rk.size)
   (λpre x W hJ hl=>Kh F (n-1-1) w fn Rl _ w.heap.size (W0.heap.size+1) W0.heap.size QD QD QD (ay _) QD N hN hNb pre x W hJ hl) hM).mono ?_
  rintro e W2 ⟨⟨v0,rfl⟩,ss,hS,h2⟩;obtain⟨v,hv,QP⟩:=h2.box;have Q5:=run_endLoop (P:=prog) h2.L (by simp[o9]);obtain⟨W3,Q8⟩:∃W3,W2.putObj (W0.heap.size+1) (.loop {o9 fn (.func (.func g) #[] lb) w.heap.size W0.heap.size .ready none with state:= .exhausted})=W3:=⟨_,rfl⟩;rw[Q8]at Q5;have Q6:W2.grownBy W3 (some (W0.heap.size+1)):=by rw[<-Q8];exact grownBy_putObj_a _ _ _
  have Q2:W3.heap[w.heap.size]?=some (.cells #[v] 389 (0,0)):=by rw[<-Q8];exact(World.putObj_heap_other QD).trans hv
  have Q3:W3.heap[W0.heap.size]?=some (.deferred (some [])):=by rw[<-Q8];exact(World.putObj_heap_other QD).trans h2.K
  have QZ:=QP.kept Q6 (ownsRow_ne_a QP h2.L (λQW e=>by cases e));have Q4:aj w W3:=h2.below.grown Q6 h2.below.size (λk e=>by cases e;omega);obtain⟨RG,RH⟩:=cell_of_box_a Q2;clear Q8;refine⟨none,W3,Q5,?_⟩
  gi_wp2
  rw[<-RA];refine⟨QE,.inl ⟨_,_,rfl,run_takeDeferred Q3,?_⟩⟩;exact⟨_,results_tmp rfl _ _ _,v,ss,rfl,hS,QZ.kept (grownBy_putObj_a _ _ _) (ownsRow_ne_a QZ Q3 (λQW e=>by cases e)),Q4.grown (grownBy_putObj_a _ _ _) Q4.size (λk e=>by cases e;omega)⟩
def Hw (F:Fence)(n:Nat)(hF:∀f,F.fn f)(hro:F.round=none)(hn:3<=n)(g:Nat)(lb:Array Value)(eg:∀args w,(callFunc g args).run prog w= .ok (.enter g args) w)
  (S:List LV->Prop) (N:Nat) (hN:N<=maxLen) (hNb:N*24<=140737488355328) (w:an) (hseq:SeqGives F (n-1-1) prog g lb kV S N w):
  CallsIn F n prog 354 #[.func (.func g) #[] lb] w λe w'=>∃(v:Value) (ss:List LV),e= .returned v/\S ss/\w'.ownsRow w.heap.size 386 2 v ss.length (jX ss)/\aj w w':=by
 have h1:1<=n:=QD;refine callsIn_of_wp func354 rfl (hF _) ?_ hro;simp only[ntmps354,dy,bE,dt,Nat.reduceAdd,Nat.reduceSub,dg,dh,dz,dq,aR,bi]
 gi_wp2
 refine(Dm F (n-1) hF hro QD g lb eg S N hN hNb _ hseq).mono ?_;rintro e w' ⟨v,ss,rfl,hS,QP,hb⟩
 gi_wp2
 go_ret;exact⟨v,ss,rfl,hS,QP,hb⟩
end
end Go.Proofs.YtfebdimolnobaaaGreatDoor
