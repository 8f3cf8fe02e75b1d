import Derived.Test.YtfebdimolnobaaaGreatDoorOrA
set_option maxRecDepth 100000
set_option maxHeartbeats 8000000
set_option linter.all false
namespace Go.Proofs.YtfebdimolnobaaaGreatDoor
open Go.RowKit Go.Proofs.Tryz
section
attribute [local go_sem↓] Go.wp_at_zero Go.wp_at_succ
def ng (form:Int)(m:PM)(n:Int)(sm:PM):PM:=if form=2 then m.put n (m.get n++ [mV sm])else m.put n [mV sm]
def j0 (form:Int)(m:PM)(n:Int):PM:=if form=2 then PM.none else((m.get n).headD PV.none).2.2
def wj (form:Int)(args:Array Value)(w:an):(callFunc (jf form) args).run prog w= .ok (.enter (jf form) args) w:=by
 unfold jf
 split
 ·exact enters_of func190 QI rfl args w
 ·exact enters_of func191 QI rfl args w
def xt {S:d8}{mp:am->Option Nat}{d:MT}{f:eP}{g:GF}{sub:MT}(fg:FG S mp d f g)(hff:dP d.fs f.num=some f)(hM:zK S d f sub)(k:Nat)(w:an)(Z:ap)(db:Nat)(m:PM)(h:ed S (k+1+1) (some d) w Z db m)(hl:m.fs.length<1073741823)(hvl:(m.get f.num).length<1073741824)(hZ:∀b,Z b->b<w.heap.size):
  Calls prog (jf g.form) #[ag db,aa f.num] w (qs S (k+1) (some d) w Z db (some sub) (j0 g.form m f.num) (ng g.form m f.num)):=by
 obtain⟨ok1,ok2,Rh⟩:=hM.kind hff
 by_cases h2:g.form=2
 ·have e1:jf g.form=190:=by unfold jf;rw[dB h2]
  have e2:j0 g.form m f.num=PM.none:=by unfold j0;rw[dB h2]
  have e3:ng g.form m f.num=λm'=>m.put f.num (m.get f.num++ [mV m']):=funext λsm=>by unfold ng;rw[dB h2]
  rw[e1,e2,e3,<-Rh];exact mY S k (some d) w Z db m f.num (h.slot QD) ok1 ok2 (λ⟨d',f',e1,e2,e3⟩=>by cases e1;rw[hff]at e2;cases e2;rw[fg.rep,h2]at e3;cases e3) hvl (λq=>by have:=hZ _ q;omega)
 ·have e1:jf g.form=191:=by unfold jf;rw[dA h2]
  have e2:j0 g.form m f.num=((m.get f.num).headD PV.none).2.2:=by unfold j0;rw[dA h2]
  have e3:ng g.form m f.num=λm'=>m.put f.num [mV m']:=funext λsm=>by unfold ng;rw[dA h2]
  rw[e1,e2,e3,<-Rh];exact vy S k (some d) w Z db m f.num h ok1 ok2 ⟨d,f,rfl,hff,by rw[fg.rep];simp[h2]⟩ hl hZ
def Ot (w:an)(B:Nat)(S:d8)(mp pm:am->Option Nat)(k:Nat)(d:MT)(f:eP)(g:GF)(Z:ap)(rb db:Nat)(b:am)(e a z deep F:Nat)(kind:Int)(m:PM)(sub:MT)(v:Value)
  (I:nD w B S mp k d Z rb db b e a z deep m) (hpc:mr w (λb=>b<B) S mp pm) (hv:MW w (λb=>b<B) mp pm g v) (fg:FG S mp d f g) (hff:dP d.fs f.num=some f) (hS:Bt S) (hM:zK S d f sub) (hkd:k+deep=8) (hRd:Iy S mp pm B b F) (hF:e-z<=F):
  lw v [aa kind,ag rb,ag db] w (gR S k d w Z rb db (b.extract 0 e) deep (tR S b F sub (j0 g.form m f.num) deep (ng g.form m f.num) (lW (b.extract 0 e) z deep (jF mp g)))):=by
 obtain⟨ib,lb,pb,ub,pn,rfl,h1,h2,h3,h4,Ri,q1,q2,q3,q4⟩:=hv;refine⟨419,[_,_,_,_],rfl,enters_of func419 QI rfl,?_⟩;show Calls prog 419 #[aa kind,ag rb,ag db,ag ib,ag lb,ag pb,ag ub] w _;have Rm:g.form≠4:=λq=>by have:=hM.hm;rw[fg.map,q]at this;cases this
 obtain⟨Q6,Rj,Rk,RA⟩:=pO (deep:=deep) fg hS hM.hs QD;rw[fg.eq]at h4 Ri;have QZ:S.msg f.ty=some sub:=by have:=hM.hs;unfold eR at this;rw[hM.hm]at this;exact this
 obtain⟨Q7,gs,Rl,RB,RC⟩:=hpc _ _ Ri;obtain rfl:sub=Q7:=by rw[QZ]at Rl;exact Option.some.inj Rl
 have Rn:(b.extract 0 e).size=e:=fX I.eb;have hab:=I.az;have hze:=I.ze;have Ro:=I.eb;have hbs:=I.bs;have hrb:=I.rB;have Rb:=I.rZ;have QY:=I.hZ;have Rp:=I.cx.le;have Rq:rb<w.heap.size:=dK.lt I.hr;have Q0:=nw w.drew rb (b.extract 0 e) z deep (jF mp g) (I.hr:dU w.drew rb (b.extract 0 e) z deep) QD QD QD Rj Rk;obtain⟨QR,QS⟩:∃QR,jF mp g=QR:=⟨_,rfl⟩;rw[QS]at h2 Q0⊢
 have Rc:Hid (∀y:Nat×Nat,lW (b.extract 0 e) z deep QR= .ok y->z<y.1/\y.1<=y.2/\y.2<=e/\1<=k/\(b.extract 0 e).extract 0 y.2=b.extract 0 y.2):=λy hy=>by
  obtain⟨q1,q2⟩:=rF hy;obtain⟨v0,v1,v2⟩:=it (z:=y.1) (e:=y.2) q1;rw[Rn]at v2
  have hlv:1<=QR:=by
   rw[<-QS];unfold jF;rw[dA (λq=>Rm q.1),dB RA];exact dj _
  exact⟨v0,v1,v2,QD,jw Ro v2⟩
 clear QS Rj Rk Q6;obtain⟨R,hR⟩:∃R,lW (b.extract 0 e) z deep QR=R:=⟨_,rfl⟩;rw[hR]at Q0 Rc⊢;clear hR;have hlen:=I.wm.len
 have Re:WM S a sub (j0 g.form m f.num):=by
  unfold j0
  split
  ·exact WM.none S a sub
  ·rename_i h2
   have:=(lK I.wm hff hM.hs).2;unfold eH at this;rw[hM.hm,fg.rep]at this;simpa [h2]using this
 have HP:Hid (∀k',k=k'+1->∀(w3:an),ed S (k+1) (some d) w3 Z db m->w.heap.size<=w3.heap.size->Calls prog (jf g.form) #[ag db,aa f.num] w3 (qs S k (some d) w3 Z db (some sub) (j0 g.form m f.num) (ng g.form m f.num))):=by
  rintro k' rfl w3 Q2 RD;exact xt fg hff hM k' w3 Z db m Q2 QD (by have:=hlen.2.2 f.num;omega) (λx q=>aC (QY x q).2 RD)
 have Rr:Hid (∀k',k=k'+1->∀(w4:an) (C:ap) (y:Nat×Nat) (nb p:Nat),Below B w w4->z<y.1->y.1<=y.2->y.2<=e->dU w4 nb (b.extract 0 y.2) y.1 ((deep:Int)+1)->ed S k (some sub) w4 C p (j0 g.form m f.num)->(∀x,C x->B<=x/\x<w4.heap.size)->B<=nb->¬C nb->
   Calls prog 89 #[ag pn,ag nb,ag p] w4 (gR S k' sub w4 C nb p (b.extract 0 y.2) (deep+1) (nC y.2 (ew S b F sub (j0 g.form m f.num) y.1 y.2 (deep+1))))):=by
  rintro k' rfl w4 C y nb p Q8 v0 v1 v2 RE Q9 hC RF Q5;exact hRd w4 C sub _ y.1 y.2 (deep+1) k' pn gs nb p (I.cx.on Q8) (hpc.keep (λx q _=>Q8.block x q)) (RB.keep (λx q _=>Q8.block x q) (λ_ _ q=>q)) RC (hS.good.sub hM.hs) (by rw[df];exact RE) Q9 hC RF Q5 v1 QD QD QD (Re.mono QD)
 have ep:=wj g.form;have Rs:ed S (k+1) (some d) w.drew Z db m:=I.hd.keep (λ_ _ _=>rfl);clear Re hlen;generalize j0 g.form m f.num=m0 at*;generalize ng g.form m f.num=M at*;generalize jf g.form=pf at*;unfold AH at h3;have Rt:dK w.drew ib #[ag pn] 116:=h1;have Ru:dK w.drew lb #[aa QR] 3:=h2;have Rw:dK w.drew pb #[.func (.func pf) #[] #[]] 477:=h3;have Rx:dK w.drew ub #[aa f.num] 3:=h4
 have HC:Hid (∀W:an,Below B w.drew W->W.cell? (ai ib 0)=some (ag pn)/\W.cell? (ai lb 0)=some (aa QR)/\W.cell? (ai pb 0)=some (.func (.func pf) #[] #[])/\W.cell? (ai ub 0)=some (aa f.num)):=λW hW=>
  ⟨(Rt.below hW q1).cell 0,(Ru.below hW q2).cell 0,(Rw.below hW q3).cell 0,(Rx.below hW q4).cell 0⟩
 have QT:Hid (∀y:Nat×Nat,tR S b F sub m0 deep M (.ok y)=Fm M y.2 (ew S b F sub m0 y.1 y.2 (deep+1))):=λ_=>rfl
 have b0:Below B w w.drew:=(Below.refl _ _).drew;have Rf:el w Z rb w.drew Z:= .of_below (Below.refl _ _).drew;go_enter func419,ntmps419;go_upto_region 0 with fail
 go_region_held2 (λW=>W.cell? (ai ib 0)=some (ag pn)/\W.cell? (ai lb 0)=some (aa QR)/\W.cell? (ai pb 0)=some (.func (.func pf) #[] #[])/\W.cell? (ai ub 0)=some (aa f.num))
  (first|exact HC.out _ b5|exact HC.out _ b4|exact HC.out _ b3|exact HC.out _ (Below.refl _ _))
  (first
   |(
     go_at_call 185;refine Q0.mono ?_;intro en w3 hq
     rcases hq.part with⟨x,rfl,rfl,QQ⟩|⟨y,nb,rfl,rfl,QQ,RG,RH,QW,Ra⟩
     ·unfold dI;go_wp2;exact⟨rfl,rfl,Z,Rf.trans (.of_kept QQ)⟩
     obtain⟨v0,v1,v2,v3,v4⟩:=Rc.out y rfl;obtain⟨k',rfl⟩:∃k',k=k'+1:=⟨k-1,QD⟩;have Q1:=Rf.trans (.of_kept QQ);have Q2:=el.dr Rs QQ Rb;have Ry:w.heap.size<=w3.heap.size:=QQ.size;have hnb1:w.heap.size<=nb:=RG;have QU:nb<w3.heap.size:=dK.lt QW;have Q3:¬Z nb:=λq=>by have:=(QY nb q).2;omega
     have b3:Below B w.drew w3:=⟨QQ.os,QQ.tape,QQ.output,QQ.size,λi hi=>QQ.block i (aC hi Rp) QF⟩
     have QV:dU w3 nb (b.extract 0 y.2) y.1 ((deep:Int)+1):=by rw[<-v4];exact QW)
   |(
     go_at_call 89;refine(Rr.out k' rfl w4 C y nb p (b0.trans b4) v0 v1 v2 Q4 Q9 (λx q=>⟨Rg x (hH.1 x q),RK x q⟩) QD Q5).mono ?_;intro en w5 RI
     rcases RI.part with⟨x,hP,rfl,Z5,QX⟩|⟨sm,hP,rfl,Z5,QX,RJ⟩
     ·unfold dI;go_wp2;rw[QT.out y,hP];exact⟨rfl,rfl,_,nF Q1 QD QP hH.1 QX⟩
     have b5:Below B w.drew w5:=b4.trans (QX.below (by have:=QP.size;omega) (λx q=>Rg x (hH.1 x q)) QD);have Rz:Hid (ew S b F sub m0 y.1 y.2 (deep+1)= .ok sm):=hP
     clear hP)
   |(
     refine(HP.out k' rfl w3 Q2 Ry).mono ?_;rintro en w4 ⟨p,Z4,C,rfl,QP,Q9,hH,RK⟩;have Rg:∀x,Z4 x->B<=x:=λx q=>(QP.grow x q).elim (λe=>(QY x e).1) (λe=>QD)
     have Q4:dU w4 nb (b.extract 0 y.2) y.1 ((deep:Int)+1):=dK.step QV QP Q3;have b4:Below B w.drew w4:=b3.trans ⟨QP.os,QP.tape,QP.output,QP.size,λi hi=>QP.block i QD (λq=>by have:=(QY i q).1;omega)⟩
     have Q5:¬C nb:=λq=>QP.not QU Q3 (hH.1 nb q)))
 all_goals
  go_wp2;go_end0;rw[QT.out y,Rz.out];exact⟨rfl,_,nF Q1 QD QP hH.1 QX,vJ Q1 Rq Rb QU Q3 RH Ra QP hH QX RJ⟩
def Cl {w:an}{Q:ap}{mp pm:am->Option Nat}{k t:am}{p:Nat}(h:qv w Q mp (AK w Q mp pm) (Js mp pm) [kz mQ k 1,kz oD t 2] p):ic w Q mp pm [kz mQ k 1,kz oD t 2] p:=
 qv.move (.keep λ_ _ _=>rfl) (λg hg v hv=>by
  simp only[aN,bF,or_false]at hg;unfold kZ
  rcases hg with rfl|rfl
  ·rw[dA (by simp[kz])];exact hv
  ·rw[dA (by simp[kz])];exact hv) (λg hg v hv=>by
  simp only[aN,bF,or_false]at hg
  rcases hg with rfl|rfl
  ·exact(iA.lk (by simp[kz])).2 hv
  ·exact(iA.lk (by simp[kz])).2 hv) h
def Ou (w:an)(B:Nat)(S:d8)(mp pm:am->Option Nat)(k:Nat)(d:MT)(f:eP)(g:GF)(Z:ap)(rb db:Nat)(b:am)(e a z deep F:Nat)(kind:Int)(m:PM)(v:Value)
  (I:nD w B S mp k d Z rb db b e a z deep m) (hpc:mr w (λb=>b<B) S mp pm) (hv:LX w (λb=>b<B) mp (qv w (λb=>b<B) mp (AK w (λb=>b<B) mp pm) (Js mp pm) [kz mQ g.f.key 1,kz oD g.f.ty 2]) g v) (fg:FG S mp d f g) (hff:dP d.fs f.num=some f) (hS:Bt S) (h4:g.form=4) (hkd:k+deep=8) (hgd:kU S d) (hRd:Iy S mp pm B b F) (hF:e-z<=F):
  lw v [aa kind,ag rb,ag db] w (gR S k d w Z rb db (b.extract 0 e) deep (tR S b F (eo f) PM.none deep (xk f m) (lW (b.extract 0 e) z deep (jF mp g)))):=by
 obtain⟨ib,lb,ub,sb,Q3,rfl,h1,h2,h3,h5,Q2,q1,q2,q3,q4⟩:=hv;refine⟨418,[_,_,_,_],rfl,enters_of func418 QI rfl,?_⟩;show Calls prog 418 #[aa kind,ag rb,ag db,ag ib,ag lb,ag ub,ag sb] w _;have Q2:=Cl Q2;have hm:f.isMap=true:=by rw[fg.map,h4];rfl
 have QP:eR S f=some (eo f):=by unfold eR;rw[dB hm]
 obtain⟨Rc,Rs,Rt,RG⟩:=pO (deep:=deep) fg hS QP QD;obtain⟨RH,kq2,RI,RJ⟩:=fg.key h4;have Rh:oq S f= .ents f.key:=by unfold oq;rw[dB hm]
 have ok1:ny S (some d) f.num (.ents f.key):=λd' f' e1 e2=>by cases e1;rw[hff]at e2;cases e2;exact Rh.symm
 have ok2:∀kd,ny S (some d) f.num kd->kd= .ents f.key:=λkd q=>by rw[q d f rfl hff,Rh]
 rw[fg.eq]at h3 h5 Q2;rw[RH,RJ]at h5;have Ru:(b.extract 0 e).size=e:=fX I.eb;have hab:=I.az;have hze:=I.ze;have Rw:=I.eb;have Rx:=I.bs;have Ri:=I.rB;have Rj:=I.rZ;have QU:=I.hZ;have Q4:=I.cx.le;have Ry:rb<w.heap.size:=dK.lt I.hr;have Q5:=λw1 (h:dU w1 rb (b.extract 0 e) z deep)=>nw w1 rb (b.extract 0 e) z deep (jF mp g) h QD QD QD Rs Rt
 obtain⟨QQ,QR⟩:∃QQ,jF mp g=QQ:=⟨_,rfl⟩;rw[QR]at h2 Q5⊢
 have Rk:Hid (∀y:Nat×Nat,lW (b.extract 0 e) z deep QQ= .ok y->z<y.1/\y.1<=y.2/\y.2<=e/\1<=k/\(b.extract 0 e).extract 0 y.2=b.extract 0 y.2):=λy hy=>by
  obtain⟨q1,q2⟩:=rF hy;obtain⟨v0,v1,v2⟩:=it (z:=y.1) (e:=y.2) q1;rw[Ru]at v2
  have hlv:1<=QQ:=by
   rw[<-QR];unfold jF;rw[RG]
   split<;>simp
  exact⟨v0,v1,v2,QD,jw Rw v2⟩
 clear QR Rs Rt Rc;obtain⟨R,hR⟩:∃R,lW (b.extract 0 e) z deep QQ=R:=⟨_,rfl⟩;rw[hR]at Q5 Rk⊢;clear hR;have hlen:=I.wm.len
 have Rz:Hid (∀k',k=k'+1->∀(w4:an) (C:ap) (y:Nat×Nat) (nb p:Nat),Below B w w4->z<y.1->y.1<=y.2->y.2<=e->dU w4 nb (b.extract 0 y.2) y.1 ((deep:Int)+1)->ed S k (some (eo f)) w4 C p PM.none->(∀x,C x->B<=x/\x<w4.heap.size)->B<=nb->¬C nb->
   Calls prog 89 #[ag Q3,ag nb,ag p] w4 (gR S k' (eo f) w4 C nb p (b.extract 0 y.2) (deep+1) (nC y.2 (ew S b F (eo f) PM.none y.1 y.2 (deep+1))))):=by
  rintro k' rfl w4 C y nb p Re v0 v1 v2 RK RL hC RM RN;exact hRd w4 C (eo f) _ y.1 y.2 (deep+1) k' Q3 _ nb p (I.cx.on Re) (hpc.keep (λx q _=>Re.block x q)) (Q2.keep (λx q _=>Re.block x q) (λ_ _ q=>q)) (zO fg h4) (hS.good.sub QP) (by rw[df];exact RK) RL hC RM RN v1 QD QD QD (WM.none _ _ _)
 have Q6:Hid (∀k',k=k'+1->∀(w6:an) (Z6 E:ap) (eb:Nat) (y:Nat×Nat) (sm:PM),z<y.1->y.1<=y.2->y.2<=e->ew S b F (eo f) PM.none y.1 y.2 (deep+1)= .ok sm->ed S (k+1) (some d) w6 Z6 db m->ed S k (some (eo f)) w6 E eb sm->(∀x,E x->¬Z6 x)->(∀x,Z6 x->x<w6.heap.size)->(∀x,E x->x<w6.heap.size)->
   Calls prog 187 #[ag db,aa f.num,.bool (eM iJ f.key),ag eb] w6 λen w'=>en= .returned (.tuple #[])/\∃Z',fi w6 (λb=>Z6 b\/E b) w' Z'/\ed S (k+1) (some d) w' Z' db (xk f m sm)):=by
  rintro k' rfl w6 Z6 E eb y sm v0 v1 v2 RO Rb RP Rf RQ RT;have Rl:=jW hS.good Rx F (eo f) PM.none y.1 y.2 (deep+1) sm RO (hS.good.sub QP) v1 QD (WM.none _ _ _);have Rm:=zC (hgd f (eT hff).2 hm) Rl;have hel:=Rl.len.1;exact tz S k' (some d) w6 Z6 E db eb m sm f.num f.key _ Rb RP.toKey RI Rf RQ RT ok1 ok2 rfl Rm.ky (by obtain⟨r,hr⟩:=Rm.key;show(fO sm).get 1≠ [];have:(mV (fO sm)).2.2.get 1=_:=hr;simp only[mV]at this;rw[this];simp) QD (by have:=hlen.2.2 f.num;omega) QD
 have hr0:=I.hr;have RA:=I.hd;obtain⟨B1,KE⟩:=dR w #[ah,ah] 183;have Rn:w.heap.size<(w.alloc (ak #[ah,ah] 183)).heap.size:=KE.lt;have QW:Hid (∀y:Nat×Nat,tR S b F (eo f) PM.none deep (xk f m) (.ok y)=Fm (xk f m) y.2 (ew S b F (eo f) PM.none y.1 y.2 (deep+1))):=λ_=>rfl
 clear I;go_enter func418,ntmps418;go_upto_region 1 with fail
 obtain⟨wa,Rg⟩:∃wa,w.alloc (ak #[ah,ah] 183)=wa:=⟨_,rfl⟩;rw[Rg]at KE B1 Rn;simp only[Rg];clear Rg;obtain⟨eb,QZ⟩:∃eb,w.heap.size=eb:=⟨_,rfl⟩;have b1:Below B w wa.drew:=(B1.mono Q4).drew;have Q7:dU wa.drew rb (b.extract 0 e) z deep:=dK.below hr0 B1.drew Ry;have Q8:ed S (k+1) (some d) wa.drew Z db m:=RA.keep (λx _ q=>B1.block x q);have QX:el w Z rb wa.drew Z:= .of_below B1.drew;have HC:Hid (∀W:an,Below B w W->W.cell? (ai ib 0)=some (ag Q3)/\W.cell? (ai lb 0)=some (aa QQ)):=λW hW=>⟨(h1.below hW q1).cell 0,(h2.below hW q2).cell 0⟩
 have Ro:dK wa.drew w.heap.size #[ah,ah] 183:=KE;rw[QZ]at Ro Rn;simp only[QZ]
 go_region_held2 (λW=>W.cell? (ai ib 0)=some (ag Q3)/\W.cell? (ai lb 0)=some (aa QQ))
  (first|exact HC.out _ b5|exact HC.out _ b3|exact HC.out _ b1)
  (first
   |(
     go_at_call 185;refine(Q5 wa.drew Q7).mono ?_;intro en w3 hq
     rcases hq.part with⟨x,rfl,rfl,QV⟩|⟨y,nb,rfl,rfl,QV,RU,RV,Q0,Q1⟩
     ·unfold dI;go_wp2;exact⟨rfl,rfl,Z,QX.trans (.of_kept QV)⟩
     obtain⟨v0,v1,v2,v3,v4⟩:=Rk.out y rfl;obtain⟨k',rfl⟩:∃k',k=k'+1:=⟨k-1,QD⟩;have Q9:=QX.trans (.of_kept QV);have RB:=el.dr Q8 QV Rj;have hw3:wa.heap.size<=w3.heap.size:=QV.size;have hnb1:wa.heap.size<=nb:=RU;have hnl3:nb<w3.heap.size:=dK.lt Q0;have RC:¬Z nb:=λq=>by have:=(QU nb q).2;omega
     have RD:=Ro.kept QV QF;have RE:ed S (k'+1) (some (eo f)) w3 (λx=>x=eb) eb PM.none:=ed.fresh RD;have b3:Below B w w3:=Q9.below Q4 (λx q=>(QU x q).1) Ri
     have QY:dU w3 nb (b.extract 0 y.2) y.1 ((deep:Int)+1):=by rw[<-v4];exact Q0)
   |(
     go_at_call 89;refine(Rz.out k' rfl w3 (λx=>x=eb) y nb eb b3 v0 v1 v2 QY RE (λx q=>by subst q;exact⟨QD,QD⟩) QD QD).mono ?_;intro en w5 RW
     rcases RW.part with⟨x,hP,rfl,Z5,QS⟩|⟨sm,hP,rfl,Z5,QS,RX⟩
     ·unfold dI;go_wp2;rw[QW.out y,hP];exact⟨rfl,rfl,_,rG Q9 QD QD QS⟩
     have Rp:=rG Q9 QD QD QS;have b5:Below B w w5:=Rp.below Q4 (λx q=>(QU x q).1) Ri;have Rq:Hid (ew S b F (eo f) PM.none y.1 y.2 (deep+1)= .ok sm):=hP
     clear hP))
 have Rr:∀x,Z5 x->x=eb\/w3.heap.size<=x:=QS.grow;have Ra:=RX.clip;have Rb:ed S (k'+1+1) (some d) w5 Z db m:=RB.keep λx q hl=>QS.block x hl (λe=>by have:=(QU x q).2;omega) (λe=>RC (e▸q))
 have RF:dU w5 rb (b.extract 0 e) y.2 deep:=(QS.block rb (dK.lt Q1) QD (λe=>RV e.symm)).trans Q1;have hw5:w3.heap.size<=w5.heap.size:=QS.size;obtain⟨k1,k2⟩:=(h3.below b5 q3).rules;obtain⟨k3,k4⟩:=(h5.below b5 q4).rules;go_wp2_with fail;refine(Q6.out k' rfl w5 Z (λx=>Z5 x/\x<w5.heap.size) eb y sm v0 v1 v2 Rq.out Rb Ra (λx q1 q2=>by have:=(QU x q2).2;have:=Rr x q1.1;omega) (λx q=>by have:=(QU x q).2;omega) (λx q=>q.2)).mono ?_;rintro en w9 ⟨rfl,Z9,QT,RY⟩;go_wp2;go_end0;rw[QW.out y,Rq.out];refine⟨rfl,Z9,Rp.trans ⟨QT.os,QT.tape,QT.output,QT.size,λi hi q _=>QT.block i hi (λe=>q (e.imp id (λe=>e.1))),λi q=>(QT.grow i q).imp (λe=>e.imp id (λe=>e.1)) id⟩,RY,?_⟩;exact dK.step RF QT (λq=>q.elim Rj (λq=>(Rr rb q.1).elim (λe=>QD) (λe=>QD)))
end
section
variable {S:d8} {mp:am->Option Nat} {b:am} {deep:Nat} {num:Int} {d:MT} {f:eP} {g:GF} {m:PM} (w:an)
attribute [local go_sem↓] Go.wp_at_zero Go.wp_at_succ
theorem Cm {F a z e:Nat}(fg:FG S mp d f g)(hf:g.form=2)(hb:S.base f.ty<=15)(he:e<=b.size):
  jx S b F d f m deep (fh (b.extract 0 e) a num (ei (S.base f.ty)) z)=Hi m f.num (fY (b.extract 0 e) z (S.base f.ty)):=by
 rw[Ej fg hf hb he]
 all_goals (cases fY (b.extract 0 e) z (S.base f.ty)<;>rfl)
theorem FV {F a z e:Nat}(fg:FG S mp d f g)(hf:g.form=2)(hw:ei (S.base f.ty)≠2):
  jx S b F d f m deep (fh (b.extract 0 e) a num 2 z)=oZ (S.base f.ty) b f.num m (eJ (b.extract 0 e) z):=by
 rw[BD fg hf hw]
 cases eJ (b.extract 0 e) z with
 |error x=>rfl
 |ok y=>simp only[oZ];cases fy b (S.base f.ty) y.2 (y.2-y.1) (m.get f.num) y.1<;>rfl
theorem LZ (B:Nat)(S:d8)(mp pm:am->Option Nat)(k:Nat)(d:MT)(f:eP)(g:GF)(Z:ap)(rb db:Nat)(b:am)(e a z deep F kn:Nat)(num:Int)(m:PM)(v:Value)
  (I:nD w B S mp k d Z rb db b e a z deep (m.without g.riv)) (hwm:WM S a d m) (hpc:mr w (λb=>b<B) S mp pm) (hv:kZ w (λb=>b<B) mp pm g v) (fg:FG S mp d f g) (hff:dP d.fs f.num=some f) (hS:Bt S) (hkd:k+deep=8) (hgd:kU S d) (hRd:Iy S mp pm B b F) (hF:e-z<=F) (hfit:kj mp g kn=true):
  lw v [aa kn,ag rb,ag db] w (gR S k d w Z rb db (b.extract 0 e) deep (jx S b F d f m deep (fh (b.extract 0 e) a num kn z))):=by
 have hq:=(nG fg).1 hfit;have hle:=zS S f.ty;unfold kZ at hv
 by_cases h4:g.form=4
 ·rw[dB h4]at hv;have hm:f.isMap=true:=by rw[fg.map,h4];rfl
  obtain rfl:kn=2:=by
   rcases hq with h|⟨h,_⟩
   ·rw[h];unfold fA;rw[dB hm]
   ·exact h
  rw[fg.lone QD,iN]at I;have e2:=Eo (b:=b) (F:=F) (deep:=deep) (a:=a) (z:=z) (e:=e) (num:=num) (m:=m) fg hS h4 QD;rw[show((2:Nat):Int)=2 from rfl,e2];exact Ou w B S mp pm k d f g Z rb db b e a z deep F _ m v I hpc hv fg hff hS h4 hkd hgd hRd hF
 ·rw[dA h4]at hv;unfold AK at hv;rw[fg.eq,fg.base]at hv;have hm:f.isMap=false:=by rw[fg.map];simp[h4]
  have QT:fA S f=ei (S.base f.ty):=by unfold fA d8.wire;rw[hm];rfl
  have QY:ee mp g=S.base f.ty:=by unfold ee;rw[dA h4,fg.eq,fg.base]
  by_cases hb:S.base f.ty=16
  ·rw[dB hb]at hv
   obtain rfl:kn=2:=by
    rcases hq with h|⟨h,_⟩
    ·rw[h,QT,hb];rfl
    ·exact h
   have:=fg.nest.1 hb;obtain⟨sub,QW⟩:=bV.1 this;have hM:zK S d f sub:=⟨by unfold eR;rw[hm];exact QW,hm⟩;have e2:=zL (b:=b) (F:=F) (deep:=deep) (z:=z) (e:=e) (num:=num) fg hS hM QD hff hwm
   have e3:(if g.form=2 then PM.none else((m.get f.num).headD PV.none).2.2)=j0 g.form (m.without g.riv) f.num:=by
    unfold j0;rw[tA (by rw[fg.riv];exact Ef d f)]
   have e4:qI g m f.num=ng g.form (m.without g.riv) f.num:=funext λsm=>by
    unfold qI ng
    by_cases h2:g.form=2
    ·rw[dB h2,dB h2,fg.lone QD,iN]
    ·rw[dA h2,dA h2]
   rw[e3,e4]at e2;rw[show((2:Nat):Int)=2 from rfl,e2];exact Ot w B S mp pm k d f g Z rb db b e a z deep F _ _ sub v I hpc hv fg hff hS hM hkd hRd hF
  ·rw[dA hb]at hv;have QP:S.base f.ty<=15:=QD
   by_cases h2:g.form=2
   ·have hr:=fg.lone QD;rw[hr,iN]at I
    by_cases hn:eK (S.base f.ty)=true
    ·rw[dB (by unfold gN;rw[QY,h2];simpa using hn)]at hv;have QU:=(sE QP).1 hn
     rcases hq with h|⟨h,_⟩
     ·rw[QT]at h;subst h;rw[Cm fg h2 QP I.eb];exact Na w B S mp k d f g Z rb db b e a z deep m v I hv fg h2 QP hff
     ·subst h;rw[show((2:Nat):Int)=2 from rfl,FV fg h2 QU];exact Nc w B S mp k d f g Z rb db b e a z deep m v I hv fg h2 QP QU hff
    ·rw[dA (by unfold gN;rw[QY];simp[hn])]at hv
     have QU:ei (S.base f.ty)=2:=by
      by_cases q:ei (S.base f.ty)=2
      ·exact q
      ·exact absurd ((sE QP).2 q) hn
     obtain rfl:kn=ei (S.base f.ty):=by
      rcases hq with h|⟨h,_⟩
      ·rw[h,QT]
      ·omega
     rw[Cm fg h2 QP I.eb,<-IH h2];exact LY w B S mp k d f g Z rb db b e a z deep _ m v I hv fg h4 QP hff
   ·rw[dA (by unfold gN;simp[h2])]at hv;have Q0:f.isRep=false:=by rw[fg.rep];simp[h2]
    obtain rfl:kn=ei (S.base f.ty):=by
     rcases hq with h|⟨_,h⟩
     ·rw[h,QT]
     ·rw[Q0]at h;cases h
    have e2:=Em (F:=F) (deep:=deep) (a:=a) (z:=z) (num:=num) (m:=m) fg h4 h2 QP I.eb;rw[e2,<-IG h2];exact LY w B S mp k d f g Z rb db b e a z deep _ _ v I hv fg h4 QP hff
theorem FW (B:Nat)(S:d8)(mp pm:am->Option Nat)(k:Nat)(d:MT)(f:eP)(g:GF)(Z:ap)(rb db:Nat)(b:am)(e a z deep F kn:Nat)(num:Int)(m:PM)(v:Value)
  (I:nD w B S mp k d Z rb db b e a z deep m) (hpc:mr w (λb=>b<B) S mp pm) (hv:uC w (λb=>b<B) (kZ w (λb=>b<B) mp pm) g v) (fg:FG S mp d f g) (hff:dP d.fs f.num=some f) (hS:Bt S) (hkd:k+deep=8) (hgd:kU S d) (hRd:Iy S mp pm B b F) (hF:e-z<=F) (hfit:kj mp g kn=true):
  lw v [aa kn,ag rb,ag db] w (gR S k d w Z rb db (b.extract 0 e) deep (jx S b F d f m deep (fh (b.extract 0 e) a num kn z))):=by
 unfold uC at hv
 by_cases h0:g.riv= []
 ·rw[dB h0]at hv;have hw:m.without g.riv=m:=by rw[h0,iN]
  exact LZ w B S mp pm k d f g Z rb db b e a z deep F kn num m v (by rw[hw];exact I) I.wm hpc hv fg hff hS hkd hgd hRd hF hfit
 ·rw[dA h0]at hv;obtain⟨vb,sb,rv,u,rfl,h1,QR,h2,q1,q2,hu⟩:=hv;refine⟨296,[_,_],rfl,enters_of func296 rfl rfl,?_⟩;show Calls prog 296 #[aa kn,ag rb,ag db,ag vb,ag sb] w _;have hD:=od S k (some d) w Z db m rv g.riv I.hd QR.1 fg.rlen (λx hx q=>by have:=QR.2 x hx;have:=(I.hZ x q).1;omega)
  obtain⟨uf,QQ,rfl,eg,_⟩:∃uf QQ,u= .func (.func uf) #[] (List.toArray QQ)/\(∀args w,(callFunc uf args).run prog w= .ok (.enter uf args) w)/\True:=by
   have I0:=hu;unfold kZ at hu
   split at hu
   ·obtain⟨_,_,_,_,_,rfl,_⟩:=hu;exact⟨418,[_,_,_,_],rfl,enters_of func418 rfl rfl,trivial⟩
   ·unfold AK at hu
    split at hu
    ·obtain⟨_,_,_,_,_,rfl,_⟩:=hu;exact⟨419,[_,_,_,_],rfl,enters_of func419 rfl rfl,trivial⟩
    ·split at hu
     ·obtain⟨_,_,_,_,rfl,_⟩:=hu;exact⟨421,[_,_,_],rfl,enters_of func421 rfl rfl,trivial⟩
     ·obtain⟨_,_,_,_,rfl,_⟩:=hu;exact⟨422,[_,_,_],rfl,enters_of func422 rfl rfl,trivial⟩
  have HR:Hid (∀w1 Z1,fi w Z w1 Z1->ed S (k+1) (some d) w1 Z1 db (m.without g.riv)->Calls prog uf (([aa kn,ag rb,ag db]:aq)++QQ).toArray w1 (gR S k d w Z rb db (b.extract 0 e) deep (jx S b F d f m deep (fh (b.extract 0 e) a num kn z)))):=λw1 Z1 st QX=>by
   have QV:el w Z rb w1 Z1:= .of_step st;have QZ:=QV.below I.cx.le (λx q=>(I.hZ x q).1) I.rB;have I1:=I.on QV QX (dK.step I.hr st I.rZ) (by have:=I.wm.without f;rw[<-fg.riv]at this;exact this);obtain⟨Q2,QS,e1,_,hc⟩:=LZ w1 B S mp pm k d f g _ rb db b e a z deep F kn num m _ I1 I.wm (hpc.keep (λx q _=>QZ.block x q)) (kZ.keep (λx q _=>QZ.block x q) (λ_ _ q=>q) hu) fg hff hS hkd hgd hRd hF hfit
   obtain⟨rfl,rfl⟩:uf=Q2/\QQ=QS:=by
    injection e1 with e1 _ e3
    injection e1 with e1
    exact⟨e1,by simpa using e3⟩
   exact hc.mono λ_ _ q=>q.pre QV.clip
  obtain⟨R,hR⟩:∃R,jx S b F d f m deep (fh (b.extract 0 e) a num kn z)=R:=⟨_,rfl⟩;rw[hR]at HR⊢;obtain⟨ra,rn,rc,rfl⟩:=dL QR.1;obtain⟨k1,k2⟩:=h1.rules;have hZ:=I.hZ;go_enter func296,ntmps296;go_wp2_with fail;refine hD.mono ?_;rintro en w1 ⟨rfl,Z1,st1,QX⟩;have Q1:=h2.step st1 (λq=>by have:=(hZ sb q).1;omega);obtain⟨k1,k2⟩:=Q1.rules;have hc:=HR.out w1 Z1 st1 QX;go_wp2_with fail;refine hc.mono ?_;intro en w2 hq
  cases R with
  |error x=>
   obtain⟨rfl,hq⟩:=hq;unfold dI;go_wp2;exact⟨rfl,rfl,hq⟩
  |ok x=>
   obtain⟨rfl,hq⟩:=hq;go_wp2;go_end0;exact⟨rfl,hq⟩
end
section
attribute [local go_sem↓] Go.wp_at_zero Go.wp_at_succ
def EG (kind kd:Int)(pk:Bool):Bool:=decide (kind=kd)||(decide (kind=2)&&pk)
def II (w:an)(g i:Nat)(kind kd:Int)(pk:Bool)(h1:w.cell? (ai g (i+1))=some (aa kd))(h2:w.cell? (ai g (i+2))=some (.bool pk)):
  Calls prog 142 #[.pointer (some (ai g i)),aa kind] w λe w'=>e= .returned (.bool (EG kind kd pk))/\aj w w':=by
 unfold EG
 by_cases e1:kind=kd
 ·have b1:(kind==kd)=true:=by simp[e1]
  simp only[e1,decide_true,cz];rw[e1]at b1;subst e1;go_enter func142,ntmps142;go_wp2;go_ret;exact⟨rfl,Below.refl _ _⟩
 ·have b1:(kind==kd)=false:=by simp[e1]
  simp only[e1,decide_false,di]
  by_cases e2:kind=2
  ·have b2:(kind==2)=true:=by simp[e2]
   simp only[e2,decide_true,cq];subst e2;go_enter func142,ntmps142;go_wp2;go_ret;exact⟨rfl,Below.refl _ _⟩
  ·have b2:(kind==2)=false:=by simp[e2]
   simp only[e2,decide_false,cl];go_enter func142,ntmps142;go_wp2;go_ret;exact⟨rfl,Below.refl _ _⟩
theorem EH {mp:ByteArray->Option Nat}{g:GF}{kind:Int}:EG kind (ei (ee mp g)) (gN mp g)=kj mp g kind:=by
 unfold EG kj
 congr 1
theorem FE.one {v:Value}(h:FE v):v.oneCell'=true:=by
 obtain⟨f,cap,rfl⟩:=h;rfl
theorem uC.fn {w:World}{Q:Nat->Prop}{mp pm:ByteArray->Option Nat}{g:GF}{v:Value}(h:uC w Q (kZ w Q mp pm) g v):FE v:=by
 unfold uC at h
 split at h
 ·unfold kZ at h
  split at h
  ·obtain⟨_,_,_,_,_,rfl,_⟩:=h;exact⟨_,_,rfl⟩
  ·unfold AK at h
   split at h
   ·obtain⟨_,_,_,_,_,rfl,_⟩:=h;exact⟨_,_,rfl⟩
   ·split at h
    ·obtain⟨_,_,_,_,rfl,_⟩:=h;exact⟨_,_,rfl⟩
    ·obtain⟨_,_,_,_,rfl,_⟩:=h;exact⟨_,_,rfl⟩
 ·obtain⟨_,_,_,_,rfl,_⟩:=h;exact⟨_,_,rfl⟩
theorem mq.one {w:World}{Q:Nat->Prop}{mp pm:ByteArray->Option Nat}{g:GF}{x:qM}(h:mq w Q mp (kZ w Q mp pm) (iA w Q mp pm) g x):x.c1.oneCell'=true/\x.c2.oneCell'=true/\x.c3.oneCell'=true/\x.c4.oneCell'=true/\x.c5.oneCell'=true/\x.c6.oneCell'=true/\x.c7.oneCell'=true:=by
 obtain⟨a,n,c,hr⟩:=dL h.riv.1;obtain⟨_,_,⟨_,_,q4,_⟩,⟨_,_,q5,_⟩,_,_,q6,_⟩:=h.enc;refine⟨by rw[h.kind];rfl,by rw[h.packs];rfl,by rw[hr];rfl,by rw[q4.eq];rfl,by rw[q5.eq];rfl,by rw[q6.eq];rfl,h.read.fn.one⟩
def Cn (w:World)(Q:Nat->Prop)(mp pm:ByteArray->Option Nat)(gs:List GF)(num:Int)(e:Ending):Prop:=
 match g8 gs num with
 |none=>e= .returned (.pointer none)
 |some g=>∃gb j v,e= .returned (.pointer (some ⟨gb,j,none⟩))/\Q gb/\gb<w.heap.size/\uC w Q (kZ w Q mp pm) g v/\∀W:World,W.heap[gb]?=w.heap[gb]?->W.cell? ⟨gb,j+1,none⟩=some (.int .i64 (ei (ee mp g)))/\W.cell? ⟨gb,j+2,none⟩=some (.bool (gN mp g))/\W.cell? ⟨gb,j+7,none⟩=some v
def Af (w:World)(Q:Nat->Prop)(mp pm:ByteArray->Option Nat)(gs:List GF)(num:Int)(e:Ending):Prop:=
 match g8 gs num with
 |none=>e= .returned (.pointer none)
 |some g=>∃gb j x,e= .returned (.pointer (some ⟨gb,j,none⟩))/\Q gb/\gb<w.heap.size/\mq w Q mp (kZ w Q mp pm) (iA w Q mp pm) g x/\∀W:World,W.heap[gb]?=w.heap[gb]?->∀i c,(iD x)[i]?=some c->W.cell? ⟨gb,j+i,none⟩=some c
theorem Af.is {w:World}{Q:Nat->Prop}{mp pm:ByteArray->Option Nat}{gs:List GF}{num:Int}{e:Ending}(h:Af w Q mp pm gs num e):Cn w Q mp pm gs num e:=by
 unfold Af at h;unfold Cn
 cases hf:g8 gs num with
 |none=>rw[hf]at h;exact h
 |some g=>
  rw[hf]at h;obtain⟨gb,j,x,h1,h2,h3,Rc,h5⟩:=h;exact⟨gb,j,x.c7,h1,h2,h3,Rc.read,fun W hW=>⟨by rw[<-Rc.kind];exact h5 W hW 1 _ rfl,by rw[<-Rc.packs];exact h5 W hW 2 _ rfl,h5 W hW 7 _ rfl⟩⟩
theorem rL (w:World)(Q:Nat->Prop)(mp pm:ByteArray->Option Nat)(gs:List GF)(pb:Nat)(num:Int)(h:ic w Q mp pm gs pb)(hs:gs.Pairwise (fun x y=>x.f.num<=y.f.num))(hl:gs.length<=2001):
  Calls Tryz.prog 141 #[.pointer (some ⟨pb,0,none⟩),.int .i64 num] w fun e w'=>Af w Q mp pm gs num e/\Below w.heap.size w w':=by
 obtain⟨v,l,h1,h2,h3,h4⟩:=h;obtain⟨va,vn,vc,rfl⟩:=dL h3.1;have hn:=h4.nums;have RJ:=h4.len
 have Sd:l.Pairwise (fun a b=>a.n<=b.n):=by
  have:(l.map (·.n)).Pairwise (·<=·):=by rw[hn];exact bY.2 hs
  exact bY.1 this
 refine(MG w pb _ l num 0 h1 h3.1 (fun x hx=> ?_) Sd (by omega)).mono ?_
 ·obtain⟨i,hi⟩:=bT.1 hx;obtain⟨g,_,hg⟩:=h4.get hi;exact hg.one
 ·rintro e w' ⟨hq,hb⟩;refine⟨?_,hb⟩;unfold Af
  rcases hq with⟨i,gb,x,hx,Sn,So,Sp,rfl⟩|⟨Rl,rfl⟩
  ·obtain⟨g,hg,Rc⟩:=h4.get hx
   have hf:g8 gs num=some g:=vg hg (by rw[<-Rc.n];exact Sn) (fun k y hy hk=>by
    have RK:k<l.length:=by
     rw[RJ]
     by_cases q:k<gs.length
     ·exact q
     ·rw[aU (by omega)]at hy;cases hy
    obtain⟨g',Rq,Q7⟩:=h4.get (aK RK);rw[hy]at Rq;obtain rfl:=Option.some.inj Rq;have:=So k _ (aK RK) hk;rw[Q7.n]at this
    exact this)
   rw[hf];have hil:=gl hx;obtain⟨g',rfl,_,Re,QP⟩:=eh h3.1 (by omega);obtain rfl:g'=gb:=by simpa [Value.ownBlock]using Sp
   refine⟨g',i*8,x,rfl,h3.2 g' rfl,Re,Rc,fun W hW j c hj=> ?_⟩;have RL:=gl hj;rw[pd]at RL;exact QP W hW _ _ ((fL iD 8 pd l i x hx j RL).trans hj)
  ·rw[oa fun g hg=>by
    obtain⟨i,hi⟩:=bT.1 hg
    have RM:i<l.length:=by
     rw[RJ]
     by_cases q:i<gs.length
     ·exact q
     ·rw[aU (by omega)]at hi;cases hi
    obtain⟨g',Rq,Q7⟩:=h4.get (aK RM);rw[hi]at Rq;obtain rfl:=Option.some.inj Rq;rw[<-Q7.n]
    exact Rl _ (List.getElem_mem RM)]
theorem Lh (w:World)(Q:Nat->Prop)(mp pm:ByteArray->Option Nat)(gs:List GF)(pb:Nat)(num:Int)(h:ic w Q mp pm gs pb)(hs:gs.Pairwise (fun x y=>x.f.num<=y.f.num))(hl:gs.length<=2001):
  Calls Tryz.prog 141 #[.pointer (some ⟨pb,0,none⟩),.int .i64 num] w fun e w'=>Cn w Q mp pm gs num e/\Below w.heap.size w w':=(rL w Q mp pm gs pb num h hs hl).mono fun _ _ q=>⟨q.1.is,q.2⟩
theorem DE (S:d8)(mp pm:ByteArray->Option Nat)(B:Nat)(b:ByteArray)(hS:Bt S)(hbs:b.size<=268435456):∀F,Iy S mp pm B b F:=by
 intro F
 induction F using Nat.strongRecOn with
 |_ F ih=>
 intro w Z d m a e deep k pb gs rb db cx Sq hM hG RZ hr hd hZ Rx Sr Ss he hF St Su;have Rw:(b.extract 0 e).size=e:=fX he;have Rz:=cx.le;have Se:rb<w.heap.size:=dK.lt hr;obtain⟨P,hP⟩:∃P,ew S b F d m a e deep=P:=⟨_,rfl⟩;rw[hP];have O0:xl S k d B w w Z Z rb db b e deep F a m P:=⟨el.refl _ _ _,hr,hd,Ss,Su,hF,hP.symm,hZ⟩;clear hP;go_enter Tryz.func89,Tryz.ntmps89;go_wp2;go_loopw [9] (fun _ wr=>∃Z' a' m' F',F'<=F/\xl S k d B w wr Z Z' rb db b e deep F' a' m' P) (fun _ wr=>lr wr rb e)
 case atStart=>exact⟨Z,a,m,F,ay _,O0⟩
 case round=>
  obtain⟨Z',a',m',F',hFF,O⟩:=hrel;have RN:=qC wr rb _ a' deep O.rr;rw[Rw]at RN;have hhi:=O.hi;have hfu:=O.fu;go_wp2_with fail;refine RN.mono ?_;rintro en w4 ⟨rfl,q,rfl⟩
  by_cases hlt:a'<e
  ·have Sf:decide (a'<e)=true:=decide_eq_true hlt;obtain⟨F1,rfl⟩:∃F1,F'=F1+1:=⟨F'-1,by omega⟩;have RO:dU (wr.drewN q) rb (b.extract 0 e) a' deep:=O.rr;have Sg:ed S (k+1) (some d) (wr.drewN q) Z' db m':=O.dr.keep (fun _ _ _=>rfl);have RA:el w Z rb (wr.drewN q) Z':=O.st.trans (.of_below (iE (Below.refl _ _) q));have Sh:=Oa (wr.drewN q) rb _ a' deep RO;have RP:=GM (wr.drewN q) rb _ a' deep RO (by omega);have RB:∀x,Z' x->B<=x/\x<(wr.drewN q).heap.size:=O.zz;have Rb:¬Z' rb:=O.st.not Se Sr;have HM:Hid (lr wr rb e=e-a'):=gU O.rr;have Ri:∀x,Z x->B<=x:=fun x q=>(hZ x q).1
   obtain⟨T,hT⟩:∃T,jo (b.extract 0 e) a'=T:=⟨_,rfl⟩;rw[hT]at RP;have HT:Hid (jo (b.extract 0 e) a'=T):=hT;clear hT;generalize wr.drewN q=w4 at*;go_wp2_with fail;refine Sh.mono ?_;rintro en w5 ⟨rfl,rfl⟩;go_wp2_with fail;refine RP.mono ?_;intro en w6 Sv
   rcases Sv.part with⟨x,rfl,rfl,Q8⟩|⟨x,rfl,rfl,Q8,RG⟩
   ·have HB:Hid (P= .error x):=by
     show P=_;rw[O.eq.out,BG he hlt HT.out]
    unfold dI;go_wp2;rw[HB.out];exact⟨rfl,rfl,Z',RA.trans (.of_kept Q8)⟩
   obtain⟨⟨num,kind⟩,z⟩:=x;obtain⟨kn,R8,Ry,R9,RH⟩:=Dh HT.out;simp only at R8 R9 RH RG;subst R8;rw[Rw]at RH;obtain⟨B7,KT⟩:=dR w6 #[.int .i64 num,.int .i64 kn] 237;have RQ:dU (w6.alloc (Obj.cells #[.int .i64 num,.int .i64 kn] 237)) rb (b.extract 0 e) z deep:=dK.alloc RG _;have RT:=(RA.trans (.of_kept Q8)).trans (.of_below B7);have Si:=(el.dr Sg Q8 Rb).keep (fun x _ q=>B7.block x q);have Sj:Below B w (w6.alloc (Obj.cells #[.int .i64 num,.int .i64 kn] 237)):=RT.below Rz Ri Rx;have Sk:=Lh (w6.alloc (Obj.cells #[.int .i64 num,.int .i64 kn] 237)) (fun b=>b<B) mp pm gs pb num (hM.keep (fun x q _=>Sj.block x q) (fun _ _ q=>q)) hG.srt hG.len;have RU:∀x,Z' x->B<=x/\x<(w6.alloc (Obj.cells #[.int .i64 num,.int .i64 kn] 237)).heap.size:=fun x q=>⟨(RB x q).1,aC (aC (RB x q).2 Q8.size) B7.size⟩
   have Sl:¬Z' w6.heap.size:=fun q=>by have:=(RB _ q).2;have:=Q8.size;omega
   obtain⟨k1,k2⟩:=KT.rules;have hrw:rb<w6.heap.size:=dK.lt RG;have hBt:B<=w6.heap.size:=by have:=(RA.trans (.of_kept Q8)).size;omega
   go_wp2_with fail;generalize w6.alloc (Obj.cells #[.int .i64 num,.int .i64 kn] 237)=w7 at*;generalize w6.heap.size=tb at*;refine Sk.mono ?_;rintro en w8 ⟨Rf,B8⟩;have Rj:dU w8 rb (b.extract 0 e) z deep:=dK.below RQ B8 (dK.lt RQ);have Rk:=RT.trans (.of_below B8);have RC:=Si.keep (fun x _ q=>B8.block x q);have hb8:Below B w w8:=Rk.below Rz Ri Rx;have Q0:=KT.below B8 KT.lt;have RV:∀x,Z' x->B<=x/\x<w8.heap.size:=fun x q=>⟨(RU x q).1,aC (RU x q).2 B8.size⟩
   have hul:=O.wm.len;have hO:xl S k d B w wr Z Z' rb db b e deep (F1+1) a' m' P:=O;clear k1 k2 O
   cases hfind:g8 gs num with
   |none=>
    have Rl:∀f,dP d.fs num=some f->¬(kn=fA S f\/(kn=2/\f.isRep=true)):=fun f hf hq=>by
     obtain⟨g,q1,q2⟩:=hG.yes num f hf;rw[hfind]at q1
     cases q1
    unfold Cn at Rf;rw[hfind]at Rf;obtain rfl:en= .returned (.pointer none):=Rf;have Rm:=zq w8 rb _ z deep kn Rj (by omega) (by omega) (by omega);obtain⟨R,hR⟩:∃R,kS (b.extract 0 e) z kn=R:=⟨_,rfl⟩
    have HL:Hid (P=Hr S b F1 d m' a' e deep R):=by
     have h:=sG (S:=S) (F:=F1) (deep:=deep) (d:=d) (m:=m') he hlt HT.out Ry Rl;rw[hR]at h;show P=_;rw[hO.eq.out,h]
     all_goals (cases R<;>rfl)
    have HW:Hid (∀y,R= .ok y->z<y.2/\y.2<=e):=fun y hy=>by
     have:=uz (hR.trans hy);rw[Rw]at this;exact this
    rw[hR]at Rm;clear hR hfind;obtain⟨k1,k2⟩:=Q0.rules;go_wp2_with fail;refine Rm.mono ?_;intro en w9 Rr
    rcases Rr.part with⟨x,rfl,rfl,QW⟩|⟨y,rfl,rfl,QW,QZ⟩
    ·unfold dI;go_wp2;rw[HL.out];exact⟨rfl,rfl,Z',Rk.trans (.of_kept QW)⟩
    obtain⟨Sa,Q9⟩:=HW.out y rfl;have Rn:=uh w9 rb _ y.2 deep a' QZ (by omega) (by omega);have Ro:=el.dr RC QW Rb;have hex:(b.extract 0 e).extract a' y.2=b.extract a' y.2:=jw he Q9;rw[hex]at Rn;clear k1 k2;go_wp2_with fail;refine Rn.mono ?_;rintro en Sw ⟨rfl,QX,rfl⟩;have Q1:ed S (k+1) (some d) (w9.drewN QX) Z' db m':=Ro.keep (fun _ _ _=>rfl);have RD:=zH S k (some d) (w9.drewN QX) Z' db m' (b.extract a' y.2) Q1 (by rw[aS];omega);go_wp2_with fail;refine RD.mono ?_;rintro en QY ⟨rfl,Rs,QU,Ra⟩;have Q2:dU (w9.drewN QX) rb (b.extract 0 e) y.2 deep:=QZ;have QS:dU QY rb (b.extract 0 e) y.2 deep:=dK.step Q2 QU Rb;have stA:el w Z rb QY Rs:=((Rk.trans (.of_kept QW)).trans (.of_below (iE (Below.refl _ _) QX))).trans (.of_step QU)
    have O9:xl S k d B w QY Z (fun i=>Rs i/\i<QY.heap.size) rb db b e deep F1 y.2 (m'.keep (b.extract a' y.2)) P:=
     ⟨stA.clip,QS,Ra.clip,Q9,hO.wm.keep _ (by rw[aS];omega),by omega,HL,fun x q=>⟨(stA.grow x q.1).elim (Ri x) (fun e=>by omega),q.2⟩⟩
    go_wp2;go_roundw
    case rel=>exact⟨_,_,_,_,by omega,O9⟩
    case measure=>rw[HM.out,gU QS];omega
   |some g=>
    unfold Cn at Rf;rw[hfind]at Rf;obtain⟨gb,j,v,rfl,hgB,Re,RI,QP⟩:=Rf
    obtain⟨f,Rt,fg⟩:∃f,dP d.fs num=some f/\FG S mp d f g:=by
     cases hf:dP d.fs num with
     |none=>rw[hG.no num hf]at hfind;cases hfind
     |some f=>
      obtain⟨g2,q1,q2⟩:=hG.yes num f hf;rw[hfind]at q1
      cases q1
      exact⟨f,rfl,q2⟩
    obtain⟨c1,c2,_⟩:=QP w8 (B8.block gb Re);have Rp:=II w8 gb j kn _ _ c1 c2;rw[EH]at Rp;have RE:uC w8 (fun b=>b<B) (kZ w8 (fun b=>b<B) mp pm) g v:=RI.keep (fun x _ q=>B8.block x q) (fun v hv=>kZ.keep (fun x _ q=>B8.block x q) (fun _ _ q=>q) hv);clear c1 c2 hfind
    cases hft:kj mp g kn with
    |false=>
     rw[hft]at Rp
     have Rl:∀f,dP d.fs num=some f->¬(kn=fA S f\/(kn=2/\f.isRep=true)):=fun f' Sb hq=>by
      rw[Rt]at Sb
      cases Sb
      rw[(nG fg).2 hq]at hft
      cases hft
     clear hft;obtain⟨k1,k2⟩:=Q0.rules;go_wp2_with fail;refine Rp.mono ?_;rintro en QR ⟨rfl,Rg⟩;have Q3:dU QR rb (b.extract 0 e) z deep:=dK.below Rj Rg (dK.lt Rj);have QQ:=Rk.trans (.of_below Rg);have Q4:=RC.keep (fun x _ q=>Rg.block x q);have QT:=Q0.below Rg Q0.lt;have Rm:=zq QR rb _ z deep kn Q3 (by omega) (by omega) (by omega);obtain⟨R,hR⟩:∃R,kS (b.extract 0 e) z kn=R:=⟨_,rfl⟩
     have HL:Hid (P=Hr S b F1 d m' a' e deep R):=by
      have h:=sG (S:=S) (F:=F1) (deep:=deep) (d:=d) (m:=m') he hlt HT.out Ry Rl;rw[hR]at h;show P=_;rw[hO.eq.out,h]
      all_goals (cases R<;>rfl)
     have HW:Hid (∀y,R= .ok y->z<y.2/\y.2<=e):=fun y hy=>by
      have:=uz (hR.trans hy);rw[Rw]at this;exact this
     rw[hR]at Rm;clear hR k1 k2;obtain⟨k1,k2⟩:=QT.rules;go_wp2_with fail;refine Rm.mono ?_;intro en w9 Rr
     rcases Rr.part with⟨x,rfl,rfl,QW⟩|⟨y,rfl,rfl,QW,QZ⟩
     ·unfold dI;go_wp2;rw[HL.out];exact⟨rfl,rfl,Z',QQ.trans (.of_kept QW)⟩
     obtain⟨Sa,Q9⟩:=HW.out y rfl;have Rn:=uh w9 rb _ y.2 deep a' QZ (by omega) (by omega);have Ro:=el.dr Q4 QW Rb;have hex:(b.extract 0 e).extract a' y.2=b.extract a' y.2:=jw he Q9;rw[hex]at Rn;clear k1 k2;go_wp2_with fail;refine Rn.mono ?_;rintro en Sw ⟨rfl,QX,rfl⟩;have Q1:ed S (k+1) (some d) (w9.drewN QX) Z' db m':=Ro.keep (fun _ _ _=>rfl);have RD:=zH S k (some d) (w9.drewN QX) Z' db m' (b.extract a' y.2) Q1 (by rw[aS];omega);go_wp2_with fail;refine RD.mono ?_;rintro en QY ⟨rfl,Rs,QU,Ra⟩;have Q2:dU (w9.drewN QX) rb (b.extract 0 e) y.2 deep:=QZ;have QS:dU QY rb (b.extract 0 e) y.2 deep:=dK.step Q2 QU Rb;have stA:el w Z rb QY Rs:=((QQ.trans (.of_kept QW)).trans (.of_below (iE (Below.refl _ _) QX))).trans (.of_step QU)
     have O9:xl S k d B w QY Z (fun i=>Rs i/\i<QY.heap.size) rb db b e deep F1 y.2 (m'.keep (b.extract a' y.2)) P:=
      ⟨stA.clip,QS,Ra.clip,Q9,hO.wm.keep _ (by rw[aS];omega),by omega,HL,fun x q=>⟨(stA.grow x q.1).elim (Ri x) (fun e=>by omega),q.2⟩⟩
     go_wp2;go_roundw
     case rel=>exact⟨_,_,_,_,by omega,O9⟩
     case measure=>rw[HM.out,gU QS];omega
    |true=>
     rw[hft]at Rp;obtain⟨k1,k2⟩:=Q0.rules;have RW:Hid (kj mp g kn=true):=hft;clear hft;go_wp2_with fail;refine Rp.mono ?_;rintro en QR ⟨rfl,Rg⟩;have QV:Below w8.heap.size w8 QR.drew:=Rg.drew;have Q3:dU QR.drew rb (b.extract 0 e) z deep:=dK.below Rj QV (dK.lt Rj);have QQ:=Rk.trans (.of_below QV);have Q4:=RC.keep (fun x _ q=>QV.block x q);have QT:=Q0.below QV Q0.lt;have Q5:Below B w QR.drew:=QQ.below Rz Ri Rx;have Q6:∀x,Z' x->B<=x/\x<QR.drew.heap.size:=fun x q=>⟨(RV x q).1,aC (RV x q).2 QV.size⟩
     have RF:f.num=num:=(eT Rt).1;have I:nD QR.drew B S mp k d Z' rb db b e a' z deep m':=⟨cx.on Q5,Q3,Q4,Q6,Rx,Rb,R9,RH,he,hbs,hO.wm⟩;obtain⟨uf,Ru,rfl,eg,Sc⟩:=FW QR.drew B S mp pm k d f g Z' rb db b e a' z deep F1 kn num m' v I (Sq.keep (fun x q _=>Q5.block x q)) (RE.keep (fun x _ q=>QV.block x q) (fun v hv=>kZ.keep (fun x _ q=>QV.block x q) (fun _ _ q=>q) hv)) fg (by rw[RF];exact Rt) hS St RZ (ih F1 (by omega)) (by omega) RW.out;have hit:=(nG fg).1 RW.out;obtain⟨R,hR⟩:∃R,jx S b F1 d f m' deep (fh (b.extract 0 e) a' num kn z)=R:=⟨_,rfl⟩
     have HL:Hid (P=LP S b F1 d e deep R):=by
      have h:=BF (S:=S) (F:=F1) (deep:=deep) (d:=d) (m:=m') he hlt HT.out Ry Rt hit;rw[hR]at h;show P=_;rw[hO.eq.out,h]
      all_goals (cases R<;>rfl)
     have HW:Hid (∀y,R= .ok y->WM S y.2 d y.1/\z<y.2/\y.2<=e):=fun y hy=>Ep hS hbs RZ he hO.wm HT.out Ry Rt hit (hR.trans hy)
     rw[hR]at Sc;clear hR k1 k2 hit;have RX:QR.drew.heap[gb]?=w7.heap[gb]?:=(QV.block gb (aC Re B8.size)).trans (B8.block gb Re);obtain⟨_,_,c7⟩:=QP QR.drew RX;have Sm:gb<QR.drew.heap.size:=aC Re (aH B8.size QV.size);have RY:=QT.cell 1;simp only[cY,cu,cw]at RY;go_upto_region 5 with fail
     go_region_held2 (fun W=>W.cell? ⟨gb,j+7,none⟩=some (.func (.func uf) #[] Ru.toArray)/\W.cell? ⟨tb,1,none⟩=some (.int .i64 kn))
      (first|exact c9|exact⟨c7,RY⟩)
      (
       first |(
        refine Sc.mono ?_;intro en w9 Rr
        rcases Rr.part2 with⟨x,rfl,rfl,Z9,Rh⟩|⟨y,rfl,rfl,Z9,Rh,Ro,QZ⟩
        ·unfold dI;go_wp2;rw[HL.out];exact⟨rfl,rfl,Z9,QQ.trans Rh⟩
        have c9:w9.cell? ⟨gb,j+7,none⟩=some (.func (.func uf) #[] Ru.toArray)/\w9.cell? ⟨tb,1,none⟩=some (.int .i64 kn):=⟨(QP w9 ((Rh.block gb Sm (fun q=>by have:=(Q6 gb q).1;omega) (by omega)).trans RX)).2.2,(show dK w9 tb #[.int .i64 num,.int .i64 kn] 237 from(Rh.block tb QT.lt Sl (by omega)).trans QT).cell 1⟩))
     obtain⟨Sx,Sa,Q9⟩:=HW.out y rfl
     have O9:xl S k d B w w9 Z (fun i=>Z9 i/\i<w9.heap.size) rb db b e deep F1 y.2 y.1 P:=
      ⟨(QQ.trans Rh).clip,QZ,Ro.clip,Q9,Sx,by omega,HL,fun x q=>⟨(Rh.grow x q.1).elim (fun e=>(Q6 x e).1) (fun e=>by have:=Q5.size;omega),q.2⟩⟩
     go_wp2;go_roundw
     case rel=>exact⟨_,_,_,_,by omega,O9⟩
     case measure=>rw[HM.out,gU QZ];omega
  ·have Sf:decide (a'<e)=false:=decide_eq_false hlt;obtain rfl:a'=e:=by omega
   have HE:Hid (P= .ok m'):=by
    show P=_;rw[O.eq.out,ie hlt]
   go_wp2;go_end0;rw[HE.out];exact⟨rfl,Z',O.st.trans (.of_below (iE (Below.refl _ _) q)),O.dr.keep (fun _ _ _=>rfl),O.rr⟩
end
section
variable {w:an} {B:Nat} {S:d8} {d:MT} {f:eP} {g:GF} {iq:aw}
attribute [local go_sem↓] Go.wp_at_zero Go.wp_at_succ
theorem Ah {mp pm:am->Option Nat}(QV:mr w (λb=>b<B) S mp pm)(fg:FG S mp d f g)(QQ:iA w (λb=>b<B) mp pm g (.pointer iq))(QW:fB S f=16):
  ∃t p gs,eR S f=some t/\iq=some (ai p 0)/\ic w (λb=>b<B) mp pm gs p/\kc S mp t gs:=by
 unfold iA at QQ
 by_cases h4:g.form=4
 ·rw[dB h4]at QQ;obtain⟨p,h1,h2⟩:=QQ;have hm:f.isMap=true:=by rw[fg.map,h4];rfl
  refine⟨eo f,p,_,by unfold eR;rw[dB hm],by simpa using h1,Cl h2,?_⟩;rw[fg.eq];exact zO fg h4
 ·rw[dA h4]at QQ;have hm:f.isMap=false:=by rw[fg.map];simp[h4]
  have hb:iU mp g.f.ty=16:=by
   unfold fB at QW;rw[hm]at QW;rw[fg.eq,fg.base];exact QW
  rw[dB hb,fg.eq]at QQ;obtain⟨p,h1,h2⟩:=QQ;obtain⟨d',gs,q1,q2,q3⟩:=QV _ _ h2;exact⟨d',p,gs,by unfold eR;rw[hm];exact q1,by simpa using h1,q2,q3⟩
section
variable {mp pm:am->Option Nat}
theorem Li (w:an)(Q:ap)(pb xb:Nat)(gs:List GF)(num kind:Int)(h:ic w Q mp pm gs pb)(hs:gs.Pairwise (λx y=>x.f.num<=y.f.num))(hl:gs.length<=2001)(hp:dK w xb #[ag pb] 116):
  Calls prog 163 #[.agg #[aa num,aa kind],ag xb] w λe w'=>e= .returned (.bool (rl mp gs num kind).isSome)/\aj w w':=by
 obtain⟨B0,K0⟩:=dR w #[aa num,aa kind] 237;have Rp:=hp.below B0 hp.lt;have HK:=rL _ Q mp pm gs pb num (h.keep (λb _ hl=>B0.block b hl) λ_ _ q=>q) hs hl;obtain⟨k1,k2⟩:=K0.rules;obtain⟨k3,k4⟩:=Rp.rules;unfold rl;unfold Af at HK
 cases hf:g8 gs num with
 |none=>
  rw[hf]at HK;go_enter func163,ntmps163;go_wp2_with fail;refine HK.mono ?_;rintro e w2 ⟨rfl,b2⟩;go_wp2;go_ret;exact⟨rfl,dG B0 b2⟩
 |some g=>
  rw[hf]at HK;have hr:(if kj mp g kind=true then some g else none).isSome=kj mp g kind:=by split<;>simp_all
  simp only[hr];go_enter func163,ntmps163;go_wp2_with fail;refine HK.mono ?_;rintro e w2 ⟨⟨gb,j,x,rfl,_,QX,QU,hc⟩,b2⟩;have c1:=hc w2 (b2.block gb QX) 1 _ rfl;have c2:=hc w2 (b2.block gb QX) 2 _ rfl;rw[QU.kind]at c1;rw[QU.packs]at c2;have HF:=II w2 gb j kind _ _ c1 c2;rw[EH]at HF;have K2:=K0.below b2 K0.lt;clear k1 k2 k3 k4 hr;obtain⟨k1,k2⟩:=K2.rules;go_wp2_with fail;refine HF.mono ?_;rintro e w3 ⟨rfl,b3⟩;go_wp2;go_ret;exact⟨rfl,dG B0 (dG b2 b3)⟩
end
def Ov (S:d8)(mp pm:am->Option Nat)(B n:Nat):Prop:=
 ∀(w:an) (Z:ap) (v:Value) (m:PM) (d:MT) (pb:Nat) (gs:List GF) (deep k:Nat),rC w B S mp->mr w (λb=>b<B) S mp pm->ic w (λb=>b<B) mp pm gs pb->kc S mp d gs->iy k w Z v m->nR k m->n+deep=9->
  Calls prog 103 #[ag pb,.agg #[v,ae m.unk],aa deep] w (ec (dN S n d m) w)
theorem ic.on {w':an}{mp pm:am->Option Nat}{gs:List GF}{pb:Nat}(h:ic w (λb=>b<B) mp pm gs pb)(hb:Below B w w'):ic w' (λb=>b<B) mp pm gs pb:=h.keep (λb q _=>hb.block b q) λ_ _ q=>q
theorem mr.on {w':an}{mp pm:am->Option Nat}(h:mr w (λb=>b<B) S mp pm)(hb:Below B w w'):mr w' (λb=>b<B) S mp pm:=h.keep λb q _=>hb.block b q
theorem Ow {n:Nat}{mp pm:am->Option Nat}(ih:Ov S mp pm B n)(cx:rC w B S mp)(QV:mr w (λb=>b<B) S mp pm)(fg:FG S mp d f g)(QQ:iA w (λb=>b<B) mp pm g (.pointer iq))(QW:fB S f=16):∃t,eR S f=some t/\Fy S iq n t w:=by
 obtain⟨t,p,gs,h1,rfl,h3,h4⟩:=Ah QV fg QQ QW;refine⟨t,h1,λW' Z v m k deep hb hM hO hd=> ?_⟩;have Q3:=dQ hb cx.le;exact ih W' Z v m t p gs deep k (cx.on Q3) (QV.on Q3) (h3.on Q3) h4 hM hO hd
theorem IJ {mp pm:am->Option Nat}:∀n,Ov S mp pm B n:=by
 intro n
 induction n with
 |zero=>
  intro w Z v m d pb gs deep k cx QV Re hG hM hO hd;obtain⟨a,c,rfl⟩:=hM.form;obtain rfl:deep=9:=QD;obtain⟨B0,K1,K2⟩:=fK w #[ag pb] #[.slice a m.fs.length c,ae m.unk] 116 49;go_enter func103,ntmps103;go_wp2_with (go_at_call 157;refine(yv _).mono ?_;rintro e w2 ⟨rfl,rfl⟩;unfold dI)
  exact⟨rfl,ec.no B0⟩
 |succ n ih=>
  intro w Z v m d pb gs deep k cx QV Re hG hM hO hd
  cases k with
  |zero=>exact hM.elim
  |succ k=>
  obtain⟨cs,hr,Rm⟩:=hM;obtain⟨a,c,rfl⟩:=hr.form;have hcap:=hr.cap;obtain⟨Ry,Rz,RA⟩:=hO;obtain⟨B0,K1,K2⟩:=fK w #[ag pb] #[.slice a m.fs.length c,ae m.unk] 116 49;have hd8:(deep:Int)<=8:=QD;obtain⟨X,HX⟩:∃X,Hid (gw S (dN S n) d [] m.fs=X):=⟨_,rfl⟩
  have HM:Hid (dN S (n+1) d m=(X&&qN (pj S d) m.unk)):=by
   show dN S (n+1) d m=_;rw[dN,HX.out]
  have HU:Hid (∀(W:an),aj w W->dK W w.heap.size #[ag pb] 116->Calls prog 160 #[ae m.unk,.func (.func 163) #[] #[ag w.heap.size]] W (ec (qN (pj S d) m.unk) W)):=λW hW hp=>
   yo W m.unk 163 [ag w.heap.size] (pj S d) Rz (enters_of func163 QI rfl) λW2 num kind Rn=>by
    have:=Li W2 (λb=>b<B) pb w.heap.size gs num kind (Re.on (dQ (dG hW Rn) cx.le)) hG.srt hG.len (hp.below Rn hp.lt);rw[Is hG]at this;exact this
  generalize qN (pj S d) m.unk=Y at*;go_enter func103,ntmps103;obtain⟨k1,k2⟩:=K2.rules;go_wp2_with (go_at_call 157;refine(yt _).mono ?_;rintro e w2 ⟨rfl,rfl⟩)
  generalize(w.alloc (ak #[ag pb] 116)).alloc (ak #[.slice a m.fs.length c,ae m.unk] 49)=w1 at*;go_loopw [6,7,8,15] (λ_ _ _ iv wr=>∃i:Nat,iv=aa i/\i<=m.fs.length/\Hid (gw S (dN S n) d (m.fs.take i) (m.fs.drop i)=X)/\aj w1 wr) (λ_ _ _ iv _=>m.fs.length-(intOf iv).toNat)
  case atStart=>exact⟨0,rfl,aM _,HX,Below.refl _ _⟩
  case round=>
   obtain⟨i,rfl,hi,HI,Bw⟩:=hrel;clear k1 k2;have BW:=dG B0 Bw
   by_cases hlt:i<m.fs.length
   ·obtain⟨x,hx⟩:=gx hlt;obtain⟨vv,p1,p2,p3⟩:=Rm.get hx;obtain⟨va,vc,rfl⟩:=p1.form;obtain⟨g0,rfl,hzg0,Q0,QP⟩:=hr.at QD;have t0:=QP wr (BW.block _ Q0) _ _ p2;have t1:=lf (QP wr (BW.block _ Q0) _ _ p3);obtain⟨B1,K5⟩:=dR wr #[aa x.1,.slice va x.2.length vc] 58;have B2:=dG BW B1;have Rh:=dG Bw B1;have Q4:=K1.below Rh K1.lt;have HF:=rL _ (λb=>b<B) mp pm gs pb x.1 (Re.on (dQ B2 cx.le)) hG.srt hG.len
    have Q1:Hid (X=(po S (dN S n) d (m.fs.take i) x&&gw S (dN S n) d (m.fs.take (i+1)) (m.fs.drop (i+1)))):=by
     show X=_;rw[<-HI.out,wh hx]
    obtain⟨k3,k4⟩:=Q4.rules;obtain⟨k5,k6⟩:=K5.rules;have hij:(i:Int)<(m.fs.length:Int):=QD;have Rq:=RA x (aI hx);clear QP p2 p3 B1 hx;go_wp2_with fail;refine HF.mono ?_;rintro e w3 ⟨he,b3⟩;generalize wr.alloc (ak #[aa x.1,.slice va x.2.length vc] 58)=w2 at*;generalize wr.heap.size=vb at*;have B3:=dG B2 b3;have Ri:=dG Rh b3;unfold Af at he
    cases hfd:dP d.fs x.1 with
    |none=>
     rw[hG.no _ hfd]at he;obtain rfl:e= .returned (.pointer none):=he
     have QT:Hid (dN S (n+1) d m=false):=by
      show dN S (n+1) d m=false;rw[HM.out,Q1.out,po,hfd];rfl
     go_wp2_with (go_at_call 157;refine(yv _).mono ?_;rintro e w2 ⟨rfl,rfl⟩;unfold dI)
     rw[QT.out];exact⟨rfl,ec.no B3⟩
    |some f=>
     obtain⟨g,hg,fg⟩:=hG.yes _ _ hfd;rw[hg]at he;obtain⟨gb,j,st,rfl,hgB,QX,QU,hc⟩:=he;have QY:=(eT hfd).1
     have HS:Hid (po S (dN S n) d (m.fs.take i) x=(jG g.riv g.f.num (m.fs.take i)&&fk S (dN S n) f x.2)):=by
      show po S (dN S n) d (m.fs.take i) x=_;unfold po;rw[hfd,fg.riv,fg.eq,QY]
     obtain⟨iq,QQ,⟨cf,QS,⟨e4,hen⟩,Ro⟩,_,_⟩:=QU.enc;have hn:=QU.n;have Q5:=QU.riv.keep (w':=w3.drew) λb _ q=>b3.drew.block b q
     obtain⟨ra,rc,Rf⟩:=iW Q5.1;rw[Rf]at Q5;have Rj:=Iq w3.drew (some g0) c c m.fs cs i g.f.num (.slice ra g.riv.length rc) g.riv (hr.keep λb _ q=>B3.drew.block b q) (yj.below B3.drew (ay _) Rm) QD Ry Q5 fg.rlen;obtain⟨q,hq⟩:∃q,jG g.riv g.f.num (m.fs.take i)=q:=⟨_,rfl⟩;rw[hq]at Rj HS;have Q6:w3.heap[gb]?=w2.heap[gb]?:=b3.block gb QX;have Q7:=(K2.below Ri K2.lt);have Rk:=K5.below b3 K5.lt
     have hC:∀W:an,W.heap[gb]?=w3.heap[gb]?->W.cell? (ai gb j)=some (aa g.f.num)/\W.cell? (ai gb (j+3))=some (.slice ra g.riv.length rc)/\W.cell? (ai gb (j+4))=some (.func (.func cf) #[] QS.toArray):=λW hW=>by
      have c0:=hc W (hW.trans Q6) 0 _ rfl;have c3:=hc W (hW.trans Q6) 3 _ rfl;have c4:=hc W (hW.trans Q6) 4 _ rfl;rw[hn]at c0;rw[Rf]at c3;rw[e4]at c4;exact⟨c0,c3,c4⟩
     have QR:gb<w3.heap.size:=aC QX b3.size;clear hq hg hfd QY HF hc QU e4 Rf hn;have hic:(i:Int)<=(c:Int):=QD;go_upto_region 7 with(go_at_call 157;refine(yt _).mono ?_;rintro e w2 ⟨rfl,rfl⟩)
     have Rl:=hC w3.drew rfl
     have hW:w3.drew.cell? (ai (w.heap.size+1) 0)=some (.slice (some g0) m.fs.length c)/\w3.drew.cell? (ai gb j)=some (aa g.f.num)/\w3.drew.cell? (ai gb (j+3))=some (.slice ra g.riv.length rc):=
      ⟨Q7.drew.cell 0,Rl.1,Rl.2.1⟩
     go_region_held2 (λW=>W.cell? (ai (w.heap.size+1) 0)=some (.slice (some g0) m.fs.length c)/\W.cell? (ai gb j)=some (aa g.f.num)/\W.cell? (ai gb (j+3))=some (.slice ra g.riv.length rc))
      (first|exact hW|exact Rr)
      (first
       |(
         go_at_call 158;refine Rj.mono ?_;intro e w4 Rg
         rcases Rg.part with⟨rfl,rfl,b4⟩|⟨rfl,y,z,rfl,b4⟩
         rotate_left
         ·have B4:=dG B3.drew b4
          have QT:Hid (dN S (n+1) d m=false):=by
           show dN S (n+1) d m=false;rw[HM.out,Q1.out,HS.out];rfl
          unfold dI;go_wp2;rw[QT.out];exact⟨rfl,ec.no B4⟩
         have Rr:w4.cell? (ai (w.heap.size+1) 0)=some (.slice (some g0) m.fs.length c)/\w4.cell? (ai gb j)=some (aa g.f.num)/\w4.cell? (ai gb (j+3))=some (.slice ra g.riv.length rc):=⟨(Q7.drew.below b4 Q7.drew.lt).cell 0,(hC w4 (b4.block gb QR)).1,(hC w4 (b4.block gb QR)).2.1⟩))
     have B4:=dG B3.drew b4;have Rs:=dG Ri.drew b4;have Q8:aj w2 w4:=dG b3.drew b4;have Q9:=Rk.below (w:=w3.drew) b4 Rk.lt;have Ra:=cx.on (dQ B4 cx.le);have Rb:=QV.on (dQ B4 cx.le);have QZ:=QQ.move (.keep (w':=w4) λb q hl=>Q8.block b hl) λ_ _ q=>q
     have HL:=Ro S d f n w4 (λb q hl=>Q8.block b hl) fg (λW' RB=>(Ra.on (dQ RB Ra.le)).u) (λQW=>Ow ih Ra Rb fg QZ QW) w4.drew Z (.slice va x.2.length vc) x.2 k deep (Below.refl _ _).drew (pi.below B4.drew (ay _) p1) Rq QD;obtain⟨r,Q2⟩:∃r,fk S (dN S n) f x.2=r:=⟨_,rfl⟩;rw[Q2]at HL HS;clear Q2 k3 k4 k5 k6 Ro QQ QZ;have Rc:gb<w4.heap.size:=aC QX Q8.size;have Rt:=hC w4.drew (b4.block gb QR);go_upto_region 8 with fail
     have hV:w4.drew.cell? (ai gb (j+4))=some (.func (.func cf) #[] QS.toArray)/\w4.drew.cell? (ai vb 1)=some (.slice va x.2.length vc):=⟨Rt.2.2,Q9.drew.cell 1⟩
     go_region_held2 (λW=>W.cell? (ai gb (j+4))=some (.func (.func cf) #[] QS.toArray)/\W.cell? (ai vb 1)=some (.slice va x.2.length vc))
      (first|exact hV|exact Ru)
      (first
       |(
         refine HL.mono ?_;intro e w5 Q2
         rcases Q2.part with⟨rfl,rfl,b5⟩|⟨rfl,y,z,rfl,b5⟩
         rotate_left
         ·have B5:=dG B4.drew b5
          have QT:Hid (dN S (n+1) d m=false):=by
           show dN S (n+1) d m=false;rw[HM.out,Q1.out,HS.out];rfl
          unfold dI;go_wp2;rw[QT.out];exact⟨rfl,ec.no B5⟩
         have Ru:w5.cell? (ai gb (j+4))=some (.func (.func cf) #[] QS.toArray)/\w5.cell? (ai vb 1)=some (.slice va x.2.length vc):=⟨(hC w5 ((b5.block gb Rc).trans (b4.block gb QR))).2.2,(Q9.drew.below b5 Q9.drew.lt).cell 1⟩))
     have Rw:Hid (gw S (dN S n) d (m.fs.take (i+1)) (m.fs.drop (i+1))=X):=by
      show _=X;rw[Q1.out,HS.out];rfl
     go_wp2;go_roundw
     case rel=>exact⟨i+1,by go_num,QD,Rw,dG Rs.drew b5⟩
     case measure=>simp[intOf];omega
   ·obtain rfl:i=m.fs.length:=QD
    have QT:Hid (dN S (n+1) d m=Y):=by
     show dN S (n+1) d m=Y;rw[HM.out,<-HI.out,co];rfl
    have Q4:=K1.below Bw K1.lt;have K22:=K2.below Bw K2.lt;have Rx:=HU.out wr BW Q4;obtain⟨k3,k4⟩:=K22.rules;go_wp2_with fail;refine Rx.mono ?_;intro e w4 Rg
    rcases Rg.part with⟨rfl,rfl,b4⟩|⟨rfl,y,z,rfl,b4⟩
    ·go_wp2;go_end0;rw[QT.out];exact ec.ok (dG BW b4)
    ·unfold dI;go_wp2;rw[QT.out];exact⟨rfl,ec.no (dG BW b4)⟩
end
section
attribute [local go_sem↓] Go.wp_at_zero Go.wp_at_succ
def Nd (S:d8)(mp pm:am->Option Nat)(B n:Nat):Prop:=
 ∀(w:an) (Z:ap) (v:Value) (m:PM) (d:MT) (pb:Nat) (gs:List GF) (k:Nat),rC w B S mp->mr w (λb=>b<B) S mp pm->ic w (λb=>b<B) mp pm gs pb->kc S mp d gs->Jq d->iy k w Z v m->nR k m->dN S n d m=true->(d9 S n d m).length<=140737488355328->
  Calls prog 104 #[ag pb,.agg #[v,ae m.unk]] w (gK (d9 S n d m) w)
def Ox (S:d8)(mp pm:am->Option Nat)(B n:Nat):Prop:=
 ∀(w:an) (Z:ap) (v:Value) (m:PM) (d:MT) (pb:Nat) (gs:List GF) (k N b:Nat) (l:List UInt8),rC w B S mp->mr w (λb=>b<B) S mp pm->ic w (λb=>b<B) mp pm gs pb->kc S mp d gs->Jq d->iy k w Z v m->(∀i,Z i->i<N)->B<=N->N<=w.heap.size->nR k m->dN S n d m=true->eY w N b (d5 b) l->l.length+(d9 S n d m).length<=140737488355328->
  Calls prog 99 #[ag pb,.agg #[v,ae m.unk],d5 b] w (ix N b l (d9 S n d m) w)
section
variable {w:an} {B n:Nat} {S:d8} {mp pm:am->Option Nat} {d:MT} {f:eP} {g:GF} {x:qM}
def Oy (hN:Cf S)(ih:Nd S mp pm B n)(cx:rC w B S mp)(QT:mr w (λb=>b<B) S mp pm)(fg:FG S mp d f g)(hnm:0<=f.num/\f.num<=536870911)(QS:mq w (λb=>b<B) mp (kZ w (λb=>b<B) mp pm) (iA w (λb=>b<B) mp pm) g x):
  ∃cf QP,It x.c5 cf QP/\∀N,B<=N->N<=w.heap.size->KL (jM S (d9 S n) f) (ek S (dN S n) f) N cf QP w:=by
 obtain⟨iq,Q8,_,⟨cf,QP,h1,h2⟩,_⟩:=QS.enc;refine⟨cf,QP,h1,λN hB hw=>h2 S d f n N w (λ_ _ _=>rfl) (λb q _=>QD) hw fg hnm λQ9=> ?_⟩;obtain⟨t,p,gs,q1,rfl,q3,q4⟩:=Ah QT fg Q8 Q9;refine⟨t,q1,λW' Z v m k hb hM hO hs hl=> ?_⟩;have QU:=dQ hb hB;exact ih W' Z v m t p gs k (cx.on QU) (QT.on QU) (q3.on QU) q4 (sP hN q1) hM hO hs hl
def Oz (hN:Cf S)(ih:Nd S mp pm B n)(ih2:Ox S mp pm B n)(cx:rC w B S mp)(QT:mr w (λb=>b<B) S mp pm)(fg:FG S mp d f g)(hnm:0<=f.num/\f.num<=536870911)(QS:mq w (λb=>b<B) mp (kZ w (λb=>b<B) mp pm) (iA w (λb=>b<B) mp pm) g x):
  ∃cf QP,It x.c6 cf QP/\∀N,B<=N->N<=w.heap.size->OU (jM S (d9 S n) f) (ek S (dN S n) f) N cf QP w:=by
 obtain⟨iq,Q8,_,_,⟨cf,QP,h1,h2⟩⟩:=QS.enc;refine⟨cf,QP,h1,λN hB hw=>h2 S d f n N w (λ_ _ _=>rfl) (λb q _=>QD) hw fg hnm λQ9=> ?_⟩;obtain⟨t,p,gs,q1,rfl,q3,q4⟩:=Ah QT fg Q8 Q9;refine⟨t,q1,λW' Z v m k hb hM hO hs hl=> ?_,λW' Z v m k b l0 hb hM hZ hO hs Rp hl=> ?_⟩
 ·have QU:=dQ hb hB;exact ih W' Z v m t p gs k (cx.on QU) (QT.on QU) (q3.on QU) q4 (sP hN q1) hM hO hs hl
 ·have QU:=dQ hb hB;exact ih2 W' Z v m t p gs k N b l0 (cx.on QU) (QT.on QU) (q3.on QU) q4 (sP hN q1) hM hZ hB (aH hw hb.size) hO hs Rp hl
end
def wo {S:d8}{mp pm:am->Option Nat}{B:Nat}(hN:Cf S):∀n,Nd S mp pm B n:=by
 intro n
 induction n with
 |zero=>
  intro w Z v m d pb gs k cx QT QZ hG Q0 hM hO hs
  cases hs
 |succ n ih=>
  intro w Z v m d pb gs k cx QT QZ hG Q0 hM hO hs hl
  cases k with
  |zero=>exact hM.elim
  |succ k=>
  obtain⟨cs,hr,Ra⟩:=hM;obtain⟨a,c,rfl⟩:=hr.form;obtain⟨Rq,Rr,Rb⟩:=hO;rw[dN,aJ]at hs;have hX:=λx hx=>vV (x:=x) hs.1 hx
  obtain⟨B0,K1⟩:=dR w #[.slice a m.fs.length c,ae m.unk] 49;rw[d9]at hl;unfold gK;rw[d9];rw[aG]at hl⊢;rw[show m.unk.data.toList.length=m.unk.size by simp]at hl⊢
  have HC:Hid (∀(W0 W:an) (x:PF) (f:eP) (g:GF) (st:qM) (v:Value),aj w W0->Below W0.heap.size W0 W->x∈m.fs->dP d.fs x.1=some f->FG S mp d f g->mq W0 (λb=>b<B) mp (kZ W0 (λb=>b<B) mp pm) (iA W0 (λb=>b<B) mp pm) g st->pi (iy k w Z) w Z v x.2->∃cf QP,It st.c5 cf QP/\Calls prog cf (v::QP).toArray W (gK (jy S (d9 S n) d x) W)):=λW0 W x f g st v QW hW hx QR fg QS hv=>by
   obtain⟨f',q1,q2⟩:=hX x hx;obtain rfl:f=f':=by rw[QR]at q1;exact Option.some.inj q1
   have hb:jy S (d9 S n) d x=jM S (d9 S n) f x.2:=by unfold jy;rw[QR]
   have Rf:(jy S (d9 S n) d x).length<=140737488355328:=aH (uA hx) QD;rw[hb]at Rf⊢;have QY:=dQ QW cx.le;obtain⟨cf,QP,h1,h2⟩:=Oy hN ih (cx.on QY) (QT.on QY) fg (Q0 _ _ QR) QS;exact⟨cf,QP,h1,h2 W0.heap.size (aH cx.le QW.size) (ay _) W Z v x.2 k hW (pi.below (dG QW hW) (ay _) hv) (Rb x hx) (λv hv=>vW q2 hv) Rf⟩
  have HT:Hid (∀i,((m.fs.take i).flatMap (jy S (d9 S n) d)).length+m.unk.size<=140737488355328):=λi=>by
   have:=io (g:=jy S (d9 S n) d) (l:=m.fs) i;show _<=_;omega
  generalize jy S (d9 S n) d=bx at*;clear hl hs;obtain⟨k1,k2⟩:=K1.rules;go_enter func104,ntmps104;go_wp2;generalize w.alloc (ak #[.slice a m.fs.length c,ae m.unk] 49)=w1 at*;go_loopw [5,7,14] (λsv _ iv wr=>∃i:Nat,iv=aa i/\i<=m.fs.length/\sv=aa (((m.fs.take i).flatMap bx).length+m.unk.size:Nat)/\aj w1 wr) (λ_ _ iv _=>m.fs.length-(intOf iv).toNat)
  case atStart=>exact⟨0,rfl,aM _,QE,Below.refl _ _⟩
  case round=>
   obtain⟨i,rfl,hi,rfl,Bw⟩:=hrel;clear k1 k2;have BW:=dG B0 Bw
   by_cases hlt:i<m.fs.length
   ·obtain⟨x,hx⟩:=gx hlt;obtain⟨vv,p1,p2,p3⟩:=Ra.get hx;obtain⟨va,vc,rfl⟩:=p1.form;obtain⟨g0,rfl,Q1,QX,QQ⟩:=hr.at QD;have t0:=QQ wr (BW.block _ QX) _ _ p2;have t1:=lf (QQ wr (BW.block _ QX) _ _ p3);obtain⟨B1,K5⟩:=dR wr #[aa x.1,.slice va x.2.length vc] 58;have B2:=dG BW B1;have Rj:=dG Bw B1;have QV:=aI hx;obtain⟨f,QR,_⟩:=hX x QV;obtain⟨g,hg,fg⟩:=hG.yes _ _ QR;have HF:=rL _ (λb=>b<B) mp pm gs pb x.1 (QZ.on (dQ B2.drew cx.le)) hG.srt hG.len;unfold Af at HF;rw[hg]at HF;have HZ:=λW st hW QS=>HC.out _ W x f g st _ B2.drew hW QV QR fg QS p1
    have hT:=HT.out (i+1);rw[fD hx,aG]at hT
    have HS:Hid (((m.fs.take (i+1)).flatMap bx).length+m.unk.size=((m.fs.take i).flatMap bx).length+m.unk.size+(bx x).length):=by
     show((m.fs.take (i+1)).flatMap bx).length+m.unk.size=_;rw[fD hx,aG];omega
    have Rg:((m.fs.take i).flatMap bx).length+m.unk.size+(bx x).length<=140737488355328:=QD;generalize((m.fs.take i).flatMap bx).length+m.unk.size=sz at*;have Rk:(i:Int)<(m.fs.length:Int):=QD;have hsum:IntKind.i64.wrap ((sz:Int)+((bx x).length:Int))=(sz:Int)+((bx x).length:Int):=vX QD QD;clear QQ p2 p3 B1 hx hg QR hT;go_upto_region 5 with fail
    generalize wr.alloc (ak #[aa x.1,.slice va x.2.length vc] 58)=w2 at*;generalize wr.heap.size=vb at*;have hW:w2.drew.cell? (ai vb 0)=some (aa x.1)/\w2.drew.cell? (ai vb 1)=some (.slice va x.2.length vc):=⟨K5.drew.cell 0,K5.drew.cell 1⟩;obtain⟨r0,r1⟩:=hW
    go_region_with
     (first
      |(
        go_at_call 141;refine HF.mono ?_;rintro e w3 ⟨⟨gb,j,st,rfl,Rs,Rc,QS,hc⟩,b3⟩;obtain⟨cf,QP,⟨e5,Rt⟩,HL⟩:=HZ w3 st b3 QS;have c5:=hc w3 (b3.block gb Rc) 5 _ rfl;rw[e5]at c5;have Q5:=K5.drew.below b3 K5.drew.lt;have r3:=Q5.cell 1
        simp only[cY,cu,cw]at r3)
      |(
        refine HL.mono ?_
        rintro e w4 ⟨rfl,b4⟩))
    all_goals
     go_wp2;go_roundw
     case rel=>exact⟨i+1,by go_num,QD,by rw[HS.out,cJ],dG Rj.drew (dG b3 b4)⟩
     case measure=>simp[intOf];omega
   ·obtain rfl:i=m.fs.length:=QD;rw[bg];go_wp2;go_ret;exact⟨rfl,BW⟩
def DF {S:d8}{mp pm:am->Option Nat}{B:Nat}(hN:Cf S):∀n,Ox S mp pm B n:=by
 intro n
 induction n with
 |zero=>
  intro w Z v m d pb gs k N b l cx QT QZ hG Q0 hM hZ Q3 Q4 hO hs
  cases hs
 |succ n ih=>
  intro w Z v m d pb gs k N b l cx QT QZ hG Q0 hM hZ Q3 Q4 hO hs hW hl
  cases k with
  |zero=>exact hM.elim
  |succ k=>
  obtain⟨cs,hr,Ra⟩:=hM;obtain⟨a,c,rfl⟩:=hr.form;obtain⟨Rq,Rr,Rb⟩:=hO;rw[dN,aJ]at hs;have hX:=λx hx=>vV (x:=x) hs.1 hx
  obtain⟨B0,K1⟩:=dR w #[.slice a m.fs.length c,ae m.unk] 49;have W0:=Wr.of B0 Q4;have QW:=hW.on B0;rw[d9]at hl⊢;rw[aG]at hl
  have HC:Hid (∀(W0 W:an) (x:PF) (f:eP) (g:GF) (st:qM) (v:Value) (l2:List UInt8),Below N w W0->Below N W0 W->x∈m.fs->dP d.fs x.1=some f->FG S mp d f g->mq W0 (λb=>b<B) mp (kZ W0 (λb=>b<B) mp pm) (iA W0 (λb=>b<B) mp pm) g st->pi (iy k w Z) w Z v x.2->l2.length+(jy S (d9 S n) d x).length<=140737488355328->∃cf QP,It st.c6 cf QP/\(eY W N b (d5 b) l2->Calls prog cf (v::d5 b::QP).toArray W (ix N b l2 (jy S (d9 S n) d x) W))):=λW0 W x f g st v l2 QW hW hx QR fg QS hv Ri=>by
   obtain⟨f',q1,q2⟩:=hX x hx;obtain rfl:f=f':=by rw[QR]at q1;exact Option.some.inj q1
   have hb:jy S (d9 S n) d x=jM S (d9 S n) f x.2:=by unfold jy;rw[QR]
   rw[hb]at Ri⊢;have QY:=dQ QW Q3;obtain⟨cf,QP,h1,h2⟩:=Oz hN (wo hN n) ih (cx.on QY) (QT.on QY) fg (Q0 _ _ QR) QS;exact⟨cf,QP,h1,λhw=>h2 N Q3 (aH Q4 QW.size) W Z v x.2 k b l2 hW (hv.under (QW.trans hW) hZ) hZ (Rb x hx) (λv hv=>vW q2 hv) hw Ri⟩
  have HT:Hid (∀i,l.length+((m.fs.take i).flatMap (jy S (d9 S n) d)).length+m.unk.data.toList.length<=140737488355328):=λi=>by
   have:=io (g:=jy S (d9 S n) d) (l:=m.fs) i;show _<=_;omega
  generalize jy S (d9 S n) d=bx at*;clear hl hs;obtain⟨k1,k2⟩:=K1.rules;go_enter func99,ntmps99;go_wp2;generalize w.alloc (ak #[.slice a m.fs.length c,ae m.unk] 49)=w1 at*;go_loopw [7,11] (λ_ iv wr=>∃i:Nat,iv=aa i/\i<=m.fs.length/\eY wr N b (d5 b) (l++(m.fs.take i).flatMap bx)/\Wr N w1 wr) (λ_ iv _=>m.fs.length-(intOf iv).toNat)
  case atStart=>exact⟨0,rfl,aM _,by simpa using QW,Wr.refl _ _⟩
  case round=>
   obtain⟨i,rfl,hi,Re,Wi⟩:=hrel;clear k1 k2;have WI:=W0.trans Wi;have hsz:=WI.bel.size
   by_cases hlt:i<m.fs.length
   ·obtain⟨x,hx⟩:=gx hlt;obtain⟨vv,p1,p2,p3⟩:=Ra.get hx;obtain⟨va,vc,rfl⟩:=p1.form;obtain⟨g0,rfl,Q1,QX,QQ⟩:=hr.at QD;have Q6:=WI.bel.block _ (hZ _ Q1);have t0:=QQ wr Q6 _ _ p2;have t1:=lf (QQ wr Q6 _ _ p3);obtain⟨B1,K5⟩:=dR wr #[aa x.1,.slice va x.2.length vc] 58;have Q2:=Wi.trans (Wr.of B1 QD);have Q7:=W0.trans Q2;have Rl:=Re.on B1.drew;have QV:=aI hx;obtain⟨f,QR,_⟩:=hX x QV;obtain⟨g,hg,fg⟩:=hG.yes _ _ QR;have HF:=rL _ (λb=>b<B) mp pm gs pb x.1 (QZ.on (dQ Q7.bel.drew Q3)) hG.srt hG.len;unfold Af at HF;rw[hg]at HF;have hT:=HT.out (i+1);rw[fD hx,aG]at hT;have Rg:(l++(m.fs.take i).flatMap bx).length+(bx x).length<=140737488355328:=by rw[aG];omega
    have HZ:=λW st hW QS=>HC.out _ W x f g st _ _ Q7.bel.drew hW QV QR fg QS p1 Rg
    have HS:Hid (l++(m.fs.take (i+1)).flatMap bx=l++(m.fs.take i).flatMap bx++bx x):=by
     show l++(m.fs.take (i+1)).flatMap bx=_;rw[fD hx,aW]
    generalize l++(m.fs.take i).flatMap bx=li at*;have Rk:(i:Int)<(m.fs.length:Int):=QD;have Rm:=Q7.bel.size;clear QQ p2 p3 hx hg QR hT Q6;go_upto_region 4 with fail
    generalize wr.alloc (ak #[aa x.1,.slice va x.2.length vc] 58)=w2 at*;generalize wr.heap.size=vb at*;have hC:w2.drew.cell? (ai vb 0)=some (aa x.1)/\w2.drew.cell? (ai vb 1)=some (.slice va x.2.length vc):=⟨K5.drew.cell 0,K5.drew.cell 1⟩;obtain⟨r0,r1⟩:=hC;have Rh:N<=w2.drew.heap.size:=aH Q4 Rm
    go_region_with
     (first
      |(
        go_at_call 141;refine HF.mono ?_;rintro e w3 ⟨⟨gb,j,st,rfl,Rs,Rc,QS,hc⟩,b3⟩;obtain⟨cf,QP,⟨e6,Rt⟩,HL⟩:=HZ w3 st (dQ b3 Rh) QS;have c6:=hc w3 (b3.block gb Rc) 6 _ rfl;rw[e6]at c6;have Q5:=K5.drew.below b3 K5.drew.lt;have Rn:=HL (Rl.on b3);have r3:=Q5.cell 1
        simp only[cY,cu,cw]at r3)
      |(
        refine Rn.mono ?_;rintro e w4 ⟨rfl,q1,q2⟩
        have Ro:Wr N w1 w4:=⟨(Q2.bel.drew.trans (dQ b3 Rh)).trans q2.bel,λi cs T h1 h2 h=>q2.fr i cs T h1 h2 ((Q2.fr i cs T h1 h2 h).drew.below b3 (Q2.fr i cs T h1 h2 h).lt)⟩))
    all_goals
     go_wp2;go_roundw
     case rel=>exact⟨i+1,by go_num,QD,by rw[HS.out];exact q1,Ro⟩
     case measure=>simp[intOf];omega
   ·obtain rfl:i=m.fs.length:=QD;have hT:=HT.out m.fs.length;rw[bg]at Re hT;have K2:=Wi.fr _ _ _ QG QG K1;obtain⟨k3,k4⟩:=K2.rules;have HR:=sM m.unk Re (by rw[aG];omega) QD;go_wp2_with fail;refine HR.mono ?_;rintro e w3 ⟨rfl,q1,q2⟩;go_wp2;go_end0;exact⟨rfl,by rw[aW]at q1;exact q1,WI.trans q2⟩
section
variable {S:d8} {mp pm:am->Option Nat} {B:Nat}
def ww (hN:Cf S)(w:an)(Z:ap)(v:Value)(m:PM)(d:MT)(pb:Nat)(gs:List GF)(k:Nat)(cx:rC w B S mp)(hpc:mr w (λb=>b<B) S mp pm)(hpl:ic w (λb=>b<B) mp pm gs pb)(hG:kc S mp d gs)(hnd:Jq d)(hM:iy k w Z v m)(hO:nR k m)(hl:(d9 S 8 d m).length<=140737488355328):
  Calls prog 59 #[ag pb,.agg #[v,ae m.unk]] w (jC (dN S 8 d m) (aa (d9 S 8 d m).length) w):=by
 obtain⟨a,c,rfl⟩:=hM.form;obtain⟨B0,K1⟩:=dR w #[.slice a m.fs.length c,ae m.unk] 49;have HC:=IJ (S:=S) (mp:=mp) (pm:=pm) (B:=B) 8 _ Z _ m d pb gs 1 k (cx.on (dQ B0 cx.le)) (hpc.on (dQ B0 cx.le)) (hpl.on (dQ B0 cx.le)) hG (hM.below B0 (ay _)) hO rfl
 have HZ:Hid (∀W,aj w W->dN S 8 d m=true->Calls prog 104 #[ag pb,.agg #[.slice a m.fs.length c,ae m.unk]] W (gK (d9 S 8 d m) W)):=λW hW hs=>
  wo hN 8 W Z _ m d pb gs k (cx.on (dQ hW cx.le)) (hpc.on (dQ hW cx.le)) (hpl.on (dQ hW cx.le)) hG hnd (hM.below hW (ay _)) hO hs hl
 generalize d9 S 8 d m=y at*;generalize dN S 8 d m=ok at*;obtain⟨k1,k2⟩:=K1.rules;go_enter func59,ntmps59;go_wp2_with fail;refine HC.mono ?_;intro e w2 hr;generalize w.alloc (ak #[.slice a m.fs.length c,ae m.unk] 49)=w1 at*
 rcases hr.part with⟨rfl,rfl,b2⟩|⟨rfl,y,z,rfl,b2⟩
 ·have K2:=K1.below b2 K1.lt;clear k1 k2;obtain⟨k1,k2⟩:=K2.rules;have B2:=dG B0 b2;go_wp2_with fail;refine(HZ.out w2 B2 trivial).mono ?_;rintro e w3 ⟨rfl,b3⟩;go_wp2;go_ret;exact jC.ok (dG B2 b3)
 ·unfold dI;go_wp2;exact⟨rfl,jC.no (dG B0 b2)⟩
def IK (hN:Cf S)(w:an)(Z:ap)(v:Value)(m:PM)(d:MT)(pb:Nat)(gs:List GF)(k:Nat)(cx:rC w B S mp)(hpc:mr w (λb=>b<B) S mp pm)(hpl:ic w (λb=>b<B) mp pm gs pb)(hG:kc S mp d gs)(hnd:Jq d)(hM:iy k w Z v m)(hO:nR k m)(hl:(d9 S 8 d m).length<=140737488355328):
  Calls prog 55 #[ag pb,.agg #[v,ae m.unk]] w (jC (dN S 8 d m) (ae ⟨(d9 S 8 d m).toArray⟩) w):=by
 obtain⟨a,c,rfl⟩:=hM.form;obtain⟨B0,K1⟩:=dR w #[.slice a m.fs.length c,ae m.unk] 49;have HC:=ww hN _ Z _ m d pb gs k (cx.on (dQ B0 cx.le)) (hpc.on (dQ B0 cx.le)) (hpl.on (dQ B0 cx.le)) hG hnd (hM.below B0 (ay _)) hO hl;have QP:=hM.mono (Y:=λb=>b<w.heap.size) λ_ _ q=>q
 have HW:Hid (∀W N b,aj w W->w.heap.size<=N->N<=W.heap.size->dN S 8 d m=true->eY W N b (d5 b) []->Calls prog 99 #[ag pb,.agg #[.slice a m.fs.length c,ae m.unk],d5 b] W (ix N b [] (d9 S 8 d m) W)):=λW N b hW hN1 QQ hs hw=>
  DF hN 8 W _ _ m d pb gs k N b [] (cx.on (dQ hW cx.le)) (hpc.on (dQ hW cx.le)) (hpl.on (dQ hW cx.le)) hG hnd (QP.below hW (ay _)) (λi q=>QD) (by have:=cx.le;omega) QQ hO hs hw (by simpa using hl)
 generalize d9 S 8 d m=y at*;generalize dN S 8 d m=ok at*;obtain⟨k1,k2⟩:=K1.rules;have hs1:w.heap.size+1=(w.alloc (ak #[.slice a m.fs.length c,ae m.unk] 49)).heap.size:=QE;go_enter func55,ntmps55;go_wp2_with fail;refine HC.mono ?_;intro e w2 hr;generalize w.alloc (ak #[.slice a m.fs.length c,ae m.unk] 49)=w1 at*
 rcases hr.part with⟨rfl,rfl,b2⟩|⟨rfl,y,z,rfl,b2⟩
 ·have hs2:=b2.size;go_wp2_with fail;refine(tF (B:=w.heap.size+1) y.length hl QD).mono ?_;rintro e w3 ⟨b,rfl,hb,QR,b3⟩;have K3:dK w3 w.heap.size _ _:=(b3.block _ QD).trans (K1.below b2 K1.lt);have hs3:=b3.size;have B3:aj w w3:=(dG B0 b2).trans (dQ b3 QD);clear k1 k2;obtain⟨k1,k2⟩:=K3.rules;go_wp2_with fail;refine(HW.out w3 (w.heap.size+1) b B3 QD QD trivial QR).mono ?_;rintro e w4 ⟨rfl,q1,q2⟩;rw[aR]at q1;have hs4:=q2.bel.size;go_wp2_with fail;refine(yg q1 QD).mono ?_;rintro e w5 ⟨rfl,b5⟩;go_wp2;go_ret;exact jC.ok (B3.trans (dQ (q2.bel.trans b5) QD))
 ·unfold dI;go_wp2;exact⟨rfl,jC.no (dG B0 b2)⟩
end
end
section
variable {w w':an} {P:ap} {v:Value} {bs:List dO} {y:List YM} {nm:am} {R:Fx PM} {e:Ending}
theorem lN (hM:eV w P v bs y)(h:jt bs):y.length<=2001:=by
 have e:y.length=(dX bs).length:=by rw[<-hM.names];simp
 rw[e,iM,bm];exact aH (bW _ _) h.ok.few
theorem wy (hM:eV w P v bs y)(h:jt bs){i:Nat}{m:YM}(hi:y[i]?=some m)(hn:(m.1.1.toList==nm.toList)=true):
  ∃d gs,(dV bs).msg nm=some d/\iF w (λb=>b<w.heap.size) (kB (y.map (·.1))) m.1.2 d.name gs/\kc (dV bs) (kB (y.map (·.1))) d gs/\kU (dV bs) d:=by
 have hz:(y.map (·.1)).map (·.1)=dX bs:=by rw[bC];exact hM.names
 have QR:m.1.1.toList=nm.toList:=by simpa using hn
 have QP:eM (dX bs) nm=true:=(iG _ _).2 ⟨m.1.1,by rw[<-hM.names];exact aQ.2 ⟨m,aI hi,rfl⟩,QR⟩;obtain⟨_,b,_,_,h2,_,_⟩:=oJ h.ok hz QP;obtain⟨j,m2,hj,_,q2,q3,q4,q5,q6⟩:=pP hM h h2
 have QS:((y.map (·.1)).map (·.1)).Pairwise (λx y=>x.toList≠y.toList):=by
  rw[hz,iM];exact List.Pairwise.sublist (List.Sublist.map _ dl) h.ok.names
 have e1:m.1.1=m2.1.1:=ja (QR.trans q3.symm);have g1:=pG QS (s:=m.1.1) (b:=m.1.2) (aQ.2 ⟨m,aI hi,rfl⟩);have g2:=pG QS (s:=m2.1.1) (b:=m2.1.2) (aQ.2 ⟨m2,aI hj,rfl⟩);rw[e1,g2]at g1;exact⟨_,m2.2,h2,by rw[<-Option.some.inj g1];exact q4,q5,q6⟩
theorem nL (hM:eV w P v bs y)(QQ:∀m∈y,(m.1.1.toList==nm.toList)=false):(dV bs).msg nm=none:=by
 have hz:(y.map (·.1)).map (·.1)=dX bs:=by rw[bC];exact hM.names
 refine(uY hz ?_).1
 cases hm:eM (dX bs) nm with
 |false=>rfl
 |true=>
  obtain⟨x,hx,QU⟩:=(iG _ _).1 hm;rw[<-hM.names]at hx;obtain⟨m,QV,rfl⟩:=aQ.1 hx;have:=QQ m QV;rw[QU]at this;simp at this
theorem lu.toK (h:lu w R e w'):pS [] (λ_ _=>True) w R e w':=by
 cases R with
 |error x=>exact⟨h.1,.of_below h.2,trivial⟩
 |ok m=>
  obtain⟨v,Z',h1,h2,h3,h4⟩:=h;exact⟨v,Z',h1,h2,h3,.of_below h4,trivial⟩
theorem kG.toRet (h:kG [] (λ_ _=>True) w R e w'):Et w R e w':=by
 cases R with
 |error x=>exact⟨h.1,h.2.1.to_below (ay _) QE⟩
 |ok m=>
  obtain⟨v,Z',h1,h2,h3,h4,_⟩:=h;exact⟨v,Z',h1,h2,h3,h4.to_below (ay _) QE⟩
theorem FX (w:an)(sb:Nat)(v kv:Value)(bs:List dO)(y:List YM)(P:ap)(nm b:am)(h1:dK w sb #[v,kv] 92)(hM:eV w P v bs y)(h:jt bs)(hu:UOK w)(hbs:b.size<=268435456):
  Calls prog 21 #[ag sb,aa 1,ae nm,ae b] w (Et w (il (dV bs) nm b)):=by
 refine(yy (ks:= []) (K:=λ_ _=>True) _ w QE (λ_ _ _ _ _ _=>trivial) rfl trivial sb v kv bs y P nm b 1 h1 hM (lN hM h) (.inl rfl) (λQQ=> ?_) (λi m w0 q0 q1 q2 q3 hi hn hb _ _ c0 c1 c2 _=> ?_)).mono λ_ _ q=>q.toRet
 ·unfold il;rw[nL hM QQ]
 ·obtain⟨d,gs,g1,g2,g3,g4⟩:=wy hM h hi hn;have cx:=sJ hM h hu;refine(MD _ w0 q0 q1 q2 q3 m.1.2 b c0 c1 c2 λw2 QW=> ?_).mono λ_ _ q=>q.toK
  have QT:aj w w2:=dG hb QW;have e:il (dV bs) nm b=ew (dV bs) b (b.size+1) d PM.none 0 b.size 1:=by unfold il;rw[g1]
  rw[e];exact Dq (dV bs) (kB (y.map (·.1))) w.heap.size b (ME h) hbs w2 d m.1.2 gs d.name (cx.on QT) (g2.keep λx q _=>QT.block x q) g3 g4
end
section
open Go.Maps
attribute [local go_sem↓] Go.wp_at_zero Go.wp_at_succ
def Nf (S:d8)(b:am)(w:an)(d:MT)(pb:Nat)
  (h:∀(w3:an) (Z:ap) (rb db:Nat),aj w w3->dU w3 rb (b.extract 0 b.size) 0 1->ed S 8 (some d) w3 Z db PM.none->(∀x,Z x->w.heap.size<=x/\x<w3.heap.size)->w.heap.size<=rb->¬Z rb->
   Calls prog 89 #[ag pb,ag rb,ag db] w3 (gR S 7 d w3 Z rb db (b.extract 0 b.size) 1 (nC b.size (ew S b (b.size+1) d PM.none 0 b.size 1)))):
  Calls prog 49 #[ag pb,ae b] w (lu w (ew S b (b.size+1) d PM.none 0 b.size 1)):=by
 have hex:b.extract 0 b.size=b:=QE;have B1:aj w (w.alloc (ak #[ah,ae ⟨#[]⟩] 49)):=(Below.refl _ _).alloc (ay _) _;have B2:=B1.alloc QE (ak #[ah,ah] 183);have B3:=B2.alloc QF (ak #[ae b,aa 0,aa 1] 244);have KR:=((dK.new w #[ah,ae ⟨#[]⟩] 49).alloc (ak #[ah,ah] 183)).alloc (ak #[ae b,aa 0,aa 1] 244);have KD:=(dK.newAt (w:=w.alloc (ak #[ah,ae ⟨#[]⟩] 49)) (n:=w.heap.size+1) QE #[ah,ah] 183).alloc (ak #[ae b,aa 0,aa 1] 244);have KW:=dK.newAt (w:=(w.alloc (ak #[ah,ae ⟨#[]⟩] 49)).alloc (ak #[ah,ah] 183)) (n:=w.heap.size+1+1) QE #[ae b,aa 0,aa 1] 244;have QP:=GJ ((w.alloc (ak #[ah,ae ⟨#[]⟩] 49)).alloc (ak #[ah,ah] 183)) b;simp only[ck]at QP;go_enter func49,ntmps49;go_wp2_with fail;refine QP.mono ?_;rintro e w' ⟨rfl,rfl⟩;have hsz:w.heap.size+3=(((w.alloc (ak #[ah,ae ⟨#[]⟩] 49)).alloc (ak #[ah,ah] 183)).alloc (ak #[ae b,aa 0,aa 1] 244)).heap.size:=QE;clear QP B1 B2;go_wp2_with fail;generalize(((w.alloc (ak #[ah,ae ⟨#[]⟩] 49)).alloc (ak #[ah,ah] 183)).alloc (ak #[ae b,aa 0,aa 1] 244))=w3 at*;have QR:=h w3 (λx=>x=w.heap.size+1) (w.heap.size+1+1) (w.heap.size+1) B3 (by rw[hex];exact KW) (ed.fresh KD) (λx hx=>by subst hx;omega) QD QD;refine QR.mono ?_;intro e w4 hq
 rcases hq.part with⟨x,hP,rfl,Z',st⟩|⟨m',hP,rfl,Z',st,hdr⟩
 ·unfold dI;go_wp2;exact⟨rfl,rfl,B3.trans (st.belowW QD (λx hx=>QD) QD)⟩
 ·have B4:aj w w4:=B3.trans (st.belowW QD (λx hx=>QD) QD);have QS:dK w4 w.heap.size #[ah,ae ⟨#[]⟩] 49:=(st.block w.heap.size QD QD QD).trans KR;have z4:=st.size;have hg:=st.grow;clear QR hq st;go_wp2_with fail;refine(vQ (S:=S) 8 (some d) w4 Z' (w.heap.size+1) m' hdr).mono ?_;rintro e w5 ⟨v,Z2,rfl,hm,QV,QW⟩;obtain⟨va,vc,rfl⟩:=hm.form;have QT:=QS.below QW QS.lt;obtain⟨r1,r2⟩:=QT.rules
  have QQ:∀x,Z2 x->w.heap.size<x:=λx hx=>by
   rcases(QV x hx).2 with h|h
   ·rcases hg x h with h|h
    ·omega
    ·omega
   ·omega
  go_wp2
  have QX:∀x,Z2 x->x<w5.heap.size->((w5.setCell (ai w.heap.size 0) (.slice va m'.fs.length vc)).setCell (ai w.heap.size 1) (ae m'.unk)).heap[x]?=w5.heap[x]?:=λx hx _=>by
   have QU:w.heap.size≠x:=by have:=QQ x hx;omega
   rw[dJ,dA QU,dJ,dA QU]
  rw[hP];refine dE (dZ results49 _ _ rfl ((QT.set 0 _).set 1 _) underlying49 QI) rfl ⟨_,Z2,rfl,hm.keep QX,λx hx=>⟨bG (QQ x hx),by simp only[cp];exact(QV x hx).1⟩,?_⟩;exact((dG B4 QW).setCell (p:=(ai w.heap.size 0)) (ay _) _).setCell (p:=(ai w.heap.size 1)) (ay _) _
end
section
open Go.Maps
section
variable {w:an} {P:ap} {v:Value} {bs:List dO} {y:List YM}
def rM (hM:eV w P v bs y)(h:jt bs):IA w P (dV bs) (kB (y.map (·.1))):=by
 refine⟨λt d ht=> ?_,λt ht=> ?_⟩
 ·obtain⟨i,m,hi,h1,h2,_,_,h3,_⟩:=pP hM h ht;have Q4:=aI hi;refine⟨m.1.2,m.2,h1,by rw[<-h2];exact hM.msg m Q4,h3,?_⟩;have Ra:m.1.1∈dX bs:=by rw[<-hM.names];exact aQ.2 ⟨m,Q4,rfl⟩
  obtain⟨b,Q0,Rf⟩:=aQ.1 Ra;rw[<-h2,<-Rf];exact(h.ok.ok b (bN.1 Q0).1).name
 ·have hz:(y.map (·.1)).map (·.1)=dX bs:=by rw[bC];exact hM.names
  have hs:(kB (y.map (·.1)) t).isSome=true:=by
   unfold iU at ht
   split at ht
   ·exfalso;have e:mz.length=15:=QH;unfold mS at ht
    cases hq:AU mz t.toList 0 with
    |none=>rw[hq]at ht;cases ht
    |some k=>
     rw[hq]at ht;have:=zv _ _ _ _ hq;simp at ht;omega
   ·split at ht
    ·assumption
    ·cases ht
  rw[qB,hz]at hs;obtain⟨_,b,_,_,h2,_⟩:=oJ h.ok hz hs;exact⟨_,h2⟩
def sU (hM:eV w P v bs y)(h:jt bs){i:Nat}{m:YM}(hi:y[i]?=some m){nm:am}(hn:(m.1.1.toList==nm.toList)=true):
  ∃d gs,(dV bs).msg nm=some d/\iF w P (kB (y.map (·.1))) m.1.2 d.name gs/\kc (dV bs) (kB (y.map (·.1))) d gs/\kU (dV bs) d/\d.name.size<=2000:=by
 have hz:(y.map (·.1)).map (·.1)=dX bs:=by rw[bC];exact hM.names
 have Q5:m.1.1.toList=nm.toList:=by simpa using hn
 have QU:eM (dX bs) nm=true:=(iG _ _).2 ⟨m.1.1,by rw[<-hM.names];exact aQ.2 ⟨m,aI hi,rfl⟩,Q5⟩;obtain⟨_,b,_,_,h2,_,_⟩:=oJ h.ok hz QU;obtain⟨j,m2,hj,_,q2,q3,_,q5,q6⟩:=pP hM h h2
 have Q6:((y.map (·.1)).map (·.1)).Pairwise (λx y=>x.toList≠y.toList):=by
  rw[hz,iM];exact List.Pairwise.sublist (List.Sublist.map _ dl) h.ok.names
 have e1:m.1.1=m2.1.1:=ja (Q5.trans q3.symm);have g1:=pG Q6 (s:=m.1.1) (b:=m.1.2) (aQ.2 ⟨m,aI hi,rfl⟩);have g2:=pG Q6 (s:=m2.1.1) (b:=m2.1.2) (aQ.2 ⟨m2,aI hj,rfl⟩);rw[e1,g2]at g1;obtain⟨_,_,_,_,_,k4⟩:=(rM hM h).md nm _ h2;exact⟨_,m2.2,h2,by rw[<-Option.some.inj g1,<-q2];exact hM.msg m2 (aI hj),q5,q6,k4⟩
end
def gZ (w:an)(kp mk:Nat)(S:d8)(mp:am->Option Nat)(X:ap):Prop:=∃N pm,tJ kp mk 0 S mp w N pm [] X
def gZ.still {kp mk E B:Nat}{S:d8}{mp:am->Option Nat}{Y Z:ap}(hk:kp<E)(hm:mk<E):ld E B λw=>gZ w kp mk S mp λb=>(Y b/\b<E)\/(B<=b/\¬Z b):=by
 rintro a b ⟨N,pm,h⟩ _ hb;refine⟨N,pm,(hb kp (.inl hk) h.kb.lt).trans h.kb,h.mb.keep (hb mk (.inl hm) h.mb.lt),h.ne,h.ct,h.inj,λt p hp=> ?_⟩
 rcases h.pl t p hp with⟨q1,_⟩|⟨d,gs,q1,q2,q3⟩
 ·cases q1
 ·exact .inr ⟨d,gs,q1,q2,q3.keep (λx q hl=>hb x (q.2.2.2.imp And.right And.left) hl) (λ_ _ q=>q)⟩
def gZ.less {w:an}{kp mk:Nat}{S:d8}{mp:am->Option Nat}{X Y:ap}(h:gZ w kp mk S mp X)(hx:∀b,X b->b<w.heap.size->Y b):gZ w kp mk S mp Y:=by
 obtain⟨N,pm,h⟩:=h;exact⟨N,pm,h.less hx⟩
def FY (MK:m9)(w:an)(sb kp mk:Nat)(v:Value)(bs:List dO)(y:List YM)(P:ap)(nm b:am)(h1:dK w sb #[v,ag kp] 92)(hM:eV w P v bs y)(h:jt bs)(hu:UOK w)(hbs:b.size<=268435456)
  (Y:ap) (hp:gZ w kp mk (dV bs) (kB (y.map (·.1))) Y) (hY:∀x,P x->Y x) (hP:∀x,P x->x≠mk/\x≠kp) (hsb:sb≠mk/\sb≠kp) (hu1:2≠mk/\2≠kp) (hu2:3≠mk/\3≠kp):
  Calls prog 21 #[ag sb,aa 2,ae nm,ae b] w (kG [mk,kp] (λZ w'=>gZ w' kp mk (dV bs) (kB (y.map (·.1))) λx=>(Y x/\x<w.heap.size)\/(w.heap.size+9<=x/\¬Z x)) w (il (dV bs) nm b)):=by
 obtain⟨N,pm,ok0⟩:=id hp;have QV:=ok0.kb.lt;have QW:=ok0.mb.lt;have Q7:∀Z:ap,ld w.heap.size (w.heap.size+9) λw'=>gZ w' kp mk (dV bs) (kB (y.map (·.1))) λx=>(Y x/\x<w.heap.size)\/(w.heap.size+9<=x/\¬Z x):=λ_=>gZ.still QV QW
 have QX:∀x∈ [mk,kp],x<w.heap.size:=λx hx=>by
  simp only[aN,bF,or_false]at hx
  rcases hx with rfl|rfl
  ·exact QW
  ·exact QV
 have QQ:∀x,x≠mk->x≠kp->x∉ [mk,kp]:=λx h1 h2=>by simp[h1,h2]
 refine yy _ w QX Q7 rfl (hp.less λx hy hl=> .inl ⟨hy,hl⟩) sb v _ bs y P nm b 2 h1 hM (lN hM h) (.inr rfl) (λRg=> ?_) (λi m w0 q0 q1 q2 q3 hi hn hb hsz QS c0 c1 c2 c3=> ?_)
 ·unfold il;rw[nL hM Rg]
 ·have Q8:eV w (λx=>P x/\x<w.heap.size) v bs y:=hM.mono λx q hl=>⟨q,hl⟩
  obtain⟨d,gs,g1,g2,g3,g4,g5⟩:=sU Q8 h hi hn;have e:il (dV bs) nm b=ew (dV bs) b (b.size+1) d PM.none 0 b.size 1:=by unfold il;rw[g1]
  rw[e];have QR:∀q,w.heap.size<=q->q∉ [mk,kp]:=λq hq hx=>by have:=QX q hx;omega
  have Q9:=lc g1;refine M2 QX Q7 _ w0 hb.size hsz q0 q1 q2 q3 m.1.2 sb kp v b c0 c1 c2 c3 (h1.below hb h1.lt) ⟨QR _ QS.1,QR _ QS.2.1,QR _ QS.2.2.1,QR _ QS.2.2.2,QQ sb hsb.1 hsb.2⟩ λw1 Q0 hsz1=> ?_
  have QP:aj w w1:=dG hb Q0;have Rb:eV w1 P v bs y:=hM.keep λx _ hl=>QP.block x hl
  have Rc:∀x,(P x/\x<w.heap.size)->x<w.heap.size/\x≠mk/\x≠kp:=λx q=>⟨q.2,hP x q.1⟩
  have md:=(rM Q8 h).keep (w':=w1) λx q _=>QP.block x q.2
  have I1:yx kp mk w.heap.size 0 (dV bs) (kB (y.map (·.1))) (λx=>P x/\x<w.heap.size) w1 N pm [] λx=>(Y x/\x<w.heap.size)\/w.heap.size+9<=x:=
   ⟨(ok0.less λx hy hl=> .inl ⟨hy,hl⟩).keep (λx hl=>QP.block x hl),md,QP.size,QE,λx hx=> .inl ⟨hY x hx.1,hx.2⟩,λx hx=> .inr QD,Rc,QV,QW⟩
  refine(MZ kp mk w.heap.size (dV bs) (kB (y.map (·.1))) _ MK w1 N pm m.1.2 d gs _ I1 (by rw[Q9];exact g1) (g2.keep λx q _=>QP.block x q.2) g3 g5).mono ?_;rintro en w2 ⟨p,N',Q1,rfl,Rh,ok2,hx2,QT⟩;refine⟨p,rfl,QT,λZ hZ=>⟨N',Q1,ok2.less λx q hl=>q.imp id λq=>⟨q,λz=>by have:=hZ x z;omega⟩⟩,?_⟩;have Re:eV w2 P v bs y:=Rb.keep λx q hl=>QT.block x hl (QQ x (hP x q).1 (hP x q).2)
  have QY:UOK w1:=hu.keep (QP.block _ hu.lt1) (QP.block _ hu.lt2);have QZ:UOK w2:=QY.keep (QT.block _ QY.lt1 (QQ _ hu1.1 hu1.2)) (QT.block _ QY.lt2 (QQ _ hu2.1 hu2.2));have cx:=sJ Re h QZ
  have pc:mr w2 (λx=>x<w2.heap.size) (dV bs) (kB (y.map (·.1))) Q1:=λt q hq=>by
   rcases ok2.pl t q hq with⟨z,_⟩|⟨d',Q2,z1,z2,z3⟩
   ·cases z
   ·exact⟨d',Q2,z1,z3.move (.mono λx _ hl=>hl) (λ_ _ q=>q),z2⟩
  obtain⟨d',Q2,z1,z2,z3⟩:=pc _ _ Rh
  obtain rfl:d=d':=by
   rw[Q9,g1]at z1;exact Option.some.inj z1
  refine Nf (dV bs) b w2 d p λw3 Z rb db Q3 hr hd hZ Ri Rj=> ?_
  exact DE (dV bs) (kB (y.map (·.1))) Q1 w2.heap.size b (ME h) hbs (b.size+1) w3 Z d PM.none 0 b.size 1 7 p Q2 rb db (cx.on Q3) (pc.keep λx q _=>Q3.block x q) (z2.keep (λx q _=>Q3.block x q) (λ_ _ q=>q)) z3 g4 hr hd hZ Ri Rj (aM _) (ay _) QD rfl (WM.none _ _ _)
def c5 (w:an)(t:am)(hmax:t.size<=140737488355328)(hg:GOK w)(hbo:BOK w):
  Calls prog 13 #[ae t] w (BP w (iw t)):=by
 have hmf:= @ti;have B0:=(Below.refl w.heap.size w).alloc (ay _) (ak #[ae t] 9);generalize hr:iw t=r;have HR:Hid (iw t=r):=hr;clear hr;go_enter func13,ntmps13;go_wp2_with fail;refine(NM _ w.heap.size t hmax ((dK.new w #[ae t] 9).cell 0) (hg.keep (B0.block _ hg.lt)) (hbo.keep (B0.block _ hbo.lt))).mono ?_;rw[HR.out]
 cases r with
 |error q=>
  obtain⟨k,p⟩:=q;rintro e w2 ⟨he,QP⟩;obtain rfl:e= .returned (.tuple #[.pointer none,aa k,aa p]):=he;go_wp2;go_ret3
  exact⟨rfl,B0.trans (QP.mono B0.size)⟩
 |ok bs=>
  rintro e w2 ⟨⟨sb,kp,mk,rfl,v,y,h1,⟨h3,h4,h5,h6⟩,hM,hK⟩,QP⟩;go_wp2;go_ret3
  exact⟨⟨sb,kp,mk,rfl,v,y,h1,⟨aH B0.size h3,aH B0.size h4,aH B0.size h5,h6⟩,hM.mono (λx hx _=>⟨aH B0.size hx.1,hx.2⟩),hK⟩,B0.trans (QP.mono B0.size)⟩
section
variable {bs:List dO} {w w':an} {ks:au} {K:(ap)->an->Prop} {R:Fx PM} {e:Ending}
def kH (w:an)(sb kp mk:Nat)(bs:List dO)(P:ap):Prop:=
 ∃v y,dK w sb #[v,ag kp] 92/\(P sb/\P kp/\P mk/\sb≠kp/\sb≠mk)/\eV w (λb=>P b/\b≠sb/\b≠kp/\b≠mk) v bs y/\gZ w kp mk (dV bs) (kB (y.map (·.1))) P
theorem Ng (h:jt bs):(dV bs).ms.length<=2001:=by
 show((fW bs).map nr).length<=2001;rw[bm];exact aH (bW _ _) h.ok.few
theorem BO.toP {sb kp mk:Nat}{lo:Nat}(h:BO w sb kp mk bs lo)(hs:jt bs):kH w sb kp mk bs λb=>lo<=b:=by
 obtain⟨v,y,h1,⟨a1,a2,a3,a4,a5,a6⟩,h3,h4⟩:=h;refine⟨v,y,h1,⟨a1,a2,a3,a4,a5⟩,h3,0,λ_=>none,h4.1,h4.2,a6,?_,λ_ _ _ q=>(by cases q),λ_ _ q=>(by cases q)⟩;have:=Ng hs;have h5:mZ (dV bs) (λ_=>none)<=(dV bs).ms.length:=bW _ _;omega
section
variable {w w':an} {sb kp mk:Nat} {bs:List dO} {P P':ap}
theorem kH.keep (h:kH w sb kp mk bs P)(hk:∀b,P b->b<w.heap.size->w'.heap[b]?=w.heap[b]?):kH w' sb kp mk bs P:=by
 obtain⟨v,y,h1,h2,h3,N,pm,h4⟩:=h;refine⟨v,y,(hk _ h2.1 h1.lt).trans h1,h2,h3.keep (λb q hl=>hk b q.1 hl),N,pm,(hk _ h2.2.1 h4.kb.lt).trans h4.kb,h4.mb.keep (hk _ h2.2.2.1 h4.mb.lt),h4.ne,h4.ct,h4.inj,λt p hp=> ?_⟩
 rcases h4.pl t p hp with⟨q,_⟩|⟨d,gs,q1,q2,q3⟩
 ·cases q
 ·exact .inr ⟨d,gs,q1,q2,q3.keep (λb q hl=>hk b q.2.2.2 hl) (λ_ _ q=>q)⟩
theorem kH.less (h:kH w sb kp mk bs P)(hp:∀b,P b->b<w.heap.size->P' b):kH w sb kp mk bs P':=by
 obtain⟨v,y,h1,⟨a1,a2,a3,a4,a5⟩,h3,N,pm,h4⟩:=h;exact⟨v,y,h1,⟨hp _ a1 h1.lt,hp _ a2 h4.kb.lt,hp _ a3 h4.mb.lt,a4,a5⟩,h3.mono λb q hl=>⟨hp b q.1 hl,q.2⟩,N,pm,h4.less hp⟩
end
theorem kG.imp {K':(ap)->an->Prop}(h:kG ks K w R e w')(hk:∀Z,(∀b,Z b->w.heap.size<=b)->dS ks w w'->K Z w'->K' Z w'):kG ks K' w R e w':=by
 cases R with
 |error x=>exact⟨h.1,h.2.1,hk _ (λ_ q=>q.elim) h.2.1 h.2.2⟩
 |ok m=>
  obtain⟨v,Z',h1,h2,h3,h4,h5⟩:=h;exact⟨v,Z',h1,h2,h3,h4,hk _ (λb q=>(h3 b q).1) h4 h5⟩
theorem Et.toK (h:Et w R e w')(hk:∀Z,aj w w'->K Z w'):kG ks K w R e w':=by
 cases R with
 |error x=>exact⟨h.1,.of_below h.2,hk _ h.2⟩
 |ok m=>
  obtain⟨v,Z',h1,h2,h3,h4⟩:=h;exact⟨v,Z',h1,h2,h3,.of_below h4,hk _ h4⟩
theorem yB (MK:m9)(w:an)(sb kp mk:Nat)(bs:List dO)(P:ap)(nm b:am)(way:Int)(hs:kH w sb kp mk bs P)(h:jt bs)(hu:UOK w)(hbs:b.size<=268435456)(hw:way=1\/way=2)(hu1:¬P 2)(hu2:¬P 3):
  Calls prog 21 #[ag sb,aa way,ae nm,ae b] w (kG [mk,kp] (λZ w'=>kH w' sb kp mk bs λx=>(P x/\x<w.heap.size)\/(w.heap.size<=x/\¬Z x)) w (il (dV bs) nm b)):=by
 obtain⟨v,y,h1,⟨a1,a2,a3,a4,a5⟩,h3,h4⟩:=id hs
 rcases hw with rfl|rfl
 ·exact(FX w sb v _ bs y _ nm b h1 h3 h hu hbs).mono λe w' q=>q.toK λZ hb=>(hs.less (P':=λx=>(P x/\x<w.heap.size)\/(w.heap.size<=x/\¬Z x)) λx q hl=> .inl ⟨q,hl⟩).keep λx _ hl=>hb.block x hl
 ·have QP:mk<w.heap.size/\kp<w.heap.size:=by
   obtain⟨_,_,h5⟩:=h4;exact⟨h5.mb.lt,h5.kb.lt⟩
  refine(FY MK w sb kp mk v bs y _ nm b h1 h3 h hu hbs _ h4 (λx q=>q.1) (λx q=>⟨q.2.2.2,q.2.2.1⟩) ⟨a5,a4⟩ ⟨λe=>hu1 (e▸a3),λe=>hu1 (e▸a2)⟩ ⟨λe=>hu2 (e▸a3),λe=>hu2 (e▸a2)⟩).mono λe w' q=>q.imp λZ hZ kw hp=> ?_
  have hn:∀x,x≠kp->x≠mk->x<w.heap.size->w'.heap[x]?=w.heap[x]?:=λx q1 q2 hl=>kw.block x hl (by simp[q1,q2])
  refine⟨v,y,(hn sb a4 a5 h1.lt).trans h1,⟨.inl ⟨a1,h1.lt⟩,.inl ⟨a2,QP.2⟩,.inl ⟨a3,QP.1⟩,a4,a5⟩,(h3.mono (Q:=λx=>(P x/\x≠sb/\x≠kp/\x≠mk)/\x<w.heap.size) λx q hl=>⟨q,hl⟩).keep (λx q hl=>hn x q.1.2.2.1 q.1.2.2.2 hl)|>.mono λx q _=>⟨.inl ⟨q.1.1,q.2⟩,q.1.2⟩,?_⟩;exact hp.less λx q _=>q.imp id λq=>⟨QD,q.2⟩
end
end
end Go.Proofs.YtfebdimolnobaaaGreatDoor
