import Derived.Test.YtfebdimolnobaaaGreatDoorEsA
set_option maxRecDepth 100000
set_option maxHeartbeats 8000000
set_option linter.all false
namespace Go.Proofs.YtfebdimolnobaaaGreatDoor
open Go.RowKit
section
attribute [local go_sem↓] Go.wp_at_zero Go.wp_at_succ
def lC (form:Int)(m:PM)(n:Int)(sm:PM):PM:=if form=2 then m.put n (m.get n++ [mV sm])else m.put n [mV sm]
def iY (form:Int)(m:PM)(n:Int):PM:=if form=2 then PM.none else((m.get n).headD PV.none).2.2
theorem uj (form:Int)(args:Array Value)(w:an):(callFunc (g7 form) args).run Tryz.prog w= .ok (.enter (g7 form) args) w:=by
 unfold g7
 split
 ·exact enters_of Tryz.func190 (by kernel_rfl) rfl args w
 ·exact enters_of Tryz.func191 (by kernel_rfl) rfl args w
theorem u7 {S:dG}{mp:am->Option Nat}{d:MT}{f:ek}{g:GF}{sub:MT}(fg:FG S mp d f g)(hff:dv d.fs f.num=some f)(hM:xz S d f sub)(k:Nat)(w:an)(Z:ap)(db:Nat)(m:PM)(h:dB S (k+1+1) (some d) w Z db m)(hl:m.fs.length<4194303)(hvl:(m.get f.num).length<4194304)(hZ:∀b,Z b->b<w.heap.size):
  Calls Tryz.prog (g7 g.form) #[ag db,aa f.num] w (oT S (k+1) (some d) w Z db (some sub) (iY g.form m f.num) (lC g.form m f.num)):=by
 obtain⟨ok1,ok2,OB⟩:=hM.kind hff
 by_cases h2:g.form=2
 ·have e1:g7 g.form=190:=by unfold g7;rw[if_pos h2]
  have e2:iY g.form m f.num=PM.none:=by unfold iY;rw[if_pos h2]
  have e3:lC g.form m f.num=fun m'=>m.put f.num (m.get f.num++ [mV m']):=funext fun sm=>by unfold lC;rw[if_pos h2]
  rw[e1,e2,e3,<-OB];exact lx S k (some d) w Z db m f.num (h.slot (by omega)) ok1 ok2 (fun⟨d',f',e1,e2,e3⟩=>by cases e1;rw[hff]at e2;cases e2;rw[fg.rep,h2]at e3;cases e3) hvl (fun q=>by have:=hZ _ q;omega)
 ·have e1:g7 g.form=191:=by unfold g7;rw[if_neg h2]
  have e2:iY g.form m f.num=((m.get f.num).headD PV.none).2.2:=by unfold iY;rw[if_neg h2]
  have e3:lC g.form m f.num=fun m'=>m.put f.num [mV m']:=funext fun sm=>by unfold lC;rw[if_neg h2]
  rw[e1,e2,e3,<-OB];exact tq S k (some d) w Z db m f.num h ok1 ok2 ⟨d,f,rfl,hff,by rw[fg.rep];simp[h2]⟩ hl hZ
theorem LY (w:an)(B:Nat)(S:dG)(mp pm:am->Option Nat)(k:Nat)(d:MT)(f:ek)(g:GF)(Z:ap)(rb db:Nat)(b:am)(e a z deep F:Nat)(kind:Int)(m:PM)(sub:MT)(v:Value)
  (I:lR w B S mp k d Z rb db b e a z deep m) (hpc:kI w (fun b=>b<B) S mp pm) (hv:JZ w (fun b=>b<B) mp pm g v) (fg:FG S mp d f g) (hff:dv d.fs f.num=some f) (hS:za S) (hM:xz S d f sub) (hkd:k+deep=8) (hRd:Gc S mp pm B b F) (hF:e-z<=F):
  jO v [aa kind,ag rb,ag db] w (fK S k d w Z rb db (b.extract 0 e) deep (rS S b F sub (iY g.form m f.num) deep (lC g.form m f.num) (kx (b.extract 0 e) z deep (iA mp g)))):=by
 obtain⟨ib,lb,pb,ub,pn,rfl,h1,h2,h3,h4,OC,q1,q2,q3,q4⟩:=hv;refine⟨419,[_,_,_,_],rfl,enters_of Tryz.func419 (by kernel_rfl) rfl,?_⟩;show Calls Tryz.prog 419 #[aa kind,ag rb,ag db,ag ib,ag lb,ag pb,ag ub] w _;have OG:g.form≠4:=fun q=>by have:=hM.hm;rw[fg.map,q]at this;cases this
 obtain⟨Oo,OD,OE,OU⟩:=oj (deep:=deep) fg hS hM.hs (by omega);rw[fg.eq]at h4 OC;have Og:S.msg f.ty=some sub:=by have:=hM.hs;unfold ed at this;rw[hM.hm]at this;exact this
 obtain⟨Oq,gs,OF,OV,OW⟩:=hpc _ _ OC;obtain rfl:sub=Oq:=by rw[Og]at OF;exact Option.some.inj OF
 have OH:(b.extract 0 e).size=e:=eG I.eb;have hab:=I.az;have hze:=I.ze;have OI:=I.eb;have hbs:=I.bs;have hrb:=I.rB;have Ow:=I.rZ;have Of:=I.hZ;have OJ:=I.cx.le;have OL:rb<w.heap.size:=de.lt I.hr;have Oh:=lL w.drew rb (b.extract 0 e) z deep (iA mp g) (I.hr:dn w.drew rb (b.extract 0 e) z deep) (by omega) (by omega) (by omega) OD OE;obtain⟨N7,N8⟩:∃N7,iA mp g=N7:=⟨_,rfl⟩;rw[N8]at h2 Oh⊢
 have Ox:Hid (∀y:Nat×Nat,kx (b.extract 0 e) z deep N7= .ok y->z<y.1/\y.1<=y.2/\y.2<=e/\1<=k/\(b.extract 0 e).extract 0 y.2=b.extract 0 y.2):=fun y hy=>by
  obtain⟨q1,q2⟩:=qb hy;obtain⟨v0,v1,v2⟩:=gq (z:=y.1) (e:=y.2) q1;rw[OH]at v2
  have hlv:1<=N7:=by
   rw[<-N8];unfold iA;rw[if_neg (fun q=>OG q.1),if_pos OU];exact cH _
  exact⟨v0,v1,v2,by omega,iE OI v2⟩
 clear N8 OD OE Oo;obtain⟨R,hR⟩:∃R,kx (b.extract 0 e) z deep N7=R:=⟨_,rfl⟩;rw[hR]at Oh Ox⊢;clear hR;have hlen:=I.wm.len
 have Oy:WM S a sub (iY g.form m f.num):=by
  unfold iY
  split
  ·exact WM.none S a sub
  ·rename_i h2
   have:=(j0 I.wm hff hM.hs).2;unfold eA at this;rw[hM.hm,fg.rep]at this;simpa [h2]using this
 have HP:Hid (∀k',k=k'+1->∀(w3:an),dB S (k+1) (some d) w3 Z db m->w.heap.size<=w3.heap.size->Calls Tryz.prog (g7 g.form) #[ag db,aa f.num] w3 (oT S k (some d) w3 Z db (some sub) (iY g.form m f.num) (lC g.form m f.num))):=by
  rintro k' rfl w3 Oj OX;exact u7 fg hff hM k' w3 Z db m Oj (by omega) (by have:=hlen.2.2 f.num;omega) (fun x q=>aC (Of x q).2 OX)
 have OM:Hid (∀k',k=k'+1->∀(w4:an) (C:ap) (y:Nat×Nat) (nb p:Nat),Below B w w4->z<y.1->y.1<=y.2->y.2<=e->dn w4 nb (b.extract 0 y.2) y.1 ((deep:Int)+1)->dB S k (some sub) w4 C p (iY g.form m f.num)->(∀x,C x->B<=x/\x<w4.heap.size)->B<=nb->¬C nb->
   Calls Tryz.prog 89 #[ag pn,ag nb,ag p] w4 (fK S k' sub w4 C nb p (b.extract 0 y.2) (deep+1) (lQ y.2 (dQ S b F sub (iY g.form m f.num) y.1 y.2 (deep+1))))):=by
  rintro k' rfl w4 C y nb p Ot v0 v1 v2 OY Ou hC OZ Om;exact hRd w4 C sub _ y.1 y.2 (deep+1) k' pn gs nb p (I.cx.on Ot) (hpc.keep (fun x q _=>Ot.block x q)) (OV.keep (fun x q _=>Ot.block x q) (fun _ _ q=>q)) OW (hS.good.sub hM.hs) (by rw[cL];exact OY) Ou hC OZ Om v1 (by omega) (by omega) (by omega) (Oy.mono (by omega))
 have ep:=uj g.form;have ON:dB S (k+1) (some d) w.drew Z db m:=I.hd.keep (fun _ _ _=>rfl);clear Oy hlen;generalize iY g.form m f.num=m0 at*;generalize lC g.form m f.num=M at*;generalize g7 g.form=pf at*;unfold yi at h3;have OO:de w.drew ib #[ag pn] 116:=h1;have OP:de w.drew lb #[aa N7] 3:=h2;have OQ:de w.drew pb #[.func (.func pf) #[] #[]] 477:=h3;have OR:de w.drew ub #[aa f.num] 3:=h4
 have HC:Hid (∀W:an,Below B w.drew W->W.cell? (ai ib 0)=some (ag pn)/\W.cell? (ai lb 0)=some (aa N7)/\W.cell? (ai pb 0)=some (.func (.func pf) #[] #[])/\W.cell? (ai ub 0)=some (aa f.num)):=fun W hW=>
  ⟨(OO.below hW q1).cell 0,(OP.below hW q2).cell 0,(OQ.below hW q3).cell 0,(OR.below hW q4).cell 0⟩
 have Oa:Hid (∀y:Nat×Nat,rS S b F sub m0 deep M (.ok y)=Dm M y.2 (dQ S b F sub m0 y.1 y.2 (deep+1))):=fun _=>rfl
 have b0:Below B w w.drew:=(Below.refl _ _).drew;have Oz:dF w Z rb w.drew Z:= .of_below (Below.refl _ _).drew;go_enter Tryz.func419,Tryz.ntmps419
 go_upto_region 0 with fail
 go_region_held2 (fun W=>W.cell? (ai ib 0)=some (ag pn)/\W.cell? (ai lb 0)=some (aa N7)/\W.cell? (ai pb 0)=some (.func (.func pf) #[] #[])/\W.cell? (ai ub 0)=some (aa f.num))
  (first|exact HC.out _ b5|exact HC.out _ b4|exact HC.out _ b3|exact HC.out _ (Below.refl _ _))
  (first
   |(
     go_at_call 185
     refine Oh.mono ?_;intro en w3 hq
     rcases hq.part with⟨x,rfl,rfl,N3⟩|⟨y,nb,rfl,rfl,N3,O1,O2,Od,Ov⟩
     ·unfold da;go_wp2;exact⟨rfl,rfl,Z,Oz.trans (.of_kept N3)⟩
     obtain⟨v0,v1,v2,v3,v4⟩:=Ox.out y rfl;obtain⟨k',rfl⟩:∃k',k=k'+1:=⟨k-1,by omega⟩;have Oi:=Oz.trans (.of_kept N3);have Oj:=dF.dr ON N3 Ow;have OS:w.heap.size<=w3.heap.size:=N3.size;have hnb1:w.heap.size<=nb:=O1;have Ob:nb<w3.heap.size:=de.lt Od;have Ok:¬Z nb:=fun q=>by have:=(Of nb q).2;omega
     have b3:Below B w.drew w3:=⟨N3.os,N3.tape,N3.output,N3.size,fun i hi=>N3.block i (aC hi OJ) (by simp;omega)⟩
     have Oc:dn w3 nb (b.extract 0 y.2) y.1 ((deep:Int)+1):=by rw[<-v4];exact Od)
   |(
     go_at_call 89
     refine(OM.out k' rfl w4 C y nb p (b0.trans b4) v0 v1 v2 Ol Ou (fun x q=>⟨OA x (hH.1 x q),O5 x q⟩) (by omega) Om).mono ?_;intro en w5 O3
     rcases O3.part with⟨x,hP,rfl,Z5,Oe⟩|⟨sm,hP,rfl,Z5,Oe,O4⟩
     ·unfold da;go_wp2;rw[Oa.out y,hP];exact⟨rfl,rfl,_,lT Oi (by omega) N2 hH.1 Oe⟩
     have b5:Below B w.drew w5:=b4.trans (Oe.below (by have:=N2.size;omega) (fun x q=>OA x (hH.1 x q)) (by omega));have OT:Hid (dQ S b F sub m0 y.1 y.2 (deep+1)= .ok sm):=hP
     clear hP)
   |(
     refine(HP.out k' rfl w3 Oj OS).mono ?_;rintro en w4 ⟨p,Z4,C,rfl,N2,Ou,hH,O5⟩;have OA:∀x,Z4 x->B<=x:=fun x q=>(N2.grow x q).elim (fun e=>(Of x e).1) (fun e=>by omega)
     have Ol:dn w4 nb (b.extract 0 y.2) y.1 ((deep:Int)+1):=de.step Oc N2 Ok;have b4:Below B w.drew w4:=b3.trans ⟨N2.os,N2.tape,N2.output,N2.size,fun i hi=>N2.block i (by omega) (fun q=>by have:=(Of i q).1;omega)⟩
     have Om:¬C nb:=fun q=>N2.not Ob Ok (hH.1 nb q)))
 all_goals
  go_wp2;go_end0;rw[Oa.out y,OT.out];exact⟨rfl,_,lT Oi (by omega) N2 hH.1 Oe,tG Oi OL Ow Ob Ok O2 Ov N2 hH Oe O4⟩
theorem Af {w:an}{Q:ap}{mp pm:am->Option Nat}{k t:am}{p:Nat}(h:oX w Q mp (yj w Q mp pm) (G3 mp pm) [jj lH k 1,jj oz t 2] p):fZ w Q mp pm [jj lH k 1,jj oz t 2] p:=
 oX.move (.keep fun _ _ _=>rfl) (fun g hg v hv=>by
  simp only[aL,bG,or_false]at hg;unfold jE
  rcases hg with rfl|rfl
  ·rw[if_neg (by simp[jj])];exact hv
  ·rw[if_neg (by simp[jj])];exact hv) (fun g hg v hv=>by
  simp only[aL,bG,or_false]at hg
  rcases hg with rfl|rfl
  ·exact(gz.lk (by simp[jj])).2 hv
  ·exact(gz.lk (by simp[jj])).2 hv) h
theorem LZ (w:an)(B:Nat)(S:dG)(mp pm:am->Option Nat)(k:Nat)(d:MT)(f:ek)(g:GF)(Z:ap)(rb db:Nat)(b:am)(e a z deep F:Nat)(kind:Int)(m:PM)(v:Value)
  (I:lR w B S mp k d Z rb db b e a z deep m) (hpc:kI w (fun b=>b<B) S mp pm) (hv:Jb w (fun b=>b<B) mp (oX w (fun b=>b<B) mp (yj w (fun b=>b<B) mp pm) (G3 mp pm) [jj lH g.f.key 1,jj oz g.f.ty 2]) g v) (fg:FG S mp d f g) (hff:dv d.fs f.num=some f) (hS:za S) (h4:g.form=4) (hkd:k+deep=8) (hgd:jB S d) (hRd:Gc S mp pm B b F) (hF:e-z<=F):
  jO v [aa kind,ag rb,ag db] w (fK S k d w Z rb db (b.extract 0 e) deep (rS S b F (dW f) PM.none deep (uW f m) (kx (b.extract 0 e) z deep (iA mp g)))):=by
 obtain⟨ib,lb,ub,sb,Ok,rfl,h1,h2,h3,h5,Oj,q1,q2,q3,q4⟩:=hv;refine⟨418,[_,_,_,_],rfl,enters_of Tryz.func418 (by kernel_rfl) rfl,?_⟩;show Calls Tryz.prog 418 #[aa kind,ag rb,ag db,ag ib,ag lb,ag ub,ag sb] w _;have Oj:=Af Oj;have hm:f.isMap=true:=by rw[fg.map,h4];rfl
 have N2:ed S f=some (dW f):=by unfold ed;rw[if_pos hm]
 obtain⟨Ox,ON,OO,O1⟩:=oj (deep:=deep) fg hS N2 (by omega);obtain⟨O2,kq2,O3,O4⟩:=fg.key h4;have OB:mJ S f= .ents f.key:=by unfold mJ;rw[if_pos hm]
 have ok1:lM S (some d) f.num (.ents f.key):=fun d' f' e1 e2=>by cases e1;rw[hff]at e2;cases e2;exact OB.symm
 have ok2:∀kd,lM S (some d) f.num kd->kd= .ents f.key:=fun kd q=>by rw[q d f rfl hff,OB]
 rw[fg.eq]at h3 h5 Oj;rw[O2,O4]at h5;have OP:(b.extract 0 e).size=e:=eG I.eb;have hab:=I.az;have hze:=I.ze;have OQ:=I.eb;have OR:=I.bs;have OC:=I.rB;have OD:=I.rZ;have Ob:=I.hZ;have Ol:=I.cx.le;have OS:rb<w.heap.size:=de.lt I.hr;have Om:=fun w1 (h:dn w1 rb (b.extract 0 e) z deep)=>lL w1 rb (b.extract 0 e) z deep (iA mp g) h (by omega) (by omega) (by omega) ON OO
 obtain⟨N3,N7⟩:∃N3,iA mp g=N3:=⟨_,rfl⟩;rw[N7]at h2 Om⊢
 have OE:Hid (∀y:Nat×Nat,kx (b.extract 0 e) z deep N3= .ok y->z<y.1/\y.1<=y.2/\y.2<=e/\1<=k/\(b.extract 0 e).extract 0 y.2=b.extract 0 y.2):=fun y hy=>by
  obtain⟨q1,q2⟩:=qb hy;obtain⟨v0,v1,v2⟩:=gq (z:=y.1) (e:=y.2) q1;rw[OP]at v2
  have hlv:1<=N3:=by
   rw[<-N7];unfold iA;rw[O1]
   split<;>simp
  exact⟨v0,v1,v2,by omega,iE OQ v2⟩
 clear N7 ON OO Ox;obtain⟨R,hR⟩:∃R,kx (b.extract 0 e) z deep N3=R:=⟨_,rfl⟩;rw[hR]at Om OE⊢;clear hR;have hlen:=I.wm.len
 have OT:Hid (∀k',k=k'+1->∀(w4:an) (C:ap) (y:Nat×Nat) (nb p:Nat),Below B w w4->z<y.1->y.1<=y.2->y.2<=e->dn w4 nb (b.extract 0 y.2) y.1 ((deep:Int)+1)->dB S k (some (dW f)) w4 C p PM.none->(∀x,C x->B<=x/\x<w4.heap.size)->B<=nb->¬C nb->
   Calls Tryz.prog 89 #[ag Ok,ag nb,ag p] w4 (fK S k' (dW f) w4 C nb p (b.extract 0 y.2) (deep+1) (lQ y.2 (dQ S b F (dW f) PM.none y.1 y.2 (deep+1))))):=by
  rintro k' rfl w4 C y nb p Oy v0 v1 v2 O5 O6 hC O7 O8;exact hRd w4 C (dW f) _ y.1 y.2 (deep+1) k' Ok _ nb p (I.cx.on Oy) (hpc.keep (fun x q _=>Oy.block x q)) (Oj.keep (fun x q _=>Oy.block x q) (fun _ _ q=>q)) (xB fg h4) (hS.good.sub N2) (by rw[cL];exact O5) O6 hC O7 O8 v1 (by omega) (by omega) (by omega) (WM.none _ _ _)
 have Oo:Hid (∀k',k=k'+1->∀(w6:an) (Z6 E:ap) (eb:Nat) (y:Nat×Nat) (sm:PM),z<y.1->y.1<=y.2->y.2<=e->dQ S b F (dW f) PM.none y.1 y.2 (deep+1)= .ok sm->dB S (k+1) (some d) w6 Z6 db m->dB S k (some (dW f)) w6 E eb sm->(∀x,E x->¬Z6 x)->(∀x,Z6 x->x<w6.heap.size)->(∀x,E x->x<w6.heap.size)->
   Calls Tryz.prog 187 #[ag db,aa f.num,.bool (dX kY f.key),ag eb] w6 fun en w'=>en= .returned (.tuple #[])/\∃Z',d9 w6 (fun b=>Z6 b\/E b) w' Z'/\dB S (k+1) (some d) w' Z' db (uW f m sm)):=by
  rintro k' rfl w6 Z6 E eb y sm v0 v1 v2 Pa Ow Pb Oz Pc Pd;have OF:=iU hS.good OR F (dW f) PM.none y.1 y.2 (deep+1) sm Pa (hS.good.sub N2) v1 (by omega) (WM.none _ _ _);have OG:=xj (hgd f (eY hff).2 hm) OF;have hel:=OF.len.1;exact rx S k' (some d) w6 Z6 E db eb m sm f.num f.key _ Ow Pb.toKey O3 Oz Pc Pd ok1 ok2 rfl OG.ky (by obtain⟨r,hr⟩:=OG.key;show(gH sm).get 1≠ [];have:(mV (gH sm)).2.2.get 1=_:=hr;simp only[mV]at this;rw[this];simp) (by omega) (by have:=hlen.2.2 f.num;omega) (by omega)
 have hr0:=I.hr;have OU:=I.hd;obtain⟨B1,KE⟩:=di w #[ah,ah] 183;have OH:w.heap.size<(w.alloc (ak #[ah,ah] 183)).heap.size:=KE.lt;have Od:Hid (∀y:Nat×Nat,rS S b F (dW f) PM.none deep (uW f m) (.ok y)=Dm (uW f m) y.2 (dQ S b F (dW f) PM.none y.1 y.2 (deep+1))):=fun _=>rfl
 clear I;go_enter Tryz.func418,Tryz.ntmps418
 go_upto_region 1 with fail
 obtain⟨wa,OA⟩:∃wa,w.alloc (ak #[ah,ah] 183)=wa:=⟨_,rfl⟩;rw[OA]at KE B1 OH;simp only[OA];clear OA;obtain⟨eb,Og⟩:∃eb,w.heap.size=eb:=⟨_,rfl⟩;have b1:Below B w wa.drew:=(B1.mono Ol).drew;have Oq:dn wa.drew rb (b.extract 0 e) z deep:=de.below hr0 B1.drew OS;have Ot:dB S (k+1) (some d) wa.drew Z db m:=OU.keep (fun x _ q=>B1.block x q);have Oe:dF w Z rb wa.drew Z:= .of_below B1.drew;have HC:Hid (∀W:an,Below B w W->W.cell? (ai ib 0)=some (ag Ok)/\W.cell? (ai lb 0)=some (aa N3)):=fun W hW=>⟨(h1.below hW q1).cell 0,(h2.below hW q2).cell 0⟩
 have OI:de wa.drew w.heap.size #[ah,ah] 183:=KE;rw[Og]at OI OH;simp only[Og]
 go_region_held2 (fun W=>W.cell? (ai ib 0)=some (ag Ok)/\W.cell? (ai lb 0)=some (aa N3))
  (first|exact HC.out _ b5|exact HC.out _ b3|exact HC.out _ b1)
  (first
   |(
     go_at_call 185
     refine(Om wa.drew Oq).mono ?_;intro en w3 hq
     rcases hq.part with⟨x,rfl,rfl,Oc⟩|⟨y,nb,rfl,rfl,Oc,Pe,Pf,Oh,Oi⟩
     ·unfold da;go_wp2;exact⟨rfl,rfl,Z,Oe.trans (.of_kept Oc)⟩
     obtain⟨v0,v1,v2,v3,v4⟩:=OE.out y rfl;obtain⟨k',rfl⟩:∃k',k=k'+1:=⟨k-1,by omega⟩;have Ou:=Oe.trans (.of_kept Oc);have OV:=dF.dr Ot Oc OD;have hw3:wa.heap.size<=w3.heap.size:=Oc.size;have hnb1:wa.heap.size<=nb:=Pe;have hnl3:nb<w3.heap.size:=de.lt Oh;have OW:¬Z nb:=fun q=>by have:=(Ob nb q).2;omega
     have OX:=OI.kept Oc (by simp;omega);have OY:dB S (k'+1) (some (dW f)) w3 (fun x=>x=eb) eb PM.none:=dB.fresh OX;have b3:Below B w w3:=Ou.below Ol (fun x q=>(Ob x q).1) OC
     have Of:dn w3 nb (b.extract 0 y.2) y.1 ((deep:Int)+1):=by rw[<-v4];exact Oh)
   |(
     go_at_call 89
     refine(OT.out k' rfl w3 (fun x=>x=eb) y nb eb b3 v0 v1 v2 Of OY (fun x q=>by subst q;exact⟨by omega,by omega⟩) (by omega) (by omega)).mono ?_;intro en w5 Pg
     rcases Pg.part with⟨x,hP,rfl,Z5,N8⟩|⟨sm,hP,rfl,Z5,N8,Ph⟩
     ·unfold da;go_wp2;rw[Od.out y,hP];exact⟨rfl,rfl,_,qd Ou (by omega) (by omega) N8⟩
     have OJ:=qd Ou (by omega) (by omega) N8;have b5:Below B w w5:=OJ.below Ol (fun x q=>(Ob x q).1) OC;have OL:Hid (dQ S b F (dW f) PM.none y.1 y.2 (deep+1)= .ok sm):=hP
     clear hP))
 have OM:∀x,Z5 x->x=eb\/w3.heap.size<=x:=N8.grow;have Ov:=Ph.clip;have Ow:dB S (k'+1+1) (some d) w5 Z db m:=OV.keep fun x q hl=>N8.block x hl (fun e=>by have:=(Ob x q).2;omega) (fun e=>OW (e▸q))
 have OZ:dn w5 rb (b.extract 0 e) y.2 deep:=(N8.block rb (de.lt Oi) (by omega) (fun e=>Pf e.symm)).trans Oi;have hw5:w3.heap.size<=w5.heap.size:=N8.size;obtain⟨k1,k2⟩:=(h3.below b5 q3).rules;obtain⟨k3,k4⟩:=(h5.below b5 q4).rules;go_wp2_with fail
 refine(Oo.out k' rfl w5 Z (fun x=>Z5 x/\x<w5.heap.size) eb y sm v0 v1 v2 OL.out Ow Ov (fun x q1 q2=>by have:=(Ob x q2).2;have:=OM x q1.1;omega) (fun x q=>by have:=(Ob x q).2;omega) (fun x q=>q.2)).mono ?_;rintro en w9 ⟨rfl,Z9,Oa,Pi⟩;go_wp2;go_end0;rw[Od.out y,OL.out];refine⟨rfl,Z9,OJ.trans ⟨Oa.os,Oa.tape,Oa.output,Oa.size,fun i hi q _=>Oa.block i hi (fun e=>q (e.imp id (fun e=>e.1))),fun i q=>(Oa.grow i q).imp (fun e=>e.imp id (fun e=>e.1)) id⟩,Pi,?_⟩;exact de.step OZ Oa (fun q=>q.elim OD (fun q=>(OM rb q.1).elim (fun e=>by omega) (fun e=>by omega)))
theorem Ah {S:dG}{mp:am->Option Nat}{b:am}{F deep a z e:Nat}{num:Int}{d:MT}{f:ek}{g:GF}{m:PM}(fg:FG S mp d f g)(hf:g.form=2)(hb:S.base f.ty<=15)(he:e<=b.size):
  ip S b F d f m deep (eh (b.extract 0 e) a num (dL (S.base f.ty)) z)=Fl m f.num (eO (b.extract 0 e) z (S.base f.ty)):=by
 rw[Cl fg hf hb he]
 all_goals (cases eO (b.extract 0 e) z (S.base f.ty)<;>rfl)
theorem DR {S:dG}{mp:am->Option Nat}{b:am}{F deep a z e:Nat}{num:Int}{d:MT}{f:ek}{g:GF}{m:PM}(fg:FG S mp d f g)(hf:g.form=2)(hw:dL (S.base f.ty)≠2):
  ip S b F d f m deep (eh (b.extract 0 e) a num 2 z)=nD (S.base f.ty) b f.num m (dS (b.extract 0 e) z):=by
 rw[zi fg hf hw]
 cases dS (b.extract 0 e) z with
 |error x=>rfl
 |ok y=>simp only[nD];cases e7 b (S.base f.ty) y.2 (y.2-y.1) (m.get f.num) y.1<;>rfl
theorem Jd (w:an)(B:Nat)(S:dG)(mp pm:am->Option Nat)(k:Nat)(d:MT)(f:ek)(g:GF)(Z:ap)(rb db:Nat)(b:am)(e a z deep F kn:Nat)(num:Int)(m:PM)(v:Value)
  (I:lR w B S mp k d Z rb db b e a z deep (m.without g.riv)) (hwm:WM S a d m) (hpc:kI w (fun b=>b<B) S mp pm) (hv:jE w (fun b=>b<B) mp pm g v) (fg:FG S mp d f g) (hff:dv d.fs f.num=some f) (hS:za S) (hkd:k+deep=8) (hgd:jB S d) (hRd:Gc S mp pm B b F) (hF:e-z<=F) (hfit:jd mp g kn=true):
  jO v [aa kn,ag rb,ag db] w (fK S k d w Z rb db (b.extract 0 e) deep (ip S b F d f m deep (eh (b.extract 0 e) a num kn z))):=by
 have hq:=(lU fg).1 hfit;have hle:=xC S f.ty;unfold jE at hv
 by_cases h4:g.form=4
 ·rw[if_pos h4]at hv;have hm:f.isMap=true:=by rw[fg.map,h4];rfl
  obtain rfl:kn=2:=by
   rcases hq with h|⟨h,_⟩
   ·rw[h];unfold eZ;rw[if_pos hm]
   ·exact h
  rw[fg.lone (by omega),gJ]at I;have e2:=Cq (b:=b) (F:=F) (deep:=deep) (a:=a) (z:=z) (e:=e) (num:=num) (m:=m) fg hS h4 (by omega);rw[show((2:Nat):Int)=2 from rfl,e2];exact LZ w B S mp pm k d f g Z rb db b e a z deep F _ m v I hpc hv fg hff hS h4 hkd hgd hRd hF
 ·rw[if_neg h4]at hv;unfold yj at hv;rw[fg.eq,fg.base]at hv;have hm:f.isMap=false:=by rw[fg.map];simp[h4]
  have Oa:eZ S f=dL (S.base f.ty):=by unfold eZ dG.wire;rw[hm];rfl
  have Of:dC mp g=S.base f.ty:=by unfold dC;rw[if_neg h4,fg.eq,fg.base]
  by_cases hb:S.base f.ty=16
  ·rw[if_pos hb]at hv
   obtain rfl:kn=2:=by
    rcases hq with h|⟨h,_⟩
    ·rw[h,Oa,hb];rfl
    ·exact h
   have:=fg.nest.1 hb;obtain⟨sub,Od⟩:=Option.isSome_iff_exists.1 this;have hM:xz S d f sub:=⟨by unfold ed;rw[hm];exact Od,hm⟩;have e2:=xA (b:=b) (F:=F) (deep:=deep) (z:=z) (e:=e) (num:=num) fg hS hM (by omega) hff hwm
   have e3:(if g.form=2 then PM.none else((m.get f.num).headD PV.none).2.2)=iY g.form (m.without g.riv) f.num:=by
    unfold iY;rw[ry (by rw[fg.riv];exact Ch d f)]
   have e4:pu g m f.num=lC g.form (m.without g.riv) f.num:=funext fun sm=>by
    unfold pu lC
    by_cases h2:g.form=2
    ·rw[if_pos h2,if_pos h2,fg.lone (by omega),gJ]
    ·rw[if_neg h2,if_neg h2]
   rw[e3,e4]at e2;rw[show((2:Nat):Int)=2 from rfl,e2];exact LY w B S mp pm k d f g Z rb db b e a z deep F _ _ sub v I hpc hv fg hff hS hM hkd hRd hF
  ·rw[if_neg hb]at hv;have N2:S.base f.ty<=15:=by omega
   by_cases h2:g.form=2
   ·have hr:=fg.lone (by omega);rw[hr,gJ]at I
    by_cases hn:gF (S.base f.ty)=true
    ·rw[if_pos (by unfold fG;rw[Of,h2];simpa using hn)]at hv;have Ob:=(qJ N2).1 hn
     rcases hq with h|⟨h,_⟩
     ·rw[Oa]at h;subst h;rw[Ah fg h2 N2 I.eb];exact Kk w B S mp k d f g Z rb db b e a z deep m v I hv fg h2 N2 hff
     ·subst h;rw[show((2:Nat):Int)=2 from rfl,DR fg h2 Ob];exact Km w B S mp k d f g Z rb db b e a z deep m v I hv fg h2 N2 Ob hff
    ·rw[if_neg (by unfold fG;rw[Of];simp[hn])]at hv
     have Ob:dL (S.base f.ty)=2:=by
      by_cases q:dL (S.base f.ty)=2
      ·exact q
      ·exact absurd ((qJ N2).2 q) hn
     obtain rfl:kn=dL (S.base f.ty):=by
      rcases hq with h|⟨h,_⟩
      ·rw[h,Oa]
      ·omega
     rw[Ah fg h2 N2 I.eb,<-Gl h2];exact Jc w B S mp k d f g Z rb db b e a z deep _ m v I hv fg h4 N2 hff
   ·rw[if_neg (by unfold fG;simp[h2])]at hv;have Oh:f.isRep=false:=by rw[fg.rep];simp[h2]
    obtain rfl:kn=dL (S.base f.ty):=by
     rcases hq with h|⟨_,h⟩
     ·rw[h,Oa]
     ·rw[Oh]at h;cases h
    have e2:=Co (F:=F) (deep:=deep) (a:=a) (z:=z) (num:=num) (m:=m) fg h4 h2 N2 I.eb;rw[e2,<-Gk h2];exact Jc w B S mp k d f g Z rb db b e a z deep _ _ v I hv fg h4 N2 hff
theorem DT (w:an)(B:Nat)(S:dG)(mp pm:am->Option Nat)(k:Nat)(d:MT)(f:ek)(g:GF)(Z:ap)(rb db:Nat)(b:am)(e a z deep F kn:Nat)(num:Int)(m:PM)(v:Value)
  (I:lR w B S mp k d Z rb db b e a z deep m) (hpc:kI w (fun b=>b<B) S mp pm) (hv:sF w (fun b=>b<B) (jE w (fun b=>b<B) mp pm) g v) (fg:FG S mp d f g) (hff:dv d.fs f.num=some f) (hS:za S) (hkd:k+deep=8) (hgd:jB S d) (hRd:Gc S mp pm B b F) (hF:e-z<=F) (hfit:jd mp g kn=true):
  jO v [aa kn,ag rb,ag db] w (fK S k d w Z rb db (b.extract 0 e) deep (ip S b F d f m deep (eh (b.extract 0 e) a num kn z))):=by
 unfold sF at hv
 by_cases h0:g.riv= []
 ·rw[if_pos h0]at hv;have hw:m.without g.riv=m:=by rw[h0,gJ]
  exact Jd w B S mp pm k d f g Z rb db b e a z deep F kn num m v (by rw[hw];exact I) I.wm hpc hv fg hff hS hkd hgd hRd hF hfit
 ·rw[if_neg h0]at hv;obtain⟨vb,sb,rv,u,rfl,h1,N7,h2,q1,q2,hu⟩:=hv;refine⟨296,[_,_],rfl,enters_of Tryz.func296 rfl rfl,?_⟩;show Calls Tryz.prog 296 #[aa kn,ag rb,ag db,ag vb,ag sb] w _;have hD:=mA S k (some d) w Z db m rv g.riv I.hd N7.1 fg.rlen (fun x hx q=>by have:=N7.2 x hx;have:=(I.hZ x q).1;omega)
  obtain⟨uf,N3,rfl,eg,_⟩:∃uf N3,u= .func (.func uf) #[] (List.toArray N3)/\(∀args w,(callFunc uf args).run Tryz.prog w= .ok (.enter uf args) w)/\True:=by
   have I0:=hu;unfold jE at hu
   split at hu
   ·obtain⟨_,_,_,_,_,rfl,_⟩:=hu;exact⟨418,[_,_,_,_],rfl,enters_of Tryz.func418 rfl rfl,trivial⟩
   ·unfold yj at hu
    split at hu
    ·obtain⟨_,_,_,_,_,rfl,_⟩:=hu;exact⟨419,[_,_,_,_],rfl,enters_of Tryz.func419 rfl rfl,trivial⟩
    ·split at hu
     ·obtain⟨_,_,_,_,rfl,_⟩:=hu;exact⟨421,[_,_,_],rfl,enters_of Tryz.func421 rfl rfl,trivial⟩
     ·obtain⟨_,_,_,_,rfl,_⟩:=hu;exact⟨422,[_,_,_],rfl,enters_of Tryz.func422 rfl rfl,trivial⟩
  have HR:Hid (∀w1 Z1,d9 w Z w1 Z1->dB S (k+1) (some d) w1 Z1 db (m.without g.riv)->Calls Tryz.prog uf (([aa kn,ag rb,ag db]:aq)++N3).toArray w1 (fK S k d w Z rb db (b.extract 0 e) deep (ip S b F d f m deep (eh (b.extract 0 e) a num kn z)))):=fun w1 Z1 st Oe=>by
   have Oc:dF w Z rb w1 Z1:= .of_step st;have Og:=Oc.below I.cx.le (fun x q=>(I.hZ x q).1) I.rB;have I1:=I.on Oc Oe (de.step I.hr st I.rZ) (by have:=I.wm.without f;rw[<-fg.riv]at this;exact this);obtain⟨Oj,N8,e1,_,hc⟩:=Jd w1 B S mp pm k d f g _ rb db b e a z deep F kn num m _ I1 I.wm (hpc.keep (fun x q _=>Og.block x q)) (jE.keep (fun x q _=>Og.block x q) (fun _ _ q=>q) hu) fg hff hS hkd hgd hRd hF hfit
   obtain⟨rfl,rfl⟩:uf=Oj/\N3=N8:=by
    injection e1 with e1 _ e3
    injection e1 with e1
    exact⟨e1,by simpa using e3⟩
   exact hc.mono fun _ _ q=>q.pre Oc.clip
  obtain⟨R,hR⟩:∃R,ip S b F d f m deep (eh (b.extract 0 e) a num kn z)=R:=⟨_,rfl⟩;rw[hR]at HR⊢;obtain⟨ra,rn,rc,rfl⟩:=df N7.1;obtain⟨k1,k2⟩:=h1.rules;have hZ:=I.hZ;go_enter Tryz.func296,Tryz.ntmps296
  go_wp2_with fail
  refine hD.mono ?_;rintro en w1 ⟨rfl,Z1,st1,Oe⟩;have Oi:=h2.step st1 (fun q=>by have:=(hZ sb q).1;omega);obtain⟨k1,k2⟩:=Oi.rules;have hc:=HR.out w1 Z1 st1 Oe;go_wp2_with fail
  refine hc.mono ?_;intro en w2 hq
  cases R with
  |error x=>
   obtain⟨rfl,hq⟩:=hq;unfold da;go_wp2;exact⟨rfl,rfl,hq⟩
  |ok x=>
   obtain⟨rfl,hq⟩:=hq;go_wp2;go_end0;exact⟨rfl,hq⟩
def CJ (kind kd:Int)(pk:Bool):Bool:=decide (kind=kd)||(decide (kind=2)&&pk)
theorem Gm (w:an)(g i:Nat)(kind kd:Int)(pk:Bool)(h1:w.cell? (ai g (i+1))=some (aa kd))(h2:w.cell? (ai g (i+2))=some (.bool pk)):
  Calls Tryz.prog 142 #[.pointer (some (ai g i)),aa kind] w fun e w'=>e= .returned (.bool (CJ kind kd pk))/\aj w w':=by
 unfold CJ
 by_cases e1:kind=kd
 ·have b1:(kind==kd)=true:=by simp[e1]
  simp only[e1,decide_true,cp];rw[e1]at b1;subst e1;go_enter Tryz.func142,Tryz.ntmps142
  go_wp2;go_ret;exact⟨rfl,Below.refl _ _⟩
 ·have b1:(kind==kd)=false:=by simp[e1]
  simp only[e1,decide_false,cz]
  by_cases e2:kind=2
  ·have b2:(kind==2)=true:=by simp[e2]
   simp only[e2,decide_true,cu];subst e2;go_enter Tryz.func142,Tryz.ntmps142
   go_wp2;go_ret;exact⟨rfl,Below.refl _ _⟩
  ·have b2:(kind==2)=false:=by simp[e2]
   simp only[e2,decide_false,cl];go_enter Tryz.func142,Tryz.ntmps142
   go_wp2;go_ret;exact⟨rfl,Below.refl _ _⟩
end
end Go.Proofs.YtfebdimolnobaaaGreatDoor
