import Derived.Test.YtfebdimolnobaaaGreatDoorDfJ
import Derived.Deep.RegionHeld2
set_option maxRecDepth 100000
set_option maxHeartbeats 8000000
set_option linter.all false
namespace Go.Proofs.YtfebdimolnobaaaGreatDoor
open Go.RowKit
section
attribute [local go_sem↓] Go.wp_at_zero Go.wp_at_succ
structure xz (S:dG)(d:MT)(f:ek)(sub:MT):Prop where
 hs:ed S f=some sub
 hm:f.isMap=false
theorem xz.kind {S:dG}{d:MT}{f:ek}{sub:MT}(h:xz S d f sub)(hf:dv d.fs f.num=some f):lM S (some d) f.num .msgs/\(∀kd,lM S (some d) f.num kd->kd= .msgs)/\lw S (some d) f.num=some sub:=by
 have hk:mJ S f= .msgs:=by unfold mJ;rw[h.hm,h.hs];rfl
 exact⟨fun d' f' e1 e2=>by cases e1;rw[hf]at e2;cases e2;exact hk.symm,fun kd q=>by rw[q d f rfl hf,hk],by unfold lw;simp[hf,h.hs]⟩
def pu (g:GF)(m:PM)(n:Int)(sm:PM):PM:=if g.form=2 then m.put n (m.get n++ [mV sm])else(m.without g.riv).put n [mV sm]
theorem xA {S:dG}{mp:am->Option Nat}{b:am}{F deep a z e:Nat}{num:Int}{d:MT}{f:ek}{g:GF}{sub:MT}{m:PM}(fg:FG S mp d f g)(hS:za S)(h:xz S d f sub)(hd:deep<=8)(hf:dv d.fs f.num=some f)(hw:WM S a d m):
  ip S b F d f m deep (eh (b.extract 0 e) a num 2 z)=rS S b F sub (if g.form=2 then PM.none else((m.get f.num).headD PV.none).2.2) deep (pu g m f.num) (kx (b.extract 0 e) z deep (iA mp g)):=by
 rw[Cp fg hS h.hs hd];obtain⟨⟨t1,t2⟩,_⟩:=j0 hw hf h.hs
 have hM:(fun sm=>iw S d f m ((eA f m).1,(eA f m).2.1,sm))=pu g m f.num:=funext fun sm=>by
  rw[t1,t2];unfold iw pu;rw[h.hm,fg.rep,h.hs];simp only[aK,if_false,decide_eq_true_eq,Option.isNone_some,cg,cl];rw[tA,fg.riv];rfl
 rw[hM]
 have Pn:(eA f m).2.2=if g.form=2 then PM.none else((m.get f.num).headD PV.none).2.2:=by
  unfold eA;rw[h.hm,fg.rep]
  by_cases q:g.form=2
  ·simp only[q,decide_true,cp,if_true];rfl
  ·simp[q]
 rw[Pn]
theorem fK.part {S:dG}{k:Nat}{d:MT}{w:an}{Z:ap}{rb db:Nat}{s:am}{deep e:Nat}{P:Fx PM}{en:Ending}{w':an}(h:fK S k d w Z rb db s deep (lQ e P) en w'):
  (∃x,P= .error x/\en=da x.1 x.2/\∃Z',dF w Z rb w' Z')\/∃sm,P= .ok sm/\en= .returned (.tuple #[])/\∃Z',dF w Z rb w' Z'/\dB S (k+1) (some d) w' Z' db sm:=by
 cases P with
 |error x=>exact .inl ⟨x,rfl,h.1,h.2⟩
 |ok sm=>
  obtain⟨h1,Z',h2,h3,_⟩:=h;exact .inr ⟨sm,rfl,h1,Z',h2,h3⟩
section
variable {S:dG} {k:Nat} {T T':Option MT} {w w3 w4 w5:an} {Z Z3 Z4 Z5 C:ap} {rb nb db p y deep:Nat} {s:am} {M:PM->PM} {sm:PM}
theorem lT (N3:dF w Z rb w3 Z3)(hn:w.heap.size<=nb)(N2:d9 w3 Z3 w4 Z4)(hC:∀b,C b->Z4 b)(N8:dF w4 C nb w5 Z5):dF w Z rb w5 (fun b=>Z4 b\/Z5 b):=by
 have Pi:∀i,Z4 i->Z i\/w.heap.size<=i:=fun i q=>(N2.grow i q).elim (N3.grow i) (fun e=> .inr (aG N3.size e))
 refine⟨N8.os.trans (N2.os.trans N3.os),N8.tape.trans (N2.tape.trans N3.tape),N8.output.trans (N2.output.trans N3.output),aG N3.size (aG N2.size N8.size),fun i hi q1 q2=> ?_,fun i q=> ?_⟩
 ·have h3:i<w3.heap.size:=aC hi N3.size;have n3:=N3.not hi q1;have n4:=N2.not h3 n3;exact((N8.block i (aC h3 N2.size) (fun e=>n4 (hC i e)) (by omega)).trans (N2.block i h3 n3)).trans (N3.block i hi q1 q2)
 ·rcases q with q|q
  ·exact Pi i q
  ·exact(N8.grow i q).elim (fun e=>Pi i (hC i e)) (fun e=> .inr (aG (aG N3.size N2.size) e))
theorem tG (N3:dF w Z rb w3 Z3)(Ou:rb<w.heap.size)(hrZ:¬Z rb)(hn3:nb<w3.heap.size)(Oo:¬Z3 nb)(OT:nb≠rb)(hrr:dn w3 rb s y deep)(N2:d9 w3 Z3 w4 Z4)(hH:Hz S k T w4 Z4 db p C T' M)(N8:dF w4 C nb w5 Z5)(OU:dB S k T' w5 Z5 p sm):
  dB S (k+1) T w5 (fun b=>Z4 b\/Z5 b) db (M sm)/\dn w5 rb s y deep:=by
 have Po:¬Z4 nb:=N2.not hn3 Oo;have Pj:¬Z3 rb:=N3.not Ou hrZ;have h3:rb<w3.heap.size:=aC Ou N3.size;have Pp:¬Z4 rb:=N2.not h3 Pj;refine⟨hH.2 w5 Z5 sm (fun b hz hc hl=>N8.block b hl hc (fun e=>Po (e▸hz))) N8.size N8.grow OU,?_⟩;exact((N8.block rb (aC h3 N2.size) (fun e=>Pp (hH.1 rb e)) (fun e=>OT e.symm)).trans (N2.block rb h3 Pj)).trans hrr
end
theorem Fr (w:an)(B:Nat)(S:dG)(mp:am->Option Nat)(k:Nat)(d:MT)(f:ek)(g:GF)(fb:Nat)(Z:ap)(rb db:Nat)(b:am)(e a z deep F:Nat)(num:Int)(m:PM)(sub:MT)
  (I:lR w B S mp k d Z rb db b e a z deep m) (hfa:dP w (fun b=>b<B) mp g fb) (fg:FG S mp d f g) (hff:dv d.fs f.num=some f) (hS:za S) (hM:xz S d f sub) (h2:g.form≠2) (hkd:k+deep=8) (hRd:Fo S mp B b F) (hF:e-z<=F):
  Calls Tryz.prog 133 #[ag fb,aa 2,ag rb,ag db] w (fK S k d w Z rb db (b.extract 0 e) deep (ip S b F d f m deep (eh (b.extract 0 e) a num 2 z))):=by
 have h4:g.form≠4:=fun q=>by have:=hM.hm;rw[fg.map,q]at this;cases this
 obtain⟨OE,OP,OQ,OR⟩:=oj (deep:=deep) fg hS hM.hs (by omega);rw[xA fg hS hM (by omega) hff I.wm,if_neg h2];obtain⟨ok1,ok2,O6⟩:=hM.kind hff;obtain⟨pv,rv,h1,Py,Oa,OF⟩:=hfa.blk;rw[if_neg h4,fg.eq]at OF;have Ov:S.msg f.ty=some sub:=by have:=hM.hs;unfold ed at this;rw[hM.hm]at this;exact this
 obtain⟨Og,gs,O7,O8,Pa⟩:=I.cx.md f.ty sub Ov;rw[O7]at OF;subst OF;rw[OR,fg.eq]at h1;have hD:=mA S k (some d) w Z db m rv g.riv I.hd Oa.1 fg.rlen (fun x hx q=>by have:=Oa.2 x hx;have:=(I.hZ x q).1;omega);have OV:(b.extract 0 e).size=e:=eG I.eb;have Pq:=I.az;have Pr:=I.ze;have OW:=I.eb;have Ps:=I.bs;have OI:=I.rB;have Ow:=I.rZ;have Ol:=I.hZ;have Ox:=I.cx.le;have Ou:rb<w.heap.size:=de.lt I.hr;have Pt:=h1.lt;have hL:=fun w1 (h:dP w1 (fun b=>b<B) mp g fb)=>nl w1 (fun b=>b<B) mp g fb h
 have Oy:=fun w1 (h:dn w1 rb (b.extract 0 e) z deep)=>lL w1 rb (b.extract 0 e) z deep (iA mp g) h (by omega) (by omega) (by omega) OP OQ
 obtain⟨Oh,Ob⟩:∃Oh,iA mp g=Oh:=⟨_,rfl⟩;rw[Ob]at hL Oy⊢
 have OJ:Hid (∀y:Nat×Nat,kx (b.extract 0 e) z deep Oh= .ok y->z<y.1/\y.1<=y.2/\y.2<=e/\1<=k/\(b.extract 0 e).extract 0 y.2=b.extract 0 y.2):=fun y hy=>by
  obtain⟨q1,q2⟩:=qb hy;obtain⟨v0,v1,v2⟩:=gq (z:=y.1) (e:=y.2) q1;rw[OV]at v2
  have Pv:1<=Oh:=by
   rw[<-Ob];unfold iA;rw[if_neg (fun q=>h4 q.1),if_pos OR];exact cH _
  exact⟨v0,v1,v2,by omega,iE OW v2⟩
 clear Ob OP OQ OE;obtain⟨R,hR⟩:∃R,kx (b.extract 0 e) z deep Oh=R:=⟨_,rfl⟩;rw[hR]at Oy OJ⊢;clear hR;have OX:¬Z fb:=fun q=>by have:=(Ol fb q).1;omega
 have Pk:(m.without g.riv).get f.num=m.get f.num:=ry (by rw[fg.riv];exact Ch d f)
 have OL:WM S a sub ((m.get f.num).headD PV.none).2.2:=by
  have:=(j0 I.wm hff hM.hs).2;unfold eA at this;rw[hM.hm,fg.rep]at this;simpa [h2]using this
 have hlen:(m.without g.riv).fs.length<=a:=aG (bI _ _) I.wm.len.1;have OY:rm (some d) f.num:=⟨d,f,rfl,hff,by rw[fg.rep];simp[h2]⟩
 have HP:Hid (∀k',k=k'+1->∀(w3:an) (Z3:ap),dB S (k+1) (some d) w3 Z3 db (m.without g.riv)->(∀x,Z3 x->x<w3.heap.size)->Calls Tryz.prog 191 #[ag db,aa f.num] w3 (oT S k (some d) w3 Z3 db (some sub) ((m.get f.num).headD PV.none).2.2 (pu g m f.num))):=by
  rintro k' rfl w3 Z3 OB Pb;have:=tq S k' (some d) w3 Z3 db (m.without g.riv) f.num OB ok1 ok2 OY (by omega) Pb;rw[O6,Pk]at this;have OZ:pu g m f.num=fun m'=>(m.without g.riv).put f.num [mV m']:=funext fun sm=>by unfold pu;rw[if_neg h2]
  rw[OZ];exact this
 have OM:Hid (∀k',k=k'+1->∀(w4:an) (C:ap) (y:Nat×Nat) (nb p:Nat),Below B w w4->z<y.1->y.1<=y.2->y.2<=e->dn w4 nb (b.extract 0 y.2) y.1 ((deep:Int)+1)->dB S k (some sub) w4 C p ((m.get f.num).headD PV.none).2.2->(∀x,C x->B<=x/\x<w4.heap.size)->B<=nb->¬C nb->
   Calls Tryz.prog 83 #[ag Og,ag nb,ag p] w4 (fK S k' sub w4 C nb p (b.extract 0 y.2) (deep+1) (lQ y.2 (dQ S b F sub ((m.get f.num).headD PV.none).2.2 y.1 y.2 (deep+1))))):=by
  rintro k' rfl w4 C y nb p Ot v0 v1 v2 Pc OG hC Pd OD;exact hRd w4 C sub _ y.1 y.2 (deep+1) k' Og gs sub.name nb p (I.cx.on Ot) (O8.keep (fun x q _=>Ot.block x q)) Pa (hS.good.sub hM.hs) (by rw[cL];exact Pc) OG hC Pd OD v1 (by omega) (by omega) (by omega) (OL.mono (by omega))
 have O1:∀w1,Below B w w1->dP w1 (fun b=>b<B) mp g fb:=fun w1 Oz=>hfa.keep (fun x q _=>Oz.block x q)
 have hr0:=I.hr;obtain⟨m0,OS⟩:∃m0,((m.get f.num).headD PV.none).2.2=m0:=⟨_,rfl⟩;rw[OS]at HP OM⊢;clear OS OL Pk;obtain⟨m1,Pm⟩:∃m1,m.without g.riv=m1:=⟨_,rfl⟩;rw[Pm]at hD HP;clear Pm hlen;obtain⟨ra,rn,rc,rfl⟩:=df Oa.1;have hf4:(g.form==4)=false:=by simpa using h4
 have hf2:(g.form==2)=false:=by simpa using h2
 unfold ft at h1;obtain⟨k1,k2⟩:=h1.rules;go_enter Tryz.func133,Tryz.ntmps133
 go_wp2_with fail
 refine hD.mono ?_;rintro en w1 ⟨rfl,Pz,N7,Oi⟩;obtain⟨Z1,st1,Pe,Oj⟩:∃Z1,dF w Z rb w1.drew Z1/\dB S (k+1) (some d) w1.drew Z1 db m1/\∀x,Z1 x->B<=x/\x<w1.heap.size:=⟨_,.of_step N7.clip.drew,Oi.clip.keep (fun _ _ _=>rfl),fun x q=>⟨(N7.grow x q.1).elim (fun e=>(Ol x e).1) (fun e=>aG Ox e),q.2⟩⟩;have ON:=h1.step N7 OX;have O2:dn w1.drew rb (b.extract 0 e) z deep:=de.step hr0 N7.drew Ow;clear N7 Oi k1 k2 hD;have Om:de w1.drew fb #[aa f.num,aa g.form,aa 16,ag Og,.slice ra rn rc] 220:=ON;have Oz:Below B w w1.drew:=st1.below Ox (fun x q=>(Ol x q).1) OI;have OA:¬Z1 rb:=st1.not Ou Ow;obtain⟨k1,k2⟩:=ON.rules;obtain⟨k3,k4⟩:=Om.rules;have Od:Hid (∀y:Nat×Nat,rS S b F sub m0 deep (pu g m f.num) (.ok y)=Dm (pu g m f.num) y.2 (dQ S b F sub m0 y.1 y.2 (deep+1))):=fun _=>rfl
 go_upto_region 9 with fail
 go_region_held2 (fun w'=>w'.cell? (ai fb 0)=some (aa f.num)/\w'.cell? (ai fb 3)=some (ag Og))
  (first|exact⟨h5.cell 0,h5.cell 3⟩|exact⟨Oq.cell 0,Oq.cell 3⟩|exact⟨h3.cell 0,h3.cell 3⟩|exact⟨Om.cell 0,Om.cell 3⟩)
  (first
   |(
     go_at_call 186
     refine(hL w1.drew (O1 w1.drew Oz)).mono ?_
     rintro en w2 ⟨rfl,rfl⟩)
   |(
     go_at_call 185
     refine(Oy w1.drew O2).mono ?_;intro en w3 hq
     rcases hq.part with⟨x,rfl,rfl,Oc⟩|⟨y,nb,rfl,rfl,Oc,Pf,OT,Ok,OH⟩
     ·unfold da;go_wp2;exact⟨rfl,rfl,Z1,st1.trans (.of_kept Oc)⟩
     obtain⟨v0,v1,v2,v3,v4⟩:=OJ.out y rfl;obtain⟨k',rfl⟩:∃k',k=k'+1:=⟨k-1,by omega⟩;have h3:=Om.kept Oc (by simp;omega);have N3:=st1.trans (.of_kept Oc);have OB:=dF.dr Pe Oc OA;have Pw:w.heap.size<=w1.heap.size:=st1.size;have Px:w1.heap.size<=w3.heap.size:=Oc.size;have O3:w1.heap.size<=nb:=Pf;have Oe:nb<w3.heap.size:=de.lt Ok;have Oo:¬Z1 nb:=fun q=>by have:=(Oj nb q).2;omega
     have Of:dn w3 nb (b.extract 0 y.2) y.1 ((deep:Int)+1):=by rw[<-v4];exact Ok)
   |(
     go_at_call 191
     refine(HP.out k' rfl w3 Z1 OB (fun x q=>by have:=(Oj x q).2;omega)).mono ?_;rintro en w4 ⟨p,Z4,C,rfl,N2,OG,hH,Pg⟩;have OO:∀x,Z4 x->B<=x:=fun x q=>(N2.grow x q).elim (fun e=>(Oj x e).1) (fun e=>by omega)
     have Oq:=h3.step N2 (fun q=>by have:=(Oj fb q).1;omega);have OC:dn w4 nb (b.extract 0 y.2) y.1 ((deep:Int)+1):=de.step Of N2 Oo;have Ot:Below B w w4:=⟨N2.os.trans N3.os,N2.tape.trans N3.tape,N2.output.trans N3.output,aG N3.size N2.size,fun i hi=>(N2.block i (by omega) (fun q=>by have:=(Oj i q).1;omega)).trans ((N3.below Ox (fun x q=>(Ol x q).1) OI).block i hi)⟩
     have OD:¬C nb:=fun q=>N2.not Oe Oo (hH.1 nb q))
   |(
     go_at_call 83
     refine(OM.out k' rfl w4 C y nb p Ot v0 v1 v2 OC OG (fun x q=>⟨OO x (hH.1 x q),Pg x q⟩) (by omega) OD).mono ?_;intro en w5 Ph
     rcases Ph.part with⟨x,hP,rfl,Z5,N8⟩|⟨sm,hP,rfl,Z5,N8,OU⟩
     ·unfold da;go_wp2;rw[Od.out y,hP];exact⟨rfl,rfl,_,lT N3 (by omega) N2 hH.1 N8⟩
     have h5:de w5 fb #[aa f.num,aa g.form,aa 16,ag Og,.slice ra rn rc] 220:=(N8.block fb Oq.lt (fun q=>by have:=OO fb (hH.1 fb q);omega) (by omega)).trans Oq;have O4:Hid (dQ S b F sub m0 y.1 y.2 (deep+1)= .ok sm):=hP
     clear hP))
 all_goals
  go_wp2;go_end0;rw[Od.out y,O4.out];exact⟨rfl,_,lT N3 (by omega) N2 hH.1 N8,tG N3 Ou Ow Oe Oo OT OH N2 hH N8 OU⟩
theorem Dn (w:an)(B:Nat)(S:dG)(mp:am->Option Nat)(k:Nat)(d:MT)(f:ek)(g:GF)(fb:Nat)(Z:ap)(rb db:Nat)(b:am)(e a z deep F:Nat)(num:Int)(m:PM)(sub:MT)
  (I:lR w B S mp k d Z rb db b e a z deep m) (hfa:dP w (fun b=>b<B) mp g fb) (fg:FG S mp d f g) (hff:dv d.fs f.num=some f) (hS:za S) (hM:xz S d f sub) (h2:g.form=2) (hkd:k+deep=8) (hRd:Fo S mp B b F) (hF:e-z<=F):
  Calls Tryz.prog 133 #[ag fb,aa 2,ag rb,ag db] w (fK S k d w Z rb db (b.extract 0 e) deep (ip S b F d f m deep (eh (b.extract 0 e) a num 2 z))):=by
 have h4:g.form≠4:=fun q=>by have:=hM.hm;rw[fg.map,q]at this;cases this
 obtain⟨OE,OP,OQ,OR⟩:=oj (deep:=deep) fg hS hM.hs (by omega);rw[xA fg hS hM (by omega) hff I.wm,if_pos h2];obtain⟨ok1,ok2,O6⟩:=hM.kind hff;obtain⟨pv,rv,h1,Py,Oa,OF⟩:=hfa.blk;rw[if_neg h4,fg.eq]at OF;have Ov:S.msg f.ty=some sub:=by have:=hM.hs;unfold ed at this;rw[hM.hm]at this;exact this
 obtain⟨Og,gs,O7,O8,Pa⟩:=I.cx.md f.ty sub Ov;rw[O7]at OF;subst OF;rw[OR,fg.eq]at h1;have hD:=mA S k (some d) w Z db m rv g.riv I.hd Oa.1 fg.rlen (fun x hx q=>by have:=Oa.2 x hx;have:=(I.hZ x q).1;omega);have OV:(b.extract 0 e).size=e:=eG I.eb;have Pq:=I.az;have Pr:=I.ze;have OW:=I.eb;have Ps:=I.bs;have OI:=I.rB;have Ow:=I.rZ;have Ol:=I.hZ;have Ox:=I.cx.le;have Ou:rb<w.heap.size:=de.lt I.hr;have Pt:=h1.lt;have hL:=fun w1 (h:dP w1 (fun b=>b<B) mp g fb)=>nl w1 (fun b=>b<B) mp g fb h
 have Oy:=fun w1 (h:dn w1 rb (b.extract 0 e) z deep)=>lL w1 rb (b.extract 0 e) z deep (iA mp g) h (by omega) (by omega) (by omega) OP OQ
 obtain⟨Oh,Ob⟩:∃Oh,iA mp g=Oh:=⟨_,rfl⟩;rw[Ob]at hL Oy⊢
 have OJ:Hid (∀y:Nat×Nat,kx (b.extract 0 e) z deep Oh= .ok y->z<y.1/\y.1<=y.2/\y.2<=e/\1<=k/\(b.extract 0 e).extract 0 y.2=b.extract 0 y.2):=fun y hy=>by
  obtain⟨q1,q2⟩:=qb hy;obtain⟨v0,v1,v2⟩:=gq (z:=y.1) (e:=y.2) q1;rw[OV]at v2
  have Pv:1<=Oh:=by
   rw[<-Ob];unfold iA;rw[if_neg (fun q=>h4 q.1),if_pos OR];exact cH _
  exact⟨v0,v1,v2,by omega,iE OW v2⟩
 clear Ob OP OQ OE;obtain⟨R,hR⟩:∃R,kx (b.extract 0 e) z deep Oh=R:=⟨_,rfl⟩;rw[hR]at Oy OJ⊢;clear hR;have OX:¬Z fb:=fun q=>by have:=(Ol fb q).1;omega
 have O5:=fg.lone (by omega);rw[O5,gJ]at hD;have OL:WM S a sub PM.none:=WM.none S a sub;have hlen:=I.wm.len
 have HP:Hid (∀k',k=k'+1->∀(w3:an) (Z3:ap),dB S (k+1) (some d) w3 Z3 db m->(∀x,Z3 x->x<w3.heap.size)->Calls Tryz.prog 190 #[ag db,aa f.num] w3 (oT S k (some d) w3 Z3 db (some sub) PM.none (pu g m f.num))):=by
  rintro k' rfl w3 Z3 OB Pb;have:=lx S k' (some d) w3 Z3 db m f.num (OB.slot (by omega)) ok1 ok2 (fun⟨d',f',e1,e2,e3⟩=>by cases e1;rw[hff]at e2;cases e2;rw[fg.rep,h2]at e3;cases e3) (by have:=hlen.2.2 f.num;omega) (fun q=>by have:=Pb _ q;omega);rw[O6]at this;have OZ:pu g m f.num=fun m'=>m.put f.num (m.get f.num++ [mV m']):=funext fun sm=>by unfold pu;rw[if_pos h2]
  rw[OZ];exact this
 have OM:Hid (∀k',k=k'+1->∀(w4:an) (C:ap) (y:Nat×Nat) (nb p:Nat),Below B w w4->z<y.1->y.1<=y.2->y.2<=e->dn w4 nb (b.extract 0 y.2) y.1 ((deep:Int)+1)->dB S k (some sub) w4 C p PM.none->(∀x,C x->B<=x/\x<w4.heap.size)->B<=nb->¬C nb->
   Calls Tryz.prog 83 #[ag Og,ag nb,ag p] w4 (fK S k' sub w4 C nb p (b.extract 0 y.2) (deep+1) (lQ y.2 (dQ S b F sub PM.none y.1 y.2 (deep+1))))):=by
  rintro k' rfl w4 C y nb p Ot v0 v1 v2 Pc OG hC Pd OD;exact hRd w4 C sub _ y.1 y.2 (deep+1) k' Og gs sub.name nb p (I.cx.on Ot) (O8.keep (fun x q _=>Ot.block x q)) Pa (hS.good.sub hM.hs) (by rw[cL];exact Pc) OG hC Pd OD v1 (by omega) (by omega) (by omega) (OL.mono (by omega))
 have O1:∀w1,Below B w w1->dP w1 (fun b=>b<B) mp g fb:=fun w1 Oz=>hfa.keep (fun x q _=>Oz.block x q)
 have hr0:=I.hr;obtain⟨m0,OS⟩:∃m0,PM.none=m0:=⟨_,rfl⟩;rw[OS]at HP OM⊢;clear OS OL hlen;obtain⟨ra,rn,rc,rfl⟩:=df Oa.1;rw[h2]at h1;unfold ft at h1;obtain⟨k1,k2⟩:=h1.rules;go_enter Tryz.func133,Tryz.ntmps133
 go_wp2_with fail
 refine hD.mono ?_;rintro en w1 ⟨rfl,Pz,N7,Oi⟩;obtain⟨Z1,st1,Pe,Oj⟩:∃Z1,dF w Z rb w1.drew Z1/\dB S (k+1) (some d) w1.drew Z1 db m/\∀x,Z1 x->B<=x/\x<w1.heap.size:=⟨_,.of_step N7.clip.drew,Oi.clip.keep (fun _ _ _=>rfl),fun x q=>⟨(N7.grow x q.1).elim (fun e=>(Ol x e).1) (fun e=>aG Ox e),q.2⟩⟩;have ON:=h1.step N7 OX;have O2:dn w1.drew rb (b.extract 0 e) z deep:=de.step hr0 N7.drew Ow;clear N7 Oi k1 k2 hD;have Om:de w1.drew fb #[aa f.num,aa 2,aa 16,ag Og,.slice ra rn rc] 220:=ON;have Oz:Below B w w1.drew:=st1.below Ox (fun x q=>(Ol x q).1) OI;have OA:¬Z1 rb:=st1.not Ou Ow;obtain⟨k1,k2⟩:=ON.rules;obtain⟨k3,k4⟩:=Om.rules;have Od:Hid (∀y:Nat×Nat,rS S b F sub m0 deep (pu g m f.num) (.ok y)=Dm (pu g m f.num) y.2 (dQ S b F sub m0 y.1 y.2 (deep+1))):=fun _=>rfl
 go_upto_region 7 with fail
 go_region_held2 (fun w'=>w'.cell? (ai fb 0)=some (aa f.num)/\w'.cell? (ai fb 3)=some (ag Og))
  (first|exact⟨h5.cell 0,h5.cell 3⟩|exact⟨Oq.cell 0,Oq.cell 3⟩|exact⟨h3.cell 0,h3.cell 3⟩|exact⟨Om.cell 0,Om.cell 3⟩)
  (first
   |(
     go_at_call 186
     refine(hL w1.drew (O1 w1.drew Oz)).mono ?_
     rintro en w2 ⟨rfl,rfl⟩)
   |(
     go_at_call 185
     refine(Oy w1.drew O2).mono ?_;intro en w3 hq
     rcases hq.part with⟨x,rfl,rfl,Oc⟩|⟨y,nb,rfl,rfl,Oc,Pf,OT,Ok,OH⟩
     ·unfold da;go_wp2;exact⟨rfl,rfl,Z1,st1.trans (.of_kept Oc)⟩
     obtain⟨v0,v1,v2,v3,v4⟩:=OJ.out y rfl;obtain⟨k',rfl⟩:∃k',k=k'+1:=⟨k-1,by omega⟩;have h3:=Om.kept Oc (by simp;omega);have N3:=st1.trans (.of_kept Oc);have OB:=dF.dr Pe Oc OA;have Pw:w.heap.size<=w1.heap.size:=st1.size;have Px:w1.heap.size<=w3.heap.size:=Oc.size;have O3:w1.heap.size<=nb:=Pf;have Oe:nb<w3.heap.size:=de.lt Ok;have Oo:¬Z1 nb:=fun q=>by have:=(Oj nb q).2;omega
     have Of:dn w3 nb (b.extract 0 y.2) y.1 ((deep:Int)+1):=by rw[<-v4];exact Ok)
   |(
     go_at_call 190
     refine(HP.out k' rfl w3 Z1 OB (fun x q=>by have:=(Oj x q).2;omega)).mono ?_;rintro en w4 ⟨p,Z4,C,rfl,N2,OG,hH,Pg⟩;have OO:∀x,Z4 x->B<=x:=fun x q=>(N2.grow x q).elim (fun e=>(Oj x e).1) (fun e=>by omega)
     have Oq:=h3.step N2 (fun q=>by have:=(Oj fb q).1;omega);have OC:dn w4 nb (b.extract 0 y.2) y.1 ((deep:Int)+1):=de.step Of N2 Oo;have Ot:Below B w w4:=⟨N2.os.trans N3.os,N2.tape.trans N3.tape,N2.output.trans N3.output,aG N3.size N2.size,fun i hi=>(N2.block i (by omega) (fun q=>by have:=(Oj i q).1;omega)).trans ((N3.below Ox (fun x q=>(Ol x q).1) OI).block i hi)⟩
     have OD:¬C nb:=fun q=>N2.not Oe Oo (hH.1 nb q))
   |(
     go_at_call 83
     refine(OM.out k' rfl w4 C y nb p Ot v0 v1 v2 OC OG (fun x q=>⟨OO x (hH.1 x q),Pg x q⟩) (by omega) OD).mono ?_;intro en w5 Ph
     rcases Ph.part with⟨x,hP,rfl,Z5,N8⟩|⟨sm,hP,rfl,Z5,N8,OU⟩
     ·unfold da;go_wp2;rw[Od.out y,hP];exact⟨rfl,rfl,_,lT N3 (by omega) N2 hH.1 N8⟩
     have h5:de w5 fb #[aa f.num,aa 2,aa 16,ag Og,.slice ra rn rc] 220:=(N8.block fb Oq.lt (fun q=>by have:=OO fb (hH.1 fb q);omega) (by omega)).trans Oq;have O4:Hid (dQ S b F sub m0 y.1 y.2 (deep+1)= .ok sm):=hP
     clear hP))
 all_goals
  go_wp2;go_end0;rw[Od.out y,O4.out];exact⟨rfl,_,lT N3 (by omega) N2 hH.1 N8,tG N3 Ou Ow Oe Oo OT OH N2 hH N8 OU⟩
theorem Ia:gy lp C9=false/\gy lp Jr=false/\gy lp eS=false/\jw lp=false:=by decide+kernel
theorem Fs {S:dG}{mp:am->Option Nat}{d:MT}{s t:am}{n:Int}(hb:gQ mp t=S.base t)(hn:S.base t=16<->(S.msg t).isSome=true):FG S mp d ⟨s,t,eS,lp,n⟩ (jj s t n):=by
 obtain⟨o1,o2,o3,o4⟩:=Ia;refine⟨rfl,.inr (.inl rfl),by unfold ek.isMap jj;rw[o1];rfl,by unfold ek.isRep jj;rw[o2];rfl,by unfold jj;simp only;rw[o3];rfl,?_,fun _=>rfl,by simp[jj],hb,hn,fun q=>by simp[jj]at q⟩;unfold uM jj;simp only
 have:∀o:ek,(gy o.how lp&&jw o.how&&decide (o.num≠n))=false:=fun o=>by
  cases h:gy o.how lp with
  |false=>rfl
  |true=>
   have:jw o.how=false:=by
    rw[show o.how=lp from gX (fX.1 h),o4]
   rw[this];rfl
 rw[List.filter_eq_nil_iff.2 (fun o _=>by rw[this o];simp)];rfl
theorem xB {S:dG}{mp:am->Option Nat}{d:MT}{f:ek}{g:GF}(fg:FG S mp d f g)(h4:g.form=4):ja S mp (dW f) [jj lH f.key 1,jj oz f.ty 2]:=by
 obtain⟨q1,q2,q3,_⟩:=fg.key h4;refine⟨qD _ _,by simp,fun n hn=> ?_,fun n f' hn=> ?_⟩
 ·unfold dW at hn;simp only[dv]at hn
  split at hn
  ·cases hn
  ·split at hn
   ·cases hn
   ·rename_i h1 h2
    exact my fun x hx=>by
     simp only[aL,bG,or_false]at hx
     rcases hx with rfl|rfl
     ·exact h1
     ·exact h2
 ·unfold dW at hn;simp only[dv]at hn
  split at hn
  ·rename_i e
   cases hn
   subst e;exact⟨_,yN _ _,Fs q1 ⟨fun q=>by omega,fun q=>by rw[q3]at q;cases q⟩⟩
  ·split at hn
   ·rename_i e
    cases hn
    subst e;exact⟨_,yO _ _,Fs fg.base fg.nest⟩
   ·cases hn
def uW (f:ek)(m:PM)(sm:PM):PM:=m.put f.num (kj f.key (m.get f.num) (mV (gH sm)))
theorem Cq {S:dG}{mp:am->Option Nat}{b:am}{F deep a z e:Nat}{num:Int}{d:MT}{f:ek}{g:GF}{m:PM}(fg:FG S mp d f g)(hS:za S)(h4:g.form=4)(hd:deep<=8):
  ip S b F d f m deep (eh (b.extract 0 e) a num 2 z)=rS S b F (dW f) PM.none deep (uW f m) (kx (b.extract 0 e) z deep (iA mp g)):=by
 have hm:f.isMap=true:=by rw[fg.map,h4];rfl
 rw[Cp fg hS (sub:=dW f) (by unfold ed;rw[if_pos hm]) hd];have Pa:eA f m=PV.none:=by unfold eA;rw[hm];simp
 rw[Pa]
 have hM:(fun sm=>iw S d f m (PV.none.1,PV.none.2.1,sm))=uW f m:=funext fun sm=>by
  unfold iw uW;rw[if_pos hm];rfl
 rw[hM];rfl
theorem qd {w w3 w5:an}{Z Z3 Z5:ap}{rb nb eb:Nat}(N7:dF w Z rb w3 Z3)(hn:w.heap.size<=nb)(he:w.heap.size<=eb)(N3:dF w3 (fun x=>x=eb) nb w5 Z5):dF w Z rb w5 (fun b=>Z3 b\/Z5 b):=
 ⟨N3.os.trans N7.os,N3.tape.trans N7.tape,N3.output.trans N7.output,aG N7.size N3.size,fun i hi q1 q2=>(N3.block i (aC hi N7.size) (by omega) (by omega)).trans (N7.block i hi q1 q2),
  fun i q=>q.elim (N7.grow i) (fun q=>(N3.grow i q).elim (fun e=> .inr (by omega)) (fun e=> .inr (aG N7.size e)))⟩
theorem Fu (w:an)(B:Nat)(S:dG)(mp:am->Option Nat)(k:Nat)(d:MT)(f:ek)(g:GF)(fb:Nat)(Z:ap)(rb db:Nat)(b:am)(e a z deep F:Nat)(num:Int)(m:PM)
  (I:lR w B S mp k d Z rb db b e a z deep m) (hfa:dP w (fun b=>b<B) mp g fb) (fg:FG S mp d f g) (hff:dv d.fs f.num=some f) (hS:za S) (h4:g.form=4) (hkd:k+deep=8) (hgd:jB S d) (hRd:Fo S mp B b F) (hF:e-z<=F):
  Calls Tryz.prog 133 #[ag fb,aa 2,ag rb,ag db] w (fK S k d w Z rb db (b.extract 0 e) deep (ip S b F d f m deep (eh (b.extract 0 e) a num 2 z))):=by
 have hm:f.isMap=true:=by rw[fg.map,h4];rfl
 have Ob:ed S f=some (dW f):=by unfold ed;rw[if_pos hm]
 obtain⟨OI,O3,O4,O5⟩:=oj (deep:=deep) fg hS Ob (by omega);rw[Cq fg hS h4 (by omega)];obtain⟨Pq,kq2,Pr,Ps⟩:=fg.key h4;have OL:mJ S f= .ents f.key:=by unfold mJ;rw[if_pos hm]
 have ok1:lM S (some d) f.num (.ents f.key):=fun d' f' e1 e2=>by cases e1;rw[hff]at e2;cases e2;exact OL.symm
 have ok2:∀kd,lM S (some d) f.num kd->kd= .ents f.key:=fun kd q=>by rw[q d f rfl hff,OL]
 obtain⟨pv,rv,h1,hfB,N8,O6⟩:=hfa.blk;rw[if_pos h4]at O6;obtain⟨Of,rfl,O7⟩:=O6;rw[fg.eq]at O7;rw[O5,fg.eq,h4]at h1;have Ow:=fg.lone (by omega);rw[Ow]at N8;have hD:=mA S k (some d) w Z db m rv [] I.hd N8.1 (by simp) (fun x hx q=>by have:=N8.2 x hx;have:=(I.hZ x q).1;omega);rw[gJ]at hD;have Pb:(b.extract 0 e).size=e:=eG I.eb;have hab:=I.az;have hze:=I.ze;have Pc:=I.eb;have Pd:=I.bs;have Ox:=I.rB;have OM:=I.rZ;have Og:=I.hZ;have Ou:=I.cx.le;have Pe:rb<w.heap.size:=de.lt I.hr;have hfl:=h1.lt;have hL:=fun w1 (h:dP w1 (fun b=>b<B) mp g fb)=>nl w1 (fun b=>b<B) mp g fb h
 have Oy:=fun w1 (h:dn w1 rb (b.extract 0 e) z deep)=>lL w1 rb (b.extract 0 e) z deep (iA mp g) h (by omega) (by omega) (by omega) O3 O4
 have ON:=fun w1 (h:dP w1 (fun b=>b<B) mp g fb)=>Ck w1 (fun b=>b<B) mp g fb h h4
 have OO:=fun w1 pv=>mx w1 (S.base f.key) pv (by omega)
 rw[fg.eq,Pq]at ON;rw[Ps]at OO;obtain⟨Ol,Oc⟩:∃Ol,iA mp g=Ol:=⟨_,rfl⟩;rw[Oc]at hL Oy⊢
 have OP:Hid (∀y:Nat×Nat,kx (b.extract 0 e) z deep Ol= .ok y->z<y.1/\y.1<=y.2/\y.2<=e/\1<=k/\(b.extract 0 e).extract 0 y.2=b.extract 0 y.2):=fun y hy=>by
  obtain⟨q1,q2⟩:=qb hy;obtain⟨v0,v1,v2⟩:=gq (z:=y.1) (e:=y.2) q1;rw[Pb]at v2
  have hlv:1<=Ol:=by
   rw[<-Oc];unfold iA;rw[O5]
   split<;>simp
  exact⟨v0,v1,v2,by omega,iE Pc v2⟩
 clear Oc O3 O4 OI;obtain⟨R,hR⟩:∃R,kx (b.extract 0 e) z deep Ol=R:=⟨_,rfl⟩;rw[hR]at Oy OP⊢;clear hR;have Oz:¬Z fb:=fun q=>by have:=(Og fb q).1;omega
 have hlen:=I.wm.len
 have Pf:Hid (∀k',k=k'+1->∀(w4:an) (C:ap) (y:Nat×Nat) (nb p:Nat),Below B w w4->z<y.1->y.1<=y.2->y.2<=e->dn w4 nb (b.extract 0 y.2) y.1 ((deep:Int)+1)->dB S k (some (dW f)) w4 C p PM.none->(∀x,C x->B<=x/\x<w4.heap.size)->B<=nb->¬C nb->
   Calls Tryz.prog 83 #[ag Of,ag nb,ag p] w4 (fK S k' (dW f) w4 C nb p (b.extract 0 y.2) (deep+1) (lQ y.2 (dQ S b F (dW f) PM.none y.1 y.2 (deep+1))))):=by
  rintro k' rfl w4 C y nb p O8 v0 v1 v2 Pt Pv hC Pw Px;exact hRd w4 C (dW f) _ y.1 y.2 (deep+1) k' Of _ eS nb p (I.cx.on O8) (O7.msg.keep (fun x q _=>O8.block x q)) (xB fg h4) (hS.good.sub Ob) (by rw[cL];exact Pt) Pv hC Pw Px v1 (by omega) (by omega) (by omega) (WM.none _ _ _)
 have OA:Hid (∀k',k=k'+1->∀(w6:an) (Z6 E:ap) (eb:Nat) (y:Nat×Nat) (sm:PM),z<y.1->y.1<=y.2->y.2<=e->dQ S b F (dW f) PM.none y.1 y.2 (deep+1)= .ok sm->dB S (k+1) (some d) w6 Z6 db m->dB S k (some (dW f)) w6 E eb sm->(∀x,E x->¬Z6 x)->(∀x,Z6 x->x<w6.heap.size)->(∀x,E x->x<w6.heap.size)->
   Calls Tryz.prog 187 #[ag db,aa f.num,.bool (dX kY f.key),ag eb] w6 fun en w'=>en= .returned (.tuple #[])/\∃Z',d9 w6 (fun b=>Z6 b\/E b) w' Z'/\dB S (k+1) (some d) w' Z' db (uW f m sm)):=by
  rintro k' rfl w6 Z6 E eb y sm v0 v1 v2 Py OG Pz OJ PA PB;have OQ:=iU hS.good Pd F (dW f) PM.none y.1 y.2 (deep+1) sm Py (hS.good.sub Ob) v1 (by omega) (WM.none _ _ _);have OR:=xj (hgd f (eY hff).2 hm) OQ;have hel:=OQ.len.1;exact rx S k' (some d) w6 Z6 E db eb m sm f.num f.key _ OG Pz.toKey Pr OJ PA PB ok1 ok2 rfl OR.ky (by obtain⟨r,hr⟩:=OR.key;show(gH sm).get 1≠ [];have:(mV (gH sm)).2.2.get 1=_:=hr;simp only[mV]at this;rw[this];simp) (by omega) (by have:=hlen.2.2 f.num;omega) (by omega)
 have OS:∀w1,Below B w w1->dP w1 (fun b=>b<B) mp g fb:=fun w1 OB=>hfa.keep (fun x q _=>OB.block x q)
 have hr0:=I.hr;obtain⟨ra,rn,rc,rfl⟩:=df N8.1;unfold ft at h1;obtain⟨k1,k2⟩:=h1.rules;go_enter Tryz.func133,Tryz.ntmps133
 go_wp2_with fail
 refine hD.mono ?_;rintro en w1 ⟨rfl,Z1',N2,Om⟩;obtain⟨B1,KE⟩:=di w1 #[ah,ah] 183;have OT:w.heap.size<=w1.heap.size:=N2.size
 obtain⟨Z1,st1,PC,Oo⟩:∃Z1,dF w Z rb (w1.alloc (ak #[ah,ah] 183)) Z1/\dB S (k+1) (some d) (w1.alloc (ak #[ah,ah] 183)) Z1 db m/\∀x,Z1 x->B<=x/\x<w1.heap.size:=
  ⟨_,.of_step (N2.clip.below B1),Om.clip.keep (fun x _ q=>B1.block x q),fun x q=>⟨(N2.grow x q.1).elim (fun e=>(Og x e).1) (fun e=>aG Ou e),q.2⟩⟩
 have OU:=(h1.step N2 Oz).below B1 (h1.step N2 Oz).lt;have OV:dn (w1.alloc (ak #[ah,ah] 183)) rb (b.extract 0 e) z deep:=de.step hr0 (N2.below B1) OM;have OW:=h1.step N2 Oz;clear N2 Om k1 k2 hD;obtain⟨k1,k2⟩:=OW.rules;go_upto_region 4 with fail
 have hew:w1.heap.size<(w1.alloc (ak #[ah,ah] 183)).heap.size:=KE.lt;generalize w1.alloc (ak #[ah,ah] 183)=wa at*;generalize w1.heap.size=eb at*;clear k1 k2 OW B1;have Ov:de wa.drew fb #[aa f.num,aa 4,aa 16,ag Of,.slice ra rn rc] 220:=OU;have OB:Below B w wa:=st1.below Ou (fun x q=>(Og x q).1) Ox;have OC:Below B w wa.drew:=OB.drew;have OD:dn wa.drew rb (b.extract 0 e) z deep:=OV;have Oh:¬Z1 rb:=st1.not Pe OM;have OE:dB S (k+1) (some d) wa.drew Z1 db m:=PC.keep (fun _ _ _=>rfl);have Pg:de wa.drew eb #[ah,ah] 183:=KE;have Oi:dF w Z rb wa.drew Z1:=st1.trans (.of_below (Below.refl _ _).drew);obtain⟨k1,k2⟩:=OU.rules;have Oj:Hid (∀y:Nat×Nat,rS S b F (dW f) PM.none deep (uW f m) (.ok y)=Dm (uW f m) y.2 (dQ S b F (dW f) PM.none y.1 y.2 (deep+1))):=fun _=>rfl
 go_region_held2 (fun w'=>w'.cell? (ai fb 0)=some (aa f.num)/\w'.cell? (ai fb 3)=some (ag Of))
  (first|exact⟨h5.cell 0,h5.cell 3⟩|exact⟨h3.cell 0,h3.cell 3⟩|exact⟨Ov.cell 0,Ov.cell 3⟩)
  (first
   |(
     go_at_call 186
     refine(hL wa.drew (OS wa.drew OC)).mono ?_
     rintro en w2 ⟨rfl,rfl⟩)
   |(
     go_at_call 185
     refine(Oy wa.drew OD).mono ?_;intro en w3 hq
     rcases hq.part with⟨x,rfl,rfl,Od⟩|⟨y,nb,rfl,rfl,Od,PD,PE,Oq,Ot⟩
     ·unfold da;go_wp2;exact⟨rfl,rfl,Z1,Oi.trans (.of_kept Od)⟩
     obtain⟨v0,v1,v2,v3,v4⟩:=OP.out y rfl;obtain⟨k',rfl⟩:∃k',k=k'+1:=⟨k-1,by omega⟩;have h3:=Ov.kept Od (by simp;omega);have N7:=Oi.trans (.of_kept Od);have Ph:=dF.dr OE Od Oh;have hw3:wa.heap.size<=w3.heap.size:=Od.size;have hnb1:wa.heap.size<=nb:=PD;have hnl3:nb<w3.heap.size:=de.lt Oq;have Pi:¬Z1 nb:=fun q=>by have:=(Oo nb q).2;omega
     have Pj:=Pg.kept Od (by simp;omega);have Pk:dB S (k'+1) (some (dW f)) w3 (fun x=>x=eb) eb PM.none:=dB.fresh Pj;have Pm:Below B w w3:=N7.below Ou (fun x q=>(Og x q).1) Ox
     have Ok:dn w3 nb (b.extract 0 y.2) y.1 ((deep:Int)+1):=by rw[<-v4];exact Oq)
   |(
     go_at_call 83
     refine(Pf.out k' rfl w3 (fun x=>x=eb) y nb eb Pm v0 v1 v2 Ok Pk (fun x q=>by subst q;exact⟨by omega,by omega⟩) (by omega) (by omega)).mono ?_;intro en w5 PG
     rcases PG.part with⟨x,hP,rfl,Z5,N3⟩|⟨sm,hP,rfl,Z5,N3,PH⟩
     ·unfold da;go_wp2;rw[Oj.out y,hP];exact⟨rfl,rfl,_,qd N7 (by omega) OT N3⟩
     have h5:de w5 fb #[aa f.num,aa 4,aa 16,ag Of,.slice ra rn rc] 220:=(N3.block fb h3.lt (by omega) (by omega)).trans h3;have OX:Hid (dQ S b F (dW f) PM.none y.1 y.2 (deep+1)= .ok sm):=hP
     clear hP))
 have OY:∀x,Z5 x->x=eb\/w3.heap.size<=x:=N3.grow;have OF:=PH.clip;have OG:dB S (k'+1+1) (some d) w5 Z1 db m:=Ph.keep fun x q hl=>N3.block x hl (fun e=>by have:=(Oo x q).2;omega) (fun e=>Pi (e▸q))
 have OZ:dn w5 rb (b.extract 0 e) y.2 deep:=(N3.block rb (de.lt Ot) (by omega) (fun e=>PE e.symm)).trans Ot;have O1:=qd N7 (by omega) OT N3;have Pn:Below B w w5:=O1.below Ou (fun x q=>(Og x q).1) Ox;have OH:de w5.drew fb #[aa f.num,aa 4,aa 16,ag Of,.slice ra rn rc] 220:=h5;have hw5:w3.heap.size<=w5.heap.size:=N3.size;clear k1 k2;obtain⟨k1,k2⟩:=h5.rules;go_upto_region 5 with fail
 go_region_held2 (fun w'=>w'.cell? (ai fb 0)=some (aa f.num))
  (first|exact h9.cell 0|exact h8.cell 0|exact h7.cell 0|exact OH.cell 0)
  (first
   |(
     go_at_call 188
     refine(ON w5.drew (OS w5.drew Pn.drew)).mono ?_;rintro en w7 ⟨PI,rfl,B7⟩
     have h7:=OH.below B7 OH.lt)
   |(
     go_at_call 189
     refine(OO w7 PI).mono ?_;rintro en w8 ⟨rfl,B8⟩;have h8:=h7.below B8 h7.lt
     have Oe:aj w5 w8:=cY (Below.refl w5.heap.size w5).drew (cY B7 B8))
   |(
     go_at_call 187
     refine(OA.out k' rfl w8 Z1 (fun x=>Z5 x/\x<w5.heap.size) eb y sm v0 v1 v2 OX.out (OG.keep (fun x _ q=>Oe.block x q)) (OF.keep (fun x _ q=>Oe.block x q)) (fun x q1 q2=>by have:=(Oo x q2).2;have:=OY x q1.1;omega) (fun x q=>by have:=(Oo x q).2;have:=Oe.size;omega) (fun x q=>aC q.2 Oe.size)).mono ?_;rintro en w9 ⟨rfl,Z9,Oa,PJ⟩;have O2:∀x,x<wa.heap.size->x≠eb->¬Z1 x->¬(Z1 x\/(Z5 x/\x<w5.heap.size)):=fun x q1 q2 q3 q=>q.elim q3 (fun q=>(OY x q.1).elim q2 (fun e=>by omega))
     have h9:=h8.step Oa (O2 fb Ov.lt (by omega) (fun q=>by have:=(Oo fb q).1;omega))))
 all_goals
  go_wp2;go_end0;rw[Oj.out y,OX.out];have Po:dn w8 rb (b.extract 0 e) y.2 deep:=de.below OZ Oe (de.lt OZ);have Pp:dF w Z rb w8 (fun x=>Z1 x\/Z5 x):=O1.trans (.of_below Oe);refine⟨rfl,Z9,Pp.trans ⟨Oa.os,Oa.tape,Oa.output,Oa.size,fun i hi q _=>Oa.block i hi (fun e=>q (e.imp id (fun e=>e.1))),fun i q=>(Oa.grow i q).imp (fun e=>e.imp id (fun e=>e.1)) id⟩,PJ,?_⟩;exact de.step Po Oa (O2 rb (de.lt OV) (by omega) Oh)
end
end Go.Proofs.YtfebdimolnobaaaGreatDoor
