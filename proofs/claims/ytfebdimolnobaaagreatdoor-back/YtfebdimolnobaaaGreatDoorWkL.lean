import Derived.Test.YtfebdimolnobaaaGreatDoorWkF
import Derived.Deep.RegionHeld2
set_option maxRecDepth 100000
set_option maxHeartbeats 8000000
set_option linter.all false
namespace Go.Proofs.YtfebdimolnobaaaGreatDoor
open Go.RowKit Go.Proofs.Tryz
section
open Vo
section
variable {S:eD} {d sub:MT} {f:fo} {deep:Nat} {num:Int}
structure DY (S:eD)(d:MT)(f:fo)(sub:MT):Prop where
 hs:fy S f=some sub
 hm:f.isMap=false
theorem DY.kind (h:DY S d f sub)(hf:d9 d.fs f.num=some f):oJ S (some d) f.num .msgs/\(∀kd,oJ S (some d) f.num kd->kd= .msgs)/\oq S (some d) f.num=some sub:=by
 have hk:pM S f= .msgs:=by unfold pM;rw[h.hm,h.hs];rfl
 exact⟨λd' f' e1 e2=>by cases e1;rw[hf]at e2;cases e2;exact hk.sy,λkd q=>by rw[q d f rfl hf,hk],by unfold oq;simp[hf,h.hs]⟩
def vS (g:GF)(m:PM)(n:Int)(sm:PM):PM:=if g.form=2 then m.put n (m.get n++ [mV sm])else(m.without g.riv).put n [mV sm]
theorem Hs {mp:an}{b:au}{F a z e:Nat}{g:GF}{m:PM}(fg:FG S mp d f g)(hS:Fg S)(h:DY S d f sub)(hd:deep<=8)(hf:d9 d.fs f.num=some f)(hw:WM S a d m):
  kx S b F d f m deep (fM (b.extract 0 e) a num 2 z)=yn S b F sub (if g.form=2 then PM.none else((m.get f.num).headD PV.none).2.2) deep (vS g m f.num) (ol (b.extract 0 e) z deep (lw mp g)):=by
 rw[Hr fg hS h.hs hd];have⟨⟨t1,t2⟩,_⟩:=mW hw hf h.hs
 have hM:(λsm=>gX S d f m ((eY f m).1,(eY f m).2.1,sm))=vS g m f.num:=funext λsm=>by
  rw[t1,t2];unfold gX vS;rw[h.hm,fg.rep,h.hs];simp only[aU,if_false,dQ,Option.isNone_some,cU,cT];rw[yg,fg.riv];rfl
 rw[hM]
 have Wq:(eY f m).2.2=if g.form=2 then PM.none else((m.get f.num).headD PV.none).2.2:=by
  unfold eY;rw[h.hm,fg.rep];by_cases q:g.form=2;.simp only[q,decide_true,dl,if_true];rfl
  .simp[q]
 rw[Wq]
theorem iD.part {k:Nat}{w:aw}{Z:ax}{rb db:Nat}{s:au}{e:Nat}{P:Fx PM}{en:Ending}{w':aw}(h:iD S k d w Z rb db s deep (pN e P) en w'):
  (∃x,P= .error x/\en=dY x.1 x.2/\∃Z',eR w Z rb w' Z')\/∃sm,P= .ok sm/\en= .returned (.tuple #[])/\∃Z',eR w Z rb w' Z'/\eM S (k+1) (some d) w' Z' db sm:=by
 cases P with
 |error x=>exact .inl ⟨x,rfl,h.1,h.2⟩
 |ok sm=>
  obtain⟨h1,Z',h2,h3,_⟩:=h;exact .inr ⟨sm,rfl,h1,Z',h2,h3⟩
section
variable {S:eD} {k:Nat} {T T':Option MT} {w w3 w4 w5:aw} {Z Z3 Z4 Z5 C:ax} {rb nb db p y deep:Nat} {s:au} {M:PM->PM} {sm:PM}
theorem tA (Vq:eR w Z rb w3 Z3)(hn:w.heap.size<=nb)(Vp:fK w3 Z3 w4 Z4)(hC:∀b,C b->Z4 b)(Vr:eR w4 C nb w5 Z5):eR w Z rb w5 (λb=>Z4 b\/Z5 b):=by
 have V8:∀i,Z4 i->Z i\/w.heap.size<=i:=λi q=>(Vp.grow i q).elim (Vq.grow i) (λe=> .inr (aM Vq.size e))
 refine⟨Vr.os.J (Vp.os.J Vq.os),Vr.tape.J (Vp.tape.J Vq.tape),Vr.output.J (Vp.output.J Vq.output),aM Vq.size (aM Vp.size Vr.size),λi hi q1 q2=> ?_,λi q=> ?_⟩;.have h3:i<w3.heap.size:=aI hi Vq.size;have n3:=Vq.not hi q1;have n4:=Vp.not h3 n3;exact((Vr.block i (aI h3 Vp.size) (λe=>n4 (hC i e)) Vc).J (Vp.block i h3 n3)).J (Vq.block i hi q1 q2)
 .rcases q with q|q;.exact V8 i q
  .exact(Vr.grow i q).elim (λe=>V8 i (hC i e)) (λe=> .inr (aM (aM Vq.size Vp.size) e))
theorem DZ (Vq:eR w Z rb w3 Z3)(Vx:rb<w.heap.size)(hrZ:¬Z rb)(hn3:nb<w3.heap.size)(VA:¬Z3 nb)(VZ:nb≠rb)(hrr:ee w3 rb s y deep)(Vp:fK w3 Z3 w4 Z4)(hH:Oq S k T w4 Z4 db p C T' M)(Vr:eR w4 C nb w5 Z5)(V7:eM S k T' w5 Z5 p sm):
  eM S (k+1) T w5 (λb=>Z4 b\/Z5 b) db (M sm)/\ee w5 rb s y deep:=by
 have Ws:¬Z4 nb:=Vp.not hn3 VA;have V9:¬Z3 rb:=Vq.not Vx hrZ;have h3:rb<w3.heap.size:=aI Vx Vq.size;have Wt:¬Z4 rb:=Vp.not h3 V9;refine⟨hH.2 w5 Z5 sm (λb hz hc hl=>Vr.block b hl hc (λe=>Ws (e▸hz))) Vr.size Vr.grow V7,?_⟩;exact((Vr.block rb (aI h3 Vp.size) (λe=>Wt (hH.1 rb e)) (λe=>VZ e.sy)).J (Vp.block rb h3 V9)).J hrr
end
theorem Lt (w:aw)(B:Nat)(S:eD)(mp:an)(k:Nat)(d:MT)(f:fo)(g:GF)(fb:Nat)(Z:ax)(rb db:Nat)(b:au)(e a z deep F:Nat)(num:Int)(m:PM)(sub:MT)
  (I:px w B S mp k d Z rb db b e a z deep m) (hfa:eZ w (λb=>b<B) mp g fb) (fg:FG S mp d f g) (hff:d9 d.fs f.num=some f) (hS:Fg S) (hM:DY S d f sub) (hkd:k+deep=8) (hRd:Ow S mp B b F) (hF:e-z<=F):
  Calls prog 133 #[ah fb,aa 2,ah rb,ah db] w (iD S k d w Z rb db (b.extract 0 e) deep (kx S b F d f m deep (fM (b.extract 0 e) a num 2 z))):=by
 have h4:g.form≠4:=λq=>by have:=hM.hm;rw[fg.map,q]at this;cases this
 have⟨VV,Wh,Wk,Wl⟩:=tz (deep:=deep) fg hS hM.hs Vc;rw[Hs fg hS hM Vc hff I.wm];have⟨ok1,ok2,Wm⟩:=hM.kind hff;have⟨pv,rv,h1,hfB,Vt,VW⟩:=hfa.blk;rw[dO h4,fg.eq]at VW;have VL:S.msg f.ty=some sub:=by have:=hM.hs;unfold fy at this;rw[hM.hm]at this;exact this
 have⟨VC,gs,WD,WE,WF⟩:=I.cx.md f.ty sub VL;rw[WD]at VW;subst VW;rw[Wl,fg.eq]at h1;have hD:=re S k (some d) w Z db m rv g.riv I.hd Vt.1 fg.rlen (λx hx q=>by have:=Vt.2 x hx;have:=(I.hZ x q).1;omega);have Wu:(b.extract 0 e).size=e:=gJ I.eb;have hab:=I.az;have hze:=I.ze;have Wv:=I.eb;have hbs:=I.bs;have Wb:=I.rB;have VM:=I.rZ;have VH:=I.hZ;have VN:=I.cx.le;have Vx:rb<w.heap.size:=dX.lt I.hr;have hfl:=h1.lt;have hL:=λw1 (h:eZ w1 (λb=>b<B) mp g fb)=>sX w1 (λb=>b<B) mp g fb h
 have VO:=λw1 (h:ee w1 rb (b.extract 0 e) z deep)=>qU w1 rb (b.extract 0 e) z deep (lw mp g) h Vc Vc Vc Wh Wk
 obtain⟨VD,Vu⟩:=Y9 (lw mp g);rw[Vu]at hL VO⊢
 have Wd:Hid (∀y:Nat×Nat,ol (b.extract 0 e) z deep VD= .ok y->z<y.1/\y.1<=y.2/\y.2<=e/\1<=k/\(b.extract 0 e).extract 0 y.2=b.extract 0 y.2):=λy hy=>by
  have⟨q1,q2⟩:=wO hy;have⟨v0,v1,v2⟩:=ju (z:=y.1) (e:=y.2) q1;rw[Wu]at v2;have hlv:1<=VD:=(by rw[<-Vu];unfold lw;rw[dO (λq=>h4 q.1),dP Wl];exact cK _);exact⟨v0,v1,v2,Vc,kI Wv v2⟩
 clear Vu Wh Wk VV;obtain⟨R,hR⟩:=Y9 (ol (b.extract 0 e) z deep VD);rw[hR]at VO Wd⊢;clear hR;have Ww:¬Z fb:=λq=>by have:=(VH fb q).1;omega
 obtain⟨m0,fn,Wn,Wo,HP⟩:∃m0 fn,(if g.form=2 then PM.none else((m.get f.num).headD PV.none).2.2)=m0/\((g.form=2/\fn=190\/(g.form==2)=false/\fn=191)/\WM S a sub m0)/\Hid (∀k',k=k'+1->∀(w3:aw) (Z3:ax),eM S (k+1) (some d) w3 Z3 db (m.without g.riv)->(∀x,Z3 x->x<w3.heap.size)->U8 fn #[ah db,aa f.num] w3 (tm S k (some d) w3 Z3 db (some sub) m0 (vS g m f.num))):=by
  by_cases h2:g.form=2
  .refine⟨_,_,rfl,⟨.inl ⟨h2,rfl⟩,?_⟩,?_⟩<;>rw[dP h2]
   .exact WM.none S a sub
   .rintro k' rfl w3 Z3 Vv VX;have hlen:=I.wm.len;rw[fg.lone Vc,jo]at Vv;have:=ot S k' (some d) w3 Z3 db m f.num (Vv.slot Vc) ok1 ok2 (λ⟨d',f',e1,e2,e3⟩=>by cases e1;rw[hff]at e2;cases e2;rw[fg.rep,h2]at e3;cases e3) (by have:=hlen.2.2 f.num;omega) (λq=>by have:=VX _ q;omega);rw[Wm]at this;have VP:vS g m f.num=λm'=>m.put f.num (m.get f.num++ [mV m']):=funext λsm=>by unfold vS;rw[dP h2]
    rw[VP];exact this
  .refine⟨_,_,rfl,⟨.inr ⟨by simpa using h2,rfl⟩,?_⟩,?_⟩<;>rw[dO h2]
   .have:=(mW I.wm hff hM.hs).2;unfold eY at this;rw[hM.hm,fg.rep]at this;simpa [h2]using this
   .rintro k' rfl w3 Z3 Vv VX;have Wx:(m.without g.riv).get f.num=m.get f.num:=vA (by rw[fg.riv];exact Hi d f);have hlen:(m.without g.riv).fs.length<=a:=aM (bZ _ _) I.wm.len.1;have VQ:vu (some d) f.num:=⟨d,f,rfl,hff,by rw[fg.rep];simp[h2]⟩;have:=xW S k' (some d) w3 Z3 db (m.without g.riv) f.num Vv ok1 ok2 VQ Vc VX;rw[Wm,Wx]at this;have VP:vS g m f.num=λm'=>(m.without g.riv).put f.num [mV m']:=funext λsm=>by unfold vS;rw[dO h2]
    rw[VP];exact this
 rw[Wn]
 have Wy:Hid (∀k',k=k'+1->∀(w4:aw) (C:ax) (y:Nat×Nat) (nb p:Nat),Below B w w4->z<y.1->y.1<=y.2->y.2<=e->ee w4 nb (b.extract 0 y.2) y.1 ((deep:Int)+1)->eM S k (some sub) w4 C p m0->(∀x,C x->B<=x/\x<w4.heap.size)->B<=nb->¬C nb->
   U8 83 #[ah VC,ah nb,ah p] w4 (iD S k' sub w4 C nb p (b.extract 0 y.2) (deep+1) (pN y.2 (eW S b F sub m0 y.1 y.2 (deep+1))))):=by
  rintro k' rfl w4 C y nb p VK v0 v1 v2 WG VY hC WH VU;exact hRd w4 C sub _ y.1 y.2 (deep+1) k' VC gs sub.name nb p (I.cx.on VK) (WE.O (λx q _=>VK.block x q)) WF (hS.good.sub hM.hs) (by rw[Int.natCast_succ];exact WG) VY hC WH VU v1 Vc Vc Vc (Wo.2.V Vc)
 have Wz:∀w1,Below B w w1->eZ w1 (λb=>b<B) mp g fb:=λw1 VR=>hfa.O (λx q _=>VR.block x q)
 have hr0:=I.hr;clear Wn;obtain⟨m1,Wp⟩:=Y9 (m.without g.riv);rw[Wp]at hD HP;clear Wp;obtain⟨ra,rn,rc,rfl⟩:=d5 Vt.1;have hf4:(g.form==4)=false:=by simpa using h4
 unfold gZ at h1;have⟨k1,k2⟩:=h1.I;go_in
 go_wp2_with fail;refine hD.V ?_;rintro en w1 ⟨rfl,Z1',Vs,VE⟩;obtain⟨Z1,st1,WJ,VF⟩:∃Z1,eR w Z rb w1.drew Z1/\eM S (k+1) (some d) w1.drew Z1 db m1/\∀x,Z1 x->B<=x/\x<w1.heap.size:=⟨_,.oS Vs.clip.drew,VE.clip.O (λ_ _ _=>rfl),λx q=>⟨(Vs.grow x q.1).elim (λe=>(VH x e).1) (λe=>aM VN e),q.2⟩⟩;have We:=h1.step Vs Ww;have WA:ee w1.drew rb (b.extract 0 e) z deep:=dX.step hr0 Vs.drew VM;clear Vs VE k1 k2 hD;have VI:dX w1.drew fb #[aa f.num,aa g.form,aa 16,ah VC,.slice ra rn rc] 220:=We;have VR:Below B w w1.drew:=st1.G VN (λx q=>(VH x q).1) Wb;have VS:¬Z1 rb:=st1.not Vx VM;have⟨k1,k2⟩:=We.I;have⟨k3,k4⟩:=VI.I;have Vy:Hid (∀y:Nat×Nat,yn S b F sub m0 deep (vS g m f.num) (.ok y)=Lq (vS g m f.num) y.2 (eW S b F sub m0 y.1 y.2 (deep+1))):=λ_=>rfl
 rcases Wo.1 with⟨h2,rfl⟩|⟨WB,rfl⟩;have WB:(g.form==2)=true:=by simpa using h2
 clear h2
 focus go_upto_region 7 with fail
 rotate_left
 focus go_upto_region 9 with fail
 all_goals
  go_region_held2 (λw'=>w'.cell? (aj fb 0)=some (aa f.num)/\w'.cell? (aj fb 3)=some (ah VC))
   (first|exact⟨h5.cell 0,h5.cell 3⟩|exact⟨VJ.cell 0,VJ.cell 3⟩|exact⟨h3.cell 0,h3.cell 3⟩|exact⟨VI.cell 0,VI.cell 3⟩)
   (first
    |(
      go_at_call 186;refine(hL w1.drew (Wz w1.drew VR)).V ?_
      rintro en w2 ⟨rfl,rfl⟩)
    |(
      go_at_call 185;refine(VO w1.drew WA).V ?_;intro en w3 hq;rcases hq.part with⟨x,rfl,rfl,Vw⟩|⟨y,nb,rfl,rfl,Vw,WK,VZ,VG,V0⟩;.unfold dY;go_wp2;exact⟨rfl,rfl,Z1,st1.J (.oK Vw)⟩
      have⟨v0,v1,v2,v3,v4⟩:=Wd.o y rfl;obtain⟨k',rfl⟩:∃k',k=k'+1:=⟨k-1,Vc⟩;have h3:=VI.kept Vw Ve;have Vq:=st1.J (.oK Vw);have Vv:=eR.dr WJ Vw VS;have hw1:w.heap.size<=w1.heap.size:=st1.size;have hw3:w1.heap.size<=w3.heap.size:=Vw.size;have hnb1:w1.heap.size<=nb:=WK;have Vz:nb<w3.heap.size:=dX.lt VG;have VA:¬Z1 nb:=λq=>by have:=(VF nb q).2;omega
      have VB:ee w3 nb (b.extract 0 y.2) y.1 ((deep:Int)+1):=by rw[<-v4];exact VG)
    |(
      first|go_at_call 191|go_at_call 190
      refine(HP.o k' rfl w3 Z1 Vv (λx q=>by have:=(VF x q).2;omega)).V ?_;rintro en w4 ⟨p,Z4,C,rfl,Vp,VY,hH,WL⟩;have Wf:∀x,Z4 x->B<=x:=λx q=>(Vp.grow x q).elim (λe=>(VF x e).1) (λe=>Vc)
      have VJ:=h3.step Vp (λq=>by have:=(VF fb q).1;omega);have VT:ee w4 nb (b.extract 0 y.2) y.1 ((deep:Int)+1):=dX.step VB Vp VA;have VK:Below B w w4:=⟨Vp.os.J Vq.os,Vp.tape.J Vq.tape,Vp.output.J Vq.output,aM Vq.size Vp.size,λi hi=>(Vp.block i Vc (λq=>by have:=(VF i q).1;omega)).J ((Vq.G VN (λx q=>(VH x q).1) Wb).block i hi)⟩
      have VU:¬C nb:=λq=>Vp.not Vz VA (hH.1 nb q))
    |(
      go_at_call 83;refine(Wy.o k' rfl w4 C y nb p VK v0 v1 v2 VT VY (λx q=>⟨Wf x (hH.1 x q),WL x q⟩) Vc VU).V ?_;intro en w5 WN;rcases WN.part with⟨x,hP,rfl,Z5,Vr⟩|⟨sm,hP,rfl,Z5,Vr,V7⟩;.unfold dY;go_wp2;rw[Vy.o y,hP];exact⟨rfl,rfl,_,tA Vq Vc Vp hH.1 Vr⟩
      have h5:dX w5 fb #[aa f.num,aa g.form,aa 16,ah VC,.slice ra rn rc] 220:=(Vr.block fb VJ.lt (λq=>by have:=Wf fb (hH.1 fb q);omega) Vc).J VJ;have WC:Hid (eW S b F sub m0 y.1 y.2 (deep+1)= .ok sm):=hP
      clear hP))
  all_goals
   go_wp2;go_end0;rw[Vy.o y,WC.o];exact⟨rfl,_,tA Vq Vc Vp hH.1 Vr,DZ Vq Vx VM Vz VA VZ V0 Vp hH Vr V7⟩
end
section
variable {S:eD} {mp:an} {d:MT} {f:fo} {g:GF} {num:Int}
theorem Oy:gN lK xA=false/\gN lK Dt=false/\gN lK eS=false/\i8 lK=false:=Vg
theorem Lu {s t:au}{n:Int}(hb:jB mp t=S.base t)(hn:S.base t=16<->(S.msg t).isSome=true):FG S mp d ⟨s,t,eS,lK,n⟩ (lL s t n):=by
 obtain⟨o1,o2,o3,o4⟩:=Oy;refine⟨rfl,.inr (.inl rfl),by unfold fo.isMap lL;grind,by unfold fo.isRep lL;grind,by unfold lL;grind,?_,λ_=>rfl,by simp[lL],hb,hn,λq=>by simp[lL]at q⟩;unfold lF lL;simp only
 have:∀o:fo,(gN o.how lK&&i8 o.how&&decide (o.num≠n))=false:=λo=>by
  cases h:gN o.how lK with
  |false=>rfl
  |true=>
   have:i8 o.how=false:=(by rw[show o.how=lK from jH (gO.1 h),o4]);grind
 rw[List.filter_eq_nil_iff.2 (λo _=>by grind)];rfl
theorem Cb (fg:FG S mp d f g)(h4:g.form=4):lH S mp (eP f) [lL oe f.key 1,lL p9 f.ty 2]:=by
 have⟨q1,q2,q3,_⟩:=fg.key h4;refine⟨uq _ _,Vd,λn hn=> ?_,λn f' hn=> ?_⟩
 .unfold eP at hn;simp only[d9]at hn;split at hn;.cases hn
  .split at hn;.cases hn
   .rename_i h1 h2
    exact pt λx hx=>by
     simp only[aS,bX,or_false]at hx;rcases hx with rfl|rfl;.exact h1
     .exact h2
 .unfold eP at hn;simp only[d9]at hn;split at hn;.rename_i e;cases hn;subst e;exact⟨_,DI _ _,Lu q1 ⟨λq=>Vc,λq=>by grind⟩⟩
  .split at hn;.rename_i e;cases hn;subst e;exact⟨_,DJ _ _,Lu fg.base fg.nest⟩
   grind
def zV (f:fo)(m:PM)(sm:PM):PM:=m.put f.num (jV f.key (m.get f.num) (mV (gA sm)))
theorem Ht {b:au}{F deep a z e:Nat}{m:PM}(fg:FG S mp d f g)(hS:Fg S)(h4:g.form=4)(hd:deep<=8):
  kx S b F d f m deep (fM (b.extract 0 e) a num 2 z)=yn S b F (eP f) PM.none deep (zV f m) (ol (b.extract 0 e) z deep (lw mp g)):=by
 have hm:f.isMap=true:=by rw[fg.map,h4];rfl
 rw[Hr fg hS (sub:=eP f) (by unfold fy;rw[dP hm]) hd];have Wv:eY f m=PV.none:=by unfold eY;grind
 rw[Wv]
 have hM:(λsm=>gX S d f m (PV.none.1,PV.none.2.1,sm))=zV f m:=funext λsm=>by
  unfold gX zV;rw[dP hm];rfl
 rw[hM];rfl
theorem tB {w w3 w5:aw}{Z Z3 Z5:ax}{rb nb eb:Nat}(Vr:eR w Z rb w3 Z3)(hn:w.heap.size<=nb)(he:w.heap.size<=eb)(Vq:eR w3 (λx=>x=eb) nb w5 Z5):eR w Z rb w5 (λb=>Z3 b\/Z5 b):=
 ⟨Vq.os.J Vr.os,Vq.tape.J Vr.tape,Vq.output.J Vr.output,aM Vr.size Vq.size,λi hi q1 q2=>(Vq.block i (aI hi Vr.size) Vc Vc).J (Vr.block i hi q1 q2),
  λi q=>q.elim (Vr.grow i) (λq=>(Vq.grow i q).elim (λe=> .inr Vc) (λe=> .inr (aM Vr.size e)))⟩
theorem Lw (w:aw)(B:Nat)(S:eD)(mp:an)(k:Nat)(d:MT)(f:fo)(g:GF)(fb:Nat)(Z:ax)(rb db:Nat)(b:au)(e a z deep F:Nat)(num:Int)(m:PM)
  (I:px w B S mp k d Z rb db b e a z deep m) (hfa:eZ w (λb=>b<B) mp g fb) (fg:FG S mp d f g) (hff:d9 d.fs f.num=some f) (hS:Fg S) (h4:g.form=4) (hkd:k+deep=8) (hgd:mg S d) (hRd:Ow S mp B b F) (hF:e-z<=F):
  Calls prog 133 #[ah fb,aa 2,ah rb,ah db] w (iD S k d w Z rb db (b.extract 0 e) deep (kx S b F d f m deep (fM (b.extract 0 e) a num 2 z))):=by
 have hm:f.isMap=true:=by rw[fg.map,h4];rfl
 have Vu:fy S f=some (eP f):=by unfold fy;rw[dP hm]
 have⟨VV,Wo,Wp,Wq⟩:=tz (deep:=deep) fg hS Vu Vc;rw[Ht fg hS h4 Vc];have⟨WO,kq2,WP,WQ⟩:=fg.key h4;have Ww:pM S f= .ents f.key:=by unfold pM;rw[dP hm]
 have ok1:oJ S (some d) f.num (.ents f.key):=λd' f' e1 e2=>by grind
 have ok2:∀kd,oJ S (some d) f.num kd->kd= .ents f.key:=λkd q=>by rw[q d f rfl hff,Ww]
 have⟨pv,rv,h1,hfB,Vs,Ws⟩:=hfa.blk;rw[dP h4]at Ws;obtain⟨Vy,rfl,Wt⟩:=Ws;rw[fg.eq]at Wt;rw[Wq,fg.eq,h4]at h1;have VJ:=fg.lone Vc;rw[VJ]at Vs;have hD:=re S k (some d) w Z db m rv [] I.hd Vs.1 Vd (λx hx q=>by have:=Vs.2 x hx;have:=(I.hZ x q).1;omega);rw[jo]at hD;have Wx:(b.extract 0 e).size=e:=gJ I.eb;have hab:=I.az;have hze:=I.ze;have Wy:=I.eb;have Wz:=I.bs;have VK:=I.rB;have VY:=I.rZ;have VG:=I.hZ;have VH:=I.cx.le;have WA:rb<w.heap.size:=dX.lt I.hr;have hfl:=h1.lt;have hL:=λw1 (h:eZ w1 (λb=>b<B) mp g fb)=>sX w1 (λb=>b<B) mp g fb h
 have VL:=λw1 (h:ee w1 rb (b.extract 0 e) z deep)=>qU w1 rb (b.extract 0 e) z deep (lw mp g) h Vc Vc Vc Wo Wp
 have VZ:=λw1 (h:eZ w1 (λb=>b<B) mp g fb)=>Hm w1 (λb=>b<B) mp g fb h h4
 have V0:=λw1 pv=>pr w1 (S.base f.key) pv Vc
 rw[fg.eq,WO]at VZ;rw[WQ]at V0;obtain⟨VD,Vv⟩:=Y9 (lw mp g);rw[Vv]at hL VL⊢
 have V7:Hid (∀y:Nat×Nat,ol (b.extract 0 e) z deep VD= .ok y->z<y.1/\y.1<=y.2/\y.2<=e/\1<=k/\(b.extract 0 e).extract 0 y.2=b.extract 0 y.2):=λy hy=>by
  have⟨q1,q2⟩:=wO hy;have⟨v0,v1,v2⟩:=ju (z:=y.1) (e:=y.2) q1;rw[Wx]at v2;have hlv:1<=VD:=(by rw[<-Vv];unfold lw;rw[Wq];split<;>simp);exact⟨v0,v1,v2,Vc,kI Wy v2⟩
 clear Vv Wo Wp VV;obtain⟨R,hR⟩:=Y9 (ol (b.extract 0 e) z deep VD);rw[hR]at VL V7⊢;clear hR;have VM:¬Z fb:=λq=>by grind
 have hlen:=I.wm.len
 have WB:Hid (∀k',k=k'+1->∀(w4:aw) (C:ax) (y:Nat×Nat) (nb p:Nat),Below B w w4->z<y.1->y.1<=y.2->y.2<=e->ee w4 nb (b.extract 0 y.2) y.1 ((deep:Int)+1)->eM S k (some (eP f)) w4 C p PM.none->(∀x,C x->B<=x/\x<w4.heap.size)->B<=nb->¬C nb->
   U8 83 #[ah Vy,ah nb,ah p] w4 (iD S k' (eP f) w4 C nb p (b.extract 0 y.2) (deep+1) (pN y.2 (eW S b F (eP f) PM.none y.1 y.2 (deep+1))))):=by
  rintro k' rfl w4 C y nb p Wu v0 v1 v2 hrn WR hC WS WT;exact hRd w4 C (eP f) _ y.1 y.2 (deep+1) k' Vy _ eS nb p (I.cx.on Wu) (Wt.msg.O (λx q _=>Wu.block x q)) (Cb fg h4) (hS.good.sub Vu) (by grind) WR hC WS WT v1 Vc Vc Vc (WM.none _ _ _)
 have VN:Hid (∀k',k=k'+1->∀(w6:aw) (Z6 E:ax) (eb:Nat) (y:Nat×Nat) (sm:PM),z<y.1->y.1<=y.2->y.2<=e->eW S b F (eP f) PM.none y.1 y.2 (deep+1)= .ok sm->eM S (k+1) (some d) w6 Z6 db m->eM S k (some (eP f)) w6 E eb sm->(∀x,E x->¬Z6 x)->(∀x,Z6 x->x<w6.heap.size)->(∀x,E x->x<w6.heap.size)->
   U8 187 #[ah db,aa f.num,.bool (fi jm f.key),ah eb] w6 λen w'=>en= .returned (.tuple #[])/\∃Z',fK w6 (λb=>Z6 b\/E b) w' Z'/\eM S (k+1) (some d) w' Z' db (zV f m sm)):=by
  rintro k' rfl w6 Z6 E eb y sm v0 v1 v2 WU VT WV VW WW WX;have V8:=lx hS.good Wz F (eP f) PM.none y.1 y.2 (deep+1) sm WU (hS.good.sub Vu) v1 Vc (WM.none _ _ _);have V9:=BP (hgd f (fA hff).2 hm) V8;have hel:=V8.len.1;exact vz S k' (some d) w6 Z6 E db eb m sm f.num f.key _ VT WV.toKey WP VW WW WX ok1 ok2 rfl V9.ky (by have⟨r,hr⟩:=V9.key;grind) Vc (by grind) Vc
 have Wb:∀w1,Below B w w1->eZ w1 (λb=>b<B) mp g fb:=λw1 VO=>hfa.O (λx q _=>VO.block x q)
 have hr0:=I.hr;obtain⟨ra,rn,rc,rfl⟩:=d5 Vs.1;unfold gZ at h1;have⟨k1,k2⟩:=h1.I;go_in
 go_wp2_with fail;refine hD.V ?_;rintro en w1 ⟨rfl,Z1',Vp,VE⟩;have⟨B1,KE⟩:=d8 w1 #[ai,ai] 183;have Wd:w.heap.size<=w1.heap.size:=Vp.size
 obtain⟨Z1,st1,WY,WZ⟩:∃Z1,eR w Z rb (w1.alloc (am #[ai,ai] 183)) Z1/\eM S (k+1) (some d) (w1.alloc (am #[ai,ai] 183)) Z1 db m/\∀x,Z1 x->B<=x/\x<w1.heap.size:=
  ⟨_,.oS (Vp.clip.G B1),VE.clip.O (λx _ q=>B1.block x q),λx q=>⟨(Vp.grow x q.1).elim (λe=>(VG x e).1) (λe=>aM VH e),q.2⟩⟩
 have We:=(h1.step Vp VM).G B1 (h1.step Vp VM).lt;have Wf:ee (w1.alloc (am #[ai,ai] 183)) rb (b.extract 0 e) z deep:=dX.step hr0 (Vp.G B1) VY;have Wh:=h1.step Vp VM;clear Vp VE k1 k2 hD;have⟨k1,k2⟩:=Wh.I;go_upto_region 4 with fail
 have hew:w1.heap.size<(w1.alloc (am #[ai,ai] 183)).heap.size:=KE.lt;generalize w1.alloc (am #[ai,ai] 183)=wa at*;generalize w1.heap.size=eb at*;clear k1 k2 Wh B1;have VI:dX wa.drew fb #[aa f.num,aa 4,aa 16,ah Vy,.slice ra rn rc] 220:=We;have VO:Below B w wa:=st1.G VH (λx q=>(VG x q).1) VK;have VP:Below B w wa.drew:=VO.drew;have VQ:ee wa.drew rb (b.extract 0 e) z deep:=Wf;have Vz:¬Z1 rb:=st1.not WA VY;have VR:eM S (k+1) (some d) wa.drew Z1 db m:=WY.O (λ_ _ _=>rfl);have WC:dX wa.drew eb #[ai,ai] 183:=KE;have VA:eR w Z rb wa.drew Z1:=st1.J (.oB (Below.refl _ _).drew);have⟨k1,k2⟩:=We.I;have VB:Hid (∀y:Nat×Nat,yn S b F (eP f) PM.none deep (zV f m) (.ok y)=Lq (zV f m) y.2 (eW S b F (eP f) PM.none y.1 y.2 (deep+1))):=λ_=>rfl
 go_region_held2 (λw'=>w'.cell? (aj fb 0)=some (aa f.num)/\w'.cell? (aj fb 3)=some (ah Vy))
  (first|exact⟨h5.cell 0,h5.cell 3⟩|exact⟨h3.cell 0,h3.cell 3⟩|exact⟨VI.cell 0,VI.cell 3⟩)
  (first
   |(
     go_at_call 186;refine(hL wa.drew (Wb wa.drew VP)).V ?_
     rintro en w2 ⟨rfl,rfl⟩)
   |(
     go_at_call 185;refine(VL wa.drew VQ).V ?_;intro en w3 hq;rcases hq.part with⟨x,rfl,rfl,Vw⟩|⟨y,nb,rfl,rfl,Vw,W5,W6,VX,VF⟩;.unfold dY;go_wp2;exact⟨rfl,rfl,Z1,VA.J (.oK Vw)⟩
     have⟨v0,v1,v2,v3,v4⟩:=V7.o y rfl;obtain⟨k',rfl⟩:∃k',k=k'+1:=⟨k-1,Vc⟩;have h3:=VI.kept Vw (by grind);have Vr:=VA.J (.oK Vw);have WD:=eR.dr VR Vw Vz;have hw3:wa.heap.size<=w3.heap.size:=Vw.size;have hnb1:wa.heap.size<=nb:=W5;have hnl3:nb<w3.heap.size:=dX.lt VX;have WE:¬Z1 nb:=λq=>by grind
     have WF:=WC.kept Vw (by grind);have WG:eM S (k'+1) (some (eP f)) w3 (λx=>x=eb) eb PM.none:=eM.fresh WF;have WH:Below B w w3:=Vr.G VH (λx q=>(VG x q).1) VK
     have VC:ee w3 nb (b.extract 0 y.2) y.1 ((deep:Int)+1):=by grind)
   |(
     go_at_call 83;refine(WB.o k' rfl w3 (λx=>x=eb) y nb eb WH v0 v1 v2 VC WG (λx q=>Vc) Vc Vc).V ?_;intro en w5 W7;rcases W7.part with⟨x,hP,rfl,Z5,Vq⟩|⟨sm,hP,rfl,Z5,Vq,W8⟩;.unfold dY;go_wp2;rw[VB.o y,hP];exact⟨rfl,rfl,_,tB Vr Vc Wd Vq⟩
     have h5:dX w5 fb #[aa f.num,aa 4,aa 16,ah Vy,.slice ra rn rc] 220:=(Vq.block fb h3.lt Vc Vc).J h3;have Wk:Hid (eW S b F (eP f) PM.none y.1 y.2 (deep+1)= .ok sm):=hP
     clear hP))
 have WJ:∀x,Z5 x->x=eb\/w3.heap.size<=x:=Vq.grow;have VS:=W8.clip;have VT:eM S (k'+1+1) (some d) w5 Z1 db m:=WD.O λx q hl=>Vq.block x hl (λe=>by grind) (λe=>WE (e▸q))
 have Wl:ee w5 rb (b.extract 0 e) y.2 deep:=(Vq.block rb (dX.lt VF) Vc (λe=>W6 e.sy)).J VF;have Wm:=tB Vr Vc Wd Vq;have WK:Below B w w5:=Wm.G VH (λx q=>(VG x q).1) VK;have VU:dX w5.drew fb #[aa f.num,aa 4,aa 16,ah Vy,.slice ra rn rc] 220:=h5;have hw5:w3.heap.size<=w5.heap.size:=Vq.size;clear k1 k2;have⟨k1,k2⟩:=h5.I;go_upto_region 5 with fail
 go_region_held2 (λw'=>w'.cell? (aj fb 0)=some (aa f.num))
  (first|exact h9.cell 0|exact h8.cell 0|exact h7.cell 0|exact VU.cell 0)
  (first
   |(
     go_at_call 188;refine(VZ w5.drew (Wb w5.drew WK.drew)).V ?_;rintro en w7 ⟨W9,rfl,B7⟩
     have h7:=VU.G B7 VU.lt)
   |(
     go_at_call 189;refine(V0 w7 W9).V ?_;rintro en w8 ⟨rfl,B8⟩;have h8:=h7.G B8 h7.lt
     have Vx:ak w5 w8:=dU (Va w5).drew (dU B7 B8))
   |(
     go_at_call 187;refine(VN.o k' rfl w8 Z1 (λx=>Z5 x/\x<w5.heap.size) eb y sm v0 v1 v2 Wk.o (VT.O (λx _ q=>Vx.block x q)) (VS.O (λx _ q=>Vx.block x q)) (λx q1 q2=>by grind) (λx q=>by have:=(WZ x q).2;have:=Vx.size;omega) (λx q=>aI q.2 Vx.size)).V ?_;rintro en w9 ⟨rfl,Z9,Vt,Xa⟩;have Wn:∀x,x<wa.heap.size->x≠eb->¬Z1 x->¬(Z1 x\/(Z5 x/\x<w5.heap.size)):=λx q1 q2 q3 q=>q.elim q3 (λq=>(WJ x q.1).elim q2 (λe=>Vc))
     have h9:=h8.step Vt (Wn fb VI.lt Vc (λq=>by grind))))
 all_goals
  go_wp2;go_end0;rw[VB.o y,Wk.o];have WL:ee w8 rb (b.extract 0 e) y.2 deep:=dX.G Wl Vx (dX.lt Wl);have WN:eR w Z rb w8 (λx=>Z1 x\/Z5 x):=Wm.J (.oB Vx);refine⟨rfl,Z9,WN.J ⟨Vt.os,Vt.tape,Vt.output,Vt.size,λi hi q _=>Vt.block i hi (λe=>q (e.imp id (λe=>e.1))),λi q=>(Vt.grow i q).imp (λe=>e.imp id (λe=>e.1)) id⟩,Xa,?_⟩;exact dX.step WL Vt (Wn rb (dX.lt Wf) Vc Vz)
end
end
end Go.Proofs.YtfebdimolnobaaaGreatDoor
