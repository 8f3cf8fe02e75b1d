import Derived.Test.YtfebdimolnobaaaGreatDoorWkF
import Derived.Deep.RegionHeld2
import Derived.Laws.IdiomStrings
set_option maxRecDepth 100000
set_option maxHeartbeats 8000000
set_option linter.all false
namespace Go.Proofs.YtfebdimolnobaaaGreatDoor
open Go.RowKit Go.Proofs.Tryz
section
open Vo
def Lr (w:aw)(B:Nat)(S:eD)(mp:an)(k:Nat)(d:MT)(f:fo)(g:GF)(fb:Nat)(Z:ax)(rb db:Nat)(b:au)(e a z deep F:Nat)(num kind:Int)(m:PM)
  (I:px w B S mp k d Z rb db b e a z deep m) (hfa:eZ w (λb=>b<B) mp g fb) (fg:FG S mp d f g) (hf:g.form=2) (hb:S.base f.ty<=15) (hff:d9 d.fs f.num=some f) (hk:kind=eJ (S.base f.ty)\/(kind=2/\eJ (S.base f.ty)≠2)):
  Calls prog 133 #[ah fb,aa kind,ah rb,ah db] w (iD S k d w Z rb db (b.extract 0 e) deep (kx S b F d f m deep (fM (b.extract 0 e) a num kind z))):=by
 have⟨pv,rv,h1,VU,Vp,VC⟩:=hfa.blk;have VF:eI mp g=S.base f.ty:=by unfold eI;rw[dO Vc,fg.eq,fg.base]
 have VG:=fg.lone Vc;rw[VG]at Vp;have hD:=re S k (some d) w Z db m rv [] I.hd Vp.1 Vd (λx hx q=>by have:=Vp.2 x hx;have:=(I.hZ x q).1;omega);rw[jo]at hD
 have HR:∀w1 Z1,fK w Z w1 Z1->eM S (k+1) (some d) w1 Z1 db m->U8 192 #[ah fb,aa kind,ah rb,ah db] w1 (iD S k d w Z rb db (b.extract 0 e) deep (kx S b F d f m deep (fM (b.extract 0 e) a num kind z))):=λw1 Z1 st Vv=>by
  have VD:eR w Z rb w1 Z1:= .oS st;have VT:=VD.G I.cx.le (λx q=>(I.hZ x q).1) I.rB;have I1:=I.on VD Vv (dX.step I.hr st I.rZ) I.wm;have Vx:=hfa.O (w':=w1) (λx q _=>VT.block x q);rcases hk with rfl|⟨rfl,hw⟩;.exact(FN w1 B S mp k d f g fb _ rb db b e a z deep F num m I1 Vx fg hf hb hff).V λ_ _ q=>q.pre VD.clip
  .exact(FQ w1 B S mp k d f g fb _ rb db b e a z deep F num m I1 Vx fg hf hb hw hff).V λ_ _ q=>q.pre VD.clip
 rw[VF,fg.eq,hf]at h1;obtain⟨R,hR⟩:=Y9 (kx S b F d f m deep (fM (b.extract 0 e) a num kind z));rw[hR]at HR⊢;clear hR;obtain⟨pq,rfl⟩:=gK VC;obtain⟨ra,rn,rc,rfl⟩:=d5 Vp.1;have⟨k1,k2⟩:=h1.I;have VH:((S.base f.ty:Int)==16)=false:=Ve;have VI:=h1.lt;clear VC hk;go_in
 go_wp2_with fail;refine hD.V ?_;rintro en w1 ⟨rfl,Z1,st1,Vv⟩;have h2:=h1.step st1 (λq=>by have:=(I.hZ fb q).1;omega);clear k1 k2 hD;have⟨k1,k2⟩:=h2.I;go_wp2_with fail;refine(HR w1 Z1 st1 Vv).V ?_;intro en w2 hq
 cases R with
 |error x=>
  obtain⟨rfl,hq⟩:=hq;unfold dY;go_wp2
  exact⟨rfl,rfl,hq⟩
 |ok x=>
  obtain⟨rfl,hq⟩:=hq;go_wp2;go_end0;exact⟨rfl,hq⟩
def Ls (w:aw)(B:Nat)(S:eD)(mp:an)(k:Nat)(d:MT)(f:fo)(g:GF)(fb:Nat)(Z:ax)(rb db:Nat)(b:au)(e a z deep F:Nat)(num:Int)(m:PM)
  (I:px w B S mp k d Z rb db b e a z deep m) (hfa:eZ w (λb=>b<B) mp g fb) (fg:FG S mp d f g) (h4:g.form≠4) (h2:g.form≠2) (hb:S.base f.ty<=15) (hff:d9 d.fs f.num=some f):
  Calls prog 133 #[ah fb,aa (eJ (S.base f.ty)),ah rb,ah db] w (iD S k d w Z rb db (b.extract 0 e) deep (kx S b F d f m deep (fM (b.extract 0 e) a num (eJ (S.base f.ty)) z))):=by
 rw[Hq fg h4 h2 hb I.eb];have⟨pv,rv,h1,VU,Vp,VC⟩:=hfa.blk;have VF:eI mp g=S.base f.ty:=by unfold eI;rw[dO h4,fg.eq,fg.base]
 rw[VF,fg.eq]at h1;have hD:=re S k (some d) w Z db m rv g.riv I.hd Vp.1 fg.rlen (λx hx q=>by have:=Vp.2 x hx;have:=(I.hZ x q).1;omega);have⟨VV,_,_⟩:=lO fg h4 hb;have⟨ok1,ok2⟩:=oN hff VV;have hes:(b.extract 0 e).size=e:=gJ I.eb;have hl:(m.without g.riv).fs.length<=a:=(by have:=I.wm.len.1;exact aM (bZ _ _) this);have hab:=I.az;have hze:=I.ze;have heb:=I.eb;have hbs:=I.bs;have hrb:=I.rB;have VE:=I.rZ;have VP:=I.hZ;have hBw:=I.cx.le;have VQ:rb<w.heap.size:=dX.lt I.hr
 have hV:∀w1,ee w1 rb (b.extract 0 e) z deep->UOK w1->U8 194 #[.agg #[aa (S.base f.ty),pv],ah rb] w1 (pS w1 rb (b.extract 0 e) deep (gE (b.extract 0 e) z (S.base f.ty)) vP):=
  λw1 h1 h2=>qm w1 rb _ z deep _ pv h1 Vc Vc hb h2 (by have:=I.cx.u1;have:=I.rB;omega) (by have:=I.cx.u2;have:=I.rB;omega)
 obtain⟨R,hR⟩:=Y9 (gE (b.extract 0 e) z (S.base f.ty));rw[hR]at hV⊢;clear hR;obtain⟨m1,VR⟩:=Y9 (m.without g.riv);rw[VR]at hD hl⊢;clear VR;have hu:∀w1 Z1,fK w Z w1 Z1->UOK w1:=λw1 Z1 st=>(I.cx.on ((eR.oS (rb:=rb) st).G I.cx.le (λx q=>(I.hZ x q).1) I.rB)).u
 obtain⟨pq,rfl⟩:=gK VC;obtain⟨ra,rn,rc,rfl⟩:=d5 Vp.1;have VH:((S.base f.ty:Int)==16)=false:=Ve;have hr0:=I.hr;clear VC;have Vy:g.form=0\/g.form=1\/g.form=3:=by have:=fg.form;omega
 have VI:=h1.lt;rcases Vy with hf|hf
 .rw[hf]at h1⊢
  have HA:Hid (∀(w3:aw) (Z1:ax) (v:LV),eM S (k+1) (some d) w3 Z1 db m1->(∀x,Z1 x->x<w3.heap.size)->U8 193 #[ah db,aa f.num,vP v] w3 (kr S k (some d) w3 Z1 db (if v.1=0/\gN v.2 eS=true then m1.put f.num []else m1.put f.num [qq v]))):=
   λw3 Z1 v VM VW=>Hh S k (some d) w3 Z1 db m1 f.num v VM ok1 (.inl ok2) Vc VW
  have⟨k1,k2⟩:=h1.I;go_in
  go_wp2_with fail;refine hD.V ?_;rintro en w1 ⟨rfl,VX,Vs,Vt⟩;obtain⟨Z1,st1,Vv,VS⟩:∃Z1,fK w Z w1 Z1/\eM S (k+1) (some d) w1.drew Z1 db m1/\∀x,Z1 x->x<w1.heap.size:=⟨_,Vs.clip,Vt.clip.O (λ_ _ _=>rfl),λx q=>q.2⟩;clear Vs Vt;have Vz:¬Z fb:=λq=>by have:=(VP fb q).1;omega
  have VA:=h1.step st1 Vz;have VB:dX w1.drew fb #[aa f.num,aa 0,aa (S.base f.ty),.pointer pq,.slice ra rn rc] 220:=VA;have VJ:ee w1.drew rb (b.extract 0 e) z deep:=dX.step hr0 st1.drew VE;have Vr:¬Z1 rb:=st1.not VQ VE;have Vu:¬Z1 fb:=st1.not VI Vz;have VK:UOK w1.drew:=hu w1 Z1 st1;clear k1 k2 hD;have⟨k1,k2⟩:=VA.I;have⟨k3,k4⟩:=VB.I;go_upto_region 13 with fail
  go_region_with
   (first
    |(
      go_at_call 194;refine(hV w1.drew VJ VK).V ?_;intro en w3 hq;rcases hq.part with⟨x,rfl,rfl,Vq⟩|⟨x,rfl,rfl,Vq,VN⟩;.unfold dY;go_wp2;exact⟨rfl,rfl,Z1,(eR.oS st1.drew).J (.oK Vq)⟩
      have h3:=VB.kept Vq Ve
      have⟨k5,k6⟩:=h3.I)
    |(
      go_at_call 193;refine(HA.o w3 Z1 x.1 (eR.dr Vv Vq Vr) (λi q=>aI (VS i q) Vq.size)).V ?_;rintro en w4 ⟨rfl,Z4,Vw,VO⟩;have VL:=h3.step Vw Vu
      have⟨k7,k8⟩:=VL.I))
  all_goals
   go_wp2;go_end0;refine⟨rfl,Z4,((eR.oS st1.drew).J (.oK Vq)).J (.oS Vw),?_,dX.step VN Vw Vr⟩;simp only[decide_true,true_and];exact VO
 .rcases hf with hf|hf
  all_goals
   rw[hf]at h1⊢
   have HA:Hid (∀(w3:aw) (Z1:ax) (v:LV),eM S (k+1) (some d) w3 Z1 db m1->U8 195 #[ah db,aa f.num,vP v] w3 (kr S k (some d) w3 Z1 db (m1.put f.num [qq v]))):=
    λw3 Z1 v VM=>xU S k (some d) w3 Z1 db m1 f.num v VM ok1 (.inl ok2) Vc
   have⟨k1,k2⟩:=h1.I;go_in
   go_wp2_with fail;refine hD.V ?_;rintro en w1 ⟨rfl,VX,Vs,Vt⟩;obtain⟨Z1,st1,Vv,VS⟩:∃Z1,fK w Z w1 Z1/\eM S (k+1) (some d) w1.drew Z1 db m1/\∀x,Z1 x->x<w1.heap.size:=⟨_,Vs.clip,Vt.clip.O (λ_ _ _=>rfl),λx q=>q.2⟩;clear Vs Vt;have Vz:¬Z fb:=λq=>by have:=(VP fb q).1;omega
   have VA:=h1.step st1 Vz;have VB:dX w1.drew fb _ 220:=VA;have VJ:ee w1.drew rb (b.extract 0 e) z deep:=dX.step hr0 st1.drew VE;have Vr:¬Z1 rb:=st1.not VQ VE;have Vu:¬Z1 fb:=st1.not VI Vz;have VK:UOK w1.drew:=hu w1 Z1 st1;clear k1 k2 hD;have⟨k1,k2⟩:=VA.I;have⟨k3,k4⟩:=VB.I;go_upto_region 1 with fail
   go_region_with
    (first
     |(
       go_at_call 194;refine(hV w1.drew VJ VK).V ?_;intro en w3 hq;rcases hq.part with⟨x,rfl,rfl,Vq⟩|⟨x,rfl,rfl,Vq,VN⟩;.unfold dY;go_wp2;exact⟨rfl,rfl,Z1,(eR.oS st1.drew).J (.oK Vq)⟩
       have h3:=VB.kept Vq Ve
       have⟨k5,k6⟩:=h3.I)
     |(
       go_at_call 195;refine(HA.o w3 Z1 x.1 (eR.dr Vv Vq Vr)).V ?_;rintro en w4 ⟨rfl,Z4,Vw,VO⟩;have VL:=h3.step Vw Vu
       have⟨k7,k8⟩:=VL.I))
   all_goals
    go_wp2;go_end0;refine⟨rfl,Z4,((eR.oS st1.drew).J (.oK Vq)).J (.oS Vw),?_,dX.step VN Vw Vr⟩;exact VO
section
variable {S:eD} {d sub:MT} {f:fo} {deep:Nat} {num:Int}
structure DY (S:eD)(d:MT)(f:fo)(sub:MT):Prop where
 hs:fy S f=some sub
 hm:f.isMap=false
theorem DY.kind (h:DY S d f sub)(hf:d9 d.fs f.num=some f):oJ S (some d) f.num .msgs/\(∀kd,oJ S (some d) f.num kd->kd= .msgs)/\oq S (some d) f.num=some sub:=by
 have hk:pM S f= .msgs:=by unfold pM;rw[h.hm,h.hs];rfl
 exact⟨λd' f' e1 e2=>by cases e1;rw[hf]at e2;cases e2;exact hk.sy,λkd q=>by rw[q d f rfl hf,hk],by unfold oq;simp[hf,h.hs]⟩
def vS (g:GF)(m:PM)(n:Int)(sm:PM):PM:=if g.form=2 then m.put n (m.get n++ [mV sm])else(m.without g.riv).put n [mV sm]
theorem Hs {mp:an}{b:au}{F a z e:Nat}{g:GF}{m:PM}(fg:FG S mp d f g)(hS:Fg S)(h:DY S d f sub)(hd:deep<=8)(hf:d9 d.fs f.num=some f)(hw:WM S a d m):
  kx S b F d f m deep (fM (b.extract 0 e) a num 2 z)=yn S b F sub (if g.form=2 then PM.none else((m.get f.num).headD PV.none).2.2) deep (vS g m f.num) (ol (b.extract 0 e) z deep (lw mp g)):=by
 rw[Hr fg hS h.hs hd];have⟨⟨t1,t2⟩,_⟩:=mW hw hf h.hs
 have hM:(λsm=>gX S d f m ((eY f m).1,(eY f m).2.1,sm))=vS g m f.num:=funext λsm=>by
  rw[t1,t2];unfold gX vS;rw[h.hm,fg.rep,h.hs];simp only[aU,if_false,dQ,Option.isNone_some,cU,cT];rw[yg,fg.riv];rfl
 rw[hM]
 have Wq:(eY f m).2.2=if g.form=2 then PM.none else((m.get f.num).headD PV.none).2.2:=by
  unfold eY;rw[h.hm,fg.rep];by_cases q:g.form=2;.simp only[q,decide_true,dl,if_true];rfl
  .simp[q]
 rw[Wq]
theorem iD.part {k:Nat}{w:aw}{Z:ax}{rb db:Nat}{s:au}{e:Nat}{P:Fx PM}{en:Ending}{w':aw}(h:iD S k d w Z rb db s deep (pN e P) en w'):
  (∃x,P= .error x/\en=dY x.1 x.2/\∃Z',eR w Z rb w' Z')\/∃sm,P= .ok sm/\en= .returned (.tuple #[])/\∃Z',eR w Z rb w' Z'/\eM S (k+1) (some d) w' Z' db sm:=by
 cases P with
 |error x=>exact .inl ⟨x,rfl,h.1,h.2⟩
 |ok sm=>
  obtain⟨h1,Z',h2,h3,_⟩:=h;exact .inr ⟨sm,rfl,h1,Z',h2,h3⟩
section
variable {S:eD} {k:Nat} {T T':Option MT} {w w3 w4 w5:aw} {Z Z3 Z4 Z5 C:ax} {rb nb db p y deep:Nat} {s:au} {M:PM->PM} {sm:PM}
theorem tA (Vq:eR w Z rb w3 Z3)(hn:w.heap.size<=nb)(Vp:fK w3 Z3 w4 Z4)(hC:∀b,C b->Z4 b)(Vr:eR w4 C nb w5 Z5):eR w Z rb w5 (λb=>Z4 b\/Z5 b):=by
 have V8:∀i,Z4 i->Z i\/w.heap.size<=i:=λi q=>(Vp.grow i q).elim (Vq.grow i) (λe=> .inr (aM Vq.size e))
 refine⟨Vr.os.J (Vp.os.J Vq.os),Vr.tape.J (Vp.tape.J Vq.tape),Vr.output.J (Vp.output.J Vq.output),aM Vq.size (aM Vp.size Vr.size),λi hi q1 q2=> ?_,λi q=> ?_⟩;.have h3:i<w3.heap.size:=aI hi Vq.size;have n3:=Vq.not hi q1;have n4:=Vp.not h3 n3;exact((Vr.block i (aI h3 Vp.size) (λe=>n4 (hC i e)) Vc).J (Vp.block i h3 n3)).J (Vq.block i hi q1 q2)
 .rcases q with q|q;.exact V8 i q
  .exact(Vr.grow i q).elim (λe=>V8 i (hC i e)) (λe=> .inr (aM (aM Vq.size Vp.size) e))
theorem DZ (Vq:eR w Z rb w3 Z3)(Vx:rb<w.heap.size)(hrZ:¬Z rb)(hn3:nb<w3.heap.size)(VA:¬Z3 nb)(VZ:nb≠rb)(hrr:ee w3 rb s y deep)(Vp:fK w3 Z3 w4 Z4)(hH:Oq S k T w4 Z4 db p C T' M)(Vr:eR w4 C nb w5 Z5)(V7:eM S k T' w5 Z5 p sm):
  eM S (k+1) T w5 (λb=>Z4 b\/Z5 b) db (M sm)/\ee w5 rb s y deep:=by
 have Ws:¬Z4 nb:=Vp.not hn3 VA;have V9:¬Z3 rb:=Vq.not Vx hrZ;have h3:rb<w3.heap.size:=aI Vx Vq.size;have Wt:¬Z4 rb:=Vp.not h3 V9;refine⟨hH.2 w5 Z5 sm (λb hz hc hl=>Vr.block b hl hc (λe=>Ws (e▸hz))) Vr.size Vr.grow V7,?_⟩;exact((Vr.block rb (aI h3 Vp.size) (λe=>Wt (hH.1 rb e)) (λe=>VZ e.sy)).J (Vp.block rb h3 V9)).J hrr
end
theorem Lt (w:aw)(B:Nat)(S:eD)(mp:an)(k:Nat)(d:MT)(f:fo)(g:GF)(fb:Nat)(Z:ax)(rb db:Nat)(b:au)(e a z deep F:Nat)(num:Int)(m:PM)(sub:MT)
  (I:px w B S mp k d Z rb db b e a z deep m) (hfa:eZ w (λb=>b<B) mp g fb) (fg:FG S mp d f g) (hff:d9 d.fs f.num=some f) (hS:Fg S) (hM:DY S d f sub) (hkd:k+deep=8) (hRd:Ow S mp B b F) (hF:e-z<=F):
  Calls prog 133 #[ah fb,aa 2,ah rb,ah db] w (iD S k d w Z rb db (b.extract 0 e) deep (kx S b F d f m deep (fM (b.extract 0 e) a num 2 z))):=by
 have h4:g.form≠4:=λq=>by have:=hM.hm;rw[fg.map,q]at this;cases this
 have⟨VV,Wh,Wk,Wl⟩:=tz (deep:=deep) fg hS hM.hs Vc;rw[Hs fg hS hM Vc hff I.wm];have⟨ok1,ok2,Wm⟩:=hM.kind hff;have⟨pv,rv,h1,hfB,Vt,VW⟩:=hfa.blk;rw[dO h4,fg.eq]at VW;have VL:S.msg f.ty=some sub:=by have:=hM.hs;unfold fy at this;rw[hM.hm]at this;exact this
 have⟨VC,gs,WD,WE,WF⟩:=I.cx.md f.ty sub VL;rw[WD]at VW;subst VW;rw[Wl,fg.eq]at h1;have hD:=re S k (some d) w Z db m rv g.riv I.hd Vt.1 fg.rlen (λx hx q=>by have:=Vt.2 x hx;have:=(I.hZ x q).1;omega);have Wu:(b.extract 0 e).size=e:=gJ I.eb;have hab:=I.az;have hze:=I.ze;have Wv:=I.eb;have hbs:=I.bs;have Wb:=I.rB;have VM:=I.rZ;have VH:=I.hZ;have VN:=I.cx.le;have Vx:rb<w.heap.size:=dX.lt I.hr;have hfl:=h1.lt;have hL:=λw1 (h:eZ w1 (λb=>b<B) mp g fb)=>sX w1 (λb=>b<B) mp g fb h
 have VO:=λw1 (h:ee w1 rb (b.extract 0 e) z deep)=>qU w1 rb (b.extract 0 e) z deep (lw mp g) h Vc Vc Vc Wh Wk
 obtain⟨VD,Vu⟩:=Y9 (lw mp g);rw[Vu]at hL VO⊢
 have Wd:Hid (∀y:Nat×Nat,ol (b.extract 0 e) z deep VD= .ok y->z<y.1/\y.1<=y.2/\y.2<=e/\1<=k/\(b.extract 0 e).extract 0 y.2=b.extract 0 y.2):=λy hy=>by
  have⟨q1,q2⟩:=wO hy;have⟨v0,v1,v2⟩:=ju (z:=y.1) (e:=y.2) q1;rw[Wu]at v2;have hlv:1<=VD:=(by rw[<-Vu];unfold lw;rw[dO (λq=>h4 q.1),dP Wl];exact cK _);exact⟨v0,v1,v2,Vc,kI Wv v2⟩
 clear Vu Wh Wk VV;obtain⟨R,hR⟩:=Y9 (ol (b.extract 0 e) z deep VD);rw[hR]at VO Wd⊢;clear hR;have Ww:¬Z fb:=λq=>by have:=(VH fb q).1;omega
 obtain⟨m0,fn,Wn,Wo,HP⟩:∃m0 fn,(if g.form=2 then PM.none else((m.get f.num).headD PV.none).2.2)=m0/\((g.form=2/\fn=190\/(g.form==2)=false/\fn=191)/\WM S a sub m0)/\Hid (∀k',k=k'+1->∀(w3:aw) (Z3:ax),eM S (k+1) (some d) w3 Z3 db (m.without g.riv)->(∀x,Z3 x->x<w3.heap.size)->U8 fn #[ah db,aa f.num] w3 (tm S k (some d) w3 Z3 db (some sub) m0 (vS g m f.num))):=by
  by_cases h2:g.form=2
  .refine⟨_,_,rfl,⟨.inl ⟨h2,rfl⟩,?_⟩,?_⟩<;>rw[dP h2]
   .exact WM.none S a sub
   .rintro k' rfl w3 Z3 Vv VX;have hlen:=I.wm.len;rw[fg.lone Vc,jo]at Vv;have:=ot S k' (some d) w3 Z3 db m f.num (Vv.slot Vc) ok1 ok2 (λ⟨d',f',e1,e2,e3⟩=>by cases e1;rw[hff]at e2;cases e2;rw[fg.rep,h2]at e3;cases e3) (by have:=hlen.2.2 f.num;omega) (λq=>by have:=VX _ q;omega);rw[Wm]at this;have VP:vS g m f.num=λm'=>m.put f.num (m.get f.num++ [mV m']):=funext λsm=>by unfold vS;rw[dP h2]
    rw[VP];exact this
  .refine⟨_,_,rfl,⟨.inr ⟨by simpa using h2,rfl⟩,?_⟩,?_⟩<;>rw[dO h2]
   .have:=(mW I.wm hff hM.hs).2;unfold eY at this;rw[hM.hm,fg.rep]at this;simpa [h2]using this
   .rintro k' rfl w3 Z3 Vv VX;have Wx:(m.without g.riv).get f.num=m.get f.num:=vA (by rw[fg.riv];exact Hi d f);have hlen:(m.without g.riv).fs.length<=a:=aM (bZ _ _) I.wm.len.1;have VQ:vu (some d) f.num:=⟨d,f,rfl,hff,by rw[fg.rep];simp[h2]⟩;have:=xW S k' (some d) w3 Z3 db (m.without g.riv) f.num Vv ok1 ok2 VQ Vc VX;rw[Wm,Wx]at this;have VP:vS g m f.num=λm'=>(m.without g.riv).put f.num [mV m']:=funext λsm=>by unfold vS;rw[dO h2]
    rw[VP];exact this
 rw[Wn]
 have Wy:Hid (∀k',k=k'+1->∀(w4:aw) (C:ax) (y:Nat×Nat) (nb p:Nat),Below B w w4->z<y.1->y.1<=y.2->y.2<=e->ee w4 nb (b.extract 0 y.2) y.1 ((deep:Int)+1)->eM S k (some sub) w4 C p m0->(∀x,C x->B<=x/\x<w4.heap.size)->B<=nb->¬C nb->
   U8 83 #[ah VC,ah nb,ah p] w4 (iD S k' sub w4 C nb p (b.extract 0 y.2) (deep+1) (pN y.2 (eW S b F sub m0 y.1 y.2 (deep+1))))):=by
  rintro k' rfl w4 C y nb p VK v0 v1 v2 WG VY hC WH VU;exact hRd w4 C sub _ y.1 y.2 (deep+1) k' VC gs sub.name nb p (I.cx.on VK) (WE.O (λx q _=>VK.block x q)) WF (hS.good.sub hM.hs) (by rw[Int.natCast_succ];exact WG) VY hC WH VU v1 Vc Vc Vc (Wo.2.V Vc)
 have Wz:∀w1,Below B w w1->eZ w1 (λb=>b<B) mp g fb:=λw1 VR=>hfa.O (λx q _=>VR.block x q)
 have hr0:=I.hr;clear Wn;obtain⟨m1,Wp⟩:=Y9 (m.without g.riv);rw[Wp]at hD HP;clear Wp;obtain⟨ra,rn,rc,rfl⟩:=d5 Vt.1;have hf4:(g.form==4)=false:=by simpa using h4
 unfold gZ at h1;have⟨k1,k2⟩:=h1.I;go_in
 go_wp2_with fail;refine hD.V ?_;rintro en w1 ⟨rfl,Z1',Vs,VE⟩;obtain⟨Z1,st1,WJ,VF⟩:∃Z1,eR w Z rb w1.drew Z1/\eM S (k+1) (some d) w1.drew Z1 db m1/\∀x,Z1 x->B<=x/\x<w1.heap.size:=⟨_,.oS Vs.clip.drew,VE.clip.O (λ_ _ _=>rfl),λx q=>⟨(Vs.grow x q.1).elim (λe=>(VH x e).1) (λe=>aM VN e),q.2⟩⟩;have We:=h1.step Vs Ww;have WA:ee w1.drew rb (b.extract 0 e) z deep:=dX.step hr0 Vs.drew VM;clear Vs VE k1 k2 hD;have VI:dX w1.drew fb #[aa f.num,aa g.form,aa 16,ah VC,.slice ra rn rc] 220:=We;have VR:Below B w w1.drew:=st1.G VN (λx q=>(VH x q).1) Wb;have VS:¬Z1 rb:=st1.not Vx VM;have⟨k1,k2⟩:=We.I;have⟨k3,k4⟩:=VI.I;have Vy:Hid (∀y:Nat×Nat,yn S b F sub m0 deep (vS g m f.num) (.ok y)=Lq (vS g m f.num) y.2 (eW S b F sub m0 y.1 y.2 (deep+1))):=λ_=>rfl
 rcases Wo.1 with⟨h2,rfl⟩|⟨WB,rfl⟩;have WB:(g.form==2)=true:=by simpa using h2
 clear h2
 focus go_upto_region 7 with fail
 rotate_left
 focus go_upto_region 9 with fail
 all_goals
  go_region_held2 (λw'=>w'.cell? (aj fb 0)=some (aa f.num)/\w'.cell? (aj fb 3)=some (ah VC))
   (first|exact⟨h5.cell 0,h5.cell 3⟩|exact⟨VJ.cell 0,VJ.cell 3⟩|exact⟨h3.cell 0,h3.cell 3⟩|exact⟨VI.cell 0,VI.cell 3⟩)
   (first
    |(
      go_at_call 186;refine(hL w1.drew (Wz w1.drew VR)).V ?_
      rintro en w2 ⟨rfl,rfl⟩)
    |(
      go_at_call 185;refine(VO w1.drew WA).V ?_;intro en w3 hq;rcases hq.part with⟨x,rfl,rfl,Vw⟩|⟨y,nb,rfl,rfl,Vw,WK,VZ,VG,V0⟩;.unfold dY;go_wp2;exact⟨rfl,rfl,Z1,st1.J (.oK Vw)⟩
      have⟨v0,v1,v2,v3,v4⟩:=Wd.o y rfl;obtain⟨k',rfl⟩:∃k',k=k'+1:=⟨k-1,Vc⟩;have h3:=VI.kept Vw Ve;have Vq:=st1.J (.oK Vw);have Vv:=eR.dr WJ Vw VS;have hw1:w.heap.size<=w1.heap.size:=st1.size;have hw3:w1.heap.size<=w3.heap.size:=Vw.size;have hnb1:w1.heap.size<=nb:=WK;have Vz:nb<w3.heap.size:=dX.lt VG;have VA:¬Z1 nb:=λq=>by have:=(VF nb q).2;omega
      have VB:ee w3 nb (b.extract 0 y.2) y.1 ((deep:Int)+1):=by rw[<-v4];exact VG)
    |(
      first|go_at_call 191|go_at_call 190
      refine(HP.o k' rfl w3 Z1 Vv (λx q=>by have:=(VF x q).2;omega)).V ?_;rintro en w4 ⟨p,Z4,C,rfl,Vp,VY,hH,WL⟩;have Wf:∀x,Z4 x->B<=x:=λx q=>(Vp.grow x q).elim (λe=>(VF x e).1) (λe=>Vc)
      have VJ:=h3.step Vp (λq=>by have:=(VF fb q).1;omega);have VT:ee w4 nb (b.extract 0 y.2) y.1 ((deep:Int)+1):=dX.step VB Vp VA;have VK:Below B w w4:=⟨Vp.os.J Vq.os,Vp.tape.J Vq.tape,Vp.output.J Vq.output,aM Vq.size Vp.size,λi hi=>(Vp.block i Vc (λq=>by have:=(VF i q).1;omega)).J ((Vq.G VN (λx q=>(VH x q).1) Wb).block i hi)⟩
      have VU:¬C nb:=λq=>Vp.not Vz VA (hH.1 nb q))
    |(
      go_at_call 83;refine(Wy.o k' rfl w4 C y nb p VK v0 v1 v2 VT VY (λx q=>⟨Wf x (hH.1 x q),WL x q⟩) Vc VU).V ?_;intro en w5 WN;rcases WN.part with⟨x,hP,rfl,Z5,Vr⟩|⟨sm,hP,rfl,Z5,Vr,V7⟩;.unfold dY;go_wp2;rw[Vy.o y,hP];exact⟨rfl,rfl,_,tA Vq Vc Vp hH.1 Vr⟩
      have h5:dX w5 fb #[aa f.num,aa g.form,aa 16,ah VC,.slice ra rn rc] 220:=(Vr.block fb VJ.lt (λq=>by have:=Wf fb (hH.1 fb q);omega) Vc).J VJ;have WC:Hid (eW S b F sub m0 y.1 y.2 (deep+1)= .ok sm):=hP
      clear hP))
  all_goals
   go_wp2;go_end0;rw[Vy.o y,WC.o];exact⟨rfl,_,tA Vq Vc Vp hH.1 Vr,DZ Vq Vx VM Vz VA VZ V0 Vp hH Vr V7⟩
end
section
variable {S:eD} {mp:an} {d:MT} {f:fo} {g:GF} {num:Int}
theorem Oy:gN lK xA=false/\gN lK Dt=false/\gN lK eS=false/\i8 lK=false:=Vg
theorem Lu {s t:au}{n:Int}(hb:jB mp t=S.base t)(hn:S.base t=16<->(S.msg t).isSome=true):FG S mp d ⟨s,t,eS,lK,n⟩ (lL s t n):=by
 obtain⟨o1,o2,o3,o4⟩:=Oy;refine⟨rfl,.inr (.inl rfl),by unfold fo.isMap lL;grind,by unfold fo.isRep lL;grind,by unfold lL;grind,?_,λ_=>rfl,by simp[lL],hb,hn,λq=>by simp[lL]at q⟩;unfold lF lL;simp only
 have:∀o:fo,(gN o.how lK&&i8 o.how&&decide (o.num≠n))=false:=λo=>by
  cases h:gN o.how lK with
  |false=>rfl
  |true=>
   have:i8 o.how=false:=(by rw[show o.how=lK from jH (gO.1 h),o4]);grind
 rw[List.filter_eq_nil_iff.2 (λo _=>by grind)];rfl
theorem Cb (fg:FG S mp d f g)(h4:g.form=4):lH S mp (eP f) [lL oe f.key 1,lL p9 f.ty 2]:=by
 have⟨q1,q2,q3,_⟩:=fg.key h4;refine⟨uq _ _,Vd,λn hn=> ?_,λn f' hn=> ?_⟩
 .unfold eP at hn;simp only[d9]at hn;split at hn;.cases hn
  .split at hn;.cases hn
   .rename_i h1 h2
    exact pt λx hx=>by
     simp only[aS,bX,or_false]at hx;rcases hx with rfl|rfl;.exact h1
     .exact h2
 .unfold eP at hn;simp only[d9]at hn;split at hn;.rename_i e;cases hn;subst e;exact⟨_,DI _ _,Lu q1 ⟨λq=>Vc,λq=>by grind⟩⟩
  .split at hn;.rename_i e;cases hn;subst e;exact⟨_,DJ _ _,Lu fg.base fg.nest⟩
   grind
def zV (f:fo)(m:PM)(sm:PM):PM:=m.put f.num (jV f.key (m.get f.num) (mV (gA sm)))
theorem Ht {b:au}{F deep a z e:Nat}{m:PM}(fg:FG S mp d f g)(hS:Fg S)(h4:g.form=4)(hd:deep<=8):
  kx S b F d f m deep (fM (b.extract 0 e) a num 2 z)=yn S b F (eP f) PM.none deep (zV f m) (ol (b.extract 0 e) z deep (lw mp g)):=by
 have hm:f.isMap=true:=by rw[fg.map,h4];rfl
 rw[Hr fg hS (sub:=eP f) (by unfold fy;rw[dP hm]) hd];have Wv:eY f m=PV.none:=by unfold eY;grind
 rw[Wv]
 have hM:(λsm=>gX S d f m (PV.none.1,PV.none.2.1,sm))=zV f m:=funext λsm=>by
  unfold gX zV;rw[dP hm];rfl
 rw[hM];rfl
theorem tB {w w3 w5:aw}{Z Z3 Z5:ax}{rb nb eb:Nat}(Vr:eR w Z rb w3 Z3)(hn:w.heap.size<=nb)(he:w.heap.size<=eb)(Vq:eR w3 (λx=>x=eb) nb w5 Z5):eR w Z rb w5 (λb=>Z3 b\/Z5 b):=
 ⟨Vq.os.J Vr.os,Vq.tape.J Vr.tape,Vq.output.J Vr.output,aM Vr.size Vq.size,λi hi q1 q2=>(Vq.block i (aI hi Vr.size) Vc Vc).J (Vr.block i hi q1 q2),
  λi q=>q.elim (Vr.grow i) (λq=>(Vq.grow i q).elim (λe=> .inr Vc) (λe=> .inr (aM Vr.size e)))⟩
theorem Lw (w:aw)(B:Nat)(S:eD)(mp:an)(k:Nat)(d:MT)(f:fo)(g:GF)(fb:Nat)(Z:ax)(rb db:Nat)(b:au)(e a z deep F:Nat)(num:Int)(m:PM)
  (I:px w B S mp k d Z rb db b e a z deep m) (hfa:eZ w (λb=>b<B) mp g fb) (fg:FG S mp d f g) (hff:d9 d.fs f.num=some f) (hS:Fg S) (h4:g.form=4) (hkd:k+deep=8) (hgd:mg S d) (hRd:Ow S mp B b F) (hF:e-z<=F):
  Calls prog 133 #[ah fb,aa 2,ah rb,ah db] w (iD S k d w Z rb db (b.extract 0 e) deep (kx S b F d f m deep (fM (b.extract 0 e) a num 2 z))):=by
 have hm:f.isMap=true:=by rw[fg.map,h4];rfl
 have Vu:fy S f=some (eP f):=by unfold fy;rw[dP hm]
 have⟨VV,Wo,Wp,Wq⟩:=tz (deep:=deep) fg hS Vu Vc;rw[Ht fg hS h4 Vc];have⟨WO,kq2,WP,WQ⟩:=fg.key h4;have Ww:pM S f= .ents f.key:=by unfold pM;rw[dP hm]
 have ok1:oJ S (some d) f.num (.ents f.key):=λd' f' e1 e2=>by grind
 have ok2:∀kd,oJ S (some d) f.num kd->kd= .ents f.key:=λkd q=>by rw[q d f rfl hff,Ww]
 have⟨pv,rv,h1,hfB,Vs,Ws⟩:=hfa.blk;rw[dP h4]at Ws;obtain⟨Vy,rfl,Wt⟩:=Ws;rw[fg.eq]at Wt;rw[Wq,fg.eq,h4]at h1;have VJ:=fg.lone Vc;rw[VJ]at Vs;have hD:=re S k (some d) w Z db m rv [] I.hd Vs.1 Vd (λx hx q=>by have:=Vs.2 x hx;have:=(I.hZ x q).1;omega);rw[jo]at hD;have Wx:(b.extract 0 e).size=e:=gJ I.eb;have hab:=I.az;have hze:=I.ze;have Wy:=I.eb;have Wz:=I.bs;have VK:=I.rB;have VY:=I.rZ;have VG:=I.hZ;have VH:=I.cx.le;have WA:rb<w.heap.size:=dX.lt I.hr;have hfl:=h1.lt;have hL:=λw1 (h:eZ w1 (λb=>b<B) mp g fb)=>sX w1 (λb=>b<B) mp g fb h
 have VL:=λw1 (h:ee w1 rb (b.extract 0 e) z deep)=>qU w1 rb (b.extract 0 e) z deep (lw mp g) h Vc Vc Vc Wo Wp
 have VZ:=λw1 (h:eZ w1 (λb=>b<B) mp g fb)=>Hm w1 (λb=>b<B) mp g fb h h4
 have V0:=λw1 pv=>pr w1 (S.base f.key) pv Vc
 rw[fg.eq,WO]at VZ;rw[WQ]at V0;obtain⟨VD,Vv⟩:=Y9 (lw mp g);rw[Vv]at hL VL⊢
 have V7:Hid (∀y:Nat×Nat,ol (b.extract 0 e) z deep VD= .ok y->z<y.1/\y.1<=y.2/\y.2<=e/\1<=k/\(b.extract 0 e).extract 0 y.2=b.extract 0 y.2):=λy hy=>by
  have⟨q1,q2⟩:=wO hy;have⟨v0,v1,v2⟩:=ju (z:=y.1) (e:=y.2) q1;rw[Wx]at v2;have hlv:1<=VD:=(by rw[<-Vv];unfold lw;rw[Wq];split<;>simp);exact⟨v0,v1,v2,Vc,kI Wy v2⟩
 clear Vv Wo Wp VV;obtain⟨R,hR⟩:=Y9 (ol (b.extract 0 e) z deep VD);rw[hR]at VL V7⊢;clear hR;have VM:¬Z fb:=λq=>by grind
 have hlen:=I.wm.len
 have WB:Hid (∀k',k=k'+1->∀(w4:aw) (C:ax) (y:Nat×Nat) (nb p:Nat),Below B w w4->z<y.1->y.1<=y.2->y.2<=e->ee w4 nb (b.extract 0 y.2) y.1 ((deep:Int)+1)->eM S k (some (eP f)) w4 C p PM.none->(∀x,C x->B<=x/\x<w4.heap.size)->B<=nb->¬C nb->
   U8 83 #[ah Vy,ah nb,ah p] w4 (iD S k' (eP f) w4 C nb p (b.extract 0 y.2) (deep+1) (pN y.2 (eW S b F (eP f) PM.none y.1 y.2 (deep+1))))):=by
  rintro k' rfl w4 C y nb p Wu v0 v1 v2 hrn WR hC WS WT;exact hRd w4 C (eP f) _ y.1 y.2 (deep+1) k' Vy _ eS nb p (I.cx.on Wu) (Wt.msg.O (λx q _=>Wu.block x q)) (Cb fg h4) (hS.good.sub Vu) (by grind) WR hC WS WT v1 Vc Vc Vc (WM.none _ _ _)
 have VN:Hid (∀k',k=k'+1->∀(w6:aw) (Z6 E:ax) (eb:Nat) (y:Nat×Nat) (sm:PM),z<y.1->y.1<=y.2->y.2<=e->eW S b F (eP f) PM.none y.1 y.2 (deep+1)= .ok sm->eM S (k+1) (some d) w6 Z6 db m->eM S k (some (eP f)) w6 E eb sm->(∀x,E x->¬Z6 x)->(∀x,Z6 x->x<w6.heap.size)->(∀x,E x->x<w6.heap.size)->
   U8 187 #[ah db,aa f.num,.bool (fi jm f.key),ah eb] w6 λen w'=>en= .returned (.tuple #[])/\∃Z',fK w6 (λb=>Z6 b\/E b) w' Z'/\eM S (k+1) (some d) w' Z' db (zV f m sm)):=by
  rintro k' rfl w6 Z6 E eb y sm v0 v1 v2 WU VT WV VW WW WX;have V8:=lx hS.good Wz F (eP f) PM.none y.1 y.2 (deep+1) sm WU (hS.good.sub Vu) v1 Vc (WM.none _ _ _);have V9:=BP (hgd f (fA hff).2 hm) V8;have hel:=V8.len.1;exact vz S k' (some d) w6 Z6 E db eb m sm f.num f.key _ VT WV.toKey WP VW WW WX ok1 ok2 rfl V9.ky (by have⟨r,hr⟩:=V9.key;grind) Vc (by grind) Vc
 have Wb:∀w1,Below B w w1->eZ w1 (λb=>b<B) mp g fb:=λw1 VO=>hfa.O (λx q _=>VO.block x q)
 have hr0:=I.hr;obtain⟨ra,rn,rc,rfl⟩:=d5 Vs.1;unfold gZ at h1;have⟨k1,k2⟩:=h1.I;go_in
 go_wp2_with fail;refine hD.V ?_;rintro en w1 ⟨rfl,Z1',Vp,VE⟩;have⟨B1,KE⟩:=d8 w1 #[ai,ai] 183;have Wd:w.heap.size<=w1.heap.size:=Vp.size
 obtain⟨Z1,st1,WY,WZ⟩:∃Z1,eR w Z rb (w1.alloc (am #[ai,ai] 183)) Z1/\eM S (k+1) (some d) (w1.alloc (am #[ai,ai] 183)) Z1 db m/\∀x,Z1 x->B<=x/\x<w1.heap.size:=
  ⟨_,.oS (Vp.clip.G B1),VE.clip.O (λx _ q=>B1.block x q),λx q=>⟨(Vp.grow x q.1).elim (λe=>(VG x e).1) (λe=>aM VH e),q.2⟩⟩
 have We:=(h1.step Vp VM).G B1 (h1.step Vp VM).lt;have Wf:ee (w1.alloc (am #[ai,ai] 183)) rb (b.extract 0 e) z deep:=dX.step hr0 (Vp.G B1) VY;have Wh:=h1.step Vp VM;clear Vp VE k1 k2 hD;have⟨k1,k2⟩:=Wh.I;go_upto_region 4 with fail
 have hew:w1.heap.size<(w1.alloc (am #[ai,ai] 183)).heap.size:=KE.lt;generalize w1.alloc (am #[ai,ai] 183)=wa at*;generalize w1.heap.size=eb at*;clear k1 k2 Wh B1;have VI:dX wa.drew fb #[aa f.num,aa 4,aa 16,ah Vy,.slice ra rn rc] 220:=We;have VO:Below B w wa:=st1.G VH (λx q=>(VG x q).1) VK;have VP:Below B w wa.drew:=VO.drew;have VQ:ee wa.drew rb (b.extract 0 e) z deep:=Wf;have Vz:¬Z1 rb:=st1.not WA VY;have VR:eM S (k+1) (some d) wa.drew Z1 db m:=WY.O (λ_ _ _=>rfl);have WC:dX wa.drew eb #[ai,ai] 183:=KE;have VA:eR w Z rb wa.drew Z1:=st1.J (.oB (Below.refl _ _).drew);have⟨k1,k2⟩:=We.I;have VB:Hid (∀y:Nat×Nat,yn S b F (eP f) PM.none deep (zV f m) (.ok y)=Lq (zV f m) y.2 (eW S b F (eP f) PM.none y.1 y.2 (deep+1))):=λ_=>rfl
 go_region_held2 (λw'=>w'.cell? (aj fb 0)=some (aa f.num)/\w'.cell? (aj fb 3)=some (ah Vy))
  (first|exact⟨h5.cell 0,h5.cell 3⟩|exact⟨h3.cell 0,h3.cell 3⟩|exact⟨VI.cell 0,VI.cell 3⟩)
  (first
   |(
     go_at_call 186;refine(hL wa.drew (Wb wa.drew VP)).V ?_
     rintro en w2 ⟨rfl,rfl⟩)
   |(
     go_at_call 185;refine(VL wa.drew VQ).V ?_;intro en w3 hq;rcases hq.part with⟨x,rfl,rfl,Vw⟩|⟨y,nb,rfl,rfl,Vw,W5,W6,VX,VF⟩;.unfold dY;go_wp2;exact⟨rfl,rfl,Z1,VA.J (.oK Vw)⟩
     have⟨v0,v1,v2,v3,v4⟩:=V7.o y rfl;obtain⟨k',rfl⟩:∃k',k=k'+1:=⟨k-1,Vc⟩;have h3:=VI.kept Vw (by grind);have Vr:=VA.J (.oK Vw);have WD:=eR.dr VR Vw Vz;have hw3:wa.heap.size<=w3.heap.size:=Vw.size;have hnb1:wa.heap.size<=nb:=W5;have hnl3:nb<w3.heap.size:=dX.lt VX;have WE:¬Z1 nb:=λq=>by grind
     have WF:=WC.kept Vw (by grind);have WG:eM S (k'+1) (some (eP f)) w3 (λx=>x=eb) eb PM.none:=eM.fresh WF;have WH:Below B w w3:=Vr.G VH (λx q=>(VG x q).1) VK
     have VC:ee w3 nb (b.extract 0 y.2) y.1 ((deep:Int)+1):=by grind)
   |(
     go_at_call 83;refine(WB.o k' rfl w3 (λx=>x=eb) y nb eb WH v0 v1 v2 VC WG (λx q=>Vc) Vc Vc).V ?_;intro en w5 W7;rcases W7.part with⟨x,hP,rfl,Z5,Vq⟩|⟨sm,hP,rfl,Z5,Vq,W8⟩;.unfold dY;go_wp2;rw[VB.o y,hP];exact⟨rfl,rfl,_,tB Vr Vc Wd Vq⟩
     have h5:dX w5 fb #[aa f.num,aa 4,aa 16,ah Vy,.slice ra rn rc] 220:=(Vq.block fb h3.lt Vc Vc).J h3;have Wk:Hid (eW S b F (eP f) PM.none y.1 y.2 (deep+1)= .ok sm):=hP
     clear hP))
 have WJ:∀x,Z5 x->x=eb\/w3.heap.size<=x:=Vq.grow;have VS:=W8.clip;have VT:eM S (k'+1+1) (some d) w5 Z1 db m:=WD.O λx q hl=>Vq.block x hl (λe=>by grind) (λe=>WE (e▸q))
 have Wl:ee w5 rb (b.extract 0 e) y.2 deep:=(Vq.block rb (dX.lt VF) Vc (λe=>W6 e.sy)).J VF;have Wm:=tB Vr Vc Wd Vq;have WK:Below B w w5:=Wm.G VH (λx q=>(VG x q).1) VK;have VU:dX w5.drew fb #[aa f.num,aa 4,aa 16,ah Vy,.slice ra rn rc] 220:=h5;have hw5:w3.heap.size<=w5.heap.size:=Vq.size;clear k1 k2;have⟨k1,k2⟩:=h5.I;go_upto_region 5 with fail
 go_region_held2 (λw'=>w'.cell? (aj fb 0)=some (aa f.num))
  (first|exact h9.cell 0|exact h8.cell 0|exact h7.cell 0|exact VU.cell 0)
  (first
   |(
     go_at_call 188;refine(VZ w5.drew (Wb w5.drew WK.drew)).V ?_;rintro en w7 ⟨W9,rfl,B7⟩
     have h7:=VU.G B7 VU.lt)
   |(
     go_at_call 189;refine(V0 w7 W9).V ?_;rintro en w8 ⟨rfl,B8⟩;have h8:=h7.G B8 h7.lt
     have Vx:ak w5 w8:=dU (Va w5).drew (dU B7 B8))
   |(
     go_at_call 187;refine(VN.o k' rfl w8 Z1 (λx=>Z5 x/\x<w5.heap.size) eb y sm v0 v1 v2 Wk.o (VT.O (λx _ q=>Vx.block x q)) (VS.O (λx _ q=>Vx.block x q)) (λx q1 q2=>by grind) (λx q=>by have:=(WZ x q).2;have:=Vx.size;omega) (λx q=>aI q.2 Vx.size)).V ?_;rintro en w9 ⟨rfl,Z9,Vt,Xa⟩;have Wn:∀x,x<wa.heap.size->x≠eb->¬Z1 x->¬(Z1 x\/(Z5 x/\x<w5.heap.size)):=λx q1 q2 q3 q=>q.elim q3 (λq=>(WJ x q.1).elim q2 (λe=>Vc))
     have h9:=h8.step Vt (Wn fb VI.lt Vc (λq=>by grind))))
 all_goals
  go_wp2;go_end0;rw[VB.o y,Wk.o];have WL:ee w8 rb (b.extract 0 e) y.2 deep:=dX.G Wl Vx (dX.lt Wl);have WN:eR w Z rb w8 (λx=>Z1 x\/Z5 x):=Wm.J (.oB Vx);refine⟨rfl,Z9,WN.J ⟨Vt.os,Vt.tape,Vt.output,Vt.size,λi hi q _=>Vt.block i hi (λe=>q (e.imp id (λe=>e.1))),λi q=>(Vt.grow i q).imp (λe=>e.imp id (λe=>e.1)) id⟩,Xa,?_⟩;exact dX.step WL Vt (Wn rb (dX.lt Wf) Vc Vz)
end
end
def uE {k:Nat}(hk:k<=15):fj k=true<->eJ k≠2:=by
 constructor;.intro h q;rcases BQ hk q with rfl|rfl<;>simp[fj]at h
 .intro h;unfold fj;by_cases h1:k=13;.subst h1;exact absurd rfl h
  .by_cases h2:k=14;.subst h2;exact absurd rfl h
   .simp;omega
def Cc (S:eD)(t:au):S.base t<=16:=by
 unfold eD.base;split;.rename_i k hk;have:=BL _ _ _ _ hk;have e:mZ.length=15:=Vg;omega
 .split<;>omega
def oO {S:eD}{mp:an}{d:MT}{f:fo}{g:GF}{k:Nat}(fg:FG S mp d f g):mf mp g k=true<->(k=fV S f\/(k=2/\f.isRep=true)):=by
 have Vu:=Cc S f.ty
 have hb:eJ (eI mp g)=fV S f:=by
  unfold eI fV eD.wire;rw[fg.map,fg.eq,fg.base];by_cases h:g.form=4;.simp[h];rfl
  .simp[h]
 unfold mf io;rw[hb,fg.rep];simp only[cM,aQ,beq_iff_eq,dQ];constructor
 .rintro(h|⟨h1,h2,h3⟩);.exact .inl Vc
  .exact .inr ⟨Vc,h2⟩
 .rintro(h|⟨h1,h2⟩);.exact .inl Vc
  .by_cases q:fV S f=2;.exact .inl Vc
   .refine .inr ⟨Vc,h2,?_⟩;have Vs:eI mp g=S.base f.ty:=by unfold eI;rw[dO Vc,fg.eq,fg.base]
    rw[hb.sy,Vs]at q;rw[Vs];have:S.base f.ty≠16:=λe=>q (by rw[e];rfl)
    exact(uE Vc).2 q
def Ce (w:aw)(B:Nat)(S:eD)(mp:an)(k:Nat)(d:MT)(f:fo)(g:GF)(fb:Nat)(Z:ax)(rb db:Nat)(b:au)(e a z deep F kn:Nat)(num:Int)(m:PM)
  (I:px w B S mp k d Z rb db b e a z deep m) (hfa:eZ w (λb=>b<B) mp g fb) (fg:FG S mp d f g) (hff:d9 d.fs f.num=some f) (hS:Fg S) (hkd:k+deep=8) (hgd:mg S d) (hRd:Ow S mp B b F) (hF:e-z<=F) (hfit:mf mp g kn=true):
  U8 133 #[ah fb,aa kn,ah rb,ah db] w (iD S k d w Z rb db (b.extract 0 e) deep (kx S b F d f m deep (fM (b.extract 0 e) a num kn z))):=by
 have hq:=(oO fg).1 hfit;have Vu:=Cc S f.ty;by_cases h4:g.form=4
 .have hm:f.isMap=true:=by rw[fg.map,h4];rfl
  obtain rfl:kn=2:=by
   rcases hq with h|⟨h,_⟩;.rw[h];unfold fV;rw[dP hm]
   .exact h
  exact Lw w B S mp k d f g fb Z rb db b e a z deep F num m I hfa fg hff hS h4 hkd hgd hRd hF
 .have hm:f.isMap=false:=by rw[fg.map];simp[h4]
  have Vq:fV S f=eJ (S.base f.ty):=by unfold fV eD.wire;rw[hm];rfl
  by_cases hb:S.base f.ty=16
  .obtain rfl:kn=2:=by
    rcases hq with h|⟨h,_⟩;.rw[h,Vq,hb];rfl
    .exact h
   have:=fg.nest.1 hb;have⟨sub,Vr⟩:=cn.1 this;have hM:DY S d f sub:=⟨by unfold fy;rw[hm];exact Vr,hm⟩;exact Lt w B S mp k d f g fb Z rb db b e a z deep F num m sub I hfa fg hff hS hM hkd hRd hF
  .have Vp:S.base f.ty<=15:=Vc;by_cases h2:g.form=2
   .refine Lr w B S mp k d f g fb Z rb db b e a z deep F num kn m I hfa fg h2 Vp hff ?_;rcases hq with h|⟨h,_⟩;.exact .inl (by rw[h,Vq])
    .by_cases q:eJ (S.base f.ty)=2;.exact .inl Vc
     .exact .inr ⟨Vc,q⟩
   .have Vv:f.isRep=false:=by rw[fg.rep];simp[h2]
    obtain rfl:kn=eJ (S.base f.ty):=by
     rcases hq with h|⟨_,h⟩;.rw[h,Vq]
     .rw[Vv]at h;cases h
    exact Ls w B S mp k d f g fb Z rb db b e a z deep F num m I hfa fg h4 h2 Vp hff
def FR {s:au}{a:Nat}{x:(Int×Int)×Nat}(h:jW s a= .ok x):∃kn:Nat,x.1.2=kn/\(kn=0\/kn=1\/kn=2\/kn=5)/\a<x.2/\x.2<=s.size:=by
 unfold jW at h
 cases hv:iT s a s.size with
 |error y=>rw[hv]at h;cases h
 |ok y=>
  rw[hv]at h;have⟨v0,v1,v2,v3⟩:=jj (m:=y.1) (z:=y.2) hv;simp only at h;split at h;.cases h
  .split at h
   .rename_i q;cases h;rcases q with q|q|q|q;.exact⟨0,q,.inl rfl,v2,v3⟩
    .exact⟨1,q,.inr (.inl rfl),v2,v3⟩
    .exact⟨2,q,.inr (.inr (.inl rfl)),v2,v3⟩
    .exact⟨5,q,.inr (.inr (.inr rfl)),v2,v3⟩
   .cases h
def uF {s:au}{a z:Nat}{num kind:Int}{r:pK}(h:fM s a num kind z= .ok r):r.num=num/\r.a=a:=by
 unfold fM at h;split at h;.cases hv:iT s z s.size<;>rw[hv]at h<;>cases h;exact⟨rfl,rfl⟩
 .split at h;.cases hv:jt s z 8<;>rw[hv]at h<;>cases h;exact⟨rfl,rfl⟩
  .split at h;.cases hv:jt s z 4<;>rw[hv]at h<;>cases h;exact⟨rfl,rfl⟩
   .cases hv:fk s z<;>rw[hv]at h<;>cases h;exact⟨rfl,rfl⟩
section
variable {S:eD} {b:au} {F a e deep z kn:Nat} {d:MT} {m:PM} {num:Int} {f:fo}
def sr (he:e<=b.size)(ht:jW (b.extract 0 e) a= .ok ((num,(kn:Int)),z)):fN b a e=fM (b.extract 0 e) a num kn z:=by
 rw[<-wG he,qW,ht]
def D3 (he:e<=b.size)(h:a<e)(ht:jW (b.extract 0 e) a= .ok ((num,(kn:Int)),z))(hk:kn=0\/kn=1\/kn=2\/kn=5)(hf:d9 d.fs num=some f)(hfit:kn=fV S f\/(kn=2/\f.isRep=true)):
  eW S b (F+1) d m a e deep=match kx S b F d f m deep (fM (b.extract 0 e) a num kn z)with| .error x=> .error x| .ok y=>eW S b F d y.1 y.2 e deep:=by
 have hr:=sr he ht
 cases hq:fM (b.extract 0 e) a num kn z with
 |error x=>
  rw[hq]at hr;rw[jk h hr]
  rfl
 |ok r=>
  rw[hq]at hr;have h1:=nC hk hq;have h2:=uF hq;rw[IX h hr (by rw[h2.1];exact hf) (by rw[h1];exact hfit)];simp only[kx];cases zO S b F d f m r deep<;>rfl
def Hu (hS:Fg S)(hb:b.size<=268435456)(hd:mg S d)(he:e<=b.size)(hw:WM S a d m)(ht:jW (b.extract 0 e) a= .ok ((num,(kn:Int)),z))(hk:kn=0\/kn=1\/kn=2\/kn=5)(hf:d9 d.fs num=some f)(hfit:kn=fV S f\/(kn=2/\f.isRep=true)){y:PM×Nat}
  (h:kx S b F d f m deep (fM (b.extract 0 e) a num kn z)= .ok y):WM S y.2 d y.1/\z<y.2/\y.2<=e:=by
 have hr:=sr he ht
 cases hq:fM (b.extract 0 e) a num kn z with
 |error x=>rw[hq]at h;cases h
 |ok r=>
  rw[hq]at hr h;have h1:=nC hk hq;have h2:=uF hq;have⟨h3,_,h4,_⟩:=qv hq;rw[gJ he]at h4;simp only[kx]at h
  cases hm:zO S b F d f m r deep with
  |error x=>rw[hm]at h;cases h
  |ok m2=>
   rw[hm]at h;cases h;refine⟨?_,h3,h4⟩;have Vt:d9 d.fs r.num=some f:=by rw[h2.1];exact hf
   unfold zO at hm;split at hm;.rename_i q;exact Ol hS.good hb hd hw hr he Vt q hm
   .rename_i q;have Vw:=hfit.resolve_left (λe=>q (by rw[h1];exact e))
    cases hp:mI S b f (m.get f.num) r.fr r.e with
    |error x=>rw[hp]at hm;cases hm
    |ok l=>
     rw[hp]at hm;cases hm;exact(Om hS.good hw hr Vt q (by rw[h1];exact Vw.1) hp).1
def uG (he:e<=b.size)(h:a<e)(ht:jW (b.extract 0 e) a= .ok ((num,(kn:Int)),z))(hk:kn=0\/kn=1\/kn=2\/kn=5)(hf:∀f,d9 d.fs num=some f->¬(kn=fV S f\/(kn=2/\f.isRep=true))):
  eW S b (F+1) d m a e deep=match lZ (b.extract 0 e) z kn with| .error x=> .error x| .ok y=>eW S b F d (m.O (b.extract a y.2)) y.2 e deep:=by
 have hr:=sr he ht;rw[qX (b.extract 0 e) a num kn z]
 cases hq:fM (b.extract 0 e) a num kn z with
 |error x=>
  rw[hq]at hr
  rw[jk h hr]
 |ok r=>
  rw[hq]at hr;have h1:=nC hk hq;have h2:=uF hq;rw[pu h hr (λf q=>by rw[h2.1]at q;have:=hf f q;rw[h1];exact⟨λe=>this (.inl e),λe=>this (.inr e)⟩),h2.2]
def D4 (he:e<=b.size)(h:a<e){x:Int×Int}(ht:jW (b.extract 0 e) a= .error x):eW S b (F+1) d m a e deep= .error x:=by
 refine jk h ?_;rw[<-wG he,qW,ht]
end
def wS {s:au}{z kn:Nat}{y:Unit×Nat}(h:lZ s z kn= .ok y):z<y.2/\y.2<=s.size:=by
 rw[qX s 0 0 kn z]at h
 cases hq:fM s 0 0 kn z with
 |error x=>rw[hq]at h;cases h
 |ok r=>
  rw[hq]at h;cases h;have⟨h1,_,h3,_⟩:=qv hq;exact⟨h1,h3⟩
section
open Vo
section
variable {w w':aw} {rb:Nat} {s:au} {deep:Int}
structure zW (S:eD)(k:Nat)(d:MT)(B:Nat)(w wr:aw)(Z Z':ax)(rb db:Nat)(b:au)(e deep F a:Nat)(m:PM)(P:Fx PM):Prop where
 st:eR w Z rb wr Z'
 rr:ee wr rb (b.extract 0 e) a deep
 dr:eM S (k+1) (some d) wr Z' db m
 hi:a<=e
 wm:WM S a d m
 fu:e-a<F
 eq:Hid (P=eW S b F d m a e deep)
 zz:∀x,Z' x->B<=x/\x<wr.heap.size
def PX (S:eD)(b:au)(F:Nat)(d:MT)(e deep:Nat):Fx (PM×Nat)->Fx PM
 | .error x=> .error x
 | .ok y=>eW S b F d y.1 y.2 e deep
def Lx (S:eD)(b:au)(F:Nat)(d:MT)(m:PM)(a e deep:Nat):Fx (Unit×Nat)->Fx PM
 | .error x=> .error x
 | .ok y=>eW S b F d (m.O (b.extract a y.2)) y.2 e deep
theorem Ku.part {r:Fx (Unit×Nat)}{e:Ending}(h:Ku w rb s deep r e w'):
  (∃x,r= .error x/\e=dY x.1 x.2/\ec [rb] w w')\/∃x,r= .ok x/\e= .returned (.tuple #[])/\ec [rb] w w'/\ee w' rb s x.2 deep:=by
 obtain⟨h1,h2⟩:=h
 cases r with
 |error x=>exact .inl ⟨x,rfl,h2,h1⟩
 |ok x=>exact .inr ⟨x,rfl,h2.1,h1,h2.2⟩
theorem iD.part2 {S:eD}{k:Nat}{d:MT}{Z:ax}{db:Nat}{deep:Nat}{R:Fx (PM×Nat)}{en:Ending}(h:iD S k d w Z rb db s deep R en w'):
  (∃x,R= .error x/\en=dY x.1 x.2/\∃Z',eR w Z rb w' Z')\/∃x,R= .ok x/\en= .returned (.tuple #[])/\∃Z',eR w Z rb w' Z'/\eM S (k+1) (some d) w' Z' db x.1/\ee w' rb s x.2 deep:=by
 cases R with
 |error x=>exact .inl ⟨x,rfl,h.1,h.2⟩
 |ok x=>exact .inr ⟨x,rfl,h.1,h.2⟩
theorem zX (S:eD)(mp:an)(B:Nat)(b:au)(hS:Fg S)(hbs:b.size<=268435456):∀F,Ow S mp B b F:=by
 intro F
 induction F using Nat.strongRecOn with
 |_ F ih=>
 intro w Z d m a e deep k mb gs nm rb db cx hM hG Wd hr hd hZ VI Wv Ww he hF Wx Wy;have VC:(b.extract 0 e).size=e:=gJ he;have VO:=cx.le;have Wl:rb<w.heap.size:=dX.lt hr;obtain⟨P,hP⟩:=Y9 (eW S b F d m a e deep);rw[hP];have O0:zW S k d B w w Z Z rb db b e deep F a m P:=⟨eR.refl _ _ _,hr,hd,Ww,Wy,hF,hP.sy,hZ⟩;clear hP;go_enter func83,ntmps83;go_wp2;go_loopw [9] (λ_ wr=>∃Z' a' m' F',F'<=F/\zW S k d B w wr Z Z' rb db b e deep F' a' m' P) (λ_ wr=>mB wr rb e)
 case atStart=>exact⟨Z,a,m,F,aE _,O0⟩
 case round=>
  obtain⟨Z',a',m',F',hFF,O⟩:=hrel;have VP:=sf wr rb _ a' deep O.rr;rw[VC]at VP;have hhi:=O.hi;have hfu:=O.fu;go_wp2_with fail;refine VP.V ?_;rintro en w4 ⟨rfl,q,rfl⟩;by_cases hlt:a'<e
  .have Wm:decide (a'<e)=true:=decide_eq_true hlt;obtain⟨F1,rfl⟩:∃F1,F'=F1+1:=⟨F'-1,Vc⟩;have VQ:ee (wr.drewN q) rb (b.extract 0 e) a' deep:=O.rr;have Wn:eM S (k+1) (some d) (wr.drewN q) Z' db m':=O.dr.O (λ_ _ _=>rfl);have VR:eR w Z rb (wr.drewN q) Z':=O.st.J (.oB (im (Below.refl _ _) q));have Wo:=Sr (wr.drewN q) rb _ a' deep VQ;have VS:=Kr (wr.drewN q) rb _ a' deep VQ Vc;have VT:∀x,Z' x->B<=x/\x<(wr.drewN q).heap.size:=O.zz;have Vu:¬Z' rb:=O.st.not Wl Wv;have HM:Hid (mB wr rb e=e-a'):=iy O.rr;have VD:∀x,Z x->B<=x:=λx q=>(hZ x q).1
   obtain⟨T,hT⟩:=Y9 (jW (b.extract 0 e) a');rw[hT]at VS;have HT:Hid (jW (b.extract 0 e) a'=T):=hT;clear hT;generalize wr.drewN q=w4 at*;go_wp2_with fail;refine Wo.V ?_;rintro en w5 ⟨rfl,rfl⟩;go_wp2_with fail;refine VS.V ?_;intro en w6 Wz;rcases Wz.part with⟨x,rfl,rfl,Vr⟩|⟨x,rfl,rfl,Vr,VJ⟩;.have HB:Hid (P= .error x):=(by show P=_;rw[O.eq.o,D4 he hlt HT.o]);unfold dY;go_wp2;rw[HB.o];exact⟨rfl,rfl,Z',VR.J (.oK Vr)⟩
   obtain⟨⟨num,kind⟩,z⟩:=x;have⟨kn,We,VK,Wf,VL⟩:=FR HT.o;simp only at We Wf VL VJ;subst We;rw[VC]at VL;have⟨B7,KT⟩:=d8 w6 #[aa num,aa kn] 237;have VU:ee (w6.alloc (am #[aa num,aa kn] 237)) rb (b.extract 0 e) z deep:=dX.alloc VJ _;have VV:=(VR.J (.oK Vr)).J (.oB B7);have Wp:=(eR.dr Wn Vr Vu).O (λx _ q=>B7.block x q);have Wq:Below B w (w6.alloc (am #[aa num,aa kn] 237)):=VV.G VO VD VI;have Ws:=At (w6.alloc (am #[aa num,aa kn] 237)) (λb=>b<B) mp mb nm gs num kn (hM.O (λx q _=>Wq.block x q)) hG.srt hG.len;have VW:∀x,Z' x->B<=x/\x<(w6.alloc (am #[aa num,aa kn] 237)).heap.size:=λx q=>⟨(VT x q).1,aI (aI (VT x q).2 Vr.size) B7.size⟩
   have⟨k1,k2⟩:=KT.I;have hrw:rb<w6.heap.size:=dX.lt VJ;go_wp2_with fail;generalize w6.alloc (am #[aa num,aa kn] 237)=w7 at*;generalize w6.heap.size=tb at*;refine Ws.V ?_;rintro en w8 ⟨Vv,B8⟩;have VX:ee w8 rb (b.extract 0 e) z deep:=dX.G VU B8 (dX.lt VU);have Vp:=VV.J (.oB B8);have VY:=Wp.O (λx _ q=>B8.block x q);have VZ:Below B w w8:=Vp.G VO VD VI;have V0:=KT.G B8 KT.lt;have V7:∀x,Z' x->B<=x/\x<w8.heap.size:=λx q=>⟨(VW x q).1,aI (VW x q).2 B8.size⟩
   have hul:=O.wm.len;clear k1 k2
   cases hfit:sY mp gs num kn with
   |some g=>
    rw[hfit]at Vv;obtain⟨fb,rfl,WA⟩:=Vv
    obtain⟨f,Vw,fg,Wh⟩:∃f,d9 d.fs num=some f/\FG S mp d f g/\mf mp g kn=true:=by
     unfold sY at hfit
     cases hfg:iI gs num with
     |none=>rw[hfg]at hfit;cases hfit
     |some g'=>
      rw[hfg]at hfit;simp only at hfit;split at hfit
      .cases hfit
       cases hf:d9 d.fs num with
       |none=>rw[hG.no num hf]at hfg;cases hfg
       |some f=>
        have⟨g2,q1,q2⟩:=hG.yes num f hf;rw[hfg]at q1;cases q1;exact⟨f,rfl,q2,Vm⟩
      .cases hfit
    have VE:f.num=num:=(fA Vw).1;have I:px w8 B S mp k d Z' rb db b e a' z deep m':=⟨cx.on VZ,VX,VY,V7,VI,Vu,Wf,VL,he,hbs,O.wm⟩;have V8:=Ce w8 B S mp k d f g fb Z' rb db b e a' z deep F1 kn num m' I WA fg (by rw[VE];exact Vw) hS Wx Wd (ih F1 Vc) Vc Wh;have hit:=(oO fg).1 Wh;obtain⟨R,hR⟩:=Y9 (kx S b F1 d f m' deep (fM (b.extract 0 e) a' num kn z));have HL:Hid (P=PX S b F1 d e deep R):=(by have h:=D3 (S:=S) (F:=F1) (deep:=deep) (d:=d) (m:=m') he hlt HT.o VK Vw hit;rw[hR]at h;show P=_;rw[O.eq.o,h];cases R<;>rfl);have HW:Hid (∀y,R= .ok y->WM S y.2 d y.1/\z<y.2/\y.2<=e):=λy hy=>Hu hS hbs Wd he O.wm HT.o VK Vw hit (hR.J hy)
    rw[hR]at V8;clear hR hfit;have⟨k1,k2⟩:=V0.I;go_wp2_with fail;refine V8.V ?_;intro en w9 VM;rcases VM.part2 with⟨x,rfl,rfl,Z9,Vx⟩|⟨y,rfl,rfl,Z9,Vx,VF,Vs⟩;.unfold dY;go_wp2;rw[HL.o];exact⟨rfl,rfl,Z9,Vp.J Vx⟩
    have⟨WB,WC,Vy⟩:=HW.o y rfl
    have O9:zW S k d B w w9 Z (λi=>Z9 i/\i<w9.heap.size) rb db b e deep F1 y.2 y.1 P:=
     ⟨(Vp.J Vx).clip,Vs,VF.clip,Vy,WB,Vc,HL,λx q=>⟨(Vx.grow x q.1).elim (λe=>(V7 x e).1) (λe=>by have:=VZ.size;omega),q.2⟩⟩
    clear k1 k2;go_wp2;go_roundw
    case rel=>exact⟨_,_,_,_,Vc,O9⟩
    case measure=>rw[HM.o,iy Vs];omega
   |none=>
    rw[hfit]at Vv;obtain rfl:en= .returned (.pointer none):=Vv
    have Wt:∀f,d9 d.fs num=some f->¬(kn=fV S f\/(kn=2/\f.isRep=true)):=λf hf hq=>by
     have⟨g,q1,q2⟩:=hG.yes num f hf;unfold sY at hfit;rw[q1]at hfit;simp only at hfit;rw[(oO q2).2 hq,dP rfl]at hfit;cases hfit
    have V9:=BK w8 rb _ z deep kn VX Vc Vc Vc;obtain⟨R,hR⟩:=Y9 (lZ (b.extract 0 e) z kn);have HL:Hid (P=Lx S b F1 d m' a' e deep R):=(by have h:=uG (S:=S) (F:=F1) (deep:=deep) (d:=d) (m:=m') he hlt HT.o VK Wt;rw[hR]at h;show P=_;rw[O.eq.o,h];cases R<;>rfl)
    have HW:Hid (∀y,R= .ok y->z<y.2/\y.2<=e):=λy hy=>by
     have:=wS (hR.J hy);rw[VC]at this;exact this
    rw[hR]at V9;clear hR hfit;have⟨k1,k2⟩:=V0.I;go_wp2_with fail;refine V9.V ?_;intro en w9 VM;rcases VM.part with⟨x,rfl,rfl,Vz⟩|⟨y,rfl,rfl,Vz,Vs⟩;.unfold dY;go_wp2;rw[HL.o];exact⟨rfl,rfl,Z',Vp.J (.oK Vz)⟩
    have⟨WC,Vy⟩:=HW.o y rfl;have Wb:=wA w9 rb _ y.2 deep a' Vs Vc Vc;have VF:=eR.dr VY Vz Vu;have hex:(b.extract 0 e).extract a' y.2=b.extract a' y.2:=kI he Vy;rw[hex]at Wb;clear k1 k2;go_wp2_with fail;refine Wb.V ?_;rintro en w10 ⟨rfl,VA,rfl⟩;have VG:eM S (k+1) (some d) (w9.drewN VA) Z' db m':=VF.O (λ_ _ _=>rfl);have Wu:=BX S k (some d) (w9.drewN VA) Z' db m' (b.extract a' y.2) VG (by rw[bg];omega);go_wp2_with fail;refine Wu.V ?_;rintro en VB ⟨rfl,Wk,Vt,VN⟩;have VH:ee (w9.drewN VA) rb (b.extract 0 e) y.2 deep:=Vs;have Vq:ee VB rb (b.extract 0 e) y.2 deep:=dX.step VH Vt Vu;have stA:eR w Z rb VB Wk:=((Vp.J (.oK Vz)).J (.oB (im (Below.refl _ _) VA))).J (.oS Vt)
    have O9:zW S k d B w VB Z (λi=>Wk i/\i<VB.heap.size) rb db b e deep F1 y.2 (m'.O (b.extract a' y.2)) P:=
     ⟨stA.clip,Vq,VN.clip,Vy,O.wm.O _ (by rw[bg];omega),Vc,HL,λx q=>⟨(stA.grow x q.1).elim (VD x) (λe=>Vc),q.2⟩⟩
    go_wp2;go_roundw
    case rel=>exact⟨_,_,_,_,Vc,O9⟩
    case measure=>rw[HM.o,iy Vq];omega
  .have Wm:decide (a'<e)=false:=decide_eq_false hlt;obtain rfl:a'=e:=Vc;have HE:Hid (P= .ok m'):=(by show P=_;rw[O.eq.o,iP hlt]);go_wp2;go_end0;rw[HE.o];exact⟨rfl,Z',O.st.J (.oB (im (Below.refl _ _) q)),O.dr.O (λ_ _ _=>rfl),O.rr⟩
end
end
def pK.sh (r:pK)(k:Nat):pK:=⟨r.num,r.kind,k+r.a,k+r.fr,k+r.e,r.n⟩
def oY (c:au)(i j:Nat):(c.extract i j).data.toList=(c.data.toList.take j).drop i:=by
 rw[cJ,Array.toList_extract,List.extract_eq_take_drop,List.drop_take]
def jz {a b:au}(h:a.data.toList=b.data.toList):a=b:=cN (cV.1 h)
def tL (b t:au)(i j:Nat):(b++t).extract (b.size+i) (b.size+j)=t.extract i j:=by
 refine jz ?_;simp
section
variable {b t:au}
def Ij {a e:Nat}{m:Int}{z:Nat}(h:iT t a e= .ok (m,z)):iT (b++t) (b.size+a) (b.size+e)= .ok (m,b.size+z):=(yW 10 0 0).1 m z h
def Gr {a e:Nat}{r:pK}(h:fN t a e= .ok r):fN (b++t) (b.size+a) (b.size+e)= .ok (r.sh b.size):=by
 unfold fN at*
 cases h1:iT t a e with
 |error x=>simp_all
 |ok x=>
  obtain⟨n,fr⟩:=x;rw[h1]at h;rw[Ij h1];simp only at*;split at h;.cases h
  .rw[dO ‹_›];split at h
   .rw[dP ‹_›]
    cases h2:iT t fr e with
    |error x=>simp_all
    |ok x=>
     rw[h2]at h;rw[Ij h2];cases h;rfl
   .rw[dO ‹_›];split at h
    .rw[dP ‹_›];split at h;.rw[dP Vc];cases h;rw[de,tL];rfl
     .cases h
    .rw[dO ‹_›];split at h
     .rw[dP ‹_›];split at h;.rw[dP Vc];cases h;rw[de,tL];rfl
      .cases h
     .rw[dO ‹_›];split at h
      .rw[dP ‹_›]
       cases h2:iT t fr e with
       |error x=>simp_all
       |ok x=>
        obtain⟨q,bh⟩:=x;rw[h2]at h;rw[Ij h2];simp only at*;split at h;.rw[dP Vc];cases h;simp[pK.sh,de]
        .cases h
      .cases h
def CB {k e:Nat}{l':List PV}:∀F l a,fW t k e F l a= .ok l'->fW (b++t) k (b.size+e) F l (b.size+a)= .ok l'
 |0,_,_,h=>h
 |F+1,l,a,h=>by
  rw[fW]at*;by_cases hl:a<e
  .rw[dP hl]at h;rw[dP (show b.size+a<b.size+e by omega)];split at h
   .rw[dP ‹_›]
    cases h2:iT t a e with
    |error x=>simp_all
    |ok x=>
     rw[h2]at h;rw[Ij h2];exact CB F _ _ h
   .rw[dO ‹_›];simp only at*;generalize(if eJ k=5 then 4 else 8)=z at*;split at h;.rw[dP Vc,de,tL];exact CB F _ _ h
    .cases h
  grind
def xd {S:eD}:∀(F:Nat) (d:MT) (m:PM) (a e deep:Nat) (m':PM),eW S t F d m a e deep= .ok m'->eW S (b++t) F d m (b.size+a) (b.size+e) deep= .ok m'
 |0,_,_,_,_,_,_,h=>h
 |F+1,d,m,a,e,deep,m',h=>by
  by_cases hl:a<e
  .cases hr:fN t a e with
   |error x=>rw[jk hl hr]at h;cases h
   |ok r=>
    rw[jy hl hr]at h;rw[jy Vc (Gr hr)]
    cases hs:kE S t F d m r deep with
    |error x=>rw[hs]at h;cases h
    |ok m1=>
     rw[hs]at h
     have Vq:kE S (b++t) F d m (r.sh b.size) deep= .ok m1:=by
      have hx:(b++t).extract (r.sh b.size).a (r.sh b.size).e=t.extract r.a r.e:=tL b t r.a r.e;have hy:(b++t).extract (r.sh b.size).fr (r.sh b.size).e=t.extract r.fr r.e:=tL b t r.fr r.e;unfold kE at*;rw[hx];show(match d9 d.fs r.num with|none=>_|some f=>if r.kind=fV S f then _ else if r.kind=2/\f.isRep=true then _ else _)=_;split at hs;.simp_all
      .rename_i f hf
       try (rw[hf];simp only)
       split at hs
       .rw[dP ‹_›];unfold qo at*
        have:∀v,oo S t F f m r deep= .ok v->oo S (b++t) F f m (r.sh b.size) deep= .ok v:=λv hv=>by
         unfold oo zK og at*;rw[hy];split at hv
         .rename_i sub _;split at hv;.cases hv
          .rename_i sm Vp;split at Vp;.grind
           .rw[dO ‹_›,show(r.sh b.size).fr=b.size+r.fr from rfl,show(r.sh b.size).e=b.size+r.e from rfl,xd F sub _ r.fr r.e (deep+1) sm Vp];exact hv
         .split at hv;.rw[dP ‹_›];grind
          .rw[dO ‹_›];exact hv
        cases hv:oo S t F f m r deep with
        |error x=>rw[hv]at hs;cases hs
        |ok v=>simp_all
       .rw[dO ‹_›];split at hs
        .rw[dP ‹_›];unfold mI at*;split at hs;.cases hs
         .rename_i l' hp;rw[show(r.sh b.size).fr=b.size+r.fr from rfl,show(r.sh b.size).e=b.size+r.e from rfl,show b.size+r.e-(b.size+r.fr)=r.e-r.fr by omega,CB _ _ _ hp];exact hs
        simp_all
     rw[Vq];exact xd F d m1 r.e e deep m' h
  .rw[iP hl]at h;rw[iP Vc];exact h
end
def rd (S:eD)(t:au)(d:MT)(m:PM)(deep:Nat):Fx PM:=eW S t (t.size+1) d m 0 t.size deep
def MC (S:eD)(nm b:au):iV S nm b=match S.msg nm with|none=> .error (5,0)|some d=>rd S b d PM.none 1:=rfl
section
variable {S:eD} {d:MT} {m m1 m2:PM} {deep:Nat} {s t:au}
def Zn (h:t.size=0):rd S t d m deep= .ok m:=iP Vc
def Gs (h1:rd S s d m deep= .ok m1)(h2:rd S t d m1 deep= .ok m2):rd S (s++t) d m deep= .ok m2:=by
 unfold rd at*;have hz:(s++t).size=s.size+t.size:=Vd;rw[<-nZ (s.size+1) (s.size+1) d m 0 s.size deep (Ag.app s t) Vc Vc]at h1;rw[(rm Vc _ _ d m 0 (aP _) Vc Vc).2 m1 h1 (t.size+1) Vc,hz];exact xd (t.size+1) d m1 0 t.size deep m2 h2
def SR (h:rd S t d m deep= .ok m1){F:Nat}(hF:t.size<F):eW S (s++t) F d m s.size (s.size+t.size) deep= .ok m1:=by
 rw[nZ (b:=s++t) (t.size+1) F d m s.size (s.size+t.size) deep (Ag.refl _ _) Vc Vc];exact xd (t.size+1) d m 0 t.size deep m1 h
def CD {r:pK}(hr:fN t 0 t.size= .ok r)(he:r.e=t.size)(hs:kE S t t.size d m r deep= .ok m1):rd S t d m deep= .ok m1:=by
 have⟨_,_,h3,_,_,_⟩:=je hr;unfold rd;rw[jy Vc hr,hs];exact iP Vc
end
def bl (l:ap):au:=⟨l.toArray⟩
def iH (l:ap):(bl l).data.toList=l:=rfl
def fR (l:ap):(bl l).size=l.length:=Vi
def pB (l r:ap):bl (l++r)=bl l++bl r:=jz (by rw[oX,iH,iH,iH])
def CE (b:au):bl b.data.toList=b:=jz rfl
section
open Vo
def JC (c:Int):Prop:= -9223372036854775808<=c/\c<=9223372036854775807
def rV (c:Int)(n:Nat):Nat:=((if c<0 then-(c+1)else c)%n).toNat
def ik (c:Int){n:Nat}(h:0<n):rV c n<n:=by
 unfold rV;have h1:0<=(if c<0 then-(c+1)else c)%(n:Int):=Int.emod_nonneg _ Vc;have h2:(if c<0 then-(c+1)else c)%(n:Int)<n:=Int.emod_lt_of_pos _ Vc;omega
def MD (w:aw)(c:Int)(n:Nat)(hc:JC c)(h:0<n):Calls prog 32 #[aa c,aa n] w λe w'=>e= .returned (aa (rV c n))/\w'=w:=by
 obtain⟨c1,c2⟩:=hc;have e0:((rV c n:Nat):Int)=(if c<0 then-(c+1)else c)%n:=(by unfold rV;have h1:0<=(if c<0 then-(c+1)else c)%(n:Int):=Int.emod_nonneg _ Vc;omega);generalize rV c n=q at*;have HE:Hid _:=e0;clear e0;by_cases hl:c<0
 .go_in
  go_wp2;go_ret;rw[HE.o,dP hl,<-Int.neg_tmod,dB Vc];exact⟨rfl,rfl⟩
 .go_in
  go_wp2;go_ret;rw[HE.o,dO Vc];exact⟨rfl,rfl⟩
def jp (raw:ar)(i n:Nat):Nat:=rV ((raw[i]?).getD 0) n
structure Gv (w:aw)(Z:ax)(gb:Nat)(raw:ar)(i:Nat):Prop where
 rng:∀x∈raw,JC x
 few:raw.length<1099511627776
 at_:∃rv,dX w gb #[rv,aa i] 73/\ix w Z rv raw.length (raw.map λx=>aa x)
 ne:¬Z gb
def Gv.O {w w':aw}{Z:ax}{gb i:Nat}{raw:ar}(h:Gv w Z gb raw i)(hg:w'.heap[gb]?=w.heap[gb]?)(hk:∀b,Z b->b<w.heap.size->w'.heap[b]?=w.heap[b]?):Gv w' Z gb raw i:=by
 obtain⟨h1,h0,⟨rv,h2,h3⟩,h4⟩:=h;exact⟨h1,h0,⟨rv,hg.J h2,h3.O hk⟩,h4⟩
def mG (w:aw)(Z:ax)(gb:Nat)(raw:ar)(i n:Nat)(hG:Gv w Z gb raw i)(h:0<n)(hi:i<1099511627776):Calls prog 60 #[ah gb,aa n] w λe w'=>e= .returned (aa (jp raw i n))/\Gv w' Z gb raw (i+1)/\ec [gb] w w':=by
 obtain⟨hr,hf,⟨rv,hb,Vp⟩,hz⟩:=hG;obtain⟨a,c,rfl⟩:=Vp.form;have⟨k1,k2⟩:=hb.I;have e1:wrap64 ((i:Int)+1)=((i+1:Nat):Int):=(by simp only[wrap64];omega)
 have Vq:∀W,ak w W->Gv (W.setCell (aj gb 1) (aa ((i+1:Nat):Int))) Z gb raw (i+1)/\ec [gb] w (W.setCell (aj gb 1) (aa ((i+1:Nat):Int))):=λW hW=>
  ⟨⟨hr,hf,⟨_,by have:=(hb.G hW hb.lt).set 1 (aa ((i+1:Nat):Int));simpa using this,Vp.O λb q l=>(by rw[dW,dO (show¬gb=b from λe=>hz (by rw[e];exact q))];exact hW.block b l)⟩,hz⟩,(ec.oB hW).set1 Vd _ _⟩
 have HF:Hid _:=Vq;clear Vq;by_cases hl:i<raw.length
 .obtain⟨ad,rfl,_,_,hc⟩:=Vp.at Vc;have hx:raw[i]?=some raw[i]:=aO hl;have hc1:=hc w rfl i (aa raw[i]) (by rw[aT,hx];rfl);have hp:=λW=>MD W raw[i] n (hr _ (List.getElem_mem hl)) h
  have e2:jp raw i n=rV raw[i] n:=by unfold jp;rw[hx];rfl
  rw[e2];generalize raw[i]=x at*;have Vs:(i:Int)<(raw.length:Int):=Vc;clear hb Vp hc hx e2;go_in
  go_upto_region 2 with fail
  go_quiet (fail);go_wp2;go_quiet (fail);go_wp2_with fail;refine(hp _).V ?_;rintro e w2 ⟨rfl,rfl⟩;go_wp2;go_ret;exact⟨rfl,HF.o _ (im (Below.refl _ _) _)⟩
 .have hp:=λW=>MD W 0 n ⟨Vf,Vf⟩ h
  have e2:jp raw i n=rV 0 n:=by unfold jp;rw[bf Vc];rfl
  rw[e2];have Vs:¬(i:Int)<(raw.length:Int):=Vc;clear hb Vp e2;go_in
  go_upto_region 2 with fail
  go_quiet (fail);go_wp2_with fail;refine(hp _).V ?_;rintro e w2 ⟨rfl,rfl⟩;go_wp2;go_ret;exact⟨rfl,HF.o _ (im (Below.refl _ _) _)⟩
def gr (n:Nat):ap:= [UInt8.ofNat (48+n)]
def tM (w:aw)(n:Nat)(hn:n<10):Calls prog 61 #[aa n] w λe w'=>e= .returned (ag (bl (gr n)))/\ak w w':=by
 have h1:¬(9:Int)<(n:Int):=Vc
 have Vr:=run_convert_bytes_back (P:=prog) (w.U5 #[.int .u8 (48+n)] 5) 140 9 5 (aj w.heap.size 0) 1 (gr n) underlying140 underlying5 underlying9 λj hj=>by
  have hj:j<1:=hj;obtain rfl:j=0:=Vc;have:=(dX.new w #[.int .u8 (48+n)] 5).cell 0;rw[Ja,this];simp[gr];omega
 have hcv':(convert 140 9 (U9 w.heap.size 1 1)).run prog (w.U5 #[.int .u8 (48+n)] 5)= .ok (ag (bl (gr n))) (w.U5 #[.int .u8 (48+n)] 5):=Vr;clear Vr;generalize bl (gr n)=s at*;go_in
 go_wp2;go_ret;exact⟨rfl,(Below.refl _ _).alloc (aE _) _⟩
def Tm:List (ap):= [[105,110,116,51,50],[105,110,116,54,52],[117,105,110,116,51,50],[117,105,110,116,54,52],[115,105,110,116,51,50],[115,105,110,116,54,52],[98,111,111,108],[102,105,120,101,100,51,50],[102,105,120,101,100,54,52],[115,102,105,120,101,100,51,50],[115,102,105,120,101,100,54,52],[102,108,111,97,116],[100,111,117,98,108,101],[115,116,114,105,110,103],[98,121,116,101,115],[69]]
def gG (t:Nat):ap:=if 15<t then 77::gr (t-16)else(Tm[t]?).getD []
def Tn:aq:=(Tm.map λs=>ag (bl s)).toArray
def Pf (w:aw):Calls prog 105 #[] w λe w'=>∃b,e= .returned (U9 b 16 16)/\dX w' b Tn 9/\ak w w':=by
 go_in
 go_wp2;go_ret;exact⟨_,rfl,dX.new w Tn 9,(Below.refl _ _).alloc (aE _) _⟩
def Rk {t:Nat}(h:t<16):Tn[t]?=some (ag (bl (gG t))):=by
 unfold gG Tn;rw[dO Vc];have:∀t:Fin 16,Tm[t.val]?=some ((Tm[t.val]?).getD []):=Vf;have h2:=this ⟨t,h⟩;simp only[cE,aT];rw[h2];rfl
def ME (w:aw)(t:Nat)(ht:t<25):Calls prog 62 #[aa t] w λe w'=>e= .returned (ag (bl (gG t)))/\ak w w':=by
 by_cases h:15<t
 .have hd:=tM w (t-16) Vc;rw[show((t-16:Nat):Int)=(t:Int)-16 by omega]at hd;have e2:gG t=77::gr (t-16):=by unfold gG;rw[dP h]
  have h1:(15:Int)<(t:Int):=Vc;have hz:(bl (gr (t-16))).size=1:=by rw[fR];rfl
  rw[e2,show(77::gr (t-16))= [77]++gr (t-16)from rfl,pB];generalize bl (gr (t-16))=s at*;go_in
  go_wp2_with fail;refine hd.V ?_;rintro e w2 ⟨rfl,b2⟩;clear hd e2;go_wp2;go_ret;exact⟨rfl,b2⟩
 .have hT:=Pf w;have hx:=Rk (show t<16 by omega);have h1:¬(15:Int)<(t:Int):=Vc;generalize bl (gG t)=s at*;go_in
  go_wp2_with fail;refine hT.V ?_;rintro e w2 ⟨b,rfl,hb,b2⟩;have hc:=(hb.cell t).J hx;clear hx hT hb;go_wp2;go_ret;exact⟨rfl,b2⟩
end
end Go.Proofs.YtfebdimolnobaaaGreatDoor
