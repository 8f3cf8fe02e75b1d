import Derived.Test.YtfebdimolnobaaaGreatDoorPlJ
set_option maxRecDepth 100000
set_option maxHeartbeats 8000000
set_option linter.all false
namespace Go.Proofs.YtfebdimolnobaaaGreatDoor
open Go.RowKit Go.Proofs.Tryz
section
open Vo
def vV (form:Int)(m:PM)(n:Int)(v:LV):PM:=if form=2 then m.put n (m.get n++ [qq v])else if form=0/\v.1=0/\gN v.2 eS=true then m.put n []else m.put n [qq v]
def Ew (form:Int)(m:PM)(n:Int):Fx (LV×Nat)->Fx (PM×Nat)
 | .error x=> .error x
 | .ok x=> .ok (vV form m n x.1,x.2)
def Ml {form:Int}(h:form≠2)(m:PM)(n:Int)(r:Fx (LV×Nat)):Ew form m n r=Ox (decide (form=0)) m n r:=by
 cases r with
 |error x=>rfl
 |ok x=>simp only[Ew,Ox,vV,dO h,dQ]
def Mm {form:Int}(h:form=2)(m:PM)(n:Int)(r:Fx (LV×Nat)):Ew form m n r=Lo m n r:=by
 cases r with
 |error x=>rfl
 |ok x=>simp only[Ew,Lo,vV,dP h]
def Cs (form:Int)(args:aq)(w:aw):(callFunc (mm form) args).run prog w= .ok (.enter (mm form) args) w:=by
 unfold mm;split;.exact enters_of func193 Vh rfl args w
 .split;.exact enters_of func268 Vh rfl args w
  .exact enters_of func195 Vh rfl args w
def Ex (S:eD)(k:Nat)(d:MT)(form:Int)(w:aw)(Z:ax)(db:Nat)(m:PM)(n:Int)(v:LV)(h:eM S (k+1) (some d) w Z db m)(ok1:oJ S (some d) n .vals)(ok2:∀kd,oJ S (some d) n kd->kd= .vals)(hl:m.fs.length<1073741824)(hvl:(m.get n).length<1073741824)(hZ:∀b,Z b->b<w.heap.size):
  U8 (mm form) #[ah db,aa n,vP v] w (kr S k (some d) w Z db (vV form m n v)):=by
 by_cases h0:form=0
 .have e1:mm form=193:=by unfold mm;rw[dP h0]
  have e2:vV form m n v=if v.1=0/\gN v.2 eS=true then m.put n []else m.put n [qq v]:=by unfold vV;rw[dO Vc];simp[h0]
  rw[e1,e2];exact Hh S k (some d) w Z db m n v h ok1 (.inl ok2) hl hZ
 .by_cases h2:form=2
  .have e1:mm form=268:=by unfold mm;rw[dO h0,dP h2]
   have e2:vV form m n v=m.put n (m.get n++ [qq v]):=by unfold vV;rw[dP h2]
   rw[e1,e2];exact yk S k (some d) w Z db m n v h ok1 (.inl ok2) hl hvl
  .have e1:mm form=195:=by unfold mm;rw[dO h0,dO h2]
   have e2:vV form m n v=m.put n [qq v]:=by unfold vV;rw[dO h2,dO (λq=>h0 q.1)]
   rw[e1,e2];exact xU S k (some d) w Z db m n v h ok1 (.inl ok2) hl
def P9 (w:aw)(B:Nat)(S:eD)(mp:an)(k:Nat)(d:MT)(f:fo)(g:GF)(Z:ax)(rb db:Nat)(b:au)(e a z deep:Nat)(kind:Int)(m:PM)(v:Value)
  (I:px w B S mp k d Z rb db b e a z deep m) (hv:Q1 w (λb=>b<B) mp g v) (fg:FG S mp d f g) (h4:g.form≠4) (hb:S.base f.ty<=15) (hff:d9 d.fs f.num=some f):
  mE v [aa kind,ah rb,ah db] w (iD S k d w Z rb db (b.extract 0 e) deep (Ew g.form m f.num (gE (b.extract 0 e) z (S.base f.ty)))):=by
 obtain⟨pb,nb,vb,vv,rfl,h1,h2,h3,Vw,q1,q2,q3⟩:=hv;refine⟨422,[_,_,_],rfl,enters_of func422 Vh rfl,?_⟩;show U8 422 #[aa kind,ah rb,ah db,ah pb,ah nb,ah vb] w _;rw[fg.eq]at h2 Vw;rw[fg.base]at Vw;have⟨VB,_,_⟩:=lO fg h4 hb;have⟨ok1,ok2⟩:=oN hff VB;have hes:(b.extract 0 e).size=e:=gJ I.eb;have hl:=I.wm.len;have hab:=I.az;have hze:=I.ze;have heb:=I.eb;have hbs:=I.bs;have hrb:=I.rB;have Vx:=I.rZ;have Vs:=I.hZ;have hrl:rb<w.heap.size:=dX.lt I.hr;have Vy:eM S (k+1) (some d) w.drew Z db m:=I.hd.O (λ_ _ _=>rfl);have hr0:ee w.drew rb (b.extract 0 e) z deep:=I.hr;obtain⟨vf,Vq,rfl,eg,hV⟩:=LO (Vw.O (w':=w.drew) (λ_ _ _=>rfl)) rb (b.extract 0 e) z deep hr0 Vc Vc Vc (I.cx.u:UOK w.drew) (by have:=I.cx.u1;omega) (by have:=I.cx.u2;omega)
 have HA:Hid (∀(w3:aw) (v:LV),eM S (k+1) (some d) w3 Z db m->w.heap.size<=w3.heap.size->U8 (mm g.form) #[ah db,aa f.num,vP v] w3 (kr S k (some d) w3 Z db (vV g.form m f.num v))):=
  λw3 v VC VD=>Ex S k d g.form w3 Z db m f.num v VC ok1 ok2 Vc (by have:=hl.2.2 f.num;omega) (λx q=>aI (Vs x q).2 VD)
 have ep:=Cs g.form;have Vz:Hid (∀x,Ew g.form m f.num (.ok x)= .ok (vV g.form m f.num x.1,x.2)):=λ_=>rfl
 have VA:Hid (∀x,Ew g.form m f.num (.error x)= .error x):=λ_=>rfl
 obtain⟨R,hR⟩:=Y9 (gE (b.extract 0 e) z (S.base f.ty));rw[hR]at hV⊢;clear hR;generalize mm g.form=pf at*;generalize Ew g.form m f.num=PR at*;unfold Dh at h1;have Vt:dX w.drew pb #[.func (.func pf) #[] #[]] 480:=h1;have Vu:dX w.drew nb #[aa f.num] 3:=h2;have Vv:dX w.drew vb #[.func (.func vf) #[] Vq.toArray] 478:=h3;go_enter func422,ntmps422;go_upto_region 0 with fail
 go_region_held2 (λW=>W.cell? (aj pb 0)=some (.func (.func pf) #[] #[])/\W.cell? (aj nb 0)=some (aa f.num)/\W.cell? (aj vb 0)=some (.func (.func vf) #[] Vq.toArray))
  (first|exact c4|exact c3|exact⟨Vt.cell 0,Vu.cell 0,Vv.cell 0⟩)
  (first
   |(
     refine hV.V ?_;intro en w3 hq;rcases hq.part with⟨x,rfl,rfl,Vp⟩|⟨x,rfl,rfl,Vp,VE⟩;.unfold dY;go_wp2;rw[VA.o];exact⟨rfl,rfl,Z,(eR.oB (Below.refl _ _).drew).J (.oK Vp)⟩
     have c3:w3.cell? (aj pb 0)=some (.func (.func pf) #[] #[])/\w3.cell? (aj nb 0)=some (aa f.num)/\w3.cell? (aj vb 0)=some (.func (.func vf) #[] Vq.toArray):=⟨(Vt.kept Vp Ve).cell 0,(Vu.kept Vp Ve).cell 0,(Vv.kept Vp Ve).cell 0⟩)
   |(
     refine(HA.o w3 x.1 (eR.dr Vy Vp Vx) Vp.size).V ?_;rintro en w4 ⟨rfl,Z4,Vr,VF⟩
     have c4:w4.cell? (aj pb 0)=some (.func (.func pf) #[] #[])/\w4.cell? (aj nb 0)=some (aa f.num)/\w4.cell? (aj vb 0)=some (.func (.func vf) #[] Vq.toArray):=⟨((Vt.kept Vp Ve).step Vr (λq=>by have:=(Vs pb q).1;omega)).cell 0,((Vu.kept Vp Ve).step Vr (λq=>by have:=(Vs nb q).1;omega)).cell 0,((Vv.kept Vp Ve).step Vr (λq=>by have:=(Vs vb q).1;omega)).cell 0⟩))
 all_goals
  go_wp2;go_end0;rw[Vz.o];exact⟨rfl,Z4,((eR.oB (Below.refl _ _).drew).J (.oK Vp)).J (.oS Vr),VF,dX.step VE Vr Vx⟩
def Q7 (w:aw)(B:Nat)(S:eD)(mp:an)(k:Nat)(d:MT)(f:fo)(g:GF)(Z:ax)(rb db:Nat)(b:au)(e a z deep:Nat)(m:PM)(v:Value)
  (I:px w B S mp k d Z rb db b e a z deep m) (hv:O3 w (λb=>b<B) mp g v) (fg:FG S mp d f g) (hf:g.form=2) (hb:S.base f.ty<=15) (hff:d9 d.fs f.num=some f):
  mE v [aa (eJ (S.base f.ty)),ah rb,ah db] w (iD S k d w Z rb db (b.extract 0 e) deep (Lo m f.num (gE (b.extract 0 e) z (S.base f.ty)))):=by
 obtain⟨pb,nb,vb,vv,rfl,h1,h2,h3,Vu,q1,q2,q3⟩:=hv;refine⟨421,[_,_,_],rfl,enters_of func421 Vi rfl,?_⟩;show U8 421 #[aa (eJ (S.base f.ty)),ah rb,ah db,ah pb,ah nb,ah vb] w _;rw[fg.eq]at h1 h2 Vu;rw[fg.base]at h1 Vu;have⟨VM,_,_⟩:=lO fg Vc hb;have⟨ok1,ok2⟩:=oN hff VM;have VP:(b.extract 0 e).size=e:=gJ I.eb;have hl:=I.wm.len;have V0:=I.az;have V7:=I.ze;have VQ:=I.eb;have V8:=I.bs;have VR:=I.rB;have Vz:=I.rZ;have VC:=I.hZ;have VS:rb<w.heap.size:=dX.lt I.hr;have VF:eM S (k+1) (some d) w.drew Z db m:=I.hd.O (λ_ _ _=>rfl);have hr0:ee w.drew rb (b.extract 0 e) z deep:=I.hr;obtain⟨vf,Vp,rfl,eg,hV⟩:=LO (Vu.O (w':=w.drew) (λ_ _ _=>rfl)) rb (b.extract 0 e) z deep hr0 Vc Vc Vc (I.cx.u:UOK w.drew) (by have:=I.cx.u1;omega) (by have:=I.cx.u2;omega)
 have hA:∀w3:aw,∀v:LV,eM S (k+1) (some d) w3 Z db m->U8 268 #[ah db,aa f.num,vP v] w3 (kr S k (some d) w3 Z db (m.put f.num (m.get f.num++ [qq v]))):=
  λw3 v VU=>yk S k (some d) w3 Z db m f.num v VU ok1 (.inl ok2) Vc (by grind)
 obtain⟨R,hR⟩:=Y9 (gE (b.extract 0 e) z (S.base f.ty));rw[hR]at hV⊢;clear hR;generalize(eJ (S.base f.ty):Int)=al at*;have Vv:dX w.drew nb #[aa f.num] 3:=h2;have Vw:dX w.drew vb #[.func (.func vf) #[] Vp.toArray] 478:=h3;have⟨k1,k2⟩:=h1.I;have VT:(al==al)=true:=Vd;go_enter func421,ntmps421;go_upto_region 1 with fail
 go_region_held2 (λW=>W.cell? (aj nb 0)=some (aa f.num)/\W.cell? (aj vb 0)=some (.func (.func vf) #[] Vp.toArray))
  (first|exact c4|exact c3|exact⟨Vv.cell 0,Vw.cell 0⟩)
  (first
   |(
     refine hV.V ?_;intro en w3 hq;rcases hq.part with⟨x,rfl,rfl,Vr⟩|⟨x,rfl,rfl,Vr,Wq⟩;.unfold dY;go_wp2;exact⟨rfl,rfl,Z,(eR.oB (Below.refl _ _).drew).J (.oK Vr)⟩
     have c3:w3.cell? (aj nb 0)=some (aa f.num)/\w3.cell? (aj vb 0)=some (.func (.func vf) #[] Vp.toArray):=⟨(Vv.kept Vr (by grind)).cell 0,(Vw.kept Vr (by grind)).cell 0⟩)
   |(
     go_at_call 268;refine(hA w3 x.1 (eR.dr VF Vr Vz)).V ?_;rintro en w4 ⟨rfl,Z4,VE,VJ⟩
     have c4:w4.cell? (aj nb 0)=some (aa f.num)/\w4.cell? (aj vb 0)=some (.func (.func vf) #[] Vp.toArray):=⟨((Vv.kept Vr (by grind)).step VE (λq=>by grind)).cell 0,((Vw.kept Vr (by grind)).step VE (λq=>by grind)).cell 0⟩))
 all_goals
  go_wp2;go_end0;exact⟨rfl,Z4,((eR.oB (Below.refl _ _).drew).J (.oK Vr)).J (.oS VE),VJ,dX.step Wq VE Vz⟩
structure Q8 (S:eD)(k:Nat)(d:MT)(B:Nat)(w wr:aw)(Z Z':ax)(rb nb db y1 y2:Nat)(b s:au)(deep:Nat)(bs:Nat)(m:PM)(n:Int)(a:Nat)(l:List PV)(F:Nat)(P:Fx (List PV)):Prop where
 st:eR w Z rb wr Z'
 rn:ee wr nb (b.extract 0 y2) a deep
 rr:ee wr rb s y2 deep
 dr:eM S (k+1) (some d) wr Z' db (m.put n l)
 lo:y1<=a
 hi:a<=y2
 ll:l.length<=a
 eq:Hid (P=fW b bs y2 F l a)
 fu:y2-a<=F
 zz:∀x,Z' x->B<=x/\x<wr.heap.size
 zn:¬Z' nb
def Q9 (w:aw)(B:Nat)(S:eD)(mp:an)(k:Nat)(d:MT)(f:fo)(g:GF)(Z:ax)(rb db:Nat)(b:au)(e a z deep:Nat)(m:PM)(v:Value)
  (I:px w B S mp k d Z rb db b e a z deep m) (hv:O3 w (λb=>b<B) mp g v) (fg:FG S mp d f g) (hf:g.form=2) (hb:S.base f.ty<=15) (hw:eJ (S.base f.ty)≠2) (hff:d9 d.fs f.num=some f):
  mE v [aa 2,ah rb,ah db] w (iD S k d w Z rb db (b.extract 0 e) deep (rT (S.base f.ty) b f.num m (fk (b.extract 0 e) z))):=by
 obtain⟨pb,ub,vb,vv,rfl,h1,h2,h3,Vu,q1,q2,q3⟩:=hv;refine⟨421,[_,_,_],rfl,enters_of func421 Vi rfl,?_⟩;show U8 421 #[aa 2,ah rb,ah db,ah pb,ah ub,ah vb] w _;rw[fg.eq]at h1 h2 Vu;rw[fg.base]at h1 Vu;have⟨VM,_,_⟩:=lO fg Vc hb;have⟨ok1,ok2⟩:=oN hff VM;have VP:(b.extract 0 e).size=e:=gJ I.eb;have hl:=I.wm.len;have V0:=I.az;have V7:=I.ze;have VQ:=I.eb;have V8:=I.bs;have VR:=I.rB;have Vz:=I.rZ;have hu1:=I.cx.u1;have hu2:=I.cx.u2;have VC:=I.hZ;have V9:=I.cx;have VS:rb<w.heap.size:=dX.lt I.hr;have VG:=oI w rb _ z deep I.hr Vc;have Vs:=I.hd.srt;have VF:=I.hd;obtain⟨R,hR⟩:=Y9 (fk (b.extract 0 e) z);rw[hR]at VG⊢;have HR:Hid (fk (b.extract 0 e) z=R):=hR;clear hR;have hne:((2:Int)==(eJ (S.base f.ty):Int))=false:=by grind
 have h13:S.base f.ty≠13:=λq=>hw (by rw[q];rfl)
 have h14:S.base f.ty≠14:=λq=>hw (by rw[q];rfl)
 generalize(eJ (S.base f.ty):Int)=al at*
 obtain⟨vf,Vp,rfl⟩:∃vf Vp,vv= .func (.func vf) #[] Vp:=by
  rcases Vu with⟨_,rfl⟩|⟨_,rfl⟩|⟨_,_,_,rfl,_⟩;.omega
  .omega
  grind
 have⟨k1,k2⟩:=h1.I;have Wb:=I.cx.le;clear I;go_enter func421,ntmps421;go_wp2_with fail;refine VG.V ?_;intro en w3 hq;rcases hq.part with⟨x,rfl,rfl,Vr⟩|⟨y,nb,rfl,rfl,Vr,Ws,hnr,VB,VN⟩;.unfold dY;go_wp2;exact⟨rfl,rfl,Z,.oK Vr⟩
 clear k1 k2 VG;obtain⟨y1,y2⟩:=y;have⟨v0,v1,v2⟩:=ju HR.o;rw[VP]at v2;have VT:(b.extract 0 e).extract 0 y2=b.extract 0 y2:=kI VQ v2;simp only[VT]at VB;have Wd:(b.extract 0 y2).size=y2:=gJ Vc;have VU:=eR.dr VF Vr Vz
 have P0:Q8 S k d B w w3 Z Z rb nb db y1 y2 b (b.extract 0 e) deep (S.base f.ty) m f.num y1 (m.get f.num) (y2-y1) (fW b (S.base f.ty) y2 (y2-y1) (m.get f.num) y1):=
  ⟨.oK Vr,VB,VN,by rw[Hp Vs.1 Vs.2];omega,aE _,v1,by grind,rfl,aE _,λx q=>⟨(VC x q).1,aI (VC x q).2 Vr.size⟩,λq=>by grind⟩
 obtain⟨P,hP⟩:=Y9 (fW b (S.base f.ty) y2 (y2-y1) (m.get f.num) y1);have HQ:Hid (rT (S.base f.ty) b f.num m (.ok (y1,y2))=Lp m f.num y2 P):=(by show Lp m f.num y2 (fW b (S.base f.ty) y2 (y2-y1) (m.get f.num) y1)=_;rw[hP]);rw[hP]at P0;clear hP;go_wp2;go_loopw [21] (λ_ wr=>∃Z' a' l F',Q8 S k d B w wr Z Z' rb nb db y1 y2 b (b.extract 0 e) deep (S.base f.ty) m f.num a' l F' P) (λ_ wr=>mB wr nb y2)
 case atStart=>grind
 case round=>
  obtain⟨Z',a',l,F',O⟩:=hrel;have hM:=sf wr nb _ a' deep O.rn;rw[Wd]at hM;have hlo:=O.lo;have hhi:=O.hi;have hll:=O.ll;go_wp2_with fail;refine hM.V ?_;rintro en w4 ⟨rfl,q,rfl⟩;by_cases hlt:a'<y2
  .have hd:decide (a'<y2)=true:=decide_eq_true hlt;obtain⟨F2,rfl⟩:∃F2,F'=F2+1:=⟨F'-1,by have:=O.fu;omega⟩;have VD:Below B w wr:=O.st.G Wb (λx q=>(VC x q).1) VR;have Vx:Below B w (wr.drewN q).drew:=(im VD q).drew;have hu:UOK (wr.drewN q).drew:=(V9.on VD).u;have We:ee (wr.drewN q).drew nb (b.extract 0 y2) a' deep:=O.rn;have VV:=Ws;have⟨Wt,Vq,Wu,eg,hV⟩:=LO (Vu.O (w':=(wr.drewN q).drew) (λx h _=>Vx.block x h)) nb (b.extract 0 y2) a' deep We Vc Vc Vc hu Vc Vc;obtain⟨rfl,rfl⟩:vf=Wt/\Vp=Vq.toArray:=by grind
   clear Wu;have VH:gE (b.extract 0 y2) a' (S.base f.ty)=match jE (b.extract 0 y2) a' (S.base f.ty)with| .error x=> .error x| .ok x=> .ok ((x.1,⟨#[]⟩),x.2):=(by unfold gE;grind)
   have VI:=Ay (k:=S.base f.ty) (F:=F2) (l:=l) (show y2<=b.size by omega) hlt
   have VA:Hid (∀x,gE (b.extract 0 y2) a' (S.base f.ty)= .error x->rT (S.base f.ty) b f.num m (.ok (y1,y2))= .error x):=λx hx=>by
    rw[HQ.o,O.eq.o,VI];rw[VH]at hx
    cases hn:jE (b.extract 0 y2) a' (S.base f.ty)with
    |error y=>rw[hn]at hx;cases hx;rfl
    |ok y=>grind
   have VW:Hid (∀x,gE (b.extract 0 y2) a' (S.base f.ty)= .ok x->P=fW b (S.base f.ty) y2 F2 (l++ [qq x.1]) x.2):=λx hx=>by
    rw[O.eq.o,VI];rw[VH]at hx
    cases hn:jE (b.extract 0 y2) a' (S.base f.ty)with
    |error y=>grind
    |ok y=>rw[hn]at hx;cases hx;rfl
   clear VH VI;have VJ:eM S (k+1) (some d) (wr.drewN q).drew Z' db (m.put f.num l):=O.dr.O (λ_ _ _=>rfl)
   have hA:∀w5:aw,∀v:LV,eM S (k+1) (some d) w5 Z' db (m.put f.num l)->U8 268 #[ah db,aa f.num,vP v] w5 (kr S k (some d) w5 Z' db (m.put f.num (l++ [qq v]))):=λw5 v Wv=>by
    have h1:=PM.put_len m f.num l;have h2:=DX Vs.1 f.num l;have:=yk S k (some d) w5 Z' db (m.put f.num l) f.num v Wv ok1 (.inl ok2) Vc (by grind);rw[h2,Ho Vs.1]at this;exact this
   obtain⟨Rv,VO⟩:=Y9 (gE (b.extract 0 y2) a' (S.base f.ty))
   have Wf:Hid (∀x,Rv= .ok x->a'<x.2/\x.2<=y2):=λx hx=>by
    have:=DV hb (VO.J hx);omega
   rw[VO]at hV VA VW;clear VO;have Vv:dX (wr.drewN q).drew ub #[aa f.num] 3:=h2.G Vx Vc;have Vw:dX (wr.drewN q).drew vb #[.func (.func vf) #[] Vq.toArray] 478:=h3.G Vx Vc;have Wh:ee (wr.drewN q).drew rb (b.extract 0 e) y2 deep:=O.rr;have VX:eR w Z rb (wr.drewN q).drew Z':=O.st.J (.oB (im (Below.refl _ _) q).drew);have VK:=O.zn;have Wk:=O.zz;have Wl:¬Z' rb:=O.st.not VS Vz;have HM:Hid (mB wr nb y2=y2-a'):=iy O.rn;have Wm:Hid (y2-a'<=F2+1):=O.fu;have hub:Below B w wr:=VD;clear O hM VD;go_upto_region 4 with fail
   go_region_held2 (λW=>W.cell? (aj ub 0)=some (aa f.num)/\W.cell? (aj vb 0)=some (.func (.func vf) #[] Vq.toArray))
    (first|exact c6|exact c5|exact⟨Vv.cell 0,Vw.cell 0⟩)
    (first
     |(
       refine hV.V ?_;intro en w5 Ww;rcases Ww.part with⟨x,rfl,rfl,Vt⟩|⟨x,rfl,rfl,Vt,VZ⟩;.unfold dY;go_wp2;rw[VA.o x rfl];exact⟨rfl,rfl,Z',VX.keptN Vt VV⟩
       have c5:w5.cell? (aj ub 0)=some (aa f.num)/\w5.cell? (aj vb 0)=some (.func (.func vf) #[] Vq.toArray):=⟨(Vv.kept Vt (by grind)).cell 0,(Vw.kept Vt (by grind)).cell 0⟩)
     |(
       go_at_call 268;refine(hA w5 x.1 (eR.dr VJ Vt VK)).V ?_;rintro en w6 ⟨rfl,Z6,Vy,Wx⟩
       have c6:w6.cell? (aj ub 0)=some (aa f.num)/\w6.cell? (aj vb 0)=some (.func (.func vf) #[] Vq.toArray):=⟨((Vv.kept Vt (by grind)).step Vy (λq=>by grind)).cell 0,((Vw.kept Vt (by grind)).step Vy (λq=>by grind)).cell 0⟩))
   all_goals
    have Wn:=Wf.o x rfl;have VY:ee w6 nb (b.extract 0 y2) x.2 deep:=dX.step VZ Vy VK;have Wo:=(VX.keptN Vt VV).J (.oS Vy);have Wp:ee w6 rb (b.extract 0 e) y2 deep:=dX.step (dX.kept Wh Vt (by grind)) Vy Wl;have VL:nb<w5.heap.size:=dX.lt VZ
    have PN:Q8 S k d B w w6 Z (λi=>Z6 i/\i<w6.heap.size) rb nb db y1 y2 b (b.extract 0 e) deep (S.base f.ty) m f.num x.2 (l++ [qq x.1]) F2 P:=
     ⟨Wo.clip,VY,Wp,Wx.clip,Vc,Wn.2,by grind,VW.o x rfl,by have:=Wm.o;omega,λi q=>⟨(Vy.grow i q.1).elim (λe=>(Wk i e).1) (λe=>Vc),q.2⟩,λq=>Vy.not VL VK q.1⟩
    go_wp2;go_roundw
    case rel=>grind
    case measure=>rw[HM.o,iy VY];omega
  .have hd:decide (a'<y2)=false:=decide_eq_false hlt
   have HE:Hid (rT (S.base f.ty) b f.num m (.ok (y1,y2))= .ok (m.put f.num l,y2)):=by
    show _=_;rw[HQ.o,O.eq.o]
    have:fW b (S.base f.ty) y2 F' l a'= .ok l:=by
     cases F' with
     |zero=>rfl
     |succ F'=>rw[fW,dO hlt]
    rw[this];rfl
   go_wp2;go_end0;rw[HE.o];exact⟨rfl,Z',O.st.J (.oB (im (Below.refl _ _) q)),O.dr.O (λ_ _ _=>rfl),O.rr⟩
def oy (form:Int)(m:PM)(n:Int)(sm:PM):PM:=if form=2 then m.put n (m.get n++ [mV sm])else m.put n [mV sm]
def lz (form:Int)(m:PM)(n:Int):PM:=if form=2 then PM.none else((m.get n).headD PV.none).2.2
def yN (form:Int)(args:aq)(w:aw):(callFunc (jL form) args).run prog w= .ok (.enter (jL form) args) w:=by
 unfold jL;split;.exact enters_of func190 Vh rfl args w
 .exact enters_of func191 Vh rfl args w
def Aa {S:eD}{mp:an}{d:MT}{f:fo}{g:GF}{sub:MT}(fg:FG S mp d f g)(hff:d9 d.fs f.num=some f)(hM:DY S d f sub)(k:Nat)(w:aw)(Z:ax)(db:Nat)(m:PM)(h:eM S (k+1+1) (some d) w Z db m)(hl:m.fs.length<1073741823)(hvl:(m.get f.num).length<1073741824)(hZ:∀b,Z b->b<w.heap.size):
  U8 (jL g.form) #[ah db,aa f.num] w (tm S (k+1) (some d) w Z db (some sub) (lz g.form m f.num) (oy g.form m f.num)):=by
 have⟨ok1,ok2,VQ⟩:=hM.kind hff;by_cases h2:g.form=2
 .have e1:jL g.form=190:=by unfold jL;rw[dP h2]
  have e2:lz g.form m f.num=PM.none:=by unfold lz;rw[dP h2]
  have e3:oy g.form m f.num=λm'=>m.put f.num (m.get f.num++ [mV m']):=funext λsm=>by unfold oy;rw[dP h2]
  rw[e1,e2,e3,<-VQ];exact ot S k (some d) w Z db m f.num (h.slot Vc) ok1 ok2 (λ⟨d',f',e1,e2,e3⟩=>by cases e1;rw[hff]at e2;cases e2;rw[fg.rep,h2]at e3;cases e3) hvl (λq=>by have:=hZ _ q;omega)
 .have e1:jL g.form=191:=by unfold jL;rw[dO h2]
  have e2:lz g.form m f.num=((m.get f.num).headD PV.none).2.2:=by unfold lz;rw[dO h2]
  have e3:oy g.form m f.num=λm'=>m.put f.num [mV m']:=funext λsm=>by unfold oy;rw[dO h2]
  rw[e1,e2,e3,<-VQ];exact xW S k (some d) w Z db m f.num h ok1 ok2 ⟨d,f,rfl,hff,by rw[fg.rep];simp[h2]⟩ hl hZ
def SI (w:aw)(B:Nat)(S:eD)(mp pm:an)(k:Nat)(d:MT)(f:fo)(g:GF)(Z:ax)(rb db:Nat)(b:au)(e a z deep F:Nat)(kind:Int)(m:PM)(sub:MT)(v:Value)
  (I:px w B S mp k d Z rb db b e a z deep m) (hpc:nR w (λb=>b<B) S mp pm) (hv:Q2 w (λb=>b<B) mp pm g v) (fg:FG S mp d f g) (hff:d9 d.fs f.num=some f) (hS:Fg S) (hM:DY S d f sub) (hkd:k+deep=8) (hRd:Md S mp pm B b F) (hF:e-z<=F):
  mE v [aa kind,ah rb,ah db] w (iD S k d w Z rb db (b.extract 0 e) deep (yn S b F sub (lz g.form m f.num) deep (oy g.form m f.num) (ol (b.extract 0 e) z deep (lw mp g)))):=by
 obtain⟨ib,lb,pb,ub,pn,rfl,h1,h2,h3,h4,VR,q1,q2,q3,q4⟩:=hv;refine⟨419,[_,_,_,_],rfl,enters_of func419 Vh rfl,?_⟩;show U8 419 #[aa kind,ah rb,ah db,ah ib,ah lb,ah pb,ah ub] w _;have VV:g.form≠4:=λq=>by have:=hM.hm;rw[fg.map,q]at this;cases this
 have⟨VG,VS,VT,Wh⟩:=tz (deep:=deep) fg hS hM.hs Vc;rw[fg.eq]at h4 VR;have Vz:S.msg f.ty=some sub:=by have:=hM.hs;unfold fy at this;rw[hM.hm]at this;exact this
 have⟨VH,gs,VU,Wk,Wl⟩:=hpc _ _ VR;obtain rfl:sub=VH:=by rw[Vz]at VU;exact Option.some.inj VU
 have VW:(b.extract 0 e).size=e:=gJ I.eb;have hab:=I.az;have hze:=I.ze;have VX:=I.eb;have hbs:=I.bs;have hrb:=I.rB;have VL:=I.rZ;have Vy:=I.hZ;have VY:=I.cx.le;have VZ:rb<w.heap.size:=dX.lt I.hr;have VA:=qU w.drew rb (b.extract 0 e) z deep (lw mp g) (I.hr:ee w.drew rb (b.extract 0 e) z deep) Vc Vc Vc VS VT;obtain⟨Vr,Vs⟩:=Y9 (lw mp g);rw[Vs]at h2 VA⊢
 have VM:Hid (∀y:Nat×Nat,ol (b.extract 0 e) z deep Vr= .ok y->z<y.1/\y.1<=y.2/\y.2<=e/\1<=k/\(b.extract 0 e).extract 0 y.2=b.extract 0 y.2):=λy hy=>by
  have⟨q1,q2⟩:=wO hy;have⟨v0,v1,v2⟩:=ju (z:=y.1) (e:=y.2) q1;rw[VW]at v2;have hlv:1<=Vr:=(by rw[<-Vs];unfold lw;rw[dO (λq=>VV q.1),dP Wh];exact cK _);exact⟨v0,v1,v2,Vc,kI VX v2⟩
 clear Vs VS VT VG;obtain⟨R,hR⟩:=Y9 (ol (b.extract 0 e) z deep Vr);rw[hR]at VA VM⊢;clear hR;have hlen:=I.wm.len
 have VN:WM S a sub (lz g.form m f.num):=by
  unfold lz;split;.exact WM.none S a sub
  .rename_i h2;have:=(mW I.wm hff hM.hs).2;unfold eY at this;rw[hM.hm,fg.rep]at this;simpa [h2]using this
 have HP:Hid (∀k',k=k'+1->∀(w3:aw),eM S (k+1) (some d) w3 Z db m->w.heap.size<=w3.heap.size->U8 (jL g.form) #[ah db,aa f.num] w3 (tm S k (some d) w3 Z db (some sub) (lz g.form m f.num) (oy g.form m f.num))):=(by rintro k' rfl w3 VC Wm;exact Aa fg hff hM k' w3 Z db m VC Vc (by have:=hlen.2.2 f.num;omega) (λx q=>aI (Vy x q).2 Wm))
 have V0:Hid (∀k',k=k'+1->∀(w4:aw) (C:ax) (y:Nat×Nat) (nb p:Nat),Below B w w4->z<y.1->y.1<=y.2->y.2<=e->ee w4 nb (b.extract 0 y.2) y.1 ((deep:Int)+1)->eM S k (some sub) w4 C p (lz g.form m f.num)->(∀x,C x->B<=x/\x<w4.heap.size)->B<=nb->¬C nb->
   U8 89 #[ah pn,ah nb,ah p] w4 (iD S k' sub w4 C nb p (b.extract 0 y.2) (deep+1) (pN y.2 (eW S b F sub (lz g.form m f.num) y.1 y.2 (deep+1))))):=by
  rintro k' rfl w4 C y nb p VI v0 v1 v2 Wn VJ hC Wo VF;exact hRd w4 C sub _ y.1 y.2 (deep+1) k' pn gs nb p (I.cx.on VI) (hpc.O (λx q _=>VI.block x q)) (Wk.O (λx q _=>VI.block x q) (λ_ _ q=>q)) Wl (hS.good.sub hM.hs) (by rw[Int.natCast_succ];exact Wn) VJ hC Wo VF v1 Vc Vc Vc (VN.V Vc)
 have ep:=yN g.form;have V7:eM S (k+1) (some d) w.drew Z db m:=I.hd.O (λ_ _ _=>rfl);clear VN hlen;generalize lz g.form m f.num=m0 at*;generalize oy g.form m f.num=M at*;generalize jL g.form=pf at*;unfold Dh at h3;have V8:dX w.drew ib #[ah pn] 116:=h1;have V9:dX w.drew lb #[aa Vr] 3:=h2;have Wb:dX w.drew pb #[.func (.func pf) #[] #[]] 477:=h3;have Wd:dX w.drew ub #[aa f.num] 3:=h4
 have HC:Hid (∀W:aw,Below B w.drew W->W.cell? (aj ib 0)=some (ah pn)/\W.cell? (aj lb 0)=some (aa Vr)/\W.cell? (aj pb 0)=some (.func (.func pf) #[] #[])/\W.cell? (aj ub 0)=some (aa f.num)):=λW hW=>
  ⟨(V8.G hW q1).cell 0,(V9.G hW q2).cell 0,(Wb.G hW q3).cell 0,(Wd.G hW q4).cell 0⟩
 have Vt:Hid (∀y:Nat×Nat,yn S b F sub m0 deep M (.ok y)=Lq M y.2 (eW S b F sub m0 y.1 y.2 (deep+1))):=λ_=>rfl
 have b0:Below B w w.drew:=(Below.refl _ _).drew;have VO:eR w Z rb w.drew Z:= .oB (Below.refl _ _).drew;go_enter func419,ntmps419;go_upto_region 0 with fail
 go_region_held2 (λW=>W.cell? (aj ib 0)=some (ah pn)/\W.cell? (aj lb 0)=some (aa Vr)/\W.cell? (aj pb 0)=some (.func (.func pf) #[] #[])/\W.cell? (aj ub 0)=some (aa f.num))
  (first|exact HC.o _ b5|exact HC.o _ b4|exact HC.o _ b3|exact HC.o _ (Below.refl _ _))
  (first
   |(
     go_at_call 185;refine VA.V ?_;intro en w3 hq;rcases hq.part with⟨x,rfl,rfl,Vq⟩|⟨y,nb,rfl,rfl,Vq,Wp,Wq,Vw,VK⟩;.unfold dY;go_wp2;exact⟨rfl,rfl,Z,VO.J (.oK Vq)⟩
     have⟨v0,v1,v2,v3,v4⟩:=VM.o y rfl;obtain⟨k',rfl⟩:∃k',k=k'+1:=⟨k-1,Vc⟩;have VB:=VO.J (.oK Vq);have VC:=eR.dr V7 Vq VL;have We:w.heap.size<=w3.heap.size:=Vq.size;have hnb1:w.heap.size<=nb:=Wp;have Vu:nb<w3.heap.size:=dX.lt Vw;have VD:¬Z nb:=λq=>by have:=(Vy nb q).2;omega
     have b3:Below B w.drew w3:=⟨Vq.os,Vq.tape,Vq.output,Vq.size,λi hi=>Vq.block i (aI hi VY) Ve⟩
     have Vv:ee w3 nb (b.extract 0 y.2) y.1 ((deep:Int)+1):=by rw[<-v4];exact Vw)
   |(
     go_at_call 89;refine(V0.o k' rfl w4 C y nb p (b0.J b4) v0 v1 v2 VE VJ (λx q=>⟨VP x (hH.1 x q),Wu x q⟩) Vc VF).V ?_;intro en w5 Ws;rcases Ws.part with⟨x,hP,rfl,Z5,Vx⟩|⟨sm,hP,rfl,Z5,Vx,Wt⟩;.unfold dY;go_wp2;rw[Vt.o y,hP];exact⟨rfl,rfl,_,tA VB Vc Vp hH.1 Vx⟩
     have b5:Below B w.drew w5:=b4.J (Vx.G (by have:=Vp.size;omega) (λx q=>VP x (hH.1 x q)) Vc);have Wf:Hid (eW S b F sub m0 y.1 y.2 (deep+1)= .ok sm):=hP
     clear hP)
   |(
     refine(HP.o k' rfl w3 VC We).V ?_;rintro en w4 ⟨p,Z4,C,rfl,Vp,VJ,hH,Wu⟩;have VP:∀x,Z4 x->B<=x:=λx q=>(Vp.grow x q).elim (λe=>(Vy x e).1) (λe=>Vc)
     have VE:ee w4 nb (b.extract 0 y.2) y.1 ((deep:Int)+1):=dX.step Vv Vp VD;have b4:Below B w.drew w4:=b3.J ⟨Vp.os,Vp.tape,Vp.output,Vp.size,λi hi=>Vp.block i Vc (λq=>by have:=(Vy i q).1;omega)⟩
     have VF:¬C nb:=λq=>Vp.not Vu VD (hH.1 nb q)))
 all_goals
  go_wp2;go_end0;rw[Vt.o y,Wf.o];exact⟨rfl,_,tA VB Vc Vp hH.1 Vx,DZ VB VZ VL Vu VD Wq VK Vp hH Vx Wt⟩
def Ey {w:aw}{Q:ax}{mp pm:an}{k t:au}{p:Nat}(h:rU w Q mp (Dj w Q mp pm) (NI mp pm) [lL oe k 1,lL p9 t 2] p):iN w Q mp pm [lL oe k 1,lL p9 t 2] p:=
 rU.mV (.O λ_ _ _=>rfl) (λg hg v hv=>by
  simp only[aS,bX,or_false]at hg;unfold mo;rcases hg with rfl|rfl;.rw[dO (by simp[lL])];exact hv
  .rw[dO (by simp[lL])];exact hv) (λg hg v hv=>by
  simp only[aS,bX,or_false]at hg;rcases hg with rfl|rfl;.exact(jd.lk (by simp[lL])).2 hv
  .exact(jd.lk (by simp[lL])).2 hv) h
def SJ (w:aw)(B:Nat)(S:eD)(mp pm:an)(k:Nat)(d:MT)(f:fo)(g:GF)(Z:ax)(rb db:Nat)(b:au)(e a z deep F:Nat)(kind:Int)(m:PM)(v:Value)
  (I:px w B S mp k d Z rb db b e a z deep m) (hpc:nR w (λb=>b<B) S mp pm) (hv:P8 w (λb=>b<B) mp (rU w (λb=>b<B) mp (Dj w (λb=>b<B) mp pm) (NI mp pm) [lL oe g.f.key 1,lL p9 g.f.ty 2]) g v) (fg:FG S mp d f g) (hff:d9 d.fs f.num=some f) (hS:Fg S) (h4:g.form=4) (hkd:k+deep=8) (hgd:mg S d) (hRd:Md S mp pm B b F) (hF:e-z<=F):
  mE v [aa kind,ah rb,ah db] w (iD S k d w Z rb db (b.extract 0 e) deep (yn S b F (eP f) PM.none deep (zV f m) (ol (b.extract 0 e) z deep (lw mp g)))):=by
 obtain⟨ib,lb,ub,sb,VD,rfl,h1,h2,h3,h5,VC,q1,q2,q3,q4⟩:=hv;refine⟨418,[_,_,_,_],rfl,enters_of func418 Vh rfl,?_⟩;show U8 418 #[aa kind,ah rb,ah db,ah ib,ah lb,ah ub,ah sb] w _;have VC:=Ey VC;have hm:f.isMap=true:=by rw[fg.map,h4];rfl
 have Vp:fy S f=some (eP f):=by unfold fy;rw[dP hm]
 have⟨VM,V7,V8,Wp⟩:=tz (deep:=deep) fg hS Vp Vc;have⟨Wq,kq2,Ws,Wt⟩:=fg.key h4;have VQ:pM S f= .ents f.key:=by unfold pM;rw[dP hm]
 have ok1:oJ S (some d) f.num (.ents f.key):=λd' f' e1 e2=>by cases e1;rw[hff]at e2;cases e2;exact VQ.sy
 have ok2:∀kd,oJ S (some d) f.num kd->kd= .ents f.key:=λkd q=>by rw[q d f rfl hff,VQ]
 rw[fg.eq]at h3 h5 VC;rw[Wq,Wt]at h5;have V9:(b.extract 0 e).size=e:=gJ I.eb;have hab:=I.az;have hze:=I.ze;have Wb:=I.eb;have Wd:=I.bs;have VR:=I.rB;have VS:=I.rZ;have Vu:=I.hZ;have VE:=I.cx.le;have We:rb<w.heap.size:=dX.lt I.hr;have VF:=λw1 (h:ee w1 rb (b.extract 0 e) z deep)=>qU w1 rb (b.extract 0 e) z deep (lw mp g) h Vc Vc Vc V7 V8
 obtain⟨Vq,Vr⟩:=Y9 (lw mp g);rw[Vr]at h2 VF⊢
 have VT:Hid (∀y:Nat×Nat,ol (b.extract 0 e) z deep Vq= .ok y->z<y.1/\y.1<=y.2/\y.2<=e/\1<=k/\(b.extract 0 e).extract 0 y.2=b.extract 0 y.2):=λy hy=>by
  have⟨q1,q2⟩:=wO hy;have⟨v0,v1,v2⟩:=ju (z:=y.1) (e:=y.2) q1;rw[V9]at v2;have hlv:1<=Vq:=(by rw[<-Vr];unfold lw;rw[Wp];split<;>simp);exact⟨v0,v1,v2,Vc,kI Wb v2⟩
 clear Vr V7 V8 VM;obtain⟨R,hR⟩:=Y9 (ol (b.extract 0 e) z deep Vq);rw[hR]at VF VT⊢;clear hR;have hlen:=I.wm.len
 have Wf:Hid (∀k',k=k'+1->∀(w4:aw) (C:ax) (y:Nat×Nat) (nb p:Nat),Below B w w4->z<y.1->y.1<=y.2->y.2<=e->ee w4 nb (b.extract 0 y.2) y.1 ((deep:Int)+1)->eM S k (some (eP f)) w4 C p PM.none->(∀x,C x->B<=x/\x<w4.heap.size)->B<=nb->¬C nb->
   U8 89 #[ah VD,ah nb,ah p] w4 (iD S k' (eP f) w4 C nb p (b.extract 0 y.2) (deep+1) (pN y.2 (eW S b F (eP f) PM.none y.1 y.2 (deep+1))))):=by
  rintro k' rfl w4 C y nb p VN v0 v1 v2 Wu Wv hC Ww Wx;exact hRd w4 C (eP f) _ y.1 y.2 (deep+1) k' VD _ nb p (I.cx.on VN) (hpc.O (λx q _=>VN.block x q)) (VC.O (λx q _=>VN.block x q) (λ_ _ q=>q)) (Cb fg h4) (hS.good.sub Vp) (by rw[Int.natCast_succ];exact Wu) Wv hC Ww Wx v1 Vc Vc Vc (WM.none _ _ _)
 have VG:Hid (∀k',k=k'+1->∀(w6:aw) (Z6 E:ax) (eb:Nat) (y:Nat×Nat) (sm:PM),z<y.1->y.1<=y.2->y.2<=e->eW S b F (eP f) PM.none y.1 y.2 (deep+1)= .ok sm->eM S (k+1) (some d) w6 Z6 db m->eM S k (some (eP f)) w6 E eb sm->(∀x,E x->¬Z6 x)->(∀x,Z6 x->x<w6.heap.size)->(∀x,E x->x<w6.heap.size)->
   U8 187 #[ah db,aa f.num,.bool (fi jm f.key),ah eb] w6 λen w'=>en= .returned (.tuple #[])/\∃Z',fK w6 (λb=>Z6 b\/E b) w' Z'/\eM S (k+1) (some d) w' Z' db (zV f m sm)):=by
  rintro k' rfl w6 Z6 E eb y sm v0 v1 v2 Wy VL Wz VO WA WB;have VU:=lx hS.good Wd F (eP f) PM.none y.1 y.2 (deep+1) sm Wy (hS.good.sub Vp) v1 Vc (WM.none _ _ _);have VV:=BP (hgd f (fA hff).2 hm) VU;have hel:=VU.len.1;exact vz S k' (some d) w6 Z6 E db eb m sm f.num f.key _ VL Wz.toKey Ws VO WA WB ok1 ok2 rfl VV.ky (by have⟨r,hr⟩:=VV.key;show(gA sm).get 1≠ [];have:(mV (gA sm)).2.2.get 1=_:=hr;simp only[mV]at this;rw[this];simp) Vc (by have:=hlen.2.2 f.num;omega) Vc
 have hr0:=I.hr;have Wh:=I.hd;have⟨B1,KE⟩:=d8 w #[ai,ai] 183;have VW:w.heap.size<(w.alloc (am #[ai,ai] 183)).heap.size:=KE.lt;have Vw:Hid (∀y:Nat×Nat,yn S b F (eP f) PM.none deep (zV f m) (.ok y)=Lq (zV f m) y.2 (eW S b F (eP f) PM.none y.1 y.2 (deep+1))):=λ_=>rfl
 clear I;go_enter func418,ntmps418;go_upto_region 1 with fail
 obtain⟨wa,VP⟩:=Y9 (w.alloc (am #[ai,ai] 183));rw[VP]at KE B1 VW;simp only[VP];clear VP;obtain⟨eb,Vz⟩:=Y9 w.heap.size;have b1:Below B w wa.drew:=(B1.V VE).drew;have VH:ee wa.drew rb (b.extract 0 e) z deep:=dX.G hr0 B1.drew We;have VI:eM S (k+1) (some d) wa.drew Z db m:=Wh.O (λx _ q=>B1.block x q);have Vx:eR w Z rb wa.drew Z:= .oB B1.drew;have HC:Hid (∀W:aw,Below B w W->W.cell? (aj ib 0)=some (ah VD)/\W.cell? (aj lb 0)=some (aa Vq)):=λW hW=>⟨(h1.G hW q1).cell 0,(h2.G hW q2).cell 0⟩
 have VX:dX wa.drew w.heap.size #[ai,ai] 183:=KE;rw[Vz]at VX VW;simp only[Vz]
 go_region_held2 (λW=>W.cell? (aj ib 0)=some (ah VD)/\W.cell? (aj lb 0)=some (aa Vq))
  (first|exact HC.o _ b5|exact HC.o _ b3|exact HC.o _ b1)
  (first
   |(
     go_at_call 185;refine(VF wa.drew VH).V ?_;intro en w3 hq;rcases hq.part with⟨x,rfl,rfl,Vv⟩|⟨y,nb,rfl,rfl,Vv,WC,WD,VA,VB⟩;.unfold dY;go_wp2;exact⟨rfl,rfl,Z,Vx.J (.oK Vv)⟩
     have⟨v0,v1,v2,v3,v4⟩:=VT.o y rfl;obtain⟨k',rfl⟩:∃k',k=k'+1:=⟨k-1,Vc⟩;have VJ:=Vx.J (.oK Vv);have Wk:=eR.dr VI Vv VS;have hw3:wa.heap.size<=w3.heap.size:=Vv.size;have hnb1:wa.heap.size<=nb:=WC;have hnl3:nb<w3.heap.size:=dX.lt VA;have Wl:¬Z nb:=λq=>by have:=(Vu nb q).2;omega
     have Wm:=VX.kept Vv Ve;have Wn:eM S (k'+1) (some (eP f)) w3 (λx=>x=eb) eb PM.none:=eM.fresh Wm;have b3:Below B w w3:=VJ.G VE (λx q=>(Vu x q).1) VR
     have Vy:ee w3 nb (b.extract 0 y.2) y.1 ((deep:Int)+1):=by rw[<-v4];exact VA)
   |(
     go_at_call 89;refine(Wf.o k' rfl w3 (λx=>x=eb) y nb eb b3 v0 v1 v2 Vy Wn (λx q=>by subst q;exact⟨Vc,Vc⟩) Vc Vc).V ?_;intro en w5 WE;rcases WE.part with⟨x,hP,rfl,Z5,Vs⟩|⟨sm,hP,rfl,Z5,Vs,WF⟩;.unfold dY;go_wp2;rw[Vw.o y,hP];exact⟨rfl,rfl,_,tB VJ Vc Vc Vs⟩
     have VY:=tB VJ Vc Vc Vs;have b5:Below B w w5:=VY.G VE (λx q=>(Vu x q).1) VR;have VZ:Hid (eW S b F (eP f) PM.none y.1 y.2 (deep+1)= .ok sm):=hP
     clear hP))
 have V0:∀x,Z5 x->x=eb\/w3.heap.size<=x:=Vs.grow;have VK:=WF.clip;have VL:eM S (k'+1+1) (some d) w5 Z db m:=Wk.O λx q hl=>Vs.block x hl (λe=>by have:=(Vu x q).2;omega) (λe=>Wl (e▸q))
 have Wo:ee w5 rb (b.extract 0 e) y.2 deep:=(Vs.block rb (dX.lt VB) Vc (λe=>WD e.sy)).J VB;have hw5:w3.heap.size<=w5.heap.size:=Vs.size;have⟨k1,k2⟩:=(h3.G b5 q3).I;have⟨k3,k4⟩:=(h5.G b5 q4).I;go_wp2_with fail;refine(VG.o k' rfl w5 Z (λx=>Z5 x/\x<w5.heap.size) eb y sm v0 v1 v2 VZ.o VL VK (λx q1 q2=>by have:=(Vu x q2).2;have:=V0 x q1.1;omega) (λx q=>by have:=(Vu x q).2;omega) (λx q=>q.2)).V ?_;rintro en w9 ⟨rfl,Z9,Vt,WG⟩;go_wp2;go_end0;rw[Vw.o y,VZ.o];refine⟨rfl,Z9,VY.J ⟨Vt.os,Vt.tape,Vt.output,Vt.size,λi hi q _=>Vt.block i hi (λe=>q (e.imp id (λe=>e.1))),λi q=>(Vt.grow i q).imp (λe=>e.imp id (λe=>e.1)) id⟩,WG,?_⟩;exact dX.step Wo Vt (λq=>q.elim VS (λq=>(V0 rb q.1).elim (λe=>Vc) (λe=>Vc)))
section
variable {S:eD} {mp:an} {b:au} {deep:Nat} {num:Int} {d:MT} {f:fo} {g:GF} {m:PM} (w:aw)
theorem Ez {F a z e:Nat}(fg:FG S mp d f g)(hf:g.form=2)(hb:S.base f.ty<=15)(he:e<=b.size):
  kx S b F d f m deep (fM (b.extract 0 e) a num (eJ (S.base f.ty)) z)=Lo m f.num (gE (b.extract 0 e) z (S.base f.ty)):=by
 rw[Hn fg hf hb he];all_goals (cases gE (b.extract 0 e) z (S.base f.ty)<;>rfl)
theorem Js {F a z e:Nat}(fg:FG S mp d f g)(hf:g.form=2)(hw:eJ (S.base f.ty)≠2):
  kx S b F d f m deep (fM (b.extract 0 e) a num 2 z)=rT (S.base f.ty) b f.num m (fk (b.extract 0 e) z):=by
 rw[DW fg hf hw]
 cases fk (b.extract 0 e) z with
 |error x=>rfl
 |ok y=>simp only[rT];cases fW b (S.base f.ty) y.2 (y.2-y.1) (m.get f.num) y.1<;>rfl
theorem Qa (B:Nat)(S:eD)(mp pm:an)(k:Nat)(d:MT)(f:fo)(g:GF)(Z:ax)(rb db:Nat)(b:au)(e a z deep F kn:Nat)(num:Int)(m:PM)(v:Value)
  (I:px w B S mp k d Z rb db b e a z deep (m.without g.riv)) (hwm:WM S a d m) (hpc:nR w (λb=>b<B) S mp pm) (hv:mo w (λb=>b<B) mp pm g v) (fg:FG S mp d f g) (hff:d9 d.fs f.num=some f) (hS:Fg S) (hkd:k+deep=8) (hgd:mg S d) (hRd:Md S mp pm B b F) (hF:e-z<=F) (hfit:mf mp g kn=true):
  mE v [aa kn,ah rb,ah db] w (iD S k d w Z rb db (b.extract 0 e) deep (kx S b F d f m deep (fM (b.extract 0 e) a num kn z))):=by
 have hq:=(oO fg).1 hfit;have hle:=Cc S f.ty;unfold mo at hv;by_cases h4:g.form=4
 .rw[dP h4]at hv;have hm:f.isMap=true:=by rw[fg.map,h4];rfl
  obtain rfl:kn=2:=by
   rcases hq with h|⟨h,_⟩;.rw[h];unfold fV;rw[dP hm]
   .exact h
  rw[fg.lone Vc,jo]at I;have e2:=Ht (b:=b) (F:=F) (deep:=deep) (a:=a) (z:=z) (e:=e) (num:=num) (m:=m) fg hS h4 Vc;rw[show((2:Nat):Int)=2 from rfl,e2];exact SJ w B S mp pm k d f g Z rb db b e a z deep F _ m v I hpc hv fg hff hS h4 hkd hgd hRd hF
 .rw[dO h4]at hv;unfold Dj at hv;rw[fg.eq,fg.base]at hv;have hm:f.isMap=false:=by rw[fg.map];simp[h4]
  have Vt:fV S f=eJ (S.base f.ty):=by unfold fV eD.wire;rw[hm];rfl
  have Vy:eI mp g=S.base f.ty:=by unfold eI;rw[dO h4,fg.eq,fg.base]
  by_cases hb:S.base f.ty=16
  .rw[dP hb]at hv
   obtain rfl:kn=2:=by
    rcases hq with h|⟨h,_⟩;.rw[h,Vt,hb];rfl
    .exact h
   have:=fg.nest.1 hb;have⟨sub,Vw⟩:=cn.1 this;have hM:DY S d f sub:=⟨by unfold fy;rw[hm];exact Vw,hm⟩;have e2:=Hs (b:=b) (F:=F) (deep:=deep) (z:=z) (e:=e) (num:=num) fg hS hM Vc hff hwm;have e3:(if g.form=2 then PM.none else((m.get f.num).headD PV.none).2.2)=lz g.form (m.without g.riv) f.num:=(by unfold lz;rw[vA (by rw[fg.riv];exact Hi d f)])
   have e4:vS g m f.num=oy g.form (m.without g.riv) f.num:=funext λsm=>by
    unfold vS oy;by_cases h2:g.form=2;.rw[dP h2,dP h2,fg.lone Vc,jo]
    .rw[dO h2,dO h2]
   rw[e3,e4]at e2;rw[show((2:Nat):Int)=2 from rfl,e2];exact SI w B S mp pm k d f g Z rb db b e a z deep F _ _ sub v I hpc hv fg hff hS hM hkd hRd hF
  .rw[dO hb]at hv;have Vp:S.base f.ty<=15:=Vc;by_cases h2:g.form=2
   .have hr:=fg.lone Vc;rw[hr,jo]at I;by_cases hn:fj (S.base f.ty)=true
    .rw[dP (by unfold io;rw[Vy,h2];simpa using hn)]at hv;have Vu:=(uE Vp).1 hn;rcases hq with h|⟨h,_⟩;.rw[Vt]at h;subst h;rw[Ez fg h2 Vp I.eb];exact Q7 w B S mp k d f g Z rb db b e a z deep m v I hv fg h2 Vp hff
     .subst h;rw[show((2:Nat):Int)=2 from rfl,Js fg h2 Vu];exact Q9 w B S mp k d f g Z rb db b e a z deep m v I hv fg h2 Vp Vu hff
    .rw[dO (by unfold io;rw[Vy];simp[hn])]at hv
     have Vu:eJ (S.base f.ty)=2:=by
      by_cases q:eJ (S.base f.ty)=2;.exact q
      .exact absurd ((uE Vp).2 q) hn
     obtain rfl:kn=eJ (S.base f.ty):=by
      rcases hq with h|⟨h,_⟩;.rw[h,Vt]
      .omega
     rw[Ez fg h2 Vp I.eb,<-Mm h2];exact P9 w B S mp k d f g Z rb db b e a z deep _ m v I hv fg h4 Vp hff
   .rw[dO (by unfold io;simp[h2])]at hv;have VA:f.isRep=false:=by rw[fg.rep];simp[h2]
    obtain rfl:kn=eJ (S.base f.ty):=by
     rcases hq with h|⟨_,h⟩;.rw[h,Vt]
     .rw[VA]at h;cases h
    have e2:=Hq (F:=F) (deep:=deep) (a:=a) (z:=z) (num:=num) (m:=m) fg h4 h2 Vp I.eb;rw[e2,<-Ml h2];exact P9 w B S mp k d f g Z rb db b e a z deep _ _ v I hv fg h4 Vp hff
theorem Jt (B:Nat)(S:eD)(mp pm:an)(k:Nat)(d:MT)(f:fo)(g:GF)(Z:ax)(rb db:Nat)(b:au)(e a z deep F kn:Nat)(num:Int)(m:PM)(v:Value)
  (I:px w B S mp k d Z rb db b e a z deep m) (hpc:nR w (λb=>b<B) S mp pm) (hv:wW w (λb=>b<B) (mo w (λb=>b<B) mp pm) g v) (fg:FG S mp d f g) (hff:d9 d.fs f.num=some f) (hS:Fg S) (hkd:k+deep=8) (hgd:mg S d) (hRd:Md S mp pm B b F) (hF:e-z<=F) (hfit:mf mp g kn=true):
  mE v [aa kn,ah rb,ah db] w (iD S k d w Z rb db (b.extract 0 e) deep (kx S b F d f m deep (fM (b.extract 0 e) a num kn z))):=by
 unfold wW at hv;by_cases h0:g.riv= []
 .rw[dP h0]at hv;have hw:m.without g.riv=m:=by rw[h0,jo]
  exact Qa w B S mp pm k d f g Z rb db b e a z deep F kn num m v (by rw[hw];exact I) I.wm hpc hv fg hff hS hkd hgd hRd hF hfit
 .rw[dO h0]at hv;obtain⟨vb,sb,rv,u,rfl,h1,Vr,h2,q1,q2,hu⟩:=hv;refine⟨296,[_,_],rfl,enters_of func296 rfl rfl,?_⟩;show U8 296 #[aa kn,ah rb,ah db,ah vb,ah sb] w _;have hD:=re S k (some d) w Z db m rv g.riv I.hd Vr.1 fg.rlen (λx hx q=>by have:=Vr.2 x hx;have:=(I.hZ x q).1;omega)
  obtain⟨uf,Vq,rfl,eg,_⟩:∃uf Vq,u= .func (.func uf) #[] (List.toArray Vq)/\(∀args w,(callFunc uf args).run prog w= .ok (.enter uf args) w)/\True:=by
   have I0:=hu;unfold mo at hu;split at hu;.obtain⟨_,_,_,_,_,rfl,_⟩:=hu;exact⟨418,[_,_,_,_],rfl,enters_of func418 rfl rfl,trivial⟩
   .unfold Dj at hu;split at hu;.obtain⟨_,_,_,_,_,rfl,_⟩:=hu;exact⟨419,[_,_,_,_],rfl,enters_of func419 rfl rfl,trivial⟩
    .split at hu;.obtain⟨_,_,_,_,rfl,_⟩:=hu;exact⟨421,[_,_,_],rfl,enters_of func421 rfl rfl,trivial⟩
     .obtain⟨_,_,_,_,rfl,_⟩:=hu;exact⟨422,[_,_,_],rfl,enters_of func422 rfl rfl,trivial⟩
  have HR:Hid (∀w1 Z1,fK w Z w1 Z1->eM S (k+1) (some d) w1 Z1 db (m.without g.riv)->U8 uf (([aa kn,ah rb,ah db]:ay)++Vq).toArray w1 (iD S k d w Z rb db (b.extract 0 e) deep (kx S b F d f m deep (fM (b.extract 0 e) a num kn z)))):=λw1 Z1 st Vx=>by
   have Vv:eR w Z rb w1 Z1:= .oS st;have Vz:=Vv.G I.cx.le (λx q=>(I.hZ x q).1) I.rB;have I1:=I.on Vv Vx (dX.step I.hr st I.rZ) (by have:=I.wm.without f;rw[<-fg.riv]at this;exact this);have⟨VC,Vs,e1,_,hc⟩:=Qa w1 B S mp pm k d f g _ rb db b e a z deep F kn num m _ I1 I.wm (hpc.O (λx q _=>Vz.block x q)) (mo.O (λx q _=>Vz.block x q) (λ_ _ q=>q) hu) fg hff hS hkd hgd hRd hF hfit
   obtain⟨rfl,rfl⟩:uf=VC/\Vq=Vs:=by
    injection e1 with e1 _ e3
    injection e1 with e1
    exact⟨e1,by simpa using e3⟩
   exact hc.V λ_ _ q=>q.pre Vv.clip
  obtain⟨R,hR⟩:=Y9 (kx S b F d f m deep (fM (b.extract 0 e) a num kn z));rw[hR]at HR⊢;obtain⟨ra,rn,rc,rfl⟩:=d5 Vr.1;have⟨k1,k2⟩:=h1.I;have hZ:=I.hZ;go_enter func296,ntmps296;go_wp2_with fail;refine hD.V ?_;rintro en w1 ⟨rfl,Z1,st1,Vx⟩;have VB:=h2.step st1 (λq=>by have:=(hZ sb q).1;omega);have⟨k1,k2⟩:=VB.I;have hc:=HR.o w1 Z1 st1 Vx;go_wp2_with fail;refine hc.V ?_;intro en w2 hq
  cases R with
  |error x=>
   obtain⟨rfl,hq⟩:=hq;unfold dY;go_wp2
   exact⟨rfl,rfl,hq⟩
  |ok x=>
   obtain⟨rfl,hq⟩:=hq;go_wp2;go_end0;exact⟨rfl,hq⟩
end
section
variable {mp:ByteArray->Option Nat} {g:GF} {kind num:Int} {v:Value} {w:World} {Q:Nat->Prop}
theorem Ih:Mn kind (eJ (eI mp g)) (io mp g)=mf mp g kind:=by
 rfl
theorem Jh.one (h:Jh v):v.oneCell'=true:=by
 obtain⟨f,cap,rfl⟩:=h;rfl
theorem wW.fn {pm:ByteArray->Option Nat}(h:wW w Q (mo w Q mp pm) g v):Jh v:=by
 unfold wW at h;split at h
 .unfold mo at h;split at h;.obtain⟨_,_,_,_,_,rfl,_⟩:=h;exact⟨_,_,rfl⟩
  .unfold Dj at h;split at h;.obtain⟨_,_,_,_,_,rfl,_⟩:=h;exact⟨_,_,rfl⟩
   .split at h;.obtain⟨_,_,_,_,rfl,_⟩:=h;exact⟨_,_,rfl⟩
    .obtain⟨_,_,_,_,rfl,_⟩:=h;exact⟨_,_,rfl⟩
 .obtain⟨_,_,_,_,rfl,_⟩:=h;exact⟨_,_,rfl⟩
theorem nG.one {pm:ByteArray->Option Nat}{x:sC}(h:nG w Q mp (mo w Q mp pm) (jd w Q mp pm) g x):x.c1.oneCell'=true/\x.c2.oneCell'=true/\x.c3.oneCell'=true/\x.c4.oneCell'=true/\x.c5.oneCell'=true/\x.c6.oneCell'=true/\x.c7.oneCell'=true:=by
 have⟨a,n,c,hr⟩:=d5 h.riv.1;have⟨_,_,⟨_,_,q4,_⟩,⟨_,_,q5,_⟩,_,_,q6,_⟩:=h.enc;refine⟨by rw[h.kind];rfl,by rw[h.packs];rfl,by rw[hr];rfl,by rw[q4.eq];rfl,by rw[q5.eq];rfl,by rw[q6.eq];rfl,h.read.fn.one⟩
def EA (w:World)(Q:Nat->Prop)(mp pm:ByteArray->Option Nat)(gs:List GF)(num:Int)(e:Ending):Prop:=
 match iI gs num with
 |none=>e= .returned (.pointer none)
 |some g=>∃gb j v,e= .returned (.pointer (some ⟨gb,j,none⟩))/\Q gb/\gb<w.heap.size/\wW w Q (mo w Q mp pm) g v/\∀W:World,W.heap[gb]?=w.heap[gb]?->W.cell? ⟨gb,j+1,none⟩=some (.int .i64 (eJ (eI mp g)))/\W.cell? ⟨gb,j+2,none⟩=some (.bool (io mp g))/\W.cell? ⟨gb,j+7,none⟩=some v
def Ct (w:World)(Q:Nat->Prop)(mp pm:ByteArray->Option Nat)(gs:List GF)(num:Int)(e:Ending):Prop:=
 match iI gs num with
 |none=>e= .returned (.pointer none)
 |some g=>∃gb j x,e= .returned (.pointer (some ⟨gb,j,none⟩))/\Q gb/\gb<w.heap.size/\nG w Q mp (mo w Q mp pm) (jd w Q mp pm) g x/\∀W:World,W.heap[gb]?=w.heap[gb]?->∀i c,(jf x)[i]?=some c->W.cell? ⟨gb,j+i,none⟩=some c
theorem Ct.is {pm:ByteArray->Option Nat}{gs:List GF}{e:Ending}(h:Ct w Q mp pm gs num e):EA w Q mp pm gs num e:=by
 unfold Ct at h;unfold EA
 cases hf:iI gs num with
 |none=>grind
 |some g=>
  rw[hf]at h;obtain⟨gb,j,x,h1,h2,h3,VL,h5⟩:=h;exact⟨gb,j,x.c7,h1,h2,h3,VL.read,λW hW=>⟨by rw[<-VL.kind];exact h5 W hW 1 _ rfl,by rw[<-VL.packs];exact h5 W hW 2 _ rfl,h5 W hW 7 _ rfl⟩⟩
theorem tI (w:World)(Q:Nat->Prop)(mp pm:ByteArray->Option Nat)(gs:List GF)(pb:Nat)(num:Int)(h:iN w Q mp pm gs pb)(hs:gs.Pairwise (λx y=>x.f.num<=y.f.num))(hl:gs.length<=2001):
  U8 141 #[.pointer (some ⟨pb,0,none⟩),.int .i64 num] w λe w'=>Ct w Q mp pm gs num e/\Below w.heap.size w w':=by
 obtain⟨v,l,h1,h2,h3,h4⟩:=h;obtain⟨va,vn,vc,rfl⟩:=d5 h3.1;have hn:=h4.nums;have hln:=h4.len
 have WN:l.Pairwise (λa b=>a.n<=b.n):=by
  have:(l.map (·.n)).Pairwise (·<=·):=by grind
  grind
 refine(QQ w pb _ l num 0 h1 h3.1 (λx hx=> ?_) WN Vc).V ?_;.have⟨i,hi⟩:=bY.1 hx;have⟨g,_,hg⟩:=h4.get hi;exact hg.one
 .rintro e w' ⟨hq,hb⟩;refine⟨?_,hb⟩;unfold Ct;rcases hq with⟨i,gb,x,hx,hxn,WY,WZ,rfl⟩|⟨V8,rfl⟩
  .have⟨g,hg,VL⟩:=h4.get hx
   have hf:iI gs num=some g:=xI hg (by rw[<-VL.n];omega) (λk y hy hk=>by
    have Wq:k<l.length:=(by grind);have⟨g',VY,VH⟩:=h4.get (aO Wq);rw[hy]at VY;obtain rfl:=Option.some.inj VY;have:=WY k _ (aO Wq) hk;rw[VH.n]at this
    omega)
   rw[hf];have hil:=gl hx;obtain⟨g',rfl,_,VM,Vp⟩:=eH h3.1 Vc;obtain rfl:g'=gb:=by simpa [Value.ownBlock]using WZ
   refine⟨g',i*8,x,rfl,h3.2 g' rfl,VM,VL,λW hW j c hj=> ?_⟩;have Ws:=gl hj;rw[qz]at Ws;exact Vp W hW _ _ ((fY jf 8 qz l i x hx j Ws).J hj)
  .rw[pt λg hg=>by
    have⟨i,hi⟩:=bY.1 hg;have WO:i<l.length:=(by grind);have⟨g',VY,VH⟩:=h4.get (aO WO);rw[hi]at VY;obtain rfl:=Option.some.inj VY;rw[<-VH.n]
    grind]
theorem O6 (w:World)(Q:Nat->Prop)(mp pm:ByteArray->Option Nat)(gs:List GF)(pb:Nat)(num:Int)(h:iN w Q mp pm gs pb)(hs:gs.Pairwise (λx y=>x.f.num<=y.f.num))(hl:gs.length<=2001):
  U8 141 #[.pointer (some ⟨pb,0,none⟩),.int .i64 num] w λe w'=>EA w Q mp pm gs num e/\Below w.heap.size w w':=(tI w Q mp pm gs pb num h hs hl).V λ_ _ q=>⟨q.1.is,q.2⟩
theorem Gj (S:eD)(mp pm:ByteArray->Option Nat)(B:Nat)(b:ByteArray)(hS:Fg S)(hbs:b.size<=268435456):∀F,Md S mp pm B b F:=by
 intro F
 induction F using Nat.strongRecOn with
 |_ F ih=>
 intro w Z d m a e deep k pb gs rb db cx W5 hM hG WF hr hd hZ V9 W6 W7 he hF W8 W9;have Wt:(b.extract 0 e).size=e:=gJ he;have We:=cx.le;have WP:rb<w.heap.size:=dX.lt hr;obtain⟨P,hP⟩:=Y9 (eW S b F d m a e deep);rw[hP];have O0:zW S k d B w w Z Z rb db b e deep F a m P:=⟨eR.refl _ _ _,hr,hd,W7,W9,hF,hP.sy,hZ⟩;clear hP;go_enter func89,ntmps89;go_wp2;go_loopw [9] (λ_ wr=>∃Z' a' m' F',F'<=F/\zW S k d B w wr Z Z' rb db b e deep F' a' m' P) (λ_ wr=>mB wr rb e)
 case atStart=>grind
 case round=>
  obtain⟨Z',a',m',F',hFF,O⟩:=hrel;have Wu:=sf wr rb _ a' deep O.rr;rw[Wt]at Wu;have hhi:=O.hi;have hfu:=O.fu;go_wp2_with fail;refine Wu.V ?_;rintro en w4 ⟨rfl,q,rfl⟩;by_cases hlt:a'<e
  .have WQ:decide (a'<e)=true:=decide_eq_true hlt;obtain⟨F1,rfl⟩:∃F1,F'=F1+1:=⟨F'-1,Vc⟩;have Wv:ee (wr.drewN q) rb (b.extract 0 e) a' deep:=O.rr;have WR:eM S (k+1) (some d) (wr.drewN q) Z' db m':=O.dr.O (λ_ _ _=>rfl);have Ww:eR w Z rb (wr.drewN q) Z':=O.st.J (.oB (im (Below.refl _ _) q));have WS:=Sr (wr.drewN q) rb _ a' deep Wv;have Wx:=Kr (wr.drewN q) rb _ a' deep Wv Vc;have Wf:∀x,Z' x->B<=x/\x<(wr.drewN q).heap.size:=O.zz;have VK:¬Z' rb:=O.st.not WP W6;have HM:Hid (mB wr rb e=e-a'):=iy O.rr;have VR:∀x,Z x->B<=x:=λx q=>(hZ x q).1
   obtain⟨T,hT⟩:=Y9 (jW (b.extract 0 e) a');rw[hT]at Wx;have HT:Hid (jW (b.extract 0 e) a'=T):=hT;clear hT;generalize wr.drewN q=w4 at*;go_wp2_with fail;refine WS.V ?_;rintro en w5 ⟨rfl,rfl⟩;go_wp2_with fail;refine Wx.V ?_;intro en w6 Xa;rcases Xa.part with⟨x,rfl,rfl,VN⟩|⟨x,rfl,rfl,VN,Wn⟩;.have HB:Hid (P= .error x):=(by show P=_;rw[O.eq.o,D4 he hlt HT.o]);unfold dY;go_wp2;rw[HB.o];exact⟨rfl,rfl,Z',Ww.J (.oK VN)⟩
   obtain⟨⟨num,kind⟩,z⟩:=x;have⟨kn,WG,Wb,WH,Wo⟩:=FR HT.o;simp only at WG WH Wo Wn;subst WG;rw[Wt]at Wo;have⟨B7,KT⟩:=d8 w6 #[.int .i64 num,.int .i64 kn] 237;have Wy:ee (w6.alloc (Obj.cells #[.int .i64 num,.int .i64 kn] 237)) rb (b.extract 0 e) z deep:=dX.alloc Wn _;have Wz:=(Ww.J (.oK VN)).J (.oB B7);have WT:=(eR.dr WR VN VK).O (λx _ q=>B7.block x q);have WU:Below B w (w6.alloc (Obj.cells #[.int .i64 num,.int .i64 kn] 237)):=Wz.G We VR V9;have WV:=O6 (w6.alloc (Obj.cells #[.int .i64 num,.int .i64 kn] 237)) (λb=>b<B) mp pm gs pb num (hM.O (λx q _=>WU.block x q) (λ_ _ q=>q)) hG.srt hG.len;have WA:∀x,Z' x->B<=x/\x<(w6.alloc (Obj.cells #[.int .i64 num,.int .i64 kn] 237)).heap.size:=λx q=>⟨(Wf x q).1,aI (aI (Wf x q).2 VN.size) B7.size⟩
   have WW:¬Z' w6.heap.size:=λq=>by have:=(Wf _ q).2;have:=VN.size;omega
   have⟨k1,k2⟩:=KT.I;have hrw:rb<w6.heap.size:=dX.lt Wn;have hBt:B<=w6.heap.size:=Vc;go_wp2_with fail;generalize w6.alloc (Obj.cells #[.int .i64 num,.int .i64 kn] 237)=w7 at*;generalize w6.heap.size=tb at*;refine WV.V ?_;rintro en w8 ⟨VO,B8⟩;have VS:ee w8 rb (b.extract 0 e) z deep:=dX.G Wy B8 (dX.lt Wy);have VT:=Wz.J (.oB B8);have Wh:=WT.O (λx _ q=>B8.block x q);have hb8:Below B w w8:=VT.G We VR V9;have VA:=KT.G B8 KT.lt;have WB:∀x,Z' x->B<=x/\x<w8.heap.size:=λx q=>⟨(WA x q).1,aI (WA x q).2 B8.size⟩
   have hul:=O.wm.len;have hO:zW S k d B w wr Z Z' rb db b e deep (F1+1) a' m' P:=O;clear k1 k2 O
   cases hfind:iI gs num with
   |none=>
    have V8:∀f,d9 d.fs num=some f->¬(kn=fV S f\/(kn=2/\f.isRep=true)):=λf hf hq=>by
     have⟨g,q1,q2⟩:=hG.yes num f hf;rw[hfind]at q1;cases q1
    unfold EA at VO;rw[hfind]at VO;obtain rfl:en= .returned (.pointer none):=VO;have VU:=BK w8 rb _ z deep kn VS Vc Vc Vc;obtain⟨R,hR⟩:=Y9 (lZ (b.extract 0 e) z kn);have HL:Hid (P=Lx S b F1 d m' a' e deep R):=(by have h:=uG (S:=S) (F:=F1) (deep:=deep) (d:=d) (m:=m') he hlt HT.o Wb V8;rw[hR]at h;show P=_;rw[hO.eq.o,h];rfl)
    have HW:Hid (∀y,R= .ok y->z<y.2/\y.2<=e):=λy hy=>by
     have:=wS (hR.J hy);omega
    rw[hR]at VU;clear hR hfind;have⟨k1,k2⟩:=VA.I;go_wp2_with fail;refine VU.V ?_;intro en w9 VZ;rcases VZ.part with⟨x,rfl,rfl,Vw⟩|⟨y,rfl,rfl,Vw,Vz⟩;.unfold dY;go_wp2;rw[HL.o];exact⟨rfl,rfl,Z',VT.J (.oK Vw)⟩
    have⟨WJ,VI⟩:=HW.o y rfl;have VV:=wA w9 rb _ y.2 deep a' Vz Vc Vc;have VW:=eR.dr Wh Vw VK;have hex:(b.extract 0 e).extract a' y.2=b.extract a' y.2:=kI he VI;rw[hex]at VV;clear k1 k2;go_wp2_with fail;refine VV.V ?_;rintro en Xb ⟨rfl,Vx,rfl⟩;have VB:eM S (k+1) (some d) (w9.drewN Vx) Z' db m':=VW.O (λ_ _ _=>rfl);have Wk:=BX S k (some d) (w9.drewN Vx) Z' db m' (b.extract a' y.2) VB (by rw[bg];omega);go_wp2_with fail;refine Wk.V ?_;rintro en Vy ⟨rfl,V0,Vu,VJ⟩;have VC:ee (w9.drewN Vx) rb (b.extract 0 e) y.2 deep:=Vz;have Vs:ee Vy rb (b.extract 0 e) y.2 deep:=dX.step VC Vu VK;have stA:eR w Z rb Vy V0:=((VT.J (.oK Vw)).J (.oB (im (Below.refl _ _) Vx))).J (.oS Vu)
    have O9:zW S k d B w Vy Z (λi=>V0 i/\i<Vy.heap.size) rb db b e deep F1 y.2 (m'.O (b.extract a' y.2)) P:=
     ⟨stA.clip,Vs,VJ.clip,VI,hO.wm.O _ (by rw[bg];omega),Vc,HL,λx q=>⟨(stA.grow x q.1).elim (VR x) (λe=>Vc),q.2⟩⟩
    go_wp2;go_roundw
    case rel=>grind
    case measure=>rw[HM.o,iy Vs];omega
   |some g=>
    unfold EA at VO;rw[hfind]at VO;obtain⟨gb,j,v,rfl,hgB,VM,Wp,Vp⟩:=VO
    obtain⟨f,Wd,fg⟩:∃f,d9 d.fs num=some f/\FG S mp d f g:=by
     cases hf:d9 d.fs num with
     |none=>rw[hG.no num hf]at hfind;cases hfind
     |some f=>
      have⟨g2,q1,q2⟩:=hG.yes num f hf;rw[hfind]at q1;cases q1;exact⟨f,rfl,q2⟩
    have⟨c1,c2,_⟩:=Vp w8 (B8.block gb VM);have VX:=Mo w8 gb j kn _ _ c1 c2;rw[Ih]at VX;have Wl:wW w8 (λb=>b<B) (mo w8 (λb=>b<B) mp pm) g v:=Wp.O (λx _ q=>B8.block x q) (λv hv=>mo.O (λx _ q=>B8.block x q) (λ_ _ q=>q) hv);clear c1 c2 hfind
    cases hft:mf mp g kn with
    |false=>
     rw[hft]at VX
     have V8:∀f,d9 d.fs num=some f->¬(kn=fV S f\/(kn=2/\f.isRep=true)):=λf' WK hq=>by
      rw[Wd]at WK;cases WK;rw[(oO fg).2 hq]at hft;cases hft
     clear hft;have⟨k1,k2⟩:=VA.I;go_wp2_with fail;refine VX.V ?_;rintro en Vr ⟨rfl,VP⟩;have VD:ee Vr rb (b.extract 0 e) z deep:=dX.G VS VP (dX.lt VS);have Vq:=VT.J (.oB VP);have VE:=Wh.O (λx _ q=>VP.block x q);have Vt:=VA.G VP VA.lt;have VU:=BK Vr rb _ z deep kn VD Vc Vc Vc;obtain⟨R,hR⟩:=Y9 (lZ (b.extract 0 e) z kn);have HL:Hid (P=Lx S b F1 d m' a' e deep R):=(by have h:=uG (S:=S) (F:=F1) (deep:=deep) (d:=d) (m:=m') he hlt HT.o Wb V8;rw[hR]at h;show P=_;rw[hO.eq.o,h];rfl)
     have HW:Hid (∀y,R= .ok y->z<y.2/\y.2<=e):=λy hy=>by
      have:=wS (hR.J hy);omega
     rw[hR]at VU;clear hR k1 k2;have⟨k1,k2⟩:=Vt.I;go_wp2_with fail;refine VU.V ?_;intro en w9 VZ;rcases VZ.part with⟨x,rfl,rfl,Vw⟩|⟨y,rfl,rfl,Vw,Vz⟩;.unfold dY;go_wp2;rw[HL.o];exact⟨rfl,rfl,Z',Vq.J (.oK Vw)⟩
     have⟨WJ,VI⟩:=HW.o y rfl;have VV:=wA w9 rb _ y.2 deep a' Vz Vc Vc;have VW:=eR.dr VE Vw VK;have hex:(b.extract 0 e).extract a' y.2=b.extract a' y.2:=kI he VI;rw[hex]at VV;clear k1 k2;go_wp2_with fail;refine VV.V ?_;rintro en Xb ⟨rfl,Vx,rfl⟩;have VB:eM S (k+1) (some d) (w9.drewN Vx) Z' db m':=VW.O (λ_ _ _=>rfl);have Wk:=BX S k (some d) (w9.drewN Vx) Z' db m' (b.extract a' y.2) VB (by rw[bg];omega);go_wp2_with fail;refine Wk.V ?_;rintro en Vy ⟨rfl,V0,Vu,VJ⟩;have VC:ee (w9.drewN Vx) rb (b.extract 0 e) y.2 deep:=Vz;have Vs:ee Vy rb (b.extract 0 e) y.2 deep:=dX.step VC Vu VK;have stA:eR w Z rb Vy V0:=((Vq.J (.oK Vw)).J (.oB (im (Below.refl _ _) Vx))).J (.oS Vu)
     have O9:zW S k d B w Vy Z (λi=>V0 i/\i<Vy.heap.size) rb db b e deep F1 y.2 (m'.O (b.extract a' y.2)) P:=
      ⟨stA.clip,Vs,VJ.clip,VI,hO.wm.O _ (by rw[bg];omega),Vc,HL,λx q=>⟨(stA.grow x q.1).elim (VR x) (λe=>Vc),q.2⟩⟩
     go_wp2;go_roundw
     case rel=>grind
     case measure=>rw[HM.o,iy Vs];omega
    |true=>
     rw[hft]at VX;have⟨k1,k2⟩:=VA.I;have WC:Hid (mf mp g kn=true):=hft;clear hft;go_wp2_with fail;refine VX.V ?_;rintro en Vr ⟨rfl,VP⟩;have Vv:Below w8.heap.size w8 Vr.drew:=VP.drew;have VD:ee Vr.drew rb (b.extract 0 e) z deep:=dX.G VS Vv (dX.lt VS);have Vq:=VT.J (.oB Vv);have VE:=Wh.O (λx _ q=>Vv.block x q);have Vt:=VA.G Vv VA.lt;have VF:Below B w Vr.drew:=Vq.G We VR V9;have VG:∀x,Z' x->B<=x/\x<Vr.drew.heap.size:=λx q=>⟨(WB x q).1,aI (WB x q).2 Vv.size⟩
     have Wm:f.num=num:=(fA Wd).1;have I:px Vr.drew B S mp k d Z' rb db b e a' z deep m':=⟨cx.on VF,VD,VE,VG,V9,VK,WH,Wo,he,hbs,hO.wm⟩;obtain⟨uf,V7,rfl,eg,WL⟩:=Jt Vr.drew B S mp pm k d f g Z' rb db b e a' z deep F1 kn num m' v I (W5.O (λx q _=>VF.block x q)) (Wl.O (λx _ q=>Vv.block x q) (λv hv=>mo.O (λx _ q=>Vv.block x q) (λ_ _ q=>q) hv)) fg (by rw[Wm];omega) hS W8 WF (ih F1 Vc) Vc WC.o;have hit:=(oO fg).1 WC.o;obtain⟨R,hR⟩:=Y9 (kx S b F1 d f m' deep (fM (b.extract 0 e) a' num kn z));have HL:Hid (P=PX S b F1 d e deep R):=(by have h:=D3 (S:=S) (F:=F1) (deep:=deep) (d:=d) (m:=m') he hlt HT.o Wb Wd hit;rw[hR]at h;show P=_;rw[hO.eq.o,h];rfl);have HW:Hid (∀y,R= .ok y->WM S y.2 d y.1/\z<y.2/\y.2<=e):=λy hy=>Hu hS hbs WF he hO.wm HT.o Wb Wd hit (hR.J hy)
     rw[hR]at WL;clear hR k1 k2 hit;have WD:Vr.drew.heap[gb]?=w7.heap[gb]?:=(Vv.block gb (aI VM B8.size)).J (B8.block gb VM);have⟨_,_,c7⟩:=Vp Vr.drew WD;have WX:gb<Vr.drew.heap.size:=aI VM (aM B8.size Vv.size);have WE:=Vt.cell 1;simp only[cE,co,cp]at WE;go_upto_region 5 with fail
     go_region_held2 (λW=>W.cell? ⟨gb,j+7,none⟩=some (.func (.func uf) #[] V7.toArray)/\W.cell? ⟨tb,1,none⟩=some (.int .i64 kn))
      (first|exact c9|exact⟨c7,WE⟩)
      (
       first |(
        refine WL.V ?_;intro en w9 VZ;rcases VZ.part2 with⟨x,rfl,rfl,Z9,VQ⟩|⟨y,rfl,rfl,Z9,VQ,VW,Vz⟩;.unfold dY;go_wp2;rw[HL.o];exact⟨rfl,rfl,Z9,Vq.J VQ⟩
        have c9:w9.cell? ⟨gb,j+7,none⟩=some (.func (.func uf) #[] V7.toArray)/\w9.cell? ⟨tb,1,none⟩=some (.int .i64 kn):=⟨(Vp w9 ((VQ.block gb WX (λq=>by have:=(VG gb q).1;omega) Vc).J WD)).2.2,(show dX w9 tb #[.int .i64 num,.int .i64 kn] 237 from(VQ.block tb Vt.lt WW Vc).J Vt).cell 1⟩))
     have⟨Xc,WJ,VI⟩:=HW.o y rfl
     have O9:zW S k d B w w9 Z (λi=>Z9 i/\i<w9.heap.size) rb db b e deep F1 y.2 y.1 P:=
      ⟨(Vq.J VQ).clip,Vz,VW.clip,VI,Xc,Vc,HL,λx q=>⟨(VQ.grow x q.1).elim (λe=>(VG x e).1) (λe=>by have:=VF.size;omega),q.2⟩⟩
     go_wp2;go_roundw
     case rel=>exact⟨_,_,_,_,Vc,O9⟩
     case measure=>rw[HM.o,iy Vz];omega
  .have WQ:decide (a'<e)=false:=decide_eq_false hlt;obtain rfl:a'=e:=Vc;have HE:Hid (P= .ok m'):=(by show P=_;rw[O.eq.o,iP hlt]);go_wp2;go_end0;rw[HE.o];exact⟨rfl,Z',O.st.J (.oB (im (Below.refl _ _) q)),O.dr.O (λ_ _ _=>rfl),O.rr⟩
end
section
variable {w:aw} {B:Nat} {S:eD} {mp pm:an} {d:MT} {f:fo} {g:GF} {iq:aC}
theorem Cu (Vv:nR w (λb=>b<B) S mp pm)(fg:FG S mp d f g)(Vq:jd w (λb=>b<B) mp pm g (.pointer iq))(Vx:fB S f=16):
  ∃t p gs,fy S f=some t/\iq=some (aj p 0)/\iN w (λb=>b<B) mp pm gs p/\lH S mp t gs:=by
 unfold jd at Vq;by_cases h4:g.form=4
 .rw[dP h4]at Vq;obtain⟨p,h1,h2⟩:=Vq;have hm:f.isMap=true:=by rw[fg.map,h4];rfl
  refine⟨eP f,p,_,by unfold fy;rw[dP hm],by grind,Ey h2,?_⟩;rw[fg.eq];exact Cb fg h4
 .rw[dO h4]at Vq;have hm:f.isMap=false:=by rw[fg.map];grind
  have hb:jB mp g.f.ty=16:=(by unfold fB at Vx;rw[hm]at Vx;rw[fg.eq,fg.base];grind);rw[dP hb,fg.eq]at Vq;obtain⟨p,h1,h2⟩:=Vq;have⟨d',gs,q1,q2,q3⟩:=Vv _ _ h2;exact⟨d',p,gs,by unfold fy;grind,by grind,q2,q3⟩
section
variable {mp pm:an}
theorem O7 (w:aw)(Q:ax)(pb xb:Nat)(gs:List GF)(num kind:Int)(h:iN w Q mp pm gs pb)(hs:gs.Pairwise (λx y=>x.f.num<=y.f.num))(hl:gs.length<=2001)(hp:dX w xb #[ah pb] 116):
  U8 163 #[.agg #[aa num,aa kind],ah xb] w λe w'=>e= .returned (.bool (sY mp gs num kind).isSome)/\ak w w':=by
 have⟨B0,K0⟩:=d8 w #[aa num,aa kind] 237;have VY:=hp.G B0 hp.lt;have HK:=tI _ Q mp pm gs pb num (h.O (λb _ hl=>B0.block b hl) λ_ _ q=>q) hs hl;have⟨k1,k2⟩:=K0.I;have⟨k3,k4⟩:=VY.I;unfold sY;unfold Ct at HK
 cases hf:iI gs num with
 |none=>
  rw[hf]at HK;go_enter func163,ntmps163;go_wp2_with fail;refine HK.V ?_;rintro e w2 ⟨rfl,b2⟩;go_wp2;go_ret
  exact⟨rfl,dU B0 b2⟩
 |some g=>
  rw[hf]at HK;have hr:(if mf mp g kind=true then some g else none).isSome=mf mp g kind:=by split<;>simp_all
  simp only[hr];go_enter func163,ntmps163;go_wp2_with fail;refine HK.V ?_;rintro e w2 ⟨⟨gb,j,x,rfl,_,Vw,Vu,hc⟩,b2⟩;have c1:=hc w2 (b2.block gb Vw) 1 _ rfl;have c2:=hc w2 (b2.block gb Vw) 2 _ rfl;rw[Vu.kind]at c1;rw[Vu.packs]at c2;have HF:=Mo w2 gb j kind _ _ c1 c2;rw[Ih]at HF;have K2:=K0.G b2 K0.lt;clear k1 k2 k3 k4 hr;have⟨k1,k2⟩:=K2.I;go_wp2_with fail;refine HF.V ?_;rintro e w3 ⟨rfl,b3⟩;go_wp2;go_ret;exact⟨rfl,dU B0 (dU b2 b3)⟩
end
def SK (S:eD)(mp pm:an)(B n:Nat):Prop:=
 ∀(w:aw) (Z:ax) (v:Value) (m:PM) (d:MT) (pb:Nat) (gs:List GF) (deep k:Nat),tu w B S mp->nR w (λb=>b<B) S mp pm->iN w (λb=>b<B) mp pm gs pb->lH S mp d gs->gP k w Z v m->pP k m->n+deep=9->
  U8 103 #[ah pb,.agg #[v,ag m.unk],aa deep] w (eF (dZ S n d m) w)
theorem iN.on {w':aw}{gs:List GF}{pb:Nat}(h:iN w (λb=>b<B) mp pm gs pb)(hb:Below B w w'):iN w' (λb=>b<B) mp pm gs pb:=h.O (λb q _=>hb.block b q) λ_ _ q=>q
theorem nR.on {w':aw}(h:nR w (λb=>b<B) S mp pm)(hb:Below B w w'):nR w' (λb=>b<B) S mp pm:=h.O λb q _=>hb.block b q
theorem SL {n:Nat}(ih:SK S mp pm B n)(cx:tu w B S mp)(Vv:nR w (λb=>b<B) S mp pm)(fg:FG S mp d f g)(Vq:jd w (λb=>b<B) mp pm g (.pointer iq))(Vx:fB S f=16):∃t,fy S f=some t/\Jc S iq n t w:=by
 obtain⟨t,p,gs,h1,rfl,h3,h4⟩:=Cu Vv fg Vq Vx;refine⟨t,h1,λW' Z v m k deep hb hM hO hd=> ?_⟩;have VD:=ed hb cx.le;exact ih W' Z v m t p gs deep k (cx.on VD) (Vv.on VD) (h3.on VD) h4 hM hO hd
theorem Mp:∀n,SK S mp pm B n:=by
 intro n
 induction n with
 |zero=>
  intro w Z v m d pb gs deep k cx Vv VN hG hM hO hd;obtain⟨a,c,rfl⟩:=hM.form;obtain rfl:deep=9:=Vc;have⟨B0,K1,K2⟩:=gY w #[ah pb] #[.slice a m.fs.length c,ag m.unk] 116 49;go_enter func103,ntmps103;go_wp2_with (go_at_call 157;refine(AV _).V ?_;rintro e w2 ⟨rfl,rfl⟩;unfold dY)
  exact⟨rfl,eF.no B0⟩
 |succ n ih=>
  intro w Z v m d pb gs deep k cx Vv VN hG hM hO hd
  cases k with
  |zero=>exact hM.elim
  |succ k=>
  obtain⟨cs,hr,VV⟩:=hM;obtain⟨a,c,rfl⟩:=hr.form;have hcap:=hr.cap;obtain⟨Wb,Wd,We⟩:=hO;have⟨B0,K1,K2⟩:=gY w #[ah pb] #[.slice a m.fs.length c,ag m.unk] 116 49;have hd8:(deep:Int)<=8:=Vc;obtain⟨X,HX⟩:∃X,Hid (gU S (dZ S n) d [] m.fs=X):=⟨_,rfl⟩;have HM:Hid (dZ S (n+1) d m=(X&&pT (oW S d) m.unk)):=(by show dZ S (n+1) d m=_;rw[dZ,HX.o])
  have HU:Hid (∀(W:aw),ak w W->dX W w.heap.size #[ah pb] 116->U8 160 #[ag m.unk,.func (.func 163) #[] #[ah w.heap.size]] W (eF (pT (oW S d) m.unk) W)):=λW hW hp=>
   AR W m.unk 163 [ah w.heap.size] (oW S d) Wd (enters_of func163 Vi rfl) λW2 num kind VW=>by
    have:=O7 W2 (λb=>b<B) pb w.heap.size gs num kind (VN.on (ed (dU hW VW) cx.le)) hG.srt hG.len (hp.G VW hp.lt);rw[L4 hG]at this;exact this
  generalize pT (oW S d) m.unk=Y at*;go_enter func103,ntmps103;have⟨k1,k2⟩:=K2.I;go_wp2_with (go_at_call 157;refine(AU _).V ?_;rintro e w2 ⟨rfl,rfl⟩)
  generalize(w.alloc (am #[ah pb] 116)).alloc (am #[.slice a m.fs.length c,ag m.unk] 49)=w1 at*;go_loopw [6,7,8,15] (λ_ _ _ iv wr=>∃i:Nat,iv=aa i/\i<=m.fs.length/\Hid (gU S (dZ S n) d (m.fs.take i) (m.fs.drop i)=X)/\ak w1 wr) (λ_ _ _ iv _=>m.fs.length-(intOf iv).toNat)
  case atStart=>exact⟨0,rfl,aP _,HX,Below.refl _ _⟩
  case round=>
   obtain⟨i,rfl,hi,HI,Bw⟩:=hrel;clear k1 k2;have BW:=dU B0 Bw;by_cases hlt:i<m.fs.length
   .have⟨x,hx⟩:=gx hlt;have⟨vv,p1,p2,p3⟩:=VV.get hx;obtain⟨va,vc,rfl⟩:=p1.form;obtain⟨g0,rfl,hzg0,VA,Vp⟩:=hr.at Vc;have t0:=Vp wr (BW.block _ VA) _ _ p2;have t1:=lI (Vp wr (BW.block _ VA) _ _ p3);have⟨B1,K5⟩:=d8 wr #[aa x.1,.slice va x.2.length vc] 58;have B2:=dU BW B1;have VQ:=dU Bw B1;have VE:=K1.G VQ K1.lt;have HF:=tI _ (λb=>b<B) mp pm gs pb x.1 (VN.on (ed B2 cx.le)) hG.srt hG.len;have VB:Hid (X=(qD S (dZ S n) d (m.fs.take i) x&&gU S (dZ S n) d (m.fs.take (i+1)) (m.fs.drop (i+1)))):=(by show X=_;rw[<-HI.o,yK hx]);have⟨k3,k4⟩:=VE.I;have⟨k5,k6⟩:=K5.I;have hij:(i:Int)<(m.fs.length:Int):=Vc;have VZ:=We x (aL hx);clear Vp p2 p3 B1 hx;go_wp2_with fail;refine HF.V ?_;rintro e w3 ⟨he,b3⟩;generalize wr.alloc (am #[aa x.1,.slice va x.2.length vc] 58)=w2 at*;generalize wr.heap.size=vb at*;have B3:=dU B2 b3;have VR:=dU VQ b3;unfold Ct at he
    cases hfd:d9 d.fs x.1 with
    |none=>
     rw[hG.no _ hfd]at he;obtain rfl:e= .returned (.pointer none):=he;have Vt:Hid (dZ S (n+1) d m=false):=(by show dZ S (n+1) d m=false;rw[HM.o,VB.o,qD,hfd];rfl);go_wp2_with (go_at_call 157;refine(AV _).V ?_;rintro e w2 ⟨rfl,rfl⟩;unfold dY)
     rw[Vt.o]
     exact⟨rfl,eF.no B3⟩
    |some f=>
     have⟨g,hg,fg⟩:=hG.yes _ _ hfd;rw[hg]at he;obtain⟨gb,j,st,rfl,hgB,Vw,Vu,hc⟩:=he;have Vy:=(fA hfd).1;have HS:Hid (qD S (dZ S n) d (m.fs.take i) x=(kC g.riv g.f.num (m.fs.take i)&&fE S (dZ S n) f x.2)):=(by show qD S (dZ S n) d (m.fs.take i) x=_;unfold qD;rw[hfd,fg.riv,fg.eq,Vy]);have⟨iq,Vq,⟨cf,Vs,⟨e4,hen⟩,VX⟩,_,_⟩:=Vu.enc;have hn:=Vu.n;have VF:=Vu.riv.O (w':=w3.drew) λb _ q=>b3.drew.block b q
     have⟨ra,rc,VO⟩:=iz VF.1;rw[VO]at VF;have VS:=L2 w3.drew (some g0) c c m.fs cs i g.f.num (.slice ra g.riv.length rc) g.riv (hr.O λb _ q=>B3.drew.block b q) (tE.G B3.drew (aE _) VV) Vc Wb VF fg.rlen;obtain⟨q,hq⟩:=Y9 (kC g.riv g.f.num (m.fs.take i));rw[hq]at VS HS;have VG:w3.heap[gb]?=w2.heap[gb]?:=b3.block gb Vw;have VH:=(K2.G VR K2.lt);have VT:=K5.G b3 K5.lt
     have hC:∀W:aw,W.heap[gb]?=w3.heap[gb]?->W.cell? (aj gb j)=some (aa g.f.num)/\W.cell? (aj gb (j+3))=some (.slice ra g.riv.length rc)/\W.cell? (aj gb (j+4))=some (.func (.func cf) #[] Vs.toArray):=λW hW=>by
      have c0:=hc W (hW.J VG) 0 _ rfl;have c3:=hc W (hW.J VG) 3 _ rfl;have c4:=hc W (hW.J VG) 4 _ rfl;rw[hn]at c0;rw[VO]at c3;rw[e4]at c4;exact⟨c0,c3,c4⟩
     have Vr:gb<w3.heap.size:=aI Vw b3.size;clear hq hg hfd Vy HF hc Vu e4 VO hn;have hic:(i:Int)<=(c:Int):=Vc;go_upto_region 7 with(go_at_call 157;refine(AU _).V ?_;rintro e w2 ⟨rfl,rfl⟩)
     have VU:=hC w3.drew rfl
     have hW:w3.drew.cell? (aj (w.heap.size+1) 0)=some (.slice (some g0) m.fs.length c)/\w3.drew.cell? (aj gb j)=some (aa g.f.num)/\w3.drew.cell? (aj gb (j+3))=some (.slice ra g.riv.length rc):=
      ⟨VH.drew.cell 0,VU.1,VU.2.1⟩
     go_region_held2 (λW=>W.cell? (aj (w.heap.size+1) 0)=some (.slice (some g0) m.fs.length c)/\W.cell? (aj gb j)=some (aa g.f.num)/\W.cell? (aj gb (j+3))=some (.slice ra g.riv.length rc))
      (first|exact hW|omega)
      (first
       |(
         go_at_call 158;refine VS.V ?_;intro e w4 VP;rcases VP.part with⟨rfl,rfl,b4⟩|⟨rfl,y,z,rfl,b4⟩;rotate_left;.have B4:=dU B3.drew b4;have Vt:Hid (dZ S (n+1) d m=false):=(by show dZ S (n+1) d m=false;rw[HM.o,VB.o,HS.o];rfl);unfold dY;go_wp2;rw[Vt.o];exact⟨rfl,eF.no B4⟩
         have hW4:w4.cell? (aj (w.heap.size+1) 0)=some (.slice (some g0) m.fs.length c)/\w4.cell? (aj gb j)=some (aa g.f.num)/\w4.cell? (aj gb (j+3))=some (.slice ra g.riv.length rc):=⟨(VH.drew.G b4 VH.drew.lt).cell 0,(hC w4 (b4.block gb Vr)).1,(hC w4 (b4.block gb Vr)).2.1⟩))
     have B4:=dU B3.drew b4;have V0:=dU VR.drew b4;have VI:ak w2 w4:=dU b3.drew b4;have VJ:=VT.G (w:=w3.drew) b4 VT.lt;have VK:=cx.on (ed B4 cx.le);have VL:=Vv.on (ed B4 cx.le);have Vz:=Vq.mV (.O (w':=w4) λb q hl=>VI.block b hl) λ_ _ q=>q
     have HL:=VX S d f n w4 (λb q hl=>VI.block b hl) fg (λW' Wf=>(VK.on (ed Wf VK.le)).u) (λVx=>SL ih VK VL fg Vz Vx) w4.drew Z (.slice va x.2.length vc) x.2 k deep (Below.refl _ _).drew (pO.G B4.drew (aE _) p1) VZ Vc;obtain⟨r,VC⟩:=Y9 (fE S (dZ S n) f x.2);rw[VC]at HL HS;clear VC k3 k4 k5 k6 VX Vq Vz;have VM:gb<w4.heap.size:=aI Vw VI.size;have V7:=hC w4.drew (b4.block gb Vr);go_upto_region 8 with fail
     have hV:w4.drew.cell? (aj gb (j+4))=some (.func (.func cf) #[] Vs.toArray)/\w4.drew.cell? (aj vb 1)=some (.slice va x.2.length vc):=⟨V7.2.2,VJ.drew.cell 1⟩
     go_region_held2 (λW=>W.cell? (aj gb (j+4))=some (.func (.func cf) #[] Vs.toArray)/\W.cell? (aj vb 1)=some (.slice va x.2.length vc))
      (first|exact hV|omega)
      (first
       |(
         refine HL.V ?_;intro e w5 VC;rcases VC.part with⟨rfl,rfl,b5⟩|⟨rfl,y,z,rfl,b5⟩;rotate_left;.have B5:=dU B4.drew b5;have Vt:Hid (dZ S (n+1) d m=false):=(by show dZ S (n+1) d m=false;rw[HM.o,VB.o,HS.o];rfl);unfold dY;go_wp2;rw[Vt.o];exact⟨rfl,eF.no B5⟩
         have hV5:w5.cell? (aj gb (j+4))=some (.func (.func cf) #[] Vs.toArray)/\w5.cell? (aj vb 1)=some (.slice va x.2.length vc):=⟨(hC w5 ((b5.block gb VM).J (b4.block gb Vr))).2.2,(VJ.drew.G b5 VJ.drew.lt).cell 1⟩))
     have V8:Hid (gU S (dZ S n) d (m.fs.take (i+1)) (m.fs.drop (i+1))=X):=(by show _=X;rw[VB.o,HS.o];rfl);go_wp2;go_roundw
     case rel=>exact⟨i+1,by go_num,Vc,V8,dU V0.drew b5⟩
     case measure=>simp[intOf];omega
   .obtain rfl:i=m.fs.length:=Vc;have Vt:Hid (dZ S (n+1) d m=Y):=(by show dZ S (n+1) d m=Y;rw[HM.o,<-HI.o,cC];rfl);have VE:=K1.G Bw K1.lt;have K22:=K2.G Bw K2.lt;have V9:=HU.o wr BW VE;have⟨k3,k4⟩:=K22.I;go_wp2_with fail;refine V9.V ?_;intro e w4 VP;rcases VP.part with⟨rfl,rfl,b4⟩|⟨rfl,y,z,rfl,b4⟩;.go_wp2;go_end0;rw[Vt.o];exact eF.ok (dU BW b4)
    .unfold dY;go_wp2;rw[Vt.o];exact⟨rfl,eF.no (dU BW b4)⟩
end
end
end Go.Proofs.YtfebdimolnobaaaGreatDoor
