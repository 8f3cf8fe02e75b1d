import Derived.Test.YtfebdimolnobaaaGreatDoorPlI
set_option maxRecDepth 100000
set_option maxHeartbeats 8000000
set_option linter.all false
namespace Go.Proofs.YtfebdimolnobaaaGreatDoor
open Go.RowKit Go.Proofs.Tryz
section
open VH
def wd (form:Int)(m:PM)(n:Int)(v:LV):PM:=if form=2 then m.put n (m.get n++ [re v])else if form=0/\v.1=0/\gQ v.2 eS=true then m.put n []else m.put n [re v]
def EA (form:Int)(m:PM)(n:Int):Fx (LV×Nat)->Fx (PM×Nat)
 | .error x=> .error x
 | .ok x=> .ok (wd form m n x.1,x.2)
def Mr {form:Int}(h:form≠2)(m:PM)(n:Int)(r:Fx (LV×Nat)):EA form m n r=OH (decide (form=0)) m n r:=by
 cases r with
 |error x=>rfl
 |ok x=>simp only[EA,OH,wd,dQ h,dS]
def Ms {form:Int}(h:form=2)(m:PM)(n:Int)(r:Fx (LV×Nat)):EA form m n r=Lu m n r:=by
 cases r with
 |error x=>rfl
 |ok x=>simp only[EA,Lu,wd,dR h]
def Cy (form:Int)(args:aq)(w:aw):(callFunc (mq form) args).run prog w= .ok (.enter (mq form) args) w:=by
 unfold mq;split;.exact enters_of func193 VA rfl args w
 .split;.exact enters_of func268 VA rfl args w
  .exact enters_of func195 VA rfl args w
def EB (S:eF)(k:Nat)(d:MT)(form:Int)(w:aw)(Z:ax)(db:Nat)(m:PM)(n:Int)(v:LV)(h:eQ S (k+1) (some d) w Z db m)(a:oO S (some d) n .vals)(c:∀kd,oO S (some d) n kd->kd= .vals)(g:m.fs.length<2199023255000)(i:(m.get n).length<2199023255000)(j:∀b,Z b->b<w.heap.size):
  Vq (mq form) #[ah db,aa n,wN v] w (kD S k (some d) w Z db (wd form m n v)):=by
 by_cases h0:form=0
 .have e:mq form=193:=by unfold mq;rw[dR h0]
  have f:wd form m n v=if v.1=0/\gQ v.2 eS=true then m.put n []else m.put n [re v]:=by unfold wd;rw[dQ Vv];simp[h0]
  rw[e,f];exact Hl S k (some d) w Z db m n v h a (.inl c) g j
 .by_cases h2:form=2
  .have e:mq form=268:=by unfold mq;rw[dQ h0,dR h2]
   have f:wd form m n v=m.put n (m.get n++ [re v]):=by unfold wd;rw[dR h2]
   rw[e,f];exact yo S k (some d) w Z db m n v h a (.inl c) g i
  .have e:mq form=195:=by unfold mq;rw[dQ h0,dQ h2]
   have f:wd form m n v=m.put n [re v]:=by unfold wd;rw[dQ h2,dQ (λq=>h0 q.1)]
   rw[e,f];exact Cb S k (some d) w Z db m n v h a (.inl c) g
def Ql (w:aw)(B:Nat)(S:eF)(mp:an)(k:Nat)(d:MT)(f:fw)(g:GF)(Z:ax)(rb db:Nat)(b:au)(e a z deep:Nat)(kind:Int)(m:PM)(v:Value)
  (I:pE w B S mp k d Z rb db b e a z deep m) (q:Rj w (λb=>b<B) mp g v) (y:FG S mp d f g) (n:g.form≠4) (p:S.base f.ty<=15) (A:ed d.fs f.num=some f):
  mH v [aa kind,ah rb,ah db] w (iE S k d w Z rb db (b.extract 0 e) deep (EA g.form m f.num (gG (b.extract 0 e) z (S.base f.ty)))):=by
 obtain⟨i,h,j,s,rfl,H,J,c,u,l,o,r⟩:=q;refine⟨422,[_,_,_],rfl,enters_of func422 VA rfl,?_⟩;show Vq 422 #[aa kind,ah rb,ah db,ah i,ah h,ah j] w _;rw[y.eq]at J u;rw[y.base]at u;have⟨Q,_,_⟩:=lQ y n p;have⟨D,E⟩:=oU A Q;have l:(b.extract 0 e).size=e:=gK I.eb;have r:=I.wm.len;have l:=I.az;have l:=I.ze;have l:=I.eb;have l:=I.bs;have l:=I.rB;have G:=I.rZ;have o:=I.hZ;have l:rb<w.heap.size:=dZ.lt I.hr;have N:eQ S (k+1) (some d) w.drew Z db m:=I.hd.O (λ_ _ _=>rfl);have C:ei w.drew rb (b.extract 0 e) z deep:=I.hr;obtain⟨p,n,rfl,l,L⟩:=LU (u.O (w':=w.drew) (λ_ _ _=>rfl)) rb (b.extract 0 e) z deep C Vv Vv Vv (I.cx.u:UOK w.drew) (by have:=I.cx.u1;omega) (by have:=I.cx.u2;omega)
 have M:Hid (∀(w3:aw) (v:LV),eQ S (k+1) (some d) w3 Z db m->w.heap.size<=w3.heap.size->Vq (mq g.form) #[ah db,aa f.num,wN v] w3 (kD S k (some d) w3 Z db (wd g.form m f.num v))):=
  λw3 v T U=>EB S k d g.form w3 Z db m f.num v T D E Vv (by have:=r.2.2 f.num;omega) (λx q=>aI (o x q).2 U)
 have l:=Cy g.form;have O:Hid (∀x,EA g.form m f.num (.ok x)= .ok (wd g.form m f.num x.1,x.2)):=λ_=>rfl
 have P:Hid (∀x,EA g.form m f.num (.error x)= .error x):=λ_=>rfl
 obtain⟨R,K⟩:=Vu (gG (b.extract 0 e) z (S.base f.ty));rw[K]at L⊢;clear K;generalize mq g.form=pf at*;generalize EA g.form m f.num=PR at*;unfold Dk at H;have r:dZ w.drew i #[.func (.func pf) #[] #[]] 480:=H;have s:dZ w.drew h #[aa f.num] 3:=J;have t:dZ w.drew j #[.func (.func p) #[] n.toArray] 478:=c;go_enter func422,ntmps422;go_upto_region 0 with fail
 go_region_held2 (λW=>W.cell? (aj i 0)=some (.func (.func pf) #[] #[])/\W.cell? (aj h 0)=some (aa f.num)/\W.cell? (aj j 0)=some (.func (.func p) #[] n.toArray))
  (first|exact u|exact l|exact⟨r.cell 0,s.cell 0,t.cell 0⟩)
  (first
   |(
     refine L.V ?_;intro y w3 A;rcases A.part with⟨x,rfl,rfl,c⟩|⟨x,rfl,rfl,c,V⟩;.unfold d5;go_wp2;rw[P.o];exact⟨rfl,rfl,Z,(eU.oB (Below.refl _ _).drew).J (.oK c)⟩
     have l:w3.cell? (aj i 0)=some (.func (.func pf) #[] #[])/\w3.cell? (aj h 0)=some (aa f.num)/\w3.cell? (aj j 0)=some (.func (.func p) #[] n.toArray):=⟨(r.kept c Vx).cell 0,(s.kept c Vx).cell 0,(t.kept c Vx).cell 0⟩)
   |(
     refine(M.o w3 x.1 (eU.dr N c G) c.size).V ?_;rintro y F ⟨rfl,Y,l,X⟩
     have u:F.cell? (aj i 0)=some (.func (.func pf) #[] #[])/\F.cell? (aj h 0)=some (aa f.num)/\F.cell? (aj j 0)=some (.func (.func p) #[] n.toArray):=⟨((r.kept c Vx).step l (λq=>by have:=(o i q).1;omega)).cell 0,((s.kept c Vx).step l (λq=>by have:=(o h q).1;omega)).cell 0,((t.kept c Vx).step l (λq=>by have:=(o j q).1;omega)).cell 0⟩))
 all_goals
  go_wp2;go_end0;rw[O.o];exact⟨rfl,Y,((eU.oB (Below.refl _ _).drew).J (.oK c)).J (.oS l),X,dZ.step V l G⟩
def Rp (w:aw)(B:Nat)(S:eF)(mp:an)(k:Nat)(d:MT)(f:fw)(g:GF)(Z:ax)(rb db:Nat)(b:au)(e a z deep:Nat)(m:PM)(v:Value)
  (I:pE w B S mp k d Z rb db b e a z deep m) (hv:Pe w (λb=>b<B) mp g v) (s:FG S mp d f g) (hf:g.form=2) (X:S.base f.ty<=15) (u:ed d.fs f.num=some f):
  mH v [aa (eM (S.base f.ty)),ah rb,ah db] w (iE S k d w Z rb db (b.extract 0 e) deep (Lu m f.num (gG (b.extract 0 e) z (S.base f.ty)))):=by
 obtain⟨pb,h,i,vv,rfl,t,E,U,o,q1,q2,q3⟩:=hv;refine⟨421,[_,_,_],rfl,enters_of func421 VB rfl,?_⟩;show Vq 421 #[aa (eM (S.base f.ty)),ah rb,ah db,ah pb,ah h,ah i] w _;rw[s.eq]at t E o;rw[s.base]at t o;have⟨M,_,_⟩:=lQ s Vv X;have⟨A,C⟩:=oU u M;have Wh:(b.extract 0 e).size=e:=gK I.eb;have hl:=I.wm.len;have Ww:=I.az;have Wx:=I.ze;have Wk:=I.eb;have Wy:=I.bs;have Wl:=I.rB;have D:=I.rZ;have VV:=I.hZ;have Wm:rb<w.heap.size:=dZ.lt I.hr;have K:eQ S (k+1) (some d) w.drew Z db m:=I.hd.O (λ_ _ _=>rfl);have y:ei w.drew rb (b.extract 0 e) z deep:=I.hr;obtain⟨n,j,rfl,eg,G⟩:=LU (o.O (w':=w.drew) (λ_ _ _=>rfl)) rb (b.extract 0 e) z deep y Vv Vv Vv (I.cx.u:UOK w.drew) (by have:=I.cx.u1;omega) (by have:=I.cx.u2;omega)
 have V:∀w3:aw,∀v:LV,eQ S (k+1) (some d) w3 Z db m->Vq 268 #[ah db,aa f.num,wN v] w3 (kD S k (some d) w3 Z db (m.put f.num (m.get f.num++ [re v]))):=
  λw3 v N=>yo S k (some d) w3 Z db m f.num v N A (.inl C) Vv (by grind)
 obtain⟨R,F⟩:=Vu (gG (b.extract 0 e) z (S.base f.ty));rw[F]at G⊢;clear F;generalize(eM (S.base f.ty):Int)=al at*;have p:dZ w.drew h #[aa f.num] 3:=E;have r:dZ w.drew i #[.func (.func n) #[] j.toArray] 478:=U;have⟨k1,k2⟩:=t.I;have Wn:(al==al)=true:=Vw;go_enter func421,ntmps421;go_upto_region 1 with fail
 go_region_held2 (λW=>W.cell? (aj h 0)=some (aa f.num)/\W.cell? (aj i 0)=some (.func (.func n) #[] j.toArray))
  (first|exact Q|exact P|exact⟨p.cell 0,r.cell 0⟩)
  (first
   |(
     refine G.V ?_;intro T w3 Y;rcases Y.part with⟨x,rfl,rfl,c⟩|⟨x,rfl,rfl,c,L⟩;.unfold d5;go_wp2;exact⟨rfl,rfl,Z,(eU.oB (Below.refl _ _).drew).J (.oK c)⟩
     have P:w3.cell? (aj h 0)=some (aa f.num)/\w3.cell? (aj i 0)=some (.func (.func n) #[] j.toArray):=⟨(p.kept c (by grind)).cell 0,(r.kept c (by grind)).cell 0⟩)
   |(
     go_at_call 268;refine(V w3 x.1 (eU.dr K c D)).V ?_;rintro T H ⟨rfl,O,l,J⟩
     have Q:H.cell? (aj h 0)=some (aa f.num)/\H.cell? (aj i 0)=some (.func (.func n) #[] j.toArray):=⟨((p.kept c (by grind)).step l (λq=>by grind)).cell 0,((r.kept c (by grind)).step l (λq=>by grind)).cell 0⟩))
 all_goals
  go_wp2;go_end0;exact⟨rfl,O,((eU.oB (Below.refl _ _).drew).J (.oK c)).J (.oS l),J,dZ.step L l D⟩
structure Rq (S:eF)(k:Nat)(d:MT)(B:Nat)(w wr:aw)(Z Z':ax)(rb nb db y1 y2:Nat)(b s:au)(deep:Nat)(bs:Nat)(m:PM)(n:Int)(a:Nat)(l:List PV)(F:Nat)(P:Fx (List PV)):Prop where
 st:eU w Z rb wr Z'
 rn:ei wr nb (b.extract 0 y2) a deep
 rr:ei wr rb s y2 deep
 dr:eQ S (k+1) (some d) wr Z' db (m.put n l)
 lo:y1<=a
 hi:a<=y2
 ll:l.length<=a
 eq:Hid (P=fY b bs y2 F l a)
 fu:y2-a<=F
 zz:∀x,Z' x->B<=x/\x<wr.heap.size
 zn:¬Z' nb
def Rr (w:aw)(B:Nat)(S:eF)(mp:an)(k:Nat)(d:MT)(f:fw)(g:GF)(Z:ax)(rb db:Nat)(b:au)(e a z deep:Nat)(m:PM)(v:Value)
  (I:pE w B S mp k d Z rb db b e a z deep m) (hv:Pe w (λb=>b<B) mp g v) (fg:FG S mp d f g) (hf:g.form=2) (hb:S.base f.ty<=15) (hw:eM (S.base f.ty)≠2) (hff:ed d.fs f.num=some f):
  mH v [aa 2,ah rb,ah db] w (iE S k d w Z rb db (b.extract 0 e) deep (rU (S.base f.ty) b f.num m (ft (b.extract 0 e) z))):=by
 obtain⟨pb,H,J,vv,rfl,N,Q,h3,L,q1,q2,q3⟩:=hv;refine⟨421,[_,_,_],rfl,enters_of func421 VB rfl,?_⟩;show Vq 421 #[aa 2,ah rb,ah db,ah pb,ah H,ah J] w _;rw[fg.eq]at N Q L;rw[fg.base]at N L;have⟨Wd,_,_⟩:=lQ fg Vv hb;have⟨ok1,ok2⟩:=oU hff Wd;have Wh:(b.extract 0 e).size=e:=gK I.eb;have hl:=I.wm.len;have Ww:=I.az;have Wx:=I.ze;have Wk:=I.eb;have Wy:=I.bs;have Wl:=I.rB;have VS:=I.rZ;have hu1:=I.cx.u1;have hu2:=I.cx.u2;have VV:=I.hZ;have Wz:=I.cx;have Wm:rb<w.heap.size:=dZ.lt I.hr;have VZ:=oN w rb _ z deep I.hr Vv;have K:=I.hd.srt;have VY:=I.hd;obtain⟨R,hR⟩:=Vu (ft (b.extract 0 e) z);rw[hR]at VZ⊢;have HR:Hid (ft (b.extract 0 e) z=R):=hR;clear hR;have hne:((2:Int)==(eM (S.base f.ty):Int))=false:=by grind
 have h13:S.base f.ty≠13:=λq=>hw (by rw[q];rfl)
 have h14:S.base f.ty≠14:=λq=>hw (by rw[q];rfl)
 generalize(eM (S.base f.ty):Int)=al at*
 obtain⟨C,Y,rfl⟩:∃C Y,vv= .func (.func C) #[] Y:=by
  rcases L with⟨_,rfl⟩|⟨_,rfl⟩|⟨_,_,_,rfl,_⟩;.omega
  .omega
  grind
 have⟨k1,k2⟩:=N.I;have WA:=I.cx.le;clear I;go_enter func421,ntmps421;go_wp2_with fail;refine VZ.V ?_;intro en w3 hq;rcases hq.part with⟨x,rfl,rfl,G⟩|⟨y,p,rfl,rfl,G,WO,hnr,VU,We⟩;.unfold d5;go_wp2;exact⟨rfl,rfl,Z,.oK G⟩
 clear k1 k2 VZ;obtain⟨n,c⟩:=y;have⟨v0,v1,v2⟩:=jw HR.o;rw[Wh]at v2;have Wn:(b.extract 0 e).extract 0 c=b.extract 0 c:=kL Wk v2;simp only[Wn]at VU;have WB:(b.extract 0 c).size=c:=gK Vv;have Wo:=eU.dr VY G VS
 have P0:Rq S k d B w w3 Z Z rb p db n c b (b.extract 0 e) deep (S.base f.ty) m f.num n (m.get f.num) (c-n) (fY b (S.base f.ty) c (c-n) (m.get f.num) n):=
  ⟨.oK G,VU,We,by rw[Hs K.1 K.2];omega,aE _,v1,by grind,rfl,aE _,λx q=>⟨(VV x q).1,aI (VV x q).2 G.size⟩,λq=>by grind⟩
 obtain⟨P,hP⟩:=Vu (fY b (S.base f.ty) c (c-n) (m.get f.num) n);have HQ:Hid (rU (S.base f.ty) b f.num m (.ok (n,c))=Lw m f.num c P):=(by show Lw m f.num c (fY b (S.base f.ty) c (c-n) (m.get f.num) n)=_;rw[hP]);rw[hP]at P0;clear hP;go_wp2;go_loopw [21] (λ_ wr=>∃o j l u,Rq S k d B w wr Z o rb p db n c b (b.extract 0 e) deep (S.base f.ty) m f.num j l u P) (λ_ wr=>mF wr p c)
 case atStart=>grind
 case round=>
  obtain⟨o,j,l,u,O⟩:=hrel;have hM:=si wr p _ j deep O.rn;rw[WB]at hM;have hlo:=O.lo;have hhi:=O.hi;have hll:=O.ll;go_wp2_with fail;refine hM.V ?_;rintro en w4 ⟨rfl,q,rfl⟩;by_cases hlt:j<c
  .have hd:decide (j<c)=true:=decide_eq_true hlt;obtain⟨D,rfl⟩:∃D,u=D+1:=⟨u-1,by have:=O.fu;omega⟩;have M:Below B w wr:=O.st.G WA (λx q=>(VV x q).1) Wl;have VQ:Below B w (wr.drewN q).drew:=(iu M q).drew;have hu:UOK (wr.drewN q).drew:=(Wz.on M).u;have WC:ei (wr.drewN q).drew p (b.extract 0 c) j deep:=O.rn;have Wp:=WO;have⟨WP,E,WQ,eg,hV⟩:=LU (L.O (w':=(wr.drewN q).drew) (λx h _=>VQ.block x h)) p (b.extract 0 c) j deep WC Vv Vv Vv hu Vv Vv;obtain⟨rfl,rfl⟩:C=WP/\Y=E.toArray:=by grind
   clear WQ;have U:gG (b.extract 0 c) j (S.base f.ty)=match jG (b.extract 0 c) j (S.base f.ty)with| .error x=> .error x| .ok x=> .ok ((x.1,⟨#[]⟩),x.2):=(by unfold gG;grind)
   have V:=AB (k:=S.base f.ty) (F:=D) (l:=l) (show c<=b.size by omega) hlt
   have VT:Hid (∀x,gG (b.extract 0 c) j (S.base f.ty)= .error x->rU (S.base f.ty) b f.num m (.ok (n,c))= .error x):=λx t=>by
    rw[HQ.o,O.eq.o,V];rw[U]at t
    cases hn:jG (b.extract 0 c) j (S.base f.ty)with
    |error y=>rw[hn]at t;cases t;rfl
    |ok y=>grind
   have Wq:Hid (∀x,gG (b.extract 0 c) j (S.base f.ty)= .ok x->P=fY b (S.base f.ty) c D (l++ [re x.1]) x.2):=λx t=>by
    rw[O.eq.o,V];rw[U]at t
    cases hn:jG (b.extract 0 c) j (S.base f.ty)with
    |error y=>grind
    |ok y=>rw[hn]at t;cases t;rfl
   clear U V;have V8:eQ S (k+1) (some d) (wr.drewN q).drew o db (m.put f.num l):=O.dr.O (λ_ _ _=>rfl)
   have hA:∀r:aw,∀v:LV,eQ S (k+1) (some d) r o db (m.put f.num l)->Vq 268 #[ah db,aa f.num,wN v] r (kD S k (some d) r o db (m.put f.num (l++ [re v]))):=λr v WR=>by
    have N:=PM.put_len m f.num l;have Q:=D4 K.1 f.num l;have:=yo S k (some d) r o db (m.put f.num l) f.num v WR ok1 (.inl ok2) Vv (by grind);rw[Q,Hr K.1]at this;exact this
   obtain⟨T,Wf⟩:=Vu (gG (b.extract 0 c) j (S.base f.ty))
   have WD:Hid (∀x,T= .ok x->j<x.2/\x.2<=c):=λx t=>by
    have:=DZ hb (Wf.J t);omega
   rw[Wf]at hV VT Wq;clear Wf;have VO:dZ (wr.drewN q).drew H #[aa f.num] 3:=Q.G VQ Vv;have VP:dZ (wr.drewN q).drew J #[.func (.func C) #[] E.toArray] 478:=h3.G VQ Vv;have WE:ei (wr.drewN q).drew rb (b.extract 0 e) c deep:=O.rr;have Ws:eU w Z rb (wr.drewN q).drew o:=O.st.J (.oB (iu (Below.refl _ _) q).drew);have X:=O.zn;have WF:=O.zz;have WG:¬o rb:=O.st.not Wm VS;have HM:Hid (mF wr p c=c-j):=iA O.rn;have WH:Hid (c-j<=D+1):=O.fu;have hub:Below B w wr:=M;clear O hM M;go_upto_region 4 with fail
   go_region_held2 (λW=>W.cell? (aj H 0)=some (aa f.num)/\W.cell? (aj J 0)=some (.func (.func C) #[] E.toArray))
    (first|exact c6|exact c5|exact⟨VO.cell 0,VP.cell 0⟩)
    (first
     |(
       refine hV.V ?_;intro en r WS;rcases WS.part with⟨x,rfl,rfl,s⟩|⟨x,rfl,rfl,s,Wv⟩;.unfold d5;go_wp2;rw[VT.o x rfl];exact⟨rfl,rfl,o,Ws.keptN s Wp⟩
       have c5:r.cell? (aj H 0)=some (aa f.num)/\r.cell? (aj J 0)=some (.func (.func C) #[] E.toArray):=⟨(VO.kept s (by grind)).cell 0,(VP.kept s (by grind)).cell 0⟩)
     |(
       go_at_call 268;refine(hA r x.1 (eU.dr V8 s X)).V ?_;rintro en w6 ⟨rfl,Z6,A,WT⟩
       have c6:w6.cell? (aj H 0)=some (aa f.num)/\w6.cell? (aj J 0)=some (.func (.func C) #[] E.toArray):=⟨((VO.kept s (by grind)).step A (λq=>by grind)).cell 0,((VP.kept s (by grind)).step A (λq=>by grind)).cell 0⟩))
   all_goals
    have WJ:=WD.o x rfl;have Wu:ei w6 p (b.extract 0 c) x.2 deep:=dZ.step Wv A X;have WK:=(Ws.keptN s Wp).J (.oS A);have WL:ei w6 rb (b.extract 0 e) c deep:=dZ.step (dZ.kept WE s (by grind)) A WG;have Wb:p<r.heap.size:=dZ.lt Wv
    have PN:Rq S k d B w w6 Z (λi=>Z6 i/\i<w6.heap.size) rb p db n c b (b.extract 0 e) deep (S.base f.ty) m f.num x.2 (l++ [re x.1]) D P:=
     ⟨WK.clip,Wu,WL,WT.clip,Vv,WJ.2,by grind,Wq.o x rfl,by have:=WH.o;omega,λi q=>⟨(A.grow i q.1).elim (λe=>(WF i e).1) (λe=>Vv),q.2⟩,λq=>A.not Wb X q.1⟩
    go_wp2;go_roundw
    case rel=>grind
    case measure=>rw[HM.o,iA Wu];omega
  .have hd:decide (j<c)=false:=decide_eq_false hlt
   have HE:Hid (rU (S.base f.ty) b f.num m (.ok (n,c))= .ok (m.put f.num l,c)):=by
    show _=_;rw[HQ.o,O.eq.o]
    have:fY b (S.base f.ty) c u l j= .ok l:=by
     cases u with
     |zero=>rfl
     |succ u=>rw[fY,dQ hlt]
    rw[this];rfl
   go_wp2;go_end0;rw[HE.o];exact⟨rfl,o,O.st.J (.oB (iu (Below.refl _ _) q)),O.dr.O (λ_ _ _=>rfl),O.rr⟩
end
abbrev rD:=ap
def ww (l:ap):List rD:=mz l.length l
def xq {l:ap}{n:Nat}{T:List rD}(h:mz n l=T)(a:l.length<=n):ww l=T:=(lS _ _ _ (aE _) a).J h
def j9 {s r:ap}(h:Bd s):ww (s++r)=ww s++ww r:=by
 unfold ww;rw[zC _ s r Vw h,lS (s++r).length s.length s Vw (aE _),lS (s++r).length r.length r Vw (aE _)]
def Bd.nil:Bd []:=λ_ h=>by cases h
def Bd.one {c:UInt8}(h:pA c=false):Bd [c]:=λx a=>by simp_all
def Bd.end {s r:ap}(h:Bd r)(b:r≠ []):Bd (s++r):=λc a=>h c (by
 simp_all)
def Bd.add {s r:ap}(b:Bd s)(a:Bd r):Bd (s++r):=by
 by_cases h:r= [];.simp_all
 .exact a.end h
def Qy:Bd [59,32]:=λc h=>by cases h;rfl
def QA (k:Nat):List rD:= [102::gu k,[61],gu (k+1),[59]]
def Dc (k:Nat)(f:F3):List rD:=gI f.1::QA k
def JR (k:Nat)(f:F3):List rD:=
 if f.2.1=0 then Dc k f
 else if f.2.1=1 then [114,101,112,101,97,116,101,100]::Dc k f
 else if f.2.1=2 then [111,112,116,105,111,110,97,108]::Dc k f
 else if f.2.1=3 then []
 else [109,97,112]:: [60]::gI f.2.2:: [44]::gI f.1:: [62]::QA k
def Sc (k:Nat)(f:F3):List rD:=if f.2.1=3 then Dc k f else []
def U5:∀t:Fin 19,∀k:Fin 7,mz 40 (JL k.val (t.val,0,0))=Dc k.val (t.val,0,0):=Vz
def U6:∀y:Fin 16,mz 40 ([109,97,112,60]++gI y.val++ [44])= [[109,97,112],[60],gI y.val,[44]]:=Vz
def U7:∀t:Fin 19,∀k:Fin 7,mz 40 (gI t.val++ [62,32,102]++Qo k.val)=gI t.val:: [62]::QA k.val:=Vz
def U8:∀i:Fin 3,mz 40 ([109,101,115,115,97,103,101,32,77]++gu i.val++ [32,123])= [[109,101,115,115,97,103,101],77::gu i.val,[123]]:=Vz
def IF (n:Nat)(f:F3):Prop:=f.1<16+n/\f.2.1<5/\f.2.2∈ig/\(f.2.1≠4->f.2.2=0)
def Ns (k:Nat):(Qo k).length=7:=rfl
def QB (k:Nat)(f:F3):Bd (JL k f):=(Bd.end Qy Vw).end Vw
def IG {n k:Nat}{f:F3}(c:n<=3)(h:IF n f)(b:k<7):ww (JL k f)=Dc k f:=by
 have a:f.1<19:=by have:=h.1;omega
 exact xq (U5 ⟨f.1,a⟩ ⟨k,b⟩) (by have:=ru a;simp only[JL,aN,Ns,bw,dh];omega)
def PP {n k:Nat}{f:F3}(i:n<=3)(h:IF n f)(g:k<7):ww (Qp k f)=JR k f/\Bd (Qp k f):=by
 have a:f.1<19:=by have:=h.1;omega
 have d:=IG i h g;have b:=QB k f;unfold Qp JR;split;.simp_all
 .split;.exact⟨by rw[j9 (λc h=>by cases h;rfl),d];rfl,b.end (by simp[JL])⟩
  .split;.exact⟨by rw[j9 (λc h=>by cases h;rfl),d];rfl,b.end (by simp[JL])⟩
   .split;.exact⟨rfl,Bd.nil⟩
    .have j:=MW h.2.2.1;have w1:=ru a;have w2:(gI f.2.2).length<=8:=ru Vv;have e: [109,97,112,60]++gI f.2.2++ [44]++gI f.1++ [62,32,102]++Qo k=([109,97,112,60]++gI f.2.2++ [44])++(gI f.1++ [62,32,102]++Qo k):=Vw;rw[e];refine⟨?_,((Bd.end Qy Vw).end Vw).end Vw⟩;rw[j9 ((Bd.one rfl).end Vw),xq (U6 ⟨f.2.2,j⟩) (by grind),xq (U7 ⟨f.1,a⟩ ⟨k,g⟩) (by simp[Ns];omega)];rfl
def GL (fs:List F3):Nat->List rD
 |0=> []
 |k+1=>GL fs k++JR k ((fs[k]?).getD (0,0,0))
def GM (fs:List F3):Nat->List rD
 |0=> []
 |k+1=>GM fs k++Sc k ((fs[k]?).getD (0,0,0))
def Sd {n:Nat}{fs:List F3}(h:∀f∈fs,IF n f){k:Nat}(a:k<fs.length):IF n ((fs[k]?).getD (0,0,0)):=by
 grind
def EZ {n:Nat}{fs:List F3}(a:n<=3)(h:∀f∈fs,IF n f)(m:fs.length<=7):∀k,k<=fs.length->(ww (wj fs k)=GL fs k/\Bd (wj fs k))/\ww (pY fs k)=GM fs k/\Bd (pY fs k)
 |0,_=>⟨⟨rfl,Bd.nil⟩,rfl,Bd.nil⟩
 |k+1,hk=>by
  have⟨⟨e,b⟩,g,c⟩:=EZ a h m k Vv;have d:=Sd h (show k<fs.length by omega);have⟨i,j⟩:=PP (k:=k) a d Vv;rw[wj,GL,pY,GM,j9 b,j9 c,e,g,i];refine⟨⟨rfl,b.add j⟩,?_,c.add ?_⟩
  .unfold MU Sc;split;.rw[IG a d Vv]
   .rfl
  .unfold MU;split;.exact QB _ _
   .exact Bd.nil
def PQ (i:Nat)(fs:List F3):List rD:=
 [[109,101,115,115,97,103,101],77::gu i,[123]]++(GL fs fs.length++((if pY fs fs.length= []then []else [[111,110,101,111,102],[111],[123]]++(GM fs fs.length++ [[125]]))++ [[125]]))
def Sv (L:List (List F3)):Nat->List rD
 |0=> [[101,110,117,109],[69],[123],[65],[61],[48],[59],[125]]
 |i+1=>Sv L i++PQ i ((L[i]?).getD [])
def Tp (i:Nat)(fs:List F3):Bd (RG i fs):=Bd.end (s:=_) (r:= [125,10]) (λc h=>by cases h;rfl) Vw
def PT {n i:Nat}{fs:List F3}(k:n<=3)(j:i<3)(h:∀f∈fs,IF n f)(g:fs.length<=7):ww (RG i fs)=PQ i fs:=by
 have⟨⟨a,b⟩,d,e⟩:=EZ k h g fs.length (aE _);unfold RG PQ;rw[bj,bj,j9 (Bd.end (λc h=>by cases h;rfl) Vw),xq (U8 ⟨i,j⟩) (by simp[dig_len]),j9 b,a];congr 2;split;.rfl
 .rw[j9 (Bd.end (λc h=>by cases h;rfl) Vw),bj,j9 (λc h=>by cases h;rfl),j9 e,d];rfl
def U9:ww [101,110,117,109,32,69,32,123,32,65,32,61,32,48,59,32,125,10]= [[101,110,117,109],[69],[123],[65],[61],[48],[59],[125]]:=VB
def E7 {L:List (List F3)}(h:Bf L):∀i,i<=L.length->ww (wo L i)=Sv L i/\Bd (wo L i)
 |0,_=>⟨U9,λc h=>by cases h;rfl⟩
 |i+1,hi=>by
  have⟨b,a⟩:=E7 h i Vv;have f:=h.few.2;have⟨_,d,e⟩:=h.fs _ (List.getElem_mem (show i<L.length by omega));rw[wo,Sv,j9 a,b,aO (show i<L.length by omega)];exact⟨by rw[show(some L[i]).getD []=L[i]from rfl,PT f Vv e d],a.add (Tp _ _)⟩
def Se {L:List (List F3)}(h:Bf L):(fQ (qL L)).map (λx=>x.1.data.toList)=Sv L L.length++ [[]]:=by
 unfold fQ;rw[bI];congr 1;unfold Ah;rw[GK (qL L) _ (qL L).size 0 Vv Vv (aP _)];have:(qL L).data.toList.length=(qL L).size:=Vw;rw[List.drop_zero,<-this];exact(E7 h L.length (aE _)).1
end Go.Proofs.YtfebdimolnobaaaGreatDoor
