import Derived.Test.YtfebdimolnobaaaGreatDoorArA
set_option maxRecDepth 100000
set_option maxHeartbeats 8000000
set_option linter.all false
namespace Go.Proofs.YtfebdimolnobaaaGreatDoor
open Go.RowKit Go.Proofs.Tryz
section
open Tq
def Ps (w:aw)(B:Nat)(S:eE)(mp:am)(k:Nat)(d:MT)(f:fB)(g:GF)(Z:ax)(rb db:Nat)(b:au)(e a z deep:Nat)(m:PM)(v:Value)
  (I:oZ w B S mp k d Z rb db b e a z deep m) (hv:Nt w (λb=>b<B) mp g v) (r:FG S mp d f g) (hf:g.form=2) (X:S.base f.ty<=15) (t:ei d.fs f.num=some f):
  lI v [aa (ed (S.base f.ty)),ag rb,ag db] w (ij S k d w Z rb db (b.extract 0 e) deep (JV m f.num (gr (b.extract 0 e) z (S.base f.ty)))):=by
 obtain⟨pb,nb,h,vv,rfl,s,E,U,n,q1,q2,q3⟩:=hv;refine⟨421,[_,_,_],rfl,enters_of func421 Tj rfl,?_⟩;show S9 421 #[aa (ed (S.base f.ty)),ag rb,ag db,ag pb,ag nb,ag h] w _;rw[r.eq]at s E n;rw[r.base]at s n;have⟨M,_,_⟩:=kT r Te X;have⟨y,A⟩:=oy t M;have TT:(b.extract 0 e).size=e:=gB I.eb;have Y:=I.wm.len;have T8:=I.az;have T9:=I.ze;have TU:=I.eb;have Ua:=I.bs;have TV:=I.rB;have C:=I.rZ;have D:=I.hZ;have TW:rb<w.heap.size:=dP.lt I.hr;have J:el S (k+1) (some d) w.drew Z db m:=I.hd.O (λ_ _ _=>rfl);have u:d6 w.drew rb (b.extract 0 e) z deep:=I.hr;obtain⟨l,j,rfl,eg,G⟩:=Kz (n.O (w':=w.drew) (λ_ _ _=>rfl)) rb (b.extract 0 e) z deep u Te Te Te (I.cx.u:UOK w.drew) (by have:=I.cx.u1;omega) (by have:=I.cx.u2;omega)
 have V:∀w3:aw,∀v:LV,el S (k+1) (some d) w3 Z db m->S9 268 #[ag db,aa f.num,vR v] w3 (jN S k (some d) w3 Z db (m.put f.num (m.get f.num++ [qF v]))):=
  λw3 v K=>xI S k (some d) w3 Z db m f.num v K y (.inl A) Te (by have:=Y.2.2 f.num;omega)
 obtain⟨R,F⟩:=Td (gr (b.extract 0 e) z (S.base f.ty));rw[F]at G⊢;clear F;generalize(ed (S.base f.ty):Int)=al at*;have o:dP w.drew nb #[aa f.num] 3:=E;have p:dP w.drew h #[.func (.func l) #[] j.toArray] 478:=U;have⟨k1,k2⟩:=s.I;have TX:(al==al)=true:=Tf;go_enter func421,ntmps421;go_upto_region 1 with fail
 go_region_held2 (λW=>W.cell? (ai nb 0)=some (aa f.num)/\W.cell? (ai h 0)=some (.func (.func l) #[] j.toArray))
  (first|exact Q|exact P|exact⟨o.cell 0,p.cell 0⟩)
  (first
   |(
     refine G.V ?_;intro T w3 hq;rcases hq.part with⟨x,rfl,rfl,c⟩|⟨x,rfl,rfl,c,N⟩;.unfold dX;go_wp2;exact⟨rfl,rfl,Z,(ez.oB (Below.refl _ _).drew).J (.oK c)⟩
     have P:w3.cell? (ai nb 0)=some (aa f.num)/\w3.cell? (ai h 0)=some (.func (.func l) #[] j.toArray):=⟨(o.kept c Tg).cell 0,(p.kept c Tg).cell 0⟩)
   |(
     go_at_call 268;refine(V w3 x.1 (ez.dr J c C)).V ?_;rintro T H ⟨rfl,O,i,L⟩
     have Q:H.cell? (ai nb 0)=some (aa f.num)/\H.cell? (ai h 0)=some (.func (.func l) #[] j.toArray):=⟨((o.kept c Tg).step i (λq=>by have:=(D nb q).1;omega)).cell 0,((p.kept c Tg).step i (λq=>by have:=(D h q).1;omega)).cell 0⟩))
 all_goals
  go_wp2;go_end0;exact⟨rfl,O,((ez.oB (Below.refl _ _).drew).J (.oK c)).J (.oS i),L,dP.step N i C⟩
structure Pt (S:eE)(k:Nat)(d:MT)(B:Nat)(w wr:aw)(Z Z':ax)(rb nb db y1 y2:Nat)(b s:au)(deep:Nat)(bs:Nat)(m:PM)(n:Int)(a:Nat)(l:List PV)(F:Nat)(P:Fx (List PV)):Prop where
 st:ez w Z rb wr Z'
 rn:d6 wr nb (b.extract 0 y2) a deep
 rr:d6 wr rb s y2 deep
 dr:el S (k+1) (some d) wr Z' db (m.put n l)
 lo:y1<=a
 hi:a<=y2
 ll:l.length<=a
 eq:Hid (P=gy b bs y2 F l a)
 fu:y2-a<=F
 zz:∀x,Z' x->B<=x/\x<wr.heap.size
 zn:¬Z' nb
def Pv (w:aw)(B:Nat)(S:eE)(mp:am)(k:Nat)(d:MT)(f:fB)(g:GF)(Z:ax)(rb db:Nat)(b:au)(e a z deep:Nat)(m:PM)(v:Value)
  (I:oZ w B S mp k d Z rb db b e a z deep m) (hv:Nt w (λb=>b<B) mp g v) (fg:FG S mp d f g) (hf:g.form=2) (hb:S.base f.ty<=15) (hw:ed (S.base f.ty)≠2) (hff:ei d.fs f.num=some f):
  lI v [aa 2,ag rb,ag db] w (ij S k d w Z rb db (b.extract 0 e) deep (rC (S.base f.ty) b f.num m (eU (b.extract 0 e) z))):=by
 obtain⟨pb,D,E,vv,rfl,Q,J,h3,M,q1,q2,q3⟩:=hv;refine⟨421,[_,_,_],rfl,enters_of func421 Tj rfl,?_⟩;show S9 421 #[aa 2,ag rb,ag db,ag pb,ag D,ag E] w _;rw[fg.eq]at Q J M;rw[fg.base]at Q M;have⟨TQ,_,_⟩:=kT fg Te hb;have⟨ok1,ok2⟩:=oy hff TQ;have TT:(b.extract 0 e).size=e:=gB I.eb;have hl:=I.wm.len;have T8:=I.az;have T9:=I.ze;have TU:=I.eb;have Ua:=I.bs;have TV:=I.rB;have TC:=I.rZ;have hu1:=I.cx.u1;have hu2:=I.cx.u2;have N:=I.hZ;have Ub:=I.cx;have TW:rb<w.heap.size:=dP.lt I.hr;have V:=oo w rb _ z deep I.hr Te;have L:=I.hd.srt;have TH:=I.hd;obtain⟨R,hR⟩:=Td (eU (b.extract 0 e) z);rw[hR]at V⊢;have HR:Hid (eU (b.extract 0 e) z=R):=hR;clear hR;have hne:((2:Int)==(ed (S.base f.ty):Int))=false:=Tg;have Uc:S.base f.ty≠13:=λq=>hw (by rw[q];rfl)
 have Ud:S.base f.ty≠14:=λq=>hw (by rw[q];rfl)
 generalize(ed (S.base f.ty):Int)=al at*
 obtain⟨A,Tr,rfl⟩:∃A Tr,vv= .func (.func A) #[] Tr:=by
  rcases M with⟨_,rfl⟩|⟨_,rfl⟩|⟨_,_,_,rfl,_⟩;.exact⟨_,_,rfl⟩
  .exact⟨_,_,rfl⟩
  .exact⟨_,_,rfl⟩
 have⟨k1,k2⟩:=Q.I;have Ue:=I.cx.le;clear I;go_enter func421,ntmps421;go_wp2_with fail;refine V.V ?_;intro en w3 hq;rcases hq.part with⟨x,rfl,rfl,H⟩|⟨y,nb,rfl,rfl,H,Up,Uq,TE,TR⟩;.unfold dX;go_wp2;exact⟨rfl,rfl,Z,.oK H⟩
 clear k1 k2 V;obtain⟨n,c⟩:=y;have⟨v0,v1,v2⟩:=iS HR.o;rw[TT]at v2;have TX:(b.extract 0 e).extract 0 c=b.extract 0 c:=kz TU v2;simp only[TX]at TE;have TY:(b.extract 0 c).size=c:=gB Te;have TJ:=ez.dr TH H TC
 have P0:Pt S k d B w w3 Z Z rb nb db n c b (b.extract 0 e) deep (S.base f.ty) m f.num n (m.get f.num) (c-n) (gy b (S.base f.ty) c (c-n) (m.get f.num) n):=
  ⟨.oK H,TE,TR,by rw[Gf L.1 L.2];exact TJ,aD _,v1,by have:=hl.2.2 f.num;omega,rfl,aD _,λx q=>⟨(N x q).1,aI (N x q).2 H.size⟩,λq=>by have:=(N nb q).2;omega⟩
 obtain⟨P,hP⟩:=Td (gy b (S.base f.ty) c (c-n) (m.get f.num) n);have HQ:Hid (rC (S.base f.ty) b f.num m (.ok (n,c))=JX m f.num c P):=(by show JX m f.num c (gy b (S.base f.ty) c (c-n) (m.get f.num) n)=_;rw[hP]);rw[hP]at P0;clear hP;go_wp2;go_loopw [21] (λ_ wr=>∃s j l t,Pt S k d B w wr Z s rb nb db n c b (b.extract 0 e) deep (S.base f.ty) m f.num j l t P) (λ_ wr=>nT wr nb c)
 case atStart=>exact⟨Z,n,_,_,P0⟩
 case round=>
  obtain⟨s,j,l,t,O⟩:=hrel;have hM:=tN wr nb _ j deep O.rn;rw[TY]at hM;have hlo:=O.lo;have hhi:=O.hi;have hll:=O.ll;go_wp2_with fail;refine hM.V ?_;rintro en w4 ⟨rfl,q,rfl⟩;by_cases hlt:j<c
  .have hd:decide (j<c)=true:=decide_eq_true hlt;obtain⟨C,rfl⟩:∃C,t=C+1:=⟨t-1,by have:=O.fu;omega⟩;have K:Below B w wr:=O.st.G Ue (λx q=>(N x q).1) TV;have U:Below B w (wr.drewN q).drew:=(gN K q).drew;have hu:UOK (wr.drewN q).drew:=(Ub.on K).u;have Uf:d6 (wr.drewN q).drew nb (b.extract 0 c) j deep:=O.rn;have TZ:=Up;have⟨Ur,G,T6,eg,hV⟩:=Kz (M.O (w':=(wr.drewN q).drew) (λx h _=>U.block x h)) nb (b.extract 0 c) j deep Uf Te Te Te hu Te Te;obtain⟨rfl,rfl⟩:A=Ur/\Tr=G.toArray:=by injection T6 with e1 _ e3;injection e1 with e1;exact⟨e1,e3⟩
   clear T6;have X:gr (b.extract 0 c) j (S.base f.ty)=match iN (b.extract 0 c) j (S.base f.ty)with| .error x=> .error x| .ok x=> .ok ((x.1,⟨#[]⟩),x.2):=(by unfold gr;rw[dG Uc,dG Ud];cases iN (b.extract 0 c) j (S.base f.ty)<;>rfl)
   have Y:=zS (k:=S.base f.ty) (F:=C) (l:=l) (show c<=b.size by omega) hlt
   have TD:Hid (∀x,gr (b.extract 0 c) j (S.base f.ty)= .error x->rC (S.base f.ty) b f.num m (.ok (n,c))= .error x):=λx o=>by
    rw[HQ.o,O.eq.o,Y];rw[X]at o
    cases hn:iN (b.extract 0 c) j (S.base f.ty)with
    |error y=>rw[hn]at o;cases o;rfl
    |ok y=>rw[hn]at o;cases o
   have T0:Hid (∀x,gr (b.extract 0 c) j (S.base f.ty)= .ok x->P=gy b (S.base f.ty) c C (l++ [qF x.1]) x.2):=λx o=>by
    rw[O.eq.o,Y];rw[X]at o
    cases hn:iN (b.extract 0 c) j (S.base f.ty)with
    |error y=>rw[hn]at o;cases o
    |ok y=>rw[hn]at o;cases o;rfl
   clear X Y;have TM:el S (k+1) (some d) (wr.drewN q).drew s db (m.put f.num l):=O.dr.O (λ_ _ _=>rfl)
   have hA:∀p:aw,∀v:LV,el S (k+1) (some d) p s db (m.put f.num l)->S9 268 #[ag db,aa f.num,vR v] p (jN S k (some d) p s db (m.put f.num (l++ [qF v]))):=λp v Us=>by
    have Q:=PM.put_len m f.num l;have J:=CX L.1 f.num l;have:=xI S k (some d) p s db (m.put f.num l) f.num v Us ok1 (.inl ok2) Te (by rw[J];omega);rw[J,Ge L.1]at this;exact this
   obtain⟨T,TS⟩:=Td (gr (b.extract 0 c) j (S.base f.ty))
   have Ug:Hid (∀x,T= .ok x->j<x.2/\x.2<=c):=λx o=>by
    have:=CU hb (TS.J o);rw[TY]at this;exact⟨this.1,this.2.1⟩
   rw[TS]at hV TD T0;clear TS;have Ty:dP (wr.drewN q).drew D #[aa f.num] 3:=J.G U Te;have Tz:dP (wr.drewN q).drew E #[.func (.func A) #[] G.toArray] 478:=h3.G U Te;have Uh:d6 (wr.drewN q).drew rb (b.extract 0 e) c deep:=O.rr;have T4:ez w Z rb (wr.drewN q).drew s:=O.st.J (.oB (gN (Below.refl _ _) q).drew);have TN:=O.zn;have TO:=O.zz;have Ui:¬s rb:=O.st.not TW TC;have HM:Hid (nT wr nb c=c-j):=iJ O.rn;have Uj:Hid (c-j<=C+1):=O.fu;have Uk:Below B w wr:=K;clear O hM K;go_upto_region 4 with fail
   go_region_held2 (λW=>W.cell? (ai D 0)=some (aa f.num)/\W.cell? (ai E 0)=some (.func (.func A) #[] G.toArray))
    (first|exact c6|exact c5|exact⟨Ty.cell 0,Tz.cell 0⟩)
    (first
     |(
       refine hV.V ?_;intro en p Ut;rcases Ut.part with⟨x,rfl,rfl,r⟩|⟨x,rfl,rfl,r,T7⟩;.unfold dX;go_wp2;rw[TD.o x rfl];exact⟨rfl,rfl,s,T4.keptN r TZ⟩
       have c5:p.cell? (ai D 0)=some (aa f.num)/\p.cell? (ai E 0)=some (.func (.func A) #[] G.toArray):=⟨(Ty.kept r Tg).cell 0,(Tz.kept r Tg).cell 0⟩)
     |(
       go_at_call 268;refine(hA p x.1 (ez.dr TM r TN)).V ?_;rintro en w6 ⟨rfl,Z6,u,Uu⟩
       have c6:w6.cell? (ai D 0)=some (aa f.num)/\w6.cell? (ai E 0)=some (.func (.func A) #[] G.toArray):=⟨((Ty.kept r Tg).step u (λq=>by have:=(TO D q).1;omega)).cell 0,((Tz.kept r Tg).step u (λq=>by have:=(TO E q).1;omega)).cell 0⟩))
   all_goals
    have Ul:=Ug.o x rfl;have T5:d6 w6 nb (b.extract 0 c) x.2 deep:=dP.step T7 u TN;have Um:=(T4.keptN r TZ).J (.oS u);have Un:d6 w6 rb (b.extract 0 e) c deep:=dP.step (dP.kept Uh r (by simp;exact λe=>Uq e.sy)) u Ui;have TP:nb<p.heap.size:=dP.lt T7
    have PN:Pt S k d B w w6 Z (λi=>Z6 i/\i<w6.heap.size) rb nb db n c b (b.extract 0 e) deep (S.base f.ty) m f.num x.2 (l++ [qF x.1]) C P:=
     ⟨Um.clip,T5,Un,Uu.clip,Te,Ul.2,Tg,T0.o x rfl,by have:=Uj.o;omega,λi q=>⟨(u.grow i q.1).elim (λe=>(TO i e).1) (λe=>by have h8:wr.heap.size<=p.heap.size:=r.size;have:=Uk.size;omega),q.2⟩,λq=>u.not TP TN q.1⟩
    go_wp2;go_roundw
    case rel=>exact⟨_,_,_,_,PN⟩
    case measure=>rw[HM.o,iJ T5];omega
  .have hd:decide (j<c)=false:=decide_eq_false hlt
   have HE:Hid (rC (S.base f.ty) b f.num m (.ok (n,c))= .ok (m.put f.num l,c)):=by
    show _=_;rw[HQ.o,O.eq.o]
    have:gy b (S.base f.ty) c t l j= .ok l:=by
     cases t with
     |zero=>rfl
     |succ t=>rw[gy,dG hlt]
    rw[this];rfl
   go_wp2;go_end0;rw[HE.o];exact⟨rfl,s,O.st.J (.oB (gN (Below.refl _ _) q)),O.dr.O (λ_ _ _=>rfl),O.rr⟩
section
variable {S:eE} {mp:am} {b:au} {deep:Nat} {num:Int} {d:MT} {f:fB} {g:GF} {m:PM} (w:aw)
theorem Dq {F a z e:Nat}(c:FG S mp d f g)(j:g.form=2)(h:S.base f.ty<=15)(i:e<=b.size):
  jH S b F d f m deep (fP (b.extract 0 e) a num (ed (S.base f.ty)) z)=JV m f.num (gr (b.extract 0 e) z (S.base f.ty)):=by
 rw[Gd c j h i];cases gr (b.extract 0 e) z (S.base f.ty)<;>rfl
theorem Ie {F a z e:Nat}(c:FG S mp d f g)(h:g.form=2)(i:ed (S.base f.ty)≠2):
  jH S b F d f m deep (fP (b.extract 0 e) a num 2 z)=rC (S.base f.ty) b f.num m (eU (b.extract 0 e) z):=by
 rw[CV c h i]
 cases eU (b.extract 0 e) z with
 |error x=>rfl
 |ok y=>simp only[rC];cases gy b (S.base f.ty) y.2 (y.2-y.1) (m.get f.num) y.1<;>rfl
theorem OF (B:Nat)(S:eE)(mp pm:am)(k:Nat)(d:MT)(f:fB)(g:GF)(Z:ax)(rb db:Nat)(b:au)(e a z deep F kn:Nat)(num:Int)(m:PM)(v:Value)
  (I:oZ w B S mp k d Z rb db b e a z deep (m.without g.riv)) (D:WM S a d m) (t:Bi w (λb=>b<B) S mp pm) (i:mg w (λb=>b<B) mp pm g v) (c:FG S mp d f g) (j:ei d.fs f.num=some f) (y:D9 S) (s:k+deep=8) (C:kM S d) (p:KL S mp pm B b F) (H:e-z<=F) (r:my mp g kn=true):
  lI v [aa kn,ag rb,ag db] w (ij S k d w Z rb db (b.extract 0 e) deep (jH S b F d f m deep (fP (b.extract 0 e) a num kn z))):=by
 have u:=(oz c).1 r;have N:=Ba S f.ty;unfold mg at i;by_cases h4:g.form=4
 .rw[dH h4]at i;have o:f.isMap=true:=by rw[c.map,h4];rfl
  obtain rfl:kn=2:=by
   rcases u with h|⟨h,_⟩;.rw[h];unfold ff;rw[dH o]
   .exact h
  rw[c.lone Te,iO]at I;have n:=Gj (b:=b) (F:=F) (deep:=deep) (a:=a) (z:=z) (e:=e) (num:=num) (m:=m) c y h4 Te;rw[show((2:Nat):Int)=2 from rfl,n];exact Q5 w B S mp pm k d f g Z rb db b e a z deep F _ m v I t i c j y h4 s C p H
 .rw[dG h4]at i;unfold BZ at i;rw[c.eq,c.base]at i;have o:f.isMap=false:=by rw[c.map];simp[h4]
  have x:ff S f=ed (S.base f.ty):=by unfold ff eE.wire;rw[o];rfl
  have E:eG mp g=S.base f.ty:=by unfold eG;rw[dG h4,c.eq,c.base]
  by_cases hb:S.base f.ty=16
  .rw[dH hb]at i
   obtain rfl:kn=2:=by
    rcases u with h|⟨h,_⟩;.rw[h,x,hb];rfl
    .exact h
   have:=c.nest.1 hb;have⟨sub,K⟩:=cX.1 this;have G:CY S d f sub:=⟨by unfold fS;rw[o];exact K,o⟩;have n:=Gi (b:=b) (F:=F) (deep:=deep) (z:=z) (e:=e) (num:=num) c y G Te j D;have L:(if g.form=2 then PM.none else((m.get f.num).headD PV.none).2.2)=kE g.form (m.without g.riv) f.num:=(by unfold kE;rw[uJ (by rw[c.riv];exact Ga d f)])
   have M:vw g m f.num=nV g.form (m.without g.riv) f.num:=funext λP=>by
    unfold vw nV;by_cases h2:g.form=2;.rw[dH h2,dH h2,c.lone Te,iO]
    .rw[dG h2,dG h2]
   rw[L,M]at n;rw[show((2:Nat):Int)=2 from rfl,n];exact Q4 w B S mp pm k d f g Z rb db b e a z deep F _ _ sub v I t i c j y G s p H
  .rw[dG hb]at i;have l:S.base f.ty<=15:=Te;by_cases h2:g.form=2
   .have O:=c.lone Te;rw[O,iO]at I;by_cases hn:jf (S.base f.ty)=true
    .rw[dH (by unfold it;rw[E,h2];simpa using hn)]at i;have A:=(tX l).1 hn;rcases u with h|⟨h,_⟩;.rw[x]at h;subst h;rw[Dq c h2 l I.eb];exact Ps w B S mp k d f g Z rb db b e a z deep m v I i c h2 l j
     .subst h;rw[show((2:Nat):Int)=2 from rfl,Ie c h2 A];exact Pv w B S mp k d f g Z rb db b e a z deep m v I i c h2 l A j
    .rw[dG (by unfold it;rw[E];simp[hn])]at i
     have A:ed (S.base f.ty)=2:=by
      by_cases q:ed (S.base f.ty)=2;.exact q
      .exact absurd ((tX l).2 q) hn
     obtain rfl:kn=ed (S.base f.ty):=by
      rcases u with h|⟨h,_⟩;.rw[h,x]
      .omega
     rw[Dq c h2 l I.eb,<-Li h2];exact OE w B S mp k d f g Z rb db b e a z deep _ m v I i c h4 l j
   .rw[dG (by unfold it;simp[h2])]at i;have J:f.isRep=false:=by rw[c.rep];simp[h2]
    obtain rfl:kn=ed (S.base f.ty):=by
     rcases u with h|⟨_,h⟩;.rw[h,x]
     .rw[J]at h;cases h
    have n:=Gg (F:=F) (deep:=deep) (a:=a) (z:=z) (num:=num) (m:=m) c h4 h2 l I.eb;rw[n,<-Lh h2];exact OE w B S mp k d f g Z rb db b e a z deep _ _ v I i c h4 l j
theorem If (B:Nat)(S:eE)(mp pm:am)(k:Nat)(d:MT)(f:fB)(g:GF)(Z:ax)(rb db:Nat)(b:au)(e a z deep F kn:Nat)(num:Int)(m:PM)(v:Value)
  (I:oZ w B S mp k d Z rb db b e a z deep m) (y:Bi w (λb=>b<B) S mp pm) (A:wd w (λb=>b<B) (mg w (λb=>b<B) mp pm) g v) (D:FG S mp d f g) (r:ei d.fs f.num=some f) (N:D9 S) (t:k+deep=8) (s:kM S d) (p:KL S mp pm B b F) (M:e-z<=F) (h:my mp g kn=true):
  lI v [aa kn,ag rb,ag db] w (ij S k d w Z rb db (b.extract 0 e) deep (jH S b F d f m deep (fP (b.extract 0 e) a num kn z))):=by
 unfold wd at A;by_cases h0:g.riv= []
 .rw[dH h0]at A;have c:m.without g.riv=m:=by rw[h0,iO]
  exact OF w B S mp pm k d f g Z rb db b e a z deep F kn num m v (by rw[c];exact I) I.wm y A D r N t s p M h
 .rw[dG h0]at A;obtain⟨i,O,l,u,rfl,X,E,Y,j,n,c⟩:=A;refine⟨296,[_,_],rfl,enters_of func296 rfl rfl,?_⟩;show S9 296 #[aa kn,ag rb,ag db,ag i,ag O] w _;have j:=qH S k (some d) w Z db m l g.riv I.hd E.1 D.rlen (λx i q=>by have:=E.2 x i;have:=(I.hZ x q).1;omega)
  obtain⟨l,C,rfl,i,_⟩:∃l C,u= .func (.func l) #[] (List.toArray C)/\(∀args w,(callFunc l args).run prog w= .ok (.enter l args) w)/\True:=by
   have i:=c;unfold mg at c;split at c;.obtain⟨_,_,_,_,_,rfl,_⟩:=c;exact⟨418,[_,_,_,_],rfl,enters_of func418 rfl rfl,trivial⟩
   .unfold BZ at c;split at c;.obtain⟨_,_,_,_,_,rfl,_⟩:=c;exact⟨419,[_,_,_,_],rfl,enters_of func419 rfl rfl,trivial⟩
    .split at c;.obtain⟨_,_,_,_,rfl,_⟩:=c;exact⟨421,[_,_,_],rfl,enters_of func421 rfl rfl,trivial⟩
     .obtain⟨_,_,_,_,rfl,_⟩:=c;exact⟨422,[_,_,_],rfl,enters_of func422 rfl rfl,trivial⟩
  have K:Hid (∀w1 i,et w Z w1 i->el S (k+1) (some d) w1 i db (m.without g.riv)->S9 l (([aa kn,ag rb,ag db]:ay)++C).toArray w1 (ij S k d w Z rb db (b.extract 0 e) deep (jH S b F d f m deep (fP (b.extract 0 e) a num kn z)))):=λw1 i P H=>by
   have G:ez w Z rb w1 i:= .oS P;have L:=G.G I.cx.le (λx q=>(I.hZ x q).1) I.rB;have Q:=I.on G H (dP.step I.hr P I.rZ) (by have:=I.wm.without f;rw[<-D.riv]at this;exact this);have⟨U,V,n,_,J⟩:=OF w1 B S mp pm k d f g _ rb db b e a z deep F kn num m _ Q I.wm (y.O (λx q _=>L.block x q)) (mg.O (λx q _=>L.block x q) (λ_ _ q=>q) c) D r N t s p M h
   obtain⟨rfl,rfl⟩:l=U/\C=V:=by
    injection n with n _ e3
    injection n with n
    exact⟨n,by simpa using e3⟩
   exact J.V λ_ _ q=>q.pre G.clip
  obtain⟨R,c⟩:=Td (jH S b F d f m deep (fP (b.extract 0 e) a num kn z));rw[c]at K⊢;obtain⟨c,l,h,rfl⟩:=dO E.1;have⟨h,l⟩:=X.I;have c:=I.hZ;go_enter func296,ntmps296;go_wp2_with fail;refine j.V ?_;rintro W w1 ⟨rfl,i,o,H⟩;have T:=Y.step o (λq=>by have:=(c O q).1;omega);have⟨h,l⟩:=T.I;have J:=K.o w1 i o H;go_wp2_with fail;refine J.V ?_;intro W w2 j
  cases R with
  |error x=>
   obtain⟨rfl,j⟩:=j;unfold dX;go_wp2
   exact⟨rfl,rfl,j⟩
  |ok x=>
   obtain⟨rfl,j⟩:=j;go_wp2;go_end0;exact⟨rfl,j⟩
end
section
variable {mp:ByteArray->Option Nat} {g:GF} {kind:Int} {v:Value} {w:World} {Q:Nat->Prop}
theorem Nv:Gt kind (ed (eG mp g)) (it mp g)=my mp g kind:=by
 unfold Gt my;congr 1
theorem Bh.one (h:Bh v):v.oneCell'=true:=by
 obtain⟨f,a,rfl⟩:=h;rfl
theorem wd.fn {pm:ByteArray->Option Nat}(h:wd w Q (mg w Q mp pm) g v):Bh v:=by
 unfold wd at h;split at h
 .unfold mg at h;split at h;.obtain⟨_,_,_,_,_,rfl,_⟩:=h;exact⟨_,_,rfl⟩
  .unfold BZ at h;split at h;.obtain⟨_,_,_,_,_,rfl,_⟩:=h;exact⟨_,_,rfl⟩
   .split at h;.obtain⟨_,_,_,_,rfl,_⟩:=h;exact⟨_,_,rfl⟩
    .obtain⟨_,_,_,_,rfl,_⟩:=h;exact⟨_,_,rfl⟩
 .obtain⟨_,_,_,_,rfl,_⟩:=h;exact⟨_,_,rfl⟩
theorem rD.one {pm:ByteArray->Option Nat}{x:tG}(h:rD w Q mp (mg w Q mp pm) g x):x.c1.oneCell'=true/\x.c2.oneCell'=true/\x.c3.oneCell'=true/\x.c4.oneCell'=true/\x.c5.oneCell'=true/\x.c6.oneCell'=true/\x.c7.oneCell'=true:=by
 have⟨a,n,c,b⟩:=dO h.riv.1;refine⟨by rw[h.kind];rfl,by rw[h.packs];rfl,by rw[b];rfl,h.check.one,h.measure.one,h.write.one,h.read.fn.one⟩
def Gu (w:World)(Q:Nat->Prop)(mp pm:ByteArray->Option Nat)(gs:List GF)(num:Int)(e:Ending):Prop:=
 match iI gs num with
 |none=>e= .returned (.pointer none)
 |some g=>∃gb j v,e= .returned (.pointer (some ⟨gb,j,none⟩))/\Q gb/\gb<w.heap.size/\wd w Q (mg w Q mp pm) g v/\∀W:World,W.heap[gb]?=w.heap[gb]?->W.cell? ⟨gb,j+1,none⟩=some (.int .i64 (ed (eG mp g)))/\W.cell? ⟨gb,j+2,none⟩=some (.bool (it mp g))/\W.cell? ⟨gb,j+7,none⟩=some v
theorem Nw (w:World)(Q:Nat->Prop)(mp pm:ByteArray->Option Nat)(gs:List GF)(pb:Nat)(num:Int)(h:mN w Q mp pm gs pb)(T:gs.Pairwise (λx y=>x.f.num<=y.f.num))(X:gs.length<=2001):
  S9 141 #[.pointer (some ⟨pb,0,none⟩),.int .i64 num] w λe w'=>Gu w Q mp pm gs num e/\Below w.heap.size w w':=by
 obtain⟨v,l,L,U,s,c⟩:=h;obtain⟨V,Z,Y,rfl⟩:=dO s.1;have R:=c.nums;have B:=c.len
 have G:l.Pairwise (λa b=>a.n<=b.n):=by
  have:(l.map (·.n)).Pairwise (·<=·):=by rw[R];exact cn.2 T
  exact cn.1 this
 refine(Pn w pb _ l num 0 L s.1 (λx p=> ?_) G Te).V ?_;.have⟨i,o⟩:=bY.1 p;have⟨g,_,n⟩:=c.get o;exact n.one
 .rintro e w' ⟨S,M⟩;refine⟨?_,M⟩;unfold Gu;rcases S with⟨i,K,x,p,H,I,J,rfl⟩|⟨F,rfl⟩
  .have⟨g,n,r⟩:=c.get p
   have m:iI gs num=some g:=wV n (by rw[<-r.n];exact H) (λk y A P=>by
    have C:k<l.length:=by
     rw[B];by_cases q:k<gs.length;.exact q
     .rw[bi Te]at A;cases A
    have⟨f,d,t⟩:=c.get (aP C);rw[A]at d;obtain rfl:=Option.some.inj d;have:=I k _ (aP C) P;rw[t.n]at this
    exact this)
   rw[m];have N:=gl p;obtain⟨f,rfl,_,E,u⟩:=dV s.1 Te;obtain rfl:f=K:=by simpa [Value.ownBlock]using J
   have m:=λj O=>fW iT 8 uN l i x p j O
   refine⟨f,i*8,x.c7,rfl,s.2 f rfl,E,r.read,λW z=>⟨?_,?_,?_⟩⟩;.rw[<-r.kind];exact u W z _ _ ((m 1 Te).J rfl)
   .rw[<-r.packs];exact u W z _ _ ((m 2 Te).J rfl)
   .exact u W z _ _ ((m 7 Te).J rfl)
  .rw[oW λg n=>by
    have⟨i,o⟩:=bY.1 n
    have D:i<l.length:=by
     rw[B];by_cases q:i<gs.length;.exact q
     .rw[bi Te]at o;cases o
    have⟨f,d,t⟩:=c.get (aP D);rw[o]at d;obtain rfl:=Option.some.inj d;rw[<-t.n]
    exact F _ (List.getElem_mem D)]
theorem EW (S:eE)(mp pm:ByteArray->Option Nat)(B:Nat)(b:ByteArray)(hS:D9 S)(hbs:b.size<=268435456):∀F,KL S mp pm B b F:=by
 intro F
 induction F using Nat.strongRecOn with
 |_ F ih=>
 intro w Z d m a e deep k pb gs rb t cx US hM hG Uz hr hd hZ Ua UT UU M hF UV UW;have T8:(b.extract 0 e).size=e:=gB M;have Uc:=cx.le;have UG:rb<w.heap.size:=dP.lt hr;obtain⟨P,hP⟩:=Td (fj S b F d m a e deep);rw[hP];have O0:yX S k d B w w Z Z rb t b e deep F a m P:=⟨ez.refl _ _ _,hr,hd,UU,UW,hF,hP.sy,hZ⟩;clear hP;go_enter func89,ntmps89;go_wp2;go_loopw [9] (λ_ wr=>∃n c o F',F'<=F/\yX S k d B w wr Z n rb t b e deep F' c o P) (λ_ wr=>nT wr rb e)
 case atStart=>exact⟨Z,a,m,F,aD _,O0⟩
 case round=>
  obtain⟨n,c,o,F',hFF,O⟩:=hrel;have Up:=tN wr rb _ c deep O.rr;rw[T8]at Up;have hhi:=O.hi;have hfu:=O.fu;go_wp2_with fail;refine Up.V ?_;rintro u w4 ⟨rfl,q,rfl⟩;by_cases hlt:c<e
  .have UH:decide (c<e)=true:=decide_eq_true hlt;obtain⟨r,rfl⟩:∃r,F'=r+1:=⟨F'-1,Te⟩;have Uq:d6 (wr.drewN q) rb (b.extract 0 e) c deep:=O.rr;have UI:el S (k+1) (some d) (wr.drewN q) n t o:=O.dr.O (λ_ _ _=>rfl);have Ud:ez w Z rb (wr.drewN q) n:=O.st.J (.oB (gN (Below.refl _ _) q));have UJ:=QN (wr.drewN q) rb _ c deep Uq;have Ur:=Ox (wr.drewN q) rb _ c deep Uq Te;have Ue:∀x,n x->B<=x/\x<(wr.drewN q).heap.size:=O.zz;have TN:¬n rb:=O.st.not UG UT;have HM:Hid (nT wr rb e=e-c):=iJ O.rr;have TS:∀x,Z x->B<=x:=λx q=>(hZ x q).1
   obtain⟨T,hT⟩:=Td (lr (b.extract 0 e) c);rw[hT]at Ur;have HT:Hid (lr (b.extract 0 e) c=T):=hT;clear hT;generalize wr.drewN q=w4 at*;go_wp2_with fail;refine UJ.V ?_;rintro u w5 ⟨rfl,rfl⟩;go_wp2_with fail;refine Ur.V ?_;intro u w6 UX;rcases UX.part with⟨x,rfl,rfl,Y⟩|⟨x,rfl,rfl,Y,Uj⟩;.have HB:Hid (P= .error x):=(by show P=_;rw[O.eq.o,C9 M hlt HT.o]);unfold dX;go_wp2;rw[HB.o];exact⟨rfl,rfl,n,Ud.J (.oK Y)⟩
   obtain⟨⟨num,kind⟩,z⟩:=x;have⟨l,UA,Ub,UB,Uk⟩:=Kf HT.o;simp only at UA UB Uk Uj;subst UA;rw[T8]at Uk;have⟨B7,KT⟩:=eY w6 #[.int .i64 num,.int .i64 l] 237;have Us:d6 (w6.alloc (Obj.cells #[.int .i64 num,.int .i64 l] 237)) rb (b.extract 0 e) z deep:=dP.alloc Uj _;have Ut:=(Ud.J (.oK Y)).J (.oB B7);have UK:=(ez.dr UI Y TN).O (λx _ q=>B7.block x q);have UL:Below B w (w6.alloc (Obj.cells #[.int .i64 num,.int .i64 l] 237)):=Ut.G Uc TS Ua;have UM:=Nw (w6.alloc (Obj.cells #[.int .i64 num,.int .i64 l] 237)) (λb=>b<B) mp pm gs pb num (hM.O (λx q _=>UL.block x q) (λ_ _ q=>q)) hG.srt hG.len;have Uu:∀x,n x->B<=x/\x<(w6.alloc (Obj.cells #[.int .i64 num,.int .i64 l] 237)).heap.size:=λx q=>⟨(Ue x q).1,aI (aI (Ue x q).2 Y.size) B7.size⟩
   have UN:¬n w6.heap.size:=λq=>by have:=(Ue _ q).2;have:=Y.size;omega
   have⟨N,Q⟩:=KT.I;have hrw:rb<w6.heap.size:=dP.lt Uj;have hBt:B<=w6.heap.size:=by have:=(Ud.J (.oK Y)).size;omega
   go_wp2_with fail;generalize w6.alloc (Obj.cells #[.int .i64 num,.int .i64 l] 237)=w7 at*;generalize w6.heap.size=tb at*;refine UM.V ?_;rintro u G ⟨TP,C⟩;have TT:d6 G rb (b.extract 0 e) z deep:=dP.G Us C (dP.lt Us);have TU:=Ut.J (.oB C);have Uf:=UK.O (λx _ q=>C.block x q);have hb8:Below B w G:=TU.G Uc TS Ua;have X:=KT.G C KT.lt;have Uv:∀x,n x->B<=x/\x<G.heap.size:=λx q=>⟨(Uu x q).1,aI (Uu x q).2 C.size⟩
   have hul:=O.wm.len;have hO:yX S k d B w wr Z n rb t b e deep (r+1) c o P:=O;clear N Q O
   cases hfind:iI gs num with
   |none=>
    have TV:∀f,ei d.fs num=some f->¬(l=ff S f\/(l=2/\f.isRep=true)):=λf hf hq=>by
     have⟨g,q1,q2⟩:=hG.yes num f hf;rw[hfind]at q1;cases q1
    unfold Gu at TP;rw[hfind]at TP;obtain rfl:u= .returned (.pointer none):=TP;have TW:=Em G rb _ z deep l TT Te Te Te;obtain⟨R,s⟩:=Td (pr (b.extract 0 e) z l);have U:Hid (P=Kg S b r d o c e deep R):=(by have h:=tZ (S:=S) (F:=r) (deep:=deep) (d:=d) (m:=o) M hlt HT.o Ub TV;rw[s]at h;show P=_;rw[hO.eq.o,h];cases R<;>rfl)
    have HW:Hid (∀y,R= .ok y->z<y.2/\y.2<=e):=λy hy=>by
     have:=Bd (s.J hy);rw[T8]at this;exact this
    rw[s]at TW;clear s hfind;have⟨N,Q⟩:=X.I;go_wp2_with fail;refine TW.V ?_;intro u p T4;rcases T4.part with⟨x,rfl,rfl,K⟩|⟨y,rfl,rfl,K,V⟩;.unfold dX;go_wp2;rw[U.o];exact⟨rfl,rfl,n,TU.J (.oK K)⟩
    have⟨UC,TL⟩:=HW.o y rfl;have TX:=vL p rb _ y.2 deep c V Te Te;have TY:=ez.dr Uf K TN;have hex:(b.extract 0 e).extract c y.2=b.extract c y.2:=kz M TL;rw[hex]at TX;clear N Q;go_wp2_with fail;refine TX.V ?_;rintro u UY ⟨rfl,L,rfl⟩;have TD:el S (k+1) (some d) (p.drewN L) n t o:=TY.O (λ_ _ _=>rfl);have Ug:=AV S k (some d) (p.drewN L) n t o (b.extract c y.2) TD (by rw[aU];omega);go_wp2_with fail;refine Ug.V ?_;rintro u H ⟨rfl,T5,Tw,TM⟩;have TE:d6 (p.drewN L) rb (b.extract 0 e) y.2 deep:=V;have Tu:d6 H rb (b.extract 0 e) y.2 deep:=dP.step TE Tw TN;have E:ez w Z rb H T5:=((TU.J (.oK K)).J (.oB (gN (Below.refl _ _) L))).J (.oS Tw)
    have O9:yX S k d B w H Z (λi=>T5 i/\i<H.heap.size) rb t b e deep r y.2 (o.O (b.extract c y.2)) P:=
     ⟨E.clip,Tu,TM.clip,TL,hO.wm.O _ (by rw[aU];omega),Te,U,λx q=>⟨(E.grow x q.1).elim (TS x) (λe=>Te),q.2⟩⟩
    go_wp2;go_roundw
    case rel=>exact⟨_,_,_,_,Te,O9⟩
    case measure=>rw[HM.o,iJ Tu];omega
   |some g=>
    unfold Gu at TP;rw[hfind]at TP;obtain⟨D,j,v,rfl,hgB,TO,Ul,Tr⟩:=TP
    obtain⟨f,T6,fg⟩:∃f,ei d.fs num=some f/\FG S mp d f g:=by
     cases hf:ei d.fs num with
     |none=>rw[hG.no num hf]at hfind;cases hfind
     |some f=>
      have⟨g2,q1,q2⟩:=hG.yes num f hf;rw[hfind]at q1;cases q1;exact⟨f,rfl,q2⟩
    have⟨c1,c2,_⟩:=Tr G (C.block D TO);have TZ:=Pw G D j l _ _ c1 c2;rw[Nv]at TZ;have Uh:wd G (λb=>b<B) (mg G (λb=>b<B) mp pm) g v:=Ul.O (λx _ q=>C.block x q) (λv hv=>mg.O (λx _ q=>C.block x q) (λ_ _ q=>q) hv);clear c1 c2 hfind
    cases hft:my mp g l with
    |false=>
     rw[hft]at TZ
     have TV:∀f,ei d.fs num=some f->¬(l=ff S f\/(l=2/\f.isRep=true)):=λf' UD hq=>by
      rw[T6]at UD;cases UD;rw[(oz fg).2 hq]at hft;cases hft
     clear hft;have⟨N,Q⟩:=X.I;go_wp2_with fail;refine TZ.V ?_;rintro u A ⟨rfl,TQ⟩;have TF:d6 A rb (b.extract 0 e) z deep:=dP.G TT TQ (dP.lt TT);have Ts:=TU.J (.oB TQ);have TG:=Uf.O (λx _ q=>TQ.block x q);have Tv:=X.G TQ X.lt;have TW:=Em A rb _ z deep l TF Te Te Te;obtain⟨R,s⟩:=Td (pr (b.extract 0 e) z l);have U:Hid (P=Kg S b r d o c e deep R):=(by have h:=tZ (S:=S) (F:=r) (deep:=deep) (d:=d) (m:=o) M hlt HT.o Ub TV;rw[s]at h;show P=_;rw[hO.eq.o,h];cases R<;>rfl)
     have HW:Hid (∀y,R= .ok y->z<y.2/\y.2<=e):=λy hy=>by
      have:=Bd (s.J hy);rw[T8]at this;exact this
     rw[s]at TW;clear s N Q;have⟨N,Q⟩:=Tv.I;go_wp2_with fail;refine TW.V ?_;intro u p T4;rcases T4.part with⟨x,rfl,rfl,K⟩|⟨y,rfl,rfl,K,V⟩;.unfold dX;go_wp2;rw[U.o];exact⟨rfl,rfl,n,Ts.J (.oK K)⟩
     have⟨UC,TL⟩:=HW.o y rfl;have TX:=vL p rb _ y.2 deep c V Te Te;have TY:=ez.dr TG K TN;have hex:(b.extract 0 e).extract c y.2=b.extract c y.2:=kz M TL;rw[hex]at TX;clear N Q;go_wp2_with fail;refine TX.V ?_;rintro u UY ⟨rfl,L,rfl⟩;have TD:el S (k+1) (some d) (p.drewN L) n t o:=TY.O (λ_ _ _=>rfl);have Ug:=AV S k (some d) (p.drewN L) n t o (b.extract c y.2) TD (by rw[aU];omega);go_wp2_with fail;refine Ug.V ?_;rintro u H ⟨rfl,T5,Tw,TM⟩;have TE:d6 (p.drewN L) rb (b.extract 0 e) y.2 deep:=V;have Tu:d6 H rb (b.extract 0 e) y.2 deep:=dP.step TE Tw TN;have E:ez w Z rb H T5:=((Ts.J (.oK K)).J (.oB (gN (Below.refl _ _) L))).J (.oS Tw)
     have O9:yX S k d B w H Z (λi=>T5 i/\i<H.heap.size) rb t b e deep r y.2 (o.O (b.extract c y.2)) P:=
      ⟨E.clip,Tu,TM.clip,TL,hO.wm.O _ (by rw[aU];omega),Te,U,λx q=>⟨(E.grow x q.1).elim (TS x) (λe=>Te),q.2⟩⟩
     go_wp2;go_roundw
     case rel=>exact⟨_,_,_,_,Te,O9⟩
     case measure=>rw[HM.o,iJ Tu];omega
    |true=>
     rw[hft]at TZ;have⟨N,Q⟩:=X.I;have Uw:Hid (my mp g l=true):=hft;clear hft;go_wp2_with fail;refine TZ.V ?_;rintro u A ⟨rfl,TQ⟩;have J:Below G.heap.size G A.drew:=TQ.drew;have TF:d6 A.drew rb (b.extract 0 e) z deep:=dP.G TT J (dP.lt TT);have Ts:=TU.J (.oB J);have TG:=Uf.O (λx _ q=>J.block x q);have Tv:=X.G J X.lt;have TH:Below B w A.drew:=Ts.G Uc TS Ua;have TI:∀x,n x->B<=x/\x<A.drew.heap.size:=λx q=>⟨(Uv x q).1,aI (Uv x q).2 J.size⟩
     have Ui:f.num=num:=(gZ T6).1;have I:oZ A.drew B S mp k d n rb t b e c z deep o:=⟨cx.on TH,TF,TG,TI,Ua,TN,UB,Uk,M,hbs,hO.wm⟩;obtain⟨uf,T7,rfl,eg,UE⟩:=If A.drew B S mp pm k d f g n rb t b e c z deep r l num o v I (US.O (λx q _=>TH.block x q)) (Uh.O (λx _ q=>J.block x q) (λv hv=>mg.O (λx _ q=>J.block x q) (λ_ _ q=>q) hv)) fg (by rw[Ui];exact T6) hS UV Uz (ih r Te) Te Uw.o;have hit:=(oz fg).1 Uw.o;obtain⟨R,s⟩:=Td (jH S b r d f o deep (fP (b.extract 0 e) c num l z));have U:Hid (P=OA S b r d e deep R):=(by have h:=C7 (S:=S) (F:=r) (deep:=deep) (d:=d) (m:=o) M hlt HT.o Ub T6 hit;rw[s]at h;show P=_;rw[hO.eq.o,h];cases R<;>rfl);have HW:Hid (∀y,R= .ok y->WM S y.2 d y.1/\z<y.2/\y.2<=e):=λy hy=>Gk hS hbs Uz M hO.wm HT.o Ub T6 hit (s.J hy)
     rw[s]at UE;clear s N Q hit;have Ux:A.drew.heap[D]?=w7.heap[D]?:=(J.block D (aI TO C.size)).J (C.block D TO);have⟨_,_,c7⟩:=Tr A.drew Ux;have UO:D<A.drew.heap.size:=aI TO (aL C.size J.size);have Uy:=Tv.cell 1;simp only[List.getElem?_toArray,cg,cO]at Uy;go_upto_region 5 with fail
     go_region_held2 (λW=>W.cell? ⟨D,j+7,none⟩=some (.func (.func uf) #[] T7.toArray)/\W.cell? ⟨tb,1,none⟩=some (.int .i64 l))
      (first|exact c9|exact⟨c7,Uy⟩)
      (
       first |(
        refine UE.V ?_;intro u p T4;rcases T4.part2 with⟨x,rfl,rfl,Z9,TR⟩|⟨y,rfl,rfl,Z9,TR,TY,V⟩;.unfold dX;go_wp2;rw[U.o];exact⟨rfl,rfl,Z9,Ts.J TR⟩
        have c9:p.cell? ⟨D,j+7,none⟩=some (.func (.func uf) #[] T7.toArray)/\p.cell? ⟨tb,1,none⟩=some (.int .i64 l):=⟨(Tr p ((TR.block D UO (λq=>by have:=(TI D q).1;omega) Te).J Ux)).2.2,(show dP p tb #[.int .i64 num,.int .i64 l] 237 from(TR.block tb Tv.lt UN Te).J Tv).cell 1⟩))
     have⟨UZ,UC,TL⟩:=HW.o y rfl
     have O9:yX S k d B w p Z (λi=>Z9 i/\i<p.heap.size) rb t b e deep r y.2 y.1 P:=
      ⟨(Ts.J TR).clip,V,TY.clip,TL,UZ,Te,U,λx q=>⟨(TR.grow x q.1).elim (λe=>(TI x e).1) (λe=>by have:=TH.size;omega),q.2⟩⟩
     go_wp2;go_roundw
     case rel=>exact⟨_,_,_,_,Te,O9⟩
     case measure=>rw[HM.o,iJ V];omega
  .have UH:decide (c<e)=false:=decide_eq_false hlt;obtain rfl:c=e:=Te;have HE:Hid (P= .ok o):=(by show P=_;rw[O.eq.o,tS hlt]);go_wp2;go_end0;rw[HE.o];exact⟨rfl,n,O.st.J (.oB (gN (Below.refl _ _) q)),O.dr.O (λ_ _ _=>rfl),O.rr⟩
end
end
section
open Go.Maps
section
variable {w:aw} {P:ax} {v:Value} {bs:List dS} {y:List YM}
def Dr (hM:gH w P v bs y)(h:mJ bs):La w P (eM bs) (nM (y.map (·.1))):=by
 refine⟨λt d a=> ?_,λt a=> ?_⟩
 .have⟨i,m,r,p,c,_,_,q,_⟩:=qK hM h a;have f:=aO r;refine⟨m.1.2,m.2,p,by rw[<-c];exact hM.msg m f,q,?_⟩;have n:m.1.1∈dZ bs:=by rw[<-hM.names];exact aV.2 ⟨m,f,rfl⟩
  have⟨b,l,o⟩:=aV.1 n;rw[<-c,<-o];exact(h.ok.ok b (cl.1 l).1).name
 .have j:(y.map (·.1)).map (·.1)=dZ bs:=by rw[bI];exact hM.names
  have g:(nM (y.map (·.1)) t).isSome=true:=by
   unfold jd at a;split at a
   .exfalso;have e:lA.length=15:=Ti;unfold rN at a
    cases hq:vg lA t.toList 0 with
    |none=>rw[hq]at a;cases a
    |some k=>
     rw[hq]at a;have:=AN _ _ _ _ hq;simp at a;omega
   .split at a;.assumption
    .cases a
  rw[rO,j]at g;have⟨_,b,_,_,c,_⟩:=pV h.ok j g;exact⟨_,c⟩
def Ig (hM:gH w P v bs y)(h:mJ bs){i:Nat}{m:YM}(k:y[i]?=some m){nm:au}(r:(m.1.1.toList==nm.toList)=true):
  ∃d gs,(eM bs).msg nm=some d/\jX w P (nM (y.map (·.1))) m.1.2 d.name gs/\rV (eM bs) (nM (y.map (·.1))) d gs/\kM (eM bs) d/\d.name.size<=2000:=by
 have n:(y.map (·.1)).map (·.1)=dZ bs:=by rw[bI];exact hM.names
 have e:m.1.1.toList=nm.toList:=by simpa using r
 have o:eC (dZ bs) nm=true:=(iH _ _).2 ⟨m.1.1,by rw[<-hM.names];exact aV.2 ⟨m,aO k,rfl⟩,e⟩;have⟨_,b,_,_,c,_,_⟩:=pV h.ok n o;have⟨j,a,l,_,u,z,_,A,B⟩:=qK hM h c;have f:((y.map (·.1)).map (·.1)).Pairwise (λx y=>x.toList≠y.toList):=(by rw[n,iM];exact List.Pairwise.sublist (List.Sublist.map _ dw) h.ok.names);have p:m.1.1=a.1.1:=ja (e.J z.sy);have g:=qB f (s:=m.1.1) (b:=m.1.2) (aV.2 ⟨m,aO k,rfl⟩);have q:=qB f (s:=a.1.1) (b:=a.1.2) (aV.2 ⟨a,aO l,rfl⟩);rw[p,q]at g;have⟨_,_,_,_,_,t⟩:=(Dr hM h).md nm _ c;exact⟨_,a.2,c,by rw[<-Option.some.inj g,<-u];exact hM.msg a (aO l),A,B,t⟩
end
def lh (w:aw)(kp mk:Nat)(S:eE)(mp:am)(X:ax):Prop:=∃N pm,uO kp mk 0 S mp w N pm [] X
def lh.still {kp mk E B:Nat}{S:eE}{mp:am}{Y Z:ax}(g:kp<E)(hm:mk<E):Dm E B λw=>lh w kp mk S mp λb=>(Y b/\b<E)\/(B<=b/\¬Z b):=by
 rintro a b ⟨N,pm,h⟩ _ c;refine⟨N,pm,(c kp (.inl g) h.kb.lt).J h.kb,h.mb.O (c mk (.inl hm) h.mb.lt),h.ne,h.ct,h.inj,λt p j=> ?_⟩;rcases h.pl t p j with⟨e,_⟩|⟨d,f,e,k,l⟩;.cases e
 .exact .inr ⟨d,f,e,k,l.O (λx q i=>c x (q.2.2.2.imp And.right And.left) i) (λ_ _ q=>q)⟩
def lh.less {w:aw}{kp mk:Nat}{S:eE}{mp:am}{X Y:ax}(h:lh w kp mk S mp X)(a:∀b,X b->b<w.heap.size->Y b):lh w kp mk S mp Y:=by
 obtain⟨N,pm,h⟩:=h;exact⟨N,pm,h.less a⟩
def Ih (MK:ui)(w:aw)(sb kp mk:Nat)(v:Value)(bs:List dS)(y:List YM)(P:ax)(nm b:au)(h1:dP w sb #[v,ag kp] 92)(j:gH w P v bs y)(h:mJ bs)(S:UOK w)(Q:b.size<=268435456)
  (Y:ax) (d:lh w kp mk (eM bs) (nM (y.map (·.1))) Y) (K:∀x,P x->Y x) (L:∀x,P x->x≠mk/\x≠kp) (k:sb≠mk/\sb≠kp) (n:2≠mk/\2≠kp) (r:3≠mk/\3≠kp):
  S9 21 #[ag sb,aa 2,ae nm,ae b] w (lJ [mk,kp] (λZ w'=>lh w' kp mk (eM bs) (nM (y.map (·.1))) λx=>(Y x/\x<w.heap.size)\/(w.heap.size+9<=x/\¬Z x)) w (kO (eM bs) nm b)):=by
 have⟨N,pm,g⟩:=id d;have H:=g.kb.lt;have I:=g.mb.lt;have W:∀Z:ax,Dm w.heap.size (w.heap.size+9) λw'=>lh w' kp mk (eM bs) (nM (y.map (·.1))) λx=>(Y x/\x<w.heap.size)\/(w.heap.size+9<=x/\¬Z x):=λ_=>lh.still H I
 have J:∀x∈ [mk,kp],x<w.heap.size:=λx c=>by
  simp only[aR,cp,or_false]at c;rcases c with rfl|rfl;.exact I
  .exact H
 have o:∀x,x≠mk->x≠kp->x∉ [mk,kp]:=λx h1 a=>by simp[h1,a]
 refine Af _ w J W rfl (d.less λx T a=> .inl ⟨T,a⟩) sb v _ bs y P nm b 2 h1 j (Ag j h) (.inr rfl) (λe=> ?_) (λi m w0 G M U V f l O R u p t z A=> ?_);.unfold kO;rw[Dn j e]
 .have X:gH w (λx=>P x/\x<w.heap.size) v bs y:=j.V λx q a=>⟨q,a⟩
  have⟨d,F,B,C,D,g4,E⟩:=Ig X h f l;have e:kO (eM bs) nm b=fj (eM bs) b (b.size+1) d PM.none 0 b.size 1:=by unfold kO;rw[B]
  rw[e];have s:∀q,w.heap.size<=q->q∉ [mk,kp]:=λq i c=>by have:=J q c;omega
  have e:=qi B;refine Pr J W _ w0 O.size R G M U V m.1.2 sb kp v b p t z A (h1.G O h1.lt) ⟨s _ u.1,s _ u.2.1,s _ u.2.2.1,s _ u.2.2.2,o sb k.1 k.2⟩ λw1 l f=> ?_
  have f:aj w w1:=dL O l;have k:gH w1 P v bs y:=j.O λx _ a=>f.block x a
  have l:∀x,(P x/\x<w.heap.size)->x<w.heap.size/\x≠mk/\x≠kp:=λx q=>⟨q.2,L x q.1⟩
  have p:=(Dr X h).O (w':=w1) λx q _=>f.block x q.2
  have j:Cb kp mk w.heap.size 0 (eM bs) (nM (y.map (·.1))) (λx=>P x/\x<w.heap.size) w1 N pm [] λx=>(Y x/\x<w.heap.size)\/w.heap.size+9<=x:=
   ⟨(g.less λx T a=> .inl ⟨T,a⟩).O (λx a=>f.block x a),p,f.size,Tf,λx c=> .inl ⟨K x c.1,c.2⟩,λx c=> .inr Te,l,H,I⟩
  refine(RN kp mk w.heap.size (eM bs) (nM (y.map (·.1))) _ MK w1 N pm m.1.2 d F _ j (by rw[e];exact B) (C.O λx q _=>f.block x q.2) D E).V ?_;rintro m w2 ⟨p,c,E,rfl,j,l,g,A⟩;refine⟨p,rfl,A,λZ M=>⟨c,E,l.less λx q a=>q.imp id λq=>⟨q,λz=>by have:=M x z;omega⟩⟩,?_⟩;have g:gH w2 P v bs y:=k.O λx q a=>A.block x a (o x (L x q).1 (L x q).2)
  have D:UOK w1:=S.O (f.block _ S.lt1) (f.block _ S.lt2);have c:UOK w2:=D.O (A.block _ D.lt1 (o _ n.1 n.2)) (A.block _ D.lt2 (o _ r.1 r.2));have f:=Ku g h c
  have c:Bi w2 (λx=>x<w2.heap.size) (eM bs) (nM (y.map (·.1))) E:=λt q i=>by
   rcases l.pl t q i with⟨z,_⟩|⟨K,F,C,U,V⟩;.cases z
   .exact⟨K,F,C,V.mV (.V λx _ a=>a) (λ_ _ q=>q),U⟩
  have⟨K,F,C,U,V⟩:=c _ _ j;obtain rfl:d=K:=(by rw[e,B]at C;exact Option.some.inj C);refine Px (eM bs) b w2 d p λw3 Z rb g G j i M a e=> ?_
  exact EW (eM bs) (nM (y.map (·.1))) E w2.heap.size b (Nr h) Q (b.size+1) w3 Z d PM.none 0 b.size 1 7 p F rb g (f.on G) (c.O λx q _=>G.block x q) (U.O (λx q _=>G.block x q) (λ_ _ q=>q)) V g4 j i M a e (aM _) (aD _) Te rfl (WM.none _ _ _)
section
variable {bs:List dS} {w w':aw} {ks:aB} {K:(ax)->aw->Prop} {R:Fx PM} {e:Ending}
def sd (w:aw)(sb kp mk:Nat)(bs:List dS)(P:ax):Prop:=
 ∃v y,dP w sb #[v,ag kp] 92/\(P sb/\P kp/\P mk/\sb≠kp/\sb≠mk)/\gH w (λb=>P b/\b≠sb/\b≠kp/\b≠mk) v bs y/\lh w kp mk (eM bs) (nM (y.map (·.1))) P
theorem EX (h:mJ bs):(eM bs).ms.length<=2001:=by
 show((gm bs).map oV).length<=2001;rw[bm];exact aL (bZ _ _) h.ok.few
theorem EP.toP {sb kp mk:Nat}{lo:Nat}(h:EP w sb kp mk bs lo)(m:mJ bs):sd w sb kp mk bs λb=>lo<=b:=by
 obtain⟨v,y,j,⟨c,d,e,f,g,i⟩,k,a⟩:=h;refine⟨v,y,j,⟨c,d,e,f,g⟩,k,0,λ_=>none,a.1,a.2,i,?_,λ_ _ _ q=>(by cases q),λ_ _ q=>(by cases q)⟩;have:=EX m;have l:nU (eM bs) (λ_=>none)<=(eM bs).ms.length:=bZ _ _;omega
section
variable {w w':aw} {sb kp mk:Nat} {bs:List dS} {P P':ax}
theorem sd.O (h:sd w sb kp mk bs P)(hk:∀b,P b->b<w.heap.size->w'.heap[b]?=w.heap[b]?):sd w' sb kp mk bs P:=by
 obtain⟨v,y,f,c,i,N,pm,a⟩:=h;refine⟨v,y,(hk _ c.1 f.lt).J f,c,i.O (λb q e=>hk b q.1 e),N,pm,(hk _ c.2.1 a.kb.lt).J a.kb,a.mb.O (hk _ c.2.2.1 a.mb.lt),a.ne,a.ct,a.inj,λt p j=> ?_⟩;rcases a.pl t p j with⟨q,_⟩|⟨d,g,k,l,m⟩;.cases q
 .exact .inr ⟨d,g,k,l,m.O (λb q e=>hk b q.2.2.2 e) (λ_ _ q=>q)⟩
theorem sd.less (h:sd w sb kp mk bs P)(hp:∀b,P b->b<w.heap.size->P' b):sd w sb kp mk bs P':=by
 obtain⟨v,y,c,⟨d,e,f,g,i⟩,j,N,pm,a⟩:=h;exact⟨v,y,c,⟨hp _ d c.lt,hp _ e a.kb.lt,hp _ f a.mb.lt,g,i⟩,j.V λb q k=>⟨hp b q.1 k,q.2⟩,N,pm,a.less hp⟩
end
theorem lJ.imp {K':(ax)->aw->Prop}(h:lJ ks K w R e w')(d:∀Z,(∀b,Z b->w.heap.size<=b)->dY ks w w'->K Z w'->K' Z w'):lJ ks K' w R e w':=by
 cases R with
 |error x=>exact⟨h.1,h.2.1,d _ (λ_ q=>q.elim) h.2.1 h.2.2⟩
 |ok m=>
  obtain⟨v,f,g,i,a,c,j⟩:=h;exact⟨v,f,g,i,a,c,d _ (λb q=>(a b q).1) c j⟩
theorem Gp.toK (h:Gp w R e w')(b:∀Z,aj w w'->K Z w'):lJ ks K w R e w':=by
 cases R with
 |error x=>exact⟨h.1,.oB h.2,b _ h.2⟩
 |ok m=>
  obtain⟨v,c,d,f,g,a⟩:=h;exact⟨v,c,d,f,g,.oB a,b _ a⟩
theorem Ah (MK:ui)(w:aw)(sb kp mk:Nat)(bs:List dS)(P:ax)(nm b:au)(way:Int)(s:sd w sb kp mk bs P)(h:mJ bs)(t:UOK w)(d:b.size<=268435456)(B:way=1\/way=2)(f:¬P 2)(g:¬P 3):
  S9 21 #[ag sb,aa way,ae nm,ae b] w (lJ [mk,kp] (λZ w'=>sd w' sb kp mk bs λx=>(P x/\x<w.heap.size)\/(w.heap.size<=x/\¬Z x)) w (kO (eM bs) nm b)):=by
 have⟨v,y,c,⟨u,i,j,k,l⟩,m,o⟩:=id s;rcases B with rfl|rfl;.exact(Id w sb v _ bs y _ nm b c m h t d).V λe w' q=>q.toK λZ z=>(s.less (P':=λx=>(P x/\x<w.heap.size)\/(w.heap.size<=x/\¬Z x)) λx q a=> .inl ⟨q,a⟩).O λx _ a=>z.block x a
 .have n:mk<w.heap.size/\kp<w.heap.size:=(by obtain⟨_,_,p⟩:=o;exact⟨p.mb.lt,p.kb.lt⟩);refine(Ih MK w sb kp mk v bs y _ nm b c m h t d _ o (λx q=>q.1) (λx q=>⟨q.2.2.2,q.2.2.1⟩) ⟨l,k⟩ ⟨λe=>f (e▸j),λe=>f (e▸i)⟩ ⟨λe=>g (e▸j),λe=>g (e▸i)⟩).V λe w' q=>q.imp λZ F C A=> ?_
  have r:∀x,x≠kp->x≠mk->x<w.heap.size->w'.heap[x]?=w.heap[x]?:=λx D E a=>C.block x a (by simp[D,E])
  refine⟨v,y,(r sb k l c.lt).J c,⟨.inl ⟨u,c.lt⟩,.inl ⟨i,n.2⟩,.inl ⟨j,n.1⟩,k,l⟩,(m.V (Q:=λx=>(P x/\x≠sb/\x≠kp/\x≠mk)/\x<w.heap.size) λx q a=>⟨q,a⟩).O (λx q a=>r x q.1.2.2.1 q.1.2.2.2 a)|>.V λx q _=>⟨.inl ⟨q.1.1,q.2⟩,q.1.2⟩,?_⟩;exact A.less λx q _=>q.imp id λq=>⟨Te,q.2⟩
end
end
def mE.V {w:aw}{P Q:ax}(a:∀b,P b->b<w.heap.size->Q b):∀{ms:List MT} {cs:ay},mE w P cs ms->mE w Q cs ms
 | [],_,h=>h
 |_::_,_,⟨fv,rest,h1,h2,h3⟩=>⟨fv,rest,h1,d5.V h2 a,mE.V a h3⟩
def iE.V {w:aw}{P Q:ax}{sb:Nat}{S:eE}(h:iE w P sb S)(a:∀b,P b->b<w.heap.size->Q b):iE w Q sb S:=by
 have⟨j,d,cs,c,e,f,g,i⟩:=h.at_;exact⟨j,d,cs,c,a sb e c.lt,f.V a,g.V a,i.V a⟩
def DR:Fx PM->PM| .ok m=>m| .error _=>PM.none
def N9:Fx PM->Int| .ok _=>0| .error x=>x.1
def Oa:Fx PM->Int| .ok _=>0| .error x=>x.2
def Ob (S:eE)(nm b:au):mZ 9 (DR (kO S nm b))<=8*b.size+1:=by
 cases h:kO S nm b with
 |error x=>exact Nat.le_add_left _ _
 |ok m=>exact Rc S nm b 9 m h
def lJ.ans {ks:aB}{K:(ax)->aw->Prop}{w:aw}{R:Fx PM}{e:Ending}{w':aw}(h:lJ ks K w R e w'):
  ∃v Z,e= .returned (.tuple #[.agg #[v,ae (DR R).unk],aa (N9 R),aa (Oa R)])/\lR 9 w' v (DR R) Z/\(∀b,Z b->w.heap.size<=b/\b<w'.heap.size)/\dY ks w w'/\K Z w':=by
 cases R with
 |error x=>exact⟨_,λ_=>False,h.1,lR.none 8 w' _,λ_ q=>q.elim,h.2⟩
 |ok m=>exact h
def Lt.ans {w:aw}{R:Fx PM}{e:Ending}{w':aw}(h:Lt w R e w'):∃v Z,e= .returned (.tuple #[.agg #[v,ae (DR R).unk],aa (N9 R),aa (Oa R)])/\gQ 9 w' Z v (DR R)/\aj w w':=by
 cases R with
 |error x=>exact⟨_,λ_=>False,h.1,(lR.none 8 w' _).toIn,h.2⟩
 |ok m=>exact h
structure Cf where
 sb:Nat
 kp:Nat
 mp:Nat
 rb:Nat
 bs:List dS
def pj (w:aw)(c:Nat->Nat)(l:List Cf):Prop:=∀(i:Nat) (t:Cf),l[i]?=some t->(∃x,gI x= .ok t.bs)/\sd w t.sb t.kp t.mp t.bs (λb=>c b=i+2)/\iE w (λb=>c b=1) t.rb (eM t.bs)
def pj.O {w w':aw}{c:Nat->Nat}{l:List Cf}(h:pj w c l)(a:∀b,c b≠0->b<w.heap.size->w'.heap[b]?=w.heap[b]?):pj w' c l:=λi t g=>by
 have⟨d,e,f⟩:=h i t g;exact⟨d,e.O λb q=>a b Te,f.O λb q=>a b Te⟩
def pj.G {w w':aw}{c:Nat->Nat}{l:List Cf}(h:pj w c l)(a:aj w w'):pj w' c l:=h.O λb _ d=>a.block b d
def pj.named {w:aw}{c c':Nat->Nat}{l:List Cf}(h:pj w c l)(d:∀b,b<w.heap.size->c b≠0->c' b=c b):pj w c' l:=λi t j=>by
 have⟨e,f,g⟩:=h i t j;exact⟨e,f.less λb q a=>by rw[d b a Te];exact q,g.V λb q a=>by rw[d b a Te];exact q⟩
structure Iy (w:aw)(c:Nat->Nat)(l:List Cf)(bb N:Nat)(w':aw)(c':Nat->Nat):Prop where
 tw:pj w' c' l
 bk:vF w' bb N (λb=>c' b=0)
 nm:∀b,b<w.heap.size->c' b=c b
 ch:nJ w (λb=>c b≠1) w'
def Iy.J {w w1 w2:aw}{c c1 c2:Nat->Nat}{l:List Cf}{bb N M:Nat}(h:Iy w c l bb N w1 c1)(k:Iy w1 c1 l bb M w2 c2):Iy w c l bb M w2 c2:=
 ⟨k.tw,k.bk,λb a=>(k.nm b (aI a h.ch.size)).J (h.nm b a),h.ch.J k.ch λx d q=>by rw[<-h.nm x d];exact q⟩
def Iy.oB {w w':aw}{c:Nat->Nat}{l:List Cf}{bb N M:Nat}(e:pj w c l)(d:vF w bb N λb=>c b=0)(a:aj w w')(g:N<=M):Iy w c l bb M w' c:=
 ⟨e.G a,(d.O λb _ f=>a.block b f).less (λ_ q _=>q) g,λ_ _=>rfl,.oB a⟩
def Oc {w w0 w1 w5 w6:aw}{c:Nat->Nat}{l:List Cf}{bb M i:Nat}{t:Cf}{Z:ax}(y:pj w c l)(z:l[i]?=some t)(g:aj w w0)(k:dY [t.mp,t.kp] w0 w1)(H:sd w1 t.sb t.kp t.mp t.bs λx=>(c x=i+2/\x<w0.heap.size)\/(w0.heap.size<=x/\¬Z x))
  (s:∀b,Z b->w0.heap.size<=b/\b<w1.heap.size) (d:aj w1 w5) (F:vF w6 bb M λb=>(c b=0/\b<w.heap.size)\/Z b\/w5.heap.size<=b) (f:nJ w5 (λb=>(c b=0/\b<w.heap.size)\/Z b) w6):
  ∃c',Iy w c l bb M w6 c':=by
 classical
 have A:c t.mp=i+2/\c t.kp=i+2:=(by have⟨_,_,_,⟨_,C,D,_⟩,_⟩:=(y i t z).2.1;exact⟨D,C⟩);have G:=g.size;have I:=k.size;have J:=d.size;have K:=f.size
 have v:∀b,b<w.heap.size->c b≠i+2->c b≠0->w6.heap[b]?=w.heap[b]?:=λb o n r=>by
  rw[f.block b Te (λq=>q.elim (λq=>r q.1) (λq=>by have:=s b q;omega)),d.block b Te,k.block b Te (by simp only[aR,cp,or_false];rintro(rfl|rfl);exact n A.1;exact n A.2),g.block b o]
 have p:∀b,b<w.heap.size->(if b<w0.heap.size then c b else if Z b then 0 else if b<w5.heap.size then i+2 else 0)=c b:=λb o=>dH Te
 refine⟨λb=>if b<w0.heap.size then c b else if Z b then 0 else if b<w5.heap.size then i+2 else 0,λj u B=> ?_,F.less (λb q a=> ?_) (aD _),p,?_⟩
 .have⟨n,r,E⟩:=y j u B;refine⟨n,?_,((E.V (Q:=λb=>c b=1/\b<w.heap.size) λb q a=>⟨q,a⟩).O λb q a=>v b a Te Te).V λb q _=>(p b q.2).J q.1⟩;by_cases hj:j=i
  .subst hj;obtain rfl:t=u:=Option.some.inj (z.sy.J B);refine((H.less (P':=λx=>((c x=j+2/\x<w0.heap.size)\/(w0.heap.size<=x/\¬Z x))/\x<w1.heap.size) λb q a=>⟨q,a⟩).O λb q a=> ?_).less λb q _=> ?_
   .rw[f.block b Te (λe=> ?_),d.block b a];rcases q.1 with q|q
    .rcases e with e|e;.omega
     .have:=s b e;omega
    .rcases e with e|e;.omega
     .exact q.2 e
   .show(if b<w0.heap.size then c b else if Z b then 0 else if b<w5.heap.size then j+2 else 0)=j+2;rcases q.1 with m|m;.rw[dH m.2];exact m.1
    .rw[dG Te,dG m.2,dH Te]
  .exact((r.less (P':=λb=>c b=j+2/\b<w.heap.size) λb q a=>⟨q,a⟩).O λb q a=>v b a Te Te).less λb q _=>(p b q.2).J q.1
 .show(if b<w0.heap.size then c b else if Z b then 0 else if b<w5.heap.size then i+2 else 0)=0;rcases q with q|q|q;.rw[dH Te];exact q.1
  .rw[dG (by have:=s b q;omega),dH q]
  .rw[dG Te];split;.rfl
   .exact dG Te
 .refine⟨f.os.J (d.os.J (k.os.J g.os)),f.tape.J (d.tape.J (k.tape.J g.tape)),f.output.J (d.output.J (k.output.J g.output)),Te,λb o q=> ?_⟩
  have m:c b=1:=by
   by_cases h:c b=1;.exact h
   .exact absurd h q
  exact v b o Te Te
section
open Go.Maps
def Oe (w:aw)(p:GOK w)(a:BOK w):S9 12 #[] w λe w'=>(∃sb kp mk bs,e= .returned (ag sb)/\gI OM= .ok bs/\sd w' sb kp mk bs λb=>w.heap.size<=b)/\aj w w':=by
 obtain⟨bs,c,q⟩:=DT;have d:=c5 w OM Th p a;rw[c]at d;go_enter func12,ntmps12;go_wp2_with fail;refine d.V ?_;rintro e w1 ⟨⟨sb,kp,mk,rfl,h⟩,k⟩;have j:=h.toP (qb c);have i:=h.toAt;rw[q]at i;go_wp2_with fail;refine(c7 _ sb _ _ Th i).V ?_;rintro e w2 ⟨v',rfl,f,l⟩;obtain⟨r,t,s,rfl⟩:=dO f;have n:=dF (base:=0) (e:=9) (size:=1) w2 #[ae ⟨#[65]⟩] 1 (aM _) Tl rfl;go_wp2_with fail;refine(c9 _ _ _ _ _ [⟨#[65]⟩] Th (f.alloc _) n).V ?_;rintro e w3 ⟨rfl,m⟩;go_wp2;go_ret;have g:=dL (dL l ((Below.refl _ w2).alloc (aD _) (ak #[ae ⟨#[65]⟩] 9))) m;exact⟨⟨sb,kp,mk,bs,rfl,c,j.O λb _ o=>g.block b o⟩,dL k g⟩
def Qf (w:aw)(way:Int):S9 143 #[aa way] w λe w'=>e= .returned (.bool (decide (way=1\/way=2)))/\w'=w:=by
 by_cases h1:way=1;.subst h1;go_enter func143,ntmps143;go_wp2;go_ret;exact⟨rfl,rfl⟩
 .by_cases h2:way=2;.subst h2;go_enter func143,ntmps143;go_wp2;go_ret;exact⟨rfl,rfl⟩
  .have e:decide (way=1\/way=2)=false:=by simp[h1,h2]
   rw[e];clear e;have f1:(way==1)=false:=by simp[h1]
   have f2:(way==2)=false:=by simp[h2]
   go_enter func143,ntmps143;go_wp2;go_ret;exact⟨rfl,rfl⟩
def Qg (w:aw)(c:Int)(n:Nat)(m:0<n)(h1: -9223372036854775808<=c)(k:c<=9223372036854775807)(i:n<=1099511627776):
  S9 16 #[aa c,aa n] w λe w'=>(∃r:Nat,e= .returned (aa r)/\r<n)/\w'=w:=by
 have j:¬(n:Int)=0:=Te
 have jI:∀d:Int,0<=d->∃r:Nat,d.tmod n=r/\r<n:=λd h=>by
  have f:=Int.tmod_nonneg (a:=d) n h;have l:=Int.tmod_lt_of_pos d (b:=n) Te;exact⟨(d.tmod n).toNat,Te,Te⟩
 by_cases hc:c<0;.have⟨r,g,f⟩:=jI (-(c+1)) Te;go_enter func16,ntmps16;go_wp2;go_ret;exact⟨⟨r,rfl,f⟩,rfl⟩
 .have⟨r,g,f⟩:=jI c Te;go_enter func16,ntmps16;go_wp2;go_ret;exact⟨⟨r,rfl,f⟩,rfl⟩
def Iz (w:aw)(sb:Nat)(nm b:au)(way:Int)(q:¬way=1)(d:¬way=2):
  S9 21 #[ag sb,aa way,ae nm,ae b] w λe w'=>e= .returned (.tuple #[.agg #[ah,S8],aa 4,aa 0])/\aj w w':=by
 have g:∀W:aw,S9 44 #[ag sb,aa way,ae nm] W λe w'=>e= .returned (.tuple #[.pointer none,aa 4])/\w'=W:=λW=>by
  have f1:(way !=1)=true:=by simp[q]
  have f2:(way !=2)=true:=by simp[d]
  go_enter func44,ntmps44;go_wp2;go_ret2;exact⟨rfl,rfl⟩
 have n:∃a,(((w.S6 #[ag sb] 22).S6 #[aa way] 3).S6 #[ae b] 9).S6 #[ah,S8] 49=a:=⟨_,rfl⟩;obtain⟨a,c⟩:=n;have f:aj w a:=by rw[<-c];exact((((Below.refl _ _).alloc (aD _) _).alloc Tf _).alloc Tg _).alloc Tg _
 have l:dP a w.heap.size #[ag sb] 22:=by rw[<-c];exact(((dP.new w _ _).alloc _).alloc _).alloc _
 have m:dP a (w.heap.size+1) #[aa way] 3:=by rw[<-c];exact((dP.newAt Tf _ _).alloc _).alloc _
 have k:dP a (w.heap.size+1+1+1) #[ah,S8] 49:=by rw[<-c];exact dP.newAt Tf _ _
 have h:=g a;have⟨s,t⟩:=l.I;have⟨u,v⟩:=m.I;clear g;go_enter func21,ntmps21;go_wp2_with fail;refine h.V ?_;clear h c;rintro e w1 ⟨rfl,rfl⟩;have i:=k.alloc (ak #[.pointer none] 105);have j:=f.alloc f.size (ak #[.pointer none] 105);have⟨o,r⟩:=i.I;go_wp2;exact dJ (qJ results21 _ _ rfl ((i.set 0 _).set 1 _) underlying49 Tj) rfl ⟨rfl,(j.setCell (p:=(ai (w.heap.size+1+1+1) 0)) (by show _<=w.heap.size+1+1+1;omega) _).setCell (p:=(ai (w.heap.size+1+1+1) 1)) (by show _<=w.heap.size+1+1+1;omega) _⟩
end
def yF {K:Fl}{y:Nat}(hm:(K.mar y).length=K.c):∀{i j r:Nat},i<j->r<K.c->(iV K j y)[i*K.c+r]?=(K.mar y)[r]?
 |0,j+1,r,_,hr=>by
  rw[iV,List.replicate_succ,List.flatten_cons,Nat.zero_mul,dg,bW Te]
 |i+1,j+1,r,hi,hr=>by
  have ih:=yF hm (i:=i) (j:=j) (r:=r) Te hr;rw[iV,List.replicate_succ,List.flatten_cons,cM (by rw[Nat.succ_mul];omega),hm];rw[show(i+1)*K.c+r-K.c=i*K.c+r by rw[Nat.succ_mul];omega];exact ih
def DW {w:aw}{T:TypeId}{k n:Nat}{v:Value}{xs:ay}(h:w.ownsRow 0 T k v n xs):n<=maxLen:=by
 rcases h.2 with⟨_,rfl⟩|⟨g,a,b,_,_,_,c,d,_⟩;.exact aM _
 .omega
def Oi (w:aw)(bb N:Nat)(D:ax)(h:vF w bb N D)(a:N<=68719476736):
  Calls prog 20 #[ag bb] w λe w'=>e= .returned (.bool true)/\aj w w':=by
 obtain⟨n,k,j,g,f,vs,d,fs,c,B,V,Q,Y,i,b,a⟩:=h;obtain⟨I,a,J,rfl⟩:=dO B.hv.xr.1;obtain⟨P,a,H,rfl⟩:=dO B.hv.nr.1;obtain⟨L,a,M,rfl⟩:=dO B.hf.xr.1;obtain⟨F,a,G,rfl⟩:=dO B.hf.nr.1;obtain rfl:=d9 B.hv.xr.1;obtain rfl:=d9 B.hv.nr.1;obtain rfl:=d9 B.hf.xr.1;obtain rfl:=d9 B.hf.nr.1;go_in
 go_wp2;go_loopw [3] (λi wr=>∃i':Nat,i'<=vs.length/\i=aa i'/\lL wr bb n D (.slice I vs.length J) (.slice P d.length H) (.slice L fs.length M) (.slice F c.length G) vs d fs c/\aj w wr) (λi _=>vs.length-(intOf i).toNat)
 case atStart=>exact⟨0,aM _,rfl,B,Below.refl _ _⟩
 case round=>
  obtain⟨i,hi,rfl,s,O⟩:=hrel;clear B;have⟨u,v⟩:=s.blk.I;by_cases hlt:i<vs.length
  .have S:(i:Int)<(vs.length:Int):=Te;have TC:(i:Int)<(d.length:Int):=by rw[V.o];omega
   have⟨x,p⟩:=gx hlt;have⟨y,f⟩:=gx (l:=d) (i:=i) (by rw[V.o];exact hlt);have TD:=Y.o.1 y (aO f);have t:Hid (vs[i]?=some x/\d[i]?=some y):=⟨p,f⟩;obtain⟨xa,a,xc,rfl⟩:=dO (s.hv.en i x y p f).1;obtain⟨B,rfl,_,_,C⟩:=dV s.hv.nr.1 (by rw[V.o];omega);have V:=C wr rfl i (aa y) (by simp[f]);have T:a<=maxLen:=DW (s.hv.en i _ y p f).1;unfold maxLen at T;clear C p f;go_wp2_with fail;refine(LZ wr y Te).V ?_;rintro e w2 ⟨rfl,W⟩;obtain⟨mk,R⟩:=Td (Ao y);rw[R];have Z:Hid (uw.mar y= [.int .u64 0,ae mk,ah,S8]):=by show _=_;rw[<-R];rfl
   have k:=s.G W;have z:=dL O W;clear R u v V s O W;go_wp2;go_loopw [5] (λi wr=>∃j:Nat,j<=a/\i=aa j/\lL wr bb n D (.slice I vs.length J) (Ta B d.length H) (.slice L fs.length M) (.slice F c.length G) vs d fs c/\aj w wr) (λi _=>a-(intOf i).toNat)
   case atStart=>exact⟨0,aM _,rfl,k,z⟩
   case round=>
    obtain⟨j,hj,rfl,b,A⟩:=hrel;clear k z;have⟨u,v⟩:=b.blk.I;obtain⟨g,rfl,_,_,E⟩:=dV b.hv.xr.1 Te;have q:=E wr rfl i _ t.o.1;clear E;by_cases hjl:j<a
    .have U:(j:Int)<(a:Int):=Te;obtain⟨g2,rfl,_,_,o⟩:=dV (b.hv.en i _ y t.o.1 t.o.2).1 (show 0<a by omega);have m:=λr X=>yF (K:=uw) (y:=y) (j:=a) rfl hjl (r:=r) X
     rw[Z.o]at m;have c0:=o wr rfl (j*4) _ (m 0 Th);have c1:=o wr rfl (j*4+1) _ (m 1 Th);have R:=o wr rfl (j*4+2) _ (m 2 Th);have R:=o wr rfl (j*4+3) _ (m 3 Th);have Z:=(Below.refl _ wr).alloc (aD _) (ak #[.int .u64 0,ae mk,ah,S8] 55);have R:=b.G Z;have W:=dL A Z;have Z:(mk.toList==mk.toList)=true:=Tf;clear m o;go_wp2;go_roundw
     case rel=>exact⟨j+1,Te,by go_num,R,W⟩
     case measure=>simp[intOf];omega
    .have U:¬(j:Int)<(a:Int):=Te;go_wp2;go_roundw
     case rel=>exact⟨i+1,Te,by go_num,b,A⟩
     case measure=>simp[intOf];omega
  .have S:¬(i:Int)<(vs.length:Int):=Te;go_wp2;go_loopw [7] (λi wr=>∃i':Nat,i'<=fs.length/\i=aa i'/\lL wr bb n D (.slice I vs.length J) (.slice P d.length H) (.slice L fs.length M) (.slice F c.length G) vs d fs c/\aj w wr) (λi _=>fs.length-(intOf i).toNat)
   case atStart=>exact⟨0,aM _,rfl,s,O⟩
   case round=>
    obtain⟨i,hi,rfl,k,z⟩:=hrel;clear s O u v;have⟨u,v⟩:=k.blk.I;by_cases hlt:i<fs.length
    .have S:(i:Int)<(fs.length:Int):=Te;have TC:(i:Int)<(c.length:Int):=by rw[Q.o];omega
     have⟨x,p⟩:=gx hlt;have⟨y,f⟩:=gx (l:=c) (i:=i) (by rw[Q.o];exact hlt);have TD:=Y.o.2 y (aO f);have t:Hid (fs[i]?=some x/\c[i]?=some y):=⟨p,f⟩;obtain⟨xa,a,xc,rfl⟩:=dO (k.hf.en i x y p f).1;have T:a<=maxLen:=DW (k.hf.en i _ y p f).1;unfold maxLen at T;clear p f;go_wp2;clear u v;go_loopw [8] (λi wr=>∃j:Nat,j<=a/\i=aa j/\lL wr bb n D (.slice I vs.length J) (.slice P d.length H) (.slice L fs.length M) (.slice F c.length G) vs d fs c/\aj w wr) (λi _=>a-(intOf i).toNat)
     case atStart=>exact⟨0,aM _,rfl,k,z⟩
     case round=>
      obtain⟨j,hj,rfl,b,A⟩:=hrel;clear k z;have⟨u,v⟩:=b.blk.I;obtain⟨g,rfl,_,_,E⟩:=dV b.hf.xr.1 Te;have q:=E wr rfl i _ t.o.1;obtain⟨B,rfl,_,_,C⟩:=dV b.hf.nr.1 (by rw[Q.o];omega);have V:=C wr rfl i (aa y) (by simp[t.o.2]);clear E C;by_cases hjl:j<a
      .have U:(j:Int)<(a:Int):=Te;obtain⟨g2,rfl,_,_,o⟩:=dV (b.hf.en i _ y t.o.1 t.o.2).1 (show 0<a by omega);have m:=λr X=>yF (K:=uZ) (y:=y) (j:=a) rfl hjl (r:=r) X
       have c0:=o wr rfl (j*2) _ (m 0 Th);have c1:=o wr rfl (j*2+1) _ (m 1 Th);clear m o;go_wp2;go_quiet (fail);go_wp2;go_roundw
       case rel=>exact⟨j+1,Te,by go_num,b.G (gN (Below.refl _ _) _),gN A _⟩
       case measure=>simp[intOf];omega
      .have U:¬(j:Int)<(a:Int):=Te;go_wp2;go_roundw
       case rel=>exact⟨i+1,Te,by go_num,b,A⟩
       case measure=>simp[intOf];omega
    .have S:¬(i:Int)<(fs.length:Int):=Te;go_wp2;go_loopw [9] (λi wr=>i=aa 0/\lL wr bb n D (.slice I vs.length J) (.slice P d.length H) (.slice L fs.length M) (.slice F c.length G) vs d fs c/\aj w wr) (λ_ _=>0)
     case atStart=>exact⟨rfl,k,z⟩
     case round=>
      obtain⟨rfl,b,A⟩:=hrel;clear k z u v;have⟨u,v⟩:=b.blk.I;go_wp2;go_ret;exact⟨rfl,A⟩
end Go.Proofs.YtfebdimolnobaaaGreatDoor
