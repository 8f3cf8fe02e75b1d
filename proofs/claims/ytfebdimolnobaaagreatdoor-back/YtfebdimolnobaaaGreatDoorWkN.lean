import Derived.Test.YtfebdimolnobaaaGreatDoorWkK
import Derived.Test.YtfebdimolnobaaaGreatDoorWkL
set_option maxRecDepth 100000
set_option maxHeartbeats 8000000
set_option linter.all false
namespace Go.Proofs.YtfebdimolnobaaaGreatDoor
open Go.RowKit Go.Proofs.Tryz
def uE {k:Nat}(hk:k<=15):fj k=true<->eJ k≠2:=by
 constructor;.intro h q;rcases BQ hk q with rfl|rfl<;>simp[fj]at h
 .intro h;unfold fj;by_cases h1:k=13;.subst h1;exact absurd rfl h
  .by_cases h2:k=14;.subst h2;exact absurd rfl h
   .simp;omega
def Cc (S:eD)(t:au):S.base t<=16:=by
 unfold eD.base;split;.rename_i k hk;have:=BL _ _ _ _ hk;have e:mZ.length=15:=Vg;omega
 .split<;>omega
def oO {S:eD}{mp:an}{d:MT}{f:fo}{g:GF}{k:Nat}(fg:FG S mp d f g):mf mp g k=true<->(k=fV S f\/(k=2/\f.isRep=true)):=by
 have Vu:=Cc S f.ty
 have hb:eJ (eI mp g)=fV S f:=by
  unfold eI fV eD.wire;rw[fg.map,fg.eq,fg.base];by_cases h:g.form=4;.simp[h];rfl
  .simp[h]
 unfold mf io;rw[hb,fg.rep];simp only[cM,aQ,beq_iff_eq,dQ];constructor
 .rintro(h|⟨h1,h2,h3⟩);.exact .inl Vc
  .exact .inr ⟨Vc,h2⟩
 .rintro(h|⟨h1,h2⟩);.exact .inl Vc
  .by_cases q:fV S f=2;.exact .inl Vc
   .refine .inr ⟨Vc,h2,?_⟩;have Vs:eI mp g=S.base f.ty:=by unfold eI;rw[dO Vc,fg.eq,fg.base]
    rw[hb.sy,Vs]at q;rw[Vs];have:S.base f.ty≠16:=λe=>q (by rw[e];rfl)
    exact(uE Vc).2 q
def Ce (w:aw)(B:Nat)(S:eD)(mp:an)(k:Nat)(d:MT)(f:fo)(g:GF)(fb:Nat)(Z:ax)(rb db:Nat)(b:au)(e a z deep F kn:Nat)(num:Int)(m:PM)
  (I:px w B S mp k d Z rb db b e a z deep m) (hfa:eZ w (λb=>b<B) mp g fb) (fg:FG S mp d f g) (hff:d9 d.fs f.num=some f) (hS:Fg S) (hkd:k+deep=8) (hgd:mg S d) (hRd:Ow S mp B b F) (hF:e-z<=F) (hfit:mf mp g kn=true):
  U8 133 #[ah fb,aa kn,ah rb,ah db] w (iD S k d w Z rb db (b.extract 0 e) deep (kx S b F d f m deep (fM (b.extract 0 e) a num kn z))):=by
 have hq:=(oO fg).1 hfit;have Vu:=Cc S f.ty;by_cases h4:g.form=4
 .have hm:f.isMap=true:=by rw[fg.map,h4];rfl
  obtain rfl:kn=2:=by
   rcases hq with h|⟨h,_⟩;.rw[h];unfold fV;rw[dP hm]
   .exact h
  exact Lw w B S mp k d f g fb Z rb db b e a z deep F num m I hfa fg hff hS h4 hkd hgd hRd hF
 .have hm:f.isMap=false:=by rw[fg.map];simp[h4]
  have Vq:fV S f=eJ (S.base f.ty):=by unfold fV eD.wire;rw[hm];rfl
  by_cases hb:S.base f.ty=16
  .obtain rfl:kn=2:=by
    rcases hq with h|⟨h,_⟩;.rw[h,Vq,hb];rfl
    .exact h
   have:=fg.nest.1 hb;have⟨sub,Vr⟩:=cn.1 this;have hM:DY S d f sub:=⟨by unfold fy;rw[hm];exact Vr,hm⟩;exact Lt w B S mp k d f g fb Z rb db b e a z deep F num m sub I hfa fg hff hS hM hkd hRd hF
  .have Vp:S.base f.ty<=15:=Vc;by_cases h2:g.form=2
   .refine Lr w B S mp k d f g fb Z rb db b e a z deep F num kn m I hfa fg h2 Vp hff ?_;rcases hq with h|⟨h,_⟩;.exact .inl (by rw[h,Vq])
    .by_cases q:eJ (S.base f.ty)=2;.exact .inl Vc
     .exact .inr ⟨Vc,q⟩
   .have Vv:f.isRep=false:=by rw[fg.rep];simp[h2]
    obtain rfl:kn=eJ (S.base f.ty):=by
     rcases hq with h|⟨_,h⟩;.rw[h,Vq]
     .rw[Vv]at h;cases h
    exact Ls w B S mp k d f g fb Z rb db b e a z deep F num m I hfa fg h4 h2 Vp hff
def FR {s:au}{a:Nat}{x:(Int×Int)×Nat}(h:jW s a= .ok x):∃kn:Nat,x.1.2=kn/\(kn=0\/kn=1\/kn=2\/kn=5)/\a<x.2/\x.2<=s.size:=by
 unfold jW at h
 cases hv:iT s a s.size with
 |error y=>rw[hv]at h;cases h
 |ok y=>
  rw[hv]at h;have⟨v0,v1,v2,v3⟩:=jj (m:=y.1) (z:=y.2) hv;simp only at h;split at h;.cases h
  .split at h
   .rename_i q;cases h;rcases q with q|q|q|q;.exact⟨0,q,.inl rfl,v2,v3⟩
    .exact⟨1,q,.inr (.inl rfl),v2,v3⟩
    .exact⟨2,q,.inr (.inr (.inl rfl)),v2,v3⟩
    .exact⟨5,q,.inr (.inr (.inr rfl)),v2,v3⟩
   .cases h
def uF {s:au}{a z:Nat}{num kind:Int}{r:pK}(h:fM s a num kind z= .ok r):r.num=num/\r.a=a:=by
 unfold fM at h;split at h;.cases hv:iT s z s.size<;>rw[hv]at h<;>cases h;exact⟨rfl,rfl⟩
 .split at h;.cases hv:jt s z 8<;>rw[hv]at h<;>cases h;exact⟨rfl,rfl⟩
  .split at h;.cases hv:jt s z 4<;>rw[hv]at h<;>cases h;exact⟨rfl,rfl⟩
   .cases hv:fk s z<;>rw[hv]at h<;>cases h;exact⟨rfl,rfl⟩
section
variable {S:eD} {b:au} {F a e deep z kn:Nat} {d:MT} {m:PM} {num:Int} {f:fo}
def sr (he:e<=b.size)(ht:jW (b.extract 0 e) a= .ok ((num,(kn:Int)),z)):fN b a e=fM (b.extract 0 e) a num kn z:=by
 rw[<-wG he,qW,ht]
def D3 (he:e<=b.size)(h:a<e)(ht:jW (b.extract 0 e) a= .ok ((num,(kn:Int)),z))(hk:kn=0\/kn=1\/kn=2\/kn=5)(hf:d9 d.fs num=some f)(hfit:kn=fV S f\/(kn=2/\f.isRep=true)):
  eW S b (F+1) d m a e deep=match kx S b F d f m deep (fM (b.extract 0 e) a num kn z)with| .error x=> .error x| .ok y=>eW S b F d y.1 y.2 e deep:=by
 have hr:=sr he ht
 cases hq:fM (b.extract 0 e) a num kn z with
 |error x=>
  rw[hq]at hr;rw[jk h hr]
  rfl
 |ok r=>
  rw[hq]at hr;have h1:=nC hk hq;have h2:=uF hq;rw[IX h hr (by rw[h2.1];exact hf) (by rw[h1];exact hfit)];simp only[kx];cases zO S b F d f m r deep<;>rfl
def Hu (hS:Fg S)(hb:b.size<=268435456)(hd:mg S d)(he:e<=b.size)(hw:WM S a d m)(ht:jW (b.extract 0 e) a= .ok ((num,(kn:Int)),z))(hk:kn=0\/kn=1\/kn=2\/kn=5)(hf:d9 d.fs num=some f)(hfit:kn=fV S f\/(kn=2/\f.isRep=true)){y:PM×Nat}
  (h:kx S b F d f m deep (fM (b.extract 0 e) a num kn z)= .ok y):WM S y.2 d y.1/\z<y.2/\y.2<=e:=by
 have hr:=sr he ht
 cases hq:fM (b.extract 0 e) a num kn z with
 |error x=>rw[hq]at h;cases h
 |ok r=>
  rw[hq]at hr h;have h1:=nC hk hq;have h2:=uF hq;have⟨h3,_,h4,_⟩:=qv hq;rw[gJ he]at h4;simp only[kx]at h
  cases hm:zO S b F d f m r deep with
  |error x=>rw[hm]at h;cases h
  |ok m2=>
   rw[hm]at h;cases h;refine⟨?_,h3,h4⟩;have Vt:d9 d.fs r.num=some f:=by rw[h2.1];exact hf
   unfold zO at hm;split at hm;.rename_i q;exact Ol hS.good hb hd hw hr he Vt q hm
   .rename_i q;have Vw:=hfit.resolve_left (λe=>q (by rw[h1];exact e))
    cases hp:mI S b f (m.get f.num) r.fr r.e with
    |error x=>rw[hp]at hm;cases hm
    |ok l=>
     rw[hp]at hm;cases hm;exact(Om hS.good hw hr Vt q (by rw[h1];exact Vw.1) hp).1
def uG (he:e<=b.size)(h:a<e)(ht:jW (b.extract 0 e) a= .ok ((num,(kn:Int)),z))(hk:kn=0\/kn=1\/kn=2\/kn=5)(hf:∀f,d9 d.fs num=some f->¬(kn=fV S f\/(kn=2/\f.isRep=true))):
  eW S b (F+1) d m a e deep=match lZ (b.extract 0 e) z kn with| .error x=> .error x| .ok y=>eW S b F d (m.O (b.extract a y.2)) y.2 e deep:=by
 have hr:=sr he ht;rw[qX (b.extract 0 e) a num kn z]
 cases hq:fM (b.extract 0 e) a num kn z with
 |error x=>
  rw[hq]at hr
  rw[jk h hr]
 |ok r=>
  rw[hq]at hr;have h1:=nC hk hq;have h2:=uF hq;rw[pu h hr (λf q=>by rw[h2.1]at q;have:=hf f q;rw[h1];exact⟨λe=>this (.inl e),λe=>this (.inr e)⟩),h2.2]
def D4 (he:e<=b.size)(h:a<e){x:Int×Int}(ht:jW (b.extract 0 e) a= .error x):eW S b (F+1) d m a e deep= .error x:=by
 refine jk h ?_;rw[<-wG he,qW,ht]
end
def wS {s:au}{z kn:Nat}{y:Unit×Nat}(h:lZ s z kn= .ok y):z<y.2/\y.2<=s.size:=by
 rw[qX s 0 0 kn z]at h
 cases hq:fM s 0 0 kn z with
 |error x=>rw[hq]at h;cases h
 |ok r=>
  rw[hq]at h;cases h;have⟨h1,_,h3,_⟩:=qv hq;exact⟨h1,h3⟩
section
open Vo
section
variable {w w':aw} {rb:Nat} {s:au} {deep:Int}
structure zW (S:eD)(k:Nat)(d:MT)(B:Nat)(w wr:aw)(Z Z':ax)(rb db:Nat)(b:au)(e deep F a:Nat)(m:PM)(P:Fx PM):Prop where
 st:eR w Z rb wr Z'
 rr:ee wr rb (b.extract 0 e) a deep
 dr:eM S (k+1) (some d) wr Z' db m
 hi:a<=e
 wm:WM S a d m
 fu:e-a<F
 eq:Hid (P=eW S b F d m a e deep)
 zz:∀x,Z' x->B<=x/\x<wr.heap.size
def PX (S:eD)(b:au)(F:Nat)(d:MT)(e deep:Nat):Fx (PM×Nat)->Fx PM
 | .error x=> .error x
 | .ok y=>eW S b F d y.1 y.2 e deep
def Lx (S:eD)(b:au)(F:Nat)(d:MT)(m:PM)(a e deep:Nat):Fx (Unit×Nat)->Fx PM
 | .error x=> .error x
 | .ok y=>eW S b F d (m.O (b.extract a y.2)) y.2 e deep
theorem Ku.part {r:Fx (Unit×Nat)}{e:Ending}(h:Ku w rb s deep r e w'):
  (∃x,r= .error x/\e=dY x.1 x.2/\ec [rb] w w')\/∃x,r= .ok x/\e= .returned (.tuple #[])/\ec [rb] w w'/\ee w' rb s x.2 deep:=by
 obtain⟨h1,h2⟩:=h
 cases r with
 |error x=>exact .inl ⟨x,rfl,h2,h1⟩
 |ok x=>exact .inr ⟨x,rfl,h2.1,h1,h2.2⟩
theorem iD.part2 {S:eD}{k:Nat}{d:MT}{Z:ax}{db:Nat}{deep:Nat}{R:Fx (PM×Nat)}{en:Ending}(h:iD S k d w Z rb db s deep R en w'):
  (∃x,R= .error x/\en=dY x.1 x.2/\∃Z',eR w Z rb w' Z')\/∃x,R= .ok x/\en= .returned (.tuple #[])/\∃Z',eR w Z rb w' Z'/\eM S (k+1) (some d) w' Z' db x.1/\ee w' rb s x.2 deep:=by
 cases R with
 |error x=>exact .inl ⟨x,rfl,h.1,h.2⟩
 |ok x=>exact .inr ⟨x,rfl,h.1,h.2⟩
theorem zX (S:eD)(mp:an)(B:Nat)(b:au)(hS:Fg S)(hbs:b.size<=268435456):∀F,Ow S mp B b F:=by
 intro F
 induction F using Nat.strongRecOn with
 |_ F ih=>
 intro w Z d m a e deep k mb gs nm rb db cx hM hG Wd hr hd hZ VI Wv Ww he hF Wx Wy;have VC:(b.extract 0 e).size=e:=gJ he;have VO:=cx.le;have Wl:rb<w.heap.size:=dX.lt hr;obtain⟨P,hP⟩:=Y9 (eW S b F d m a e deep);rw[hP];have O0:zW S k d B w w Z Z rb db b e deep F a m P:=⟨eR.refl _ _ _,hr,hd,Ww,Wy,hF,hP.sy,hZ⟩;clear hP;go_enter func83,ntmps83;go_wp2;go_loopw [9] (λ_ wr=>∃Z' a' m' F',F'<=F/\zW S k d B w wr Z Z' rb db b e deep F' a' m' P) (λ_ wr=>mB wr rb e)
 case atStart=>exact⟨Z,a,m,F,aE _,O0⟩
 case round=>
  obtain⟨Z',a',m',F',hFF,O⟩:=hrel;have VP:=sf wr rb _ a' deep O.rr;rw[VC]at VP;have hhi:=O.hi;have hfu:=O.fu;go_wp2_with fail;refine VP.V ?_;rintro en w4 ⟨rfl,q,rfl⟩;by_cases hlt:a'<e
  .have Wm:decide (a'<e)=true:=decide_eq_true hlt;obtain⟨F1,rfl⟩:∃F1,F'=F1+1:=⟨F'-1,Vc⟩;have VQ:ee (wr.drewN q) rb (b.extract 0 e) a' deep:=O.rr;have Wn:eM S (k+1) (some d) (wr.drewN q) Z' db m':=O.dr.O (λ_ _ _=>rfl);have VR:eR w Z rb (wr.drewN q) Z':=O.st.J (.oB (im (Below.refl _ _) q));have Wo:=Sr (wr.drewN q) rb _ a' deep VQ;have VS:=Kr (wr.drewN q) rb _ a' deep VQ Vc;have VT:∀x,Z' x->B<=x/\x<(wr.drewN q).heap.size:=O.zz;have Vu:¬Z' rb:=O.st.not Wl Wv;have HM:Hid (mB wr rb e=e-a'):=iy O.rr;have VD:∀x,Z x->B<=x:=λx q=>(hZ x q).1
   obtain⟨T,hT⟩:=Y9 (jW (b.extract 0 e) a');rw[hT]at VS;have HT:Hid (jW (b.extract 0 e) a'=T):=hT;clear hT;generalize wr.drewN q=w4 at*;go_wp2_with fail;refine Wo.V ?_;rintro en w5 ⟨rfl,rfl⟩;go_wp2_with fail;refine VS.V ?_;intro en w6 Wz;rcases Wz.part with⟨x,rfl,rfl,Vr⟩|⟨x,rfl,rfl,Vr,VJ⟩;.have HB:Hid (P= .error x):=(by show P=_;rw[O.eq.o,D4 he hlt HT.o]);unfold dY;go_wp2;rw[HB.o];exact⟨rfl,rfl,Z',VR.J (.oK Vr)⟩
   obtain⟨⟨num,kind⟩,z⟩:=x;have⟨kn,We,VK,Wf,VL⟩:=FR HT.o;simp only at We Wf VL VJ;subst We;rw[VC]at VL;have⟨B7,KT⟩:=d8 w6 #[aa num,aa kn] 237;have VU:ee (w6.alloc (am #[aa num,aa kn] 237)) rb (b.extract 0 e) z deep:=dX.alloc VJ _;have VV:=(VR.J (.oK Vr)).J (.oB B7);have Wp:=(eR.dr Wn Vr Vu).O (λx _ q=>B7.block x q);have Wq:Below B w (w6.alloc (am #[aa num,aa kn] 237)):=VV.G VO VD VI;have Ws:=At (w6.alloc (am #[aa num,aa kn] 237)) (λb=>b<B) mp mb nm gs num kn (hM.O (λx q _=>Wq.block x q)) hG.srt hG.len;have VW:∀x,Z' x->B<=x/\x<(w6.alloc (am #[aa num,aa kn] 237)).heap.size:=λx q=>⟨(VT x q).1,aI (aI (VT x q).2 Vr.size) B7.size⟩
   have⟨k1,k2⟩:=KT.I;have hrw:rb<w6.heap.size:=dX.lt VJ;go_wp2_with fail;generalize w6.alloc (am #[aa num,aa kn] 237)=w7 at*;generalize w6.heap.size=tb at*;refine Ws.V ?_;rintro en w8 ⟨Vv,B8⟩;have VX:ee w8 rb (b.extract 0 e) z deep:=dX.G VU B8 (dX.lt VU);have Vp:=VV.J (.oB B8);have VY:=Wp.O (λx _ q=>B8.block x q);have VZ:Below B w w8:=Vp.G VO VD VI;have V0:=KT.G B8 KT.lt;have V7:∀x,Z' x->B<=x/\x<w8.heap.size:=λx q=>⟨(VW x q).1,aI (VW x q).2 B8.size⟩
   have hul:=O.wm.len;clear k1 k2
   cases hfit:sY mp gs num kn with
   |some g=>
    rw[hfit]at Vv;obtain⟨fb,rfl,WA⟩:=Vv
    obtain⟨f,Vw,fg,Wh⟩:∃f,d9 d.fs num=some f/\FG S mp d f g/\mf mp g kn=true:=by
     unfold sY at hfit
     cases hfg:iI gs num with
     |none=>rw[hfg]at hfit;cases hfit
     |some g'=>
      rw[hfg]at hfit;simp only at hfit;split at hfit
      .cases hfit
       cases hf:d9 d.fs num with
       |none=>rw[hG.no num hf]at hfg;cases hfg
       |some f=>
        have⟨g2,q1,q2⟩:=hG.yes num f hf;rw[hfg]at q1;cases q1;exact⟨f,rfl,q2,Vm⟩
      .cases hfit
    have VE:f.num=num:=(fA Vw).1;have I:px w8 B S mp k d Z' rb db b e a' z deep m':=⟨cx.on VZ,VX,VY,V7,VI,Vu,Wf,VL,he,hbs,O.wm⟩;have V8:=Ce w8 B S mp k d f g fb Z' rb db b e a' z deep F1 kn num m' I WA fg (by rw[VE];exact Vw) hS Wx Wd (ih F1 Vc) Vc Wh;have hit:=(oO fg).1 Wh;obtain⟨R,hR⟩:=Y9 (kx S b F1 d f m' deep (fM (b.extract 0 e) a' num kn z));have HL:Hid (P=PX S b F1 d e deep R):=(by have h:=D3 (S:=S) (F:=F1) (deep:=deep) (d:=d) (m:=m') he hlt HT.o VK Vw hit;rw[hR]at h;show P=_;rw[O.eq.o,h];cases R<;>rfl);have HW:Hid (∀y,R= .ok y->WM S y.2 d y.1/\z<y.2/\y.2<=e):=λy hy=>Hu hS hbs Wd he O.wm HT.o VK Vw hit (hR.J hy)
    rw[hR]at V8;clear hR hfit;have⟨k1,k2⟩:=V0.I;go_wp2_with fail;refine V8.V ?_;intro en w9 VM;rcases VM.part2 with⟨x,rfl,rfl,Z9,Vx⟩|⟨y,rfl,rfl,Z9,Vx,VF,Vs⟩;.unfold dY;go_wp2;rw[HL.o];exact⟨rfl,rfl,Z9,Vp.J Vx⟩
    have⟨WB,WC,Vy⟩:=HW.o y rfl
    have O9:zW S k d B w w9 Z (λi=>Z9 i/\i<w9.heap.size) rb db b e deep F1 y.2 y.1 P:=
     ⟨(Vp.J Vx).clip,Vs,VF.clip,Vy,WB,Vc,HL,λx q=>⟨(Vx.grow x q.1).elim (λe=>(V7 x e).1) (λe=>by have:=VZ.size;omega),q.2⟩⟩
    clear k1 k2;go_wp2;go_roundw
    case rel=>exact⟨_,_,_,_,Vc,O9⟩
    case measure=>rw[HM.o,iy Vs];omega
   |none=>
    rw[hfit]at Vv;obtain rfl:en= .returned (.pointer none):=Vv
    have Wt:∀f,d9 d.fs num=some f->¬(kn=fV S f\/(kn=2/\f.isRep=true)):=λf hf hq=>by
     have⟨g,q1,q2⟩:=hG.yes num f hf;unfold sY at hfit;rw[q1]at hfit;simp only at hfit;rw[(oO q2).2 hq,dP rfl]at hfit;cases hfit
    have V9:=BK w8 rb _ z deep kn VX Vc Vc Vc;obtain⟨R,hR⟩:=Y9 (lZ (b.extract 0 e) z kn);have HL:Hid (P=Lx S b F1 d m' a' e deep R):=(by have h:=uG (S:=S) (F:=F1) (deep:=deep) (d:=d) (m:=m') he hlt HT.o VK Wt;rw[hR]at h;show P=_;rw[O.eq.o,h];cases R<;>rfl)
    have HW:Hid (∀y,R= .ok y->z<y.2/\y.2<=e):=λy hy=>by
     have:=wS (hR.J hy);rw[VC]at this;exact this
    rw[hR]at V9;clear hR hfit;have⟨k1,k2⟩:=V0.I;go_wp2_with fail;refine V9.V ?_;intro en w9 VM;rcases VM.part with⟨x,rfl,rfl,Vz⟩|⟨y,rfl,rfl,Vz,Vs⟩;.unfold dY;go_wp2;rw[HL.o];exact⟨rfl,rfl,Z',Vp.J (.oK Vz)⟩
    have⟨WC,Vy⟩:=HW.o y rfl;have Wb:=wA w9 rb _ y.2 deep a' Vs Vc Vc;have VF:=eR.dr VY Vz Vu;have hex:(b.extract 0 e).extract a' y.2=b.extract a' y.2:=kI he Vy;rw[hex]at Wb;clear k1 k2;go_wp2_with fail;refine Wb.V ?_;rintro en w10 ⟨rfl,VA,rfl⟩;have VG:eM S (k+1) (some d) (w9.drewN VA) Z' db m':=VF.O (λ_ _ _=>rfl);have Wu:=BX S k (some d) (w9.drewN VA) Z' db m' (b.extract a' y.2) VG (by rw[bg];omega);go_wp2_with fail;refine Wu.V ?_;rintro en VB ⟨rfl,Wk,Vt,VN⟩;have VH:ee (w9.drewN VA) rb (b.extract 0 e) y.2 deep:=Vs;have Vq:ee VB rb (b.extract 0 e) y.2 deep:=dX.step VH Vt Vu;have stA:eR w Z rb VB Wk:=((Vp.J (.oK Vz)).J (.oB (im (Below.refl _ _) VA))).J (.oS Vt)
    have O9:zW S k d B w VB Z (λi=>Wk i/\i<VB.heap.size) rb db b e deep F1 y.2 (m'.O (b.extract a' y.2)) P:=
     ⟨stA.clip,Vq,VN.clip,Vy,O.wm.O _ (by rw[bg];omega),Vc,HL,λx q=>⟨(stA.grow x q.1).elim (VD x) (λe=>Vc),q.2⟩⟩
    go_wp2;go_roundw
    case rel=>exact⟨_,_,_,_,Vc,O9⟩
    case measure=>rw[HM.o,iy Vq];omega
  .have Wm:decide (a'<e)=false:=decide_eq_false hlt;obtain rfl:a'=e:=Vc;have HE:Hid (P= .ok m'):=(by show P=_;rw[O.eq.o,iP hlt]);go_wp2;go_end0;rw[HE.o];exact⟨rfl,Z',O.st.J (.oB (im (Below.refl _ _) q)),O.dr.O (λ_ _ _=>rfl),O.rr⟩
end
end
end Go.Proofs.YtfebdimolnobaaaGreatDoor
